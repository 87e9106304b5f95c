import PyProof.Rows.All
import Wide.All
import OpenK.AllK
import Wide.FinOn
import Lean
import PyProof.EqAt
import PyProof.EqKinds
import PyProof.TupleCall
import PyProof.NeKinds
import PyProof.CompFree
import PyProof.CompUse
import PyProof.ConsumeWalk
import PyProof.SumWalkG
import PyProof.WalkInts
import KE.KSortTup
import KE.KDictOf
import PyProof.Dict
import PyProof.Rows.SortKeyStr
import PyProof.WalksEnum
import PyProof.EnumMake
import KE.KRevIter
import PyProof.Rows.SetFrom
import PyProof.Draws
import PyProof.TupleIter
import KE.KListMore
import PyProof.ListRange
import PyProof.FactsAll.tuple
import PyProof.DictWalks
import PyProof.DictItems
import PyProof.DictValues
import KE.KItemsList
import KE.KPairComp
import PyProof.StrWalks
import PyProof.StrBlockL
import PyProof.StrLawsFirst
import PyProof.StrLawsIn
import PyProof.StrLawsJoin
import KE.KIntText
import PyProof.ListNew
import PyProof.MinMaxWalk
import PyProof.Rows.CallKwBuiltin
import PySem.Challenge.RW_dosehouse_k70_logs_merged
set_option Elab.async false
set_option linter.all false
set_option maxRecDepth 100000
set_option maxHeartbeats 1000000
def Gaa:=@PySem.wpAny_bind
def Gab:=@PySem.wpAny_pure
def Gac:=@List.getElem?_eq_getElem
def Gad:=@PySem.Heap.get?_push_of_some
def Gae:=@if_neg
def Gaf:=@List.getElem?_eq_some_iff
def Gag:=@if_pos
def Gah:=@List.getElem?_set_ne
def Gai:=@Bool.false_eq_true
def Gaj:=@Option.map_eq_some_iff
def Gak:=@List.mem_cons_of_mem
def Gal:=@PyProof.Rows.wpS_bind
def Gam:=@PySem.Heap.lt_size
def Gan:=@PySem.Heap.get?_push_size
def Gao:=@List.size_toArray
def Gap:=@Array.getElem?_eq_getElem
def Gaq:=@Bool.and_eq_true
def Gar:=@List.length_map
def Gas:=@List.mem_cons
def Gat:=@List.all_eq_true
def Gau:=@Nat.le_refl
def Gav:=@List.mem_cons_self
def Gaw:=@PyProof.Rows.wpS_pure
def Gax:=@List.getElem?_map
def Gay:=@Bool.false_ne_true
def Gaz:=@List.mem_map
def GaA:=@Nat.ne_of_lt
def GaB:=@if_false
def GaC:=@Array.length_toList
def GaD:=@decide_eq_true
def GaE:=@decide_eq_false
def GaF:=@List.append_assoc
def GaG:=@Nat.lt_of_lt_of_le
def GaH:=@PySem.Heap.get?_update_self
def GaI:=@List.map_cons
def GaJ:=@Nat.zero_le
def GaK:=@List.mem_singleton
def GaL:=@List.length_append
def GaM:=@Array.getD_eq_getD_getElem?
def GaN:=@of_decide_eq_true
def GaO:=@List.mem_of_getElem?
def GaP:=@List.getElem?_take_of_lt
def GaQ:=@List.mem_append
def GaR:=@List.getElem_mem
def GaS:=@PySem.Heap.get?_update_other
def GaT:=@List.mem_range
def GaU:=@Array.getElem?_toList
def GaV:=@List.getElem?_eq_none
def GaW:=@List.lookup_cons
def GaX:=@PySem.wpAny_newObj_type
def GaY:=@PySem.Heap.SameBut.update
def GaZ:=@PySem.wpAny_setState_of
def Gba:=@Ne.symm
def Gbb:=@Nat.lt_or_ge
def Gbc:=@PySem.Obj.data_mapFields
def Gbd:=@List.getElem?_drop
def Gbe:=@List.take_append_drop
def Gbf:=@if_true
def Gbg:=@Nat.ne_of_gt
def Gbh:=@List.getElem?_append_left
def Gbi:=@PySem.wpAny_call_entry
def Gbj:=@List.getElem?_set_self
def Gbk:=@List.pairwise_cons
def Gbl:=@List.mem_append_right
def Gbm:=@List.perm_append_comm
def Gbn:=@Int.le_refl
def Gbo:=@List.getElem?_append_right
def Gbp:=@PySem.wpAny_holding
def Gbq:=@Int.toNat_natCast
def Gbr:=@PyProof.Rows.wpS_forRange
def Gbs:=@PySem.W.mg_none_of
def Gbt:=@Nat.lt_irrefl
def Gbu:=@Bool.or_eq_true
def Gbv:=@List.filter_cons
def Gbw:=@List.find?_cons
def Gbx:=@PySem.codeAny_builtin
def Gby:=@List.map_map
def Gbz:=@List.mem_of_mem_take
def GbA:=@PySem.sizeLine_eq
def GbB:=@Array.getElem?_eq_none
def GbC:=@List.Perm.append_right
def GbD:=@List.all_cons
def GbE:=@PySem.wpAny_setField
def GbF:=@PySem.W.kia_one
def GbG:=@List.nodup_cons
def GbH:=@List.length_cons
def GbI:=@PyProof.Rows.wpS_mono
def GbJ:=@Array.getElem?_eq_some_iff
def GbK:=@PySem.Heap.size_push
def GbL:=@List.drop_eq_getElem_cons
def GbM:=@PySem.wpAny_ite_split
def GbN:=@PySem.Obj.isFreed_of_fields
def GbO:=@List.mem_iff_getElem?
def GbP:=@PySem.F.slot_dict_itemiterator_next
def GbQ:=@Nat.le_trans
def GbR:=@Nat.lt_succ_self
def GbS:=@PySem.F.called_set
def GbT:=@Bool.not_true
def GbU:=@PySem.wpAny_mono
def GbV:=@PySem.F.slot_dict_keyiterator_next
def GbW:=@PySem.Around.under_plainId
def GbX:=@List.mem_of_mem_drop
def GbY:=@List.pairwise_singleton
def GbZ:=@PySem.wpAny_callSpecial?_slot
def Gca:=@List.append_nil
def Gcb:=@PyProof.Rows.wpS_modify
def Gcc:=@Array.toList_inj
def Gce:=@List.not_mem_nil
def Gcf:=@List.getElem_map
def Gcg:=@PySem.wpAny_isInstance
def Gch:=@List.mem_reverse
def Gci:=@List.drop_drop
def Gcj:=@List.Perm.append_left
def Gck:=@List.pairwise_iff_getElem
def Gcl:=@PySem.F.plain_extend_loop
def Gcm:=@List.mem_filter
def Gcn:=@beq_iff_eq
def Gco:=@Option.map_some
def Gcp:=@PySem.wpAny_updateSeq
def Gcq:=@PySem.wpAny_typeNameOfWhole_itemiter
def Gcr:=@List.map_append
def Gcs:=@Nat.lt_succ_of_lt
def Gct:=@PySem.wpAny_newList
def Gcu:=@List.eq_nil_of_length_eq_zero
def Gcv:=@PySem.wpAny_typeNameOfWhole_keyiter
def Gcw:=@List.getElem_of_mem
def Gcx:=@List.any_eq_true
def Gcy:=@List.drop_zero
def Gcz:=@PySem.wpAny_rule
def GcA:=@List.take_of_length_le
def GcB:=@List.find?_cons_of_neg
def GcC:=@Nat.le_of_lt
def GcD:=@PySem.wpAny_setField_rec
def GcE:=@Int.emod_lt_of_pos
def GcF:=@PyProof.Rows.F.plain_set_update_loop
def GcG:=@List.length_singleton
def GcH:=@PySem.W.mg_of
def GcI:=@PySem.wpAny_dictEntries
def GcJ:=@PySem.Obj.cls_mapFields
def GcK:=@Nat.le_of_lt_succ
def GcL:=@PySem.wpAny_typeNameOf_itemiter
def GcM:=@PySem.wpAny_of_eq
def GcN:=@List.nodup_nil
def GcO:=@List.take_take
def GcP:=@List.drop_length
def GcQ:=@PySem.wpAny_forIn_list
def GcR:=@PySem.wpAny_typeNameOf_keyiter
def GcS:=@PySem.SetTable.toList_insertAt
def GcT:=@List.filterMap_cons
def GcU:=@List.getElem?_replicate
def GcV:=@PySem.F.plainAttrs_list
def GcW:=@List.any_cons
def GcX:=@PyProof.Rows.listUpdate_at
def GcY:=@PySem.wpAny_attempt
def GcZ:=@PySem.plainId_quiet
def Gda:=@PySem.wpAny_dictEpoch
def Gdb:=@PySem.wpAny_specialOf
def Gdc:=@List.foldl_cons
def Gdd:=@Int.emod_nonneg
def Gde:=@Nat.le_succ
def Gdf:=@PySem.wpAny_truthy_bool
def Gdg:=@decide_eq_true_eq
def Gdh:=@List.ext_getElem?
def Gdi:=@Array.toList_push
def Gdj:=@PySem.F.slot_tuple_hash
def Gdk:=@Function.comp_def
def Gdl:=@PySem.wpAny_typeOf
def Gdm:=@PySem.wpAny_fieldsOf
def Gdn:=@PySem.wpAny_seqItems
def Gdo:=@PyProof.Rows.wpS_get
def Gdp:=@List.drop_take
def Gdq:=@PySem.builtinLookup_eq_fast
def Gdr:=@Nat.succ_pos
def Gds:=@Int.not_lt
def Gdt:=@List.ext_getElem
def Gdu:=@Nat.mod_lt
def Gdv:=@Array.toList_setIfInBounds
def Gdw:=@List.length_eraseIdx_of_lt
def Gdx:=@List.getD_eq_getElem?_getD
def Gdy:=@PySem.wpAny_passesOwn
def Gdz:=@Bool.eq_iff_iff
def GdA:=@PySem.Calls.call_function_entry
def GdB:=@Nat.min_eq_left
def GdC:=@List.mem_filterMap
def GdD:=@Nat.lt_of_le_of_lt
def GdE:=@Nat.eq_or_lt_of_le
def GdF:=@PySem.Code.quiet_builtin
def GdG:=@Array.forIn_toList
def GdH:=@PyProof.Rows.F.entry_set_update_loop
def GdI:=@Bool.and_false
def GdJ:=@PySem.wpAny_newTuple
def GdK:=@PySem.isSubtype_stop
def GdL:=@List.getElem?_cons_succ
def GdM:=@Option.some.injEq
def GdN:=@bne_self_eq_false
def GdO:=@PySem.wpAny_pyIter_slot
def GdP:=@List.nodup_append
def GdQ:=@Nat.lt_trichotomy
def GdR:=@PySem.eqIsQuiet_byValue
def GdS:=@PyProof.Rows.seqEpoch_at
def GdT:=@PySem.wpAny_field
def GdU:=@PySem.wpAny_isOneOf_itemiter
def GdV:=@List.findIdx?_eq_some_iff_getElem
def GdW:=@PySem.wpAny_handled
def GdX:=@Nat.add_assoc
def GdY:=@List.perm_middle
def GdZ:=@or_false
def Gea:=@List.length_replicate
def Geb:=@Array.getElem?_setIfInBounds_ne
def Gec:=@Array.mem_toList_iff
def Ged:=@PySem.codeAny_mono
def Gee:=@List.length_set
def Gef:=@List.length_nil
def Geg:=@Nat.lt_trans
def Geh:=@Nat.min_self
def Gei:=@PySem.typeLookup_type
def Gej:=@Nat.zero_add
def Gek:=@PySem.PassesOwn.never
def Gel:=@beq_eq_false_iff_ne
def Gem:=@List.getElem?_range
def Geo:=@List.map_congr_left
def Gep:=@PySem.wpAny_runValue
def Geq:=@PySem.isSubtype_type
def Ger:=@List.find?_eq_none
def Ges:=@Bool.or_false
def Get:=@Bool.false_or
def Geu:=@List.any_eq_false
def Gev:=@Nat.le_succ_of_le
def Gew:=@Int.le_of_lt
namespace L2
open PySem PySem.Spec PyProof.Rows
noncomputable abbrev Key:=Sum Int Str
noncomputable def nM:Key→Value→Bool
 | .inl k,v=>Value.isInt k v
 | .inr x,v=>Value.isStrOf x v
noncomputable def GK(w:World):Key→Int
 | .inl k=>hashInt k
 | .inr x=>hashStr w x
theorem bz:∀{k:Key} {v:Value},nM k v=true→(∃i t,k=Sum.inl i∧v=Value.int i t)∨(∃x t,k=Sum.inr x∧v=Value.str x t)
 | .inl i,v,h=>by
  obtain⟨t,e⟩:=Value.isInt_shape (k:=i) (v:=v) h
  exact .inl ⟨i,t,rfl,e⟩
 | .inr x,v,h=>by
  obtain⟨t,e⟩:=Value.isStrOf_shape (x:=x) (v:=v) h
  exact .inr ⟨x,t,rfl,e⟩
theorem uw(i:Int)(t:Tok):nM (.inl i) (.int i t)=true:=by simp[nM,Value.isInt]
theorem ux(x:Str)(t:Tok):nM (.inr x) (.str x t)=true:=by simp[nM,Value.isStrOf]
theorem CC(a b:Int):decide ((Sum.inl a:Key)=Sum.inl b)=(a==b):=by
 by_cases e:a=b
 ·subst e;simp
 ·have h:¬(Sum.inl a:Key)=Sum.inl b:=λq=>e (Sum.inl.inj q)
  rw[GaE h]
  exact(Gel.mpr e).symm
theorem CD(a b:Str):decide ((Sum.inr a:Key)=Sum.inr b)=decide (a=b):=by
 by_cases e:a=b
 ·subst e;simp
 ·have h:¬(Sum.inr a:Key)=Sum.inr b:=λq=>e (Sum.inr.inj q)
  rw[GaE h,GaE e]
theorem CF(a:Int)(b:Str):decide ((Sum.inl a:Key)=Sum.inr b)=false:=GaE (λq=>nomatch q)
theorem CG(a:Str)(b:Int):decide ((Sum.inr a:Key)=Sum.inl b)=false:=GaE (λq=>nomatch q)
noncomputable def bA(prog:Program)(w:World):PySem.KeyKind prog w Key where
 is:=nM
 hash:=GK w
 inj:=λv a b ha hb=>by
  rcases bz ha with⟨i,t,rfl,rfl⟩| ⟨x,t,rfl,rfl⟩
  ·rcases bz hb with⟨j,u,rfl,e⟩| ⟨y,u,rfl,e⟩
   ·injection e with e1 _;rw[e1]
   ·exact nomatch e
  ·rcases bz hb with⟨j,u,rfl,e⟩| ⟨y,u,rfl,e⟩
   ·exact nomatch e
   ·injection e with e1 _;rw[e1]
 byValue:=λk v h=>by
  rcases bz h with⟨i,t,rfl,rfl⟩| ⟨x,t,rfl,rfl⟩<;>rfl
 pyHash:=λhv h=>by
  rcases bz hv with⟨i,t,rfl,rfl⟩| ⟨x,t,rfl,rfl⟩
  ·exact wpAny_pyHash_int h
  ·exact wpAny_pyHash_str h
 eqBool:=λhu hv h=>by
  rcases bz hu with⟨i,t,rfl,rfl⟩| ⟨x,t,rfl,rfl⟩
  ·rcases bz hv with⟨j,u,rfl,rfl⟩| ⟨y,u,rfl,rfl⟩
   ·rw[CC] at h;exact wpAny_eqBool_int h
   ·rw[CF] at h;exact SeqAt.EqAt.int_str i t y u _ _ _ _ h
  ·rcases bz hv with⟨j,u,rfl,rfl⟩| ⟨y,u,rfl,rfl⟩
   ·rw[CG] at h;exact SeqAt.EqAt.str_int x t j u _ _ _ _ h
   ·rw[CD] at h;exact wpAny_eqBool_str h
 «strs» :=λk x t v h=>by
  rcases bz h with⟨i,u,rfl,e⟩| ⟨y,u,rfl,e⟩
  ·exact nomatch e
  ·injection e with e1 _
   subst e1
   cases v<;>rfl
theorem kF(prog:Program)(w:World)(i:Int)(t:Tok):(bA prog w).is (.inl i) (.int i t)=true:=uw i t
theorem kH(prog:Program)(w:World)(x:Str)(t:Tok):(bA prog w).is (.inr x) (.str x t)=true:=ux x t
inductive V where
 |non|bl (b:Bool)|int (i:Int)|str (x:Str)|byt (b:Array UInt8)|flt (b:UInt64)|ref (a:Addr)|ty (n:String)
 deriving DecidableEq
noncomputable def RelV:V→Value→Prop
 | .non,u=>u=Value.none
 | .bl b,u=>u=Value.bool b
 | .int i,u=>∃t,u=Value.int i t
 | .str x,u=>∃t,u=Value.str x t
 | .byt b,u=>∃t,u=Value.bytes b t
 | .flt b,u=>∃t,u=Value.float b t
 | .ref a,u=>u=Value.ref a
 | .ty n,u=>u=Value.type n
noncomputable abbrev Vals:List V→List Value→Prop:=Paired RelV
theorem Vals.length{xs:List V}{us:List Value}(r:Vals xs us):xs.length=us.length:=Paired.length r
theorem Vals.get:∀{xs:List V} {us:List Value} {i:Nat} {x:V},Vals xs us→xs[i]? =some x→∃u,us[i]? =some u∧RelV x u
 |_,_,_,_,.nil,e=>by simp at e
 |_,_,0,_,.cons r _,e=>by simp at e;subst e;exact⟨_,rfl,r⟩
 |_,_,i+1,x,.cons _ t,e=>by
  obtain⟨u,h1,h2⟩:=Vals.get (i:=i) (x:=x) t (by simpa using e)
  exact⟨u,by simpa using h1,h2⟩
theorem Vals.set{x:V}{u:Value}(r:RelV x u):∀{xs:List V} {us:List Value} (i:Nat),Vals xs us→Vals (xs.set i x) (us.set i u)
 |_,_,_,.nil=> .nil
 |_,_,0,.cons _ t=> .cons r t
 |_,_,i+1,.cons q t=> .cons q (Vals.set r i t)
theorem Vals.append:∀{xs ys:List V} {us ws:List Value},Vals xs us→Vals ys ws→Vals (xs++ys) (us++ws)
 |_,_,_,_,.nil,s=>s
 |_,_,_,_,.cons r t,s=> .cons r (Vals.append t s)
theorem Vals.take:∀{xs:List V} {us:List Value} (n:Nat),Vals xs us→Vals (xs.take n) (us.take n)
 |_,_,0,_=> .nil
 |_,_,_+1,.nil=> .nil
 |_,_,n+1,.cons r t=> .cons r (Vals.take n t)
theorem Vals.drop:∀{xs:List V} {us:List Value} (n:Nat),Vals xs us→Vals (xs.drop n) (us.drop n)
 |_,_,0,r=>r
 |_,_,_+1,.nil=> .nil
 |_,_,n+1,.cons _ t=>Vals.drop n t
noncomputable def jO:Option V→Option Value→Prop
 |some v,some u=>RelV v u
 |none,none=>True
 |_,_=>False
noncomputable def KV{κ:Type}:List (κ×V)→List (κ×Value)→Prop:=Paired λ(p:κ×V) (q:κ×Value)=>p.1=q.1∧RelV p.2 q.2
noncomputable def kV:Key→V
 | .inl i=> .int i
 | .inr x=> .str x
inductive HO where
 |lst (xs:List V)
 |tup (xs:List V)
 |dK (kvs:List (Key×V))|dT (kvs:List (List Key×V))
 |set (S:Int→Bool) (n:Nat)
 |ins (C dx:Addr) (fs:List (Str×V))
 |own (x:Addr)
 |xd (fs:List (Str×V))
 |met (f x:Addr)
 |rng (lo hi:Int)
 |frz (o:Obj) (u:HO)
 |tbl (ps:Array Value)
 |ext (φ:Heap→Prop)
noncomputable abbrev Hp:=Addr→Option HO
noncomputable def upd(H:Hp)(a:Addr)(o:HO):Hp:=λb=>if b=a then some o else H b
theorem au{H:Hp}{a:Addr}{o:HO}:upd H a o a=some o:=by unfold upd;rw[Gag rfl]
theorem az{H:Hp}{a b:Addr}{o:HO}(h:b≠a):upd H a o b=H b:=by unfold upd;rw[Gae h]
theorem AV{H:Hp}{a:Addr}{o u:HO}:upd (upd H a o) a u=upd H a u:=by
 funext b;unfold upd;split<;>rfl
theorem EV{H:Hp}{a b:Addr}{o u:HO}(h:H a=some o)(h' :H b=some u)(d:o≠u):a≠b:=by
 intro e;subst e;rw[h] at h';exact d (Option.some.inj h')
theorem cw{H:Hp}{a b:Addr}{o:HO}(h:H a=some o)(h' :H b=none):a≠b:=by
 intro e;subst e;rw[h] at h';cases h'
section
variable(P:Program)(w:World)
noncomputable def bB(H:Hp)(h:Heap)(a:Addr):HO→Prop
 | .lst xs=>xs.length≤sizeLine∧∃(its:List Value) (n:Nat),Vals xs its∧h.get? a=some {cls:= .type "list",data:= .seq its.toArray n}
 | .tup xs=>xs.length≤sizeLine∧∃its:List Value,Vals xs its∧IsTup h a its.toArray
 | .dK kvs=>kvs.length≤sizeLine∧(a==sysModules)=false∧∃vs,KV kvs vs∧h.DictOf (bA P w) a vs
 | .dT kvs=>kvs.length≤sizeLine∧(a==sysModules)=false∧∃xs:List (List Key×Addr×Value),
   Paired (λ(p:List Key×V) (q:List Key×Addr×Value)=>p.1=q.1∧H q.2.1=some (.tup (p.1.map kV))∧RelV p.2 q.2.2) kvs xs∧
   ∃o es ep,h.get? a=some o∧o.ExactDict∧o.data= .dict es ep∧es.toList=xs.map (entryOfKey (tupleKind (bA P w)))∧(xs.map (·.1)).Nodup
 | .set S n=>h.SetOf (intKind P w) a S n
 | .ins C dx fs=>H dx=some (.own a)∧fs.length≤1000∧dx≠a∧h.get? a=some (PySem.W.instObj C dx)∧
   ∃mA,h.Ns1 dx mA∧(∀f,jO (fs.lookup f) (mA f))∧PySem.Within mA (fs.map (·.1))
 | .own _=>∃o,h.get? a=some o
 | .xd fs=>∃mA,h.Ns1 a mA∧∀f,jO (fs.lookup f) (mA f)
 | .rng lo hi=>∃t u v,h.get? a=some {cls:= .type "range",data:= .fields #[.int lo t,.int hi u,.int 1 v]}
 | .frz o u=>h.get? a=some o∧bB H h a u
 | .tbl ps=>h.get? a=some {cls:= .none,data:= .fields ps}
 | .met f x=>h.get? a=some (PySem.W.methodObj (.ref f) (.ref x))
 | .ext φ=>φ h∧(∃o,h.get? a=some o)∧∀h1 h2:Heap,φ h1→(∀o,h1.get? a=some o→h2.get? a=some o)→φ h2
noncomputable def HOk(H:Hp)(h:Heap):Prop:=∀a o,H a=some o→bB P w H h a o
end
section
variable{P:Program}{w:World}{H H' :Hp}{h h' :Heap}{a:Addr}{o:HO}
theorem bB.lt(x:bB P w H h a o):a<h.objs.size:=by
 cases o with
 |lst xs=>obtain⟨_,_,_,_,e⟩:=x;exact Gam e
 |tup xs=>obtain⟨_,_,_,p⟩:=x;exact p.lt
 |dK kvs=>obtain⟨_,_,_,_,o,_,_,e,_⟩:=x;exact Gam e
 |dT kvs=>obtain⟨_,_,_,_,o,_,_,e,_⟩:=x;exact Gam e
 |set S n=>obtain⟨o,_,_,_,e,_⟩:=x;exact Gam e
 |ins C dx fs=>obtain⟨_,_,_,e,_⟩:=x;exact Gam e
 |own y=>obtain⟨_,e⟩:=x;exact Gam e
 |xd fs=>obtain⟨_,⟨_,_,_,e,_⟩,_⟩:=x;exact Gam e
 |rng lo hi=>obtain⟨_,_,_,e⟩:=x;exact Gam e
 |frz ob u=>obtain⟨e,_⟩:=x;exact Gam e
 |tbl ps=>exact Gam (show h.get? a=some _ from x)
 |met f y=>exact Gam (show h.get? a=some _ from x)
 |ext φ=>obtain⟨_,⟨_,e⟩,_⟩:=x;exact Gam e
theorem Paired.CH{α β:Type}{F G:α→β→Prop}:∀{l₁:List α} {l₂:List β},Paired F l₁ l₂→(∀a b,F a b→G a b)→Paired G l₁ l₂
 |_,_,.nil,_=> .nil
 |_,_,.cons r t,f=> .cons (f _ _ r) (Paired.CH t f)
theorem bB.gJ(x:bB P w H h a o)(k:∀b u,(b=a∨H b=some (.own a))→h.get? b=some u→h'.get? b=some u)
  (ho:∀b,H b=some (.own a)→H' b=some (.own a))(ht:∀b xs,H b=some (.tup xs)→H' b=some (.tup xs)):bB P w H' h' a o:=by
 induction o with
 |lst xs=>obtain⟨z,its,n,r,e⟩:=x;exact⟨z,its,n,r,k _ _ (.inl rfl) e⟩
 |tup xs=>obtain⟨z,its,r,ob,e,c⟩:=x;exact⟨z,its,r,ob,k _ _ (.inl rfl) e,c⟩
 |dK kvs=>obtain⟨z,y,vs,r,ob,es,ep,e,c⟩:=x;exact⟨z,y,vs,r,ob,es,ep,k _ _ (.inl rfl) e,c⟩
 |dT kvs=>
  obtain⟨z,y,xs,r,ob,es,ep,e,c⟩:=x
  exact⟨z,y,xs,Paired.CH r λp q z=> ⟨z.1,ht _ _ z.2.1,z.2.2⟩,ob,es,ep,k _ _ (.inl rfl) e,c⟩
 |set S n=>obtain⟨ob,es,ep,t,e,c⟩:=x;exact⟨ob,es,ep,t,k _ _ (.inl rfl) e,c⟩
 |ins C dx fs=>
  obtain⟨d,z,ne,e,mA,⟨od,es,ep,e2,c⟩,r⟩:=x
  exact⟨ho _ d,z,ne,k _ _ (.inl rfl) e,mA,⟨od,es,ep,k _ _ (.inr d) e2,c⟩,r⟩
 |own y=>obtain⟨ob,e⟩:=x;exact⟨ob,k _ _ (.inl rfl) e⟩
 |xd fs=>obtain⟨mA,⟨od,es,ep,e,c⟩,r⟩:=x;exact⟨mA,⟨od,es,ep,k _ _ (.inl rfl) e,c⟩,r⟩
 |rng lo hi=>obtain⟨t,u,v,e⟩:=x;exact⟨t,u,v,k _ _ (.inl rfl) e⟩
 |frz ob u ih=>obtain⟨e,q⟩:=x;exact⟨k _ _ (.inl rfl) e,ih q⟩
 |tbl ps=>
  have e:h.get? a=some {cls:= .none,data:= .fields ps}:=x
  show h'.get? a=some {cls:= .none,data:= .fields ps}
  exact k a _ (.inl rfl) e
 |met f y=>
  have e:h.get? a=some (PySem.W.methodObj (.ref f) (.ref y)):=x
  show h'.get? a=some (PySem.W.methodObj (.ref f) (.ref y))
  exact k a _ (.inl rfl) e
 |ext φ=>obtain⟨p,⟨o,e⟩,st⟩:=x;exact⟨st _ _ p λo q=>k _ _ (.inl rfl) q,⟨o,k _ _ (.inl rfl) e⟩,st⟩
theorem HOk.lt(x:HOk P w H h)(e:H a=some o):a<h.objs.size:=(x a o e).lt
theorem HOk.fresh(x:HOk P w H h)(e:h.objs.size≤a):H a=none:=by
 cases q:H a with
 |none=>rfl
 |some u=>exact absurd (GaG (x.lt q) e) (Gbt _)
theorem HOk.kept(x:HOk P w H h)(k:∀b u,h.get? b=some u→h'.get? b=some u):HOk P w H h' :=λa o e=>
 (x a o e).gJ (λb u _ q=>k b u q) (λ_ q=>q) λ_ _ q=>q
theorem HOk.laid(x:HOk P w H h)(k:∀b u,h.get? b=some u→h'.get? b=some u)(hp:h.objs.size≤a)(new:bB P w (upd H a o) h' a o):HOk P w (upd H a o) h' :=λb u e=>by
 have hn:=x.fresh hp
 by_cases hb:b=a
 ·subst hb;rw[au] at e;cases e;exact new
 ·rw[az hb] at e
  exact(x b u e).gJ (λc v _ q=>k c v q) (λc q=>by rw[az (cw q hn)];exact q) λc xs q=>by rw[az (cw q hn)];exact q
end
noncomputable def Rd(H:Hp)(a:Addr)(u:HO):Prop:=H a=some u∨∃o,H a=some (.frz o u)
theorem Rd.of{H:Hp}{a:Addr}{u:HO}(h:H a=some u):Rd H a u:= .inl h
theorem Rd.ok{P:Program}{w:World}{H:Hp}{h:Heap}{a:Addr}{u:HO}(r:Rd H a u)(x:HOk P w H h):bB P w H h a u:=by
 rcases r with r| ⟨o,r⟩
 ·exact x a u r
 ·obtain⟨_,q⟩:=x a _ r
  exact q
noncomputable def Mut:Option HO→Prop
 |some (.lst _)=>True
 |some (.dK _)=>True
 |some (.dT _)=>True
 |some (.set _ _)=>True
 |some (.ins _ _ _)=>True
 |some (.ext _)=>True
 |_=>False
section
variable{P:Program}{w:World}{H:Hp}{h h' :Heap}{x e:Addr}{o' :HO}
theorem HOk.write(ok:HOk P w H h)(mu:Mut (H x))(he:e=x∨H e=some (.own x))(k:∀b u,b≠e→h.get? b=some u→h'.get? b=some u)(heo:∃u,h'.get? e=some u)
  (new:bB P w (upd H x o') h' x o'):HOk P w (upd H x o') h' :=λb u q=>by
 have nown:∀c y,H c=some (.own y)→c≠x:=λc y r z=>by subst z;rw[r] at mu;exact mu
 have ntup:∀c xs,H c=some (.tup xs)→c≠x:=λc xs r z=>by subst z;rw[r] at mu;exact mu
 by_cases hb:b=x
 ·subst hb;rw[au] at q;cases q;exact new
 ·rw[az hb] at q
  by_cases hbe:b=e
  ·have q' :H b=some (.own x):=by
    rcases he with z|z
    ·exact absurd (hbe.trans z) hb
    ·rw[hbe];exact z
   rw[q] at q';cases q'
   obtain⟨v,hv⟩:=heo
   exact⟨v,by rw[hbe];exact hv⟩
  ·refine(ok b u q).gJ (λc v hc r=>k c v ?_ r) (λc r=>by rw[az (nown c b r)];exact r) λc xs r=>by rw[az (ntup c xs r)];exact r
   rcases hc with rfl|hc
   ·exact hbe
   ·rintro rfl
    rcases he with z|z
    ·exact nown c b hc z
    ·rw[hc] at z;cases z;exact hb rfl
end
structure Un(fs ex:List Addr)(H H' :Hp)(h h' :Heap):Prop where
 keep:∀b o,h.get? b=some o→H b=none→b∉fs→b∉ex→h'.get? b=some o
 slot:∀b o,h.get? b=some o→H b=none→b∈fs→b∉ex→∃sl,h'.get? b=some {o with slots:=sl}
 free:∀b o,h.get? b=some o→H b=none→b∉ex→H' b=none
 there:∀b o,h.get? b=some o→b∉ex→∃o',h'.get? b=some o'
 lA:∀b xs,H b=some (.tup xs)→H' b=some (.tup xs)
 kC:∀b o u,H b=some (.frz o u)→H' b=some (.frz o u)
 lB:∀b ps,H b=some (.tbl ps)→∃more,H' b=some (.tbl (ps++more))
section
variable{fs fs' ex ex' :List Addr}{H H1 H2:Hp}{h h1 h2 h' :Heap}{a x e:Addr}{o:HO}
theorem Un.any(u:Un fs ex H H1 h h1){b:Addr}{ob:Obj}(q:h.get? b=some ob)(n:H b=none)(hx:b∉ex):∃sl,h1.get? b=some {ob with slots:=sl}:=by
 by_cases hb:b∈fs
 ·exact u.slot b ob q n hb hx
 ·exact⟨ob.slots,u.keep b ob q n hb hx⟩
theorem Un.trans(a:Un fs ex H H1 h h1)(b:Un fs ex H1 H2 h1 h2):Un fs ex H H2 h h2 where
 keep:=λc ob q n hc hx=>b.keep c ob (a.keep c ob q n hc hx) (a.free c ob q n hx) hc hx
 slot:=λc ob q n hc hx=>by
  obtain⟨sl,e1⟩:=a.slot c ob q n hc hx
  obtain⟨sl',e2⟩:=b.slot c _ e1 (a.free c ob q n hx) hc hx
  exact⟨sl',e2⟩
 free:=λc ob q n hx=>by
  obtain⟨o',e1⟩:=a.there c ob q hx
  exact b.free c o' e1 (a.free c ob q n hx) hx
 there:=λc ob q hx=>by
  obtain⟨o',e1⟩:=a.there c ob q hx
  exact b.there c o' e1 hx
 lA:=λc xs q=>b.lA c xs (a.lA c xs q)
 kC:=λc ob xs q=>b.kC c ob xs (a.kC c ob xs q)
 lB:=λc ps q=>by
  obtain⟨m1,e1⟩:=a.lB c ps q
  obtain⟨m2,e2⟩:=b.lB c _ e1
  exact⟨m1++m2,by rw[e2,Array.append_assoc]⟩
theorem Un.kept(k:∀b u,h.get? b=some u→h'.get? b=some u):Un fs ex H H h h' :=
 ⟨λb ob q _ _ _=>k b ob q,λb ob q _ _ _=> ⟨ob.slots,k b ob q⟩,λ_ _ _ n _=>n,λb ob q _=> ⟨ob,k b ob q⟩,λ_ _ q=>q,λ_ _ _ q=>q,λ_ ps q=> ⟨#[],by rw[q];simp⟩⟩
theorem Un.refl:Un fs ex H H h h:=Un.kept λ_ _ q=>q
theorem Un.laid(k:∀b u,h.get? b=some u→h'.get? b=some u)(hp:h.objs.size≤a)(hn:H a=none):Un fs ex H (upd H a o) h h' where
 keep:=λb u q _ _ _=>k b u q
 slot:=λb u q _ _ _=> ⟨u.slots,k b u q⟩
 free:=λb u q n _=>by rw[az (GaA (GaG (Gam q) hp))];exact n
 there:=λb u q _=> ⟨u,k b u q⟩
 lA:=λb xs q=>by rw[az (cw q hn)];exact q
 kC:=λb u xs q=>by rw[az (cw q hn)];exact q
 lB:=λb ps q=> ⟨#[],by rw[az (cw q hn),q];simp⟩
theorem Un.write(mu:Mut (H x))(he:e=x∨H e=some (.own x))(k:∀b u,b≠e→h.get? b=some u→h'.get? b=some u)(heo:∃u,h'.get? e=some u):Un fs ex H (upd H x o) h h' :=by
 have hx:∀b,H b=none→b≠x:=λb n z=>by subst z;rw[n] at mu;exact mu
 have hb:∀b,H b=none→b≠e:=λb n z=>by
  subst z
  rcases he with r|r
  ·exact hx b n r
  ·rw[n] at r;cases r
 have hm:∀b u,H b=some u→¬Mut (some u)→b≠x:=λb u q nm z=>by subst z;rw[q] at mu;exact nm mu
 refine⟨λb u q n _ _=>k b u (hb b n) q,λb u q n _ _=> ⟨u.slots,k b u (hb b n) q⟩,λb u q n _=>by rw[az (hx b n)];exact n,λb u q _=> ?_,
  λb xs q=>by rw[az (hm b _ q λz=>z)];exact q,λb u xs q=>by rw[az (hm b _ q λz=>z)];exact q,λb ps q=> ⟨#[],by rw[az (hm b _ q λz=>z),q];simp⟩⟩
 by_cases hbe:b=e
 ·subst hbe;exact heo
 ·exact⟨u,k b u hbe q⟩
theorem Un.mono(u:Un fs ex H H1 h h1)(hs:∀b∈fs,b∈fs')(hx:∀b∈ex,b∈ex'):Un fs' ex' H H1 h h1:=
 ⟨λb ob q n hb he=>u.keep b ob q n (λz=>hb (hs b z)) λz=>he (hx b z),λ_ _ q n _ he=>u.any q n λz=>he (hx _ z),λb ob q n he=>u.free b ob q n λz=>he (hx b z),λb ob q he=>u.there b ob q λz=>he (hx b z),u.lA,u.kC,u.lB⟩
end
noncomputable def trk(h:Heap)(H:Hp):List Addr:=(List.range h.objs.size).filter λa=>(H a).isSome
noncomputable def oP(h:Heap)(H:Hp):Heap:=PySem.W.hideAll h (trk h H)
theorem uy(h:Heap)(H:Hp):(oP h H).objs.size=h.objs.size:=PySem.W.hideAll_size _ _
theorem vQ{h:Heap}{H:Hp}{b:Addr}{o:Obj}(e:h.get? b=some o)(n:H b=none):(oP h H).get? b=some o:=
 PySem.W.hideAll_get _ e λhm=>by
  have q:(H b).isSome=true:=(Gcm.mp hm).2
  rw[n] at q;simp at q
theorem AW{h:Heap}{H:Hp}{b:Addr}{o:Obj}(e:(oP h H).get? b=some o):h.get? b=some o∧H b=none:=by
 have e' :h.get? b=some o:=PySem.W.of_hideAll (trk h H) e
 refine⟨e', ?_⟩
 cases q:H b with
 |none=>rfl
 |some x=>
  have hm:b∈trk h H:=Gcm.mpr ⟨GaT.mpr (Gam e'),by simp[q]⟩
  have z:(oP h H).get? b=none:=PySem.W.hideAll_none (trk h H) hm
  rw[z] at e;cases e
noncomputable def AX(g h:Heap)(L:Addr):List (Addr×Obj):=(List.range h.objs.size).filterMap λa=>if a=L∨(g.get? a).isSome=true then none else(h.get? a).map λo=>(a,o)
noncomputable def rest(g h:Heap)(L d:Addr):List (Addr×Obj):=(AX g h L).filter λp=>decide (p.1≠d)
structure Mod(K:PySem.W.Frag)(mg:Str→Option Value)(base:Heap):Prop where
 kin:K.In base
 glob:base.Ns mainGlobals mg
 blt:∃mb,base.Ns builtinsNs mb∧∀x:Str,x≠"__name__"→mb x=bootBuiltins x
 nolimit:base.NoLimit
structure Cx where
 prog:Program
 w:World
 K:PySem.W.Frag
 mg:Str→Option Value
 base:Heap
 A:Around
 N:List Str
 s₀:Shared
 H₀:Hp
 env:Env
 outer:List Env
 stack:List Env
 ex:List Addr
 fn:Str→Bool
 calm:Bool
 pn:List (Addr×Obj)
 xe:Value→Shared→Prop
noncomputable def frs(l:List Env):List Addr:=l.filterMap (·.frame)
noncomputable abbrev Cx.fs (X:Cx):List Addr:=frs X.outer
noncomputable def Vis(sc:Scope)(x:Str):Prop:=sc.names.lookup x=some .local∨sc.names.lookup x=some .cell∨sc.names.lookup x=some .free
noncomputable def Loc(sc:Scope)(x:Str):Prop:=sc.names.lookup x=some .local∨sc.names.lookup x=some .cell
noncomputable def Look(env:Env)(h:Heap)(m:Str→Option Value)(x:Str)(u:Value):Prop:=
 (env.kindOf x=some .local∧m x=some u)∨((env.kindOf x=some .cell∨env.kindOf x=some .free)∧∃c,env.cells.lookup x=some c∧h.IsCell c (some u))
structure Cx.Ok(X:Cx):Prop where
 mod:Mod X.K X.mg X.base
 kind:X.env.scope.kind= .function
 glob:X.env.globals=mainGlobals
 blt:X.env.builtins=builtinsNs
 above:X.s₀.heap.objs.size≤X.env.locals
 inj:∀x y c,X.env.cells.lookup x=some c→X.env.cells.lookup y=some c→x=y
 has:∀x,(X.env.kindOf x=some .cell∨X.env.kindOf x=some .free)→∃c,X.env.cells.lookup x=some c
 cab:∀x c,X.fn x=true→X.env.cells.lookup x=some c→X.s₀.heap.objs.size≤c
 hd:X.calm=true→X.A.handled=none
 frames:X.A.frames=some X.stack
 stk:X.stack=X.outer∨(X.stack=X.env::X.outer∧X.env.frame=some X.env.locals)
 exf:∀b∈X.ex,b≠X.env.locals∧∀x c,X.env.cells.lookup x=some c→c≠b
 bs:∀b o,X.base.get? b=some o→X.s₀.heap.get? b=some o∧X.H₀ b=none
 bsz:X.base.objs.size≤X.s₀.heap.objs.size
 AS:∀b o,X.base.get? b=some o→b∉X.ex
 AU:∀b∈X.ex,b∉X.fs
 lg:X.s₀.heap.FunFrames X.base X.outer
 frf:∀b∈X.fs,X.H₀ b=none
structure Inv(X:Cx)(pins:List (Addr×Obj))(σ:List (Option V))(H:Hp)(s:Shared):Prop where
 ok:X.Ok
 os:s.os=X.s₀.os
 bare:AllBare s.gens
 base:Un X.fs X.ex X.H₀ H X.s₀.heap s.heap
 loc:∃m,s.heap.Ns X.env.locals m∧∀(i:Nat) (x:Str) (v:V),X.N[i]? =some x→σ[i]? =some (some v)→Vis X.env.scope x→∃u,RelV v u∧Look X.env s.heap m x u
 cell:∀x c,X.env.cells.lookup x=some c→∃v,s.heap.IsCell c v
 free:H X.env.locals=none
 ie:∀x c,X.env.cells.lookup x=some c→H c=none
 pin:∀p∈X.pn++pins,s.heap.get? p.1=some p.2∧H p.1=none∧p.1≠X.env.locals∧p.1∉X.fs∧∀v,p.2.data≠ .cell v
 hok:HOk X.prog X.w H s.heap
 len:σ.length=X.N.length
section
variable{X:Cx}{pins:List (Addr×Obj)}{σ:List (Option V)}{H H' :Hp}{s:Shared}{h' :Heap}
theorem Cx.Ok.GL(ok:X.Ok){b:Addr}{o:Obj}(e:X.base.get? b=some o):b∉X.fs:=λhb=>by
 have:=(ok.lg.mem hb).1
 rw[e] at this;cases this
theorem Inv.bs(I:Inv X pins σ H s):∀b o,X.base.get? b=some o→s.heap.get? b=some o∧H b=none:=λb o e=>
 ⟨I.base.keep b o (I.ok.bs b o e).1 (I.ok.bs b o e).2 (I.ok.GL e) (I.ok.AS b o e),I.base.free b o (I.ok.bs b o e).1 (I.ok.bs b o e).2 (I.ok.AS b o e)⟩
theorem Inv.bk(I:Inv X pins σ H s):∀b o,X.base.get? b=some o→s.heap.get? b=some o:=λb o e=>(I.bs b o e).1
theorem Inv.mod(I:Inv X pins σ H s):Mod X.K X.mg X.base:=I.ok.mod
theorem Inv.kIn(I:Inv X pins σ H s):X.K.In s.heap:=I.ok.mod.kin.keeps I.bk
theorem Inv.nolimit(I:Inv X pins σ H s):s.heap.NoLimit:=I.ok.mod.nolimit.keeps I.bk
theorem Inv.fr(I:Inv X pins σ H s):∃m,Fr X.base X.env.locals s.heap m:=
 let⟨m,hn,_⟩:=I.loc
 ⟨m,hn,I.bk,GbQ I.ok.bsz I.ok.above⟩
theorem Inv.lt(I:Inv X pins σ H s):X.env.locals<s.heap.objs.size:=let⟨_,hn,_⟩:=I.loc;hn.lt
theorem Inv.sz(I:Inv X pins σ H s):X.s₀.heap.objs.size≤s.heap.objs.size:=GbQ I.ok.above (GcC I.lt)
theorem Inv.GN(I:Inv X pins σ H s){a:Addr}(h:s.heap.objs.size≤a):a∉X.fs:=λhb=>by
 obtain⟨_,o,ho,_⟩:=I.ok.lg.mem hb
 exact absurd (GaG (Gam ho) (GbQ I.sz h)) (Gbt _)
theorem Inv.cne(I:Inv X pins σ H s):∀x c,X.env.cells.lookup x=some c→c≠X.env.locals:=λx c e z=>by
 obtain⟨v,o,ho,hd⟩:=I.cell x c e
 obtain⟨m,⟨o',es,ep,ho',hd',_⟩,_⟩:=I.loc
 rw[z,ho'] at ho;cases ho;rw[hd'] at hd;cases hd
theorem Inv.lg(I:Inv X pins σ H s):s.heap.FunFrames X.base X.outer:=by
 have all:∀(l:List Env),(∀b∈frs l,b∈X.fs)→X.s₀.heap.FunFrames X.base l→s.heap.FunFrames X.base l:=by
  intro l
  induction l with
  |nil=>intro _ _;trivial
  |cons env r ih=>
   intro hs hl
   obtain⟨hk,⟨L,o,hf,hn,ho,hd⟩,hr⟩:=hl
   have hL:L∈X.fs:=hs L (by unfold frs;rw[GcT,hf];exact Gav)
   obtain⟨sl,e⟩:=I.base.slot L o ho (I.ok.frf L hL) hL λz=>I.ok.AU L z hL
   exact⟨hk,⟨L,_,hf,hn,e,hd⟩,ih (λb hb=>hs b (by unfold frs;rw[GcT,hf];exact Gak _ hb)) hr⟩
 exact all X.outer (λ_ hb=>hb) I.ok.lg
theorem Inv.stack(I:Inv X pins σ H s):s.heap.FunFrames X.base X.stack:=by
 rcases I.ok.stk with e| ⟨e,hf⟩
 ·rw[e];exact I.lg
 ·rw[e]
  obtain⟨m,hn,_⟩:=I.loc
  refine .cons (by rw[I.ok.kind];decide) hf hn ?_ I.lg
  exact Heap.get?_none_of_le (GbQ I.ok.bsz I.ok.above)
theorem Inv.rC(I:Inv X pins σ H s):∀b∈frs X.stack,b∈X.env.locals::X.fs:=λb hb=>by
 rcases I.ok.stk with e| ⟨e,hf⟩
 ·rw[e] at hb;exact Gak _ hb
 ·rw[e] at hb
  unfold frs at hb
  rw[GcT,hf] at hb
  exact hb
theorem Inv.t5(I:Inv X pins σ H s):∀b∈frs X.stack,H b=none:=λb hb=>by
 rcases Gas.mp (I.rC b hb) with e|hb
 ·rw[e];exact I.free
 ·obtain⟨_,o,ho,_⟩:=I.ok.lg.mem hb
  exact I.base.free b o ho (I.ok.frf b hb) λz=>I.ok.AU b z hb
theorem Inv.step{g' :Array GenState}{t' :Nat}{d' :Drawn}{ch:List Addr}(I:Inv X pins σ H s)
  (hch:∀b∈ch,(b∈X.ex∨X.s₀.heap.objs.size≤b)∧b≠X.env.locals∧(∀x c,X.env.cells.lookup x=some c→c≠b)∧∀p∈X.pn++pins,p.1≠b)
  (keep:∀b o,b≠X.env.locals→b∉X.fs→b∉ch→s.heap.get? b=some o→H b=none→h'.get? b=some o)
  (slot:∀b o,b≠X.env.locals→b∈X.fs→b∉ch→s.heap.get? b=some o→H b=none→∃sl,h'.get? b=some {o with slots:=sl})(free:∀b o,b∉ch→s.heap.get? b=some o→H b=none→H' b=none)
  (there:∀b o,b∉ch→s.heap.get? b=some o→∃o',h'.get? b=some o')
  (lA:∀b xs,H b=some (.tup xs)→H' b=some (.tup xs))(kC:∀b o u,H b=some (.frz o u)→H' b=some (.frz o u))(lB:∀b ps,H b=some (.tbl ps)→∃more,H' b=some (.tbl (ps++more)))
  (ns:∀m,s.heap.Ns X.env.locals m→h'.Ns X.env.locals m)(hok:HOk X.prog X.w H' h')(hg:AllBare g'):
  Inv X pins σ H' {s with heap:=h',gens:=g',drawn:=d',toks:=t' }:=by
 have neL:∀b o,X.s₀.heap.get? b=some o→b≠X.env.locals:=λb o e=>GaA (GaG (Gam e) I.ok.above)
 have neC:∀b o,X.s₀.heap.get? b=some o→b∉X.ex→b∉ch:=λb o e hx hb=>by
  rcases(hch b hb).1 with z|z
  ·exact hx z
  ·exact absurd (GaG (Gam e) z) (Gbt _)
 have cellK:∀x c,X.env.cells.lookup x=some c→∀v,s.heap.IsCell c v→h'.IsCell c v:=λx c e v ⟨o,ho,hd⟩=>by
  have nch:c∉ch:=λz=>(hch c z).2.2.1 x c e rfl
  by_cases hc:c∈X.fs
  ·obtain⟨sl,q⟩:=slot c o (I.cne x c e) hc nch ho (I.ie x c e)
   exact⟨_,q,hd⟩
  ·exact⟨o,keep c o (I.cne x c e) hc nch ho (I.ie x c e),hd⟩
 refine⟨I.ok,I.os,hg,⟨λb o e n hb hx=> ?_,λb o e n hb hx=> ?_,λb o e n hx=> ?_,λb o e hx=> ?_,λb xs e=>lA b xs (I.base.lA b xs e),λb o xs e=>kC b o xs (I.base.kC b o xs e),λb ps e=> ?_⟩, ?_,λx c e=> ?_, ?_,λx c e=> ?_,λp hp=> ?_,hok,I.len⟩
 ·exact keep b o (neL b o e) hb (neC b o e hx) (I.base.keep b o e n hb hx) (I.base.free b o e n hx)
 ·obtain⟨sl,e1⟩:=I.base.slot b o e n hb hx
  obtain⟨sl',e2⟩:=slot b _ (neL b o e) hb (neC b o e hx) e1 (I.base.free b o e n hx)
  exact⟨sl',e2⟩
 ·obtain⟨o',e1⟩:=I.base.there b o e hx
  exact free b o' (neC b o e hx) e1 (I.base.free b o e n hx)
 ·obtain⟨o',e1⟩:=I.base.there b o e hx
  exact there b o' (neC b o e hx) e1
 ·obtain⟨m1,e1⟩:=I.base.lB b ps e
  obtain⟨m2,e2⟩:=lB b _ e1
  exact⟨m1++m2,by rw[e2,Array.append_assoc]⟩
 ·obtain⟨m,hn,hl⟩:=I.loc
  refine⟨m,ns m hn,λi x v e1 e2 e3=> ?_⟩
  obtain⟨u,r,l⟩:=hl i x v e1 e2 e3
  refine⟨u,r, ?_⟩
  rcases l with l| ⟨k,c,e,z⟩
  ·exact .inl l
  ·exact .inr ⟨k,c,e,cellK x c e _ z⟩
 ·obtain⟨v,z⟩:=I.cell x c e
  exact⟨v,cellK x c e v z⟩
 ·obtain⟨m,⟨o,_,_,ho,_⟩,_⟩:=I.loc
  exact free _ o (λz=>(hch _ z).2.1 rfl) ho I.free
 ·obtain⟨v,o,ho,hd⟩:=I.cell x c e
  exact free c o (λz=>(hch c z).2.2.1 x c e rfl) ho (I.ie x c e)
 ·obtain⟨e,n,ne,nf,d⟩:=I.pin p hp
  have nch:p.1∉ch:=λz=>(hch p.1 z).2.2.2 p hp rfl
  exact⟨keep p.1 p.2 ne nf nch e n,free p.1 p.2 nch e n,ne,nf,d⟩
theorem Inv.un{t' :Nat}(I:Inv X pins σ H s)(u:Un X.fs [] H H' s.heap h')(hok:HOk X.prog X.w H' h'):Inv X pins σ H' {s with heap:=h',toks:=t' }:=by
 obtain⟨m,⟨o,es,ep,ho,r⟩,_⟩:=id I.loc
 obtain⟨sl,hL⟩:=u.any ho I.free (by simp)
 exact I.step (g' :=s.gens) (d' :=s.drawn) (ch:=[]) (λ_ z=>nomatch z) (λb o _ hb _ e n=>u.keep b o e n hb (by simp)) (λb o _ hb _ e n=>u.slot b o e n hb (by simp)) (λb o _ e n=>u.free b o e n (by simp)) (λb o _ e=>u.there b o e (by simp)) u.lA u.kC u.lB (λm' hm=>by
  obtain⟨o',es',ep',ho',r'⟩:=hm
  rw[ho] at ho';cases ho'
  exact⟨_,es',ep',hL,r'⟩) hok I.bare
theorem Inv.call{g' :Array GenState}{t' :Nat}{d' :Drawn}{ch:List Addr}(I:Inv X pins σ H s)(u:Un (frs X.stack) ch H H' s.heap h')(hok:HOk X.prog X.w H' h')(hg:AllBare g')
  (hch:∀b∈ch,(b∈X.ex∨X.s₀.heap.objs.size≤b)∧b≠X.env.locals∧(∀x c,X.env.cells.lookup x=some c→c≠b)∧∀p∈X.pn++pins,p.1≠b):
  Inv X pins σ H' {s with heap:=h',gens:=g',drawn:=d',toks:=t' }:=by
 obtain⟨m,⟨o,es,ep,ho,r⟩,_⟩:=id I.loc
 obtain⟨sl,hL⟩:=u.any ho I.free λz=>(hch _ z).2.1 rfl
 exact I.step (ch:=ch) hch (λb o hL hb hc e n=>u.keep b o e n (λz=>(Gas.mp (I.rC b z)).elim hL hb) hc) (λb o _ _ hc e n=>u.any e n hc) (λb o hc e n=>u.free b o e n hc) (λb o hc e=>u.there b o e hc) u.lA u.kC u.lB (λm' hm=>by
  obtain⟨o',es',ep',ho',r'⟩:=hm
  rw[ho] at ho';cases ho'
  exact⟨_,es',ep',hL,r'⟩) hok hg
theorem Inv.turned{t' :Nat}{it:Addr}(I:Inv X pins σ H s)(k:∀b o,b≠it→s.heap.get? b=some o→h'.get? b=some o)(hn:H it=none)(hL:it≠X.env.locals)
  (h1:it∈X.ex∨X.s₀.heap.objs.size≤it)(h2:∀x c,X.env.cells.lookup x=some c→c≠it)(h3:∀p∈X.pn++pins,p.1≠it):Inv X pins σ H {s with heap:=h',toks:=t' }:=by
 have nit:∀b u,H b=some u→b≠it:=λb u e z=>by rw[z,hn] at e;cases e
 refine I.step (g' :=s.gens) (d' :=s.drawn) (ch:=[it]) (λb hb=> ?_) (λb o _ _ hc e _=>k b o (λz=>hc (by simp[z])) e) (λb o _ _ hc e _=> ⟨o.slots,k b o (λz=>hc (by simp[z])) e⟩) (λ_ _ _ _ n=>n)
  (λb o hc e=> ⟨o,k b o (λz=>hc (by simp[z])) e⟩) (λ_ _ e=>e) (λ_ _ _ e=>e) (λb ps e=> ⟨#[],by rw[e];simp⟩) (λm hm=> ?_) (λb u e=> ?_) I.bare
 ·have e:b=it:=by simpa using hb
  subst e
  exact⟨h1,hL,h2,h3⟩
 ·obtain⟨o,es,ep,ho,r⟩:=hm
  exact⟨o,es,ep,k _ o (Gba hL) ho,r⟩
 ·refine(I.hok b u e).gJ (λc v hc q=>k c v ?_ q) (λ_ q=>q) λ_ _ q=>q
  rcases hc with z|z
  ·rw[z];exact nit b u e
  ·exact nit c _ z
theorem Inv.tok(I:Inv X pins σ H s)(t:Nat):Inv X pins σ H {s with toks:=t}:=I.un (h' :=s.heap) (t' :=t) Un.refl I.hok
theorem Inv.kept{t' :Nat}(I:Inv X pins σ H s)(k:∀b u,s.heap.get? b=some u→h'.get? b=some u):Inv X pins σ H {s with heap:=h',toks:=t' }:=I.un (Un.kept k) (I.hok.kept k)
theorem Inv.laid{a:Addr}{o:HO}{t' :Nat}(I:Inv X pins σ H s)(k:∀b u,s.heap.get? b=some u→h'.get? b=some u)(hp:s.heap.objs.size≤a)(new:bB X.prog X.w (upd H a o) h' a o):
  Inv X pins σ (upd H a o) {s with heap:=h',toks:=t' }:=I.un (Un.laid k hp (I.hok.fresh hp)) (I.hok.laid k hp new)
theorem Inv.write{x e:Addr}{o:HO}{t' :Nat}(I:Inv X pins σ H s)(mu:Mut (H x))(he:e=x∨H e=some (.own x))(k:∀b u,b≠e→s.heap.get? b=some u→h'.get? b=some u)(heo:∃u,h'.get? e=some u)
  (new:bB X.prog X.w (upd H x o) h' x o):Inv X pins σ (upd H x o) {s with heap:=h',toks:=t' }:=I.un (Un.write mu he k heo) (I.hok.write mu he k heo new)
theorem Inv.t6{pins' :List (Addr×Obj)}(I:Inv X pins σ H s)(h:∀p∈pins',s.heap.get? p.1=some p.2∧H p.1=none∧p.1≠X.env.locals∧p.1∉X.fs∧∀v,p.2.data≠ .cell v):Inv X pins' σ H s:=
 ⟨I.ok,I.os,I.bare,I.base,I.loc,I.cell,I.free,I.ie,λp hp=>(GaQ.mp hp).elim (λz=>I.pin p (List.mem_append_left _ z)) (h p),I.hok,I.len⟩
theorem pT{N:List Str}(hN:N.Nodup){i j:Nat}{x:Str}(a:N[i]? =some x)(b:N[j]? =some x):i=j:=by
 obtain⟨h1,e1⟩:=Gaf.mp a
 obtain⟨h2,e2⟩:=Gaf.mp b
 exact(List.getElem_inj hN).mp (e1.trans e2.symm)
theorem nN{M:Model}{A:Around}{E:Value→Shared→Prop}{i:Nat}{x:Str}{v:V}{u:Value}{Q:Unit→Shared→Prop}(I:Inv X pins σ H s)(hN:X.N.Nodup)(hi:X.N[i]? =some x)(hx:Loc X.env.scope x)(r:RelV v u)
  (h:∀s',Inv X pins (σ.set i (some v)) H s' →(∃a,Heap.SameBut a s.heap s'.heap∧(a=X.env.locals∨X.env.cells.lookup x=some a))→Q () s')(hf:X.fn x=true∨X.env.scope.names.lookup x=some .local:=by first|exact .inl rfl|exact .inr rfl|assumption):wpAny M A (storeName X.env x u) Q E s:=by
 obtain⟨m,hn,hl⟩:=id I.loc
 have hcls:(X.env.scope.kind== .class||(X.env.scope.kind== .module&&X.env.locals !=X.env.globals))=false:=by rw[I.ok.kind];rfl
 have hiσ:i<σ.length:=by rw[I.len];exact(Gaf.mp hi).1
 have cne:=I.cne
 have tracked:∀{a:Addr} {h' :Heap},(∃o,s.heap.get? a=some o∧H a=none)→Heap.SameBut a s.heap h' →HOk X.prog X.w H h' :=λ{a h'} ha hs b ob e=>by
  obtain⟨_,_,hfree⟩:=ha
  refine(I.hok b ob e).gJ (λc w' hc q=>(hs.2 c ?_).trans q) (λ_ q=>q) λ_ _ q=>q
  rintro rfl
  rcases hc with rfl|hc
  ·rw[hfree] at e;cases e
  ·rw[hfree] at hc;cases hc
 rcases hx with hk|hk
 ·refine wpAny_storeName_local hk hn (λh' hn' hs=> ?_) hcls
  obtain⟨oL,_,_,hoL,_⟩:=id hn
  refine h _ ⟨I.ok,I.os,I.bare,⟨λb o e n hb hx=> ?_,λb o e n hb hx=> ?_,I.base.free,λb o e hx=> ?_,I.base.lA,I.base.kC,I.base.lB⟩,⟨_,hn',λj y v' e1 e2 e3=> ?_⟩,λy c e=> ?_,I.free,I.ie,λp hp=> ?_,tracked ⟨oL,hoL,I.free⟩ hs,by simpa using I.len⟩ ⟨_,hs,.inl rfl⟩
  ·exact(hs.2 b (GaA (GaG (Gam e) I.ok.above))).trans (I.base.keep b o e n hb hx)
  ·obtain⟨sl,e1⟩:=I.base.slot b o e n hb hx
   exact⟨sl,(hs.2 b (GaA (GaG (Gam e) I.ok.above))).trans e1⟩
  ·obtain⟨o',e1⟩:=I.base.there b o e hx
   exact⟨o',(hs.2 b (GaA (GaG (Gam e) I.ok.above))).trans e1⟩
  ·by_cases hj:j=i
   ·subst hj
    rw[hi] at e1;cases e1
    rw[Gbj hiσ] at e2
    cases e2
    exact⟨u,r,.inl ⟨hk,by simp⟩⟩
   ·rw[Gah (Gba hj)] at e2
    obtain⟨u',r',q⟩:=hl j y v' e1 e2 e3
    refine⟨u',r', ?_⟩
    rcases q with⟨k,e⟩| ⟨k,c,e,z⟩
    ·refine .inl ⟨k, ?_⟩
     have:y≠x:=λe=>hj (pT hN e1 (e▸hi))
     simp[this,e]
    ·exact .inr ⟨k,c,e,z.sameBut hs (cne y c e)⟩
  ·obtain⟨w',z⟩:=I.cell y c e
   exact⟨w',z.sameBut hs (cne y c e)⟩
  ·obtain⟨e,n,ne,nf,d⟩:=I.pin p hp
   exact⟨(hs.2 p.1 ne).trans e,n,ne,nf,d⟩
 ·have hfn:X.fn x=true:=by
   rcases hf with z|z
   ·exact z
   ·rw[z] at hk;cases hk
  obtain⟨c,hc⟩:=I.ok.has x (.inl hk)
  obtain⟨w',z⟩:=I.cell x c hc
  refine wpAny_storeName_cell I.ok.kind hk hc z (λh' hc' hs=> ?_)
  obtain⟨oc,hoc,hocd⟩:=id z
  refine h {s with heap:=h' } ⟨I.ok,I.os,I.bare,⟨λb o e n hb hx=> ?_,λb o e n hb hx=> ?_,I.base.free,λb o e hx=> ?_,I.base.lA,I.base.kC,I.base.lB⟩,⟨m,hn.sameBut hs (Gba (cne x c hc)),λj y v' e1 e2 e3=> ?_⟩,λy c' e=> ?_,I.free,I.ie,λp hp=> ?_,tracked ⟨oc,hoc,I.ie x c hc⟩ hs,by simpa using I.len⟩ ⟨c,hs,.inr hc⟩
  ·exact(hs.2 b (GaA (GaG (Gam e) (I.ok.cab x c hfn hc)))).trans (I.base.keep b o e n hb hx)
  ·obtain⟨sl,e1⟩:=I.base.slot b o e n hb hx
   exact⟨sl,(hs.2 b (GaA (GaG (Gam e) (I.ok.cab x c hfn hc)))).trans e1⟩
  ·obtain⟨o',e1⟩:=I.base.there b o e hx
   exact⟨o',(hs.2 b (GaA (GaG (Gam e) (I.ok.cab x c hfn hc)))).trans e1⟩
  ·by_cases hj:j=i
   ·subst hj
    rw[hi] at e1;cases e1
    rw[Gbj hiσ] at e2
    cases e2
    exact⟨u,r,.inr ⟨.inl hk,c,hc,hc'⟩⟩
   ·rw[Gah (Gba hj)] at e2
    obtain⟨u',r',q⟩:=hl j y v' e1 e2 e3
    refine⟨u',r', ?_⟩
    rcases q with q| ⟨k,c',e,z'⟩
    ·exact .inl q
    ·refine .inr ⟨k,c',e,z'.sameBut hs ?_⟩
     rintro rfl
     exact hj (pT hN e1 (I.ok.inj _ _ _ e hc▸hi))
  ·by_cases hcc:c' =c
   ·subst hcc;exact⟨_,hc'⟩
   ·obtain⟨w2,z2⟩:=I.cell y c' e
    exact⟨w2,z2.sameBut hs hcc⟩
  ·obtain⟨e,n,ne,nf,d⟩:=I.pin p hp
   refine⟨(hs.2 p.1 ?_).trans e,n,ne,nf,d⟩
   intro q
   rw[q,hoc] at e
   have q' :oc=p.2:=Option.some.inj e
   exact d w' (by rw[←q'];exact hocd)
theorem pU{M:Model}{A:Around}{E:Value→Shared→Prop}{i:Nat}{x:Str}{v:V}{u:Value}{Q:Unit→Shared→Prop}(I:Inv X pins σ H s)(hN:X.N.Nodup)(hi:X.N[i]? =some x)(hx:Loc X.env.scope x)(r:RelV v u)
  (h:∀s',Inv X pins (σ.set i (some v)) H s' →Q () s')(hf:X.fn x=true∨X.env.scope.names.lookup x=some .local:=by first|exact .inl rfl|exact .inr rfl|assumption):wpAny M A (storeName X.env x u) Q E s:=
 nN I hN hi hx r (λs' I' _=>h s' I') hf
theorem Inv.EW{s' :Shared}{ch:List Addr}(I:Inv X pins σ H s)(ho:s'.os=s.os)(u:Un (frs X.stack) ch H H' s.heap s'.heap)(hok:HOk X.prog X.w H' s'.heap)(hg:AllBare s'.gens)
  (hch:∀b∈ch,(b∈X.ex∨X.s₀.heap.objs.size≤b)∧b≠X.env.locals∧(∀x c,X.env.cells.lookup x=some c→c≠b)∧∀p∈X.pn++pins,p.1≠b):Inv X pins σ H' s' :=by
 obtain⟨h',g',d',t',o'⟩:=s'
 have e:o' =s.os:=ho
 subst e
 exact I.call (g' :=g') (t' :=t') (d' :=d') u hok hg hch
end
noncomputable abbrev XK:=Value→Option Addr→Hp→Prop
noncomputable abbrev St:=List (Option V)
noncomputable abbrev VK:=V→Hp→Prop
noncomputable abbrev TE:=St→Hp→VK→Prop
noncomputable abbrev TT:=St→Hp→(Bool→Hp→Prop)→Prop
noncomputable abbrev TA:=St→Hp→(List V→Hp→Prop)→Prop
structure Ends where
 nx:St→Hp→Prop
 rt:VK
 bk:St→Hp→Prop:=λ_ _=>False
 ct:St→Hp→Prop:=λ_ _=>False
noncomputable abbrev TS:=Ends→St→Hp→Prop
noncomputable def EP(X:Cx)(pins:List (Addr×Obj))(σ:St)(Q:VK)(u:Value)(s' :Shared):Prop:=∃v H',Inv X pins σ H' s' ∧RelV v u∧Q v H'
noncomputable def TP(X:Cx)(pins:List (Addr×Obj))(σ:St)(Q:Bool→Hp→Prop)(b:Bool)(s' :Shared):Prop:=∃H',Inv X pins σ H' s' ∧Q b H'
noncomputable def AP(X:Cx)(pins:List (Addr×Obj))(σ:St)(Q:List V→Hp→Prop)(us:List Value)(s' :Shared):Prop:=∃vs H',Inv X pins σ H' s' ∧Vals vs us∧Q vs H'
noncomputable def SP(X:Cx)(pins:List (Addr×Obj))(D:Ends)(f:Flow)(s' :Shared):Prop:=
 match f with
 | .next=>∃σ' H',Inv X pins σ' H' s' ∧D.nx σ' H'
 | .brk=>∃σ' H',Inv X pins σ' H' s' ∧D.bk σ' H'
 | .cont=>∃σ' H',Inv X pins σ' H' s' ∧D.ct σ' H'
 | .ret u=>∃v σ' H',Inv X pins σ' H' s' ∧RelV v u∧D.rt v H'
noncomputable def PE(X:Cx)(e:Expr)(t:TE):Prop:=
 ∀(pins:List (Addr×Obj)) (s:Shared) (σ:St) (H:Hp) (Q:VK),Inv X pins σ H s→t σ H Q→wpAny (model X.prog X.w) X.A (eval e X.env) (EP X pins σ Q) X.xe s
noncomputable def PT(X:Cx)(e:Expr)(t:TT):Prop:=
 ∀(pins:List (Addr×Obj)) (s:Shared) (σ:St) (H:Hp) (Q:Bool→Hp→Prop),Inv X pins σ H s→t σ H Q→wpAny (model X.prog X.w) X.A (isTrue e X.env (eval e X.env)) (TP X pins σ Q) X.xe s
noncomputable def PW(X:Cx)(e:Expr)(t:TT):Prop:=
 ∀(whole:Sem Value) (pins:List (Addr×Obj)) (s:Shared) (σ:St) (H:Hp) (Q:Bool→Hp→Prop),Inv X pins σ H s→t σ H Q→wpAny (model X.prog X.w) X.A (isTrue e X.env whole) (TP X pins σ Q) X.xe s
theorem PW.pt{X:Cx}{e:Expr}{t:TT}(h:PW X e t):PT X e t:=h _
noncomputable def PA(X:Cx)(es:List Expr)(t:TA):Prop:=
 ∀(pos:Pos) (pins:List (Addr×Obj)) (s:Shared) (σ:St) (H:Hp) (Q:List V→Hp→Prop),Inv X pins σ H s→t σ H Q→wpAny (model X.prog X.w) X.A (spliced (backTo pos (starEach es X.env))) (AP X pins σ Q) X.xe s
noncomputable def PS(X:Cx)(st:Stmt)(t:TS):Prop:=
 ∀(pins:List (Addr×Obj)) (s:Shared) (σ:St) (H:Hp) (D:Ends),Inv X pins σ H s→t D σ H→wpAny (model X.prog X.w) X.A (exec st X.env) (SP X pins D) X.xe s
noncomputable def PSs(X:Cx)(st:List Stmt)(t:TS):Prop:=
 ∀(pins:List (Addr×Obj)) (s:Shared) (σ:St) (H:Hp) (D:Ends),Inv X pins σ H s→t D σ H→wpAny (model X.prog X.w) X.A (execs st X.env) (SP X pins D) X.xe s
theorem thn{α:Type}{t:Sem α}{Q Q' :α→Shared→Prop}{M:Model}{A:Around}{E:Value→Shared→Prop}{s:Shared}(h:wpAny M A t Q E s)(hQ:∀a s,Q a s→Q' a s):wpAny M A t Q' E s:=GbU h hQ λ_ _ x=>x
section
variable{X:Cx}
noncomputable def EX(i:Nat):TE:=λσ H Q=>∃v,σ[i]? =some (some v)∧Q v H
noncomputable def tC(v:V):TE:=λ_ H Q=>Q v H
theorem iO{i:Nat}{x:Str}{pos:Pos}(hN:X.N[i]? =some x)(hv:Vis X.env.scope x)(hd:(x==("__debug__":Str))=false:=by decide)(hcd:(x==("__classdict__":Str))=false:=by decide):PE X (.Name x pos) (EX i):=by
 intro pins s σ H Q I h
 obtain⟨v,e,h⟩:=h
 obtain⟨m,hn,hl⟩:=I.loc
 obtain⟨u,r,l⟩:=hl i x v hN e hv
 have fin:EP X pins σ Q u s:=⟨v,H,I,r,h⟩
 rcases l with⟨hk,hm⟩| ⟨hk,c,hc,hcell⟩
 ·exact wpAny_Name (wpAny_loadName_local I.ok.kind hk hn hm fin) hd
 ·rcases hk with hk|hk
  ·exact wpAny_Name (wpAny_loadName_cell I.ok.kind hk hc hcell fin) hd
  ·exact wpAny_Name (wpAny_loadName_free I.ok.kind hk hc hcell fin hcd) hd
theorem CI{i j pos}:PE X (.Constant (.int i) j pos) (tC (.int i)):=λ_ _ _ H _ I h=>wpAny_Constant_int ⟨.int i,H,I.tok _,⟨_,rfl⟩,h⟩
theorem EY{b j pos}:PE X (.Constant (.bool b) j pos) (tC (.bl b)):=λ_ _ _ H _ I h=>Constant_bool ⟨.bl b,H,I,rfl,h⟩
theorem CJ{j pos}:PE X (.Constant .none j pos) (tC .non):=λ_ _ _ H _ I h=>Constant_none ⟨.non,H,I,rfl,h⟩
theorem CK{x j pos}:PE X (.Constant (.str x) j pos) (tC (.str x)):=λ_ _ _ H _ I h=>Calls.Constant_str ⟨.str x,H,I.tok _,⟨_,rfl⟩,h⟩
noncomputable def Gl(X:Cx)(x:Str):Prop:=X.env.kindOf x=some .globalImplicit
theorem AY{E:Value→Shared→Prop}{pins:List (Addr×Obj)}{s:Shared}{σ:St}{H:Hp}{x:Str}{u:Value}{pos:Pos}{Q:Value→Shared→Prop}(I:Inv X pins σ H s)(hg:Gl X x)(hm:X.mg x=some u)(h:Q u s)
  (hd:(x==("__debug__":Str))=false:=by decide):wpAny (model X.prog X.w) X.A (eval (.Name x pos) X.env) Q E s:=
 Calls.Name_function_global I.ok.kind hg (Calls.loadGlobal_global (by rw[I.ok.glob];exact I.mod.glob.keeps I.bk) hm h) hd
theorem oQ{E:Value→Shared→Prop}{pins:List (Addr×Obj)}{s:Shared}{σ:St}{H:Hp}{x:Str}{u:Value}{pos:Pos}{Q:Value→Shared→Prop}(I:Inv X pins σ H s)(hg:Gl X x)(hm:X.mg x=none)(hv:bootBuiltins x=some u)(h:Q u s)
  (hn:x≠"__name__":=by decide)(hd:(x==("__debug__":Str))=false:=by decide):wpAny (model X.prog X.w) X.A (eval (.Name x pos) X.env) Q E s:=by
 obtain⟨mb,h1,h2⟩:=I.mod.blt
 exact Calls.Name_function_global I.ok.kind hg (Calls.loadGlobal_builtin (by rw[I.ok.glob];exact I.mod.glob.keeps I.bk) hm (by rw[I.ok.blt];exact h1.keeps I.bk) ((h2 x hn).trans hv) h) hd
theorem AZ{x:Str}{v:V}{u:Value}{pos:Pos}(hg:Gl X x)(hm:X.mg x=none)(hv:bootBuiltins x=some u)(r:RelV v u)(hn:x≠"__name__":=by decide)(hd:(x==("__debug__":Str))=false:=by decide):PE X (.Name x pos) (tC v):=
 λ_ _ _ H _ I h=>oQ I hg hm hv ⟨v,H,I,r,h⟩ hn hd
variable{a b:Expr}{ta tb:TE}{pos:Pos}
noncomputable def tB(t:TE):TT:=λσ H Q=>t σ H λx H1=>∃c,x= .bl c∧Q c H1
theorem CL{e:Expr}{t:TE}(h:PE X e t)(he:∀whole,isTrue e X.env whole=(do let v←whole;standAt e.pos;holding [v] (truthy v)):=by intro _;rfl):PT X e (tB t):=by
 intro pins s σ H Q I hw
 refine isTrue_plain (thn (h pins s σ H _ I hw) λv s1 ⟨x,H1,I1,r1,q1⟩=> ?_) (he _)
 obtain⟨d,rfl,q⟩:=q1
 cases r1
 exact Gdf ⟨H1,I1,q⟩
variable{tA tB' :TT}{rest:List Expr}
noncomputable def GO(t u:TT):TT:=λσ H Q=>t σ H λc H1=>if c=true then u σ H1 Q else Q false H1
noncomputable def tOr(t u:TT):TT:=λσ H Q=>t σ H λc H1=>if c=true then Q true H1 else u σ H1 Q
noncomputable def GP(t:TT):TT:=λσ H Q=>t σ H λc H1=>Q (!c) H1
theorem B0(ha:PT X a tA):PW X (.BoolOp .And [a] pos) tA:=by
 intro wh pins s σ H Q I h
 refine isTrue_and (thn (ha pins s σ H Q I h) λc s1 e=> ?_)
 cases c with
 |true=>exact isTrue_and_nil e
 |false=>exact e
theorem CM(ha:PT X a tA):PW X (.BoolOp .Or [a] pos) tA:=by
 intro wh pins s σ H Q I h
 refine isTrue_or (thn (ha pins s σ H Q I h) λc s1 e=> ?_)
 cases c with
 |false=>exact isTrue_or_nil e
 |true=>exact e
theorem CN(ha:PT X a tA)(hb:PW X (.BoolOp .And (b::rest) pos) tB'):PW X (.BoolOp .And (a::b::rest) pos) (GO tA tB'):=by
 intro wh pins s σ H Q I h
 refine isTrue_and (thn (ha pins s σ H _ I h) λc s1 ⟨H1,I1,q1⟩=> ?_)
 cases c with
 |true=>exact hb wh pins s1 σ H1 Q I1 q1
 |false=>exact⟨H1,I1,q1⟩
theorem EZ(ha:PT X a tA)(hb:PW X (.BoolOp .Or (b::rest) pos) tB'):PW X (.BoolOp .Or (a::b::rest) pos) (tOr tA tB'):=by
 intro wh pins s σ H Q I h
 refine isTrue_or (thn (ha pins s σ H _ I h) λc s1 ⟨H1,I1,q1⟩=> ?_)
 cases c with
 |true=>exact⟨H1,I1,q1⟩
 |false=>exact hb wh pins s1 σ H1 Q I1 q1
theorem CO(ha:PT X a tA):PT X (.UnaryOp .Not a pos) (GP tA):=by
 intro pins s σ H Q I h
 exact isTrue_not (ha pins s σ H (λc H1=>Q (!c) H1) I h)
noncomputable def F0(ta tb:TE):TE:=λσ H Q=>ta σ H λx H1=>∃c,x= .bl c∧if c=true then tb σ H1 Q else Q (.bl false) H1
noncomputable def F1(ta:TE):TE:=λσ H Q=>ta σ H λx H1=>∃c,x= .bl c∧Q (.bl (!c)) H1
theorem CP{op}{t:TE}(h:PE X a t):PE X (.BoolOp op [a] pos) t:=λpins s σ H Q I hw=>BoolOp_one (h pins s σ H Q I hw)
theorem CQ(ha:PE X a ta)(hb:PE X (.BoolOp .And (b::rest) pos) tb):PE X (.BoolOp .And (a::b::rest) pos) (F0 ta tb):=by
 intro pins s σ H Q I h
 refine BoolOp_and (thn (ha pins s σ H _ I h) λv s1 ⟨x,H1,I1,r1,q1⟩=> ?_)
 obtain⟨c,rfl,q1⟩:=q1
 cases r1
 refine Gdf ?_
 cases c with
 |true=>exact hb pins s1 σ H1 Q I1 q1
 |false=>exact⟨.bl false,H1,I1,rfl,q1⟩
theorem CS(ha:PE X a ta):PE X (.UnaryOp .Not a pos) (F1 ta):=by
 intro pins s σ H Q I h
 refine UnaryOp_ (thn (ha pins s σ H _ I h) λv s1 ⟨x,H1,I1,r1,q1⟩=> ?_)
 obtain⟨c,rfl,q1⟩:=q1
 cases r1
 exact not_of (Gdf ⟨.bl (!c),H1,I1,rfl,q1⟩)
end
noncomputable def SqL(K:PySem.W.Frag)(H:Hp)(a:Addr)(xs:List V):Prop:=
 Rd H a (.lst xs)∨
  ∃(o:Obj) (its:Array Value) (n:Nat),K.lookup a=some o∧o.cls= .type "list"∧o.dict=none∧o.data= .seq its n∧its.size≤sizeLine∧Vals xs its.toList
noncomputable def SqT(K:PySem.W.Frag)(H:Hp)(a:Addr)(xs:List V):Prop:=
 Rd H a (.tup xs)∨
  ∃(o:Obj) (its:Array Value) (n:Nat),K.lookup a=some o∧o.cls= .type "tuple"∧o.data= .seq its n∧its.size≤sizeLine∧Vals xs its.toList
noncomputable def GQ:Value→Option V
 | .none=>some .non
 | .bool b=>some (.bl b)
 | .int i _=>some (.int i)
 | .str x _=>some (.str x)
 | .bytes b _=>some (.byt b)
 | .float b _=>some (.flt b)
 | .ref a=>some (.ref a)
 | .type n=>some (.ty n)
 |_=>none
theorem RelV.abs{x:V}{u:Value}(r:RelV x u):GQ u=some x:=by
 cases x with
 |non=>cases r;rfl
 |bl _=>cases r;rfl
 |int _=>obtain⟨t,rfl⟩:=r;rfl
 |str _=>obtain⟨t,rfl⟩:=r;rfl
 |byt _=>obtain⟨t,rfl⟩:=r;rfl
 |flt _=>obtain⟨t,rfl⟩:=r;rfl
 |ref _=>cases r;rfl
 |ty _=>cases r;rfl
theorem RelV.inj{x y:V}{u:Value}(r:RelV x u)(q:RelV y u):x=y:=Option.some.inj (r.abs.symm.trans q.abs)
theorem Vals.inj:∀{xs ys:List V} {us:List Value},Vals xs us→Vals ys us→xs=ys
 |_,_,_,.nil,.nil=>rfl
 |_,_,_,.cons r t,.cons r' t' =>by rw[r.inj r',Vals.inj t t']
section
variable{X:Cx}{pins:List (Addr×Obj)}{σ:St}{H:Hp}{s:Shared}{a:Addr}{xs ys:List V}
theorem SqL.of{K:PySem.W.Frag}(h:H a=some (.lst xs)):SqL K H a xs:= .inl (.inl h)
theorem SqT.of{K:PySem.W.Frag}(h:H a=some (.tup xs)):SqT K H a xs:= .inl (.inl h)
theorem Inv.list(I:Inv X pins σ H s)(h:SqL X.K H a xs):∃its:List Value,Vals xs its∧PlainL s.heap a its.toArray∧xs.length≤sizeLine:=by
 rcases h with h| ⟨o,its,n,hk,hc,hd,hs,hz,r⟩
 ·obtain⟨z,its,n,r,e⟩:=h.ok I.hok
  exact⟨its,r,⟨_,n,e,rfl,rfl,rfl⟩,z⟩
 ·refine⟨its.toList,r,⟨o,n,I.kIn a o hk,hc,hd,by simpa using hs⟩, ?_⟩
  have e:=r.length
  simp only[GaC] at e
  omega
theorem Inv.tuple(I:Inv X pins σ H s)(h:SqT X.K H a xs):∃its:List Value,Vals xs its∧IsTup s.heap a its.toArray∧xs.length≤sizeLine:=by
 rcases h with h| ⟨o,its,n,hk,hc,hs,hz,r⟩
 ·obtain⟨z,its,r,p⟩:=h.ok I.hok
  exact⟨its,r,p,z⟩
 ·refine⟨its.toList,r,⟨o,I.kIn a o hk,hc,n,by simpa using hs⟩, ?_⟩
  have e:=r.length
  simp only[GaC] at e
  omega
theorem Inv.vR(I:Inv X pins σ H s)(h:SqL X.K H a xs)(h' :SqL X.K H a ys):xs=ys:=by
 obtain⟨its,r,⟨o,n,e,_,_,d⟩,_⟩:=I.list h
 obtain⟨its',r',⟨o',n',e',_,_,d'⟩,_⟩:=I.list h'
 rw[e] at e';cases e'
 rw[d] at d'
 injection d' with d1 _
 have:its=its' :=by simpa using congrArg Array.toList d1
 subst this
 exact r.inj r'
theorem Inv.uz(I:Inv X pins σ H s)(h:SqT X.K H a xs)(h' :SqT X.K H a ys):xs=ys:=by
 obtain⟨its,r,⟨o,e,_,n,d⟩,_⟩:=I.tuple h
 obtain⟨its',r',⟨o',e',_,n',d'⟩,_⟩:=I.tuple h'
 rw[e] at e';cases e'
 rw[d] at d'
 injection d' with d1 _
 have:its=its' :=by simpa using congrArg Array.toList d1
 subst this
 exact r.inj r'
end
noncomputable abbrev Cx.lh (X:Cx) (E:Value→Shared→Prop):Cx:={X with xe:=E}
noncomputable abbrev Cx.nox (X:Cx):Cx:=X.lh λ_ _=>False
theorem Cx.Ok.lh{X:Cx}(ok:X.Ok)(E:Value→Shared→Prop):(X.lh E).Ok:=
 ⟨ok.mod,ok.kind,ok.glob,ok.blt,ok.above,ok.inj,ok.has,ok.cab,ok.hd,ok.frames,ok.stk,ok.exf,ok.bs,ok.bsz,ok.AS,ok.AU,ok.lg,ok.frf⟩
theorem Cx.Ok.fu{X:Cx}{E:Value→Shared→Prop}(ok:(X.lh E).Ok):X.Ok:=
 ⟨ok.mod,ok.kind,ok.glob,ok.blt,ok.above,ok.inj,ok.has,ok.cab,ok.hd,ok.frames,ok.stk,ok.exf,ok.bs,ok.bsz,ok.AS,ok.AU,ok.lg,ok.frf⟩
section
variable{X:Cx}{pins:List (Addr×Obj)}{σ:St}{H:Hp}{s:Shared}{E:Value→Shared→Prop}
theorem Inv.lh(I:Inv X pins σ H s)(E:Value→Shared→Prop):Inv (X.lh E) pins σ H s:=⟨I.ok.lh E,I.os,I.bare,I.base,I.loc,I.cell,I.free,I.ie,I.pin,I.hok,I.len⟩
theorem Inv.fu(I:Inv (X.lh E) pins σ H s):Inv X pins σ H s:=⟨I.ok.fu,I.os,I.bare,I.base,I.loc,I.cell,I.free,I.ie,I.pin,I.hok,I.len⟩
theorem SP.fu{D:Ends}{f:Flow}{s' :Shared}(h:SP (X.lh E) pins D f s'):SP X pins D f s' :=by
 cases f with
 |next=>obtain⟨σ',H',I,q⟩:=h;exact⟨σ',H',I.fu,q⟩
 |brk=>obtain⟨σ',H',I,q⟩:=h;exact⟨σ',H',I.fu,q⟩
 |cont=>obtain⟨σ',H',I,q⟩:=h;exact⟨σ',H',I.fu,q⟩
 |ret u=>obtain⟨v,σ',H',I,r,q⟩:=h;exact⟨v,σ',H',I.fu,r,q⟩
theorem PE.nox{e:Expr}{t:TE}(h:PE X.nox e t):PE X e t:=λpins s σ H Q I hw=>
 GbU (h pins s σ H Q (I.lh _) hw) (λ_ _ ⟨v,H',I',r,q⟩=> ⟨v,H',I'.fu,r,q⟩) λ_ _ z=>False.elim z
theorem PT.nox{e:Expr}{t:TT}(h:PT X.nox e t):PT X e t:=λpins s σ H Q I hw=>
 GbU (h pins s σ H Q (I.lh _) hw) (λ_ _ ⟨H',I',q⟩=> ⟨H',I'.fu,q⟩) λ_ _ z=>False.elim z
theorem PSs.nox{st:List Stmt}{t:TS}(h:PSs X.nox st t):PSs X st t:=λpins s σ H D I hw=>
 GbU (h pins s σ H D (I.lh _) hw) (λ_ _ q=>q.fu) λ_ _ z=>False.elim z
end
section
variable{X:Cx}{st:Stmt}{rest:List Stmt}{t u:TS}{e:Expr}{te:TE}{pos:Pos}
noncomputable def F2:TS:=λD σ H=>D.nx σ H
noncomputable def GR(t u:TS):TS:=λD σ H=>t {D with nx:=u D} σ H
theorem B1:PSs X [] F2:=λ_ _ σ H _ I h=>wpAny_execs_nil ⟨σ,H,I,h⟩
theorem vS(h1:PS X st t)(h2:PSs X rest u):PSs X (st::rest) (GR t u):=by
 intro pins s σ H D I h
 refine wpAny_execs_cons (thn (h1 pins s σ H {D with nx:=u D} I h) λf s1 q=> ?_)
 cases f with
 |next=>
  obtain⟨σ',H',I',q⟩:=q
  exact h2 pins s1 σ' H' D I' q
 |ret v=>exact q
 |brk=>exact q
 |cont=>exact q
theorem B2(h1:PS X st t):PSs X [st] t:=by
 intro pins s σ H D I h
 refine wpAny_execs_cons (thn (h1 pins s σ H D I h) λf s1 q=> ?_)
 cases f with
 |next=>exact wpAny_execs_nil q
 |ret v=>exact q
 |brk=>exact q
 |cont=>exact q
theorem Inv.quiet{pins:List (Addr×Obj)}{σ:St}{H:Hp}{s:Shared}(I:Inv X pins σ H s):interactive X.env=false:=by simp[interactive,I.ok.kind]
noncomputable def F3(te:TE):TS:=λD σ H=>te σ H λ_ H1=>D.nx σ H1
theorem oR(he:PE X e te)(hs:swapsWith e none pos.line X.env=pure false:=by rfl):PS X (.Expr e pos) (F3 te):=by
 intro pins s σ H D I h
 exact wpAny_Expr_any (thn (he pins s σ H _ I h) λv s1 ⟨x,H1,I1,r1,q1⟩=> ⟨σ,H1,I1,q1⟩) I.quiet hs
noncomputable def GS(te:TE):TS:=λD σ H=>te σ H D.rt
theorem CT(he:PE X e te):PS X (.Return (some e) pos) (GS te):=by
 intro pins s σ H D I h
 exact wpAny_Return_some (thn (he pins s σ H _ I h) λv s1 ⟨x,H1,I1,r1,q1⟩=> ⟨x,σ,H1,I1,r1,q1⟩)
noncomputable def GU(c:TT)(t u:TS):TS:=λD σ H=>c σ H λb H1=>if b=true then t D σ H1 else u D σ H1
theorem F4{c:Expr}{a b:List Stmt}{tc:TT}(hc:PT X c tc)(ha:PSs X a t)(hb:PSs X b u):PS X (.If c a b pos) (GU tc t u):=by
 intro pins s σ H D I h
 refine wpAny_If (thn (hc pins s σ H _ I h) λd s1 ⟨H1,I1,q1⟩=> ?_)
 cases d with
 |true=>exact ha pins s1 σ H1 D I1 q1
 |false=>exact hb pins s1 σ H1 D I1 q1
end
noncomputable abbrev TG:=V→St→Hp→(St→Hp→Prop)→Prop
noncomputable abbrev TGs:=List V→St→Hp→(St→Hp→Prop)→Prop
noncomputable def PG(X:Cx)(target:Expr)(t:TG):Prop:=
 ∀(pins:List (Addr×Obj)) (s:Shared) (σ:St) (H:Hp) (v:V) (u:Value) (Q:St→Hp→Prop),Inv X pins σ H s→RelV v u→t v σ H Q→
  wpAny (model X.prog X.w) X.A (assign target X.env u) (λ_ s' =>∃σ' H',Inv X pins σ' H' s' ∧Q σ' H') X.xe s
noncomputable def PGs(X:Cx)(ts:List Expr)(t:TGs):Prop:=
 ∀(pins:List (Addr×Obj)) (s:Shared) (σ:St) (H:Hp) (vs:List V) (us:List Value) (Q:St→Hp→Prop),Inv X pins σ H s→Vals vs us→t vs σ H Q→
  wpAny (model X.prog X.w) X.A (assignInOrder ((assignEach ts X.env).map (·.2)) us) (λ_ s' =>∃σ' H',Inv X pins σ' H' s' ∧Q σ' H') X.xe s
noncomputable abbrev GV:=V→V→V→Hp→(Hp→Prop)→Prop
noncomputable def F5(X:Cx)(t:GV):Prop:=
 ∀(pins:List (Addr×Obj)) (s:Shared) (σ:St) (H:Hp) (o i v:V) (ov iv u:Value) (Q:Hp→Prop),Inv X pins σ H s→RelV o ov→RelV i iv→RelV v u→t o i v H Q→
  wpAny (model X.prog X.w) X.A (setItem ov iv u) (λ_ s' =>∃H',Inv X pins σ H' s' ∧Q H') X.xe s
section
variable{X:Cx}{pos:Pos}
noncomputable def Ci(i:Nat):TG:=λv σ H Q=>Q (σ.set i (some v)) H
theorem B3{i:Nat}{x:Str}(hN:X.N.Nodup)(hi:X.N[i]? =some x)(hx:Loc X.env.scope x)(hf:X.fn x=true∨X.env.scope.names.lookup x=some .local:=by first|exact .inl rfl|exact .inr rfl|assumption):PG X (.Name x pos) (Ci i):=by
 intro pins s σ H v u Q I r h
 exact wpAny_assign_Name (pU I hN hi hx r (λs' I' => ⟨_,H,I',h⟩) hf)
noncomputable def GW(te:TE)(g:TG):TS:=λD σ H=>te σ H λx H1=>g x σ H1 D.nx
theorem CU{i:Nat}{x:Str}{e:Expr}{te:TE}{pos' :Pos}(hN:X.N.Nodup)(hi:X.N[i]? =some x)(hx:Loc X.env.scope x)(he:PE X e te)(hs:swapsWith e (some (.Name x pos')) pos.line X.env=pure false:=by rfl)(hf:X.fn x=true∨X.env.scope.names.lookup x=some .local:=by first|exact .inl rfl|exact .inr rfl|assumption):
  PS X (.Assign [.Name x pos'] e pos) (GW te (Ci i)):=by
 intro pins s σ H D I h
 refine wpAny_Assign_Name (thn (he pins s σ H _ I h) λv s1 ⟨y,H1,I1,r1,q1⟩=> ?_) hs
 exact pU I1 hN hi hx r1 (λs2 I2=> ⟨_,H1,I2,q1⟩) hf
end
structure It where
 go:Nat→Hp→Prop
 yld:Nat→Hp→V→Hp→Prop
 stop:Nat→Hp→Prop
noncomputable def jP(X:Cx)(pins:List (Addr×Obj))(H:Hp)(b:Addr):Prop:=
 H b=none∧b≠X.env.locals∧b∉X.fs∧(b∈X.ex∨X.s₀.heap.objs.size≤b)∧(∀x c,X.env.cells.lookup x=some c→c≠b)∧∀p∈X.pn++pins,p.1≠b
theorem Inv.CV{X:Cx}{pins:List (Addr×Obj)}{σ:St}{H H' :Hp}{s:Shared}{b:Addr}(I:Inv X pins σ H s)(hb:s.heap.objs.size≤b)(hn:H' b=none):jP X pins H' b:=by
 refine⟨hn,Gbg (GaG I.lt hb),I.GN hb,.inr (GbQ I.sz hb),λx c e z=> ?_,λp hp z=> ?_⟩
 ·obtain⟨v,q⟩:=I.cell x c e
  exact absurd (GaG q.lt (by rw[z];exact hb)) (Gbt _)
 ·exact absurd (GaG (Gam (I.pin p hp).1) (by rw[z];exact hb)) (Gbt _)
structure Turn(P:Program)(w:World)(K:PySem.W.Frag)(tg:Expr)(J:It)(fp:List Addr)(it:Addr)(tn:Nat→Heap→Prop):Prop where
 mem:it∈fp
 obj:∀i h,tn i h→∀b∈fp,∃o,h.get? b=some o∧∀v,o.data≠ .cell v
 keep:∀i h h',tn i h→(∀b∈fp,∀o,h.get? b=some o→h'.get? b=some o)→tn i h'
 item:∀(X:Cx),X.prog=P→X.w=w→X.K=K→X.calm=true→∀(i:Nat) (pins:List (Addr×Obj)) (s:Shared) (σ:St) (H:Hp) (E:Value→Shared→Prop),Inv X pins σ H s→(∀b∈fp,jP X pins H b)→tn i s.heap→J.go i H→
  wpAny (model P w) X.A (pyNext (.ref it)) (λr s1=>∃u,r=some u∧
   wpAny (model P w) X.A (letOwnedTupleGo tg (.ref it) u) (λ_ s2=>∃x H',Inv X pins σ H' s2∧RelV x u∧J.yld i H x H' ∧tn (i+1) s2.heap∧∀b∈fp,H' b=none) E s1) E s
 done:∀(X:Cx),X.prog=P→X.w=w→X.K=K→X.calm=true→∀(i:Nat) (pins:List (Addr×Obj)) (s:Shared) (σ:St) (H:Hp) (E:Value→Shared→Prop),Inv X pins σ H s→(∀b∈fp,jP X pins H b)→tn i s.heap→J.stop i H→
  wpAny (model P w) X.A (pyNext (.ref it)) (λr s1=>r=none∧Inv X pins σ H s1) E s
 self:∀(A:Around) (i:Nat) (s:Shared) (Q:Value→Shared→Prop) (E:Value→Shared→Prop),tn i s.heap→Q (.ref it) s→wpAny (model P w) A (pyIter (.ref it)) Q E s
noncomputable abbrev TI:=St→Hp→(It→Hp→Prop)→Prop
noncomputable def PIE(X:Cx)(pins:List (Addr×Obj))(σ:St)(tg:Expr)(R:It→Hp→Prop)(itv:Value)(s2:Shared):Prop:=
 ∃(it:Addr) (fp:List Addr) (tn:Nat→Heap→Prop) (J:It) (H' :Hp),itv= .ref it∧Inv X pins σ H' s2∧Turn X.prog X.w X.K tg J fp it tn∧tn 0 s2.heap∧(∀b∈fp,jP X pins H' b)∧R J H'
noncomputable def PI(X:Cx)(tg iter:Expr)(wi:TI):Prop:=
 ∀(pins:List (Addr×Obj)) (s:Shared) (σ:St) (H:Hp) (R:It→Hp→Prop),Inv X pins σ H s→wi σ H R→
  wpAny (model X.prog X.w) X.A (eval iter X.env) (λv s1=>wpAny (model X.prog X.w) X.A (pyIter v) (PIE X pins σ tg R) X.xe s1) X.xe s
theorem vT{M:Model}{A:Around}{E:Value→Shared→Prop}{s:Shared}{tg:Expr}{it:Addr}{u:Value}{o:Obj}{n:String}{vs:Array Value}{Q:Unit→Shared→Prop}(ho:s.heap.get? it=some o)(hc:o.cls= .type n)(hd:o.data= .fields vs)
  (hn:["enumerate","zip","dict_itemiterator","dict_reverseitemiterator","odict_iterator","itertools.zip_longest","itertools.pairwise"].contains n=false)(hQ:Q () s):wpAny M A (letOwnedTupleGo tg (.ref it) u) Q E s:=by
 unfold letOwnedTupleGo
 cases tg<;>first
  |exact Gab hQ
  |(cases u<;>first
    |exact Gab hQ
    |(refine Gaa (wpAny_load ho ?_)
      rw[hc,hd]
      show wpAny M A (if(["enumerate","zip","dict_itemiterator","dict_reverseitemiterator","odict_iterator","itertools.zip_longest","itertools.pairwise"].contains n&&vs[0]? ==some (rawInt _))=true then _ else _) Q E s
      rw[Gae (by intro h;rw[hn,Bool.false_and] at h;cases h)]
      exact Gab hQ))
noncomputable def Itl(K:PySem.W.Frag)(a:Addr):It:=
 ⟨λi H=>∃xs x,SqL K H a xs∧xs[i]? =some x,λi H x H' =>H' =H∧∀xs,SqL K H a xs→xs[i]? =some x,λi H=>∃xs,SqL K H a xs∧xs.length≤i⟩
noncomputable def Itt(K:PySem.W.Frag)(a:Addr):It:=
 ⟨λi H=>∃xs x,SqT K H a xs∧xs[i]? =some x,λi H x H' =>H' =H∧∀xs,SqT K H a xs→xs[i]? =some x,λi H=>∃xs,SqT K H a xs∧xs.length≤i⟩
noncomputable def Itr(lo:Int)(n:Nat):It:=⟨λi _=>i<n,λi H x H' =>H' =H∧x= .int (lo+i),λi _=>n≤i⟩
theorem uA{P:Program}{w:World}{K:PySem.W.Frag}{tg:Expr}(a it:Addr):Turn P w K tg (Itl K a) [it] it (λi h=>h.IsListIter it a i) where
 mem:=by simp
 obj:=λi h st b hb=>by
  have e:b=it:=by simpa using hb
  subst e
  obtain⟨o,e,c,d⟩:=st
  exact⟨o,e,λv z=>by rw[d] at z;cases z⟩
 keep:=λi h h' st k=>st.at λo e=>k it (by simp) o e
 item:=by
  intro X hP hw hK hc i pins s σ H E I hf st hg
  subst hP hw hK
  obtain⟨xs,x,hq,hx⟩:=hg
  obtain⟨its,rv,p,hz⟩:=I.list hq
  obtain⟨u,hu,ru⟩:=rv.get hx
  obtain⟨f0,f1,f2,f3,f4,f5⟩:=hf it (by simp)
  refine wpAny_pyNext_list_item st p.isList (x:=u) (by simpa using hu) λh' st' sb=> ?_
  have I1:Inv X pins σ H {s with heap:=h' }:=I.turned (t' :=s.toks) (λb o hb e=>(sb.2 b hb).trans e) f0 f1 f3 f4 f5
  obtain⟨o,e,c,d⟩:=id st'
  exact⟨u,rfl,vT (s:={s with heap:=h' }) e c d (by decide) ⟨x,H,I1,ru,⟨rfl,λys hy=>by rw[I.vR hy hq];exact hx⟩,st',λb hb=>(hf b hb).1⟩⟩
 done:=by
  intro X hP hw hK hc i pins s σ H E I hf st hg
  subst hP hw hK
  obtain⟨xs,hq,hx⟩:=hg
  obtain⟨its,rv,p,hz⟩:=I.list hq
  obtain⟨f0,f1,f2,f3,f4,f5⟩:=hf it (by simp)
  have hl:=rv.length
  exact wpAny_pyNext_list_end (I.ok.hd hc) st p.isList (by simp;omega) λh' eb=> ⟨rfl,I.turned (t' :=s.toks) (λb o hb e=>eb b o hb e) f0 f1 f3 f4 f5⟩
 self:=λ_ _ _ _ _ st h=>wpAny_pyIter_listiter st h
theorem rD{P:Program}{w:World}{K:PySem.W.Frag}{tg:Expr}(a it:Addr):Turn P w K tg (Itt K a) [it] it (λi h=>h.IsTupleIter it a i) where
 mem:=by simp
 obj:=λi h st b hb=>by
  have e:b=it:=by simpa using hb
  subst e
  obtain⟨o,e,c,d⟩:=st
  exact⟨o,e,λv z=>by rw[d] at z;cases z⟩
 keep:=λi h h' st k=>st.at λo e=>k it (by simp) o e
 item:=by
  intro X hP hw hK hc i pins s σ H E I hf st hg
  subst hP hw hK
  obtain⟨xs,x,hq,hx⟩:=hg
  obtain⟨its,rv,p,hz⟩:=I.tuple hq
  obtain⟨u,hu,ru⟩:=rv.get hx
  obtain⟨f0,f1,f2,f3,f4,f5⟩:=hf it (by simp)
  refine wpAny_pyNext_tuple_item st (show s.heap.IsTuple a its.toArray from p) (x:=u) (by simpa using hu) λh' st' sb=> ?_
  have I1:Inv X pins σ H {s with heap:=h' }:=I.turned (t' :=s.toks) (λb o hb e=>(sb.2 b hb).trans e) f0 f1 f3 f4 f5
  obtain⟨o,e,c,d⟩:=id st'
  exact⟨u,rfl,vT (s:={s with heap:=h' }) e c d (by decide) ⟨x,H,I1,ru,⟨rfl,λys hy=>by rw[I.uz hy hq];exact hx⟩,st',λb hb=>(hf b hb).1⟩⟩
 done:=by
  intro X hP hw hK hc i pins s σ H E I hf st hg
  subst hP hw hK
  obtain⟨xs,hq,hx⟩:=hg
  obtain⟨its,rv,p,hz⟩:=I.tuple hq
  obtain⟨f0,f1,f2,f3,f4,f5⟩:=hf it (by simp)
  have hl:=rv.length
  exact wpAny_pyNext_tuple_end (I.ok.hd hc) st (show s.heap.IsTuple a its.toArray from p) (by simp;omega) λh' eb=> ⟨rfl,I.turned (t' :=s.toks) (λb o hb e=>eb b o hb e) f0 f1 f3 f4 f5⟩
 self:=λ_ _ _ _ _ st h=>wpAny_pyIter_tupleiter st h
theorem rE{P:Program}{w:World}{K:PySem.W.Frag}{tg:Expr}(it:Addr)(lo:Int)(n:Nat):Turn P w K tg (Itr lo n) [it] it (λi h=>IsRangeIter h it (lo+(i:Nat)*1) ((n:Int)-(i:Nat)) 1) where
 mem:=by simp
 obj:=λi h st b hb=>by
  have e:b=it:=by simpa using hb
  subst e
  exact⟨_,st,λv z=>by
   have z' :Data.fields _=Data.cell v:=z
   cases z'⟩
 keep:=λi h h' st k=>k it (by simp) _ st
 item:=by
  intro X hP hw hK hc i pins s σ H E I hf st hg
  subst hP hw hK
  obtain⟨f0,f1,f2,f3,f4,f5⟩:=hf it (by simp)
  have W:=Walks.range (prog:=X.prog) (w:=X.w) (I.ok.hd hc) it lo 1 n
  refine W.item i s _ _ hg st λv h' tk hv st' kk=> ?_
  obtain⟨t,rfl⟩:=hv
  have I1:Inv X pins σ H {s with heap:=h',toks:=tk}:=I.turned (λb o hb e=>kk b o (by simpa using hb) e) f0 f1 f3 f4 f5
  refine⟨_,rfl,vT (s:={s with heap:=h',toks:=tk}) (n:="range_iterator") st' rfl rfl (by decide) ⟨.int (lo+i),H,I1,⟨t, ?_⟩,⟨rfl,rfl⟩,st',λb hb=>(hf b hb).1⟩⟩
  rw[Int.mul_one]
 done:=by
  intro X hP hw hK hc i pins s σ H E I hf st hg
  subst hP hw hK
  obtain⟨f0,f1,f2,f3,f4,f5⟩:=hf it (by simp)
  exact wpAny_pyNext_range_end (I.ok.hd hc) st (by have:n≤i:=hg;omega) λh' eb=> ⟨rfl,I.turned (t' :=s.toks) (λb o hb e=>eb b o hb e) f0 f1 f3 f4 f5⟩
 self:=λ_ _ _ _ _ st h=>wpAny_pyIter_rangeiter st h
section
variable{X:Cx}{tg:Expr}
theorem lT{pins:List (Addr×Obj)}{σ:St}{H:Hp}{s:Shared}{R:It→Hp→Prop}{E:Value→Shared→Prop}{lo hi:Int}{t u v:Tok}{tk:Nat}(I:Inv X pins σ H s)(h1: -(2^62)≤lo)(h2:lo<2^62)(h3: -(2^62)≤hi)(h4:hi<2^62)
  (q:R (Itr lo (hi -lo).toNat) H):wpAny (model X.prog X.w) X.A (pyIter (.ref s.heap.objs.size)) (PIE X pins σ tg R) E {s with heap:=s.heap.push {cls:= .type "range",data:= .fields #[.int lo t,.int hi u,.int 1 v]},toks:=tk}:=by
 refine wpAny_pyIter_range (IsRange.new ..) (small_one h1 h2 h3 h4) ?_
 have I1:Inv X pins σ H {s with heap:=s.heap.push {cls:= .type "range",data:= .fields #[.int lo t,.int hi u,.int 1 v]},toks:=tk}:=I.kept λb o e=>Gad _ e
 refine⟨(s.heap.push {cls:= .type "range",data:= .fields #[.int lo t,.int hi u,.int 1 v]}).objs.size,[(s.heap.push {cls:= .type "range",data:= .fields #[.int lo t,.int hi u,.int 1 v]}).objs.size],_,_,H,rfl,
  I1.kept (t' :=tk) λb o e=>Gad _ e,rE _ lo (hi -lo).toNat, ?_,λb hb=> ?_,q⟩
 ·have e1:lo+((0:Nat):Int)*1=lo:=by simp
  have e2:(((hi -lo).toNat:Nat):Int)-((0:Nat):Int)=Builtin.Range.rangeSize lo hi 1:=by rw[rangeSize_one];split<;>omega
  show IsRangeIter _ _ (lo+((0:Nat):Int)*1) ((((hi -lo).toNat:Nat):Int)-((0:Nat):Int)) 1
  rw[e1,e2]
  exact Gan _ rfl
 ·have e:b=(s.heap.push {cls:= .type "range",data:= .fields #[.int lo t,.int hi u,.int 1 v]}).objs.size:=by simpa using hb
  subst e
  exact I1.CV (Gau _) (I1.hok.fresh (Gau _))
noncomputable def F6(ta:TA):TI:=λσ H R=>ta σ H λvs H1=>∃j:Int,vs=[.int j]∧-(2^62)≤j∧j<2^62∧R (Itr 0 j.toNat) H1
theorem uB{a:Expr}{ta:TA}{p pos:Pos}(hg:Gl X "range")(hm:X.mg "range"=none)(ha:PA X [a] ta)(hs:starEach [a] X.env=[(false,eval a X.env)]:=by rfl):PI X tg (.Call (.Name "range" p) [a] [] pos) (F6 ta):=by
 intro pins s σ H R I h
 refine Call_ (oQ I hg hm boot_range (PyProof.Rows.callWith_type1 (thn (ha pos pins s σ H _ I h) λus s1 ⟨vs,H1,I1,r1,q1⟩=> ?_) hs rfl))
 obtain⟨j,e,q1,q2,q⟩:=q1
 subst e
 cases r1 with
 |cons r rr=>
  cases rr
  obtain⟨t,rfl⟩:=r
  exact call_range_1 (lT I1 (by omega) (by omega) q1 q2 (by simpa using q))
noncomputable def GX(wi:TI)(g:TG)(tb:TS):TS:=λD σ H=>wi σ H λJ H1=>∃W:Nat→Nat→St→Hp→Prop,(∃m,W 0 m σ H1)∧∀i m σ H,W i m σ H→
 (J.stop i H∧D.nx σ H)∨(J.go i H∧∃N:St→Hp→Prop,(∀σ' H',N σ' H' →∃m',m' <m∧W (i+1) m' σ' H')∧∀x H',J.yld i H x H' →g x σ H' λσ2 H2=>tb {D with nx:=N,ct:=N,bk:=D.nx} σ2 H2)
noncomputable def lU(fp:List Addr)(h:Heap):List (Addr×Obj):=fp.filterMap λb=>(h.get? b).map λo=>(b,o)
theorem fT{fp:List Addr}{h:Heap}{b:Addr}{o:Obj}(hb:b∈fp)(e:h.get? b=some o):(b,o)∈lU fp h:=GdC.mpr ⟨b,hb,by rw[e];rfl⟩
theorem uC{fp:List Addr}{h:Heap}{p:Addr×Obj}(hp:p∈lU fp h):p.1∈fp∧h.get? p.1=some p.2:=by
 obtain⟨b,hb,e⟩:=GdC.mp hp
 cases q:h.get? b with
 |none=>rw[q] at e;cases e
 |some o=>
  rw[q] at e
  have e' :(b,o)=p:=Option.some.inj e
  subst e'
  exact⟨hb,q⟩
theorem Inv.pinned{pins:List (Addr×Obj)}{σ:St}{H:Hp}{s:Shared}{fp:List Addr}(I:Inv X pins σ H s)(hf:∀b∈fp,jP X pins H b)(ho:∀b∈fp,∃o,s.heap.get? b=some o∧∀v,o.data≠ .cell v):Inv X (pins++lU fp s.heap) σ H s:=
 I.t6 λp hp=>(GaQ.mp hp).elim (λz=>I.pin p (Gbl _ z)) λz=>by
  obtain⟨hb,e⟩:=uC z
  obtain⟨f0,f1,f2,_⟩:=hf p.1 hb
  obtain⟨o,e',d⟩:=ho p.1 hb
  rw[e] at e';cases e'
  exact⟨e,f0,f1,f2,d⟩
theorem Inv.jc{pins pl:List (Addr×Obj)}{σ:St}{H:Hp}{s:Shared}(I:Inv X (pins++pl) σ H s):Inv X pins σ H s:=I.t6 λp hp=>I.pin p (Gbl _ (List.mem_append_left _ hp))
theorem CW{iter:Expr}{body:List Stmt}{wi:TI}{g:TG}{tb:TS}{pos:Pos}(hp:PassesOwn (model X.prog X.w) X.A X.env X.xe)(hc:X.calm=true)(hi:PI X tg iter wi)(hg:PG X tg g)(hb:PSs X body tb)
  (hs:∀x,foldedSetIterable iter X.env x=pure x:=by intro _;rfl):PS X (.For tg iter body [] pos) (GX wi g tb):=by
 intro pins s σ H D I h
 refine wpAny_For (thn (hi pins s σ H _ I h) λv s1 h1=>thn h1 λitv s2 h2=> ?_) hs
 obtain⟨it,fp,tn,J,H2,e,I2,T,st2,f2,W,⟨m0,w0⟩,turn⟩:=h2
 subst e
 have stat:∀{H' :Hp},(∀b∈fp,H' b=none)→∀b∈fp,jP X pins H' b:=λhn b hb=> ⟨hn b hb,(f2 b hb).2⟩
 refine codeAny_forLoop_any (λn s' =>∃i σ' H',Inv X pins σ' H' s' ∧tn i s'.heap∧(∀b∈fp,H' b=none)∧W i n σ' H') ?_ m0 ⟨0,σ,H2,I2,st2,λb hb=>(f2 b hb).1,w0⟩
 rintro n s3 ⟨i,σ3,H3,I3,st3,fr3,w3⟩
 rcases turn i n σ3 H3 w3 with⟨stop,qn⟩| ⟨go,N,hN,step⟩
 ·refine Gdy hp (thn (T.done X rfl rfl rfl hc i pins s3 σ3 H3 X.xe I3 (stat fr3) st3 stop) λr s4 ⟨hr,I4⟩=> ?_)
  subst hr
  exact wpAny_execs_nil ⟨σ3,H3,I4,qn⟩
 ·refine Gdy hp (thn (T.item X rfl rfl rfl hc i pins s3 σ3 H3 X.xe I3 (stat fr3) st3 go) λr s4 ⟨u,hr,h4⟩=> ?_)
  subst hr
  refine Gdy hp (thn h4 λ_ s5 ⟨x,H5,I5,r5,y5,st5,fr5⟩=> ?_)
  have I5' :=I5.pinned (stat fr5) (T.obj _ _ st5)
  refine Gdy hp (thn (hg _ s5 σ3 H5 x u _ I5' r5 (step x H5 y5)) λ_ s6 ⟨σ6,H6,I6,q6⟩=> ?_)
  refine Gdy hp (thn (hb _ s6 σ6 H6 _ I6 q6) λf s7 q7=> ?_)
  have again:∀{σ7:St} {H7:Hp},Inv X (pins++lU fp s5.heap) σ7 H7 s7→N σ7 H7→∃m,m<n∧∃i σ' H',Inv X pins σ' H' s7∧tn i s7.heap∧(∀b∈fp,H' b=none)∧W i m σ' H' :=λ{σ7 H7} I7 n7=>by
   obtain⟨m',hm,w7⟩:=hN σ7 H7 n7
   refine⟨m',hm,i+1,σ7,H7,I7.jc,T.keep _ _ _ st5 λb hb o e=>(I7.pin (b,o) (Gbl _ (Gbl _ (fT hb e)))).1,λb hb=> ?_,w7⟩
   obtain⟨o,e,d⟩:=T.obj _ _ st5 b hb
   exact(I7.pin (b,o) (Gbl _ (Gbl _ (fT hb e)))).2.1
  cases f with
  |next=>obtain⟨σ7,H7,I7,n7⟩:=q7;exact again I7 n7
  |cont=>obtain⟨σ7,H7,I7,n7⟩:=q7;exact again I7 n7
  |brk=>obtain⟨σ7,H7,I7,q7⟩:=q7;exact⟨σ7,H7,I7.jc,q7⟩
  |ret v=>obtain⟨x7,σ7,H7,I7,r7,q7⟩:=q7;exact⟨x7,σ7,H7,I7.jc,r7,q7⟩
end
noncomputable abbrev R2:=V→V→Hp→VK→Prop
noncomputable def OpR(X:Cx)(f:Value→Value→Sem Value)(r:R2):Prop:=
 ∀(pins:List (Addr×Obj)) (s:Shared) (σ:St) (H:Hp) (x y:V) (v u:Value) (Q:VK),Inv X pins σ H s→RelV x v→RelV y u→r x y H Q→
  wpAny (model X.prog X.w) X.A (f v u) (EP X pins σ Q) X.xe s
noncomputable def cW(X:Cx)(f:Value)(r:List V→Hp→VK→Prop):Prop:=
 ∀(pins:List (Addr×Obj)) (s:Shared) (σ:St) (H:Hp) (xs:List V) (us:List Value) (Q:VK),Inv X pins σ H s→Vals xs us→r xs H Q→
  wpAny (model X.prog X.w) X.A (call f us) (EP X pins σ Q) X.xe s
noncomputable def tOp(r:R2)(ta tb:TE):TE:=λσ H Q=>ta σ H λx H1=>tb σ H1 λy H2=>r x y H2 Q
noncomputable def rI(C:Int→Int→Prop)(g:Int→Int→V):R2:=λx y H Q=>∃i j,x= .int i∧y= .int j∧C i j∧Q (g i j) H
noncomputable def rI0(g:Int→Int→V):R2:=λx y H Q=>∃i j,x= .int i∧y= .int j∧Q (g i j) H
section
variable{X:Cx}{a b c:Expr}{ta tb tc:TE}{pos:Pos}
theorem CY(ha:PE X a ta)(hb:PE X b tb){pins:List (Addr×Obj)}{s:Shared}{σ:St}{H:Hp}{R:V→V→Hp→Prop}(I:Inv X pins σ H s)
  (h:ta σ H λx H1=>tb σ H1 λy H2=>R x y H2){Q:Value→Shared→Prop}{f:Value→Value→Sem Value}
  (hf:∀v u s2 x y H2,Inv X pins σ H2 s2→RelV x v→RelV y u→R x y H2→wpAny (model X.prog X.w) X.A (f v u) Q X.xe s2):
  wpAny (model X.prog X.w) X.A (eval a X.env) (λv s₁=>wpAny (model X.prog X.w) X.A (eval b X.env) (λu s₂=>wpAny (model X.prog X.w) X.A (f v u) Q X.xe s₂) X.xe s₁) X.xe s:=by
 refine thn (ha pins s σ H _ I h) λv s1 ⟨x,H1,I1,r1,q1⟩=> ?_
 refine thn (hb pins s1 σ H1 _ I1 q1) λu s2 ⟨y,H2,I2,r2,q2⟩=> ?_
 exact hf v u s2 x y H2 I2 r1 r2 q2
theorem F7{op:Operator}{r:R2}(ho:OpR X (binaryOp op) r)(ha:PE X a ta)(hb:PE X b tb):PE X (.BinOp a op b pos) (tOp r ta tb):=by
 intro pins s σ H Q I h
 exact wpAny_BinOp (CY ha hb I h λv u s2 x y H2 I2 rx ry q=>ho pins s2 σ H2 x y v u Q I2 rx ry q)
theorem opI{f:Value→Value→Sem Value}{C:Int→Int→Prop}{g:Int→Int→Int}
  (rule:∀(i j:Int) (t u:Tok) (s:Shared) (Q:Value→Shared→Prop) (E:Value→Shared→Prop),C i j→Q (.int (g i j) s.toks) {s with toks:=s.toks+1}→wpAny (model X.prog X.w) X.A (f (.int i t) (.int j u)) Q E s):
  OpR X f (rI C λi j=> .int (g i j)):=by
 intro pins s σ H x y v u Q I rx ry h
 obtain⟨i,j,rfl,rfl,hc,q⟩:=h
 obtain⟨t,rfl⟩:=rx
 obtain⟨t',rfl⟩:=ry
 exact rule i j t t' s _ _ hc ⟨.int (g i j),H,I.tok _,⟨_,rfl⟩,q⟩
theorem F8{f:Value→Value→Sem Value}{g:Int→Int→Int}
  (rule:∀(i j:Int) (t u:Tok) (s:Shared) (Q:Value→Shared→Prop) (E:Value→Shared→Prop),Q (.int (g i j) s.toks) {s with toks:=s.toks+1}→wpAny (model X.prog X.w) X.A (f (.int i t) (.int j u)) Q E s):
  OpR X f (rI0 λi j=> .int (g i j)):=by
 intro pins s σ H x y v u Q I rx ry h
 obtain⟨i,j,rfl,rfl,q⟩:=h
 obtain⟨t,rfl⟩:=rx
 obtain⟨t',rfl⟩:=ry
 exact rule i j t t' s _ _ ⟨.int (g i j),H,I.tok _,⟨_,rfl⟩,q⟩
theorem F9{f:Value→Value→Sem Value}{g:Int→Int→Bool}
  (rule:∀(i j:Int) (t u:Tok) (s:Shared) (Q:Value→Shared→Prop) (E:Value→Shared→Prop),Q (.bool (g i j)) s→wpAny (model X.prog X.w) X.A (f (.int i t) (.int j u)) Q E s):
  OpR X f (rI0 λi j=> .bl (g i j)):=by
 intro pins s σ H x y v u Q I rx ry h
 obtain⟨i,j,rfl,rfl,q⟩:=h
 obtain⟨t,rfl⟩:=rx
 obtain⟨t',rfl⟩:=ry
 exact rule i j t t' s _ _ ⟨.bl (g i j),H,I,rfl,q⟩
noncomputable def Fb(i j:Int):Prop:=0<j∧j<1073741824
noncomputable def Fc(i j:Int):Prop:=0≤j∧j≤1000000∧i.natAbs<2^64
noncomputable def B4(i j:Int):Prop:=(-(2^64)<i∧i<2^64)∨(-(2^64)<j∧j<2^64)
theorem B4.ok{i j:Int}(h:B4 i j):IntMulOk i j:=by
 rcases h with⟨h1,h2⟩| ⟨h1,h2⟩
 ·exact .of_left (intBits_le_64 h1 h2)
 ·exact .of_right (intBits_le_64 h1 h2)
theorem CZ:OpR X (binaryOp .Add) (rI0 λi j=> .int (i+j)):=F8 λ_ _ _ _ _ _ _ q=>add_int q
theorem D0:OpR X (binaryOp .Sub) (rI0 λi j=> .int (i -j)):=F8 λ_ _ _ _ _ _ _ q=>sub_int q
theorem D1:OpR X (binaryOp .Mult) (rI B4 λi j=> .int (i*j)):=opI λ_ _ _ _ _ _ _ hc q=>mul_int q hc.ok
theorem B5:OpR X (binaryOp .FloorDiv) (rI Fb λi j=> .int (i/j)):=opI λi j _ _ _ _ _ hc q=>by
 have h1:(0:Int)<j:=hc.1
 have h2:j<1073741824:=hc.2
 exact floordiv_int (by omega) (by rw[Int.fdiv_eq_ediv_of_nonneg i (by omega)];exact q) (.inl (PyProof.noPylong_small (by omega)))
theorem D2:OpR X (binaryOp .Mod) (rI (λ_ j=>0<j) λi j=> .int (i%j)):=opI λi j _ _ _ _ _ hc q=>by
 have h1:(0:Int)<j:=hc
 exact mod_int' (by omega) (by rw[Int.fmod_eq_emod_of_nonneg i (by omega)];exact q)
theorem D3:OpR X (binaryOp .Pow) (rI Fc λi j=> .int (i^j.toNat)):=opI λ_ _ _ _ _ _ _ hc q=>pow_int_small hc.1 hc.2.1 hc.2.2 q
end
section
variable{X:Cx}{a b c:Expr}{ta tb tc:TE}{pos:Pos}
theorem D4{pins:List (Addr×Obj)}{σ:St}{H:Hp}{s:Shared}{Q:VK}{k k' :Bool}(I:Inv X pins σ H s)(q:Q (.bl k) H)(e:k=k'):EP X pins σ Q (.bool k') s:=by
 subst e
 exact⟨.bl k,H,I,rfl,q⟩
theorem Cj:OpR X (compareOp .Lt) (rI0 λi j=> .bl (decide (i<j))):=F9 λ_ _ _ _ _ _ _ q=>lt_int q
theorem vU:OpR X (compareOp .Gt) (rI0 λi j=> .bl (decide (j<i))):=F9 λ_ _ _ _ _ _ _ q=>gt_int q
theorem vV:OpR X (compareOp .Is) (λx y H Q=>y= .non∧Q (.bl (decide (x= .non))) H):=by
 intro pins s σ H x y v u Q I rx ry h
 obtain⟨rfl,q⟩:=h
 cases ry
 refine is_none_gen (D4 I q ?_)
 cases x<;>first
  |(cases rx;rfl)
  |(obtain⟨t,rfl⟩:=rx;rfl)
theorem OpR.or{f:Value→Value→Sem Value}{r r' :R2}(h:OpR X f r)(h' :OpR X f r'):OpR X f (λx y H Q=>r x y H Q∨r' x y H Q):=by
 intro pins s σ H x y v u Q I rx ry q
 rcases q with q|q
 ·exact h pins s σ H x y v u Q I rx ry q
 ·exact h' pins s σ H x y v u Q I rx ry q
theorem cL(b:Expr){op:CmpOp}(h:op≠ .In:=by decide)(h2:op≠ .NotIn:=by decide):behindInMarks op b=false:=by
 have e1:(op==CmpOp.In)=false:=by cases op<;>first|rfl|exact absurd rfl h
 have e2:(op==CmpOp.NotIn)=false:=by cases op<;>first|rfl|exact absurd rfl h2
 cases b<;>simp[behindInMarks,e1,e2]
theorem B6{op:CmpOp}{r:R2}(ho:OpR X (compareOp op) r)(ha:PE X a ta)(hb:PE X b tb)(hm:behindInMarks op b=false):PE X (.Compare a [op] [b] pos) (tOp r ta tb):=by
 intro pins s σ H Q I h
 exact wpAny_Compare1 (CY ha hb I h λv u s2 x y H2 I2 rx ry q=>ho pins s2 σ H2 x y v u Q I2 rx ry q) hm
noncomputable def Fd(t:TE):TT:=λσ H Q=>t σ H λx H' =>∃k,x= .bl k∧Q k H'
theorem B7{op:CmpOp}{r:R2}(ho:OpR X (compareOp op) r)(ha:PE X a ta)(hb:PE X b tb)(hm:behindInMarks op b=false):PT X (.Compare a [op] [b] pos) (Fd (tOp r ta tb)):=by
 intro pins s σ H Q I h
 refine wpAny_isTrue_Compare1 (thn (ha pins s σ H _ I h) λv s1 ⟨x,H1,I1,r1,q1⟩=>thn (hb pins s1 σ H1 _ I1 q1) λu s2 ⟨y,H2,I2,r2,q2⟩=>
  thn (ho pins s2 σ H2 x y v u _ I2 r1 r2 q2) λc s3 ⟨z,H3,I3,r3,k,e,q3⟩=> ?_) hm
 subst e
 cases r3
 exact Gdf ⟨H3,I3,q3⟩
theorem lV:(sizeLine:Nat)<2^63:=by rw[GbA];decide
theorem rF:OpR X (binaryOp .Add) (λx y H Q=>∃i j,x= .str i∧y= .str j∧i.length+j.length≤sizeLine∧Q (.str (i++j)) H):=by
 intro pins s σ H x y v u Q I rx ry h
 obtain⟨i,j,rfl,rfl,hz,q⟩:=h
 obtain⟨t,rfl⟩:=rx
 obtain⟨t',rfl⟩:=ry
 exact add_str (λt' tk=> ⟨.str (i++j),H,I.tok _,⟨_,rfl⟩,q⟩) hz
theorem vals1{x:V}{us:List Value}(r:Vals [x] us):∃u,us=[u]∧RelV x u:=by
 cases r with
 |cons r1 r2=>cases r2;exact⟨_,rfl,r1⟩
theorem vals2{x y:V}{us:List Value}(r:Vals [x,y] us):∃u w',us=[u,w']∧RelV x u∧RelV y w' :=by
 cases r with
 |cons r1 r2=>
  cases r2 with
  |cons r3 r4=>cases r4;exact⟨_,_,rfl,r1,r3⟩
noncomputable def Fe(K:PySem.W.Frag)(x:V)(H:Hp)(n:Nat):Prop:=
 match x with
 | .str y=>y.length≤sizeLine∧n=y.length
 | .byt y=>y.size≤sizeLine∧n=y.size
 | .ref p=>(∃xs,SqL K H p xs∧n=xs.length)∨∃xs,SqT K H p xs∧n=xs.length
 |_=>False
theorem bQ:cW X (.builtin "len") (λxs H Q=>∃x n,xs=[x]∧Fe X.K x H n∧Q (.int n) H):=by
 intro pins s σ H xs us Q I r h
 obtain⟨x,n,rfl,e,q⟩:=h
 obtain⟨u,rfl,rx⟩:=vals1 r
 have hl:=lV
 have hs:sizeLine=16777216:=GbA
 cases x with
 |str y=>
  obtain⟨t,rfl⟩:=rx
  obtain⟨hy,e'⟩:y.length≤sizeLine∧n=y.length:=e
  subst e'
  exact len_str (by omega) ⟨.int _,H,I.tok _,⟨_,rfl⟩,q⟩
 |byt y=>
  obtain⟨t,rfl⟩:=rx
  obtain⟨hy,e'⟩:y.size≤sizeLine∧n=y.size:=e
  subst e'
  exact PySem.W.len_bytes (by omega) ⟨.int _,H,I.tok _,⟨_,rfl⟩,q⟩
 |ref p=>
  cases rx
  have e' :(∃xs,SqL X.K H p xs∧n=xs.length)∨∃xs,SqT X.K H p xs∧n=xs.length:=e
  rcases e' with⟨xs,hx,e'⟩| ⟨xs,hx,e'⟩
  ·subst e'
   obtain⟨its,r',pl,hz⟩:=I.list hx
   have hlen:=r'.length
   exact Calls.call_len_list pl.isList (by simp only[Gao];omega) ⟨.int xs.length,H,I.tok _,⟨_,by simp only[Gao];rw[hlen]⟩,q⟩
  ·subst e'
   obtain⟨its,r',pl,hz⟩:=I.tuple hx
   have hlen:=r'.length
   exact len_tuple pl (by simp only[Gao];omega) ⟨.int xs.length,H,I.tok _,⟨_,by simp only[Gao];rw[hlen]⟩,q⟩
 |_=>exact(show False from e).elim
end
structure D5(h:Heap)(x dx C:Addr)(mA:Str→Option Value):Prop where
 obj:h.get? x=some (PySem.W.instObj C dx)
 ns:h.Ns1 dx mA
 ne:dx≠x
theorem uD{h:Heap}{dx:Addr}{mA:Str→Option Value}(n:h.Ns1 dx mA):∃od,h.get? dx=some od∧∀name,PySem.W.lookIn name od=some (mA name):=by
 obtain⟨o,es,ep,ho,hd,hk,_,hm⟩:=n
 refine⟨o,ho,λname=> ?_⟩
 have e:=hm name
 unfold nsFind findBy at e
 rw[←Array.find?_toList] at e
 unfold PySem.W.lookIn
 rw[hd]
 dsimp only
 split
 ·rename_i y q
  rw[q] at e
  exact congrArg some e
 ·rename_i q
  rw[q] at e
  have a:es.toList.any (·.refKey)=false:=by
   rw[Geu]
   intro y hy
   obtain⟨z,t,hkey⟩:=hk y (Gec.mp hy)
   simp[DictEntry.refKey,hkey]
  have a' :¬es.toList.any (·.refKey)=true:=by rw[a];exact Gay
  rw[Gae a']
  exact congrArg some e
theorem D5.look{h:Heap}{x dx C:Addr}{mA:Str→Option Value}(I:D5 h x dx C mA):∃od,PySem.W.InstAt h x (PySem.W.instObj C dx) C (some od)∧∀name,PySem.W.lookIn name od=some (mA name):=
 let⟨od,ho,hl⟩:=uD I.ns
 ⟨od,⟨I.obj,rfl,rfl,ho⟩,hl⟩
theorem jO.some_of{v:V}{o:Option Value}(r:jO (some v) o):∃u,o=some u∧RelV v u:=by
 cases o with
 |none=>exact(show False from r).elim
 |some u=>exact⟨u,rfl,r⟩
section
variable{P:Program}{w:World}{H H' :Hp}{h h' :Heap}{a C dx:Addr}{fs fs' :List (Str×V)}
theorem B8(hok:HOk P w H h)(e:H a=some (.ins C dx fs)):∃mA,D5 h a dx C mA∧(∀f,jO (fs.lookup f) (mA f))∧PySem.Within mA (fs.map (·.1))∧fs.length≤1000∧H dx=some (.own a):=by
 obtain⟨d,z,ne,ob,mA,n,r,q⟩:=(show bB P w H h a (.ins C dx fs) from hok a _ e)
 exact⟨mA,⟨ob,n,ne⟩,r,q,z,d⟩
end
structure Cls(K:PySem.W.Frag)(C:Addr):Prop where
 pg:PySem.W.plainGet K C Str.empty=true
 hd:PySem.W.hasDictIn K C=true
 po:PySem.W.plainOver K C=true
 sa:PySem.W.findIn K (.ref C) "__setattr__"=some (some (.builtin "object.__setattr__"))
theorem Cls.get{K:PySem.W.Frag}{C:Addr}(c:Cls K C)(f:Str):PySem.W.plainGet K C f=true:=c.pg
section
variable{X:Cx}{pins:List (Addr×Obj)}{σ:St}{H:Hp}{s:Shared}{a C dx:Addr}{fs:List (Str×V)}{f:Str}{v:V}{A:Around}{E:Value→Shared→Prop}
theorem Inv.made(I:Inv X pins σ H s):Inv X pins σ (upd (upd H s.heap.objs.size (.own (s.heap.objs.size+1))) (s.heap.objs.size+1) (.ins C s.heap.objs.size []))
  {s with heap:=(s.heap.push PySem.W.emptyDict).push (PySem.W.instObj C s.heap.objs.size)}:=by
 have e1:(s.heap.push PySem.W.emptyDict).get? s.heap.objs.size=some PySem.W.emptyDict:=Gan s.heap rfl
 have e2:((s.heap.push PySem.W.emptyDict).push (PySem.W.instObj C s.heap.objs.size)).get? (s.heap.objs.size+1)=some (PySem.W.instObj C s.heap.objs.size):=by
  have:=Gan (s.heap.push PySem.W.emptyDict) (o:=PySem.W.instObj C s.heap.objs.size) rfl
  rwa[GbK] at this
 have e3:(s.heap.push PySem.W.emptyDict).Ns s.heap.objs.size (λ_=>none):=⟨PySem.W.emptyDict,#[],_,e1,rfl,(λe he=>absurd he (by simp)),λ_=>rfl⟩
 have I1:=I.laid (a:=s.heap.objs.size) (o:= .own (s.heap.objs.size+1)) (h' :=s.heap.push PySem.W.emptyDict) (t' :=s.toks) (λb u q=>Gad _ q) (Gau _) ⟨_,e1⟩
 refine I1.laid (a:=s.heap.objs.size+1) (o:= .ins C s.heap.objs.size []) (t' :=s.toks) (λb u q=>Gad _ q) (Nat.le_of_eq (GbK _ _)) ?_
 have ne:s.heap.objs.size≠s.heap.objs.size+1:=GaA (GbR _)
 refine⟨by rw[az ne,au],GaJ _,ne,e2,λ_=>none,(Heap.Ns1.of_empty e3).at λo q=>Gad _ q,λ_=>True.intro,λy hy=>absurd rfl hy⟩
end
section
variable{X:Cx}{pins:List (Addr×Obj)}{σ:St}{H:Hp}{s:Shared}{A:Around}{E:Value→Shared→Prop}{Q:Value→Shared→Prop}{c:Value}{b:Bool}
inductive iP(K:PySem.W.Frag)(H:Hp):V→Value→Prop where
 |non:iP K H .non (.type "NoneType")
 |bl (x:Bool):iP K H (.bl x) (.type "bool")
 |int (i:Int):iP K H (.int i) (.type "int")
 |str (x:Str):iP K H (.str x) (.type "str")
 |flt (x:UInt64):iP K H (.flt x) (.type "float")
 |lst {a:Addr} {xs:List V} (e:H a=some (.lst xs)):iP K H (.ref a) (.type "list")
 |frz {a:Addr} {o:Obj} {xs:List V} (e:H a=some (.frz o (.lst xs))):iP K H (.ref a) (.type "list")
 |tup {a:Addr} {xs:List V} (e:H a=some (.tup xs)):iP K H (.ref a) (.type "tuple")
 |dK {a:Addr} {kvs:List (Key×V)} (e:H a=some (.dK kvs)):iP K H (.ref a) (.type "dict")
 |dT {a:Addr} {kvs:List (List Key×V)} (e:H a=some (.dT kvs)):iP K H (.ref a) (.type "dict")
 |ins {a C dx:Addr} {fs:List (Str×V)} (e:H a=some (.ins C dx fs)) (cl:Cls K C) (ha:PySem.W.findIn K (.ref C) "__class__"=some (some (.builtin "object.__class__")))
   (hn:PySem.W.specialIn K (.builtin "object.__class__") "__get__"=some (some (.builtin "getset_descriptor.__get__"))) (htk:PySem.W.takesIn K (.builtin "object.__class__")=some true)
   (hm:PySem.W.mroIn K C (.type "object")=some true):iP K H (.ref a) (.ref C)
theorem uE{x:V}{u t:Value}(I:Inv X pins σ H s)(rx:RelV x u)(ty:iP X.K H x t)(e:PySem.W.kitOne X.K t c=some b)(h:∀tk,Q (.bool b) {s with toks:=tk}):
  wpAny (model X.prog X.w) A (call (.builtin "isinstance") [u,c]) Q E s:=by
 cases ty with
 |non=>cases(show u=Value.none from rx);exact GbF PySem.W.kitx_none I.kIn True.intro e (λz=>nomatch z) h
 |bl y=>cases(show u=Value.bool y from rx);exact GbF PySem.W.kitx_bool I.kIn True.intro e (λz=>nomatch z) h
 |int i=>obtain⟨t,q⟩:=(show∃t,u=Value.int i t from rx);cases q;exact GbF PySem.W.kitx_int I.kIn True.intro e (λz=>nomatch z) h
 |str y=>obtain⟨t,q⟩:=(show∃t,u=Value.str y t from rx);cases q;exact GbF PySem.W.kitx_str I.kIn True.intro e (λz=>nomatch z) h
 |flt y=>obtain⟨t,q⟩:=(show∃t,u=Value.float y t from rx);cases q;exact GbF PySem.W.kitx_float I.kIn True.intro e (λz=>nomatch z) h
 | @lst a xs ea=>
  cases(show u=Value.ref a from rx)
  obtain⟨_,_,n,_,h1⟩:=(show bB X.prog X.w H s.heap a (.lst xs) from I.hok a _ ea)
  exact GbF PySem.W.kitx_list I.kIn ⟨_,h1,rfl⟩ e (λz=>nomatch z) h
 | @frz a ob xs ea=>
  cases(show u=Value.ref a from rx)
  obtain⟨_,_,_,n,_,h1⟩:=(show bB X.prog X.w H s.heap a (.frz ob (.lst xs)) from I.hok a _ ea)
  exact GbF PySem.W.kitx_list I.kIn ⟨_,h1,rfl⟩ e (λz=>nomatch z) h
 | @tup a xs ea=>
  cases(show u=Value.ref a from rx)
  obtain⟨_,_,_,p⟩:=(show bB X.prog X.w H s.heap a (.tup xs) from I.hok a _ ea)
  obtain⟨o,h1,h2,_⟩:=p
  exact GbF PySem.W.kitx_tuple I.kIn ⟨o,h1,h2⟩ e (λz=>nomatch z) h
 | @dK a kvs ea=>
  cases(show u=Value.ref a from rx)
  obtain⟨_,_,vs,_,p⟩:=(show bB X.prog X.w H s.heap a (.dK kvs) from I.hok a _ ea)
  obtain⟨o,es,ep,h1,h2,_⟩:=p
  exact GbF PySem.W.kitx_dict I.kIn ⟨o,h1,h2.1⟩ e (λz=>nomatch z) h
 | @dT a kvs ea=>
  cases(show u=Value.ref a from rx)
  obtain⟨_,_,xs,_,o,es,ep,h1,h2,_⟩:=(show bB X.prog X.w H s.heap a (.dT kvs) from I.hok a _ ea)
  exact GbF PySem.W.kitx_dict I.kIn ⟨o,h1,h2.1⟩ e (λz=>nomatch z) h
 | @ins a C dx fs ea cl ha hn htk hm=>
  cases(show u=Value.ref a from rx)
  obtain⟨mA,O,_⟩:=B8 I.hok ea
  obtain⟨od,J,_⟩:=O.look
  exact GbF (PySem.W.kitx_own (cl.get _) cl.hd ha hn htk hm) I.kIn J e (λz=>nomatch z) h
end
structure du(k:Nat)(A:Around):Prop where
 hd:A.handled=none
 dp:A.depth+3*k+5<recursionLimit
 un:A.units+16*k+200<cLine
theorem du.mono{j k:Nat}{A:Around}(r:du k A)(h:j≤k):du j A:=⟨r.hd,by have:=r.dp;omega,by have:=r.un;omega⟩
theorem du.deeper{k:Nat}{A:Around}(r:du (k+1) A)(env:Env):du k (A.deeper env):=
 ⟨r.hd,by have:=r.dp;show A.depth+1+3*k+5<_;omega,by have:=r.un;show A.units+3+16*k+200<_;omega⟩
theorem du.in1{k:Nat}{A:Around}(r:du (k+1) A):du k A.in1:=
 ⟨r.hd,by have:=r.dp;show A.depth+3*k+5<_;omega,by have:=r.un;show A.units+1+16*k+200<_;omega⟩
theorem du.depth{k:Nat}{A:Around}(r:du k A):A.depth<recursionLimit:=by have:=r.dp;omega
theorem du.units{k:Nat}{A:Around}(r:du k A):A.units+64<cLine:=by have:=r.un;omega
noncomputable def GY:TA:=λ_ H Q=>Q [] H
noncomputable def Ff(ta:TE)(tr:TA):TA:=λσ H Q=>ta σ H λx H1=>tr σ H1 λxs H2=>Q (x::xs) H2
section
variable{X:Cx}{e:Expr}{es:List Expr}{te:TE}{t:TA}{pos:Pos}
theorem jQ:PA X [] GY:=λ_ _ _ _ H Q I h=>Calls.spliced_nil ⟨[],H,I,.nil,h⟩
theorem fc(ha:PE X e te)(hr:PA X es t)(hs:starEach (e::es) X.env=(false,eval e X.env)::starEach es X.env:=by rfl):PA X (e::es) (Ff te t):=by
 intro pos pins s σ H Q I h
 rw[hs]
 show wpAny _ _ (spliced ((false,eval e X.env)::backTo pos (starEach es X.env))) _ _ s
 refine Calls.spliced_cons (thn (ha pins s σ H _ I h) λu s1 ⟨x,H1,I1,r1,q1⟩=> ?_)
 exact thn (hr pos pins s1 σ H1 _ I1 q1) λus s2 ⟨xs,H2,I2,r2,q2⟩=> ⟨x::xs,H2,I2,.cons r1 r2,q2⟩
noncomputable def GZ(t:TA):TE:=λσ H Q=>t σ H λxs H1=>xs.length≤sizeLine∧∀p,H1 p=none→Q (.ref p) (upd H1 p (.tup xs))
noncomputable def H0(t:TA):TE:=λσ H Q=>t σ H λxs H1=>xs.length≤sizeLine∧∀p,H1 p=none→Q (.ref p) (upd H1 p (.lst xs))
theorem D6{x1}(h:PA X es t):PE X (.Tuple es x1 pos) (GZ t):=by
 intro pins s σ H Q I hq
 refine wpAny_Tuple_spliced (thn (h pos pins s σ H _ I hq) λus s1 ⟨xs,H1,I1,r,z,q⟩=> ⟨by rw[←r.length];exact z, ?_⟩)
 have hf:H1 s1.heap.objs.size=none:=I1.hok.fresh (Gau _)
 refine⟨.ref s1.heap.objs.size,upd H1 s1.heap.objs.size (.tup xs),I1.laid (t' :=s1.toks) (λb u e=>Gad _ e) (Gau _) ?_,rfl,q _ hf⟩
 exact⟨z,us,r,⟨_,Gan _ rfl,rfl,_,rfl⟩⟩
theorem D7(h:PA X es t):PE X (.List es pos) (H0 t):=by
 intro pins s σ H Q I hq
 refine wpAny_List_spliced (thn (h pos pins s σ H _ I hq) λus s1 ⟨xs,H1,I1,r,z,q⟩=> ⟨by rw[←r.length];exact z, ?_⟩)
 have hf:H1 s1.heap.objs.size=none:=I1.hok.fresh (Gau _)
 refine⟨.ref s1.heap.objs.size,upd H1 s1.heap.objs.size (.lst xs),I1.laid (t' :=s1.toks) (λb u e=>Gad _ e) (Gau _) ?_,rfl,q _ hf⟩
 exact⟨z,us,0,r,Gan _ rfl⟩
end
noncomputable abbrev Sp:=List V→Hp→VK→XK→Prop
noncomputable abbrev CXT:=List Env→Hp→Shared→XK→Value→Shared→Prop
structure rG(P:Program)(w:World)(K:PySem.W.Frag)(mg:Str→Option Value)(base:Heap)(A:Around)(outer:List Env)(s:Shared)(H:Hp):Prop where
 frames:A.frames=some outer
 mod:Mod K mg base
 bs:∀b o,base.get? b=some o→s.heap.get? b=some o∧H b=none
 bsz:base.objs.size≤s.heap.objs.size
 lg:s.heap.FunFrames base outer
 frf:∀b∈frs outer,H b=none
 hok:HOk P w H s.heap
 bare:AllBare s.gens
noncomputable def CE(outer:List Env)(P:Program)(w:World)(H:Hp)(s:Shared)(Q:VK)(u:Value)(s' :Shared):Prop:=
 ∃v H',s'.os=s.os∧AllBare s'.gens∧Un (frs outer) [] H H' s.heap s'.heap∧HOk P w H' s'.heap∧RelV v u∧Q v H'
noncomputable def CR(CX:CXT)(outer:List Env)(P:Program)(w:World)(H:Hp)(s:Shared)(Q:VK)(E:XK)(r:Result)(s' :Shared):Prop:=
 match r with
 | .ok (.ret u)=>CE outer P w H s Q u s'
 | .ok _=>False
 | .error e=>CX outer H s E e s'
structure df(P:Program)(w:World)(K:PySem.W.Frag)(mg:Str→Option Value)(base:Heap)(CX:CXT)(k:Nat)(f:Addr)(fd:FuncData)(ps:List Str)(sp:Sp):Prop where
 len:∀vs H Q E,sp vs H Q E→vs.length=ps.length
 run:∀(A:Around) (outer:List Env) (s:Shared) (H:Hp) (args:Args) (us:List Value) (vs:List V) (Q:VK) (E:XK),du k A→rG P w K mg base A outer s H→BindsTo s fd args (ps.zip us)→Vals vs us→sp vs H Q E→
  codeAny (model P w) A (.call (.ref f) args) (CR CX outer P w H s Q E) s
theorem df.mono{P:Program}{w:World}{K:PySem.W.Frag}{mg:Str→Option Value}{base:Heap}{CX:CXT}{j k:Nat}{f:Addr}{fd:FuncData}{ps:List Str}{sp:Sp}(F:df P w K mg base CX j f fd ps sp)(h:j≤k):
  df P w K mg base CX k f fd ps sp:=⟨F.len,λA outer s H args us vs Q E hr=>F.run A outer s H args us vs Q E (hr.mono h)⟩
theorem df.imp{P:Program}{w:World}{K:PySem.W.Frag}{mg:Str→Option Value}{base:Heap}{CX:CXT}{k:Nat}{f:Addr}{fd:FuncData}{ps:List Str}{sp sp' :Sp}(F:df P w K mg base CX k f fd ps sp)
  (h:∀vs H Q E,sp' vs H Q E→sp vs H Q E):df P w K mg base CX k f fd ps sp' :=
 ⟨λvs H Q E q=>F.len vs H Q E (h _ _ _ _ q),λA outer s H args us vs Q E hr he hb hv hs=>F.run A outer s H args us vs Q E hr he hb hv (h _ _ _ _ hs)⟩
theorem rG.in1{P:Program}{w:World}{K:PySem.W.Frag}{mg:Str→Option Value}{base:Heap}{A:Around}{outer:List Env}{s:Shared}{H:Hp}(e:rG P w K mg base A outer s H):
  rG P w K mg base A.in1 outer s H:=⟨e.frames,e.mod,e.bs,e.bsz,e.lg,e.frf,e.hok,e.bare⟩
section
variable{X:Cx}{pins:List (Addr×Obj)}{σ:St}{H:Hp}{s s' :Shared}
theorem Inv.Ha(I:Inv X pins σ H s):rG X.prog X.w X.K X.mg X.base X.A X.stack s H:=
 ⟨I.ok.frames,I.ok.mod,I.bs,GbQ I.ok.bsz I.sz,I.stack,I.t5,I.hok,I.bare⟩
theorem Inv.after{Q:VK}{u:Value}(I:Inv X pins σ H s)(h:CE X.stack X.prog X.w H s Q u s'):EP X pins σ Q u s' :=by
 obtain⟨v,H',os,bare,un,hok,r,q⟩:=h
 obtain⟨hh,g,d,t,os'⟩:=s'
 obtain rfl:os' =s.os:=os
 exact⟨v,H',I.call (h' :=hh) (g' :=g) (d' :=d) (t' :=t) (ch:=[]) un hok bare (λb z=>absurd z (by simp)),r,q⟩
end
noncomputable def Fg(sp:Sp)(dvs:List V)(E:XK)(t:TA):TE:=λσ H Q=>t σ H λvs H1=>sp (vs++dvs) H1 Q E
noncomputable def Binds(K:PySem.W.Frag)(fd:FuncData)(ps:List Str)(ds:List Value):Prop:=
 ∀(s:Shared) (us:List Value),K.In s.heap→(us++ds).length=ps.length→BindsTo s fd ⟨us,[]⟩ (ps.zip (us++ds))
theorem Binds.all{K:PySem.W.Frag}{fd:FuncData}{ps:List Str}(h:∀us:List Value,us.length=ps.length→bindArgs fd ⟨us,[]⟩=pure (ps.zip us)):Binds K fd ps []:=λs us _ hl=>by
 rw[Gca] at hl⊢
 exact .of_eq (h us hl)
noncomputable def Passes(CX:CXT)(X:Cx)(E:XK):Prop:=∀(pins:List (Addr×Obj)) (σ:St) (H:Hp) (s:Shared) (e:Value) (s' :Shared),Inv X pins σ H s→CX X.stack H s E e s' →X.xe e s'
section
variable{X:Cx}{CX:CXT}{k:Nat}{f C:Addr}{fd:FuncData}{ps:List Str}{sp:Sp}{dvs:List V}{ds:List Value}{E:XK}{x m:Str}{p pos apos:Pos}{e o:Expr}{es:List Expr}{ta:TE}{t:TA}
theorem D8{pins:List (Addr×Obj)}{σ:St}{H:Hp}{s:Shared}{Q:VK}{us:List Value}{vs:List V}(F:df X.prog X.w X.K X.mg X.base CX k f fd ps sp)(hr:du k X.A)(hb:Binds X.K fd ps ds)(hd:Vals dvs ds)(hx:Passes CX X E)
  (I:Inv X pins σ H s)(r:Vals vs us)(h:sp (vs++dvs) H Q E):wpAny (model X.prog X.w) X.A (call (.ref f) us) (EP X pins σ Q) X.xe s:=by
 have r2:Vals (vs++dvs) (us++ds):=r.append hd
 have hl:(us++ds).length=ps.length:=by rw[←r2.length];exact F.len _ _ _ _ h
 refine wpAny_call (Ged (F.run X.A X.stack s H ⟨us,[]⟩ (us++ds) (vs++dvs) Q E hr I.Ha (hb s us I.kIn hl) r2 h) λr s' hq=> ?_)
 cases r with
 |error e=>exact hx pins σ H s e s' I hq
 |ok fl=>
  cases fl with
  |ret u=>exact I.after hq
  |next=>exact False.elim hq
  |brk=>exact False.elim hq
  |cont=>exact False.elim hq
theorem B9(F:df X.prog X.w X.K X.mg X.base CX k f fd ps sp)(hr:du k X.A)(hg:Gl X x)(hm:X.mg x=some (.ref f))(hk:PySem.W.keepIn X.K (.ref f)=true)(hb:Binds X.K fd ps ds)(hd:Vals dvs ds)(hx:Passes CX X E)
  (ha:PA X (e::es) t)(hdb:(x==("__debug__":Str))=false:=by decide)(he:starEach (e::es) X.env=(false,eval e X.env)::starEach es X.env:=by rfl)(hpl:(backTo pos (starEach es X.env)).any (·.1)=false:=by rfl):
  PE X (.Call (.Name x p) (e::es) [] pos) (Fg sp dvs E t):=by
 intro pins s σ H Q I h
 refine wpAny_Call_Name_kw (AY I hg hm ?_ hdb)
 refine PySem.W.callWith_K (h₀:=X.base) I.ok.mod.kin hk (thn (ha pos pins s σ H _ I h) λus s1 ⟨vs,H1,I1,r,q⟩=> ⟨I1.kIn, ?_⟩) he hpl
 exact D8 F hr hb hd hx I1 r q
structure Mk(K:PySem.W.Frag)(C f:Addr):Prop where
 makes:PySem.W.makesIn K C=true
 init:PySem.W.findIn K (.ref C) "__init__"=some (some (.ref f))
 fn:PySem.W.isFn K (.ref f)=true
 kp:PySem.W.keepIn K (.ref C)=true
end
structure bY(N P:List Str)(sc:Scope):Prop where
 kind:sc.kind= .function
 co:sc.isCoroutine=false
 gen:sc.isGenerator=false
 nd:N.Nodup
 pre:N.take P.length=P
 par:∀x∈P,sc.names.lookup x=some .local∨sc.names.lookup x=some .cell
 Eu:∀y∈sc.names,y.2≠ .free
theorem nO{kindOf:Str→Option NameKind}{x:Str}:∀{binds:List (Str×Value)} {m:Str→Option Value},(∀v,(x,v)∉binds)→bindL kindOf binds m x=m x
 |[],_,_=>rfl
 |(n,v)::r,m,h=>by
  unfold bindL
  rw[nO λw hw=>h w (Gak _ hw)]
  split
  ·have:x≠n:=by rintro rfl;exact h v Gav
   simp[this]
  ·rfl
theorem nP{kindOf:Str→Option NameKind}{x:Str}:∀{binds:List (Str×Value)} {m:Str→Option Value},(∀v,(x,v)∉binds)→bindC kindOf binds m x=m x
 |[],_,_=>rfl
 |(n,v)::r,m,h=>by
  unfold bindC
  rw[nP λw hw=>h w (Gak _ hw)]
  split
  ·rfl
  ·have:x≠n:=by rintro rfl;exact h v Gav
   simp[this]
theorem nQ{kindOf:Str→Option NameKind}{x:Str}{v:Value}:∀{P:List Str} {vs:List Value} {i:Nat} {m:Str→Option Value},P.Nodup→P[i]? =some x→vs[i]? =some v→kindOf x=some .local→
  bindL kindOf (P.zip vs) m x=some v
 |[],_,_,_,_,h,_,_=>by simp at h
 |_::_,[],_,_,_,_,h,_=>by simp at h
 |p::P,w::vs,0,m,nd,h1,h2,hk=>by
  simp at h1 h2;subst h1;subst h2
  show bindL kindOf ((p,w)::P.zip vs) m p=_
  unfold bindL
  rw[nO λv hv=>(GbG.mp nd).1 (List.of_mem_zip hv).1,Gag hk]
  simp
 |p::P,w::vs,i+1,m,nd,h1,h2,hk=>by
  show bindL kindOf ((p,w)::P.zip vs) m x=_
  unfold bindL
  exact nQ (i:=i) (GbG.mp nd).2 (by simpa using h1) (by simpa using h2) hk
theorem nR{kindOf:Str→Option NameKind}{x:Str}{v:Value}:∀{P:List Str} {vs:List Value} {i:Nat} {m:Str→Option Value},P.Nodup→P[i]? =some x→vs[i]? =some v→kindOf x≠some .local→
  bindC kindOf (P.zip vs) m x=some v
 |[],_,_,_,_,h,_,_=>by simp at h
 |_::_,[],_,_,_,_,h,_=>by simp at h
 |p::P,w::vs,0,m,nd,h1,h2,hk=>by
  simp at h1 h2;subst h1;subst h2
  show bindC kindOf ((p,w)::P.zip vs) m p=_
  unfold bindC
  rw[nP λv hv=>(GbG.mp nd).1 (List.of_mem_zip hv).1,Gae hk]
  simp
 |p::P,w::vs,i+1,m,nd,h1,h2,hk=>by
  show bindC kindOf ((p,w)::P.zip vs) m x=_
  unfold bindC
  exact nR (i:=i) (GbG.mp nd).2 (by simpa using h1) (by simpa using h2) hk
noncomputable def start(N:List Str)(vs:List V):St:=vs.map some++List.replicate (N.length -vs.length) none
noncomputable def rH(CX:CXT)(P:Program)(w:World)(K:PySem.W.Frag)(mg:Str→Option Value)(base:Heap)(N:List Str)(qual:Str)(scope:Scope)(f:Addr)(cd:Value)(A:Around)(outer:List Env)(s:Shared)(H:Hp)(E:XK):Cx where
 prog:=P
 w:=w
 K:=K
 mg:=mg
 base:=base
 A:=A.deeper (envOfC qual scope s.heap.objs.size f cd)
 N:=N
 s₀:=s
 H₀:=H
 env:=envOfC qual scope s.heap.objs.size f cd
 outer:=outer
 stack:=envOfC qual scope s.heap.objs.size f cd::outer
 ex:=[]
 calm:=true
 fn:=λ_=>true
 pn:=[]
 xe:=λe s' =>wpAny (model P w) (A.deeper (envOfC qual scope s.heap.objs.size f cd)) (leaving (envOfC qual scope s.heap.objs.size f cd) e) (λ_ s'' =>CX outer H s E e s'') (λe' s'' =>CX outer H s E e' s'') s'
theorem pV{sc:Scope}{n:Nat}{x:Str}(h:sc.names.lookup x=some .cell):∃c,(cellsFrom n sc.names []).lookup x=some c:=by
 have q:=PySem.W.cellsFrom_some sc.names n [] (.inl h)
 exact Option.isSome_iff_exists.mp q
theorem uF{CX:CXT}{P:Program}{w:World}{K:PySem.W.Frag}{mg:Str→Option Value}{base:Heap}{N ps:List Str}{qual:Str}{scope:Scope}{f:Addr}{cd:Value}{A:Around}{outer:List Env}{s s1:Shared}{H:Hp}{E:XK}{us:List Value}{vs:List V}
  (S:bY N ps scope)(hd:A.handled=none)(e0:rG P w K mg base A outer s H)(hl:vs.length=ps.length)(r:Vals vs us)
  (x:InCallC s s.heap.objs.size (bindL (envOfC qual scope s.heap.objs.size f cd).kindOf (ps.zip us) λ_=>none) (cellsFrom (s.heap.objs.size+1) scope.names []) (bindC (envOfC qual scope s.heap.objs.size f cd).kindOf (ps.zip us) λ_=>none) s1):
  Inv (rH CX P w K mg base N qual scope f cd A outer s H E) [] (start N vs) H s1:=by
 have hpl:ps.length≤N.length:=by have:=congrArg List.length S.pre;rw[List.length_take] at this;omega
 obtain⟨h1,tk,rfl,hk⟩:=x.done
 have noA:∀b:Addr,b∉(rH CX P w K mg base N qual scope f cd A outer s H E).ex:=λb z=>absurd (show b∈([]:List Addr) from z) (by simp)
 refine⟨⟨e0.mod,S.kind,rfl,rfl,Gau _,λy z c h1 h2=> ?_,λy hy=> ?_,λy c _ h=> ?_,λ_=>hd,Around.frames_deeper e0.frames,.inr ⟨rfl,rfl⟩,λb z=>absurd z (noA b),e0.bs,e0.bsz,λb _ _=>noA b,λb z=>absurd z (noA b),e0.lg,e0.frf⟩,
  rfl,e0.bare,Un.kept hk,⟨_,x.toInCall.ns,λi y v h1 h2 h3=> ?_⟩,λy c h=> ⟨_,x.cell y c h⟩,e0.hok.fresh (Gau _),λy c h=> ?_,λp hp=>absurd (show p∈([]:List (Addr×Obj)) from hp) (by simp),e0.hok.kept hk, ?_⟩
 ·exact name_of_addr x.apart (PySem.mem_of_lookup h1) (PySem.mem_of_lookup h2)
 ·have hy:scope.names.lookup y=some .cell∨scope.names.lookup y=some .free:=hy
  rcases hy with hy|hy
  ·exact pV hy
  ·exact absurd rfl (S.Eu _ (PySem.mem_of_lookup hy))
 ·exact GcC (x.above y c (PySem.mem_of_lookup h))
 ·have hi:i<vs.length:=by
   unfold start at h2
   by_cases hi:i<vs.length
   ·exact hi
   ·rw[Gbo (by simpa using hi)] at h2
    rw[GcU] at h2
    split at h2<;>cases h2
  have ha:vs[i]? =some v:=by
   unfold start at h2
   rw[Gbh (by simpa using hi),Gax] at h2
   cases e:vs[i]? with
   |none=>rw[e] at h2;cases h2
   |some a=>rw[e] at h2;cases h2;rfl
  obtain⟨u,hu,rv⟩:=r.get ha
  have hp:ps[i]? =some y:=by
   rw[←S.pre,GaP (by omega)];exact h1
  have ndP:ps.Nodup:=by rw[←S.pre];exact S.nd.sublist (List.take_sublist _ _)
  refine⟨u,rv, ?_⟩
  rcases S.par y (GaO hp) with k|k
  ·exact .inl ⟨k,nQ ndP hp hu k⟩
  ·obtain⟨c,e⟩:=pV (n:=s.heap.objs.size+1) k
   refine .inr ⟨.inl k,c,e, ?_⟩
   have q:=x.cell y c e
   rw[nR ndP hp hu (by show scope.names.lookup y≠_;rw[k];decide)] at q
   exact q
 ·exact e0.hok.fresh (GcC (x.above y c (PySem.mem_of_lookup h)))
 ·unfold start
  show _=N.length
  rw[GaL,Gar,Gea]
  omega
theorem Fh{CX:CXT}{P:Program}{w:World}{K:PySem.W.Frag}{mg:Str→Option Value}{base:Heap}{k:Nat}{f:Addr}{name qual:Str}{params:Arguments}{body:List Stmt}{scope:Scope}{dV kV doc pm cdv ct oc:Value}{an od:Option Addr}
  {osl:Array (Option Value)}{N ps:List Str}{sp:Sp}(lk:K.lookup f=some ⟨oc,od,.func (PySem.W.fnOf name qual params body scope dV kV doc pm an cdv ct),osl⟩)(hcd:PySem.W.codeIn K cdv qual=true)(S:bY N ps scope)
  (len:∀vs H Q E,sp vs H Q E→vs.length=ps.length)
  (hbody:∀(A:Around) (outer:List Env) (s:Shared) (H:Hp) (vs:List V) (Q:VK) (E:XK),du k (A.deeper (envOfC qual scope s.heap.objs.size f cdv))→sp vs H Q E→
   ∃t,PSs (rH CX P w K mg base N qual scope f cdv A outer s H E) body t∧t {nx:=λ_ H' =>Q .non H',rt:=Q} (start N vs) H):
  df P w K mg base CX (k+1) f (PySem.W.fnOf name qual params body scope dV kV doc pm an cdv ct) ps sp:=by
 refine⟨len,λA outer s H args us vs Q E hr e0 hb r hsp=> ?_⟩
 have hl:=len _ _ _ _ hsp
 have KX:K.In s.heap:=e0.mod.kin.keeps λb o e=>(e0.bs b o e).1
 have lim:s.heap.NoLimit:=e0.mod.nolimit.keeps λb o e=>(e0.bs b o e).1
 have hkind:∀y∈ps.zip us,scope.names.lookup y.1=some .local∨(scope.names.lookup y.1=some .cell∧((cellsFrom (s.heap.objs.size+1) scope.names []).lookup y.1).isSome=true):=λ⟨n,v⟩ hy=>by
  rcases S.par n (List.of_mem_zip hy).1 with q|q
  ·exact .inl q
  ·exact .inr ⟨q,PySem.W.cellsFrom_some _ _ _ (.inl q)⟩
 refine codeAny_call_function hr.depth (KX _ _ lk) rfl S.co S.gen rfl (PySem.W.codeRec_of KX hcd) (hb _ _ _ _ ?_)
 refine wpAny_newFunctionEnv_cells S.kind hkind λenv he s1 x=> ?_
 subst he
 refine⟨lim.keeps x.toInCall.keep,codeAny_func ?_⟩
 obtain⟨t,ht,hq⟩:=hbody A outer s H vs Q E (hr.deeper _) hsp
 have I:Inv (rH CX P w K mg base N qual scope f cdv A outer s H E) [] (start N vs) H s1:=uF S hr.hd e0 hl r x
 refine GbU (ht [] s1 (start N vs) H _ I hq) (λfl s' hs=> ?_) λe s' hs=>hs
 have fin:∀{σ' :St} {H' :Hp} {v:V} {u:Value},Inv (rH CX P w K mg base N qual scope f cdv A outer s H E) [] σ' H' s' →RelV v u→Q v H' →CE outer P w H s Q u s' :=
  λ{σ' H' v u} J rv q=> ⟨v,H',J.os,J.bare,J.base,J.hok,rv,q⟩
 cases fl with
 |ret u=>
  obtain⟨v,σ',H',J,rv,q⟩:=hs
  exact fin J rv q
 |next=>
  obtain⟨σ',H',J,q⟩:=hs
  exact fin (v:=V.non) (u:=Value.none) J rfl q
 |brk=>
  obtain⟨_,_,_,q⟩:=hs
  exact False.elim q
 |cont=>
  obtain⟨_,_,_,q⟩:=hs
  exact False.elim q
section
variable{X:Cx}{x:Str}{p pos:Pos}{e:Expr}{es:List Expr}{t:TA}{id T:String}{r:List V→Hp→VK→Prop}
noncomputable def tCB(r:List V→Hp→VK→Prop)(t:TA):TE:=λσ H Q=>t σ H λvs H1=>r vs H1 Q
theorem lW(hc:cW X (.builtin id) r)(hg:Gl X x)(hm:X.mg x=none)(hv:bootBuiltins x=some (.builtin id))(ha:PA X (e::es) t)(hn:x≠"__name__":=by decide)(hdb:(x==("__debug__":Str))=false:=by decide)
  (he:starEach (e::es) X.env=(false,eval e X.env)::starEach es X.env:=by rfl)(hpl:(backTo pos (starEach es X.env)).any (·.1)=false:=by rfl):PE X (.Call (.Name x p) (e::es) [] pos) (tCB r t):=by
 intro pins s σ H Q I h
 refine wpAny_Call_Name_kw (oQ I hg hm hv ?_ hn hdb)
 exact PyProof.Rows.callWith_builtin1 (thn (ha pos pins s σ H _ I h) λus s1 ⟨vs,H1,I1,r1,q1⟩=>hc pins s1 σ H1 vs us Q I1 r1 q1) he hpl
theorem jR(hc:cW X (.type T) r)(hg:Gl X x)(hm:X.mg x=none)(hv:bootBuiltins x=some (.type T))(ha:PA X (e::es) t)(hn:x≠"__name__":=by decide)(hdb:(x==("__debug__":Str))=false:=by decide)
  (he:starEach (e::es) X.env=(false,eval e X.env)::starEach es X.env:=by rfl)(hpl:(backTo pos (starEach es X.env)).any (·.1)=false:=by rfl):PE X (.Call (.Name x p) (e::es) [] pos) (tCB r t):=by
 intro pins s σ H Q I h
 refine wpAny_Call_Name_kw (oQ I hg hm hv ?_ hn hdb)
 exact PyProof.Rows.callWith_type1 (thn (ha pos pins s σ H _ I h) λus s1 ⟨vs,H1,I1,r1,q1⟩=>hc pins s1 σ H1 vs us Q I1 r1 q1) he hpl
end
end L2
namespace HT
open PySem PyProof.Rows
section
open PySem.SeqAt
open PySem.AutoSeq1 (wpAny_loadPart')
open PySem.MeetsSeq PySem.MeetsSeq2 PySem.MeetsSeq3
end
section
variable{prog:Program}{w:World}{A:Around}{E:Value→Shared→Prop}{s:Shared}
theorem Ba{t b:Addr}{vs ws:List Value}{Q:Value→Shared→Prop}(ht:IsTup s.heap t vs.toArray)(hb:IsTup s.heap b ws.toArray)(hv:vs≠[])
  (h1:ws=[]→Q (.ref t) s)(h2:ws≠[]→Q (.ref s.heap.objs.size) {s with heap:=s.heap.push {cls:= .type "tuple",data:= .seq (vs++ws).toArray}})
  (hsz:vs.length+ws.length≤sizeLine):wpAny (model prog w) A (binaryOp .Add (.ref t) (.ref b)) Q E s:=by
 obtain⟨⟨cls,dd,data,sl⟩,ho,hc,n,hd⟩:=id ht
 obtain⟨⟨cls2,dd2,data2,sl2⟩,ho2,hc2,n2,hd2⟩:=id hb
 simp only at hc hd hc2 hd2
 subst hc hd hc2 hd2
 have e:vs.toArray++ws.toArray=(vs++ws).toArray:=by simp
 by_cases hw:ws=[]
 ·exact concat_meets ⟨_,ho,rfl⟩ ⟨_,ho2,rfl⟩ noFill_tuple_add seq_tuple_add PySem.F.slot_tuple_add PySem.F.entry_tuple_add (PySem.F.args_tuple_add_2 _ _)
   (tuple_addW1 t b vs.toArray ws.toArray n n2 dd dd2 sl sl2 (by simpa using hv) (by simp[hw])) ⟨ho,ho2,h1 hw⟩
 ·refine concat_meets ⟨_,ho,rfl⟩ ⟨_,ho2,rfl⟩ noFill_tuple_add seq_tuple_add PySem.F.slot_tuple_add PySem.F.entry_tuple_add (PySem.F.args_tuple_add_2 _ _)
   (tuple_addW2 t b vs.toArray ws.toArray n n2 dd dd2 sl sl2 (by simpa using hv) (by simpa using hw) (by rw[Gao,Gao];exact hsz)) ⟨ho,ho2, ?_⟩
  rw[e]
  exact h2 hw
end
end HT
namespace L2
open PySem PySem.Spec PyProof.Rows
noncomputable abbrev TO:=St→Hp→(Option Int→Hp→Prop)→Prop
noncomputable def PO(X:Cx)(e:Option Expr)(t:TO):Prop:=
 ∀(pins:List (Addr×Obj)) (s:Shared) (σ:St) (H:Hp) (Q:Option Int→Hp→Prop),Inv X pins σ H s→t σ H Q→
  wpAny (model X.prog X.w) X.A (evalPart e X.env) (λu s' =>∃o H',Inv X pins σ H' s' ∧IsPart u o∧Q o H') X.xe s
section
variable{X:Cx}{e:Expr}{te:TE}{lo hi:Option Expr}{tl th:TO}{pos p2:Pos}
noncomputable def SlR(X:Cx)(r:V→Option Int→Option Int→Hp→VK→Prop):Prop:=
 ∀(pins:List (Addr×Obj)) (s:Shared) (σ:St) (H:Hp) (x:V) (v vl vu:Value) (lo hi:Option Int) (sl:Addr) (Q:VK),Inv X pins σ H s→RelV x v→s.heap.IsSliceOf sl vl vu .none→IsPart vl lo→IsPart vu hi→r x lo hi H Q→
  ∃T id,typeLookup (.type T) "__getitem__"=pure (some (.builtin id))∧s.TypeIs v T∧wpAny (model X.prog X.w) X.A (getItem v (.ref sl)) (EP X pins σ Q) X.xe s
theorem SlR.or{r r' :V→Option Int→Option Int→Hp→VK→Prop}(h:SlR X r)(h' :SlR X r'):SlR X (λx lo hi H Q=>r x lo hi H Q∨r' x lo hi H Q):=by
 intro pins s σ H x v vl vu lo hi sl Q I rx hs pl pu q
 rcases q with q|q
 ·exact h pins s σ H x v vl vu lo hi sl Q I rx hs pl pu q
 ·exact h' pins s σ H x v vl vu lo hi sl Q I rx hs pl pu q
noncomputable def Ck(K:PySem.W.Frag):R2:=λx y H Q=>∃a b xs ys,x= .ref a∧y= .ref b∧SqT K H a xs∧SqT K H b ys∧xs≠[]∧xs.length+ys.length≤sizeLine∧
 (ys=[]→Q (.ref a) H)∧(ys≠[]→∀p,H p=none→Q (.ref p) (upd H p (.tup (xs++ys))))
theorem Vals.bC{xs:List V}{us:List Value}(r:Vals xs us):us=[]↔xs=[]:=by
 cases r with
 |nil=>simp
 |cons _ _=>simp
theorem Bb:OpR X (binaryOp .Add) (Ck X.K):=by
 intro pins s σ H x y v u Q I rx ry h
 obtain⟨a,b,xs,ys,rfl,rfl,ha,hb,hx,hz,q1,q2⟩:=h
 cases rx
 cases ry
 obtain⟨its,r1,p1,_⟩:=I.tuple ha
 obtain⟨its2,r2,p2,_⟩:=I.tuple hb
 refine HT.Ba p1 p2 (λz=>hx (r1.bC.mp z)) (λz=> ⟨.ref a,H,I,rfl,q1 (r2.bC.mp z)⟩) (λz=> ?_) (by rw[←r1.length,←r2.length];exact hz)
 refine⟨.ref s.heap.objs.size,_,I.laid (t' :=s.toks) (o:= .tup (xs++ys)) (λb ob q=>Gad _ q) (Gau _) ?_,rfl,q2 (λw=>z (r2.bC.mpr w)) _ (I.hok.fresh (Gau _))⟩
 exact⟨by rw[GaL];exact hz,_,r1.append r2,IsTup.new _ _⟩
end
noncomputable def ixN(n:Nat)(i:Int):Option Nat:=if 0≤i then(if i<n then some i.toNat else none) else if -(n:Int)≤i then some (i+n).toNat else none
noncomputable def atI{α:Type}(xs:List α)(i:Int):Option α:=(ixN xs.length i).bind λj=>xs[j]?
theorem t7{n:Nat}{i:Int}{j:Nat}(h:ixN n i=some j):seqIndex? i n=some j∧j<n∧-(n:Int)≤i∧i<n:=by
 unfold ixN at h
 by_cases h0:0≤i
 ·rw[Gag h0] at h
  by_cases h1:i<n
  ·rw[Gag h1] at h
   have e:i.toNat=j:=Option.some.inj h
   exact⟨by rw[seqIndex_of h0 h1,e],by omega,by omega,h1⟩
  ·rw[Gae h1] at h;cases h
 ·rw[Gae h0] at h
  by_cases h1: -(n:Int)≤i
  ·rw[Gag h1] at h
   have e:(i+n).toNat=j:=Option.some.inj h
   exact⟨by rw[seqIndex_neg (by omega) h1,e],by omega,h1,by omega⟩
  ·rw[Gae h1] at h;cases h
theorem oS{α:Type}{xs:List α}{i:Int}{v:α}(h:atI xs i=some v):∃j,seqIndex? i xs.length=some j∧xs[j]? =some v∧j<xs.length∧-(xs.length:Int)≤i∧i<xs.length:=by
 unfold atI at h
 cases e:ixN xs.length i with
 |none=>rw[e] at h;cases h
 |some j=>
  rw[e] at h
  obtain⟨h1,h2,h3,h4⟩:=t7 e
  exact⟨j,h1,h,h2,h3,h4⟩
noncomputable def t8(b:Expr):Prop:=∀o i,subscripted b false o i=operate [o,i] (getItem o i)
noncomputable def IxR(X:Cx)(r:R2):Prop:=
 ∀(value slice:Expr) (pins:List (Addr×Obj)) (s:Shared) (σ:St) (H:Hp) (x y:V) (v u:Value) (Q:VK),Inv X pins σ H s→RelV x v→RelV y u→r x y H Q→
  subscripted slice false v u=operate [v,u] (getItem v u)→wpAny (model X.prog X.w) X.A (subscriptTail value slice v u) (EP X pins σ Q) X.xe s
noncomputable def MtR(X:Cx)(id:String)(r:V→List V→Hp→VK→Prop):Prop:=
 ∀(pins:List (Addr×Obj)) (s:Shared) (σ:St) (H:Hp) (x:V) (xs:List V) (v:Value) (us:List Value) (Q:VK),Inv X pins σ H s→RelV x v→Vals xs us→r x xs H Q→
  wpAny (model X.prog X.w) X.A (call (.builtin id) (v::us)) (EP X pins σ Q) X.xe s
section
variable{X:Cx}{a b:Expr}{ta tb:TE}{pos:Pos}
theorem IxR.or{r r' :R2}(h:IxR X r)(h' :IxR X r'):IxR X (λx y H Q=>r x y H Q∨r' x y H Q):=by
 intro value slice pins s σ H x y v u Q I rx ry q hs
 rcases q with q|q
 ·exact h value slice pins s σ H x y v u Q I rx ry q hs
 ·exact h' value slice pins s σ H x y v u Q I rx ry q hs
theorem MtR.or{id:String}{r r' :V→List V→Hp→VK→Prop}(h:MtR X id r)(h' :MtR X id r'):MtR X id (λx xs H Q=>r x xs H Q∨r' x xs H Q):=by
 intro pins s σ H x xs v us Q I rx rs q
 rcases q with q|q
 ·exact h pins s σ H x xs v us Q I rx rs q
 ·exact h' pins s σ H x xs v us Q I rx rs q
theorem Fi{r:R2}(hr:IxR X r)(ha:PE X a ta)(hb:PE X b tb)(hs:t8 b):PE X (.Subscript a b pos) (tOp r ta tb):=by
 intro pins s σ H Q I h
 exact Subscript_ (CY ha hb I h λv u s2 x y H2 I2 rx ry q=>hr a b pins s2 σ H2 x y v u Q I2 rx ry q (hs _ _))
noncomputable def Fj(K:PySem.W.Frag):R2:=λx y H Q=>∃p xs i v,x= .ref p∧y= .int i∧SqL K H p xs∧atI xs i=some v∧Q v H
noncomputable def Fl(K:PySem.W.Frag):R2:=λx y H Q=>∃p xs i v,x= .ref p∧y= .int i∧SqT K H p xs∧atI xs i=some v∧Q v H
noncomputable def Fm:R2:=λx y H Q=>∃z i c,x= .str z∧y= .int i∧z.length≤sizeLine∧atI z.cps.toList i=some c∧Q (.str ⟨#[c]⟩) H
theorem Bc:IxR X (Fj X.K):=by
 intro value slice pins s σ H x y v u Q I rx ry h hs
 obtain⟨p,xs,i,z,rfl,rfl,hq,he,q⟩:=h
 cases rx
 obtain⟨t,rfl⟩:=ry
 obtain⟨its,r,pl,hz⟩:=I.list hq
 obtain⟨j,h1,h2,h3,h4,h5⟩:=oS he
 obtain⟨w,ew,rw'⟩:=r.get h2
 have hl:=r.length
 have hn:=lV
 have fin:EP X pins σ Q w s:=⟨z,H,I,rw',q⟩
 by_cases h0:0≤i
 ·have hj:i.toNat=j:=by
   rw[seqIndex_of h0 h5] at h1
   exact Option.some.inj h1
  exact item_listR pl.isList h0 (by omega) (by rw[hj];simpa using ew) fin hs
 ·have hj:(i+(its.toArray.size:Int)).toNat=j:=by
   rw[seqIndex_neg (by omega) h4] at h1
   rw[Gao,←hl]
   exact Option.some.inj h1
  exact subscriptTail_builtinR (x:=w) pl.isList.typeIs slot_list_getitem.lookup
   (wpAny_getItem_list_neg (Q:=λr s' =>r=w∧EP X pins σ Q r s') pl.isList (by omega) (by rw[Gao]<;>omega) (by omega) (by rw[hj];simpa using ew) ⟨rfl,fin⟩) hs
theorem D9:IxR X (Fl X.K):=by
 intro value slice pins s σ H x y v u Q I rx ry h hs
 obtain⟨p,xs,i,z,rfl,rfl,hq,he,q⟩:=h
 cases rx
 obtain⟨t,rfl⟩:=ry
 obtain⟨its,r,pl,hz⟩:=I.tuple hq
 obtain⟨j,h1,h2,h3,h4,h5⟩:=oS he
 obtain⟨w,ew,rw'⟩:=r.get h2
 have hl:=r.length
 have hn:=lV
 have fin:EP X pins σ Q w s:=⟨z,H,I,rw',q⟩
 exact subscriptTail_builtinR (x:=w) pl.typeIs slot_tuple_getitem.lookup
  (getItem_tuple (j:=j) (Q:=λr s' =>r=w∧EP X pins σ Q r s') pl (by omega) (by omega) (by rw[Gao,←hl];exact h1) (by simpa using ew) ⟨rfl,fin⟩) hs
theorem Dc:IxR X Fm:=by
 intro value slice pins s σ H x y v u Q I rx ry h hs
 obtain⟨z,i,c,rfl,rfl,hz,he,q⟩:=h
 obtain⟨t,rfl⟩:=rx
 obtain⟨t',rfl⟩:=ry
 obtain⟨j,h1,h2,h3,h4,h5⟩:=oS he
 have hl:z.cps.toList.length=z.length:=by simp[Str.length]
 rw[hl] at h1 h4 h5
 have hn:=lV
 exact tail_any (typeIs_str s z t) slot_str_getitem.lookup (getItem_str (c:=c) (by
  have e1:decide (i< -(2^63:Int))=false:=GaE (by omega)
  have e2:decide (i≥2^63)=false:=GaE (by omega)
  rw[e1,e2,Ges]) (by rw[h1];simpa using h2) ⟨.str ⟨#[c]⟩,H,I.tok _,⟨_,rfl⟩,q⟩) hs
noncomputable def rIx(K:PySem.W.Frag):R2:=λx y H Q=>Fj K x y H Q∨Fl K x y H Q∨Fm x y H Q
theorem Dd:IxR X (rIx X.K):=Bc.or (D9.or Dc)
theorem rJ(its:List Value)(n j:Nat)(u:Value):Obj.mapSeq (·.setIfInBounds j u) {cls:= .type "list",data:= .seq its.toArray n}={cls:= .type "list",data:= .seq (its.set j u).toArray n}:=by
 simp[Obj.mapSeq]
theorem Inv.lst{pins:List (Addr×Obj)}{σ:St}{H:Hp}{s:Shared}{p:Addr}{xs:List V}(I:Inv X pins σ H s)(h:H p=some (.lst xs)):
  ∃(its:List Value) (n:Nat),Vals xs its∧s.heap.get? p=some {cls:= .type "list",data:= .seq its.toArray n}∧xs.length≤sizeLine:=by
 obtain⟨z,its,n,r,e⟩:=I.hok p _ h
 exact⟨its,n,r,e,z⟩
theorem Inv.De{pins:List (Addr×Obj)}{σ:St}{H:Hp}{s:Shared}{p:Addr}{xs ys:List V}{its its' :List Value}{n n' :Nat}{f:Obj→Obj}(I:Inv X pins σ H s)(h:H p=some (.lst xs))
  (ho:s.heap.get? p=some {cls:= .type "list",data:= .seq its.toArray n})(hf:f {cls:= .type "list",data:= .seq its.toArray n}={cls:= .type "list",data:= .seq its'.toArray n' })(r:Vals ys its')(hz:ys.length≤sizeLine)(t:Nat):
  Inv X pins σ (upd H p (.lst ys)) {s with heap:=s.heap.update p f,toks:=t}:=by
 have e:(s.heap.update p f).get? p=some {cls:= .type "list",data:= .seq its'.toArray n' }:=by
  rw[GaH f ho (by rw[hf]<;>rfl),hf]
 refine I.write (x:=p) (e:=p) (by rw[h];trivial) (.inl rfl) (λb u hb q=>(GaS _ _ (Gba hb)).trans q) ⟨_,e⟩ ?_
 exact⟨hz,its',n',r,e⟩
noncomputable def Cm:V→V→V→Hp→(Hp→Prop)→Prop:=λo i v H Q=>∃p xs k j,o= .ref p∧i= .int k∧H p=some (.lst xs)∧ixN xs.length k=some j∧Q (upd H p (.lst (xs.set j v)))
theorem set_list:F5 X Cm:=by
 intro pins s σ H o i v ov iv u Q I ro ri rv h
 obtain⟨p,xs,k,j,rfl,rfl,hp,hj,q⟩:=h
 cases ro
 obtain⟨t,rfl⟩:=ri
 obtain⟨its,n,r,ho,hz⟩:=I.lst hp
 obtain⟨h1,h2,h3,h4⟩:=t7 hj
 have hl:=r.length
 have hn:=lV
 have I' :Inv X pins σ (upd H p (.lst (xs.set j v))) {s with heap:=s.heap.update p (Obj.mapSeq (·.setIfInBounds j u))}:=
  I.De hp ho (rJ its n j u) (r.set rv j) (by rw[Gee];exact hz) s.toks
 by_cases h0:0≤k
 ·have hk:k.toNat=j:=by
   rw[seqIndex_of h0 h4] at h1
   exact Option.some.inj h1
  exact PySem.W.ki_setAt ho h0 (by omega) (by rw[Gao,←hl];exact h4) (by rw[hk];exact⟨_,I',q⟩)
 ·have hk:(k+(its.toArray.size:Int)).toNat=j:=by
   rw[seqIndex_neg (by omega) h3] at h1
   rw[Gao,←hl]
   exact Option.some.inj h1
  exact PySem.W.ki_setBack ho (by omega) (by rw[Gao,←hl];exact h3) (by omega) (by rw[hk];exact⟨_,I',q⟩)
noncomputable def kI:V→Bool
 | .non=>true
 | .bl _=>true
 | .int _=>true
 | .str _=>true
 |_=>false
noncomputable def eqV:V→V→Bool
 | .non,.non=>true
 | .bl a,.bl b=>a==b
 | .bl a,.int b=>(if a then 1 else 0)==b
 | .int a,.bl b=>a==(if b then 1 else 0)
 | .int a,.int b=>a==b
 | .str a,.str b=>a==b
 |_,_=>false
theorem vW{A:Around}{s:Shared}{y x:V}{u v:Value}(ry:RelV y u)(rx:RelV x v)(fy:kI y=true)(fx:kI x=true):SeqAt.EqAt A s u v (eqV y x):=by
 cases y with
 |non=>
  cases ry
  cases x with
  |non=>cases rx;exact SeqAt.EqAt.same _
  |bl b=>cases rx;exact SeqAt.EqAt.none_bool b
  |int b=>obtain⟨t,rfl⟩:=rx;exact SeqAt.EqAt.none_int b t
  |str b=>obtain⟨t,rfl⟩:=rx;exact SeqAt.EqAt.none_str b t
  |_=>exact absurd (show false=true from fx) Gay
 |bl a=>
  cases ry
  cases x with
  |non=>cases rx;exact SeqAt.EqAt.bool_none a
  |bl b=>cases rx;exact SeqAt.EqAt.bool_bool a b
  |int b=>obtain⟨t,rfl⟩:=rx;exact SeqAt.EqAt.bool_int a b t
  |str b=>obtain⟨t,rfl⟩:=rx;exact SeqAt.EqAt.bool_str a b t
  |_=>exact absurd (show false=true from fx) Gay
 |int a=>
  obtain⟨t',rfl⟩:=ry
  cases x with
  |non=>cases rx;exact SeqAt.EqAt.int_none a t'
  |bl b=>cases rx;exact SeqAt.EqAt.int_bool a t' b
  |int b=>obtain⟨t,rfl⟩:=rx;exact SeqAt.EqAt.int_int a t' b t
  |str b=>obtain⟨t,rfl⟩:=rx;exact SeqAt.EqAt.int_str a t' b t
  |_=>exact absurd (show false=true from fx) Gay
 |str a=>
  obtain⟨t',rfl⟩:=ry
  cases x with
  |non=>cases rx;exact SeqAt.EqAt.str_none a t'
  |bl b=>cases rx;exact SeqAt.EqAt.str_bool a t' b
  |int b=>obtain⟨t,rfl⟩:=rx;exact SeqAt.EqAt.str_int a t' b t
  |str b=>obtain⟨t,rfl⟩:=rx;exact SeqAt.EqAt.str_str a t' b t
  |_=>exact absurd (show false=true from fx) Gay
 |_=>exact absurd (show false=true from fy) Gay
theorem cW.or{f:Value}{r r' :List V→Hp→VK→Prop}(h:cW X f r)(h' :cW X f r'):cW X f (λxs H Q=>r xs H Q∨r' xs H Q):=by
 intro pins s σ H xs us Q I rs q
 rcases q with q|q
 ·exact h pins s σ H xs us Q I rs q
 ·exact h' pins s σ H xs us Q I rs q
theorem fU:cW X (.type "list") (λxs H Q=>∃p ys,xs=[.ref p]∧(SqL X.K H p ys∨SqT X.K H p ys)∧∀l,H l=none→Q (.ref l) (upd H l (.lst ys))):=by
 intro pins s σ H xs us Q I r h
 obtain⟨p,ys,rfl,hq,q⟩:=h
 obtain⟨u,rfl,rx⟩:=vals1 r
 cases rx
 have fin:∀(its:List Value),Vals ys its→ys.length≤sizeLine→∀(h' :Heap) (c' :Nat),(∀b o',s.heap.get? b=some o' →h'.get? b=some o')→
   h'.get? s.heap.objs.size=some {cls:= .type "list",dict:=none,data:= .seq its.toArray c',slots:=#[]}→EP X pins σ Q (.ref s.heap.objs.size) {s with heap:=h' }:=λits r' hz h' c' kp e=>
  ⟨.ref s.heap.objs.size,_,I.laid (t' :=s.toks) kp (Gau _) (show bB X.prog X.w _ h' _ (.lst ys) from⟨hz,its,c',r',e⟩),rfl,q _ (I.hok.fresh (Gau _))⟩
 rcases hq with hq|hq
 ·obtain⟨its,r',pl,hz⟩:=I.list hq
  have hlen:=r'.length
  obtain⟨o,ho,hc,n,hd⟩:=pl.isList
  exact call_list_seq p (.inl rfl) ho hc hd (λh' c' kp e=>fin its r' hz h' c' kp e) (by simp only[Gao]<;>omega)
 ·obtain⟨its,r',pl,hz⟩:=I.tuple hq
  have hlen:=r'.length
  obtain⟨o,ho,hc,n,hd⟩:=pl
  exact call_list_seq p (.inr rfl) ho hc hd (λh' c' kp e=>fin its r' hz h' c' kp e) (by simp only[Gao]<;>omega)
noncomputable def tyV(K:PySem.W.Frag)(T:String)(x:V)(H:Hp):Prop:=match x with
 | .str _=>T="str"
 | .int _=>T="int"
 | .ref p=>(T="list"∧∃xs,SqL K H p xs)∨(T="tuple"∧∃o,K.lookup p=some o∧o.cls= .type "tuple"∧o.dict=none)∨
   (T="dict"∧((∃kvs,H p=some (.dK kvs))∨∃kvs,H p=some (.dT kvs)))∨(T="set"∧∃S n,H p=some (.set S n))
 |_=>False
theorem vX{pins:List (Addr×Obj)}{σ:St}{H:Hp}{s:Shared}{T:String}{x:V}{v:Value}(I:Inv X pins σ H s)(r:RelV x v)(ty:tyV X.K T x H):
  s.TypeIs v T∧∀a,v= .ref a→∃ob,s.heap.get? a=some ob∧ob.dict=none:=by
 cases x with
 |str z=>
  obtain⟨t,rfl⟩:=r
  cases(show T="str" from ty)
  exact⟨typeIs_str s z t,λ_ e=>nomatch e⟩
 |int i=>
  obtain⟨t,rfl⟩:=r
  cases(show T="int" from ty)
  exact⟨typeIs_int s i t,λ_ e=>nomatch e⟩
 |ref p=>
  cases r
  rcases ty with⟨rfl,xs,hq⟩| ⟨rfl,o,hk,hc,hd⟩| ⟨rfl,hk⟩| ⟨rfl,S,n,hk⟩
  ·obtain⟨its,_,pl,_⟩:=I.list hq
   refine⟨pl.isList.typeIs,λa e=> ?_⟩
   cases e
   obtain⟨o,n,e,c,hd,_⟩:=pl
   exact⟨o,e,hd⟩
  ·refine⟨⟨o,I.kIn p o hk,hc⟩,λa e=> ?_⟩
   cases e
   exact⟨o,I.kIn _ o hk,hd⟩
  ·have z:∃o,s.heap.get? p=some o∧o.ExactDict:=by
    rcases hk with⟨kvs,hk⟩| ⟨kvs,hk⟩
    ·obtain⟨_,_,_,_,o,_,_,e,ex,_⟩:=I.hok p _ hk
     exact⟨o,e,ex⟩
    ·obtain⟨_,_,_,_,o,_,_,e,ex,_⟩:=I.hok p _ hk
     exact⟨o,e,ex⟩
   obtain⟨o,e,ex⟩:=z
   refine⟨⟨o,e,ex.1⟩,λa e2=> ?_⟩
   cases e2
   exact⟨o,e,ex.2.1⟩
  ·obtain⟨o,_,_,_,e,ex,_⟩:=I.hok p _ hk
   refine⟨⟨o,e,ex.1⟩,λa e2=> ?_⟩
   cases e2
   exact⟨o,e,ex.2.1⟩
 |_=>exact False.elim ty
noncomputable def Hb(K:PySem.W.Frag)(T:String)(r:V→List V→Hp→VK→Prop)(to:TE):TE:=λσ H Q=>to σ H λx H1=>tyV K T x H1∧r x [] H1 Q
noncomputable def tBM(K:PySem.W.Frag)(T:String)(r:V→List V→Hp→VK→Prop)(to:TE)(t:TA):TE:=λσ H Q=>to σ H λx H1=>tyV K T x H1∧t σ H1 λxs H2=>r x xs H2 Q
variable{o e:Expr}{es:List Expr}{to:TE}{t:TA}{name:Str}{apos cpos:Pos}{T id:String}{r:V→List V→Hp→VK→Prop}
theorem rK(pa:PlainAttrs T)(slot:Slot T name id)(hty:typeOf (.builtin id)=pure (.type "method_descriptor"))(hm:MtR X id r)(ho:PE X o to)
  (hbase:attributeBase o name X.env (eval o X.env)=eval o X.env:=by rfl)(hline:(apos.endLine==cpos.line)=true:=by rfl):PE X (.Call (.Attribute o name apos) [] [] cpos) (Hb X.K T r to):=by
 intro pins s σ H Q I h
 refine wpAny_Call_method0_late hbase hline (thn (ho pins s σ H _ I h) λv s1 ⟨x,H1,I1,r1,ty,q1⟩=> ?_)
 obtain⟨h1,h2⟩:=vX I1 r1 ty
 exact⟨T,id,pa,slot,hty,h1,h2,Calls.callWith_builtin rfl (PySem.evalArgs_none (hm pins s1 σ H1 x [] v [] Q I1 r1 .nil q1))⟩
theorem Cn(pa:PlainAttrs T)(slot:Slot T name id)(hty:typeOf (.builtin id)=pure (.type "method_descriptor"))(hm:MtR X id r)(ho:PE X o to)(ha:PA X (e::es) t)
  (hbase:attributeBase o name X.env (eval o X.env)=eval o X.env:=by rfl)
  (hfew:((backTo cpos (starEach (e::es) X.env)).all (λx=> !x.1)&&(backToKw cpos (keywordEach [] X.env)).all (λx=>x.1.isSome)
   &&decide ((e::es).length+([]:List Keyword).length+(if([]:List Keyword).isEmpty then 0 else 1)<30))=true:=by rfl)
  (hline:(apos.endLine==cpos.line)=true:=by rfl)(hs:starEach (e::es) X.env=(false,eval e X.env)::starEach es X.env:=by rfl)(hplain:(backTo cpos (starEach es X.env)).any (·.1)=false:=by rfl):
  PE X (.Call (.Attribute o name apos) (e::es) [] cpos) (tBM X.K T r to t):=by
 intro pins s σ H Q I h
 refine wpAny_Call_method_late hbase hfew hline rfl (thn (ho pins s σ H _ I h) λv s1 ⟨x,H1,I1,r1,ty,q1⟩=> ?_)
 obtain⟨h1,h2⟩:=vX I1 r1 ty
 refine⟨T,id,pa,slot,hty,h1,h2, ?_⟩
 have hA:=ha cpos pins s1 σ H1 _ I1 q1
 rw[hs] at hA⊢
 refine Calls.callWith_builtin (by show(false||(backTo cpos (starEach es X.env)).any (·.1))=false;rw[hplain]<;>rfl) (Calls.evalArgs_plain ?_)
 exact thn hA λus s2 ⟨vs,H2,I2,r2,q2⟩=>hm pins s2 σ H2 x vs v us Q I2 r1 r2 q2
end
noncomputable def MtM(X:Cx)(id:String)(r:V→List V→Hp→VK→Prop):Prop:=
 ∀(pins:List (Addr×Obj)) (s:Shared) (σ:St) (H:Hp) (x:V) (xs:List V) (v:Value) (us:List Value) (Q:VK),Inv X pins σ H s→RelV x v→Vals xs us→r x xs H Q→
  wpAny (model X.prog X.w) X.A (call (.builtin id) (v::us)) (EP X pins σ Q) X.xe s
theorem Vals.one:∀{x:V} {us:List Value},Vals [x] us→∃u,us=[u]∧RelV x u
 |_,_,.cons r .nil=> ⟨_,rfl,r⟩
theorem Vals.zero:∀{us:List Value},Vals [] us→us=[]
 |_,.nil=>rfl
theorem Vals.dropLast{xs:List V}{us:List Value}(h:Vals xs us):Vals xs.dropLast us.dropLast:=by
 induction h with
 |nil=>exact .nil
 |cons r t ih=>
  cases t with
  |nil=>exact .nil
  |cons q t' =>exact .cons r ih
theorem Vals.eraseIdx:∀{xs:List V} {us:List Value} (i:Nat),Vals xs us→Vals (xs.eraseIdx i) (us.eraseIdx i)
 |_,_,_,.nil=> .nil
 |_,_,0,.cons _ t=>t
 |_,_,i+1,.cons r t=> .cons r (Vals.eraseIdx i t)
theorem Vals.reverse{xs:List V}{us:List Value}(h:Vals xs us):Vals xs.reverse us.reverse:=by
 induction h with
 |nil=>exact .nil
 |cons r t ih=>rw[List.reverse_cons,List.reverse_cons];exact Vals.append ih (.cons r .nil)
theorem Vals.rep{xs:List V}{us:List Value}(h:Vals xs us):∀k:Nat,Vals (List.replicate k xs).flatten (List.replicate k us).flatten
 |0=> .nil
 |k+1=>by
  rw[List.replicate_succ,List.replicate_succ,List.flatten_cons,List.flatten_cons]
  exact Vals.append h (Vals.rep h k)
theorem rL{α:Type}(l:List α):l.eraseIdx (l.length -1)=l.dropLast:=by
 induction l with
 |nil=>rfl
 |cons a r ih=>
  cases r with
  |nil=>rfl
  |cons b r=>
   have e:(a::b::r).length -1=((b::r).length -1)+1:=by
    have h1:(a::b::r).length=r.length+2:=rfl
    have h2:(b::r).length=r.length+1:=rfl
    omega
   rw[e,List.eraseIdx_cons_succ,ih]
   all_goals rfl
section
variable{X:Cx}{pins:List (Addr×Obj)}{σ:St}{H:Hp}{s:Shared}{l b:Addr}{xs ys zs:List V}
theorem Inv.Bd{its its' :List Value}{n:Nat}{f:Array Value→Array Value}{t' :Nat}(I:Inv X pins σ H s)(hH:H l=some (.lst xs))
  (e:s.heap.get? l=some {cls:= .type "list",data:= .seq its.toArray n})(hf:f its.toArray=its'.toArray)(hv:Vals ys its')(hz:ys.length≤sizeLine):
  Inv X pins σ (upd H l (.lst ys)) {s with heap:=s.heap.update l (Obj.mapSeq f),toks:=t' }:=by
 have q:=PySem.IsL.update e f
 rw[hf] at q
 refine I.write (x:=l) (e:=l) (by rw[hH];exact trivial) (.inl rfl) (λb' u hb hu=>(GaS s.heap (Obj.mapSeq f) (Gba hb)).trans hu) ⟨_,q⟩ ?_
 exact⟨hz,its',_,hv,q⟩
theorem Inv.Hc{its:List Value}{t' :Nat}(I:Inv X pins σ H s)(hv:Vals ys its)(hz:ys.length≤sizeLine):
  Inv X pins σ (upd H s.heap.objs.size (.lst ys)) {s with heap:=s.heap.push {cls:= .type "list",data:= .seq its.toArray},toks:=t' }:=
 I.laid (λ_ _ q=>Gad _ q) (Gau _) ⟨hz,its,0,hv,Gan _ rfl⟩
theorem Inv.fresh(I:Inv X pins σ H s):H s.heap.objs.size=none:=I.hok.fresh (Gau _)
theorem Inv.Be(I:Inv X pins σ H s)(hH:H l=some (.lst xs)):xs.length≤sizeLine∧∃(its:List Value) (n:Nat),Vals xs its∧xs.length=its.length∧s.heap.get? l=some {cls:= .type "list",data:= .seq its.toArray n}:=by
 obtain⟨z,its,n,r,e⟩:=I.hok l _ hH
 exact⟨z,its,n,r,r.length,e⟩
end
section
variable{X:Cx}
noncomputable def Bf:V→List V→Hp→VK→Prop:=λx vs H Q=>∃l xs y,x= .ref l∧vs=[y]∧H l=some (.lst xs)∧xs.length<sizeLine∧Q .non (upd H l (.lst (xs++[y])))
theorem nS:MtM X "list.append" Bf:=by
 intro pins s σ H x vs v us Q I rx rv h
 obtain⟨l,xs,y,rfl,rfl,hH,hz,q⟩:=h
 cases rx
 obtain⟨u,rfl,ru⟩:=rv.one
 obtain⟨z,its,n,r,hl,e⟩:=I.Be hH
 refine call_meets F.slot_list_append ⟨_,e,rfl⟩ F.entry_list_append (F.args_list_append_2 _ _) (PySem.list_append l its.toArray n u (by rw[Gao];omega)) ⟨e, ?_⟩
 refine⟨.non,_,I.Bd (its' :=its++[u]) hH e (by simp) (r.append (.cons ru .nil)) ?_,rfl,q⟩
 rw[GaL,GcG]
 omega
noncomputable def He:V→List V→Hp→VK→Prop:=λx vs H Q=>∃l xs y,x= .ref l∧vs=[]∧H l=some (.lst xs)∧xs[xs.length -1]? =some y∧Q y (upd H l (.lst xs.dropLast))
theorem Df:MtM X "list.pop" He:=by
 intro pins s σ H x vs v us Q I rx rv h
 obtain⟨l,xs,y,rfl,rfl,hH,hy,q⟩:=h
 cases rx
 have hus:=rv.zero
 subst hus
 obtain⟨z,its,n,r,hl,e⟩:=I.Be hH
 obtain⟨u,hu,ru⟩:=r.get hy
 have hy' :its.toArray[its.toArray.size -1]? =some u:=by
  show its.toArray[its.length -1]? =some u
  rw[←GaU,←hl]
  exact hu
 refine call_meets F.slot_list_pop ⟨_,e,rfl⟩ F.entry_list_pop (F.args_list_pop_1 _) (MeetsSeq.list_pop_last l its.toArray n u hy' (by rw[Gao];omega)) ⟨e, ?_⟩
 refine⟨y,_,I.Bd (its' :=its.dropLast) hH e ?_ r.dropLast ?_,ru,q⟩
 ·show its.toArray.eraseIdxIfInBounds (its.toArray.size -1)=its.dropLast.toArray
  rw[Gao,List.eraseIdxIfInBounds_toArray,rL]
 ·rw[List.length_dropLast]
  omega
noncomputable def Dg:V→List V→Hp→VK→Prop:=λx vs H Q=>∃l xs,x= .ref l∧vs=[]∧H l=some (.lst xs)∧Q .non (upd H l (.lst []))
theorem vY:MtM X "list.clear" Dg:=by
 intro pins s σ H x vs v us Q I rx rv h
 obtain⟨l,xs,rfl,rfl,hH,q⟩:=h
 cases rx
 have hus:=rv.zero
 subst hus
 obtain⟨z,its,n,r,hl,e⟩:=I.Be hH
 refine call_meets F.slot_list_clear ⟨_,e,rfl⟩ F.entry_list_clear (F.args_list_clear_1 _) (AutoSeq1.list_clear_list_0 l its.toArray n (by rw[Gao];omega)) ⟨e, ?_⟩
 exact⟨.non,_,I.Bd (its' :=[]) (ys:=[]) hH e rfl .nil (GaJ _),rfl,q⟩
end
section
variable{κ:Type} [DecidableEq κ]
noncomputable def gG(kvs:List (κ×V))(k:κ):Option V:=(kvs.find? λkv=>decide (kv.1=k)).map (·.2)
noncomputable def putK(kvs:List (κ×V))(k:κ)(v:V):List (κ×V):=
 if(kvs.any λkv=>decide (kv.1=k))=true then kvs.map (λkv=>if kv.1=k then(kv.1,v) else kv) else kvs++[(k,v)]
noncomputable def Co(kvs:List (κ×V))(k:κ):List (κ×V):=kvs.filter λkv=>decide (kv.1≠k)
theorem jd{p:κ×V}{r:List (κ×V)}{k:κ}(e:p.1=k):gG (p::r) k=some p.2:=by simp[gG,Gbw,e]
theorem gK{p:κ×V}{r:List (κ×V)}{k:κ}(e:¬p.1=k):gG (p::r) k=gG r k:=by simp[gG,Gbw,e]
theorem pW(k:κ):∀kvs:List (κ×V),(kvs.any λkv=>decide (kv.1=k))=(gG kvs k).isSome
 |[]=>rfl
 |p::r=>by
  rw[GcW]
  by_cases e:p.1=k
  ·simp only[jd e,GaD e,Bool.true_or,Option.isSome_some]
  ·rw[gK e,GaE e,Get];exact pW k r
theorem kJ(kvs:List (κ×V))(k:κ)(v:V):(putK kvs k v).length≤kvs.length+1:=by
 unfold putK
 split
 ·rw[Gar];omega
 ·rw[GaL,GbH,Gef];omega
theorem jO.jS{o:Option V}{u:Option Value}(r:jO o u):o.isSome=u.isSome:=by
 cases o with
 |none=>cases u with
  |none=>rfl
  |some _=>exact(show False from r).elim
 |some _=>cases u with
  |none=>exact(show False from r).elim
  |some _=>rfl
theorem jO.getD{o:Option V}{u:Option Value}{d:V}{d' :Value}(r:jO o u)(rd:RelV d d'):RelV (o.getD d) (u.getD d'):=by
 cases o with
 |none=>cases u with
  |none=>exact rd
  |some _=>exact(show False from r).elim
 |some _=>cases u with
  |none=>exact(show False from r).elim
  |some _=>exact r
theorem KV.val{kvs:List (κ×V)}{vs:List (κ×Value)}(r:KV kvs vs)(k:κ):jO (gG kvs k) (valueAt vs k):=by
 unfold KV at r
 induction r with
 |nil=>exact True.intro
 | @cons p q ps qs h t ih=>
  obtain⟨h1,h2⟩:=h
  by_cases e:p.1=k
  ·have e' :q.1=k:=h1.symm.trans e
   have b:valueAt (q::qs) k=some q.2:=by simp[valueAt,Gbw,e']
   rw[jd e,b];exact h2
  ·have e' :¬q.1=k:=λz=>e (h1.trans z)
   have b:valueAt (q::qs) k=valueAt qs k:=by simp[valueAt,Gbw,e']
   rw[gK e,b];exact ih
theorem KV.any{kvs:List (κ×V)}{vs:List (κ×Value)}(r:KV kvs vs)(k:κ):(kvs.any λkv=>decide (kv.1=k))=vs.any λkv=>decide (kv.1=k):=by
 unfold KV at r
 induction r with
 |nil=>rfl
 |cons h t ih=>rw[GcW,GcW,ih,h.1]
theorem KV.Dh{kvs:List (κ×V)}{vs:List (κ×Value)}(r:KV kvs vs)(k:κ){y:V}{u:Value}(ry:RelV y u):
  KV (kvs.map λkv=>if kv.1=k then(kv.1,y) else kv) (vs.map λkv=>if kv.1=k then(kv.1,u) else kv):=by
 unfold KV at r⊢
 induction r with
 |nil=>exact .nil
 | @cons p q ps qs h t ih=>
  rw[GaI,GaI]
  refine .cons ?_ ih
  obtain⟨h1,h2⟩:=h
  by_cases e:p.1=k
  ·rw[Gag e,Gag (h1.symm.trans e)];exact⟨h1,ry⟩
  ·rw[Gae e,Gae (λz=>e (h1.trans z))];exact⟨h1,h2⟩
theorem KV.put{kvs:List (κ×V)}{vs:List (κ×Value)}(r:KV kvs vs)(k:κ){y:V}{u:Value}(ry:RelV y u):KV (putK kvs k y) (stored vs k u):=by
 unfold putK stored
 rw[r.any k]
 by_cases e:(vs.any λkv=>decide (kv.1=k))=true
 ·rw[Gag e,Gag e];exact r.Dh k ry
 ·rw[Gae e,Gae e];exact Paired.snoc r ⟨rfl,ry⟩
theorem KV.drop{kvs:List (κ×V)}{vs:List (κ×Value)}(r:KV kvs vs)(k:κ):KV (Co kvs k) (without vs k):=by
 unfold KV at r⊢
 unfold Co without
 induction r with
 |nil=>exact .nil
 | @cons p q ps qs h t ih=>
  obtain⟨h1,h2⟩:=h
  rw[Gbv,Gbv]
  by_cases e:p.1=k
  ·have a:¬decide (p.1≠k)=true:=by simp[e]
   have b:¬decide (q.1≠k)=true:=by simp[h1.symm.trans e]
   rw[Gae a,Gae b];exact ih
  ·have e' :¬q.1=k:=λz=>e (h1.trans z)
   have a:decide (p.1≠k)=true:=by simp[e]
   have b:decide (q.1≠k)=true:=by simp[e']
   rw[Gag a,Gag b];exact .cons ⟨h1,h2⟩ ih
theorem KV.keys{kvs:List (κ×V)}{vs:List (κ×Value)}(r:KV kvs vs):kvs.map (·.1)=vs.map (·.1):=by
 unfold KV at r
 induction r with
 |nil=>rfl
 |cons h t ih=>rw[GaI,GaI,ih,h.1]
theorem KV.length{kvs:List (κ×V)}{vs:List (κ×Value)}(r:KV kvs vs):kvs.length=vs.length:=Paired.length r
end
theorem t9{P:Program}{w:World}{k:Key}{u:Value}(r:RelV (kV k) u):(bA P w).is k u=true:=by
 cases k with
 |inl i=>obtain⟨t,e⟩:=(show∃t,u=Value.int i t from r);subst e;exact kF P w i t
 |inr x=>obtain⟨t,e⟩:=(show∃t,u=Value.str x t from r);subst e;exact kH P w x t
theorem nT{P:Program}{w:World}:∀{ks:List Key} {us:List Value},Vals (ks.map kV) us→ItemsAre (bA P w) ks us
 |[],_,r=>by rw[List.map_nil] at r;cases r;exact .nil
 |k::ks,_,r=>by
  rw[GaI] at r
  cases r with
  |cons h t=>exact .cons (t9 h) (nT t)
noncomputable abbrev KT (H:Hp):List (List Key×V)→List (List Key×Addr×Value)→Prop:=Paired λp q=>p.1=q.1∧H q.2.1=some (.tup (p.1.map kV))∧RelV p.2 q.2.2
theorem KT.val{H:Hp}{kvs:List (List Key×V)}{xs:List (List Key×Addr×Value)}(r:KT H kvs xs)(k:List Key):jO (gG kvs k) ((atKey xs k).map (·.2)):=by
 induction r with
 |nil=>exact True.intro
 | @cons p q ps qs h t ih=>
  obtain⟨h1,_,h2⟩:=h
  by_cases e:p.1=k
  ·have e' :q.1=k:=h1.symm.trans e
   have b:atKey (q::qs) k=some q.2:=by simp[atKey,Gbw,e']
   rw[jd e,b];exact h2
  ·have e' :¬q.1=k:=λz=>e (h1.trans z)
   have b:atKey (q::qs) k=atKey qs k:=by simp[atKey,Gbw,e']
   rw[gK e,b];exact ih
theorem KT.Dh{H:Hp}{kvs:List (List Key×V)}{xs:List (List Key×Addr×Value)}(r:KT H kvs xs)(k:List Key){y:V}{u:Value}(ry:RelV y u):
  KT H (kvs.map λkv=>if kv.1=k then(kv.1,y) else kv) (xs.map (putAt k u)):=by
 induction r with
 |nil=>exact .nil
 | @cons p q ps qs h t ih=>
  rw[GaI,GaI]
  refine .cons ?_ ih
  obtain⟨h1,h2,h3⟩:=h
  unfold putAt
  by_cases e:p.1=k
  ·rw[Gag e,Gag (h1.symm.trans e)];exact⟨h1,h2,ry⟩
  ·rw[Gae e,Gae (λz=>e (h1.trans z))];exact⟨h1,h2,h3⟩
theorem KT.put{H:Hp}{kvs:List (List Key×V)}{xs:List (List Key×Addr×Value)}(r:KT H kvs xs)(k:List Key){b:Addr}{y:V}{u:Value}(hb:H b=some (.tup (k.map kV)))(ry:RelV y u):
  KT H (putK kvs k y) (storedH xs k b u):=by
 have e:(kvs.any λkv=>decide (kv.1=k))=(atKey xs k).isSome:=by
  rw[pW,(r.val k).jS,Option.isSome_map]
 unfold putK storedH
 rw[e]
 by_cases q:(atKey xs k).isSome=true
 ·rw[Gag q,Gag q];exact r.Dh k ry
 ·rw[Gae q,Gae q];exact Paired.snoc r ⟨rfl,hb,ry⟩
theorem KT.keeps{H H' :Hp}{kvs:List (List Key×V)}{xs:List (List Key×Addr×Value)}(r:KT H kvs xs)(ht:∀b ys,H b=some (.tup ys)→H' b=some (.tup ys)):KT H' kvs xs:=
 Paired.CH r λ_ _ z=> ⟨z.1,ht _ _ z.2.1,z.2.2⟩
section
variable{P:Program}{w:World}{H:Hp}{h:Heap}{a:Addr}
theorem Cp{u:HO}(ok:HOk P w H h)(e:Rd H a u):bB P w H h a u:=e.ok ok
theorem nU{kvs:List (Key×V)}(ok:HOk P w H h)(e:Rd H a (.dK kvs)):kvs.length≤sizeLine∧(a==sysModules)=false∧∃vs,KV kvs vs∧h.DictOf (bA P w) a vs:=
 show bB P w H h a (.dK kvs) from Cp ok e
theorem Fn{kvs:List (Key×V)}(ok:HOk P w H h)(e:H a=some (.dK kvs)):kvs.length≤sizeLine∧(a==sysModules)=false∧∃vs,KV kvs vs∧h.DictOf (bA P w) a vs:=nU ok (.inl e)
theorem jT{ks:List Key}(ok:HOk P w H h)(e:H a=some (.tup (ks.map kV))):(tupleKind (bA P w)).is h ks a:=by
 obtain⟨_,its,r,o,h1,h2,n,h3⟩:=(show bB P w H h a (.tup (ks.map kV)) from ok a _ e)
 exact⟨o,its.toArray,n,h1,h2,h3,by simpa using nT r⟩
theorem pX{kvs:List (List Key×V)}(ok:HOk P w H h)(e:Rd H a (.dT kvs)):kvs.length≤sizeLine∧(a==sysModules)=false∧
  ∃xs,KT H kvs xs∧h.DictOfH (tupleKind (bA P w)) a xs:=by
 obtain⟨z,y,xs,r,o,es,ep,h1,h2,h3,h4,h5⟩:=(show bB P w H h a (.dT kvs) from Cp ok e)
 refine⟨z,y,xs,r,o,es,ep,h1,h2,h3,h4,λx hx=> ?_,h5⟩
 have all:∀{l:List (List Key×V)} {m:List (List Key×Addr×Value)},KT H l m→∀x∈m,(tupleKind (bA P w)).is h x.1 x.2.1:=by
  intro l m q
  induction q with
  |nil=>intro x hx;exact nomatch hx
  | @cons p q ps qs hq t ih=>
   intro x hx
   rcases Gas.mp hx with e|hx
   ·subst e
    exact jT ok (by rw[←hq.1];exact hq.2.1)
   ·exact ih x hx
 exact all r x hx
theorem vZ{kvs:List (List Key×V)}(ok:HOk P w H h)(e:H a=some (.dT kvs)):kvs.length≤sizeLine∧(a==sysModules)=false∧
  ∃xs,KT H kvs xs∧h.DictOfH (tupleKind (bA P w)) a xs:=pX ok (.inl e)
end
noncomputable def lX(H:Hp)(a:Addr)(y:V)(r:Option V):Prop:=
 (∃kvs k,Rd H a (.dK kvs)∧y=kV k∧r=gG kvs k)∨∃kvs k b,Rd H a (.dT kvs)∧y= .ref b∧H b=some (.tup (k.map kV))∧r=gG kvs k
noncomputable def pY(H:Hp)(a:Addr)(y v:V)(H' :Hp):Prop:=
 (∃kvs k,H a=some (.dK kvs)∧y=kV k∧kvs.length<sizeLine∧H' =upd H a (.dK (putK kvs k v)))∨
 ∃kvs k b,H a=some (.dT kvs)∧y= .ref b∧H b=some (.tup (k.map kV))∧kvs.length<sizeLine∧H' =upd H a (.dT (putK kvs k v))
theorem lX.k{H:Hp}{a:Addr}{kvs:List (Key×V)}{k:Key}(e:H a=some (.dK kvs)):lX H a (kV k) (gG kvs k):= .inl ⟨kvs,k,.inl e,rfl,rfl⟩
theorem lX.t{H:Hp}{a b:Addr}{kvs:List (List Key×V)}{k:List Key}(e:H a=some (.dT kvs))(eb:H b=some (.tup (k.map kV))):lX H a (.ref b) (gG kvs k):= .inr ⟨kvs,k,b,.inl e,rfl,eb,rfl⟩
theorem pY.k{H:Hp}{a:Addr}{kvs:List (Key×V)}{k:Key}{v:V}(e:H a=some (.dK kvs))(hl:kvs.length<sizeLine):pY H a (kV k) v (upd H a (.dK (putK kvs k v))):= .inl ⟨kvs,k,e,rfl,hl,rfl⟩
theorem pY.t{H:Hp}{a b:Addr}{kvs:List (List Key×V)}{k:List Key}{v:V}(e:H a=some (.dT kvs))(eb:H b=some (.tup (k.map kV)))(hl:kvs.length<sizeLine):
  pY H a (.ref b) v (upd H a (.dT (putK kvs k v))):= .inr ⟨kvs,k,b,e,rfl,eb,hl,rfl⟩
section
variable{X:Cx}{pins:List (Addr×Obj)}{σ:St}{H:Hp}{s:Shared}{a:Addr}{y v:V}{u r:Value}{o:Option V}{A:Around}{E:Value→Shared→Prop}
theorem Inv.big(I:Inv X pins σ H s):sysModules<s.heap.objs.size:=by
 have h:mainGlobals<s.heap.objs.size:=(I.mod.glob.keeps I.bk).lt
 exact Geg (by decide) h
theorem uG{Q:Value→Shared→Prop}(hu:A.units+1<cLine)(I:Inv X pins σ H s)(g:lX H a y (some v))(ry:RelV y u)(h:∀w' s',Inv X pins σ H s' →RelV v w' →Q w' s'):
  wpAny (model X.prog X.w) A (getItem (.ref a) u) Q E s:=by
 rcases g with⟨kvs,k,e,ey,l⟩| ⟨kvs,k,b,e,ey,eb,l⟩
 ·subst ey
  obtain⟨z,hd,vs,rel,dd⟩:=nU I.hok e
  obtain⟨w',hw,rw'⟩:=jO.some_of (v:=v) (o:=valueAt vs k) (by rw[l];exact rel.val k)
  exact wpAny_getItem_of (t9 ry) dd.mapOf hw (h w' _ (I.tok _) rw')
 ·subst ey
  cases(show u=Value.ref b from ry)
  obtain⟨z,hd,xs,rel,dd⟩:=pX I.hok e
  obtain⟨w',hw,rw'⟩:=jO.some_of (v:=v) (o:=(atKey xs k).map (·.2)) (by rw[l];exact rel.val k)
  obtain⟨p,hp,hp2⟩:=Gaj.mp hw
  refine wpAny_getItem_heap (tupleKind_room_in1 hu) (jT I.hok eb) dd hp ?_
  rw[hp2]
  exact h w' _ (I.tok _) rw'
theorem Bg{Q:Value→Shared→Prop}(hu:A.units+1<cLine)(I:Inv X pins σ H s)(g:lX H a y o)(ry:RelV y u)(h:∀s',Inv X pins σ H s' →Q (.bool (!o.isSome)) s'):
  wpAny (model X.prog X.w) A (compareOp .NotIn u (.ref a)) Q E s:=by
 rcases g with⟨kvs,k,e,ey,l⟩| ⟨kvs,k,b,e,ey,eb,l⟩
 ·subst ey
  obtain⟨z,hd,vs,rel,dd⟩:=nU I.hok e
  refine wpAny_notIn_of (t9 ry) hd dd.mapOf ?_
  rw[←(rel.val k).jS,←l]
  exact h _ (I.tok _)
 ·subst ey
  cases(show u=Value.ref b from ry)
  obtain⟨z,hd,xs,rel,dd⟩:=pX I.hok e
  refine wpAny_notIn_heap (tupleKind_room_in1 hu) (jT I.hok eb) hd dd ?_
  have q:=(rel.val k).jS
  rw[Option.isSome_map] at q
  rw[←q,←l]
  exact h _ (I.tok _)
theorem tf{h' :Heap}{t' :Nat}{ob:HO}(I:Inv X pins σ H s)(mu:Mut (H a))(hs:Heap.SameBut a s.heap h')(he:∃q,h'.get? a=some q)(new:bB X.prog X.w (upd H a ob) h' a ob):
  Inv X pins σ (upd H a ob) {s with heap:=h',toks:=t' }:=
 I.write (x:=a) (e:=a) mu (.inl rfl) (λb q hb z=>(hs.2 b hb).trans z) he new
theorem Di{P:Program}{w:World}{H' :Hp}{h' :Heap}{kvs:List (Key×V)}{vs:List (Key×Value)}(z:kvs.length≤sizeLine)(hd:(a==sysModules)=false)(rel:KV kvs vs)(dd:h'.DictOf (bA P w) a vs):
  bB P w H' h' a (.dK kvs):=⟨z,hd,vs,rel,dd⟩
theorem uH{H' :Hp}{Q:Unit→Shared→Prop}(hu:A.units+1<cLine)(I:Inv X pins σ H s)(g:pY H a y v H')(ry:RelV y u)(rv:RelV v r)(h:∀s',Inv X pins σ H' s' →Q () s'):
  wpAny (model X.prog X.w) A (setItem (.ref a) u r) Q E s:=by
 rcases g with⟨kvs,k,e,ey,l,eH⟩| ⟨kvs,k,b,e,ey,eb,l,eH⟩
 ·subst ey eH
  obtain⟨z,hd,vs,rel,dd⟩:=Fn I.hok e
  have hz:vs.length≤sizeLine:=by rw[←rel.length];exact z
  have hl:(putK kvs k v).length≤sizeLine:=by have:=kJ kvs k v;omega
  refine wpAny_setItem_pairs (hsz:=hz) (t9 ry) dd λh' dd' hs=>h _ ?_
  have he:∃q,h'.get? a=some q:=let⟨q,_,_,hq,_⟩:=dd';⟨q,hq⟩
  exact tf I (by rw[e];exact True.intro) hs he (Di hl hd (rel.put k rv) dd')
 ·subst ey eH
  cases(show u=Value.ref b from ry)
  obtain⟨z,hd,xs,rel,dd⟩:=vZ I.hok e
  have hz:xs.length≤sizeLine:=by rw[←Paired.length rel];exact z
  have hl:(putK kvs k v).length≤sizeLine:=by have:=kJ kvs k v;omega
  refine wpAny_setItem_heap (hsz:=hz) (tupleKind_room_in1 hu) (jT I.hok eb) dd λh' dd' hs=>h _ ?_
  obtain⟨q,es,ep,hq,h2,h3,h4,_,h5⟩:=dd'
  refine tf I (by rw[e];exact True.intro) hs ⟨q,hq⟩ ⟨hl,hd,_,(rel.put k eb rv).keeps λc ys ec=> ?_,q,es,ep,hq,h2,h3,h4,h5⟩
  rw[az (EV ec e (λz=>nomatch z))]
  exact ec
end
section
variable{X:Cx}{pins:List (Addr×Obj)}{σ:St}{H:Hp}{s:Shared}{a:Addr}{kvs:List (Key×V)}{k:Key}{u:Value}{A:Around}{E:Value→Shared→Prop}
theorem Fo{Q:Value→Shared→Prop}(I:Inv X pins σ H s)(e:Rd H a (.dK kvs))(h:∀t s',Inv X pins σ H s' →Q (.int kvs.length t) s'):wpAny (model X.prog X.w) A (call (.builtin "len") [.ref a]) Q E s:=by
 obtain⟨z,hd,vs,rel,dd⟩:=nU I.hok e
 refine call_len_dict hd dd (by rw[←rel.length];rw[GbA] at z;omega) ?_
 rw[←rel.length]
 exact h _ _ (I.tok _)
end
theorem pZ{X:Cx}{pins:List (Addr×Obj)}{σ:St}{H:Hp}{s:Shared}{a:Addr}{y:V}{o:Option V}(I:Inv X pins σ H s)(g:lX H a y o):s.TypeIs (.ref a) "dict":=by
 rcases g with⟨kvs,k,e,_,_⟩| ⟨kvs,k,b,e,_,_,_⟩
 ·obtain⟨_,_,vs,_,dd⟩:=nU I.hok e
  exact dd.typeIs
 ·obtain⟨_,_,xs,_,dd⟩:=pX I.hok e
  exact dd.typeIs
theorem w5{P:Program}{w:World}{H:Hp}(h:Heap)(hb:sysModules<h.objs.size):bB P w H (h.push {cls:= .type "dict",data:= .dict #[]}) h.objs.size (.dT []):=
 ⟨GaJ _,Gel.mpr (Gba (GaA hb)),[],.nil,_,#[],0,Gan _ rfl,⟨rfl,rfl,rfl⟩,rfl,rfl,GcN⟩
noncomputable def Dj:TE:=λ_ H Q=>∀p,H p=none→Q (.ref p) (upd H p (.dT []))
section
variable{X:Cx}{pos:Pos}
theorem w6:PE X (.Dict [] [] pos) Dj:=λpins s σ H Q I h=>
 wpAny_Dict_empty ⟨.ref s.heap.objs.size,_,I.laid (a:=s.heap.objs.size) (o:= .dT []) (t' :=s.toks) (λ_ _ q=>Gad _ q) (Gau _) (w5 s.heap I.big),rfl,h _ (I.hok.fresh (Gau _))⟩
end
noncomputable def Dk(kvs more:List (Key×V)):List (Key×V):=more.foldl (λacc kv=>putK acc kv.1 kv.2) kvs
theorem KV.merge:∀{more:List (Key×V)} {rs:List (Key×Value)} {kvs:List (Key×V)} {vs:List (Key×Value)},KV more rs→KV kvs vs→KV (Dk kvs more) (merged vs rs):=by
 intro more rs kvs vs r
 unfold KV at r
 induction r generalizing kvs vs with
 |nil=>intro q;exact q
 | @cons p q ps qs h t ih=>
  intro r0
  have e:KV (putK kvs p.1 p.2) (stored vs q.1 q.2):=by
   have:=r0.put p.1 h.2
   rw[←h.1];exact this
  exact ih e
noncomputable def IsD(H:Hp)(a:Addr):Prop:=(∃kvs,Rd H a (.dK kvs))∨∃kvs,Rd H a (.dT kvs)
theorem Dl{X:Cx}{pins:List (Addr×Obj)}{σ:St}{H:Hp}{s:Shared}{a:Addr}(I:Inv X pins σ H s)(d:IsD H a):
  s.TypeIs (.ref a) "dict"∧(∀b,Value.ref a= .ref b→∃ob,s.heap.get? b=some ob∧ob.dict=none)∧(a==sysModules)=false:=by
 rcases d with⟨kvs,e⟩| ⟨kvs,e⟩
 ·obtain⟨_,hd,vs,_,dd⟩:=nU I.hok e
  refine⟨dd.typeIs,λb q=> ?_,hd⟩
  cases q
  obtain⟨ob,_,_,h1,h2,_⟩:=dd
  exact⟨ob,h1,h2.2.1⟩
 ·obtain⟨_,hd,xs,_,dd⟩:=pX I.hok e
  refine⟨dd.typeIs,λb q=> ?_,hd⟩
  cases q
  obtain⟨ob,_,_,h1,h2,_⟩:=dd
  exact⟨ob,h1,h2.2.1⟩
end L2
namespace Att
open PySem PySem.W PySem.Calls PyProof.Rows
theorem lj{P:Params}{h:Heap}:∀(ns:List Int) (vs:List Value),WellAll P h vs (ns.map WData.int)→IntsAre vs ns:=by
 intro ns
 induction ns with
 |nil=>
  intro vs w
  rw[List.map_nil] at w
  cases w
  exact .nil
 |cons n ns ih=>
  intro vs w
  rw[GaI] at w
  cases w with
  |cons a b=>
   cases a
   exact .cons _ _ (ih _ b)
theorem uI{l:OpenLaw}{n:Nat}(hn:l.most=some n){P:Params}{h:Heap}{args:List WData}{vals:List Value}
  (hpre:l.row.toRowW.claim.pre args=true)(hwl:WellAll P h vals args):
  ∃a vs ns,vals=[Value.ref a]∧args=[WData.list (ns.map WData.int)]∧h.get? a=some {cls:= .type "list",data:= .seq vs.toArray}∧IntsAre vs ns∧ns.length≤n:=by
 have hsh:WShape.hasAll [] args [.list .int]=true:=(pre_splitW hpre).1
 have hc:l.pre.holds [] {args:=args}=true:=(pre_splitW hpre).2
 obtain⟨d,r,rfl,h1,h2⟩:=hasAllW_cons hsh
 obtain rfl:=hasAllW_nil h2
 obtain⟨xs,rfl,h3⟩:=hasW_list h1
 obtain⟨ns,rfl⟩:=items_int h3
 have hlen:ns.length≤n:=by
  unfold OpenLaw.pre at hc
  have h4:(WTm.not (.lt (.lit (.int (n:Int))) (.len (.arg 0)))).holds [] {args:=[.list (ns.map .int)]}=true:=by
   have h4:=(holds_andW hc).1
   rw[hn] at h4
   exact h4
  have h5:=condW_of h4 (w_not (w_lt w_lit (w_len_list (w_arg rfl))))
  rw[Gar] at h5
  refine Nat.le_of_not_lt λq=> ?_
  have q' :(n:Int)<((ns.length:Nat):Int):=by omega
  first
   |(rw[GaD q'] at h5;exact absurd h5 (by decide))
   |(simp at h5;omega)
 cases hwl with
 |cons w1 w2=>
  cases w2
  cases w1 with
  |list ho hall=>exact⟨_,_,ns,rfl,rfl,ho,lj ns _ hall,hlen⟩
theorem uJ(l:OpenLaw)(args:List WData):l.row.toRowW.claim.post args (.bool true) args=true:=
 postW_of (r:=l.row.toRowW) (X:=(true==true))
  (show WShape.has [] (.bool true) .bool=true by first|rfl|decide|simp[WShape.has,WShape.arms,WShape.armsAll])
  (show(WTm.eq .res (.lit (.bool true))).value [] {args:=args,res:=some (.bool true),after:=args}=some (.bool (true==true)) from w_eq_bool (w_res rfl) w_lit) rfl
theorem q0{l:OpenLaw}{n:Nat}{q:Program}{loose:List Str}{XP:(Str→Option Value)→Heap→Prop}{YP:World→Heap→Prop}{d:DefRec}
  (hn:l.most=some n)(hdf:d.params.defaults=[])
  (call:∀(w:World) (s₀ s₁:Shared) (mg mb:Str→Option Value) (fa:Addr) (o:Obj) (pm cd doc:Value) (a:Addr) (vs:List Value) (ns:List Int),
   Ground q loose [] XP w s₀ mg mb s₁.heap→YP w s₁.heap→
   s₁.heap.get? fa=some o→o.data= .func (docDef d.name d.params d.body d.scope pm cd doc)→s₁.heap.CodeRec cd d.name→mg d.name=some (.ref fa)→
   s₁.heap.get? a=some {cls:= .type "list",data:= .seq vs.toArray}→IntsAre vs ns→ns.length≤n→s₁.gens=#[]→
   codeAny (model l.prog w) callerA (.call (.ref fa) ⟨[.ref a],[]⟩) (λr s' =>r= .ok (.ret (.bool true))∧OldK s₁.heap s'.heap∧s'.os=s₁.os∧AllBare s'.gens) s₁):
  WalkO q loose XP YP l.row.toRowW d [] (λf vs=>PySem.call f vs):=by
 intro w s₀ s₁ mg mb G Y fa o pm cd doc dV kV ho hd hcd hD hmg hg args vals as hpre hlay hrd hwl hlo
 obtain rfl:dV= .none:=Dflts.none hD hdf
 obtain rfl:kV= .none:=Dflts.noKw hD
 obtain⟨a,vs,ns,rfl,rfl,hobj,hints,hlen⟩:=uI hn hpre hwl
 refine enter_call (Ged (call w s₀ s₁ mg mb fa o pm cd doc a vs ns G Y ho (fd_plain hd) hcd hmg hobj hints hlen hg) λr s' hq=> ?_)
 obtain⟨rfl,h2,h3,h4⟩:=hq
 exact⟨.inl ⟨.bool true,.bool true,[],rfl,λ_=>rfl,.bool true,uJ l _,λ_=> ⟨List.Pairwise.nil,λ_ hm=>(nomatch hm)⟩⟩,h2,h3,h4⟩
end Att
namespace L2
open PySem PySem.Spec PyProof.Rows
theorem il:∀{vs:List Value} {ns:List Int},IntsAre vs ns→Vals (ns.map V.int) vs
 |_,_,.nil=> .nil
 |_,_,.cons n t h=> .cons ⟨t,rfl⟩ (il h)
noncomputable def Bh(H:Hp):Prop:=∀b,H b=none∨∃o xs,H b=some (.frz o (.lst xs))
theorem w8{P:Program}{w:World}{K:PySem.W.Frag}{mg mb:Str→Option Value}{CX:CXT}{k:Nat}{fa a:Addr}{fd:FuncData}{x:Str}{sp:Sp}{s₁:Shared}{vs:List Value}{ns:List Int}
  (KX:K.In s₁.heap)(hns:s₁.heap.Ns mainGlobals mg)(hb:s₁.heap.Ns builtinsNs mb)(hbb:∀x:Str,x≠"__name__"→mb x=bootBuiltins x)(hlim:s₁.heap.NoLimit)(hg:s₁.gens=#[])
  (ha:s₁.heap.get? a=some {cls:= .type "list",data:= .seq vs.toArray})(hi:IntsAre vs ns)(hl:ns.length≤sizeLine)(hr:du k callerA)
  (F:∀base:Heap,K.In base→base.Ns mainGlobals mg→df P w K mg base CX k fa fd [x] sp)(hbind:∀(s:Shared) (u:Value),BindsTo s fd ⟨[u],[]⟩ [(x,u)])
  (hsp:∀H:Hp,Bh H→SqL K H a (ns.map V.int)→sp [.ref a] H (λv _=>v= .bl true) λ_ _ _=>False)
  (hCX:∀H e s',CX [] H s₁ (λ_ _ _=>False) e s' →False):
  codeAny (model P w) callerA (.call (.ref fa) ⟨[.ref a],[]⟩) (λr s' =>r= .ok (.ret (.bool true))∧OldK s₁.heap s'.heap∧s'.os=s₁.os∧AllBare s'.gens) s₁:=by
 have rv:=il hi
 have lenV:=hi.length
 have core:∀H:Hp,Bh H→SqL K H a (ns.map V.int)→HOk P w H s₁.heap→(∀b,H b≠none→b=a)→(H a≠none→K.lookup a=none)→
   codeAny (model P w) callerA (.call (.ref fa) ⟨[.ref a],[]⟩) (λr s' =>r= .ok (.ret (.bool true))∧OldK s₁.heap s'.heap∧s'.os=s₁.os∧AllBare s'.gens) s₁:=by
  intro H hO hS hok hA hK
  have base_of:∀{b:Addr} {o:Obj},s₁.heap.get? b=some o→H b=none→(oP s₁.heap H).get? b=some o:=λe n=>vQ e n
  have noA:∀{b:Addr} {o:Obj} {es:Array DictEntry} {ep:Nat},s₁.heap.get? b=some o→o.data= .dict es ep→H b=none:=λ{b o es ep} e d=>by
   cases q:H b with
   |none=>rfl
   |some u=>
    have e' :b=a:=hA b (by rw[q];simp)
    subst e'
    rw[ha] at e;cases e
    have d' :Data.seq vs.toArray _=Data.dict es ep:=d
    cases d'
  have nsK:∀{b:Addr} {m:Str→Option Value},s₁.heap.Ns b m→(oP s₁.heap H).Ns b m:=λ{b m} ⟨o,es,ep,e,d,r⟩=> ⟨o,es,ep,base_of e (noA e d),d,r⟩
  have hKb:K.In (oP s₁.heap H):=λb o e=>base_of (KX b o e) (by
   cases q:H b with
   |none=>rfl
   |some u=>
    have e' :b=a:=hA b (by rw[q];simp)
    subst e'
    rw[hK (by rw[q];simp)] at e;cases e)
  have hM:Mod K mg (oP s₁.heap H):=⟨hKb,nsK hns,⟨mb,nsK hb,hbb⟩,let⟨mc,h1,h2⟩:=hlim;⟨mc,nsK h1,h2⟩⟩
  have e0:rG P w K mg (oP s₁.heap H) callerA [] s₁ H:=⟨rfl,hM,λb o e=>AW e,Nat.le_of_eq (uy _ _),trivial,λb hb=>absurd (show b∈([]:List Addr) from hb) (by simp),hok,.of_eq hg⟩
  refine Ged ((F _ hKb (nsK hns)).run callerA [] s₁ H ⟨[.ref a],[]⟩ [.ref a] [.ref a] _ _ hr e0 (hbind s₁ (.ref a)) (.cons rfl .nil) (hsp H hO hS)) λr s' h=> ?_
  cases r with
  |error e=>exact(hCX H e s' h).elim
  |ok fl=>
   cases fl with
   |next=>exact False.elim h
   |brk=>exact False.elim h
   |cont=>exact False.elim h
   |ret u=>
    obtain⟨v,H',os,bare,un,hok',r',q⟩:=h
    have q' :v= .bl true:=q
    subst q'
    obtain rfl:u=Value.bool true:=r'
    refine⟨rfl,OldK.of_keep λb o e=> ?_,os,bare⟩
    cases q:H b with
    |none=>exact un.keep b o e q (by intro z;exact absurd (show b∈([]:List Addr) from z) (by simp)) (by simp)
    |some u=>
     rcases hO b with z| ⟨ob,xs,z⟩
     ·rw[q] at z;cases z
     ·have z2:=un.kC b ob _ z
      obtain⟨e1,_⟩:=hok b _ z
      obtain⟨e2,_⟩:=hok' b _ z2
      rw[e] at e1;cases e1
      exact e2
 cases hk:K.lookup a with
 |some o=>
  have e:=KX a o hk
  rw[ha] at e
  cases e
  refine core (λ_=>none) (λ_=> .inl rfl) (.inr ⟨_,vs.toArray,_,hk,rfl,rfl,rfl,by rw[Gao,lenV];exact hl,by simpa using rv⟩) (λb u z=>by have z' :(none:Option HO)=some u:=z;cases z') (λb z=>absurd rfl z) λz=>absurd rfl z
 |none=>
  refine core (λb=>if b=a then some (.frz {cls:= .type "list",data:= .seq vs.toArray} (.lst (ns.map V.int))) else none) (λb=> ?_) (.inl (.inr ⟨{cls:= .type "list",data:= .seq vs.toArray},Gag rfl⟩)) (λb u z=> ?_) (λb z=> ?_) λ_=>hk
  ·by_cases hb:b=a
   ·exact .inr ⟨_,_,Gag hb⟩
   ·exact .inl (Gae hb)
  ·by_cases hb:b=a
   ·have z' :=(Gag hb).symm.trans z
    cases z'
    subst hb
    exact⟨ha,by rw[Gar];exact hl,vs,_,rv,ha⟩
   ·have z' :=(Gae hb).symm.trans z
    cases z'
  ·by_cases hb:b=a
   ·exact hb
   ·exact absurd (Gae hb) z
theorem Bi{l:PySem.W.OpenLaw}{n k:Nat}{q:Program}{loose:List Str}{XP:(Str→Option Value)→Heap→Prop}{YP:World→Heap→Prop}{d:DefRec}{K:Params→PySem.W.Frag}{CX:World→CXT}{sp:World→Sp}{x:Str}
  (hn:l.most=some n)(hn2:n≤sizeLine)(hdf:d.params.defaults=[])(hr:du k callerA)
  (hY:∀(w:World) (h:Heap),YP w h→(K w.params).In h)
  (F:∀(w:World) (mg:Str→Option Value) (fa:Addr) (h:Heap),(K w.params).In h→h.Ns mainGlobals mg→mg d.name=some (.ref fa)→
   ∃fd:FuncData,(∀(s:Shared) (u:Value),BindsTo s fd ⟨[u],[]⟩ [(x,u)])∧
    ∀base:Heap,(K w.params).In base→base.Ns mainGlobals mg→df l.prog w (K w.params) mg base (CX w) k fa fd [x] (sp w))
  (hsp:∀(w:World) (H:Hp) (a:Addr) (ns:List Int),ns.length≤n→Bh H→SqL (K w.params) H a (ns.map V.int)→sp w [.ref a] H (λv _=>v= .bl true) λ_ _ _=>False)
  (hCX:∀(w:World) (H:Hp) (s:Shared) (e:Value) (s' :Shared),CX w [] H s (λ_ _ _=>False) e s' →False):
  PySem.W.WalkO q loose XP YP l.row.toRowW d [] (λf vs=>PySem.call f vs):=by
 refine Att.q0 hn hdf λw s₀ s₁ mg mb fa o pm cd doc a vs ns G Y ho hd hcd hmg hobj hints hlen hg=> ?_
 have KX:=hY w _ Y
 obtain⟨fd,hb,hF⟩:=F w mg fa _ KX G.T.g hmg
 exact w8 KX G.T.g G.T.b G.T.builtins G.T.nolimit hg hobj hints (GbQ hlen hn2) hr hF hb (λH hO hS=>hsp w H a ns hlen hO hS) λH e s' =>hCX w H s₁ e s'
noncomputable def bZ(s:Stmt):Arguments:=match s with
 | .FunctionDef _ a _ _ _ _ _ _ _ _=>a
 |_=>{posonlyargs:=[],args:=[],vararg:=none,kwonlyargs:=[],kw_defaults:=[],kwarg:=none,defaults:=[]}
noncomputable def bM(s:Stmt):List Stmt:=match s with
 | .FunctionDef _ _ b _ _ _ _ _ _ _=>b
 |_=>[]
noncomputable def av(s:Stmt):Scope:=match s with
 | .FunctionDef _ _ _ _ _ _ sc _ _ _=>sc
 |_=>{kind:= .function,names:=[],isGenerator:=false,isCoroutine:=false}
noncomputable abbrev CX0:CXT:=λ_ _ _ _ _ _=>False
noncomputable abbrev E0:XK:=λ_ _ _=>False
theorem b9{X:Cx}:Passes CX0 X E0:=λ_ _ _ _ _ _ _ h=>h.elim
structure Fun(K:PySem.W.Frag)(x qual:Str)(st:Stmt)(f:Addr)(fd:FuncData):Prop where
 ex:∃(oc:Value) (od:Option Addr) (kV doc pm:Value) (an:Option Addr) (cdv ct:Value) (osl:Array (Option Value)),
  fd=PySem.W.fnOf x qual (bZ st) (bM st) (av st) .none kV doc pm an cdv ct∧K.lookup f=some ⟨oc,od,.func fd,osl⟩∧PySem.W.codeIn K cdv qual=true
 kp:PySem.W.keepIn K (.ref f)=true
section
variable{P:Program}{w:World}{K:PySem.W.Frag}{mg:Str→Option Value}{base:Heap}
theorem Fun.ok{x qual:Str}{st:Stmt}{f:Addr}{fd:FuncData}{N ps:List Str}{k:Nat}{sp:Sp}(F:Fun K x qual st f fd)(S:bY N ps (av st))(len:∀vs H Q E,sp vs H Q E→vs.length=ps.length)
  (hbody:∀(cdv:Value) (A:Around) (outer:List Env) (s:Shared) (H:Hp) (vs:List V) (Q:VK) (E:XK),du k (A.deeper (envOfC qual (av st) s.heap.objs.size f cdv))→sp vs H Q E→
   ∃t,PSs (rH CX0 P w K mg base N qual (av st) f cdv A outer s H E).nox (bM st) t∧t {nx:=λ_ H' =>Q .non H',rt:=Q} (start N vs) H):df P w K mg base CX0 (k+1) f fd ps sp:=by
 obtain⟨oc,od,kV,doc,pm,an,cdv,ct,osl,rfl,lk,hcd⟩:=F.ex
 refine Fh lk hcd S len λA outer s H vs Q E hr hsp=> ?_
 obtain⟨t,h,q⟩:=hbody cdv A outer s H vs Q E hr hsp
 exact⟨t,h.nox,q⟩
theorem Fun.binds{x qual:Str}{st:Stmt}{f:Addr}{fd:FuncData}{ps:List Str}(F:Fun K x qual st f fd)
  (h:∀(kV doc pm:Value) (an:Option Addr) (cdv ct:Value) (us:List Value),us.length=ps.length→bindArgs (PySem.W.fnOf x qual (bZ st) (bM st) (av st) .none kV doc pm an cdv ct) ⟨us,[]⟩=pure (ps.zip us)):Binds K fd ps []:=by
 obtain⟨oc,od,kV,doc,pm,an,cdv,ct,osl,rfl,lk,hcd⟩:=F.ex
 exact .all (h kV doc pm an cdv ct)
theorem gL{x qual:Str}{st:Stmt}{f:Addr}{oc:Value}{od an:Option Addr}{osl:Array (Option Value)}{kV doc pm cdv ct:Value}(l:K.lookup f=some ⟨oc,od,.func (PySem.W.fnOf x qual (bZ st) (bM st) (av st) .none kV doc pm an cdv ct),osl⟩)
  (c:PySem.W.codeIn K cdv qual=true)(k:PySem.W.keepIn K (.ref f)=true):Fun K x qual st f (PySem.W.fnOf x qual (bZ st) (bM st) (av st) .none kV doc pm an cdv ct):=⟨⟨oc,od,kV,doc,pm,an,cdv,ct,osl,rfl,l,c⟩,k⟩
end
theorem kK{A:Around}{k:Nat}(hr:du k A):A.units+1<cLine:=GdD (Nat.add_le_add_left (by decide:1≤64) _) hr.units
section
variable{X:Cx}
theorem pv(i:Nat){x:Str}{pos:Pos}(hN:X.N[i]? =some x:=by rfl)(hv:Vis X.env.scope x:=by first|exact Or.inl rfl|exact Or.inr (Or.inl rfl)|exact Or.inr (Or.inr rfl))(hd:(x==("__debug__":Str))=false:=by decide)
  (hcd:(x==("__classdict__":Str))=false:=by decide):PE X (.Name x pos) (EX i):=iO hN hv hd hcd
end
noncomputable def b8(H H' :Hp):Prop:=∀b o,H b=some o→H' b=some o
theorem b8.refl(H:Hp):b8 H H:=λ_ _ h=>h
theorem b8.trans{H H1 H2:Hp}(a:b8 H H1)(b:b8 H1 H2):b8 H H2:=λc o h=>b c o (a c o h)
theorem b8.free{H H' :Hp}(e:b8 H H'){l:Addr}(h:H' l=Option.none):H l=Option.none:=by
 cases q:H l with
 |none=>rfl
 |some o=>
  rw[e l o q] at h
  cases h
theorem b8.seq{K:PySem.W.Frag}{H H' :Hp}{a:Addr}{xs:List V}(e:b8 H H')(h:SqL K H a xs):SqL K H' a xs:=by
 rcases h with(h| ⟨o,h⟩)|h
 ·exact .inl (.inl (e _ _ h))
 ·exact .inl (.inr ⟨o,e _ _ h⟩)
 ·exact .inr h
end L2
namespace DL
open PySem
noncomputable abbrev Key:=Sum Int Str
inductive D where
 |non
 |bl (b:Bool)
 |int (i:Int)
 |str (x:Str)
 |tup (ds:List D)
 |lst (ds:List D)
 |dK (kvs:List (Key×D))
 |dT (kvs:List (List Key×D))
 |scr (ns:List Int)
 deriving Inhabited
mutual
@[simp] noncomputable def D.imm:D→Bool
 | .non=>true
 | .bl _=>true
 | .int _=>true
 | .str _=>true
 | .tup ds=>bN ds
 | .lst _=>false
 | .dK _=>false
 | .dT _=>false
 | .scr _=>true
@[simp] noncomputable def bN:List D→Bool
 |[]=>true
 |d::ds=>d.imm&&bN ds
end
noncomputable def D.gM:D→Bool
 | .lst ds=>bN ds
 | .dK kvs=>bN (kvs.map (·.2))
 | .dT kvs=>bN (kvs.map (·.2))
 |d=>d.imm
noncomputable def D.top:D→Bool
 | .lst _=>true
 | .dK _=>true
 | .dT _=>true
 |_=>false
noncomputable def ao:Nat:=16777216
inductive Slot where
 |sh (d:D)
 |own (d:D)
 |lok (d:D)
 |bor (d:D)
noncomputable abbrev Env:=List (Option Slot)
inductive Cls where
 |c|tn|to|tb
 deriving DecidableEq
structure RV where
 k:Cls
 d:D
noncomputable abbrev DE:=Env→Option RV
noncomputable abbrev DT:=Env→Option Bool
noncomputable abbrev DA:=Env→Option (List RV)
noncomputable abbrev DG:=D→Env→Option Env
inductive Out where
 |nx (e:Env)
 |ret (d:D)
 |bk (e:Env)
 |ct (e:Env)
noncomputable abbrev DS:=Env→Option Out
noncomputable def gH(d:D):RV:=⟨if d.top then .tn else .c,d⟩
noncomputable def RV.free(r:RV):Bool:=match r.k with
 | .c=>true
 | .tn=>true
 |_=>false
@[simp] noncomputable def vE(i:Nat):DE:=λenv=>match env[i]? with
 |some (some (.sh d))=>some ⟨.c,d⟩
 |some (some (.own d))=>some ⟨.to,d⟩
 |some (some (.lok d))=>some ⟨.tb,d⟩
 |some (some (.bor d))=>some ⟨.tb,d⟩
 |_=>none
@[simp] noncomputable def kE(d:D):DE:=λ_=>some ⟨.c,d⟩
@[simp] noncomputable def opE(o:D→D→Option RV)(f g:DE):DE:=λenv=>(f env).bind λx=>(g env).bind λy=>o x.d y.d
noncomputable def ck:D→D→Option RV
 | .int i,.int j=>some ⟨.c,.int (i+j)⟩
 | .str x,.str y=>if x.length+y.length≤ao then some ⟨.c,.str (x++y)⟩ else none
 | .tup x,.tup y=>if x.length+y.length≤ao∧0<x.length then some ⟨.c,.tup (x++y)⟩ else none
 | .lst x,.lst y=>if x.length+y.length≤ao then some ⟨.tn,.lst (x++y)⟩ else none
 |_,_=>none
noncomputable def w9:D→D→Option RV
 | .int i,.int j=>some ⟨.c,.int (i -j)⟩
 |_,_=>none
noncomputable def dF(i j:Int):Bool:=decide (i.natAbs<18446744073709551616)||decide (j.natAbs<18446744073709551616)
noncomputable def jU:D→D→Option RV
 | .int i,.int j=>if dF i j then some ⟨.c,.int (i*j)⟩ else none
 |_,_=>none
noncomputable def q8:D→D→Option RV
 | .int i,.int j=>if 0<j∧j<1073741824 then some ⟨.c,.int (i/j)⟩ else none
 |_,_=>none
noncomputable def d9:D→D→Option RV
 | .int i,.int j=>if 0<j then some ⟨.c,.int (i%j)⟩ else none
 |_,_=>none
noncomputable def wa:D→D→Option RV
 | .int i,.int j=>if 0≤j∧j≤1000∧i.natAbs<1000000 then some ⟨.c,.int (i^j.toNat)⟩ else none
 |_,_=>none
@[simp] noncomputable def a9:Nat→D→Bool
 |_,.non=>true
 |_,.bl _=>true
 |_,.int _=>true
 |_,.str _=>true
 |n+1,.tup ds=>ds.all (a9 n)
 |n+1,.lst ds=>ds.all (a9 n)
 |_,_=>false
@[simp] noncomputable def D.plain(d:D):Bool:=a9 20 d
mutual
@[simp] noncomputable def eqD:D→D→Bool
 | .non,.non=>true
 | .bl a,.bl b=>a==b
 | .bl a,.int b=>(if a then 1 else 0)==b
 | .int a,.bl b=>a==(if b then 1 else 0)
 | .int a,.int b=>a==b
 | .str a,.str b=>a==b
 | .tup a,.tup b=>fV a b
 | .lst a,.lst b=>fV a b
 |_,_=>false
@[simp] noncomputable def fV:List D→List D→Bool
 |[],[]=>true
 |a::as,b::bs=>eqD a b&&fV as bs
 |_,_=>false
end
noncomputable def eqB(x y:D):Option Bool:=if x.plain&&y.plain then some (eqD x y) else none
noncomputable def neB(x y:D):Option Bool:=if x.plain&&y.plain then some (!eqD x y) else none
noncomputable def dG:D→Bool
 | .non=>true
 |_=>false
noncomputable def wb(x y:D):Option Bool:=if dG y then some (dG x) else none
noncomputable def Cq(x y:D):Option Bool:=if dG y then some (!dG x) else none
noncomputable def ltB:D→D→Option Bool
 | .int i,.int j=>some (decide (i<j))
 |_,_=>none
noncomputable def leB:D→D→Option Bool
 | .int i,.int j=>some (decide (i≤j))
 |_,_=>none
noncomputable def gtB:D→D→Option Bool
 | .int i,.int j=>some (decide (j<i))
 |_,_=>none
@[simp] noncomputable def dH(o:D→D→Option Bool)(f g:DE):DT:=λenv=>(f env).bind λx=>(g env).bind λy=>o x.d y.d
@[simp] noncomputable def bE(t:DT):DE:=λenv=>(t env).map λb=> ⟨.c,.bl b⟩
@[simp] noncomputable def iQ(f:DE):DT:=λenv=>(f env).bind λx=>match x.d with
 | .bl b=>some b
 |_=>none
@[simp] noncomputable def q9(t u:DT):DT:=λenv=>(t env).bind λb=>if b then u env else some false
@[simp] noncomputable def orT(t u:DT):DT:=λenv=>(t env).bind λb=>if b then some true else u env
@[simp] noncomputable def oT(t:DT):DT:=λenv=>(t env).map (!·)
noncomputable def atD{α:Type}(xs:List α)(i:Int):Option α:=if 0≤i then xs[i.toNat]? else if -(xs.length:Int)≤i then xs[(i+xs.length).toNat]? else none
noncomputable def keyOf:D→Option Key
 | .int i=>some (.inl i)
 | .str x=>some (.inr x)
 |_=>none
@[simp] noncomputable def keysOf:List D→Option (List Key)
 |[]=>some []
 |d::ds=>(keyOf d).bind λk=>(keysOf ds).map (k:: ·)
section
variable{κ:Type} [DecidableEq κ]
noncomputable def look(kvs:List (κ×D))(k:κ):Option D:=(kvs.find? λkv=>decide (kv.1=k)).map (·.2)
noncomputable def put(kvs:List (κ×D))(k:κ)(v:D):List (κ×D):=
 if(kvs.any λkv=>decide (kv.1=k))=true then kvs.map (λkv=>if kv.1=k then(kv.1,v) else kv) else kvs++[(k,v)]
end
noncomputable def ixD:D→D→Option D
 | .lst xs,.int i=>atD xs i
 | .tup xs,.int i=>atD xs i
 | .str x,.int i=>if x.length≤ao then(atD x.cps.toList i).map λc=> .str ⟨#[c]⟩ else none
 | .dK kvs,k=>(keyOf k).bind λk=>look kvs k
 | .dT kvs,.tup ds=>(keysOf ds).bind λk=>look kvs k
 | .scr ns,.int i=>(atD ns i).map .int
 |_,_=>none
@[simp] noncomputable def ixE(f g:DE):DE:=λenv=>(f env).bind λx=>(g env).bind λy=>(ixD x.d y.d).map λd=> ⟨.c,d⟩
@[simp] noncomputable def aA:DA:=λ_=>some []
@[simp] noncomputable def a8(f:DE)(r:DA):DA:=λenv=>(f env).bind λx=>(r env).bind λxs=>some (x::xs)
@[simp] noncomputable def uK(a:DA):DE:=λenv=>(a env).bind λrs=>if rs.all (·.free)&&decide (rs.length≤ao) then some ⟨.c,.tup (rs.map (·.d))⟩ else none
@[simp] noncomputable def rM(a:DA):DE:=λenv=>(a env).bind λrs=>if rs.all (·.free)&&decide (rs.length≤ao) then some ⟨.tn,.lst (rs.map (·.d))⟩ else none
@[simp] noncomputable def aM(sp:List D→Option D)(a:DA):DE:=λenv=>(a env).bind λrs=>(sp (rs.map (·.d))).map gH
@[simp] noncomputable def dI(o:List D→Option RV)(a:DA):DE:=λenv=>(a env).bind λrs=>o (rs.map (·.d))
noncomputable def cM:List D→Option RV
 |[.lst xs]=>some ⟨.c,.int xs.length⟩
 |[.tup xs]=>some ⟨.c,.int xs.length⟩
 |[.str x]=>if x.length≤ao then some ⟨.c,.int x.length⟩ else none
 |[.dK kvs]=>some ⟨.c,.int kvs.length⟩
 |[.scr ns]=>some ⟨.c,.int ns.length⟩
 |_=>none
noncomputable def listS:List D→Option RV
 |[.lst xs]=>some ⟨.tn,.lst xs⟩
 |[.tup xs]=>some ⟨.tn,.lst xs⟩
 |_=>none
@[simp] noncomputable def oU:List D→Option (List Bool)
 |[]=>some []
 | .bl b::ds=>(oU ds).map (b:: ·)
 |_=>none
noncomputable def qa:D→Option (List D)
 | .lst xs=>some xs
 | .tup xs=>some xs
 | .scr ns=>some (ns.map .int)
 |_=>none
noncomputable def one(o:List D→Option RV):List D→Option RV
 |[d]=>(qa d).bind o
 |_=>none
noncomputable def uL:List D→Option RV:=one λds=>(oU ds).map λbs=> ⟨.c,.bl (bs.all id)⟩
noncomputable def iF(T:String):D→Bool
 | .non=>T=="NoneType"
 | .bl _=>T=="bool"||T=="int"
 | .int _=>T=="int"
 | .str _=>T=="str"
 | .tup _=>T=="tuple"
 | .lst _=>T=="list"
 | .dK _=>T=="dict"
 | .dT _=>T=="dict"
 | .scr _=>T=="list"
noncomputable def kL:D→Bool
 | .scr _=>true
 |_=>false
@[simp] noncomputable def lY(T:String)(f:DE):DT:=λenv=>(f env).bind λx=>if kL x.d then none else some (iF T x.d)
noncomputable abbrev DO:=Env→Option (Option Int)
@[simp] noncomputable def noO:DO:=λ_=>some none
@[simp] noncomputable def gN(i:Nat):DG:=λd env=>some (env.set i (some (.sh d)))
@[simp] noncomputable def cD:DS:=λenv=>some (.nx env)
@[simp] noncomputable def oV:DS:=λ_=>none
@[simp] noncomputable def bc(f g:DS):DS:=λenv=>(f env).bind λo=>match o with
 | .nx e=>g e
 |o=>some o
noncomputable def stored(i:Nat)(r:RV)(env:Env):Option Env:=match r.k with
 | .c=>some (env.set i (some (.sh r.d)))
 | .tn=>some (env.set i (some (.own r.d)))
 |_=>none
@[simp] noncomputable def cN(i:Nat)(f:DE):DS:=λenv=>(f env).bind λr=>(stored i r env).map .nx
noncomputable def gv(r:RV):Bool:=match r.k with
 | .c=>r.d.imm
 | .tn=>r.d.gM
 | .to=>r.d.gM
 | .tb=>false
@[simp] noncomputable def retS(f:DE):DS:=λenv=>(f env).bind λr=>if gv r then some (.ret r.d) else none
@[simp] noncomputable def ifS(t:DT)(f g:DS):DS:=λenv=>(t env).bind λb=>if b then f env else g env
@[simp] noncomputable def forL(g:DG)(body:DS):List D→Env→Option Out
 |[],env=>some (.nx env)
 |d::ds,env=>(g d env).bind λe=>(body e).bind λo=>match o with
  | .nx e=>forL g body ds e
  | .ct e=>forL g body ds e
  | .bk e=>some (.nx e)
  | .ret d=>some (.ret d)
noncomputable abbrev DI:=Env→Option (List D)
@[simp] noncomputable def aN(l:Option Nat)(env:Env):Env:=match l with
 |none=>env
 |some i=>match env[i]? with
  |some (some (.own d))=>env.set i (some (.lok d))
  |_=>env
@[simp] noncomputable def lZ(l:Option Nat)(env:Env):Bool:=match l with
 |none=>false
 |some i=>match env[i]? with
  |some (some (.own _))=>true
  |_=>false
@[simp] noncomputable def dJ(l:Option Nat)(env:Env):Env:=match l with
 |none=>env
 |some i=>match env[i]? with
  |some (some (.lok d))=>env.set i (some (.own d))
  |_=>env
noncomputable def freed(l:Option Nat)(b:Bool):Out→Out
 | .nx e=> .nx (if b then dJ l e else e)
 |o=>o
@[simp] noncomputable def wc(l:Option Nat)(src:DI)(g:DG)(body:DS):DS:=λenv=>(src (aN l env)).bind λds=>(forL g body ds (aN l env)).map (freed l (lZ l env))
@[simp] noncomputable def Dm(f:DE):DI:=λenv=>(f env).bind λr=>if r.k= .to then none else match r.d with
 | .lst xs=>some xs
 | .tup xs=>some xs
 | .scr ns=>some (ns.map .int)
 |_=>none
noncomputable def aE(lo:Int)(n:Nat):List D:=(List.range n).map λ(k:Nat)=> .int (lo+(k:Int))
noncomputable def bD(i:Int):Bool:=decide (-4611686018427387904≤i)&&decide (i<4611686018427387904)
@[simp] noncomputable def dv(f:DE):DI:=λenv=>(f env).bind λr=>match r.d with
 | .int j=>if bD j then some (aE 0 j.toNat) else none
 |_=>none
@[simp] noncomputable def ownAt(i:Nat)(env:Env):Option D:=match env[i]? with
 |some (some (.own d))=>some d
 |_=>none
@[simp] noncomputable def Dn(i:Nat)(f:DE):DS:=λenv=>(f env).bind λr=>(ownAt i env).bind λd=>match d with
 | .lst xs=>if r.free&&decide (xs.length<ao) then some (.nx (env.set i (some (.own (.lst (xs++[r.d])))))) else none
 |_=>none
@[simp] noncomputable def wd(i:Nat):DS:=λenv=>(ownAt i env).bind λd=>match d with
 | .lst _=>some (.nx (env.set i (some (.own (.lst [])))))
 |_=>none
noncomputable def putD(d k v:D):Option D:=match d with
 | .dK kvs=>if kvs.length<ao then(keyOf k).map λk=> .dK (put kvs k v) else none
 | .dT kvs=>match k with
  | .tup ks=>if kvs.length<ao then(keysOf ks).map λk=> .dT (put kvs k v) else none
  |_=>none
 | .lst xs=>match k with
  | .int j=>if 0≤j∧j<xs.length then some (.lst (xs.set j.toNat v)) else if j<0∧-(xs.length:Int)≤j then some (.lst (xs.set (j+xs.length).toNat v)) else none
  |_=>none
 |_=>none
@[simp] noncomputable def rN:DE:=λ_=>some ⟨.tn,.dT []⟩
@[simp] noncomputable def Bj(i:Nat)(k v:DE):DS:=λenv=>(v env).bind λx=>(k env).bind λy=>(ownAt i env).bind λd=>if x.free then(putD d y.d x.d).map λd=> .nx (env.set i (some (.own d))) else none
noncomputable def je:Option Slot→Option Slot
 |some (.sh d)=>some (.sh d)
 |some (.own d)=>some (.bor d)
 |some (.lok d)=>some (.bor d)
 |some (.bor d)=>some (.bor d)
 |none=>none
noncomputable def compEnv(n:Nat)(caps:List Nat)(env:Env):Env:=List.replicate n none++caps.map λi=>je (env[i]?.getD none)
@[simp] noncomputable def cF(g:DG)(t:DT)(f:DE):List D→Env→Option (List D)
 |[],_=>some []
 |d::ds,env=>(g d env).bind λe=>(t e).bind λb=>if b then(f e).bind λr=>if r.free then(cF g t f ds e).map (r.d:: ·) else none else cF g t f ds e
@[simp] noncomputable def iG(l:Option Nat)(n:Nat)(caps:List Nat)(src:DI)(g:DG)(t:DT)(f:DE):DE:=λenv=>(src (aN l env)).bind λds=>if ds.length≤ao then(cF g t f ds (compEnv n caps env)).map λrs=> ⟨.tn,.lst rs⟩ else none
@[simp] noncomputable def jf:DT:=λ_=>some true
@[simp] noncomputable def fW(n:Nat)(ds:List D):Env:=ds.map (λd=>some (.sh d))++List.replicate (n -ds.length) none
@[simp] noncomputable def fF(n np:Nat)(body:DS):List D→Option D:=λds=>if ds.length=np then(body (fW n ds)).bind λo=>match o with
  | .ret d=>some d
  | .nx _=>some .non
  |_=>none
 else none
@[simp] theorem Bk{a b:String}:Str.ofString a=Str.ofString b↔a=b:=by
 constructor
 ·intro h
  rw[Str.ofString_eq_toList,Str.ofString_eq_toList] at h
  have h1:a.toList.map Char.toNat=b.toList.map Char.toNat:=by
   injection h with h
   exact Gcc.mpr h|>λz=>by simpa using z
  have h2:a.toList=b.toList:=by
   have inj:∀(x y:List Char),x.map Char.toNat=y.map Char.toNat→x=y:=by
    intro x
    induction x with
    |nil=>intro y e;cases y with
     |nil=>rfl
     |cons=>simp at e
    |cons c x ih=>intro y e;cases y with
     |nil=>simp at e
     |cons c' y=>
      simp only[GaI,List.cons.injEq] at e
      rw[ih y e.2,Char.toNat_inj.mp e.1]
   exact inj _ _ h1
  exact String.toList_inj.mp h2
 ·rintro rfl;rfl
section
variable{i j:Int}{x y:Str}{ds es:List D}{d:D}{env:Env}{n:Nat}
@[simp] theorem Fp:ck (.int i) (.int j)=some ⟨.c,.int (i+j)⟩:=rfl
@[simp] theorem Fq:ck (.str x) (.str y)=if x.length+y.length≤ao then some ⟨.c,.str (x++y)⟩ else none:=rfl
@[simp] theorem Fs:ck (.tup ds) (.tup es)=if ds.length+es.length≤ao∧0<ds.length then some ⟨.c,.tup (ds++es)⟩ else none:=rfl
@[simp] theorem Ft:ck (.lst ds) (.lst es)=if ds.length+es.length≤ao then some ⟨.tn,.lst (ds++es)⟩ else none:=rfl
@[simp] theorem Fu:w9 (.int i) (.int j)=some ⟨.c,.int (i -j)⟩:=rfl
@[simp] theorem Fv:jU (.int i) (.int j)=if dF i j then some ⟨.c,.int (i*j)⟩ else none:=rfl
@[simp] theorem Ex:q8 (.int i) (.int j)=if 0<j∧j<1073741824 then some ⟨.c,.int (i/j)⟩ else none:=rfl
@[simp] theorem Fw:d9 (.int i) (.int j)=if 0<j then some ⟨.c,.int (i%j)⟩ else none:=rfl
@[simp] theorem Fx:wa (.int i) (.int j)=if 0≤j∧j≤1000∧i.natAbs<1000000 then some ⟨.c,.int (i^j.toNat)⟩ else none:=rfl
@[simp] theorem Gs:ltB (.int i) (.int j)=some (decide (i<j)):=rfl
@[simp] theorem Gu:leB (.int i) (.int j)=some (decide (i≤j)):=rfl
@[simp] theorem Gv:gtB (.int i) (.int j)=some (decide (j<i)):=rfl
@[simp] theorem Gw:eqB (.int i) (.int j)=some (i==j):=rfl
@[simp] theorem Bl:eqB (.str x) (.str y)=some (x==y):=rfl
@[simp] theorem Hf:eqB .non (.int j)=some false:=rfl
@[simp] theorem Hg:eqB (.int j) .non=some false:=rfl
@[simp] theorem Hh:eqB .non .non=some true:=rfl
@[simp] theorem Gx:neB (.int i) (.int j)=some (!(i==j)):=rfl
@[simp] theorem Gy:neB (.str x) (.str y)=some (!(x==y)):=rfl
@[simp] theorem Hj:neB .non (.int j)=some true:=rfl
@[simp] theorem Hk:neB (.int j) .non=some true:=rfl
@[simp] theorem Hl:neB .non .non=some false:=rfl
@[simp] theorem Ey:dG .non=true:=rfl
@[simp] theorem Ez:dG (.int i)=false:=rfl
@[simp] theorem EA:dG (.str x)=false:=rfl
@[simp] theorem Fy{b:Bool}:dG (.bl b)=false:=rfl
@[simp] theorem EB:dG (.tup ds)=false:=rfl
@[simp] theorem EC:dG (.lst ds)=false:=rfl
@[simp] theorem Fz:wb d .non=some (dG d):=rfl
@[simp] theorem ED:Cq d .non=some (!dG d):=rfl
@[simp] theorem cO:cM [.lst ds]=some ⟨.c,.int ds.length⟩:=rfl
@[simp] theorem qc:cM [.tup ds]=some ⟨.c,.int ds.length⟩:=rfl
@[simp] theorem FA:cM [.str x]=if x.length≤ao then some ⟨.c,.int x.length⟩ else none:=rfl
@[simp] theorem FC{ns:List Int}:cM [.scr ns]=some ⟨.c,.int ns.length⟩:=rfl
@[simp] theorem Gz{kvs:List (Key×D)}:cM [.dK kvs]=some ⟨.c,.int kvs.length⟩:=rfl
@[simp] theorem EF:listS [.lst ds]=some ⟨.tn,.lst ds⟩:=rfl
@[simp] theorem EG:listS [.tup ds]=some ⟨.tn,.lst ds⟩:=rfl
@[simp] theorem FD{T:String}:iF T .non=(T=="NoneType"):=rfl
@[simp] theorem GA{T:String}{b:Bool}:iF T (.bl b)=(T=="bool"||T=="int"):=rfl
@[simp] theorem FE{T:String}:iF T (.int i)=(T=="int"):=rfl
@[simp] theorem FF{T:String}:iF T (.str x)=(T=="str"):=rfl
@[simp] theorem FG{T:String}:iF T (.tup ds)=(T=="tuple"):=rfl
@[simp] theorem FH{T:String}:iF T (.lst ds)=(T=="list"):=rfl
@[simp] theorem EH:kL .non=false:=rfl
@[simp] theorem FI{b:Bool}:kL (.bl b)=false:=rfl
@[simp] theorem EI:kL (.int i)=false:=rfl
@[simp] theorem EJ:kL (.str x)=false:=rfl
@[simp] theorem EK:kL (.tup ds)=false:=rfl
@[simp] theorem EM:kL (.lst ds)=false:=rfl
@[simp] theorem FJ:stored n ⟨.c,d⟩ env=some (env.set n (some (.sh d))):=rfl
@[simp] theorem EO:stored n ⟨.tn,d⟩ env=some (env.set n (some (.own d))):=rfl
@[simp] theorem GB:gv ⟨.c,d⟩=d.imm:=rfl
@[simp] theorem FK:gv ⟨.tn,d⟩=d.gM:=rfl
@[simp] theorem FL:gv ⟨.to,d⟩=d.gM:=rfl
@[simp] theorem ER:(D.lst ds).gM=bN ds:=rfl
@[simp] theorem FN{kvs:List (List Key×D)}:(D.dT kvs).gM=bN (kvs.map (·.2)):=rfl
@[simp] theorem FO{kvs:List (Key×D)}:(D.dK kvs).gM=bN (kvs.map (·.2)):=rfl
@[simp] theorem FP:gH .non=⟨.c,.non⟩:=rfl
@[simp] theorem GC{b:Bool}:gH (.bl b)=⟨.c,.bl b⟩:=rfl
@[simp] theorem FQ:gH (.int i)=⟨.c,.int i⟩:=rfl
@[simp] theorem FR:gH (.str x)=⟨.c,.str x⟩:=rfl
@[simp] theorem FT:gH (.tup ds)=⟨.c,.tup ds⟩:=rfl
@[simp] theorem FU:gH (.lst ds)=⟨.tn,.lst ds⟩:=rfl
@[simp] theorem GD{kvs:List (List Key×D)}:gH (.dT kvs)=⟨.tn,.dT kvs⟩:=rfl
@[simp] theorem GF{kvs:List (Key×D)}:gH (.dK kvs)=⟨.tn,.dK kvs⟩:=rfl
@[simp] theorem Hm:RV.free ⟨.c,d⟩=true:=rfl
@[simp] theorem GG:RV.free ⟨.tn,d⟩=true:=rfl
@[simp] theorem FV{l:Option Nat}{b:Bool}:freed l b (.nx env)= .nx (if b then dJ l env else env):=rfl
@[simp] theorem ES{l:Option Nat}{b:Bool}:freed l b (.ret d)= .ret d:=rfl
@[simp] theorem ET:keyOf (.int i)=some (.inl i):=rfl
@[simp] theorem EU:keyOf (.str x)=some (.inr x):=rfl
@[simp] theorem lC:ixD (.lst ds) (.int i)=atD ds i:=rfl
@[simp] theorem GH:ixD (.tup ds) (.int i)=atD ds i:=rfl
@[simp] theorem GI{ns:List Int}:ixD (.scr ns) (.int i)=(atD ns i).map .int:=rfl
@[simp] theorem GJ:ixD (.str x) (.int i)=if x.length≤ao then(atD x.cps.toList i).map λc=> .str ⟨#[c]⟩ else none:=rfl
@[simp] theorem wg{kvs:List (List Key×D)}:ixD (.dT kvs) (.tup ds)=(keysOf ds).bind λk=>look kvs k:=rfl
theorem oW{α:Type}{xs:List α}{k:Nat}:atD xs (k:Int)=xs[k]? :=by
 unfold atD;rw[Gag (by omega)];simp
@[simp] theorem Hw{α:Type}{xs:List α}:atD xs 0=xs[0]? :=rfl
@[simp] theorem Hx{α:Type}{xs:List α}:atD xs 1=xs[1]? :=rfl
@[simp] theorem Hy{α:Type}{xs:List α}:atD xs 2=xs[2]? :=rfl
@[simp] theorem Hz{α:Type}{xs:List α}:atD xs 3=xs[3]? :=rfl
@[simp] theorem HA{α:Type}{xs:List α}:atD xs 4=xs[4]? :=rfl
@[simp] theorem HB{α:Type}{xs:List α}:atD xs 5=xs[5]? :=rfl
theorem Bm{α:Type}{xs:List α}(h:0≤i):atD xs i=xs[i.toNat]? :=by unfold atD;rw[Gag h]
end
open PySem
noncomputable def ar:D→List Int
 | .non=>[0]
 | .int i=>[1,i]
 | .str x=>2::x.cps.toList.map Int.ofNat
 |_=>[3]
noncomputable def cK{α:Type} [DecidableEq α](lt:α→α→Bool):List α→List α→Bool
 |[],[]=>false
 |[],_::_=>true
 |_::_,[]=>false
 |a::as,b::bs=>if a=b then cK lt as bs else lt a b
noncomputable def ltI(a b:Int):Bool:=decide (a<b)
noncomputable def ltC:List (List Int)→List (List Int)→Bool:=cK (cK ltI)
noncomputable def code:D→List (List Int)
 | .tup ds=>ds.map ar
 |d=>[ar d]
noncomputable def uM(d:D):List D→List D
 |[]=>[d]
 |e::es=>if ltC (code d) (code e) then d::e::es else e::uM d es
noncomputable def kM:List D→List D
 |[]=>[]
 |d::ds=>uM d (kM ds)
noncomputable def tyD:D→Nat
 | .non=>0
 | .int _=>1
 | .str _=>2
 |_=>3
noncomputable def fw(d:D):Bool:=tyD d !=3
noncomputable def jg:List D→List D→Bool
 |a::as,b::bs=>if ar a=ar b then jg as bs else(tyD a==tyD b&&(tyD a==1||tyD a==2))
 |_,_=>true
noncomputable def uN:D→Bool
 | .int _=>true
 |_=>false
noncomputable def fG(t:Nat):D→Bool
 | .tup (f::r)=>tyD f==t&&r.all fw
 |_=>false
noncomputable def rO:D→D→Bool
 | .tup a,.tup b=>jg a b
 |_,_=>false
noncomputable def keysOk(ds:List D):Bool:=ds.all uN||((ds.all (fG 1)||ds.all (fG 2))&&ds.all λx=>ds.all λy=>rO x y)
structure oX{α:Type}(lt:α→α→Bool):Prop where
 irr:∀a,lt a a=false
 tr:∀a b c,lt a b=true→lt b c=true→lt a c=true
 tot:∀a b,lt a b=false→lt b a=false→a=b
theorem Hn:oX ltI:=⟨λa=>by simp[ltI],λa b c h1 h2=>by simp[ltI] at*;omega,λa b h1 h2=>by simp[ltI] at*;omega⟩
section
variable{α:Type} [DecidableEq α]{lt:α→α→Bool}
theorem oX.lex(L:oX lt):oX (cK lt):=by
 refine⟨λa=> ?_,λa=> ?_,λa=> ?_⟩
 ·induction a with
  |nil=>rfl
  |cons x xs ih=>simp[cK,ih]
 ·induction a with
  |nil=>
   intro b c h1 h2
   cases c with
   |nil=>cases b<;>simp[cK] at h1 h2
   |cons z zs=>rfl
  |cons x xs ih=>
   intro b c h1 h2
   cases b with
   |nil=>simp[cK] at h1
   |cons y ys=>
    cases c with
    |nil=>simp[cK] at h2
    |cons z zs=>
     unfold cK at h1 h2⊢
     by_cases e1:x=y
     ·subst e1
      rw[Gag rfl] at h1
      by_cases e2:x=z
      ·subst e2
       rw[Gag rfl] at h2⊢
       exact ih ys zs h1 h2
      ·rw[Gae e2] at h2⊢;exact h2
     ·rw[Gae e1] at h1
      by_cases e2:y=z
      ·subst e2
       rw[Gae e1];exact h1
      ·rw[Gae e2] at h2
       by_cases e3:x=z
       ·subst e3
        have:=L.tr x y x h1 h2
        rw[L.irr] at this;cases this
       ·rw[Gae e3];exact L.tr x y z h1 h2
 ·induction a with
  |nil=>
   intro b h1 h2
   cases b with
   |nil=>rfl
   |cons y ys=>simp[cK] at h1
  |cons x xs ih=>
   intro b h1 h2
   cases b with
   |nil=>simp[cK] at h2
   |cons y ys=>
    unfold cK at h1 h2
    by_cases e:x=y
    ·subst e
     rw[Gag rfl] at h1 h2
     rw[ih ys h1 h2]
    ·rw[Gae e] at h1
     rw[Gae (Gba e)] at h2
     exact absurd (L.tot x y h1 h2) e
theorem oX.nt(L:oX lt){k x y:α}(h1:lt k y=true)(h2:lt x y=false):lt k x=true:=by
 cases h:lt y x with
 |true=>exact L.tr k y x h1 h
 |false=>rw[L.tot x y h2 h];exact h1
theorem oX.FW(L:oX lt){x y:α}(h:lt x y=true):lt y x=false:=by
 cases q:lt y x with
 |false=>rfl
 |true=>have:=L.tr x y x h q;rw[L.irr] at this;cases this
end
theorem oY:oX ltC:=Hn.lex.lex
noncomputable def rank(cs:List (List (List Int)))(i:Nat):Int:=((cs.filter λc=>ltC c (cs[i]?.getD [])).length:Nat)
theorem iR{α:Type}{p q:α→Bool}:∀{l:List α},(∀x∈l,p x=true→q x=true)→(l.filter p).length≤(l.filter q).length
 |[],_=>Gau _
 |x::l,h=>by
  have ih:=iR (l:=l) λy hy=>h y (Gak _ hy)
  have hx:=h x Gav
  cases hp:p x with
  |false=>
   rw[Gbv,hp]
   simp only[Gai,GaB]
   refine GbQ ih ?_
   rw[Gbv]
   split
   ·rw[GbH];omega
   ·exact Gau _
  |true=>rw[Gbv,Gbv,hp,hx hp];simp;exact ih
theorem iH{α:Type}{p q:α→Bool}:∀{l:List α} {z:α},z∈l→p z=false→q z=true→(∀x∈l,p x=true→q x=true)→(l.filter p).length<(l.filter q).length
 |[],z,hz,_,_,_=>by cases hz
 |x::l,z,hz,h1,h2,h=>by
  rcases Gas.mp hz with e|hz
  ·subst e
   have:=iR (l:=l) (p:=p) (q:=q) λy hy=>h y (Gak _ hy)
   rw[Gbv,Gbv,h1,h2]
   simp;omega
  ·have ih:=iH hz h1 h2 λy hy=>h y (Gak _ hy)
   have hx:=h x Gav
   cases hp:p x with
   |false=>
    rw[Gbv,hp]
    simp only[Gai,GaB]
    rw[Gbv]
    split
    ·rw[GbH];omega
    ·exact ih
   |true=>rw[Gbv,Gbv,hp,hx hp];simp;exact ih
theorem lD{cs:List (List (List Int))}{i j:Nat}(hi:i<cs.length)(hj:j<cs.length):decide (rank cs i<rank cs j)=ltC cs[i] cs[j]:=by
 unfold rank
 rw[Gac hi,Gac hj]
 simp only[Option.getD_some]
 cases h:ltC cs[i] cs[j] with
 |true=>
  refine GaD (Int.ofNat_lt.mpr ?_)
  exact iH (z:=cs[i]) (GaR hi) (oY.irr _) h λc _ hc=>oY.tr _ _ _ hc h
 |false=>
  refine GaE (Gds.mpr (Int.ofNat_le.mpr ?_))
  exact iR λc _ hc=>oY.nt hc h
noncomputable def fX(ds:List D):Prop:=ds.Pairwise λa b=>ltC (code b) (code a)=false
theorem jV(d:D):∀es:List D,(uM d es).Perm (d::es)
 |[]=>List.Perm.refl _
 |e::es=>by
  unfold uM
  split
  ·exact List.Perm.refl _
  ·exact((jV d es).cons e).trans (List.Perm.swap d e es)
theorem dM:∀ds:List D,(kM ds).Perm ds
 |[]=>List.Perm.refl _
 |d::ds=>(jV d _).trans ((dM ds).cons d)
theorem kN(d:D):∀{es:List D},fX es→fX (uM d es)
 |[],_=>GbY _ _
 |e::es,h=>by
  have h' :=Gbk.mp h
  unfold uM
  split
  ·rename_i c
   refine Gbk.mpr ⟨λb hb=> ?_,h⟩
   rcases Gas.mp hb with q|q
   ·subst q;exact oY.FW c
   ·cases z:ltC (code b) (code d) with
    |false=>rfl
    |true=>have:=oY.tr _ _ _ z c;rw[h'.1 b q] at this;cases this
  ·rename_i c
   refine Gbk.mpr ⟨λb hb=> ?_,kN d h'.2⟩
   rcases Gas.mp ((jV d es).mem_iff.mp hb) with q|q
   ·subst q;simpa using c
   ·exact h'.1 b q
theorem fY:∀ds:List D,fX (kM ds)
 |[]=>List.Pairwise.nil
 |d::ds=>kN d (fY ds)
theorem fA:∀{xs ys:List D},xs.Perm ys→fX xs→fX ys→(∀a∈xs,∀b∈xs,code a=code b→a=b)→xs=ys
 |[],ys,hp,_,_,_=>(List.nil_perm.mp hp).symm
 |x::xs,ys,hp,hx,hy,hi=>by
  cases ys with
  |nil=>exact absurd (List.perm_nil.mp hp) (by simp)
  |cons y ys=>
   have px:=Gbk.mp hx
   have py:=Gbk.mp hy
   have e:x=y:=by
    have mx:x∈y::ys:=hp.mem_iff.mp Gav
    have my:y∈x::xs:=hp.mem_iff.mpr Gav
    rcases Gas.mp mx with q|q
    ·exact q
    ·rcases Gas.mp my with r|r
     ·exact r.symm
     ·exact hi x Gav y my (oY.tot _ _ (py.1 x q) (px.1 y r)).symm.symm
   subst e
   rw[fA (List.perm_cons x|>.mp hp) px.2 py.2 λa ha b hb=>hi a (Gak _ ha) b (Gak _ hb)]
open PySem
open PySem
noncomputable def tm(x:D)(ds:List D):Option Bool:=if a9 10 x&&ds.all (a9 10) then some (ds.any λy=>eqD y x) else none
noncomputable def inB(x y:D):Option Bool:=match y with
 | .dK kvs=>(keyOf x).map λk=>(look kvs k).isSome
 | .dT kvs=>match x with
  | .tup ks=>(keysOf ks).map λk=>(look kvs k).isSome
  |_=>none
 | .lst ds=>tm x ds
 | .tup ds=>tm x ds
 |_=>none
noncomputable def qd(x y:D):Option Bool:=(inB x y).map (!·)
@[simp] theorem Ho{x:D}{kvs:List (Key×D)}:inB x (.dK kvs)=(keyOf x).map λk=>(look kvs k).isSome:=rfl
@[simp] theorem wk{ks:List D}{kvs:List (List Key×D)}:inB (.tup ks) (.dT kvs)=(keysOf ks).map λk=>(look kvs k).isSome:=rfl
open PySem
noncomputable def fe{α:Type}(xs:List α)(i:Int)(y:α):List α:=xs.take (if i<0 then(i+(xs.length:Int)).toNat else min i.toNat xs.length)++y::xs.drop (if i<0 then(i+(xs.length:Int)).toNat else min i.toNat xs.length)
theorem uO{α:Type}(xs:List α)(i:Int)(y:α):(fe xs i y).length=xs.length+1:=by
 unfold fe
 rw[GaL,GbH,List.length_take,List.length_drop]
 omega
theorem rP{α:Type}(xs:List α)(i:Int)(y:α):(fe xs i y).Perm (y::xs):=by
 unfold fe
 refine GdY.trans ?_
 rw[Gbe]
open PySem
open PySem
noncomputable def isInt:D→Bool
 | .int _=>true
 |_=>false
noncomputable def m8:Key→D
 | .inl i=> .int i
 | .inr x=> .str x
noncomputable def ff(kvs:List (List Key×D)):List D:=kvs.map λp=> .tup (p.1.map m8)
open PySem
open PySem
noncomputable def gx{α:Type}(kvs:List (List Key×α)):List D:=kvs.map λp=> .tup (p.1.map m8)
noncomputable def jh:List D→Option RV
 |[.dT kvs]=>if decide (kvs.length<64)&&keysOk (ff kvs) then some ⟨.tn,.lst (kM (ff kvs))⟩ else none
 |_=>none
open PySem
noncomputable def m9(kvs:List (List Key×D)):List D:=kvs.map λp=> .tup [.tup (p.1.map m8),p.2]
open PySem
@[simp] noncomputable def litE(f:DE):DE:=λenv=>(f env).bind λr=>match r.d with
 | .dT kvs=>if bN (kvs.map (·.2)) then some ⟨.tn,.lst (m9 kvs)⟩ else none
 |_=>none
open PySem
noncomputable def iS:D→D
 | .tup (f::_)=>f
 |_=> .non
noncomputable def cdN(d:D):List (List Int):=code (iS d)
noncomputable def qe(cd:D→List (List Int))(d:D):List D→List D
 |[]=>[d]
 |e::es=>if ltC (cd d) (cd e) then d::e::es else e::qe cd d es
noncomputable def gy(cd:D→List (List Int)):List D→List D
 |[]=>[]
 |d::ds=>qe cd d (gy cd ds)
noncomputable def qf{α:Type} [DecidableEq α]:List α→Bool
 |[]=>true
 |a::as=> !(as.any λb=>decide (b=a))&&qf as
noncomputable def cY:D→Bool
 | .tup (_::_)=>true
 |_=>false
noncomputable def cP(ds:List D):Bool:=ds.all cY&&((ds.map iS).all (fG 1)||(ds.map iS).all (fG 2))&&((ds.map iS).all λx=>(ds.map iS).all λy=>rO x y)&&qf (ds.map cdN)
noncomputable def ji:List D→Option RV:=one λds=>if decide (ds.length<64)&&cP ds then some ⟨.tn,.lst (gy cdN ds)⟩ else none
section
variable{cd:D→List (List Int)}
noncomputable def fZ(cd:D→List (List Int))(ds:List D):Prop:=ds.Pairwise λa b=>ltC (cd b) (cd a)=false
theorem jW(d:D):∀es:List D,(qe cd d es).Perm (d::es)
 |[]=>List.Perm.refl _
 |e::es=>by
  unfold qe
  split
  ·exact List.Perm.refl _
  ·exact((jW d es).cons e).trans (List.Perm.swap d e es)
theorem iT:∀ds:List D,(gy cd ds).Perm ds
 |[]=>List.Perm.refl _
 |d::ds=>(jW d _).trans ((iT ds).cons d)
theorem kO(d:D):∀{es:List D},fZ cd es→fZ cd (qe cd d es)
 |[],_=>GbY _ _
 |e::es,h=>by
  have h' :=Gbk.mp h
  unfold qe
  split
  ·rename_i c
   refine Gbk.mpr ⟨λb hb=> ?_,h⟩
   rcases Gas.mp hb with q|q
   ·subst q;exact oY.FW c
   ·cases z:ltC (cd b) (cd d) with
    |false=>rfl
    |true=>have:=oY.tr _ _ _ z c;rw[h'.1 b q] at this;cases this
  ·rename_i c
   refine Gbk.mpr ⟨λb hb=> ?_,kO d h'.2⟩
   rcases Gas.mp ((jW d es).mem_iff.mp hb) with q|q
   ·subst q;simpa using c
   ·exact h'.1 b q
theorem dw:∀ds:List D,fZ cd (gy cd ds)
 |[]=>List.Pairwise.nil
 |d::ds=>kO d (dw ds)
theorem dN:∀{xs ys:List D},xs.Perm ys→fZ cd xs→fZ cd ys→(∀a∈xs,∀b∈xs,cd a=cd b→a=b)→xs=ys
 |[],ys,hp,_,_,_=>(List.nil_perm.mp hp).symm
 |x::xs,ys,hp,hx,hy,hi=>by
  cases ys with
  |nil=>exact absurd (List.perm_nil.mp hp) (by simp)
  |cons y ys=>
   have px:=Gbk.mp hx
   have py:=Gbk.mp hy
   have e:x=y:=by
    have mx:x∈y::ys:=hp.mem_iff.mp Gav
    have my:y∈x::xs:=hp.mem_iff.mpr Gav
    rcases Gas.mp mx with q|q
    ·exact q
    ·rcases Gas.mp my with r|r
     ·exact r.symm
     ·exact hi x Gav y my (oY.tot _ _ (py.1 x q) (px.1 y r)).symm.symm
   subst e
   rw[dN (List.perm_cons x|>.mp hp) px.2 py.2 λa ha b hb=>hi a (Gak _ ha) b (Gak _ hb)]
end
theorem dO{α:Type} [DecidableEq α]:∀{l:List α},qf l=true↔l.Nodup
 |[]=>by simp[qf]
 |a::as=>by
  unfold qf
  rw[Gaq,dO,GbG]
  simp only[Bool.not_eq_true',Geu,Gdg]
  constructor
  ·rintro⟨h1,h2⟩;exact⟨λh=>h1 a h rfl,h2⟩
  ·rintro⟨h1,h2⟩;exact⟨λx hx e=>h1 (e▸hx),h2⟩
theorem g8{α β:Type}{f:α→β}:∀{l:List α},(l.map f).Nodup→∀a∈l,∀b∈l,f a=f b→a=b
 |[],_,a,ha,_,_,_=>by cases ha
 |x::l,h,a,ha,b,hb,e=>by
  rw[GaI,GbG] at h
  rcases Gas.mp ha with q|q
  ·rcases Gas.mp hb with r|r
   ·rw[q,r]
   ·subst q;exact absurd (Gaz.mpr ⟨b,r,e.symm⟩) h.1
  ·rcases Gas.mp hb with r|r
   ·subst r;exact absurd (Gaz.mpr ⟨a,q,e⟩) h.1
   ·exact g8 h.2 a q b r e
open PySem
@[simp] noncomputable def tq(i:Nat)(k:DE):DS:=λenv=>(k env).bind λx=>(ownAt i env).bind λd=>match d,x.d with
 | .lst xs,.int j=>match xs[xs.length -1]? with
  |some y=>if decide (xs.length<ao)&&bD j then some (.nx (env.set i (some (.own (.lst (fe xs.dropLast j y)))))) else none
  |none=>none
 |_,_=>none
open PySem
open PySem
noncomputable abbrev DN:=Env→List (List D)→Option (Env×List (List D))
open PySem
open PySem
open PySem
noncomputable abbrev Rws:=List (List Key×D)
noncomputable abbrev DM:=Env→Rws→Option (Env×Rws)
open PySem
noncomputable def Dp:Key→Option Int
 | .inl i=>some (hashInt i)
 | .inr _=>none
noncomputable def tu:List Key→Option (List Int)
 |[]=>some []
 |k::ks=>match Dp k,tu ks with
  |some h,some hs=>some (h::hs)
  |_,_=>none
noncomputable def keyHash(ks:List Key):Option Int:=(tu ks).map λhs=>reduceHash (Builtin.Tuple.tupleHashOf hs)
open PySem
noncomputable def imN:Nat→D→Bool
 |_,.int _=>true
 |_,.str _=>true
 |n+1,.tup ds=>ds.all (imN n)
 |_,_=>false
noncomputable def qg(acc:List D)(d:D):List D:=if acc.any (λe=>eqD e d) then acc else acc++[d]
noncomputable def ma(ds:List D):List D:=ds.foldl qg []
noncomputable def setOk(ds:List D):Bool:=decide (ds.length<64)&&(ds.all λd=>cY d&&imN 4 d)&&cP (ma ds)
@[simp] noncomputable def dP(f:DE):DE:=λenv=>(f env).bind λr=>match r.d with
 | .lst ds=>if setOk ds then some ⟨.tn,.lst (gy cdN (ma ds))⟩ else none
 |_=>none
@[simp] noncomputable def uP:List Nat→Env→Env
 |[],env=>env
 |i::is,env=>uP is (match env[i]? with
  |some (some (.own d))=>env.set i (some (.sh d))
  |_=>env)
@[simp] noncomputable def FX(is:List Nat)(f:DS):DS:=λenv=>f (uP is env)
open PySem PySem.Spec PyProof.Rows L2
noncomputable abbrev aa:=PySem.W.Frag
noncomputable abbrev St:=L2.St
noncomputable def isT:HO→Prop
 | .tup _=>True
 | .frz _ _=>True
 |_=>False
noncomputable def Kl(K:aa)(a:Addr)(xs:List V):Prop:=∃(o:Obj) (its:Array Value) (n:Nat),K.lookup a=some o∧o.cls= .type "list"∧o.dict=none∧o.data= .seq its n∧its.size≤sizeLine∧Vals xs its.toList
noncomputable def Scr(K:aa)(H:Hp)(a:Addr)(ns:List Int):Prop:=(∃o,H a=some (.frz o (.lst (ns.map V.int))))∨Kl K a (ns.map V.int)
inductive Rep (K:aa) (F:Addr→Prop) (H:Hp):D→V→Prop where
 |non:Rep K F H .non .non
 |bl (b:Bool):Rep K F H (.bl b) (.bl b)
 |int (i:Int):Rep K F H (.int i) (.int i)
 |str (x:Str):Rep K F H (.str x) (.str x)
 |tup {a:Addr} {vs:List V} {ds:List D} (h:H a=some (.tup vs)) (l:ds.length=vs.length) (r:∀(i:Nat) d v,ds[i]? =some d→vs[i]? =some v→Rep K F H d v):Rep K F H (.tup ds) (.ref a)
 |lst {a:Addr} {vs:List V} {ds:List D} (f:F a) (h:Rd H a (.lst vs)) (l:ds.length=vs.length) (r:∀(i:Nat) d v,ds[i]? =some d→vs[i]? =some v→Rep K F H d v):Rep K F H (.lst ds) (.ref a)
 |scr {a:Addr} {ns:List Int} (h:Scr K H a ns):Rep K F H (.scr ns) (.ref a)
 |dK {a:Addr} {ws:List (Key×V)} {kvs:List (Key×D)} (f:F a) (h:H a=some (.dK ws)) (l:kvs.map (·.1)=ws.map (·.1)) (r:∀(i:Nat) p q,kvs[i]? =some p→ws[i]? =some q→Rep K F H p.2 q.2):Rep K F H (.dK kvs) (.ref a)
 |dT {a:Addr} {ws:List (List Key×V)} {kvs:List (List Key×D)} (f:F a) (h:H a=some (.dT ws)) (l:kvs.map (·.1)=ws.map (·.1)) (r:∀(i:Nat) p q,kvs[i]? =some p→ws[i]? =some q→Rep K F H p.2 q.2):Rep K F H (.dT kvs) (.ref a)
noncomputable def aq(K:aa)(F:Addr→Prop)(H:Hp)(ds:List D)(vs:List V):Prop:=ds.length=vs.length∧∀(i:Nat) d v,ds[i]? =some d→vs[i]? =some v→Rep K F H d v
noncomputable def aB{κ:Type}(K:aa)(F:Addr→Prop)(H:Hp)(kvs:List (κ×D))(ws:List (κ×V)):Prop:=kvs.map (·.1)=ws.map (·.1)∧∀(i:Nat) p q,kvs[i]? =some p→ws[i]? =some q→Rep K F H p.2 q.2
inductive Inn (K:aa) (F:Addr→Prop) (H:Hp):D→V→Prop where
 |non:Inn K F H .non .non
 |bl (b:Bool):Inn K F H (.bl b) (.bl b)
 |int (i:Int):Inn K F H (.int i) (.int i)
 |str (x:Str):Inn K F H (.str x) (.str x)
 |tup {a:Addr} {vs:List V} {ds:List D} (h:H a=some (.tup vs)) (r:aq K F H ds vs):Inn K F H (.tup ds) (.ref a)
 |lst {a:Addr} {vs:List V} {ds:List D} (h:Rd H a (.lst vs)) (r:aq K F H ds vs):Inn K F H (.lst ds) (.ref a)
 |scr {a:Addr} {ns:List Int} (h:Scr K H a ns):Inn K F H (.scr ns) (.ref a)
 |dK {a:Addr} {ws:List (Key×V)} {kvs:List (Key×D)} (h:H a=some (.dK ws)) (r:aB K F H kvs ws):Inn K F H (.dK kvs) (.ref a)
 |dT {a:Addr} {ws:List (List Key×V)} {kvs:List (List Key×D)} (h:H a=some (.dT ws)) (r:aB K F H kvs ws):Inn K F H (.dT kvs) (.ref a)
section
variable{K:aa}{F F' :Addr→Prop}{H H' :Hp}{d:D}{v:V}{ds:List D}{vs:List V}
theorem Rep.inn(h:Rep K F H d v):Inn K F H d v:=by
 cases h with
 |non=>exact .non
 |bl b=>exact .bl b
 |int i=>exact .int i
 |str x=>exact .str x
 |tup h l r=>exact .tup h ⟨l,r⟩
 |lst f h l r=>exact .lst h ⟨l,r⟩
 |scr h=>exact .scr h
 |dK f h l r=>exact .dK h ⟨l,r⟩
 |dT f h l r=>exact .dT h ⟨l,r⟩
theorem Inn.rep(h:Inn K F H d v)(hf:∀a,v= .ref a→d.top=true→F a):Rep K F H d v:=by
 cases h with
 |non=>exact .non
 |bl b=>exact .bl b
 |int i=>exact .int i
 |str x=>exact .str x
 |tup h r=>exact .tup h r.1 r.2
 |lst h r=>exact .lst (hf _ rfl rfl) h r.1 r.2
 |scr h=>exact .scr h
 |dK h r=>exact .dK (hf _ rfl rfl) h r.1 r.2
 |dT h r=>exact .dT (hf _ rfl rfl) h r.1 r.2
noncomputable def gO(F:Addr→Prop)(H H' :Hp):Prop:=∀b o,H b=some o→(F b∨isT o)→H' b=some o
theorem gO.of_same(h:b8 H H'):gO F H H' :=λb o e _=>h b o e
theorem gO.tup{a:Addr}(s:gO F H H')(h:H a=some (.tup vs)):H' a=some (.tup vs):=s _ _ h (.inr trivial)
theorem gO.scr{a:Addr}{ns:List Int}(s:gO F H H')(h:Scr K H a ns):Scr K H' a ns:=by
 rcases h with⟨o,h⟩|h
 ·exact .inl ⟨o,s _ _ h (.inr trivial)⟩
 ·exact .inr h
theorem gO.rd{a:Addr}{u:HO}(s:gO F H H')(f:F a)(h:Rd H a u):Rd H' a u:=by
 rcases h with h| ⟨o,h⟩
 ·exact .inl (s _ _ h (.inl f))
 ·exact .inr ⟨o,s _ _ h (.inl f)⟩
theorem Rd.there{a:Addr}{u:HO}(h:Rd H a u):H a≠none:=by
 rcases h with h| ⟨o,h⟩<;>rw[h]<;>simp
theorem Rep.gen(s:gO F H H')(hF:∀b,F b→H b≠none→F' b)(h:Rep K F H d v):Rep K F' H' d v:=by
 induction h with
 |non=>exact .non
 |bl b=>exact .bl b
 |int i=>exact .int i
 |str x=>exact .str x
 |tup h l r ih=>exact .tup (s.tup h) l ih
 |lst f h l r ih=>exact .lst (hF _ f (Rd.there h)) (s.rd f h) l ih
 |scr h=>exact .scr (s.scr h)
 |dK f h l r ih=>exact .dK (hF _ f (by rw[h];simp)) (s _ _ h (.inl f)) l ih
 |dT f h l r ih=>exact .dT (hF _ f (by rw[h];simp)) (s _ _ h (.inl f)) l ih
theorem Rep.same(s:b8 H H')(h:Rep K F H d v):Rep K F H' d v:=h.gen (.of_same s) λ_ f _=>f
theorem Rep.imp(hF:∀b,F b→F' b)(h:Rep K F H d v):Rep K F' H d v:=h.gen (.of_same λ_ _ e=>e) λb f _=>hF b f
theorem aq.gen(s:gO F H H')(hF:∀b,F b→H b≠none→F' b)(h:aq K F H ds vs):aq K F' H' ds vs:=⟨h.1,λi d v e1 e2=>(h.2 i d v e1 e2).gen s hF⟩
theorem aB.gen{κ:Type}{kvs:List (κ×D)}{ws:List (κ×V)}(s:gO F H H')(hF:∀b,F b→H b≠none→F' b)(h:aB K F H kvs ws):aB K F' H' kvs ws:=⟨h.1,λi p q e1 e2=>(h.2 i p q e1 e2).gen s hF⟩
theorem Inn.gen(s:gO F H H')(hF:∀b,F b→H b≠none→F' b)(ht:∀a,v= .ref a→d.top=true→∀o,H a=some o→H' a=some o)(h:Inn K F H d v):Inn K F' H' d v:=by
 have rd:∀{a:Addr} {u:HO},(∀o,H a=some o→H' a=some o)→Rd H a u→Rd H' a u:=λk h=>by
  rcases h with h| ⟨o,h⟩
  ·exact .inl (k _ h)
  ·exact .inr ⟨o,k _ h⟩
 cases h with
 |non=>exact .non
 |bl b=>exact .bl b
 |int i=>exact .int i
 |str x=>exact .str x
 |tup h r=>exact .tup (s.tup h) (r.gen s hF)
 |lst h r=>exact .lst (rd (ht _ rfl rfl) h) (r.gen s hF)
 |scr h=>exact .scr (s.scr h)
 |dK h r=>exact .dK (ht _ rfl rfl _ h) (r.gen s hF)
 |dT h r=>exact .dT (ht _ rfl rfl _ h) (r.gen s hF)
theorem Inn.same(s:b8 H H')(h:Inn K F H d v):Inn K F H' d v:=h.gen (.of_same s) (λ_ f _=>f) λ_ _ _ o e=>s _ o e
theorem Inn.imp(hF:∀b,F b→F' b)(h:Inn K F H d v):Inn K F' H d v:=h.gen (.of_same λ_ _ e=>e) (λb f _=>hF b f) λ_ _ _ _ e=>e
theorem Inn.any(h:Inn K F H d v):Rep K (λ_=>True) H d v:=(h.imp (F' :=λ_=>True) λ_ _=>trivial).rep λ_ _ _=>trivial
theorem lE{ds:List D}(h:bN ds=true):∀(i:Nat) d,ds[i]? =some d→d.imm=true:=by
 induction ds with
 |nil=>intro i d e;simp at e
 |cons x xs ih=>
  unfold bN at h
  rw[Gaq] at h
  intro i d e
  cases i with
  |zero=>simp at e;subst e;exact h.1
  |succ i=>exact ih h.2 i d (by simpa using e)
theorem Rep.imm(h:Rep K F H d v)(hd:d.imm=true):Rep K F' H d v:=by
 induction h with
 |non=>exact .non
 |bl b=>exact .bl b
 |int i=>exact .int i
 |str x=>exact .str x
 |tup h l r ih=>
  unfold D.imm at hd
  exact .tup h l λi d v e1 e2=>ih i d v e1 e2 (lE hd i d e1)
 |lst f h l r ih=>simp[D.imm] at hd
 |scr h=>exact .scr h
 |dK f h l r ih=>simp[D.imm] at hd
 |dT f h l r ih=>simp[D.imm] at hd
theorem Inn.imm(h:Inn K F H d v)(hd:d.imm=true):Rep K F' H d v:=by
 refine Rep.imm (h.rep λa _ ht=> ?_) hd
 cases d<;>simp[D.top] at ht<;>simp[D.imm] at hd
theorem aq.nil:aq K F H [] []:=⟨rfl,λi d v e=>by simp at e⟩
theorem aq.bC(h:aq K F H [] vs):vs=[]:=Gcu h.1.symm
theorem aq.cons(h:Rep K F H d v)(r:aq K F H ds vs):aq K F H (d::ds) (v::vs):=by
 refine⟨by simp[r.1],λi x u e1 e2=> ?_⟩
 cases i with
 |zero=>simp at e1 e2;subst e1;subst e2;exact h
 |succ i=>exact r.2 i x u (by simpa using e1) (by simpa using e2)
theorem aq.cons_inv(h:aq K F H (d::ds) vs):∃v r,vs=v::r∧Rep K F H d v∧aq K F H ds r:=by
 cases vs with
 |nil=>exact absurd h.1 (by simp)
 |cons v r=>exact⟨v,r,rfl,h.2 0 d v rfl rfl,by simpa using h.1,λi x u e1 e2=>h.2 (i+1) x u (by simpa using e1) (by simpa using e2)⟩
theorem aq.append:∀{ds es:List D} {vs us:List V},aq K F H ds vs→aq K F H es us→aq K F H (ds++es) (vs++us)
 |[],es,vs,us,h,r=>by rw[h.bC];exact r
 |d::ds,es,vs,us,h,r=>by
  obtain⟨v,w,rfl,h1,h2⟩:=h.cons_inv
  exact .cons h1 (h2.append r)
theorem aq.take(n:Nat)(h:aq K F H ds vs):aq K F H (ds.take n) (vs.take n):=by
 refine⟨by simp[h.1],λi x u e1 e2=> ?_⟩
 by_cases hi:i<n
 ·rw[GaP hi] at e1 e2;exact h.2 i x u e1 e2
 ·rw[GaV (by simp;omega)] at e1;cases e1
theorem aq.drop(n:Nat)(h:aq K F H ds vs):aq K F H (ds.drop n) (vs.drop n):=by
 refine⟨by simp[h.1],λi x u e1 e2=> ?_⟩
 rw[Gbd] at e1 e2
 exact h.2 _ x u e1 e2
theorem aq.reverse(h:aq K F H ds vs):aq K F H ds.reverse vs.reverse:=by
 refine⟨by simp[h.1],λi x u e1 e2=> ?_⟩
 have hi:i<ds.length:=by have:=(Gaf.mp e1).1;simpa using this
 rw[List.getElem?_reverse hi] at e1
 rw[List.getElem?_reverse (by rw[←h.1];exact hi),←h.1] at e2
 exact h.2 _ x u e1 e2
theorem aq.set(h:aq K F H ds vs)(r:Rep K F H d v)(i:Nat):aq K F H (ds.set i d) (vs.set i v):=by
 refine⟨by simp[h.1],λj x u e1 e2=> ?_⟩
 by_cases hj:i=j
 ·subst hj
  have hi:i<ds.length:=by have:=(Gaf.mp e1).1;simpa using this
  rw[Gbj hi] at e1
  rw[Gbj (by rw[←h.1];exact hi)] at e2
  cases e1;cases e2;exact r
 ·rw[Gah hj] at e1 e2
  exact h.2 j x u e1 e2
theorem aq.get{i:Nat}(h:aq K F H ds vs)(e:ds[i]? =some d):∃v,vs[i]? =some v∧Rep K F H d v:=by
 have hi:=(Gaf.mp e).1
 have hi' :i<vs.length:=by rw[←h.1];exact hi
 exact⟨vs[i],by simp[hi'],h.2 i d _ e (by simp[hi'])⟩
theorem aq.imm(h:aq K F H ds vs)(hd:bN ds=true):aq K F' H ds vs:=⟨h.1,λi d v e1 e2=>(h.2 i d v e1 e2).imm (lE hd i d e1)⟩
end
noncomputable def b5:Option (Option Slot)→Prop
 |some (some (.own _))=>True
 |some (some (.lok _))=>True
 |some (some (.bor _))=>True
 |_=>False
noncomputable def uQ:Option (Option Slot)→Prop
 |some (some (.own _))=>True
 |some (some (.lok _))=>True
 |_=>False
noncomputable def isO:Option (Option Slot)→Prop
 |some (some (.own _))=>True
 |_=>False
noncomputable def nC:Option (Option Slot)→Prop
 |some (some (.lok _))=>True
 |some (some (.bor _))=>True
 |_=>False
theorem nV{x:Option (Option Slot)}(h:b5 x):isO x∨nC x:=by
 match x,h with
 |some (some (.own _)),_=>exact .inl trivial
 |some (some (.lok _)),_=>exact .inr trivial
 |some (some (.bor _)),_=>exact .inr trivial
theorem nC.top{x:Option (Option Slot)}(h:nC x):b5 x:=by
 match x,h with
 |some (some (.lok _)),_=>trivial
 |some (some (.bor _)),_=>trivial
theorem isO.ol{x:Option (Option Slot)}(h:isO x):uQ x:=by
 match x,h with
 |some (some (.own _)),_=>trivial
theorem uQ.top{x:Option (Option Slot)}(h:uQ x):b5 x:=by
 match x,h with
 |some (some (.own _)),_=>trivial
 |some (some (.lok _)),_=>trivial
noncomputable def Cln(Bad:Addr→Prop)(env:Env)(σ:St)(a:Addr):Prop:=¬Bad a∧∀i:Nat,b5 env[i]? →σ[i]? ≠some (some (V.ref a))
noncomputable def isW:HO→Prop
 | .lst _=>True
 | .dK _=>True
 | .dT _=>True
 |_=>False
noncomputable def Wr(H:Hp)(a:Addr):Prop:=∃o,H a=some o∧isW o
noncomputable def Ow(env:Env)(σ:St)(a:Addr):Prop:=∃i:Nat,isO env[i]? ∧σ[i]? =some (some (.ref a))
structure aj(K:aa)(H₀:Hp)(Bad:Addr→Prop)(env:Env)(σ:St)(H:Hp):Prop where
 same:b8 H₀ H
 len:env.length=σ.length
 bad:∀a,Bad a→H a≠none
 sh:∀(i:Nat) d,env[i]? =some (some (.sh d))→∃v,σ[i]? =some (some v)∧Rep K (Cln Bad env σ) H d v
 ow:∀(i:Nat) d,(env[i]? =some (some (.own d))∨env[i]? =some (some (.lok d)))→∃a,σ[i]? =some (some (.ref a))∧H₀ a=none∧¬Bad a∧Wr H a∧d.top=true∧Inn K (Cln Bad env σ) H d (.ref a)
 bo:∀(i:Nat) d,env[i]? =some (some (.bor d))→∃a,σ[i]? =some (some (.ref a))∧Wr H a∧d.top=true∧Inn K (Cln Bad env σ) H d (.ref a)
 dj:∀(i j:Nat) a,uQ env[i]? →b5 env[j]? →σ[i]? =some (some (.ref a))→σ[j]? =some (some (.ref a))→i=j
structure Stp(env:Env)(σ:St)(H:Hp)(env' :Env)(σ' :St)(H' :Hp):Prop where
 keep:∀b o,H b=some o→¬Ow env σ b→H' b=some o
 ow:∀b,Ow env' σ' b→Ow env σ b∨H b=none
 lk:∀i:Nat,nC env'[i]? →env'[i]? =env[i]? ∧σ'[i]? =σ[i]?
theorem Stp.refl{env:Env}{σ:St}{H:Hp}:Stp env σ H env σ H:=⟨λ_ _ e _=>e,λ_ h=> .inl h,λ_ _=> ⟨rfl,rfl⟩⟩
theorem Stp.of_same{env:Env}{σ:St}{H H' :Hp}(s:b8 H H'):Stp env σ H env σ H' :=⟨λb o e _=>s b o e,λ_ h=> .inl h,λ_ _=> ⟨rfl,rfl⟩⟩
theorem Stp.trans{e1 e2 e3:Env}{s1 s2 s3:St}{H1 H2 H3:Hp}(a:Stp e1 s1 H1 e2 s2 H2)(b:Stp e2 s2 H2 e3 s3 H3):Stp e1 s1 H1 e3 s3 H3:=by
 refine⟨λc o e n=>b.keep c o (a.keep c o e n) λh=> ?_,λc h=> ?_,λi h=> ?_⟩
 ·rcases a.ow c h with q|q
  ·exact n q
  ·rw[e] at q;cases q
 ·rcases b.ow c h with q|q
  ·exact a.ow c q
  ·by_cases z:Ow e1 s1 c
   ·exact .inl z
   ·right
    cases e:H1 c with
    |none=>rfl
    |some o=>rw[a.keep c o e z] at q;cases q
 ·obtain⟨h1,h2⟩:=b.lk i h
  rw[h1] at h
  obtain⟨h3,h4⟩:=a.lk i h
  exact⟨h1.trans h3,h2.trans h4⟩
section
variable{K:aa}{H₀ H H' H1:Hp}{Bad:Addr→Prop}{env env' :Env}{σ σ' :St}{d:D}{v:V}{a:Addr}{i:Nat}
theorem Wr.same(s:b8 H H')(w:Wr H a):Wr H' a:=let⟨o,h1,h2⟩:=w;⟨o,s a o h1,h2⟩
theorem Wr.there(w:Wr H a):H a≠none:=let⟨o,h1,_⟩:=w;by rw[h1];simp
theorem aj.mono(E:aj K H₀ Bad env σ H)(s:b8 H H'):aj K H₀ Bad env σ H' where
 same:=E.same.trans s
 len:=E.len
 bad:=λa h e=>E.bad a h (s.free e)
 sh:=λi d e=>let⟨v,h1,h2⟩:=E.sh i d e;⟨v,h1,h2.same s⟩
 ow:=λi d e=>let⟨a,h1,h2,h3,h4,h5,h6⟩:=E.ow i d e;⟨a,h1,h2,h3,h4.same s,h5,h6.same s⟩
 bo:=λi d e=>let⟨a,h1,h2,h3,h4⟩:=E.bo i d e;⟨a,h1,h2.same s,h3,h4.same s⟩
 dj:=E.dj
theorem aj.FY(E:aj K H₀ Bad env σ H)(h:b5 env[i]?):∃d a,d.top=true∧σ[i]? =some (some (.ref a))∧Wr H a∧Inn K (Cln Bad env σ) H d (.ref a):=by
 match e:env[i]?,h with
 |some (some (.own d)),_=>obtain⟨a,h1,_,_,h4,h5,h6⟩:=E.ow i d (.inl e);exact⟨d,a,h5,h1,h4,h6⟩
 |some (some (.lok d)),_=>obtain⟨a,h1,_,_,h4,h5,h6⟩:=E.ow i d (.inr e);exact⟨d,a,h5,h1,h4,h6⟩
 |some (some (.bor d)),_=>obtain⟨a,h1,h4,h5,h6⟩:=E.bo i d e;exact⟨d,a,h5,h1,h4,h6⟩
theorem aj.Cr(E:aj K H₀ Bad env σ H)(h:b5 env[i]?)(e:σ[i]? =some (some (.ref a))):Wr H a:=by
 obtain⟨d,b,h1,h2,h3,h4⟩:=E.FY h
 rw[e] at h2;cases h2
 exact h3
theorem aj.jj(E:aj K H₀ Bad env σ H)(h:b5 env[i]?)(e:σ[i]? =some (some (.ref a))):H a≠none:=(E.Cr h e).there
theorem aj.oZ(E:aj K H₀ Bad env σ H)(h:H a=none):Cln Bad env σ a:=⟨λb=>E.bad a b h,λi t e=>E.jj t e h⟩
noncomputable def fB(K:aa)(H₀:Hp)(Bad:Addr→Prop)(env:Env)(σ:St)(H H' :Hp)(r:RV)(v:V):Prop:=
 match r.k with
 | .c=>Rep K (Cln Bad env σ) H' r.d v
 | .tn=>∃a,v= .ref a∧H a=none∧Wr H' a∧r.d.top=true∧Inn K (λb=>Cln Bad env σ b∧b≠a) H' r.d v
 | .to=>∃a,v= .ref a∧H₀ a=none∧Wr H' a∧r.d.top=true∧Inn K (Cln Bad env σ) H' r.d v
 | .tb=>Inn K (Cln Bad env σ) H' r.d v∧∀a,v= .ref a→r.d.top=true→¬Ow env σ a
theorem fB.inn{r:RV}(h:fB K H₀ Bad env σ H H' r v):Inn K (Cln Bad env σ) H' r.d v:=by
 obtain⟨k,d⟩:=r
 cases k with
 |c=>exact Rep.inn h
 |tn=>obtain⟨_,_,_,_,_,h⟩:=h;exact h.imp λ_ z=>z.1
 |to=>obtain⟨_,_,_,_,_,h⟩:=h;exact h
 |tb=>exact h.1
theorem fB.rep{r:RV}(h:fB K H₀ Bad env σ H H' r v)(E:aj K H₀ Bad env σ H)(hf:r.free=true):Rep K (Cln Bad env σ) H' r.d v:=by
 obtain⟨k,d⟩:=r
 cases k with
 |c=>exact h
 |tn=>
  obtain⟨a,e,h1,_,_,h2⟩:=h
  exact(h2.imp λ_ z=>z.1).rep λb eb _=>by rw[e] at eb;cases eb;exact E.oZ h1
 |to=>simp[RV.free] at hf
 |tb=>simp[RV.free] at hf
theorem fB.same{r:RV}{H2:Hp}(h:fB K H₀ Bad env σ H H' r v)(s:b8 H' H2):fB K H₀ Bad env σ H H2 r v:=by
 obtain⟨k,d⟩:=r
 cases k with
 |c=>exact Rep.same s h
 |tn=>obtain⟨a,e,h1,w,t,h2⟩:=h;subst e;exact⟨a,rfl,h1,w.same s,t,h2.same s⟩
 |to=>obtain⟨a,e,h1,w,t,h2⟩:=h;subst e;exact⟨a,rfl,h1,w.same s,t,h2.same s⟩
 |tb=>exact⟨h.1.same s,h.2⟩
theorem fB.from{r:RV}(s:b8 H H1)(h:fB K H₀ Bad env σ H1 H' r v):fB K H₀ Bad env σ H H' r v:=by
 obtain⟨k,d⟩:=r
 cases k with
 |c=>exact h
 |tn=>obtain⟨a,e,h1,w,t,h2⟩:=h;exact⟨a,e,s.free h1,w,t,h2⟩
 |to=>exact h
 |tb=>exact h
noncomputable def nW(K:aa)(H₀ H' :Hp)(d:D)(v:V):Prop:=
 (d.top=true→∃a,v= .ref a∧H₀ a=none∧Wr H' a)∧Inn K (λb=>H₀ b=none∧v≠ .ref b) H' d v
theorem nW.rv(E:aj K H₀ Bad env σ H)(h:nW K H H' d v):fB K H₀ Bad env σ H H' (gH d) v:=by
 obtain⟨h1,h2⟩:=h
 unfold gH
 by_cases t:d.top=true
 ·rw[Gag t]
  obtain⟨a,e,n,w⟩:=h1 t
  subst e
  exact⟨a,rfl,n,w,t,h2.imp λb z=> ⟨E.oZ z.1,λq=>z.2 (by rw[q])⟩⟩
 ·rw[Gae t]
  exact(h2.imp λb z=>E.oZ z.1).rep λ_ _ z=>absurd z t
end
open PySem PySem.Spec PyProof.Rows L2
noncomputable def tE(X:Cx)(f:DE):TE:=λσ H Q=>∃H₀ Bad env r,aj X.K H₀ Bad env σ H∧f env=some r∧∀v H',b8 H H' →fB X.K H₀ Bad env σ H H' r v→Q v H'
noncomputable def tT(X:Cx)(t:DT):TT:=λσ H Q=>∃H₀ Bad env b,aj X.K H₀ Bad env σ H∧t env=some b∧∀H',b8 H H' →Q b H'
noncomputable def tA(X:Cx)(a:DA):TA:=λσ H Q=>∃H₀ Bad env rs,aj X.K H₀ Bad env σ H∧a env=some rs∧∀vs H',b8 H H' →Paired (fB X.K H₀ Bad env σ H H') rs vs→Q vs H'
noncomputable def FZ(X:Cx)(H₀:Hp)(Bad:Addr→Prop)(env:Env)(σ:St)(H:Hp)(E:Ends):Out→Prop
 | .nx e=>∀σ' H',aj X.K H₀ Bad e σ' H' →Stp env σ H e σ' H' →E.nx σ' H'
 | .bk e=>∀σ' H',aj X.K H₀ Bad e σ' H' →Stp env σ H e σ' H' →E.bk σ' H'
 | .ct e=>∀σ' H',aj X.K H₀ Bad e σ' H' →Stp env σ H e σ' H' →E.ct σ' H'
 | .ret d=>∀v H',b8 H₀ H' →nW X.K H₀ H' d v→E.rt v H'
noncomputable def tS(X:Cx)(f:DS):TS:=λE σ H=>∃H₀ Bad env o,aj X.K H₀ Bad env σ H∧f env=some o∧FZ X H₀ Bad env σ H E o
noncomputable def tG(X:Cx)(g:DG):TG:=λv σ H Q=>∃H₀ Bad env d env',aj X.K H₀ Bad env σ H∧g d env=some env' ∧Rep X.K (Cln Bad env σ) H d v∧∀σ' H',aj X.K H₀ Bad env' σ' H' →Stp env σ H env' σ' H' →Q σ' H'
noncomputable abbrev PEd (X:Cx) (e:Expr) (f:DE):Prop:=PE X e (tE X f)
noncomputable abbrev PTd (X:Cx) (e:Expr) (t:DT):Prop:=PT X e (tT X t)
noncomputable abbrev PWd (X:Cx) (e:Expr) (t:DT):Prop:=PW X e (tT X t)
noncomputable abbrev PAd (X:Cx) (es:List Expr) (a:DA):Prop:=PA X es (tA X a)
noncomputable abbrev PSd (X:Cx) (st:Stmt) (f:DS):Prop:=PS X st (tS X f)
noncomputable abbrev gP (X:Cx) (st:List Stmt) (f:DS):Prop:=PSs X st (tS X f)
noncomputable abbrev PGd (X:Cx) (e:Expr) (g:DG):Prop:=PG X e (tG X g)
section
variable{X:Cx}{e a b c:Expr}{f g h:DE}{t u:DT}{pos:Pos}
theorem _root_.L2.PE.aC{t t' :TE}(h:PE X e t')(i:∀σ H Q,t σ H Q→t' σ H Q):PE X e t:=λpins s σ H Q I q=>h pins s σ H Q I (i σ H Q q)
theorem _root_.L2.PT.aC{t t' :TT}(h:PT X e t')(i:∀σ H Q,t σ H Q→t' σ H Q):PT X e t:=λpins s σ H Q I q=>h pins s σ H Q I (i σ H Q q)
theorem _root_.L2.PW.aC{t t' :TT}(h:PW X e t')(i:∀σ H Q,t σ H Q→t' σ H Q):PW X e t:=λwh pins s σ H Q I q=>h wh pins s σ H Q I (i σ H Q q)
theorem _root_.L2.PA.aC{es:List Expr}{t t' :TA}(h:PA X es t')(i:∀σ H Q,t σ H Q→t' σ H Q):PA X es t:=λpos pins s σ H Q I q=>h pos pins s σ H Q I (i σ H Q q)
theorem _root_.L2.PS.aC{st:Stmt}{t t' :TS}(h:PS X st t')(i:∀D σ H,t D σ H→t' D σ H):PS X st t:=λpins s σ H D I q=>h pins s σ H D I (i D σ H q)
theorem _root_.L2.PSs.aC{st:List Stmt}{t t' :TS}(h:PSs X st t')(i:∀D σ H,t D σ H→t' D σ H):PSs X st t:=λpins s σ H D I q=>h pins s σ H D I (i D σ H q)
theorem _root_.L2.PG.aC{t t' :TG}(h:PG X e t')(i:∀v σ H Q,t v σ H Q→t' v σ H Q):PG X e t:=λpins s σ H v u Q I r q=>h pins s σ H v u Q I r (i v σ H Q q)
theorem bJ{H:Hp}:b8 H H:=λ_ _ e=>e
theorem bind_some{α β:Type}{o:Option α}{k:α→Option β}{y:β}(h:o.bind k=some y):∃x,o=some x∧k x=some y:=Option.bind_eq_some_iff.mp h
theorem cx(i:Nat){x:Str}(hN:X.N[i]? =some x:=by rfl)(hv:Vis X.env.scope x:=by first|exact Or.inl rfl|exact Or.inr (Or.inl rfl)|exact Or.inr (Or.inr rfl))(hd:(x==("__debug__":Str))=false:=by decide)
  (hcd:(x==("__classdict__":Str))=false:=by decide):PEd X (.Name x pos) (vE i):=by
 refine(iO hN hv hd hcd).aC ?_
 rintro σ H Q ⟨H₀,Bad,env,r,E,e,k⟩
 unfold vE at e
 match q:env[i]?,e with
 |some (some (.sh d)),e=>
  cases e
  obtain⟨v,h1,h2⟩:=E.sh i d q
  exact⟨v,h1,k v H bJ h2⟩
 |some (some (.own d)),e=>
  cases e
  obtain⟨a,h1,h2,h3,h4,h5,h6⟩:=E.ow i d (.inl q)
  exact⟨_,h1,k _ H bJ ⟨a,rfl,h2,h4,h5,h6⟩⟩
 |some (some (.lok d)),e=>
  cases e
  obtain⟨a,h1,h2,h3,h4,h5,h6⟩:=E.ow i d (.inr q)
  refine⟨_,h1,k _ H bJ ⟨h6,λb eb _ ⟨j,ho,hj⟩=> ?_⟩⟩
  cases eb
  have:=E.dj j i a ho.ol (by rw[q];trivial) hj h1
  subst this
  rw[q] at ho;exact ho
 |some (some (.bor d)),e=>
  cases e
  obtain⟨a,h1,h4,h5,h6⟩:=E.bo i d q
  refine⟨_,h1,k _ H bJ ⟨h6,λb eb _ ⟨j,ho,hj⟩=> ?_⟩⟩
  cases eb
  have:=E.dj j i a ho.ol (by rw[q];trivial) hj h1
  subst this
  rw[q] at ho;exact ho
theorem af{i:Int}{j:Nat}:PEd X (.Constant (.int i) j pos) (kE (.int i)):=CI.aC λσ H Q ⟨_,_,_,_,_,e,k⟩=>by cases e;exact k _ H bJ (.int i)
theorem nX{b:Bool}{j:Nat}:PEd X (.Constant (.bool b) j pos) (kE (.bl b)):=EY.aC λσ H Q ⟨_,_,_,_,_,e,k⟩=>by cases e;exact k _ H bJ (.bl b)
theorem wm{j:Nat}:PEd X (.Constant .none j pos) (kE .non):=CJ.aC λσ H Q ⟨_,_,_,_,_,e,k⟩=>by cases e;exact k _ H bJ .non
theorem gQ{x:Str}{j:Nat}:PEd X (.Constant (.str x) j pos) (kE (.str x)):=CK.aC λσ H Q ⟨_,_,_,_,_,e,k⟩=>by cases e;exact k _ H bJ (.str x)
noncomputable def RvN(K:aa)(F:Addr→Prop)(H H' :Hp)(r:RV)(v:V):Prop:=
 match r.k with
 | .c=>Rep K F H' r.d v
 | .tn=>∃a,v= .ref a∧H a=none∧Wr H' a∧r.d.top=true∧Inn K (λb=>F b∧b≠a) H' r.d v
 |_=>False
theorem RvN.ok{K:aa}{H₀ H H1 H' :Hp}{Bad:Addr→Prop}{env:Env}{σ:St}{r:RV}{v:V}(h:RvN K (Cln Bad env σ) H1 H' r v)(s:b8 H H1):fB K H₀ Bad env σ H H' r v:=by
 obtain⟨k,d⟩:=r
 cases k with
 |c=>exact h
 |tn=>obtain⟨a,e,h1,w,t,h2⟩:=h;exact⟨a,e,s.free h1,w,t,h2⟩
 |to=>exact(show False from h).elim
 |tb=>exact(show False from h).elim
noncomputable def OpD(X:Cx)(o:D→D→Option RV)(r:R2):Prop:=∀(F:Addr→Prop) (H:Hp) (dx dy:D) (x y:V) (rv:RV) (Q:VK),Inn X.K F H dx x→Inn X.K F H dy y→o dx dy=some rv→
 (∀v H',b8 H H' →RvN X.K F H H' rv v→Q v H')→r x y H Q
theorem nY{op:Operator}{o:D→D→Option RV}{r:R2}(ho:OpR X (binaryOp op) r)(hd:OpD X o r)(ha:PEd X a f)(hb:PEd X b g):PEd X (.BinOp a op b pos) (opE o f g):=by
 refine(F7 ho ha hb).aC ?_
 rintro σ H Q ⟨H₀,Bad,env,rv,E,e,k⟩
 obtain⟨x,hx,e⟩:=bind_some e
 obtain⟨y,hy,e⟩:=bind_some e
 exact⟨H₀,Bad,env,x,E,hx,λvx H1 s1 R1=> ⟨H₀,Bad,env,y,E.mono s1,hy,λvy H2 s2 R2=>hd _ H2 x.d y.d vx vy rv Q (R1.inn.same s2) R2.inn e λv H3 s3 R3=>
  k v H3 (s1.trans (s2.trans s3)) (R3.ok (s1.trans s2))⟩⟩
theorem Dq{o:D→D→Option RV}{gi:Int→Int→Int}(h:∀dx dy rv,o dx dy=some rv→∃i j,dx= .int i∧dy= .int j∧rv=⟨.c,.int (gi i j)⟩):OpD X o (rI0 λi j=> .int (gi i j)):=by
 intro F H dx dy x y rv Q ix iy e k
 obtain⟨i,j,rfl,rfl,rfl⟩:=h dx dy rv e
 cases ix;cases iy
 exact⟨i,j,rfl,rfl,k _ H bJ (.int _)⟩
theorem tw{o:D→D→Option RV}{C:Int→Int→Prop}{gi:Int→Int→Int}(h:∀dx dy rv,o dx dy=some rv→∃i j,dx= .int i∧dy= .int j∧C i j∧rv=⟨.c,.int (gi i j)⟩):OpD X o (rI C λi j=> .int (gi i j)):=by
 intro F H dx dy x y rv Q ix iy e k
 obtain⟨i,j,rfl,rfl,hc,rfl⟩:=h dx dy rv e
 cases ix;cases iy
 exact⟨i,j,rfl,rfl,hc,k _ H bJ (.int _)⟩
theorem Bn:OpD X w9 (rI0 λi j=> .int (i -j)):=Dq λdx dy rv e=>by
 unfold w9 at e
 split at e
 ·cases e;exact⟨_,_,rfl,rfl,rfl⟩
 ·cases e
theorem Bo:OpD X jU (rI B4 λi j=> .int (i*j)):=tw λdx dy rv e=>by
 unfold jU at e
 split at e
 ·split at e
  ·rename_i i j q
   cases e
   refine⟨i,j,rfl,rfl, ?_,rfl⟩
   unfold dF at q
   rw[Gbu] at q
   rcases q with q|q
   ·left;have:=GaN q;omega
   ·right;have:=GaN q;omega
  ·cases e
 ·cases e
theorem wq:OpD X q8 (rI Fb λi j=> .int (i/j)):=tw λdx dy rv e=>by
 unfold q8 at e
 split at e
 ·split at e
  ·rename_i i j q
   cases e
   exact⟨i,j,rfl,rfl,q,rfl⟩
  ·cases e
 ·cases e
theorem Bp:OpD X d9 (rI (λ_ j=>0<j) λi j=> .int (i%j)):=tw λdx dy rv e=>by
 unfold d9 at e
 split at e
 ·split at e
  ·rename_i i j q
   cases e
   exact⟨i,j,rfl,rfl,q,rfl⟩
  ·cases e
 ·cases e
theorem Bq:OpD X wa (rI Fc λi j=> .int (i^j.toNat)):=tw λdx dy rv e=>by
 unfold wa at e
 split at e
 ·split at e
  ·rename_i i j q
   cases e
   exact⟨i,j,rfl,rfl,⟨q.1,by omega,by omega⟩,rfl⟩
  ·cases e
 ·cases e
noncomputable def Cs:R2:=λx y H Q=>∃l b xs zs,x= .ref l∧y= .ref b∧Rd H l (.lst xs)∧Rd H b (.lst zs)∧xs.length+zs.length≤sizeLine∧∀p,H p=none→Q (.ref p) (upd H p (.lst (xs++zs)))
theorem Br:OpR X (binaryOp .Add) Cs:=by
 intro pins s σ H x y v u Q I rx ry h
 obtain⟨l,b,xs,zs,rfl,rfl,hH,hB,hz,q⟩:=h
 cases rx
 cases ry
 obtain⟨z,its,n,r,e⟩:=(show bB X.prog X.w H s.heap l (.lst xs) from hH.ok I.hok)
 obtain⟨z2,its2,n2,r2,e2⟩:=(show bB X.prog X.w H s.heap b (.lst zs) from hB.ok I.hok)
 have hl:=r.length
 have hl2:=r2.length
 refine PySem.P.add_list e e2 ?_ (by rw[Gao,Gao];omega)
 have ea:its.toArray++its2.toArray=(its++its2).toArray:=by simp
 rw[ea]
 exact⟨.ref _,_,I.Hc (t' :=s.toks) (r.append r2) (by rw[GaL];omega),rfl,q _ I.fresh⟩
theorem size_eq:ao=sizeLine:=by rw[GbA];rfl
theorem aY{H:Hp}{p:Addr}{o:HO}(n:H p=none):b8 H (upd H p o):=λb u e=>by rw[az (cw e n)];exact e
theorem me{K:aa}{F:Addr→Prop}{H:Hp}{p:Addr}{ds:List D}{vs:List V}(n:H p=none)(r:aq K F H ds vs):Rep K F (upd H p (.tup vs)) (.tup ds) (.ref p):=by
 have r2:=r.gen (F' :=F) (.of_same (aY (o:= .tup vs) n)) λ_ f _=>f
 exact .tup au r2.1 r2.2
theorem cy{K:aa}{F:Addr→Prop}{H:Hp}{p:Addr}{ds:List D}{vs:List V}(n:H p=none)(r:aq K F H ds vs):Inn K (λb=>F b∧b≠p) (upd H p (.lst vs)) (.lst ds) (.ref p):=
 .lst (.inl au) (r.gen (F' :=λb=>F b∧b≠p) (.of_same (aY (o:= .lst vs) n)) λb f hb=> ⟨f,λz=>hb (z▸n)⟩)
theorem jX{H:Hp}{p:Addr}{xs:List V}:Wr (upd H p (.lst xs)) p:=⟨_,au,trivial⟩
noncomputable def Ct(K:aa):R2:=λx y H Q=>rI0 (λi j=> .int (i+j)) x y H Q∨(∃i j,x= .str i∧y= .str j∧i.length+j.length≤sizeLine∧Q (.str (i++j)) H)∨Cs x y H Q∨Ck K x y H Q
theorem Bs:OpR X (binaryOp .Add) (Ct X.K):=CZ.or (rF.or (Br.or Bb))
theorem aq.ne{K:aa}{F:Addr→Prop}{H:Hp}{ds:List D}{vs:List V}(r:aq K F H ds vs):vs=[]↔ds=[]:=by
 constructor
 ·intro z;subst z;exact Gcu r.1
 ·intro z;subst z;exact r.bC
theorem Bt:OpD X ck (Ct X.K):=by
 intro F H dx dy x y rv Q ix iy e k
 unfold ck at e
 split at e
 ·cases e;cases ix;cases iy
  exact .inl ⟨_,_,rfl,rfl,k _ H bJ (.int _)⟩
 ·split at e
  ·rename_i q
   cases e;cases ix;cases iy
   exact .inr (.inl ⟨_,_,rfl,rfl,by rw[←size_eq];exact q,k _ H bJ (.str _)⟩)
  ·cases e
 ·split at e
  ·rename_i xs ys q
   cases e
   cases ix with
   |tup hx rx=>
    cases iy with
    |tup hy ry=>
     refine .inr (.inr (.inr ⟨_,_,_,_,rfl,rfl,SqT.of hx,SqT.of hy, ?_, ?_, ?_, ?_⟩))
     ·intro z
      have:=rx.ne.mp z
      subst this
      exact absurd q.2 (by simp)
     ·rw[←rx.1,←ry.1,←size_eq];exact q.1
     ·intro z
      have:=ry.ne.mp z
      subst this
      refine k _ H bJ ?_
      rw[Gca]
      exact .tup hx rx.1 rx.2
     ·intro z p n
      exact k _ _ (aY n) (me n (rx.append ry))
  ·cases e
 ·split at e
  ·rename_i xs ys q
   cases e
   cases ix with
   |lst hx rx=>
    cases iy with
    |lst hy ry=>
     refine .inr (.inr (.inl ⟨_,_,_,_,rfl,rfl,hx,hy,by rw[←rx.1,←ry.1,←size_eq];exact q,λp n=> ?_⟩))
     exact k _ _ (aY n) ⟨p,rfl,n,jX,rfl,cy n (rx.append ry)⟩
  ·cases e
 ·cases e
theorem bq(ha:PEd X a f)(hb:PEd X b g):PEd X (.BinOp a .Add b pos) (opE ck f g):=nY Bs Bt ha hb
theorem Dr(ha:PEd X a f)(hb:PEd X b g):PEd X (.BinOp a .Sub b pos) (opE w9 f g):=nY D0 Bn ha hb
theorem g9(ha:PEd X a f)(hb:PEd X b g):PEd X (.BinOp a .Mult b pos) (opE jU f g):=nY D1 Bo ha hb
theorem Bu(ha:PEd X a f)(hb:PEd X b g):PEd X (.BinOp a .FloorDiv b pos) (opE q8 f g):=nY B5 wq ha hb
theorem bU(ha:PEd X a f)(hb:PEd X b g):PEd X (.BinOp a .Mod b pos) (opE d9 f g):=nY D2 Bp ha hb
theorem Ds(ha:PEd X a f)(hb:PEd X b g):PEd X (.BinOp a .Pow b pos) (opE wa f g):=nY D3 Bq ha hb
noncomputable def OpB(X:Cx)(o:D→D→Option Bool)(r:R2):Prop:=∀(F:Addr→Prop) (H:Hp) (dx dy:D) (x y:V) (b:Bool) (Q:VK),Inn X.K F H dx x→Inn X.K F H dy y→o dx dy=some b→Q (.bl b) H→r x y H Q
theorem cZ{op:CmpOp}{o:D→D→Option Bool}{r:R2}(ho:OpR X (compareOp op) r)(hd:OpB X o r)(ha:PEd X a f)(hb:PEd X b g)(hm:behindInMarks op b=false):PTd X (.Compare a [op] [b] pos) (dH o f g):=by
 refine(B7 ho ha hb hm).aC ?_
 rintro σ H Q ⟨H₀,Bad,env,bb,E,e,k⟩
 obtain⟨x,hx,e⟩:=bind_some e
 obtain⟨y,hy,e⟩:=bind_some e
 exact⟨H₀,Bad,env,x,E,hx,λvx H1 s1 R1=> ⟨H₀,Bad,env,y,E.mono s1,hy,λvy H2 s2 R2=>hd _ H2 x.d y.d vx vy bb _ (R1.inn.same s2) R2.inn e ⟨bb,rfl,k H2 (s1.trans s2)⟩⟩⟩
theorem rQ{op:CmpOp}{o:D→D→Option Bool}{r:R2}(ho:OpR X (compareOp op) r)(hd:OpB X o r)(ha:PEd X a f)(hb:PEd X b g)(hm:behindInMarks op b=false):PEd X (.Compare a [op] [b] pos) (bE (dH o f g)):=by
 refine(B6 ho ha hb hm).aC ?_
 rintro σ H Q ⟨H₀,Bad,env,rv,E,e,k⟩
 obtain⟨bb,e',rfl⟩:=Gaj.mp e
 clear e
 have e:=e'
 clear e'
 obtain⟨x,hx,e⟩:=bind_some e
 obtain⟨y,hy,e⟩:=bind_some e
 exact⟨H₀,Bad,env,x,E,hx,λvx H1 s1 R1=> ⟨H₀,Bad,env,y,E.mono s1,hy,λvy H2 s2 R2=>hd _ H2 x.d y.d vx vy bb _ (R1.inn.same s2) R2.inn e (k _ H2 (s1.trans s2) (.bl bb))⟩⟩
theorem Cu{o:D→D→Option Bool}{gb:Int→Int→Bool}(h:∀dx dy b,o dx dy=some b→∃i j,dx= .int i∧dy= .int j∧b=gb i j):OpB X o (rI0 λi j=> .bl (gb i j)):=by
 intro F H dx dy x y b Q ix iy e q
 obtain⟨i,j,rfl,rfl,rfl⟩:=h dx dy b e
 cases ix;cases iy
 exact⟨i,j,rfl,rfl,q⟩
theorem wt:OpB X ltB (rI0 λi j=> .bl (decide (i<j))):=Cu λdx dy b e=>by
 unfold ltB at e;split at e<;>cases e;exact⟨_,_,rfl,rfl,rfl⟩
theorem rR:OpB X gtB (rI0 λi j=> .bl (decide (j<i))):=Cu λdx dy b e=>by
 unfold gtB at e;split at e<;>cases e;exact⟨_,_,rfl,rfl,rfl⟩
theorem uR{K:aa}{F:Addr→Prop}{H:Hp}{d:D}{x:V}(h:Inn K F H d x):decide (x= .non)=dG d:=by
 cases h<;>simp[dG]
theorem tx:OpB X wb (λx y H Q=>y= .non∧Q (.bl (decide (x= .non))) H):=by
 intro F H dx dy x y b Q ix iy e q
 simp only[wb,Cq] at e
 split at e
 ·rename_i h
  cases e
  cases iy<;>simp[dG] at h
  exact⟨rfl,by rw[uR ix];exact q⟩
 ·cases e
theorem dQ(h:PEd X e f)(he:∀whole,isTrue e X.env whole=(do let v←whole;standAt e.pos;holding [v] (truthy v)):=by intro _;rfl):PTd X e (iQ f):=by
 refine(CL h he).aC ?_
 rintro σ H Q ⟨H₀,Bad,env,bb,E,e,k⟩
 obtain⟨x,hx,e⟩:=bind_some e
 split at e
 ·rename_i b hb
  cases e
  refine⟨H₀,Bad,env,x,E,hx,λvx H1 s1 R1=> ⟨bb, ?_,k H1 s1⟩⟩
  have i:=R1.inn
  rw[hb] at i
  cases i;rfl
 ·cases e
theorem qh(h:PEd X e f):PEd X e (bE (iQ f)):=by
 refine h.aC ?_
 rintro σ H Q ⟨H₀,Bad,env,rv,E,e,k⟩
 obtain⟨bb,e',rfl⟩:=Gaj.mp e
 clear e
 have e:=e'
 clear e'
 obtain⟨x,hx,e⟩:=bind_some e
 split at e
 ·rename_i b hb
  cases e
  refine⟨H₀,Bad,env,x,E,hx,λvx H1 s1 R1=>k _ H1 s1 ?_⟩
  have i:=R1.inn
  rw[hb] at i
  cases i
  exact .bl _
 ·cases e
theorem tD(ha:PTd X a t):PWd X (.BoolOp .And [a] pos) t:=B0 ha
theorem wu(ha:PTd X a t):PWd X (.BoolOp .Or [a] pos) t:=CM ha
theorem wx{rest:List Expr}(ha:PTd X a t)(hb:PWd X (.BoolOp .And (b::rest) pos) u):PWd X (.BoolOp .And (a::b::rest) pos) (q9 t u):=by
 refine(CN ha hb).aC ?_
 rintro σ H Q ⟨H₀,Bad,env,bb,E,e,k⟩
 obtain⟨x,hx,e⟩:=bind_some e
 refine⟨H₀,Bad,env,x,E,hx,λH1 s1=> ?_⟩
 cases x with
 |true=>rw[Gag rfl];rw[Gag rfl] at e;exact⟨H₀,Bad,env,bb,E.mono s1,e,λH2 s2=>k H2 (s1.trans s2)⟩
 |false=>rw[Gae Gay];rw[Gae Gay] at e;cases e;exact k H1 s1
theorem Cv{rest:List Expr}(ha:PTd X a t)(hb:PWd X (.BoolOp .Or (b::rest) pos) u):PWd X (.BoolOp .Or (a::b::rest) pos) (orT t u):=by
 refine(EZ ha hb).aC ?_
 rintro σ H Q ⟨H₀,Bad,env,bb,E,e,k⟩
 obtain⟨x,hx,e⟩:=bind_some e
 refine⟨H₀,Bad,env,x,E,hx,λH1 s1=> ?_⟩
 cases x with
 |false=>rw[Gae Gay];rw[Gae Gay] at e;exact⟨H₀,Bad,env,bb,E.mono s1,e,λH2 s2=>k H2 (s1.trans s2)⟩
 |true=>rw[Gag rfl];rw[Gag rfl] at e;cases e;exact k H1 s1
theorem jY(ha:PTd X a t):PTd X (.UnaryOp .Not a pos) (oT t):=by
 refine(CO ha).aC ?_
 rintro σ H Q ⟨H₀,Bad,env,bb,E,e,k⟩
 obtain⟨x,hx,rfl⟩:=Gaj.mp e
 exact⟨H₀,Bad,env,x,E,hx,λH1 s1=>k H1 s1⟩
theorem rS{op:BoolOp}(ha:PEd X a (bE t)):PEd X (.BoolOp op [a] pos) (bE t):=CP ha
theorem p5{rest:List Expr}(ha:PEd X a (bE t))(hb:PEd X (.BoolOp .And (b::rest) pos) (bE u)):PEd X (.BoolOp .And (a::b::rest) pos) (bE (q9 t u)):=by
 refine(CQ ha hb).aC ?_
 rintro σ H Q ⟨H₀,Bad,env,rv,E,e,k⟩
 obtain⟨bb,e',rfl⟩:=Gaj.mp e
 clear e
 have e:=e'
 clear e'
 obtain⟨x,hx,e⟩:=bind_some e
 refine⟨H₀,Bad,env,⟨.c,.bl x⟩,E,by unfold bE;rw[hx];rfl,λv H1 s1 R=> ?_⟩
 have R' :Inn X.K (Cln Bad env σ) H1 (.bl x) v:=R.inn
 cases R'
 refine⟨x,rfl, ?_⟩
 cases x with
 |true=>rw[Gag rfl];rw[Gag rfl] at e;exact⟨H₀,Bad,env,⟨.c,.bl bb⟩,E.mono s1,by unfold bE;rw[e];rfl,λv2 H2 s2 R2=>k v2 H2 (s1.trans s2) (R2.from s1)⟩
 |false=>rw[Gae Gay];rw[Gae Gay] at e;cases e;exact k _ H1 s1 (.bl false)
theorem Dt(ha:PEd X a (bE t)):PEd X (.UnaryOp .Not a pos) (bE (oT t)):=by
 refine(CS ha).aC ?_
 rintro σ H Q ⟨H₀,Bad,env,rv,E,e,k⟩
 obtain⟨bb,e',rfl⟩:=Gaj.mp e
 clear e
 have e:=e'
 clear e'
 obtain⟨x,hx,rfl⟩:=Gaj.mp e
 refine⟨H₀,Bad,env,⟨.c,.bl x⟩,E,by unfold bE;rw[hx];rfl,λv H1 s1 R=> ?_⟩
 have R' :Inn X.K (Cln Bad env σ) H1 (.bl x) v:=R.inn
 cases R'
 exact⟨x,rfl,k _ H1 s1 (.bl _)⟩
end
open PySem PySem.Spec PyProof.Rows L2
section
variable{X:Cx}{e a b c:Expr}{f g h:DE}{t u:DT}{pos:Pos}
theorem Scr.sq{K:aa}{H:Hp}{a:Addr}{ns:List Int}(h:Scr K H a ns):SqL K H a (ns.map V.int):=by
 rcases h with⟨o,h⟩|h
 ·exact .inl (.inr ⟨o,h⟩)
 ·exact .inr h
theorem wz{K:aa}{F:Addr→Prop}{H:Hp}{ds:List D}{vs:List V}{i:Int}{d:D}(r:aq K F H ds vs)(e:atD ds i=some d):∃v,atI vs i=some v∧Rep K F H d v:=by
 unfold atD at e
 unfold atI ixN
 rw[←r.1]
 split at e
 ·rename_i h0
  obtain⟨v,h1,h2⟩:=r.get e
  have hi:=(Gaf.mp e).1
  refine⟨v, ?_,h2⟩
  rw[Gag h0,Gag (by omega)]
  exact h1
 ·rename_i h0
  split at e
  ·rename_i h1
   obtain⟨v,h2,h3⟩:=r.get e
   refine⟨v, ?_,h3⟩
   rw[Gae h0,Gag h1]
   exact h2
  ·cases e
noncomputable def G0:R2:=λx y H Q=>∃a v,x= .ref a∧lX H a y (some v)∧Q v H
theorem Bv(hu:X.A.units+1<cLine):IxR X G0:=by
 intro value slice pins s σ H x y v u Q I rx ry h hs
 obtain⟨a,z,rfl,g,q⟩:=h
 cases rx
 exact tail_any (pZ I g) PySem.F.slot_dict_getitem.lookup (uG hu I g ry λw' s3 I3 rw' => ⟨z,H,I3,rw',q⟩) hs
noncomputable def Hq(K:aa):R2:=λx y H Q=>rIx K x y H Q∨G0 x y H Q
theorem Bw(hu:X.A.units+1<cLine):IxR X (Hq X.K):=Dd.or (Bv hu)
theorem gR{κ:Type} [DecidableEq κ]{K:aa}{F:Addr→Prop}{H:Hp}:∀{kvs:List (κ×D)} {ws:List (κ×V)} {k:κ} {d:D},aB K F H kvs ws→look kvs k=some d→∃v,gG ws k=some v∧Rep K F H d v
 |[],ws,k,d,_,e=>by simp[look] at e
 |p::kvs,[],k,d,r,_=>absurd r.1 (by simp)
 |p::kvs,q::ws,k,d,r,e=>by
  have h1:p.1=q.1∧kvs.map (·.1)=ws.map (·.1):=by have:=r.1;simpa using this
  have r2:aB K F H kvs ws:=⟨h1.2,λi x y e1 e2=>r.2 (i+1) x y (by simpa using e1) (by simpa using e2)⟩
  by_cases z:p.1=k
  ·have e' :look (p::kvs) k=some p.2:=by simp[look,Gbw,z]
   rw[e'] at e;cases e
   exact⟨q.2,jd (h1.1.symm.trans z),r.2 0 p q rfl rfl⟩
  ·have e' :look (p::kvs) k=look kvs k:=by simp[look,Gbw,z]
   rw[e'] at e
   obtain⟨v,h3,h4⟩:=gR r2 e
   exact⟨v,by rw[gK (λw=>z (h1.1.trans w))];exact h3,h4⟩
theorem jZ{κ:Type} [DecidableEq κ]{K:aa}{F:Addr→Prop}{H:Hp}:∀{kvs:List (κ×D)} {ws:List (κ×V)} {k:κ},aB K F H kvs ws→look kvs k=none→gG ws k=none
 |[],[],k,_,_=>rfl
 |[],q::ws,k,r,_=>absurd r.1 (by simp)
 |p::kvs,[],k,r,_=>absurd r.1 (by simp)
 |p::kvs,q::ws,k,r,e=>by
  have h1:p.1=q.1∧kvs.map (·.1)=ws.map (·.1):=by have:=r.1;simpa using this
  have r2:aB K F H kvs ws:=⟨h1.2,λi x y e1 e2=>r.2 (i+1) x y (by simpa using e1) (by simpa using e2)⟩
  by_cases z:p.1=k
  ·have e' :look (p::kvs) k=some p.2:=by simp[look,Gbw,z]
   rw[e'] at e;cases e
  ·have e' :look (p::kvs) k=look kvs k:=by simp[look,Gbw,z]
   rw[e'] at e
   rw[gK (λw=>z (h1.1.trans w))]
   exact jZ r2 e
theorem k6{K:aa}{F:Addr→Prop}{H:Hp}{d:D}{x:V}{k:Key}(i:Inn K F H d x)(e:keyOf d=some k):x=kV k:=by
 unfold keyOf at e
 split at e<;>cases e<;>cases i<;>rfl
theorem gS{K:aa}{F:Addr→Prop}{H:Hp}:∀{ds:List D} {vs:List V} {ks:List Key},aq K F H ds vs→keysOf ds=some ks→vs=ks.map kV
 |[],vs,ks,r,e=>by cases e;rw[r.bC];rfl
 |d::ds,vs,ks,r,e=>by
  obtain⟨v,w,rfl,h1,h2⟩:=r.cons_inv
  unfold keysOf at e
  obtain⟨k,hk,e⟩:=bind_some e
  obtain⟨ks',hks,rfl⟩:=Gaj.mp e
  rw[k6 h1.inn hk,gS h2 hks]
  rfl
theorem lF{K:aa}{F:Addr→Prop}{H:Hp}{d k:D}{x y:V}(ix:Inn K F H d x)(iy:Inn K F H k y):
  (∀kvs key,d= .dK kvs→keyOf k=some key→∃a ws,x= .ref a∧aB K F H kvs ws∧lX H a y (gG ws key))∧
  (∀kvs ks key,d= .dT kvs→k= .tup ks→keysOf ks=some key→∃a ws,x= .ref a∧aB K F H kvs ws∧lX H a y (gG ws key)):=by
 refine⟨λkvs key ed ek=> ?_,λkvs ks key ed ek e=> ?_⟩
 ·subst ed
  cases ix with
  |dK h r=>exact⟨_,_,rfl,r,.inl ⟨_,key,.inl h,k6 iy ek,rfl⟩⟩
 ·subst ed ek
  cases ix with
  |dT h r=>
   cases iy with
   |tup hy ry=>exact⟨_,_,rfl,r,.inr ⟨_,key,_,.inl h,rfl,by rw[←gS ry e];exact hy,rfl⟩⟩
theorem dR(hu:X.A.units+1<cLine)(ha:PEd X a f)(hb:PEd X b g)(hs:t8 b:=by exactλ_ _=>rfl):PEd X (.Subscript a b pos) (ixE f g):=by
 refine(Fi (Bw hu) ha hb hs).aC ?_
 rintro σ H Q ⟨H₀,Bad,env,rv,E,e,k⟩
 obtain⟨x,hx,e⟩:=bind_some e
 obtain⟨y,hy,e⟩:=bind_some e
 obtain⟨d,e',rfl⟩:=Gaj.mp e
 clear e
 have e:=e'
 clear e'
 refine⟨H₀,Bad,env,x,E,hx,λvx H1 s1 R1=> ⟨H₀,Bad,env,y,E.mono s1,hy,λvy H2 s2 R2=> ?_⟩⟩
 have ix:=R1.inn.same s2
 have iy:=R2.inn
 have fin:∀v,Rep X.K (Cln Bad env σ) H2 d v→Q v H2:=λv r=>k v H2 (s1.trans s2) r
 generalize x.d=dx at ix e
 generalize y.d=dy at iy e
 unfold ixD at e
 split at e
 ·cases iy
  cases ix with
  |lst h r=>
   obtain⟨v,h1,h2⟩:=wz r e
   exact .inl (.inl ⟨_,_,_,v,rfl,rfl,.inl h,h1,fin v h2⟩)
 ·cases iy
  cases ix with
  |tup h r=>
   obtain⟨v,h1,h2⟩:=wz r e
   exact .inl (.inr (.inl ⟨_,_,_,v,rfl,rfl,SqT.of h,h1,fin v h2⟩))
 ·split at e
  ·rename_i hz
   obtain⟨ch,e',rfl⟩:=Gaj.mp e
   clear e
   have e:=e'
   clear e'
   cases iy;cases ix
   refine .inl (.inr (.inr ⟨_,_,ch,rfl,rfl,by rw[←size_eq];exact hz, ?_,fin _ (.str _)⟩))
   unfold atD at e
   unfold atI ixN
   split at e
   ·rename_i h0
    have hi:=(Gaf.mp e).1
    rw[Gag h0,Gag (by omega)]
    exact e
   ·rename_i h0
    split at e
    ·rename_i h1
     rw[Gae h0,Gag h1]
     exact e
    ·cases e
  ·cases e
 ·obtain⟨key,hk,e⟩:=bind_some e
  obtain⟨p,ws,rfl,r,dg⟩:=(lF ix iy).1 _ key rfl hk
  obtain⟨v,h1,h2⟩:=gR r e
  rw[h1] at dg
  exact .inr ⟨p,v,rfl,dg,fin v h2⟩
 ·obtain⟨key,hk,e⟩:=bind_some e
  obtain⟨p,ws,rfl,r,dg⟩:=(lF ix iy).2 _ _ key rfl rfl hk
  obtain⟨v,h1,h2⟩:=gR r e
  rw[h1] at dg
  exact .inr ⟨p,v,rfl,dg,fin v h2⟩
 ·obtain⟨n,e',rfl⟩:=Gaj.mp e
  clear e
  have e:=e'
  clear e'
  cases iy
  cases ix with
  |scr h=>
   refine .inl (.inl ⟨_,_,_,.int n,rfl,rfl,h.sq, ?_,fin _ (.int n)⟩)
   unfold atD at e
   unfold atI ixN
   rw[Gar]
   split at e
   ·rename_i h0
    have hi:=(Gaf.mp e).1
    rw[Gag h0,Gag (by omega)]
    show(List.map V.int _)[_]? =_
    rw[Gax,e];rfl
   ·rename_i h0
    split at e
    ·rename_i h1
     rw[Gae h0,Gag h1]
     show(List.map V.int _)[_]? =_
     rw[Gax,e];rfl
    ·cases e
 ·cases e
theorem ab:PAd X [] aA:=by
 refine jQ.aC ?_
 rintro σ H Q ⟨H₀,Bad,env,rs,E,e,k⟩
 cases e
 exact k [] H bJ .nil
theorem kP{K:aa}{H₀ H H1 H' :Hp}{Bad:Addr→Prop}{env:Env}{σ:St}(s:b8 H H1):∀{rs:List RV} {vs:List V},Paired (fB K H₀ Bad env σ H1 H') rs vs→Paired (fB K H₀ Bad env σ H H') rs vs
 |_,_,.nil=> .nil
 |_,_,.cons h t=> .cons (h.from s) (kP s t)
theorem a0{es:List Expr}{r:DA}(ha:PEd X e f)(hr:PAd X es r)(hs:starEach (e::es) X.env=(false,eval e X.env)::starEach es X.env:=by rfl):PAd X (e::es) (a8 f r):=by
 refine(fc ha hr hs).aC ?_
 rintro σ H Q ⟨H₀,Bad,env,rs,E,e,k⟩
 obtain⟨x,hx,e⟩:=bind_some e
 obtain⟨xs,hxs,e⟩:=bind_some e
 cases e
 exact⟨H₀,Bad,env,x,E,hx,λvx H1 s1 R1=> ⟨H₀,Bad,env,xs,E.mono s1,hxs,λvs H2 s2 Rs=>k _ H2 (s1.trans s2) (.cons (R1.same s2) (kP s1 Rs))⟩⟩
theorem k7{K:aa}{H₀ H H' :Hp}{Bad:Addr→Prop}{env:Env}{σ:St}(E:aj K H₀ Bad env σ H):∀{rs:List RV} {vs:List V},Paired (fB K H₀ Bad env σ H H') rs vs→rs.all (·.free)=true→aq K (Cln Bad env σ) H' (rs.map (·.d)) vs
 |_,_,.nil,_=>aq.nil
 |r::rs,v::vs,.cons h t,f=>by
  rw[GbD,Gaq] at f
  exact aq.cons (h.rep E f.1) (k7 E t f.2)
theorem mf{es:List Expr}{r:DA}{j:Nat}(ha:PAd X es r):PEd X (.Tuple es j pos) (uK r):=by
 refine(D6 ha).aC ?_
 rintro σ H Q ⟨H₀,Bad,env,rv,E,e,k⟩
 obtain⟨rs,hr,e⟩:=bind_some e
 split at e
 ·rename_i q
  rw[Gaq] at q
  cases e
  refine⟨H₀,Bad,env,rs,E,hr,λvs H1 s1 Rs=> ?_⟩
  have rep:=k7 E Rs q.1
  refine⟨by rw[←rep.1,Gar,←size_eq];exact GaN q.2,λp n=> ?_⟩
  exact k _ _ (s1.trans (aY n)) (me n rep)
 ·cases e
theorem k8{es:List Expr}{r:DA}(ha:PAd X es r):PEd X (.List es pos) (rM r):=by
 refine(D7 ha).aC ?_
 rintro σ H Q ⟨H₀,Bad,env,rv,E,e,k⟩
 obtain⟨rs,hr,e⟩:=bind_some e
 split at e
 ·rename_i q
  rw[Gaq] at q
  cases e
  refine⟨H₀,Bad,env,rs,E,hr,λvs H1 s1 Rs=> ?_⟩
  have rep:=k7 E Rs q.1
  refine⟨by rw[←rep.1,Gar,←size_eq];exact GaN q.2,λp n=> ?_⟩
  exact k _ _ (s1.trans (aY n)) ⟨p,rfl,s1.free n,jX,rfl,cy n rep⟩
 ·cases e
noncomputable def spD(K:aa)(np:Nat)(sp:List D→Option D):Sp:=λvs H Q _=>∃ds d,ds.length=np∧aq K (λ_=>True) H ds vs∧sp ds=some d∧∀v H',b8 H H' →nW K H H' d v→Q v H'
theorem nZ{K:aa}{H₀ H H' :Hp}{Bad:Addr→Prop}{env:Env}{σ:St}:∀{rs:List RV} {vs:List V},Paired (fB K H₀ Bad env σ H H') rs vs→aq K (λ_=>True) H' (rs.map (·.d)) vs
 |_,_,.nil=>aq.nil
 |r::rs,v::vs,.cons h t=>aq.cons h.inn.any (nZ t)
theorem aw{CX:CXT}{k:Nat}{fa:Addr}{fd:FuncData}{ps:List Str}{np:Nat}{sp:List D→Option D}{x:Str}{p:Pos}{es:List Expr}{r:DA}{E:XK}(F:df X.prog X.w X.K X.mg X.base CX k fa fd ps (spD X.K np sp))(hr:du k X.A)(hg:Gl X x)
  (hm:X.mg x=some (.ref fa))(hk:PySem.W.keepIn X.K (.ref fa)=true)(hb:Binds X.K fd ps [])(hx:Passes CX X E)(ha:PAd X (e::es) r)(hl:∀env rs,r env=some rs→rs.length=np)
  (hdb:(x==("__debug__":Str))=false:=by decide)(he:starEach (e::es) X.env=(false,eval e X.env)::starEach es X.env:=by rfl)(hpl:(backTo pos (starEach es X.env)).any (·.1)=false:=by rfl):
  PEd X (.Call (.Name x p) (e::es) [] pos) (aM sp r):=by
 refine(B9 (dvs:=[]) F hr hg hm hk hb .nil hx ha hdb he hpl).aC ?_
 rintro σ H Q ⟨H₀,Bad,env,rv,E,e,k⟩
 obtain⟨rs,hrs,e⟩:=bind_some e
 obtain⟨d,hd,rfl⟩:=Gaj.mp e
 refine⟨H₀,Bad,env,rs,E,hrs,λvs H1 s1 Rs=> ⟨rs.map (·.d),d,by rw[Gar];exact hl env rs hrs, ?_,hd,λv H2 s2 R2=>k v H2 (s1.trans s2) ((R2.rv (E.mono s1)).from s1)⟩⟩
 rw[Gca]
 exact nZ Rs
noncomputable def CallD(X:Cx)(o:List D→Option RV)(r:List V→Hp→VK→Prop):Prop:=∀(F:Addr→Prop) (H:Hp) (ds:List D) (vs:List V) (rv:RV) (Q:VK),Paired (Inn X.K F H) ds vs→o ds=some rv→(∀v H',b8 H H' →RvN X.K F H H' rv v→Q v H')→r vs H Q
theorem iU{K:aa}{H₀ H H' :Hp}{Bad:Addr→Prop}{env:Env}{σ:St}:∀{rs:List RV} {vs:List V},Paired (fB K H₀ Bad env σ H H') rs vs→Paired (Inn K (Cln Bad env σ) H') (rs.map (·.d)) vs
 |_,_,.nil=> .nil
 |_,_,.cons h t=> .cons h.inn (iU t)
theorem cp{id:String}{o:List D→Option RV}{r:List V→Hp→VK→Prop}{x:Str}{p:Pos}{es:List Expr}{ra:DA}(hc:cW X (.builtin id) r)(hd:CallD X o r)(hg:Gl X x)(hm:X.mg x=none)(hv:bootBuiltins x=some (.builtin id))(ha:PAd X (e::es) ra)
  (hn:x≠"__name__":=by decide)(hdb:(x==("__debug__":Str))=false:=by decide)(he:starEach (e::es) X.env=(false,eval e X.env)::starEach es X.env:=by rfl)(hpl:(backTo pos (starEach es X.env)).any (·.1)=false:=by rfl):
  PEd X (.Call (.Name x p) (e::es) [] pos) (dI o ra):=by
 refine(lW hc hg hm hv ha hn hdb he hpl).aC ?_
 rintro σ H Q ⟨H₀,Bad,env,rv,E,e,k⟩
 obtain⟨rs,hrs,e⟩:=bind_some e
 exact⟨H₀,Bad,env,rs,E,hrs,λvs H1 s1 Rs=>hd _ H1 _ vs rv Q (iU Rs) e λv H2 s2 R2=>k v H2 (s1.trans s2) (R2.ok s1)⟩
theorem mh{T:String}{o:List D→Option RV}{r:List V→Hp→VK→Prop}{x:Str}{p:Pos}{es:List Expr}{ra:DA}(hc:cW X (.type T) r)(hd:CallD X o r)(hg:Gl X x)(hm:X.mg x=none)(hv:bootBuiltins x=some (.type T))(ha:PAd X (e::es) ra)
  (hn:x≠"__name__":=by decide)(hdb:(x==("__debug__":Str))=false:=by decide)(he:starEach (e::es) X.env=(false,eval e X.env)::starEach es X.env:=by rfl)(hpl:(backTo pos (starEach es X.env)).any (·.1)=false:=by rfl):
  PEd X (.Call (.Name x p) (e::es) [] pos) (dI o ra):=by
 refine(jR hc hg hm hv ha hn hdb he hpl).aC ?_
 rintro σ H Q ⟨H₀,Bad,env,rv,E,e,k⟩
 obtain⟨rs,hrs,e⟩:=bind_some e
 exact⟨H₀,Bad,env,rs,E,hrs,λvs H1 s1 Rs=>hd _ H1 _ vs rv Q (iU Rs) e λv H2 s2 R2=>k v H2 (s1.trans s2) (R2.ok s1)⟩
theorem d6{R:D→V→Prop}{d:D}{vs:List V}(h:Paired R [d] vs):∃v,vs=[v]∧R d v:=by
 cases h with
 |cons h t=>cases t;exact⟨_,rfl,h⟩
theorem br:cW X (.builtin "len") (λxs H Q=>∃a kvs,xs=[.ref a]∧Rd H a (.dK kvs)∧Q (.int kvs.length) H):=by
 intro pins s σ H xs us Q I r h
 obtain⟨a,kvs,rfl,e,q⟩:=h
 obtain⟨u,rfl,rx⟩:=vals1 r
 cases rx
 exact Fo I e λt s' I' => ⟨.int kvs.length,H,I',⟨t,rfl⟩,q⟩
theorem bw:CallD X cM (λxs H Q=>(∃x n,xs=[x]∧Fe X.K x H n∧Q (.int n) H)∨(∃a kvs,xs=[.ref a]∧Rd H a (.dK kvs)∧Q (.int kvs.length) H)):=by
 intro F H ds vs rv Q ps e k
 unfold cM at e
 split at e
 ·cases e
  obtain⟨v,rfl,i⟩:=d6 ps
  cases i with
  |lst h r=>exact .inl ⟨_,_,rfl,.inl ⟨_,.inl h,r.1⟩,k _ H bJ (.int _)⟩
 ·cases e
  obtain⟨v,rfl,i⟩:=d6 ps
  cases i with
  |tup h r=>exact .inl ⟨_,_,rfl,.inr ⟨_,SqT.of h,r.1⟩,k _ H bJ (.int _)⟩
 ·split at e
  ·rename_i q
   cases e
   obtain⟨v,rfl,i⟩:=d6 ps
   cases i
   exact .inl ⟨_,_,rfl,⟨by rw[←size_eq];exact q,rfl⟩,k _ H bJ (.int _)⟩
  ·cases e
 ·cases e
  obtain⟨v,rfl,i⟩:=d6 ps
  cases i with
  |dK h r=>
   have hl:=congrArg List.length r.1
   rw[Gar,Gar] at hl
   exact .inr ⟨_,_,rfl,.inl h,by rw[←hl];exact k _ H bJ (.int _)⟩
 ·cases e
  obtain⟨v,rfl,i⟩:=d6 ps
  cases i with
  |scr h=>exact .inl ⟨_,_,rfl,.inl ⟨_,h.sq,by simp⟩,k _ H bJ (.int _)⟩
 ·cases e
theorem iV:CallD X listS (λxs H Q=>∃p ys,xs=[.ref p]∧(SqL X.K H p ys∨SqT X.K H p ys)∧∀l,H l=none→Q (.ref l) (upd H l (.lst ys))):=by
 intro F H ds vs rv Q ps e k
 unfold listS at e
 split at e
 ·cases e
  obtain⟨v,rfl,i⟩:=d6 ps
  cases i with
  |lst h r=>
   refine⟨_,_,rfl,.inl (.inl h),λl n=> ?_⟩
   exact k _ _ (aY n) ⟨l,rfl,n,jX,rfl,cy n r⟩
 ·cases e
  obtain⟨v,rfl,i⟩:=d6 ps
  cases i with
  |tup h r=>
   refine⟨_,_,rfl,.inr (SqT.of h),λl n=> ?_⟩
   exact k _ _ (aY n) ⟨l,rfl,n,jX,rfl,cy n r⟩
 ·cases e
end
open PySem PySem.Spec PyProof.Rows L2
section
variable{K:aa}{H₀ H H' :Hp}{Bad:Addr→Prop}{env env' :Env}{σ σ' :St}{d:D}{v:V}{a:Addr}{i:Nat}
theorem get_set{α:Type}{l:List α}{i j:Nat}{x y:α}(e:(l.set i x)[j]? =some y):(i=j∧y=x)∨(i≠j∧l[j]? =some y):=by
 by_cases h:i=j
 ·subst h
  have hi:i<l.length:=by have:=(Gaf.mp e).1;simpa using this
  rw[Gbj hi] at e
  cases e
  exact .inl ⟨rfl,rfl⟩
 ·rw[Gah h] at e
  exact .inr ⟨h,e⟩
theorem set_same{α:Type}{l:List α}{i:Nat}{x:α}(e:l[i]? =some x):l.set i x=l:=by
 apply Gdh
 intro j
 by_cases h:i=j
 ·subst h
  rw[Gbj (Gaf.mp e).1,e]
 ·rw[Gah h]
theorem bO{α:Type}{l:List α}{i:Nat}{x:α}(h:i<l.length):(l.set i x)[i]? =some x:=Gbj h
theorem d0{j:Nat}(h:b5 (env.set i (some (.sh d)))[j]?):i≠j∧b5 env[j]? :=by
 by_cases q:i=j
 ·subst q
  by_cases z:i<env.length
  ·rw[bO z] at h;exact h.elim
  ·rw[GaV (by simpa using Nat.le_of_not_lt z)] at h;exact h.elim
 ·rw[Gah q] at h
  exact⟨q,h⟩
theorem aj.mi(E:aj K H₀ Bad env σ H)(r:Rep K (Cln Bad env σ) H d v):aj K H₀ Bad (env.set i (some (.sh d))) (σ.set i (some v)) H:=by
 have cln:∀b,Cln Bad env σ b→Cln Bad (env.set i (some (.sh d))) (σ.set i (some v)) b:=λb ⟨h1,h2⟩=> ⟨h1,λj t e=>by
  obtain⟨q,t⟩:=d0 t
  rw[Gah q] at e
  exact h2 j t e⟩
 refine⟨E.same,by simp[E.len],E.bad,λj dj e=> ?_,λj dj e=> ?_,λj dj e=> ?_,λj k b t1 t2 e1 e2=> ?_⟩
 ·rcases get_set e with⟨q,e⟩| ⟨q,e⟩
  ·cases e
   subst q
   have hi:i<env.length:=by have:=(Gaf.mp e);simpa using this.1
   exact⟨v,bO (by rw[←E.len];exact hi),r.imp cln⟩
  ·obtain⟨w,h1,h2⟩:=E.sh j dj e
   exact⟨w,by rw[Gah q];exact h1,h2.imp cln⟩
 ·have e' :i≠j∧(env[j]? =some (some (.own dj))∨env[j]? =some (some (.lok dj))):=by
   rcases e with e|e
   ·rcases get_set e with⟨q,e⟩| ⟨q,e⟩
    ·cases e
    ·exact⟨q,.inl e⟩
   ·rcases get_set e with⟨q,e⟩| ⟨q,e⟩
    ·cases e
    ·exact⟨q,.inr e⟩
  obtain⟨b,h1,h2,h3,h4,h5,h6⟩:=E.ow j dj e'.2
  exact⟨b,by rw[Gah e'.1];exact h1,h2,h3,h4,h5,h6.imp cln⟩
 ·rcases get_set e with⟨q,e⟩| ⟨q,e⟩
  ·cases e
  ·obtain⟨b,h1,hw,h2,h3⟩:=E.bo j dj e
   exact⟨b,by rw[Gah q];exact h1,hw,h2,h3.imp cln⟩
 ·obtain⟨q1,t1'⟩:=d0 t1.top
  obtain⟨q2,t2⟩:=d0 t2
  rw[Gah q1] at e1 t1
  rw[Gah q2] at e2
  exact E.dj j k b t1 t2 e1 e2
theorem Stp.mi:Stp env σ H (env.set i (some (.sh d))) (σ.set i (some v)) H:=⟨λ_ _ e _=>e,λb ⟨j,h,e⟩=>by
 have h' :b5 (env.set i (some (.sh d)))[j]? :=h.ol.top
 obtain⟨q,_⟩:=d0 h'
 rw[Gah q] at h e
 exact .inl ⟨j,h,e⟩,λj h=>by
 obtain⟨q,_⟩:=d0 h.top
 rw[Gah q,Gah q]
 exact⟨rfl,rfl⟩⟩
theorem fg{j:Nat}(h:b5 (env.set i (some (.own d)))[j]?)(hi:i<env.length):i=j∨(i≠j∧b5 env[j]?):=by
 by_cases q:i=j
 ·exact .inl q
 ·rw[Gah q] at h
  exact .inr ⟨q,h⟩
theorem aj.wA(E:aj K H₀ Bad env σ H)(hi:i<env.length)(n0:H₀ a=none)(nb:¬Bad a)(w:Wr H' a)(t:d.top=true)(s:b8 H₀ H')(bd:∀b,Bad b→H' b≠none)
  (ne:∀j b,j≠i→b5 env[j]? →σ[j]? =some (some (.ref b))→b≠a∧H' b=H b)
  (inn:Inn K (Cln Bad (env.set i (some (.own d))) (σ.set i (some (.ref a)))) H' d (.ref a))
  (cln:∀b,Cln Bad env σ b→H b≠none→Cln Bad (env.set i (some (.own d))) (σ.set i (some (.ref a))) b)
  (gJ:gO (Cln Bad env σ) H H'):
  aj K H₀ Bad (env.set i (some (.own d))) (σ.set i (some (.ref a))) H' :=by
 have keep:∀{j:Nat} {b:Addr} {dj:D},j≠i→b5 env[j]? →σ[j]? =some (some (.ref b))→Inn K (Cln Bad env σ) H dj (.ref b)→Inn K (Cln Bad (env.set i (some (.own d))) (σ.set i (some (.ref a)))) H' dj (.ref b):=λ{j b dj} hj tj ej h=>
  h.gen gJ cln λb' eb _ o e=>by cases eb;rw[(ne j b hj tj ej).2];exact e
 refine⟨s,by simp[E.len],bd,λj dj e=> ?_,λj dj e=> ?_,λj dj e=> ?_,λj k b t1 t2 e1 e2=> ?_⟩
 ·rcases get_set e with⟨q,e⟩| ⟨q,e⟩
  ·cases e
  ·obtain⟨u,h1,h2⟩:=E.sh j dj e
   exact⟨u,by rw[Gah q];exact h1,h2.gen gJ cln⟩
 ·have e' :(i=j∧dj=d)∨(i≠j∧(env[j]? =some (some (.own dj))∨env[j]? =some (some (.lok dj)))):=by
   rcases e with e|e
   ·rcases get_set e with⟨q,e⟩| ⟨q,e⟩
    ·cases e;exact .inl ⟨q,rfl⟩
    ·exact .inr ⟨q,.inl e⟩
   ·rcases get_set e with⟨q,e⟩| ⟨q,e⟩
    ·cases e
    ·exact .inr ⟨q,.inr e⟩
  rcases e' with⟨q,rfl⟩| ⟨q,e'⟩
  ·subst q
   exact⟨a,bO (by rw[←E.len];exact hi),n0,nb,w,t,inn⟩
  ·obtain⟨b,h1,h2,h3,h4,h5,h6⟩:=E.ow j dj e'
   have tj:b5 env[j]? :=by rcases e' with e' |e' <;>rw[e']<;>trivial
   refine⟨b,by rw[Gah q];exact h1,h2,h3, ?_,h5,keep (Gba q) tj h1 h6⟩
   unfold Wr
   rw[(ne j b (Gba q) tj h1).2]
   exact h4
 ·rcases get_set e with⟨q,e⟩| ⟨q,e⟩
  ·cases e
  ·obtain⟨b,h1,hw,h2,h3⟩:=E.bo j dj e
   have tj:b5 env[j]? :=by rw[e];trivial
   refine⟨b,by rw[Gah q];exact h1, ?_,h2,keep (Gba q) tj h1 h3⟩
   unfold Wr
   rw[(ne j b (Gba q) tj h1).2]
   exact hw
 ·rcases fg t1.top hi with q1| ⟨q1,t1'⟩
  ·rcases fg t2 hi with q2| ⟨q2,t2'⟩
   ·rw[←q1,←q2]
   ·subst q1
    rw[bO (by rw[←E.len];exact hi)] at e1
    cases e1
    rw[Gah q2] at e2
    exact absurd rfl (ne k a (Gba q2) t2' e2).1
  ·rcases fg t2 hi with q2| ⟨q2,t2'⟩
   ·subst q2
    rw[bO (by rw[←E.len];exact hi)] at e2
    cases e2
    rw[Gah q1] at e1
    exact absurd rfl (ne j a (Gba q1) t1' e1).1
   ·rw[Gah q1] at e1 t1
    rw[Gah q2] at e2
    exact E.dj j k b t1 t2' e1 e2
theorem qi(hi:i<env.length)(hs:env.length=σ.length){b:Addr}(h:Cln Bad env σ b)(hb:b≠a):Cln Bad (env.set i (some (.own d))) (σ.set i (some (.ref a))) b:=⟨h.1,λj t e=>by
 rcases fg t hi with q| ⟨q,t⟩
 ·subst q
  rw[bO (by rw[←hs];exact hi)] at e
  cases e
  exact hb rfl
 ·rw[Gah q] at e
  exact h.2 j t e⟩
theorem aj.mj(E:aj K H₀ Bad env σ H)(s:b8 H H')(hi:i<env.length)(n:H a=none)(w:Wr H' a)(t:d.top=true)(hin:Inn K (λb=>Cln Bad env σ b∧b≠a) H' d (.ref a)):
  aj K H₀ Bad (env.set i (some (.own d))) (σ.set i (some (.ref a))) H' :=by
 have cln:∀b,Cln Bad env σ b→b≠a→Cln Bad (env.set i (some (.own d))) (σ.set i (some (.ref a))) b:=λb h hb=>qi hi E.len h hb
 have cln' :∀b,Cln Bad env σ b→H b≠none→Cln Bad (env.set i (some (.own d))) (σ.set i (some (.ref a))) b:=λb h hb=>cln b h λz=>hb (z▸n)
 refine E.wA (H' :=H') hi (E.same.free n) (λb=>E.bad a b n) w t (E.same.trans s) (λb h e=>E.bad b h (s.free e)) (λj b hj tj ej=> ?_) (hin.imp λb h=>cln b h.1 h.2) cln' (.of_same s)
 have hb:=E.jj tj ej
 refine⟨λz=>hb (z▸n), ?_⟩
 cases q:H b with
 |none=>exact absurd q hb
 |some o=>exact s b o q
theorem Stp.mj(s:b8 H H')(hi:i<env.length)(hs:env.length=σ.length)(n:H a=none):Stp env σ H (env.set i (some (.own d))) (σ.set i (some (.ref a))) H' :=⟨λb o e _=>s b o e,λb ⟨j,h,e⟩=>by
 by_cases q:i=j
 ·subst q
  rw[bO (by rw[←hs];exact hi)] at e
  cases e
  exact .inr n
 ·rw[Gah q] at h e
  exact .inl ⟨j,h,e⟩,λj h=>by
 by_cases q:i=j
 ·subst q
  rw[bO hi] at h;exact h.elim
 ·rw[Gah q,Gah q]
  exact⟨rfl,rfl⟩⟩
theorem aj.change{d' :D}{o:HO}(E:aj K H₀ Bad env σ H)(e:env[i]? =some (some (.own d)))(ea:σ[i]? =some (some (.ref a)))(wo:isW o)(t:d'.top=true)
  (inn:Inn K (Cln Bad env σ) (upd H a o) d' (.ref a)):aj K H₀ Bad (env.set i (some (.own d'))) σ (upd H a o)∧Stp env σ H (env.set i (some (.own d'))) σ (upd H a o):=by
 have hi:i<env.length:=(Gaf.mp e).1
 obtain⟨a',h1,h2,h3,h4,h5,h6⟩:=E.ow i d (.inl e)
 rw[ea] at h1;cases h1
 have hσ:σ.set i (some (.ref a))=σ:=set_same ea
 have tops:∀j,b5 (env.set i (some (.own d')))[j]? ↔b5 env[j]? :=λj=>by
  by_cases q:i=j
  ·subst q;rw[bO hi,e];exact⟨λ_=>trivial,λ_=>trivial⟩
  ·rw[Gah q]
 have clnE:∀b,Cln Bad env σ b→Cln Bad (env.set i (some (.own d'))) σ b:=λb h=> ⟨h.1,λj tj ej=>h.2 j ((tops j).mp tj) ej⟩
 have ca:∀b,Cln Bad env σ b→b≠a:=λb h z=>by subst z;exact h.2 i (by rw[e];trivial) ea
 have gJ:gO (Cln Bad env σ) H (upd H a o):=λb x hb q=>by
  have:b≠a:=by
   rintro rfl
   rcases q with q|q
   ·exact ca b q rfl
   ·obtain⟨y,hy,wy⟩:=h4
    rw[hb] at hy;cases hy
    cases x<;>simp[isT] at q<;>exact wy
  rw[az this];exact hb
 have keepA:∀b x,H b=some x→b≠a→(upd H a o) b=some x:=λb x hb hn=>by rw[az hn];exact hb
 refine⟨?_,⟨λb x hb n=>keepA b x hb λz=>n ⟨i,by rw[e];trivial,by rw[z];exact ea⟩,λb ⟨j,h,ej⟩=> .inl ?_,λj h=> ?_⟩⟩
 ·have:=E.wA (H' :=upd H a o) (a:=a) (d:=d') hi h2 h3 ⟨o,au,wo⟩ t (λb x hb=>keepA b x (E.same b x hb) λz=>by rw[z,h2] at hb;cases hb)
   (λb hb z=>by
    by_cases q:b=a
    ·subst q;rw[au] at z;cases z
    ·rw[az q] at z;exact E.bad b hb z)
   (λj b hj tj ej=>by
    have:b≠a:=by rintro rfl;exact hj (E.dj i j b (by rw[e];trivial) tj ea ej).symm
    exact⟨this,by rw[az this]⟩)
   (by rw[hσ];exact inn.imp clnE) (λb h _=>by rw[hσ];exact clnE b h) gJ
  rw[hσ] at this
  exact this
 ·by_cases q:i=j
  ·subst q;exact⟨i,by rw[e];trivial,ej⟩
  ·rw[Gah q] at h;exact⟨j,h,ej⟩
 ·by_cases q:i=j
  ·subst q;rw[bO hi] at h;exact h.elim
  ·rw[Gah q];exact⟨rfl,rfl⟩
end
open PySem PySem.Spec PyProof.Rows L2
section
variable{X:Cx}{e a b c:Expr}{f g h:DE}{t u:DT}{pos:Pos}{st:Stmt}{rest:List Stmt}{s1 s2:DS}
theorem bV:gP X [] cD:=by
 refine B1.aC ?_
 rintro D σ H ⟨H₀,Bad,env,o,E,e,k⟩
 cases e
 exact k σ H E .refl
theorem ak(h1:PSd X st s1)(h2:gP X rest s2):gP X (st::rest) (bc s1 s2):=by
 refine(vS h1 h2).aC ?_
 rintro D σ H ⟨H₀,Bad,env,o,E,e,k⟩
 obtain⟨o1,h1,e⟩:=bind_some e
 refine⟨H₀,Bad,env,o1,E,h1, ?_⟩
 cases o1 with
 |nx e1=>
  intro σ1 H1 E1 p1
  refine⟨H₀,Bad,e1,o,E1,e, ?_⟩
  cases o with
  |nx e2=>exactλσ2 H2 E2 p2=>k σ2 H2 E2 (p1.trans p2)
  |bk e2=>exactλσ2 H2 E2 p2=>k σ2 H2 E2 (p1.trans p2)
  |ct e2=>exactλσ2 H2 E2 p2=>k σ2 H2 E2 (p1.trans p2)
  |ret d=>exact k
 |bk e1=>cases e;exact k
 |ct e1=>cases e;exact k
 |ret d=>cases e;exact k
theorem aR(h1:PSd X st s1):gP X [st] s1:=B2 h1
theorem wB:PSd X st oV:=λ_ _ _ _ _ _ ⟨_,_,_,_,_,e,_⟩=>by cases e
theorem Bx{K:aa}{F:Addr→Prop}{H₀ H' :Hp}{d:D}{v:V}(i:Inn K F H' d v)(hd:d.imm=true):nW K H₀ H' d v:=by
 refine⟨λt=> ?_,(i.imm hd).inn⟩
 cases d<;>simp[D.top] at t<;>simp[D.imm] at hd
theorem G1{κ:Type}{K:aa}{F F' :Addr→Prop}{H:Hp}{kvs:List (κ×D)}{ws:List (κ×V)}(r:aB K F H kvs ws)(h:bN (kvs.map (·.2))=true):aB K F' H kvs ws:=
 ⟨r.1,λi p q e1 e2=>(r.2 i p q e1 e2).imm (lE h i p.2 (by rw[Gax,e1];rfl))⟩
theorem tF{K:aa}{F:Addr→Prop}{H₀ H' :Hp}{d:D}{a:Addr}(i:Inn K F H' d (.ref a))(hd:d.gM=true)(n:H₀ a=none)(w:Wr H' a):nW K H₀ H' d (.ref a):=by
 refine⟨λ_=> ⟨a,rfl,n,w⟩, ?_⟩
 cases i with
 |tup h r=>exact(Inn.imm (.tup h r) (by exact hd)).inn
 |scr h=>exact .scr h
 |lst h r=>exact .lst h (r.imm hd)
 |dK h r=>exact .dK h (G1 r hd)
 |dT h r=>exact .dT h (G1 r hd)
theorem bK(he:PEd X e f):PSd X (.Return (some e) pos) (retS f):=by
 refine(CT he).aC ?_
 rintro D σ H ⟨H₀,Bad,env,o,E,e,k⟩
 obtain⟨r,hr,e⟩:=bind_some e
 split at e
 ·rename_i ok
  cases e
  refine⟨H₀,Bad,env,r,E,hr,λv H1 s1 R=>k v H1 (E.same.trans s1) ?_⟩
  obtain⟨kd,d⟩:=r
  cases kd with
  |c=>exact Bx R.inn ok
  |tn=>
   have ii:=R.inn
   obtain⟨a,rfl,n,w,t,i⟩:=R
   exact tF ii ok (E.same.free n) w
  |to=>
   have ii:=R.inn
   obtain⟨a,rfl,n,w,t,i⟩:=R
   exact tF ii ok n w
  |tb=>exact absurd (show false=true from ok) Gay
 ·cases e
theorem cX{xs ys:List Stmt}(hc:PTd X c t)(ha:gP X xs s1)(hb:gP X ys s2):PSd X (.If c xs ys pos) (ifS t s1 s2):=by
 refine(F4 hc ha hb).aC ?_
 rintro D σ H ⟨H₀,Bad,env,o,E,e,k⟩
 obtain⟨x,hx,e⟩:=bind_some e
 refine⟨H₀,Bad,env,x,E,hx,λH1 s1=> ?_⟩
 have st:Stp env σ H env σ H1:= .of_same s1
 have fin:∀{s:DS},s env=some o→tS X s D σ H1:=λ{s} e=> ⟨H₀,Bad,env,o,E.mono s1,e,by
  cases o with
  |nx e2=>exactλσ2 H2 E2 p2=>k σ2 H2 E2 (st.trans p2)
  |bk e2=>exactλσ2 H2 E2 p2=>k σ2 H2 E2 (st.trans p2)
  |ct e2=>exactλσ2 H2 E2 p2=>k σ2 H2 E2 (st.trans p2)
  |ret d=>exact k⟩
 dsimp only
 cases x with
 |true=>rw[Gag rfl];rw[Gag rfl] at e;exact fin e
 |false=>rw[Gae Gay];rw[Gae Gay] at e;exact fin e
theorem wC{X:Cx}{Bad:Addr→Prop}{env:Env}{σ:St}{H:Hp}{i:Nat}{x:Str}(E:aj X.K H₀ Bad env σ H)(hl:σ.length=X.N.length)(hi:X.N[i]? =some x):i<env.length:=by
 rw[E.len,hl];exact(Gaf.mp hi).1
theorem bI{i:Nat}{x:Str}{pos' :Pos}(hN:X.N.Nodup)(hi:X.N[i]? =some x)(hx:Loc X.env.scope x)(he:PEd X e f)(hs:swapsWith e (some (.Name x pos')) pos.line X.env=pure false:=by rfl)
  (hf:X.fn x=true∨X.env.scope.names.lookup x=some .local:=by first|exact .inl rfl|exact .inr rfl|assumption):PSd X (.Assign [.Name x pos'] e pos) (cN i f):=by
 intro pins s σ H D I hw
 have hl:=I.len
 refine(CU hN hi hx he hs hf) pins s σ H D I ?_
 obtain⟨H₀,Bad,env,o,E,e,k⟩:=hw
 obtain⟨r,hr,e⟩:=bind_some e
 obtain⟨e',hst,rfl⟩:=Gaj.mp e
 have hie:i<env.length:=wC E hl hi
 refine⟨H₀,Bad,env,r,E,hr,λv H1 s1 R=> ?_⟩
 have st:Stp env σ H env σ H1:= .of_same s1
 obtain⟨kd,d⟩:=r
 unfold stored at hst
 cases kd with
 |c=>
  cases hst
  exact k _ H1 ((E.mono s1).mi R) (st.trans .mi)
 |tn=>
  cases hst
  obtain⟨a,rfl,n,w,t,i⟩:=R
  exact k _ H1 (E.mj s1 hie n w t i) (.mj s1 hie E.len n)
 |to=>cases hst
 |tb=>cases hst
noncomputable def wD(K:aa)(F N:Addr→Prop)(J:It)(ds:List D)(H1:Hp):Prop:=
 ∀Hi:Hp,(∀b o,H1 b=some o→N b→Hi b=some o)→(∀(i:Nat) d,ds[i]? =some d→J.go i Hi∧∀x H2,J.yld i Hi x H2→b8 Hi H2∧Rep K F H2 d x)∧J.stop ds.length Hi
noncomputable def tI(X:Cx)(src:DI):TI:=λσ H R=>∃H₀ Bad env ds,aj X.K H₀ Bad env σ H∧src env=some ds∧∀J H',b8 H H' →wD X.K (λb=>Cln Bad env σ b∧H' b≠none) (λb=>¬Ow env σ b) J ds H' →R J H'
noncomputable abbrev PId (X:Cx) (tg iter:Expr) (src:DI):Prop:=PI X tg iter (tI X src)
theorem _root_.L2.PI.aC{tg iter:Expr}{w w' :TI}(h:PI X tg iter w')(i:∀σ H R,w σ H R→w' σ H R):PI X tg iter w:=λpins s σ H R I q=>h pins s σ H R I (i σ H R q)
theorem aj.lock{K:aa}{H₀:Hp}{Bad:Addr→Prop}{env:Env}{σ:St}{H:Hp}(E:aj K H₀ Bad env σ H)(l:Option Nat):aj K H₀ Bad (aN l env) σ H∧(∀b,Ow (aN l env) σ b→Ow env σ b)∧∀i:Nat,b5 (aN l env)[i]? ↔b5 env[i]? :=by
 cases l with
 |none=>exact⟨E,λ_ h=>h,λ_=>Iff.rfl⟩
 |some j=>
  unfold aN
  dsimp only
  split
  ·rename_i d q
   have hj:j<env.length:=(Gaf.mp q).1
   have tops:∀i,b5 (env.set j (some (.lok d)))[i]? ↔b5 env[i]? :=λi=>by
    by_cases z:j=i
    ·subst z;rw[bO hj,q];exact⟨λ_=>trivial,λ_=>trivial⟩
    ·rw[Gah z]
   have cln:∀b,Cln Bad env σ b→Cln Bad (env.set j (some (.lok d))) σ b:=λb h=> ⟨h.1,λi t e=>h.2 i ((tops i).mp t) e⟩
   refine⟨⟨E.same,by simpa using E.len,E.bad,λi di e=> ?_,λi di e=> ?_,λi di e=> ?_,λi k b t1 t2 e1 e2=> ?_⟩,λb ⟨i,h,e⟩=> ?_,tops⟩
   ·rcases get_set e with⟨z,e⟩| ⟨z,e⟩
    ·cases e
    ·obtain⟨v,h1,h2⟩:=E.sh i di e;exact⟨v,h1,h2.imp cln⟩
   ·have e' :env[i]? =some (some (.own di))∨env[i]? =some (some (.lok di)):=by
     rcases e with e|e
     ·rcases get_set e with⟨z,e⟩| ⟨z,e⟩
      ·cases e
      ·exact .inl e
     ·rcases get_set e with⟨z,e⟩| ⟨z,e⟩
      ·cases e;subst z;exact .inl q
      ·exact .inr e
    obtain⟨b,h1,h2,h3,h4,h5,h6⟩:=E.ow i di e'
    exact⟨b,h1,h2,h3,h4,h5,h6.imp cln⟩
   ·rcases get_set e with⟨z,e⟩| ⟨z,e⟩
    ·cases e
    ·obtain⟨b,h1,hw,h2,h3⟩:=E.bo i di e;exact⟨b,h1,hw,h2,h3.imp cln⟩
   ·have t1' :uQ env[i]? :=by
     by_cases z:j=i
     ·subst z;rw[q];trivial
     ·rw[Gah z] at t1;exact t1
    exact E.dj i k b t1' ((tops k).mp t2) e1 e2
   ·by_cases z:j=i
    ·subst z;rw[bO hj] at h;exact h.elim
    ·rw[Gah z] at h;exact⟨i,h,e⟩
  ·exact⟨E,λ_ h=>h,λ_=>Iff.rfl⟩
theorem aj.free{K:aa}{H₀:Hp}{Bad:Addr→Prop}{env:Env}{σ:St}{H:Hp}(E:aj K H₀ Bad env σ H)(l:Option Nat):aj K H₀ Bad (dJ l env) σ H:=by
 cases l with
 |none=>exact E
 |some j=>
  unfold dJ
  dsimp only
  split
  ·rename_i d q
   have hj:j<env.length:=(Gaf.mp q).1
   have tops:∀i,b5 (env.set j (some (.own d)))[i]? ↔b5 env[i]? :=λi=>by
    by_cases z:j=i
    ·subst z;rw[bO hj,q];exact⟨λ_=>trivial,λ_=>trivial⟩
    ·rw[Gah z]
   have cln:∀b,Cln Bad env σ b→Cln Bad (env.set j (some (.own d))) σ b:=λb h=> ⟨h.1,λi t e=>h.2 i ((tops i).mp t) e⟩
   refine⟨E.same,by simpa using E.len,E.bad,λi di e=> ?_,λi di e=> ?_,λi di e=> ?_,λi k b t1 t2 e1 e2=> ?_⟩
   ·rcases get_set e with⟨z,e⟩| ⟨z,e⟩
    ·cases e
    ·obtain⟨v,h1,h2⟩:=E.sh i di e;exact⟨v,h1,h2.imp cln⟩
   ·have e' :env[i]? =some (some (.own di))∨env[i]? =some (some (.lok di)):=by
     rcases e with e|e
     ·rcases get_set e with⟨z,e⟩| ⟨z,e⟩
      ·cases e;subst z;exact .inr q
      ·exact .inl e
     ·rcases get_set e with⟨z,e⟩| ⟨z,e⟩
      ·cases e
      ·exact .inr e
    obtain⟨b,h1,h2,h3,h4,h5,h6⟩:=E.ow i di e'
    exact⟨b,h1,h2,h3,h4,h5,h6.imp cln⟩
   ·rcases get_set e with⟨z,e⟩| ⟨z,e⟩
    ·cases e
    ·obtain⟨b,h1,hw,h2,h3⟩:=E.bo i di e;exact⟨b,h1,hw,h2,h3.imp cln⟩
   ·have t1' :uQ env[i]? :=by
     by_cases z:j=i
     ·subst z;rw[q];trivial
     ·rw[Gah z] at t1;exact t1
    exact E.dj i k b t1' ((tops k).mp t2) e1 e2
  ·exact E
end
open PySem PySem.Spec PyProof.Rows L2
section
variable{X:Cx}{e a b c:Expr}{f g h:DE}{t u:DT}{pos:Pos}{st:Stmt}{rest:List Stmt}{s1 s2:DS}
theorem qj{env:Env}{l:Option Nat}{i:Nat}(h:∀j,l=some j→j≠i):(aN l env)[i]? =env[i]? :=by
 unfold aN
 split
 ·rfl
 ·rename_i j
  split
  ·rw[Gah (h j rfl)]
  ·rfl
theorem Stp.loop{env envN:Env}{σ σN:St}{H HN:Hp}{l:Option Nat}(p:Stp (aN l env) σ H envN σN HN)(lo:∀b,Ow (aN l env) σ b→Ow env σ b):Stp env σ H (if lZ l env then dJ l envN else envN) σN HN:=by
 have same:lZ l env=false→aN l env=env:=λh=>by
  unfold lZ at h
  unfold aN
  split at h
  ·rfl
  ·split at h
   ·cases h
   ·rfl
 cases ho:lZ l env with
 |false=>
  rw[Gae Gay]
  rw[same ho] at p
  exact p
 |true=>
  rw[Gag rfl]
  unfold lZ at ho
  split at ho
  ·cases ho
  ·rename_i j
   split at ho
   ·rename_i d q
    have hj:j<env.length:=(Gaf.mp q).1
    have lockj:(aN (some j) env)[j]? =some (some (.lok d)):=by unfold aN;simp only[q];exact bO hj
    have other:∀i,j≠i→(aN (some j) env)[i]? =env[i]? :=λi hi=>qj λk e=>by cases e;exact hi
    refine⟨λb o e n=>p.keep b o e λz=>n (lo b z),λb ⟨i,h,e⟩=> ?_,λi h=> ?_⟩
    ·by_cases z:j=i
     ·subst z
      unfold dJ at h
      dsimp only at h
      split at h
      ·rename_i d' q'
       obtain⟨h1,h2⟩:=p.lk j (by rw[q'];trivial)
       rw[h2] at e
       exact .inl ⟨j,by rw[q];trivial,e⟩
      ·rcases p.ow b ⟨j,h,e⟩ with w|w
       ·exact .inl (lo b w)
       ·exact .inr w
     ·have h' :isO envN[i]? :=by
       unfold dJ at h
       dsimp only at h
       split at h
       ·rw[Gah z] at h;exact h
       ·exact h
      rcases p.ow b ⟨i,h',e⟩ with w|w
      ·exact .inl (lo b w)
      ·exact .inr w
    ·by_cases z:j=i
     ·subst z
      unfold dJ at h⊢
      dsimp only at h⊢
      split at h
      ·rename_i d' q'
       have hj' :j<envN.length:=(Gaf.mp q').1
       rw[bO hj'] at h;exact h.elim
      ·rename_i q'
       obtain⟨h1,_⟩:=p.lk j h
       rw[lockj] at h1
       exact absurd h1 (q' d)
     ·have hN:(dJ (some j) envN)[i]? =envN[i]? :=by
       unfold dJ
       dsimp only
       split
       ·rw[Gah z]
       ·rfl
      rw[hN] at h⊢
      obtain⟨h1,h2⟩:=p.lk i h
      rw[other i z] at h1
      exact⟨h1,h2⟩
   ·cases ho
theorem uS{Bad:Addr→Prop}{env env' :Env}{σ σ' :St}{H H' :Hp}(p:Stp env σ H env' σ' H'){b:Addr}(h:Cln Bad env σ b)(hb:H b≠none):Cln Bad env' σ' b:=⟨h.1,λi t e=>by
 rcases nV t with o|o
 ·rcases p.ow b ⟨i,o,e⟩ with⟨j,w,ej⟩|w
  ·exact h.2 j w.ol.top ej
  ·exact hb w
 ·obtain⟨h1,h2⟩:=p.lk i o
  rw[h1] at t
  rw[h2] at e
  exact h.2 i t e⟩
theorem p8{tg iter:Expr}{body:List Stmt}{l:Option Nat}{src:DI}{gd:DG}{sb:DS}(hp:PassesOwn (model X.prog X.w) X.A X.env X.xe)(hc:X.calm=true)(hi:PId X tg iter src)(hg:PGd X tg gd)(hb:gP X body sb)
  (hs:∀x,foldedSetIterable iter X.env x=pure x:=by intro _;rfl):PSd X (.For tg iter body [] pos) (wc l src gd sb):=by
 refine(CW hp hc hi hg hb hs).aC ?_
 rintro D σ H ⟨H₀,Bad,env,o,E,e,k⟩
 obtain⟨ds,hds,e⟩:=bind_some e
 obtain⟨o1,ho1,rfl⟩:=Gaj.mp e
 obtain⟨EL,lo,_⟩:=E.lock l
 refine⟨H₀,Bad,aN l env,ds,EL,hds,λJ H1 sH it=> ?_⟩
 have E1:=EL.mono sH
 have st1:Stp env σ H env σ H1:= .of_same sH
 have nxOk:∀envN σN HN,o1= .nx envN→aj X.K H₀ Bad envN σN HN→Stp (aN l env) σ H1 envN σN HN→D.nx σN HN:=λenvN σN HN eo EN pN=>by
  subst eo
  refine k σN HN ?_ (st1.trans (pN.loop lo))
  show aj X.K H₀ Bad (if lZ l env then dJ l envN else envN) σN HN
  split
  ·exact EN.free l
  ·exact EN
 refine⟨λi m σ' H' =>m=ds.length -i∧i≤ds.length∧∃envi,aj X.K H₀ Bad envi σ' H' ∧Stp (aN l env) σ H1 envi σ' H' ∧forL gd sb (ds.drop i) envi=some o1,
  ⟨ds.length,by simp,GaJ _,_,E1,.refl,by simpa using ho1⟩, ?_⟩
 rintro i m σ' H' ⟨rfl,hle,envi,Ei,pi,ei⟩
 obtain⟨items,stop⟩:=it H' λb o hb n=>pi.keep b o hb n
 by_cases hlt:i<ds.length
 ·obtain⟨go,yld⟩:=items i ds[i] (by simp[hlt])
  refine .inr ⟨go,λσ2 H2=>(ds.length -(i+1))=ds.length -(i+1)∧i+1≤ds.length∧∃envi,aj X.K H₀ Bad envi σ2 H2∧Stp (aN l env) σ H1 envi σ2 H2∧forL gd sb (ds.drop (i+1)) envi=some o1,λσ2 H2 q=> ⟨_,by omega,q⟩,λx H2 y=> ?_⟩
  obtain⟨s2,rep⟩:=yld x H2 y
  have hd:ds.drop i=ds[i]::ds.drop (i+1):=GbL hlt
  rw[hd] at ei
  unfold forL at ei
  obtain⟨e2,hg2,ei⟩:=bind_some ei
  obtain⟨o2,hb2,ei⟩:=bind_some ei
  refine⟨H₀,Bad,envi,ds[i],e2,Ei.mono s2,hg2,rep.imp λb q=>uS pi q.1 q.2,λσ3 H3 E3 p3=> ?_⟩
  have p3' :Stp (aN l env) σ H1 e2 σ3 H3:=(pi.trans (.of_same s2)).trans p3
  refine⟨H₀,Bad,e2,o2,E3,hb2, ?_⟩
  cases o2 with
  |nx e4=>exactλσ4 H4 E4 p4=> ⟨rfl,hlt,e4,E4,p3'.trans p4,ei⟩
  |ct e4=>exactλσ4 H4 E4 p4=> ⟨rfl,hlt,e4,E4,p3'.trans p4,ei⟩
  |bk e4=>
   cases ei
   exactλσ4 H4 E4 p4=>nxOk e4 σ4 H4 rfl E4 (p3'.trans p4)
  |ret d=>
   cases ei
   exact k
 ·have hi:i=ds.length:=by omega
  subst hi
  rw[GcP] at ei
  cases ei
  exact .inl ⟨stop,nxOk envi σ' H' rfl Ei pi⟩
theorem aj.iW{K:aa}{H₀:Hp}{Bad:Addr→Prop}{env:Env}{σ:St}{H:Hp}(E:aj K H₀ Bad env σ H){b:Addr}{o:HO}(h:Ow env σ b)(hb:H b=some o):¬isT o:=by
 intro q
 obtain⟨i,h1,h2⟩:=h
 obtain⟨y,hy,wy⟩:=E.Cr h1.ol.top h2
 rw[hb] at hy;cases hy
 cases o<;>simp[isT] at q<;>exact wy
theorem aj.o5{K:aa}{H₀:Hp}{Bad:Addr→Prop}{env:Env}{σ:St}{H Hi:Hp}{d:D}{v:V}(E:aj K H₀ Bad env σ H)(keep:∀b o,H b=some o→¬Ow env σ b→Hi b=some o)(r:Rep K (Cln Bad env σ) H d v):
  Rep K (λb=>Cln Bad env σ b∧H b≠none) Hi d v:=
 r.gen (λb o hb q=>keep b o hb (by
  rcases q with q|q
  ·exactλ⟨i,h1,h2⟩=>q.2 i h1.ol.top h2
  ·exactλw=>E.iW w hb q)) λb q hb=> ⟨q,hb⟩
noncomputable def Hr(K:aa)(tl:TE):TI:=λσ H R=>tl σ H λx H1=>∃a,x= .ref a∧(((∃xs,SqL K H1 a xs)∧R (Itl K a) H1)∨((∃xs,SqT K H1 a xs)∧R (Itt K a) H1))
theorem Du{tg l:Expr}{tl:TE}(hl:PE X l tl):PI X tg l (Hr X.K tl):=by
 intro pins s σ H R I h
 refine thn (hl pins s σ H _ I h) λv s1 ⟨x,H1,I1,r1,q1⟩=> ?_
 obtain⟨a,e,q1⟩:=q1
 subst e
 cases r1
 have fp:∀b∈[s1.heap.objs.size],jP X pins H1 b:=λb hb=>by
  have e:b=s1.heap.objs.size:=by simpa using hb
  subst e
  exact I1.CV (Gau _) (I1.hok.fresh (Gau _))
 rcases q1 with⟨⟨xs,hq⟩,q⟩| ⟨⟨xs,hq⟩,q⟩
 ·obtain⟨its,rv,p,hz⟩:=I1.list hq
  refine wpAny_pyIter_list p.isList ?_
  exact⟨s1.heap.objs.size,[s1.heap.objs.size],_,_,H1,rfl,I1.kept (t' :=s1.toks) λb o e=>Gad _ e,uA a _,⟨_,Gan _ rfl,rfl,rfl⟩,fp,q⟩
 ·obtain⟨its,rv,p,hz⟩:=I1.tuple hq
  refine wpAny_pyIter_tuple (show s1.heap.IsTuple a its.toArray from p) ?_
  exact⟨s1.heap.objs.size,[s1.heap.objs.size],_,_,H1,rfl,I1.kept (t' :=s1.toks) λb o e=>Gad _ e,rD a _,⟨_,Gan _ rfl,rfl,rfl⟩,fp,q⟩
theorem By{Bad:Addr→Prop}{env:Env}{σ:St}{H H1:Hp}{kd:Cls}{d:D}{v:V}(E:aj X.K H₀ Bad env σ H)(ht:d.top=true)(hk:kd≠ .to)(Rv:fB X.K H₀ Bad env σ H H1 ⟨kd,d⟩ v):∀a,v= .ref a→¬Ow env σ a:=λa ea=>by
 cases kd with
 |c=>
  have Rv' :Rep X.K (Cln Bad env σ) H1 d v:=Rv
  have fin:∀b,Cln Bad env σ b→¬Ow env σ b:=λb f ⟨i,h1,h2⟩=>f.2 i h1.ol.top h2
  cases Rv' with
  |tup h l r=>simp[D.top] at ht
  |lst f h l r=>cases ea;exact fin _ f
  |dK f h l r=>cases ea;exact fin _ f
  |dT f h l r=>cases ea;exact fin _ f
  |non=>cases ea
  |bl b=>cases ea
  |int i=>cases ea
  |str x=>cases ea
  |scr h=>simp[D.top] at ht
 |tn=>
  obtain⟨a',e',n,_⟩:=Rv
  rw[e'] at ea;cases ea
  exactλ⟨i,h1,h2⟩=>E.jj h1.ol.top h2 n
 |to=>exact absurd rfl hk
 |tb=>exact Rv.2 a ea ht
theorem wF{tg:Expr}(he:PEd X e f):PId X tg e (Dm f):=by
 refine(Du he).aC ?_
 rintro σ H R ⟨H₀,Bad,env,ds,E,hf,k⟩
 obtain⟨⟨kd,d⟩,hr,hf⟩:=bind_some hf
 split at hf
 ·cases hf
 rename_i hk
 refine⟨H₀,Bad,env,_,E,hr,λv H1 s1 Rv=> ?_⟩
 have ii:=Rv.inn
 have E1:=E.mono s1
 split at hf
 ·rename_i xs hd
  cases hf
  have hd' :d= .lst ds:=hd
  subst hd'
  have hno:=By E rfl hk Rv
  cases ii with
  | @lst la lv _ h r=>
   refine⟨_,rfl,.inl ⟨⟨_,.inl h⟩,k _ H1 s1 λHi keep=> ?_⟩⟩
   have hh:Rd Hi la (.lst lv):=by
    rcases h with h| ⟨o,h⟩
    ·exact .inl (keep _ _ h (hno _ rfl))
    ·exact .inr ⟨o,keep _ _ h (hno _ rfl)⟩
   refine⟨λi d hd=> ?_,⟨_,.inl hh,by rw[r.1];exact Gau _⟩⟩
   obtain⟨x,h1,h2⟩:=r.get hd
   refine⟨⟨_,x,.inl hh,h1⟩,λy H2 ⟨e2,e3⟩=> ?_⟩
   subst e2
   refine⟨bJ, ?_⟩
   have:=e3 _ (.inl hh)
   rw[h1] at this;cases this
   exact E1.o5 keep h2
 ·rename_i xs hd
  cases hf
  have hd' :d= .tup ds:=hd
  subst hd'
  cases ii with
  | @tup la lv _ h r=>
   refine⟨_,rfl,.inr ⟨⟨_,SqT.of h⟩,k _ H1 s1 λHi keep=> ?_⟩⟩
   have hh:Hi la=some (.tup lv):=keep _ _ h λw=>E1.iW w h trivial
   refine⟨λi d hd=> ?_,⟨_,SqT.of hh,by rw[r.1];exact Gau _⟩⟩
   obtain⟨x,h1,h2⟩:=r.get hd
   refine⟨⟨_,x,SqT.of hh,h1⟩,λy H2 ⟨e2,e3⟩=> ?_⟩
   subst e2
   refine⟨bJ, ?_⟩
   have:=e3 _ (SqT.of hh)
   rw[h1] at this;cases this
   exact E1.o5 keep h2
 ·rename_i ns hd
  cases hf
  have hd' :d= .scr ns:=hd
  subst hd'
  cases ii with
  | @scr la _ h=>
   refine⟨_,rfl,.inl ⟨⟨_,h.sq⟩,k _ H1 s1 λHi keep=> ?_⟩⟩
   have hh:Scr X.K Hi la ns:=by
    rcases h with⟨o,h⟩|h
    ·exact .inl ⟨o,keep _ _ h λw=>E1.iW w h trivial⟩
    ·exact .inr h
   refine⟨λi d hd=> ?_,⟨_,hh.sq,by simp⟩⟩
   rw[Gax] at hd
   cases q:ns[i]? with
   |none=>rw[q] at hd;cases hd
   |some n=>
    rw[q] at hd;cases hd
    refine⟨⟨_,.int n,hh.sq,by rw[Gax,q];rfl⟩,λy H2 ⟨e2,e3⟩=> ?_⟩
    subst e2
    have:=e3 _ hh.sq
    rw[Gax,q] at this;cases this
    exact⟨bJ,.int n⟩
 ·cases hf
theorem lT{lo:Int}{n:Nat}{F N:Addr→Prop}{H1:Hp}:wD X.K F N (Itr lo n) (aE lo n) H1:=λHi _=>by
 refine⟨λi d hd=> ?_,by show n≤(aE lo n).length;simp[aE]⟩
 have hi:i<n:=by have:=(Gaf.mp hd).1;simpa[aE] using this
 refine⟨hi,λx H2 ⟨e1,e2⟩=> ?_⟩
 subst e1 e2
 have:d= .int (lo+(i:Int)):=by
  unfold aE at hd
  rw[Gax,Gem hi] at hd
  cases hd;rfl
 subst this
 exact⟨bJ,.int _⟩
theorem iX{i:Int}(h:bD i=true): -(2^62)≤i∧i<2^62:=by
 unfold bD at h
 rw[Gaq] at h
 have h1:=GaN h.1
 have h2:=GaN h.2
 omega
theorem dC{tg:Expr}{p:Pos}(hg:Gl X "range")(hm:X.mg "range"=none)(he:PEd X e f)(hs:starEach [e] X.env=[(false,eval e X.env)]:=by rfl):PId X tg (.Call (.Name "range" p) [e] [] pos) (dv f):=by
 refine(uB hg hm (a0 he ab hs) hs).aC ?_
 rintro σ H R ⟨H₀,Bad,env,ds,E,hf,k⟩
 obtain⟨r,hr,hf⟩:=bind_some hf
 split at hf
 ·rename_i j hd
  split at hf
  ·rename_i hz
   cases hf
   refine⟨H₀,Bad,env,[r],E,by unfold a8 aA;rw[hr];rfl,λvs H1 s1 Rs=> ?_⟩
   cases Rs with
   |cons R1 t=>
    cases t
    have i:=R1.inn
    rw[hd] at i
    cases i
    exact⟨j,rfl,(iX hz).1,(iX hz).2,k _ H1 s1 lT⟩
  ·cases hf
 ·cases hf
theorem fh{i:Nat}{x:Str}(hN:X.N.Nodup)(hi:X.N[i]? =some x)(hx:Loc X.env.scope x)(hf:X.fn x=true∨X.env.scope.names.lookup x=some .local:=by first|exact .inl rfl|exact .inr rfl|assumption):PGd X (.Name x pos) (gN i):=by
 refine(B3 hN hi hx hf).aC ?_
 rintro v σ H Q ⟨H₀,Bad,env,d,env',E,hg,r,k⟩
 cases hg
 exact k _ H (E.mi r) .mi
theorem _root_.L2.PGs.aC{es:List Expr}{t t' :TGs}(h:PGs X es t')(i:∀v σ H Q,t v σ H Q→t' v σ H Q):PGs X es t:=λpins s σ H v u Q I r q=>h pins s σ H v u Q I r (i v σ H Q q)
end
open PySem PySem.Spec PyProof.Rows L2
section
variable{X:Cx}{e a b c:Expr}{f g h:DE}{t u:DT}{pos:Pos}{st:Stmt}{rest:List Stmt}{s1 s2:DS}
theorem jk{i:Nat}{env:Env}{d:D}(h:ownAt i env=some d):env[i]? =some (some (.own d)):=by
 unfold ownAt at h
 split at h
 ·rename_i d' q;cases h;exact q
 ·cases h
theorem lG{K:aa}{F:Addr→Prop}{H:Hp}{ds:List D}{a:Addr}(w:Wr H a)(i:Inn K F H (.lst ds) (.ref a)):∃vs,H a=some (.lst vs)∧aq K F H ds vs:=by
 cases i with
 |lst h r=>
  rcases h with h| ⟨o,h⟩
  ·exact⟨_,h,r⟩
  ·obtain⟨y,hy,wy⟩:=w
   rw[h] at hy;cases hy;exact wy.elim
theorem o6{i:Nat}{x:Str}{px apos cpos:Pos}(hN:X.N[i]? =some x)(hv:Vis X.env.scope x)(he:PEd X e f)(hd:(x==("__debug__":Str))=false:=by decide)(hcd:(x==("__classdict__":Str))=false:=by decide)
  (hs1:starEach [e] X.env=[(false,eval e X.env)]:=by rfl)
  (hbase:attributeBase (.Name x px) "append" X.env (eval (.Name x px) X.env)=eval (.Name x px) X.env:=by rfl)
  (hfew:((backTo cpos (starEach [e] X.env)).all (λx=> !x.1)&&(backToKw cpos (keywordEach [] X.env)).all (λx=>x.1.isSome)
   &&decide (([e]:List Expr).length+([]:List Keyword).length+(if([]:List Keyword).isEmpty then 0 else 1)<30))=true:=by rfl)
  (hline:(apos.endLine==cpos.line)=true:=by rfl)(hs:swapsWith (.Call (.Attribute (.Name x px) "append" apos) [e] [] cpos) none pos.line X.env=pure false:=by rfl):
  PSd X (.Expr (.Call (.Attribute (.Name x px) "append" apos) [e] [] cpos) pos) (Dn i f):=by
 refine(oR (Cn GcV PySem.F.slot_list_append PySem.F.type_list_append nS (iO hN hv hd hcd) (a0 he ab hs1) hbase hfew hline hs1 rfl) hs).aC ?_
 rintro D σ H ⟨H₀,Bad,env,o,E,e,k⟩
 obtain⟨r,hr,e⟩:=bind_some e
 obtain⟨d,hd,e⟩:=bind_some e
 have q:=jk hd
 split at e
 ·rename_i xs
  split at e
  ·rename_i z
   rw[Gaq] at z
   cases e
   obtain⟨a,h1,h2,h3,h4,h5,h6⟩:=E.ow i _ (.inl q)
   obtain⟨vs,hH,rp⟩:=lG h4 h6
   refine⟨_,h1,.inl ⟨rfl,vs,.inl (.inl hH)⟩,H₀,Bad,env,[r],E,by unfold a8 aA;rw[hr];rfl,λws H2 s2 Rs=> ?_⟩
   cases Rs with
   | @cons _ v _ _ R1 tl=>
    cases tl
    have hH2:=s2 _ _ hH
    refine⟨a,vs,v,rfl,rfl,hH2,by rw[←rp.1,←size_eq];exact GaN z.2, ?_⟩
    have E2:=E.mono s2
    have rep1:=R1.rep E z.1
    have rp2:aq X.K (Cln Bad env σ) H2 (xs++[r.d]) (vs++[v]):=(rp.gen (.of_same s2) λ_ f _=>f).append (.cons rep1 .nil)
    obtain⟨E3,p3⟩:=E2.change (d' := .lst (xs++[r.d])) (o:= .lst (vs++[v])) q h1 trivial rfl (.lst (.inl au) (rp2.gen (λb o hb w=>by
     have:b≠a:=by
      rintro rfl
      rcases w with w|w
      ·exact w.2 i (by rw[q];trivial) h1
      ·rw[hH2] at hb;cases hb;exact w
     rw[az this];exact hb) λ_ f _=>f))
    exact k σ _ E3 ((Stp.of_same s2).trans p3)
  ·cases e
 ·cases e
theorem wG{i:Nat}{x:Str}{px apos cpos:Pos}(hN:X.N[i]? =some x)(hv:Vis X.env.scope x)(hd:(x==("__debug__":Str))=false:=by decide)(hcd:(x==("__classdict__":Str))=false:=by decide)
  (hbase:attributeBase (.Name x px) "clear" X.env (eval (.Name x px) X.env)=eval (.Name x px) X.env:=by rfl)
  (hline:(apos.endLine==cpos.line)=true:=by rfl)(hs:swapsWith (.Call (.Attribute (.Name x px) "clear" apos) [] [] cpos) none pos.line X.env=pure false:=by rfl):
  PSd X (.Expr (.Call (.Attribute (.Name x px) "clear" apos) [] [] cpos) pos) (wd i):=by
 refine(oR (rK GcV PySem.F.slot_list_clear PySem.F.type_list_clear vY (iO hN hv hd hcd) hbase hline) hs).aC ?_
 rintro D σ H ⟨H₀,Bad,env,o,E,e,k⟩
 obtain⟨d,hd,e⟩:=bind_some e
 have q:=jk hd
 split at e
 ·rename_i xs
  cases e
  obtain⟨a,h1,h2,h3,h4,h5,h6⟩:=E.ow i _ (.inl q)
  obtain⟨vs,hH,rp⟩:=lG h4 h6
  refine⟨_,h1,.inl ⟨rfl,vs,.inl (.inl hH)⟩,a,vs,rfl,rfl,hH, ?_⟩
  obtain⟨E3,p3⟩:=E.change (d' := .lst []) (o:= .lst []) q h1 trivial rfl (.lst (.inl au) .nil)
  exact k σ _ E3 p3
 ·cases e
noncomputable def Hs(K:aa):List V→Hp→VK→Prop:=λxs H Q=>∃x T t b,xs=[x,.ty T]∧iP K H x (.type t)∧PySem.W.kitOne K (.type t) (.type T)=some b∧Q (.bl b) H
theorem wH:cW X (.builtin "isinstance") (Hs X.K):=by
 intro pins s σ H xs us Q I r h
 obtain⟨x,T,t,bb,rfl,ty,hk,q⟩:=h
 obtain⟨u,w',rfl,r1,r2⟩:=vals2 r
 cases r2
 exact uE I r1 ty hk λtk=> ⟨.bl bb,H,I.tok _,rfl,q⟩
noncomputable def o7(K:aa)(T:String):Prop:=∀t∈["NoneType","bool","int","str","tuple","list","dict"],PySem.W.kitOne K (.type t) (.type T)=some (T==t||(t=="bool"&&T=="int"))
theorem Bz{K:aa}{F:Addr→Prop}{H:Hp}{d:D}{x:V}(i:Inn K F H d x)(hs:kL d=false):∃t∈["NoneType","bool","int","str","tuple","list","dict"],iP K H x (.type t)∧∀S,iF S d=(S==t||(t=="bool"&&S=="int")):=by
 have rdl:∀{a:Addr} {vs:List V},Rd H a (.lst vs)→iP K H (.ref a) (.type "list"):=λh=>by
  rcases h with h| ⟨o,h⟩
  ·exact .lst h
  ·exact .frz h
 cases i with
 |non=>exact⟨"NoneType",by simp,.non,λS=>by simp[iF]⟩
 |bl b=>exact⟨"bool",by simp,.bl b,λS=>by simp[iF]⟩
 |int i=>exact⟨"int",by simp,.int i,λS=>by simp[iF]⟩
 |str x=>exact⟨"str",by simp,.str x,λS=>by simp[iF]⟩
 |tup h r=>exact⟨"tuple",by simp,.tup h,λS=>by simp[iF]⟩
 |lst h r=>exact⟨"list",by simp,rdl h,λS=>by simp[iF]⟩
 |dK h r=>exact⟨"dict",by simp,.dK h,λS=>by simp[iF]⟩
 |dT h r=>exact⟨"dict",by simp,.dT h,λS=>by simp[iF]⟩
 |scr h=>cases hs
theorem fC{T:String}{x:Str}{p p2:Pos}(kit:o7 X.K T)(he:PEd X e f)(hg:Gl X "isinstance")(hm:X.mg "isinstance"=none)(hg2:Gl X x)(hm2:X.mg x=none)(hv2:bootBuiltins x=some (.type T))(hn2:x≠"__name__":=by decide)(hd2:(x==("__debug__":Str))=false:=by decide)
  (hs1:starEach [e,.Name x p2] X.env=(false,eval e X.env)::starEach [.Name x p2] X.env:=by rfl)(hs2:starEach [.Name x p2] X.env=(false,eval (.Name x p2) X.env)::starEach [] X.env:=by rfl)(hpl:(backTo pos (starEach [.Name x p2] X.env)).any (·.1)=false:=by rfl):
  PEd X (.Call (.Name "isinstance" p) [e,.Name x p2] [] pos) (bE (lY T f)):=by
 have ht:PE X (.Name x p2) (tC (.ty T)):=AZ hg2 hm2 hv2 rfl hn2 hd2
 refine(lW wH hg hm (by decide+kernel) (fc he (fc ht jQ hs2) hs1) (by decide) (by decide) hs1 hpl).aC ?_
 rintro σ H Q ⟨H₀,Bad,env,rv,E,e,k⟩
 obtain⟨bb,e',rfl⟩:=Gaj.mp e
 clear e
 have e:=e'
 clear e'
 obtain⟨r,hr,e⟩:=bind_some e
 split at e
 ·cases e
 ·rename_i hs
  cases e
  refine⟨H₀,Bad,env,r,E,hr,λv H1 s1 R=> ?_⟩
  obtain⟨t,ht,ty,hb⟩:=Bz R.inn (by simpa using hs)
  exact⟨v,T,t,_,rfl,ty,kit t ht,by rw[←hb T];exact k _ H1 s1 (.bl _)⟩
theorem ax:∀env rs,aA env=some rs→rs.length=0:=λenv rs h=>by cases h;rfl
theorem a7{r:DA}{n:Nat}(h:∀env rs,r env=some rs→rs.length=n):∀env rs,a8 f r env=some rs→rs.length=n+1:=λenv rs e=>by
 obtain⟨x,_,e⟩:=bind_some e
 obtain⟨xs,hx,e⟩:=bind_some e
 cases e
 rw[GbH,h env xs hx]
theorem aj.start{K:aa}{H:Hp}{N:List Str}{ds:List D}{vs:List V}(hl:ds.length≤N.length)(r:aq K (λ_=>True) H ds vs):aj K H (λ_=>False) (fW N.length ds) (start N vs) H:=by
 have nt:∀i:Nat,¬b5 (fW N.length ds)[i]? :=λi h=>by
  unfold fW at h
  by_cases hi:i<ds.length
  ·rw[Gbh (by simpa using hi),Gax] at h
   cases q:ds[i]? with
   |none=>rw[q] at h;exact h
   |some d=>rw[q] at h;exact h
  ·rw[Gbo (by simpa using hi),GcU] at h
   split at h<;>exact h
 have no:∀{i:Nat} {s:Slot},(fW N.length ds)[i]? =some (some s)→b5 (some (some s))→False:=λ{i s} e h=>nt i (by rw[e];exact h)
 refine⟨λ_ _ e=>e,by simp[fW,L2.start,r.1],λ_ h=>h.elim,λi d e=> ?_,λi d e=> ?_,λi d e=> ?_,λi j a t _ _ _=>(nt i t.top).elim⟩
 ·unfold fW at e
  by_cases hi:i<ds.length
  ·rw[Gbh (by simpa using hi),Gax] at e
   cases q:ds[i]? with
   |none=>rw[q] at e;cases e
   |some d' =>
    rw[q] at e
    have e' :d' =d:=by simpa using e
    subst e'
    obtain⟨v,h1,h2⟩:=r.get q
    refine⟨v, ?_,h2.imp λb _=> ⟨λz=>z,λj t=>(nt j t).elim⟩⟩
    unfold L2.start
    rw[Gbh (by rw[Gar,←r.1];exact hi),Gax,h1];rfl
  ·rw[Gbo (by simpa using hi),GcU] at e
   split at e<;>cases e
 ·rcases e with e|e
  ·exact(no e trivial).elim
  ·exact(no e trivial).elim
 ·exact(no e trivial).elim
theorem jl{P:Program}{w:World}{K:aa}{mg:Str→Option Value}{base:Heap}{x qual:Str}{sd:Stmt}{fa:Addr}{fd:FuncData}{N ps:List Str}{k np:Nat}{body:DS}(F:Fun K x qual sd fa fd)(S:bY N ps (av sd))(hnp:ps.length=np)
  (hbody:∀(cdv:Value) (A:Around) (outer:List PySem.Env) (s:Shared) (H:Hp) (E:XK),du k (A.deeper (envOfC qual (av sd) s.heap.objs.size fa cdv))→
   gP (rH CX0 P w K mg base N qual (av sd) fa cdv A outer s H E).nox (bM sd) body):df P w K mg base CX0 (k+1) fa fd ps (spD K np (fF N.length np body)):=by
 refine F.ok S (λvs H Q E h=> ?_) λcdv A outer s H vs Q E hr h=> ⟨_,hbody cdv A outer s H E hr, ?_⟩
 ·obtain⟨ds,d,h1,h2,_⟩:=h
  rw[←h2.1,h1,hnp]
 ·obtain⟨ds,d,h1,h2,h3,k⟩:=h
  unfold fF at h3
  rw[Gag h1] at h3
  obtain⟨o,ho,h3⟩:=bind_some h3
  have hl:ds.length≤N.length:=by
   have:=congrArg List.length S.pre
   rw[List.length_take] at this
   omega
  refine⟨H,λ_=>False,fW N.length ds,o,aj.start hl h2,ho, ?_⟩
  cases o with
  |ret d' =>cases h3;exactλv H' s' R=>k v H' s' R
  |nx e=>cases h3;exactλσ' H' E' p' =>k .non H' E'.same ⟨λt=>(by cases t),.non⟩
  |bk e=>cases h3
  |ct e=>cases h3
theorem Dv{K:aa}{H:Hp}{a:Addr}{ns:List Int}{sp:List D→Option D}{E:XK}(hO:Bh H)(hS:SqL K H a (ns.map V.int))(h:sp [.scr ns]=some (.bl true)):spD K 1 sp [.ref a] H (λv _=>v= .bl true) E:=by
 refine⟨[.scr ns],.bl true,rfl,aq.cons (.scr ?_) .nil,h,λv H' _ R=> ?_⟩
 ·rcases hS with(z|z)|z
  ·rcases hO a with q| ⟨o,xs,q⟩<;>rw[z] at q<;>cases q
  ·exact .inl z
  ·exact .inr z
 ·have i:=R.2
  cases i;rfl
end
open PySem PySem.Spec PyProof.Rows L2
theorem plain_all{n:Nat}{ds:List D}(h:ds.all (a9 n)=true){i:Nat}{d:D}(e:ds[i]? =some d):a9 n d=true:=Gat.mp h d (GaO e)
theorem mq:∀(n:Nat) (d:D),a9 n d=true→eqD d d=true:=by
 intro n
 induction n with
 |zero=>intro d h;cases d<;>simp[a9] at h<;>simp[eqD]
 |succ n ih=>
  have all:∀ds:List D,ds.all (a9 n)=true→fV ds ds=true:=by
   intro ds
   induction ds with
   |nil=>intro _;rfl
   |cons d ds ih2=>
    intro h
    rw[GbD,Gaq] at h
    simp[fV,ih d h.1,ih2 h.2]
  intro d h
  cases d<;>simp only[a9] at h<;>first
   |(simp[eqD];done)
   |(simp only[eqD];exact all _ h)
   |cases h
theorem dS:∀{ds es:List D},ds.length≠es.length→fV ds es=false
 |[],[],h=>absurd rfl h
 |[],_::_,_=>rfl
 |_::_,[],_=>rfl
 |d::ds,e::es,h=>by
  unfold fV
  rw[dS (by simpa using h),GdI]
theorem cz:∀{ds es:List D},ds.length=es.length→(List.range ds.length).all (λj=>eqD (ds.getD j .non) (es.getD j .non))=fV ds es
 |[],[],_=>rfl
 |[],_::_,h=>by simp at h
 |_::_,[],h=>by simp at h
 |d::ds,e::es,h=>by
  have ih:=cz (ds:=ds) (es:=es) (by simpa using h)
  unfold fV
  rw[GbH,List.range_succ_eq_map,GbD,List.all_map,←ih]
  rfl
section
variable{X:Cx}{pins:List (Addr×Obj)}{σ:St}{H:Hp}{s:Shared}
theorem tH{K:aa}{F G:Addr→Prop}:∀(n:Nat) {d d' :D} {v:V},a9 n d=true→a9 n d' =true→Rep K F H d v→Rep K G H d' v→d=d' :=by
 intro n
 induction n with
 |zero=>intro d d' v h1 h2 r1 r2;cases r1<;>simp[a9] at h1<;>cases r2<;>simp[a9] at h2<;>rfl
 |succ n ih=>
  have all:∀{ds es:List D} {vs:List V},ds.all (a9 n)=true→es.all (a9 n)=true→ds.length=vs.length→es.length=vs.length→(∀(i:Nat) d v,ds[i]? =some d→vs[i]? =some v→Rep K F H d v)→(∀(i:Nat) d v,es[i]? =some d→vs[i]? =some v→Rep K G H d v)→ds=es:=by
   intro ds es vs p1 p2 l1 l2 r1 r2
   apply Gdh
   intro i
   by_cases hi:i<vs.length
   ·have e1:ds[i]? =some ds[i]:=by simp[l1,hi]
    have e2:es[i]? =some es[i]:=by simp[l2,hi]
    have e3:vs[i]? =some vs[i]:=by simp[hi]
    rw[e1,e2,ih (plain_all p1 e1) (plain_all p2 e2) (r1 i _ _ e1 e3) (r2 i _ _ e2 e3)]
   ·rw[GaV (by omega),GaV (by omega)]
  intro d d' v h1 h2 r1 r2
  cases r1 with
  |non=>cases r2;rfl
  |bl b=>cases r2;rfl
  |int i=>cases r2;rfl
  |str x=>cases r2;rfl
  |scr h=>simp[a9] at h1
  |dK f h l r=>simp[a9] at h1
  |dT f h l r=>simp[a9] at h1
  |tup h l r=>
   cases r2 with
   |tup h' l' r' =>
    rw[h] at h';cases h'
    rw[all (by simpa[a9] using h1) (by simpa[a9] using h2) l l' r r']
   |lst f h' l' r' =>rcases h' with h' | ⟨o,h'⟩<;>rw[h] at h' <;>cases h'
   |scr h' =>simp[a9] at h2
   |dK f h' l r=>simp[a9] at h2
   |dT f h' l r=>simp[a9] at h2
  |lst f h l r=>
   cases r2 with
   |tup h' l' r' =>rcases h with h| ⟨o,h⟩<;>rw[h] at h' <;>cases h'
   |lst f' h' l' r' =>
    have:∀{xs ys:List V} {a:Addr},Rd H a (.lst xs)→Rd H a (.lst ys)→xs=ys:=λz1 z2=>by
     rcases z1 with z1| ⟨o,z1⟩<;>rcases z2 with z2| ⟨o',z2⟩<;>rw[z1] at z2<;>cases z2<;>rfl
    cases this h h'
    rw[all (by simpa[a9] using h1) (by simpa[a9] using h2) l l' r r']
   |scr h' =>simp[a9] at h2
   |dK f h' l r=>simp[a9] at h2
   |dT f h' l r=>simp[a9] at h2
theorem item_at{ds:List D}{vs:List V}{its:List Value}{K:aa}{F:Addr→Prop}(l:ds.length=vs.length)(r:∀(i:Nat) d v,ds[i]? =some d→vs[i]? =some v→Rep K F H d v)(rv:Vals vs its){j:Nat}(h:j<its.toArray.size):
  ∃d v,ds[j]? =some d∧ds.getD j .non=d∧Rep K F H d v∧RelV v its.toArray[j]:=by
 have hj:j<its.length:=by simpa using h
 have hv:j<vs.length:=by rw[rv.length];exact hj
 have hd:j<ds.length:=by rw[l];exact hv
 obtain⟨u,e1,e2⟩:=rv.get (i:=j) (x:=vs[j]) (by simp[hv])
 refine⟨ds[j],vs[j],by simp[hd],by simp[hd],r j _ _ (by simp[hd]) (by simp[hv]), ?_⟩
 have:its.toArray[j]=u:=by
  have:=e1
  simp[hj] at this
  simpa using this
 rw[this];exact e2
theorem in1_units{A:Around}{n:Nat}(h:A.units+(n+1)<cLine):A.in1.units+n<cLine:=by
 show A.units+1+n<_
 omega
theorem jm(I:Inv X pins σ H s){F G:Addr→Prop}:∀(n:Nat) {dx dy:D} {x y:V} {v u:Value} {A:Around},a9 n dx=true→a9 n dy=true→Rep X.K F H dx x→Rep X.K G H dy y→RelV x v→RelV y u→A.units+n<cLine→SeqAt.EqAt A s v u (eqD dx dy):=by
 have flat:∀{dx dy:D} {x y:V} {v u:Value} {A:Around},Rep X.K F H dx x→Rep X.K G H dy y→RelV x v→RelV y u→kI x=true→kI y=true→SeqAt.EqAt A s v u (eqD dx dy):=by
  intro dx dy x y v u A r1 r2 rv ru fx fy
  have e:eqD dx dy=eqV x y:=by
   cases r1<;>cases r2<;>first|rfl|(simp[kI] at fx)|(simp[kI] at fy)
  rw[e]
  exact vW rv ru fx fy
 intro n
 induction n with
 |zero=>
  intro dx dy x y v u A p1 p2 r1 r2 rv ru hu
  refine flat r1 r2 rv ru ?_ ?_
  ·cases r1<;>first|rfl|(simp[a9] at p1)
  ·cases r2<;>first|rfl|(simp[a9] at p2)
 |succ n ih=>
  intro dx dy x y v u A p1 p2 r1 r2 rv ru hu
  have hu0:A.units<cLine:=by omega
  cases r1 with
  |scr h=>simp[a9] at p1
  |dK f h l r=>simp[a9] at p1
  |dT f h l r=>simp[a9] at p1
  | @tup a vs1 ds1 h l r=>
   cases rv
   obtain⟨its,rvs,ht,_⟩:=I.tuple (SqT.of h)
   cases r2 with
   |scr h' =>simp[a9] at p2
   |dK f h' l r=>simp[a9] at p2
   |dT f h' l r=>simp[a9] at p2
   |non=>cases ru;exact SeqAt.EqAt.tuple_none ht hu0
   |bl b=>cases ru;exact SeqAt.EqAt.tuple_bool b ht hu0
   |int i=>obtain⟨t,rfl⟩:=ru;exact SeqAt.EqAt.tuple_int i t ht hu0
   |str z=>obtain⟨t,rfl⟩:=ru;exact SeqAt.EqAt.tuple_str z t ht hu0
   |lst f' h' l' r' =>
    cases ru
    obtain⟨its2,rvs2,pl,_⟩:=I.list (.inl h')
    exact SeqAt.EqAt.tuple_list ht pl.isList hu0
   | @tup b vs2 ds2 h' l' r' =>
    cases ru
    by_cases hab:a=b
    ·subst hab
     have:=tH (n+1) p1 p2 (Rep.tup h l r) (Rep.tup h' l' r')
     rw[←this,mq _ _ p1]
     exact SeqAt.EqAt.same _
    ·obtain⟨its2,rvs2,ht2,_⟩:=I.tuple (SqT.of h')
     have hs1:its.toArray.size=ds1.length:=by rw[Gao,←rvs.length,l]
     have hs2:its2.toArray.size=ds2.length:=by rw[Gao,←rvs2.length,l']
     have key:=SeqAt.RcAt.tuples (e:=λj=>eqD (ds1.getD j .non) (ds2.getD j .non)) ht ht2 hu0 λj h1 h2=>by
      obtain⟨d1,v1,q1,q2,q3,q4⟩:=item_at l r rvs h1
      obtain⟨d2,v2,w1,w2,w3,w4⟩:=item_at l' r' rvs2 h2
      rw[q2,w2]
      exact ih (plain_all (by simpa[a9] using p1) q1) (plain_all (by simpa[a9] using p2) w1) q3 w3 q4 w4 (in1_units hu)
     refine SeqAt.EqAt.of_refs hab ?_
     show SeqAt.RcAt A s (.ref a) (.ref b) (fV ds1 ds2)
     rw[hs1,hs2] at key
     by_cases hl:ds1.length=ds2.length
     ·rw[←hl,Geh,cz hl] at key
      simpa using key
     ·rw[dS hl]
      have:(ds1.length==ds2.length)=false:=by simpa using hl
      rw[this,GdI] at key
      exact key
  | @lst a vs1 ds1 f h l r=>
   cases rv
   obtain⟨its,rvs,pl,_⟩:=I.list (.inl h)
   have ht:=pl.isList
   cases r2 with
   |scr h' =>simp[a9] at p2
   |dK f h' l r=>simp[a9] at p2
   |dT f h' l r=>simp[a9] at p2
   |non=>cases ru;exact SeqAt.EqAt.list_none ht hu0
   |bl b=>cases ru;exact SeqAt.EqAt.list_bool b ht hu0
   |int i=>obtain⟨t,rfl⟩:=ru;exact SeqAt.EqAt.list_int i t ht hu0
   |str z=>obtain⟨t,rfl⟩:=ru;exact SeqAt.EqAt.list_str z t ht hu0
   |tup h' l' r' =>
    cases ru
    obtain⟨its2,rvs2,ht2,_⟩:=I.tuple (SqT.of h')
    exact SeqAt.EqAt.list_tuple ht ht2 hu0
   | @lst b vs2 ds2 f' h' l' r' =>
    cases ru
    by_cases hab:a=b
    ·subst hab
     have:=tH (n+1) p1 p2 (Rep.lst f h l r) (Rep.lst f' h' l' r')
     rw[←this,mq _ _ p1]
     exact SeqAt.EqAt.same _
    ·obtain⟨its2,rvs2,pl2,_⟩:=I.list (.inl h')
     have ht2:=pl2.isList
     have hs1:its.toArray.size=ds1.length:=by rw[Gao,←rvs.length,l]
     have hs2:its2.toArray.size=ds2.length:=by rw[Gao,←rvs2.length,l']
     refine SeqAt.EqAt.of_refs hab ?_
     show SeqAt.RcAt A s (.ref a) (.ref b) (fV ds1 ds2)
     by_cases hl:ds1.length=ds2.length
     ·have key:=SeqAt.RcAt.lists (e:=λj=>eqD (ds1.getD j .non) (ds2.getD j .non)) ht ht2 (by rw[hs1,hs2,hl]) hu0 λj h1 h2=>by
       obtain⟨d1,v1,q1,q2,q3,q4⟩:=item_at l r rvs h1
       obtain⟨d2,v2,w1,w2,w3,w4⟩:=item_at l' r' rvs2 h2
       rw[q2,w2]
       exact ih (plain_all (by simpa[a9] using p1) q1) (plain_all (by simpa[a9] using p2) w1) q3 w3 q4 w4 (in1_units hu)
      rw[hs1,cz hl] at key
      exact key
     ·rw[dS hl]
      exact SeqAt.RcAt.lists_lengths ht ht2 (by rw[hs1,hs2];simpa using hl) hu0
  |non=>
   cases rv
   cases r2 with
   |scr h' =>simp[a9] at p2
   |dK f h' l r=>simp[a9] at p2
   |dT f h' l r=>simp[a9] at p2
   |tup h' l' r' =>cases ru;obtain⟨its2,rvs2,ht2,_⟩:=I.tuple (SqT.of h');exact SeqAt.EqAt.none_tuple ht2 hu0
   |lst f' h' l' r' =>cases ru;obtain⟨its2,rvs2,pl2,_⟩:=I.list (.inl h');exact SeqAt.EqAt.none_list pl2.isList hu0
   |_=>exact flat .non (by first|exact .non|exact .bl _|exact .int _|exact .str _) rfl ru rfl rfl
  |bl b=>
   cases r2 with
   |scr h' =>simp[a9] at p2
   |dK f h' l r=>simp[a9] at p2
   |dT f h' l r=>simp[a9] at p2
   |tup h' l' r' =>cases rv;cases ru;obtain⟨its2,rvs2,ht2,_⟩:=I.tuple (SqT.of h');exact SeqAt.EqAt.bool_tuple b ht2 hu0
   |lst f' h' l' r' =>cases rv;cases ru;obtain⟨its2,rvs2,pl2,_⟩:=I.list (.inl h');exact SeqAt.EqAt.bool_list b pl2.isList hu0
   |_=>exact flat (.bl b) (by first|exact .non|exact .bl _|exact .int _|exact .str _) rv ru rfl rfl
  |int i=>
   cases r2 with
   |scr h' =>simp[a9] at p2
   |dK f h' l r=>simp[a9] at p2
   |dT f h' l r=>simp[a9] at p2
   |tup h' l' r' =>obtain⟨t,rfl⟩:=rv;cases ru;obtain⟨its2,rvs2,ht2,_⟩:=I.tuple (SqT.of h');exact SeqAt.EqAt.int_tuple i t ht2 hu0
   |lst f' h' l' r' =>obtain⟨t,rfl⟩:=rv;cases ru;obtain⟨its2,rvs2,pl2,_⟩:=I.list (.inl h');exact SeqAt.EqAt.int_list i t pl2.isList hu0
   |_=>exact flat (.int i) (by first|exact .non|exact .bl _|exact .int _|exact .str _) rv ru rfl rfl
  |str z=>
   cases r2 with
   |scr h' =>simp[a9] at p2
   |dK f h' l r=>simp[a9] at p2
   |dT f h' l r=>simp[a9] at p2
   |tup h' l' r' =>obtain⟨t,rfl⟩:=rv;cases ru;obtain⟨its2,rvs2,ht2,_⟩:=I.tuple (SqT.of h');exact SeqAt.EqAt.str_tuple z t ht2 hu0
   |lst f' h' l' r' =>obtain⟨t,rfl⟩:=rv;cases ru;obtain⟨its2,rvs2,pl2,_⟩:=I.list (.inl h');exact SeqAt.EqAt.str_list z t pl2.isList hu0
   |_=>exact flat (.str z) (by first|exact .non|exact .bl _|exact .int _|exact .str _) rv ru rfl rfl
theorem qk(I:Inv X pins σ H s){F G:Addr→Prop}{n:Nat}{dx dy:D}{x y:V}{v u:Value}{A:Around}(p1:a9 n dx=true)(p2:a9 n dy=true)(r1:Rep X.K F H dx x)(r2:Rep X.K G H dy y)(rv:RelV x v)(ru:RelV y u)(hu:A.units+n<cLine):
  SeqAt.RcAt A s v u (eqD dx dy)∧SeqAt.RcNeAt A s v u (!eqD dx dy):=by
 have hu0:A.units<cLine:=by omega
 have tupAt:∀{a:Addr} {vs:List V},H a=some (.tup vs)→∃its:List Value,s.heap.IsTuple a its.toArray:=λh=>let⟨its,_,ht,_⟩:=I.tuple (SqT.of h);⟨its,ht⟩
 have lstAt:∀{a:Addr} {vs:List V},Rd H a (.lst vs)→∃its:List Value,s.heap.IsList a its.toArray:=λh=>let⟨its,_,pl,_⟩:=I.list (.inl h);⟨its,pl.isList⟩
 cases r1 with
 |scr h=>cases n<;>simp[a9] at p1
 |dK f h l r=>cases n<;>simp[a9] at p1
 |dT f h l r=>cases n<;>simp[a9] at p1
 |non=>
  cases rv
  cases r2 with
  |scr h' =>cases n<;>simp[a9] at p2
  |dK f h' l r=>cases n<;>simp[a9] at p2
  |dT f h' l r=>cases n<;>simp[a9] at p2
  |non=>cases ru;exact⟨.none_none,.none_none⟩
  |bl b=>cases ru;exact⟨.none_bool b,.none_bool b⟩
  |int i=>obtain⟨t,rfl⟩:=ru;exact⟨.none_int i t,.none_int i t⟩
  |str z=>obtain⟨t,rfl⟩:=ru;exact⟨.none_str z t,.none_str z t⟩
  |tup h' l' r' =>cases ru;obtain⟨its,ht⟩:=tupAt h';exact⟨.none_tuple ht hu0,.none_tuple ht hu0⟩
  |lst f' h' l' r' =>cases ru;obtain⟨its,ht⟩:=lstAt h';exact⟨.none_list ht hu0,.none_list ht hu0⟩
 |bl b=>
  cases rv
  cases r2 with
  |scr h' =>cases n<;>simp[a9] at p2
  |dK f h' l r=>cases n<;>simp[a9] at p2
  |dT f h' l r=>cases n<;>simp[a9] at p2
  |non=>cases ru;exact⟨.bool_none b,.bool_none b⟩
  |bl b' =>cases ru;exact⟨.bool_bool b b',.bool_bool b b'⟩
  |int i=>obtain⟨t,rfl⟩:=ru;exact⟨.bool_int b i t,.bool_int b i t⟩
  |str z=>obtain⟨t,rfl⟩:=ru;exact⟨.bool_str b z t,.bool_str b z t⟩
  |tup h' l' r' =>cases ru;obtain⟨its,ht⟩:=tupAt h';exact⟨.bool_tuple b ht hu0,.bool_tuple b ht hu0⟩
  |lst f' h' l' r' =>cases ru;obtain⟨its,ht⟩:=lstAt h';exact⟨.bool_list b ht hu0,.bool_list b ht hu0⟩
 |int i=>
  obtain⟨t,rfl⟩:=rv
  cases r2 with
  |scr h' =>cases n<;>simp[a9] at p2
  |dK f h' l r=>cases n<;>simp[a9] at p2
  |dT f h' l r=>cases n<;>simp[a9] at p2
  |non=>cases ru;exact⟨.int_none i t,.int_none i t⟩
  |bl b' =>cases ru;exact⟨.int_bool i t b',.int_bool i t b'⟩
  |int j=>obtain⟨t',rfl⟩:=ru;exact⟨.int_int i t j t',.int_int i t j t'⟩
  |str z=>obtain⟨t',rfl⟩:=ru;exact⟨.int_str i t z t',.int_str i t z t'⟩
  |tup h' l' r' =>cases ru;obtain⟨its,ht⟩:=tupAt h';exact⟨.int_tuple i t ht hu0,.int_tuple i t ht hu0⟩
  |lst f' h' l' r' =>cases ru;obtain⟨its,ht⟩:=lstAt h';exact⟨.int_list i t ht hu0,.int_list i t ht hu0⟩
 |str z=>
  obtain⟨t,rfl⟩:=rv
  cases r2 with
  |scr h' =>cases n<;>simp[a9] at p2
  |dK f h' l r=>cases n<;>simp[a9] at p2
  |dT f h' l r=>cases n<;>simp[a9] at p2
  |non=>cases ru;exact⟨.str_none z t,.str_none z t⟩
  |bl b' =>cases ru;exact⟨.str_bool z t b',.str_bool z t b'⟩
  |int j=>obtain⟨t',rfl⟩:=ru;exact⟨.str_int z t j t',.str_int z t j t'⟩
  |str z' =>obtain⟨t',rfl⟩:=ru;exact⟨.str_str z t z' t',.str_str z t z' t'⟩
  |tup h' l' r' =>cases ru;obtain⟨its,ht⟩:=tupAt h';exact⟨.str_tuple z t ht hu0,.str_tuple z t ht hu0⟩
  |lst f' h' l' r' =>cases ru;obtain⟨its,ht⟩:=lstAt h';exact⟨.str_list z t ht hu0,.str_list z t ht hu0⟩
 | @tup a vs1 ds1 h l r=>
  cases n with
  |zero=>simp[a9] at p1
  |succ n=>
   cases rv
   obtain⟨its,rvs,ht,_⟩:=I.tuple (SqT.of h)
   cases r2 with
   |scr h' =>simp[a9] at p2
   |dK f h' l r=>simp[a9] at p2
   |dT f h' l r=>simp[a9] at p2
   |non=>cases ru;exact⟨.tuple_none ht hu0,.tuple_none ht hu0⟩
   |bl b=>cases ru;exact⟨.tuple_bool b ht hu0,.tuple_bool b ht hu0⟩
   |int i=>obtain⟨t,rfl⟩:=ru;exact⟨.tuple_int i t ht hu0,.tuple_int i t ht hu0⟩
   |str z=>obtain⟨t,rfl⟩:=ru;exact⟨.tuple_str z t ht hu0,.tuple_str z t ht hu0⟩
   |lst f' h' l' r' =>cases ru;obtain⟨its2,ht2⟩:=lstAt h';exact⟨.tuple_list ht ht2 hu0,.tuple_list ht ht2 hu0⟩
   | @tup b vs2 ds2 h' l' r' =>
    cases ru
    obtain⟨its2,rvs2,ht2,_⟩:=I.tuple (SqT.of h')
    have hs1:its.toArray.size=ds1.length:=by rw[Gao,←rvs.length,l]
    have hs2:its2.toArray.size=ds2.length:=by rw[Gao,←rvs2.length,l']
    have items:∀j (h1:j<its.toArray.size) (h2:j<its2.toArray.size),SeqAt.EqAt A.in1 s its.toArray[j] its2.toArray[j] ((λj=>eqD (ds1.getD j .non) (ds2.getD j .non)) j):=λj h1 h2=>by
     obtain⟨d1,v1,q1,q2,q3,q4⟩:=item_at l r rvs h1
     obtain⟨d2,v2,w1,w2,w3,w4⟩:=item_at l' r' rvs2 h2
     dsimp only
     rw[q2,w2]
     exact jm I n (plain_all (by simpa[a9] using p1) q1) (plain_all (by simpa[a9] using p2) w1) q3 w3 q4 w4 (in1_units hu)
    have k1:=SeqAt.RcAt.tuples ht ht2 hu0 items
    have k2:=SeqAt.RcNeAt.tuples ht ht2 hu0 items
    have e:((List.range (min its.toArray.size its2.toArray.size)).all (λj=>eqD (ds1.getD j .non) (ds2.getD j .non))&&its.toArray.size==its2.toArray.size)=fV ds1 ds2:=by
     rw[hs1,hs2]
     by_cases hl:ds1.length=ds2.length
     ·rw[←hl,Geh,cz hl];simp
     ·rw[dS hl]
      have:(ds1.length==ds2.length)=false:=by simpa using hl
      rw[this,GdI]
    rw[e] at k1 k2
    exact⟨k1,k2⟩
 | @lst a vs1 ds1 f h l r=>
  cases n with
  |zero=>simp[a9] at p1
  |succ n=>
   cases rv
   obtain⟨its,rvs,pl,_⟩:=I.list (.inl h)
   have ht:=pl.isList
   cases r2 with
   |scr h' =>simp[a9] at p2
   |dK f h' l r=>simp[a9] at p2
   |dT f h' l r=>simp[a9] at p2
   |non=>cases ru;exact⟨.list_none ht hu0,.list_none ht hu0⟩
   |bl b=>cases ru;exact⟨.list_bool b ht hu0,.list_bool b ht hu0⟩
   |int i=>obtain⟨t,rfl⟩:=ru;exact⟨.list_int i t ht hu0,.list_int i t ht hu0⟩
   |str z=>obtain⟨t,rfl⟩:=ru;exact⟨.list_str z t ht hu0,.list_str z t ht hu0⟩
   |tup h' l' r' =>cases ru;obtain⟨its2,ht2⟩:=tupAt h';exact⟨.list_tuple ht ht2 hu0,.list_tuple ht ht2 hu0⟩
   | @lst b vs2 ds2 f' h' l' r' =>
    cases ru
    obtain⟨its2,rvs2,pl2,_⟩:=I.list (.inl h')
    have ht2:=pl2.isList
    have hs1:its.toArray.size=ds1.length:=by rw[Gao,←rvs.length,l]
    have hs2:its2.toArray.size=ds2.length:=by rw[Gao,←rvs2.length,l']
    have items:∀j (h1:j<its.toArray.size) (h2:j<its2.toArray.size),SeqAt.EqAt A.in1 s its.toArray[j] its2.toArray[j] ((λj=>eqD (ds1.getD j .non) (ds2.getD j .non)) j):=λj h1 h2=>by
     obtain⟨d1,v1,q1,q2,q3,q4⟩:=item_at l r rvs h1
     obtain⟨d2,v2,w1,w2,w3,w4⟩:=item_at l' r' rvs2 h2
     dsimp only
     rw[q2,w2]
     exact jm I n (plain_all (by simpa[a9] using p1) q1) (plain_all (by simpa[a9] using p2) w1) q3 w3 q4 w4 (in1_units hu)
    show SeqAt.RcAt A s (.ref a) (.ref b) (fV ds1 ds2)∧SeqAt.RcNeAt A s (.ref a) (.ref b) (!fV ds1 ds2)
    by_cases hl:ds1.length=ds2.length
    ·have k1:=SeqAt.RcAt.lists ht ht2 (by rw[hs1,hs2,hl]) hu0 items
     have k2:=SeqAt.RcNeAt.lists ht ht2 (by rw[hs1,hs2,hl]) hu0 items
     rw[hs1,cz hl] at k1 k2
     exact⟨k1,k2⟩
    ·rw[dS hl]
     exact⟨SeqAt.RcAt.lists_lengths ht ht2 (by rw[hs1,hs2];simpa using hl) hu0,SeqAt.RcNeAt.lists_lengths ht ht2 (by rw[hs1,hs2];simpa using hl) hu0⟩
end
section
variable{X:Cx}
noncomputable def BA(K:aa)(neg:Bool):R2:=λx y H Q=>∃F dx dy,Inn K F H dx x∧Inn K F H dy y∧dx.plain=true∧dy.plain=true∧Q (.bl (if neg then !eqD dx dy else eqD dx dy)) H
theorem mw(hu:X.A.units+20<cLine):OpR X (compareOp .Eq) (BA X.K false):=by
 intro pins s σ H x y v u Q I rx ry h
 obtain⟨F,dx,dy,i1,i2,p1,p2,q⟩:=h
 exact(qk I (n:=20) p1 p2 i1.any i2.any rx ry hu).1 X.prog X.w _ _ ⟨.bl (eqD dx dy),H,I,rfl,q⟩
theorem wI(hu:X.A.units+20<cLine):OpR X (compareOp .NotEq) (BA X.K true):=by
 intro pins s σ H x y v u Q I rx ry h
 obtain⟨F,dx,dy,i1,i2,p1,p2,q⟩:=h
 exact(qk I (n:=20) p1 p2 i1.any i2.any rx ry hu).2 X.prog X.w _ _ ⟨.bl (!eqD dx dy),H,I,rfl,q⟩
theorem mz:OpB X eqB (BA X.K false):=by
 intro F H dx dy x y b Q ix iy e q
 unfold eqB at e
 split at e
 ·rename_i z
  rw[Gaq] at z
  cases e
  exact⟨F,dx,dy,ix,iy,z.1,z.2,q⟩
 ·cases e
theorem wJ:OpB X neB (BA X.K true):=by
 intro F H dx dy x y b Q ix iy e q
 unfold neB at e
 split at e
 ·rename_i z
  rw[Gaq] at z
  cases e
  exact⟨F,dx,dy,ix,iy,z.1,z.2,q⟩
 ·cases e
theorem fi{A:Around}{k:Nat}(hr:du k A):A.units+20<cLine:=GdD (Nat.add_le_add_left (by decide:20≤64) _) hr.units
theorem dh:bootBuiltins "len"=some (.builtin "len"):=by decide+kernel
theorem Dw:bootBuiltins "all"=some (.builtin "all"):=by decide+kernel
theorem k9:bootBuiltins "sorted"=some (.builtin "sorted"):=by decide+kernel
theorem Dx:bootBuiltins "int"=some (.type "int"):=by decide+kernel
theorem BB:bootBuiltins "bool"=some (.type "bool"):=by decide+kernel
theorem wK:bootBuiltins "str"=some (.type "str"):=by decide+kernel
theorem mC:bootBuiltins "tuple"=some (.type "tuple"):=by decide+kernel
theorem gc:bootBuiltins "list"=some (.type "list"):=by decide+kernel
theorem BC{K:aa}:o7 K "int":=by
 intro t ht
 simp only[Gas,Gce,GdZ] at ht
 rcases ht with rfl|rfl|rfl|rfl|rfl|rfl|rfl<;>rfl
theorem tJ{K:aa}:o7 K "str":=by
 intro t ht
 simp only[Gas,Gce,GdZ] at ht
 rcases ht with rfl|rfl|rfl|rfl|rfl|rfl|rfl<;>rfl
theorem kit_tuple{K:aa}:o7 K "tuple":=by
 intro t ht
 simp only[Gas,Gce,GdZ] at ht
 rcases ht with rfl|rfl|rfl|rfl|rfl|rfl|rfl<;>rfl
theorem mD{K:aa}:o7 K "list":=by
 intro t ht
 simp only[Gas,Gce,GdZ] at ht
 rcases ht with rfl|rfl|rfl|rfl|rfl|rfl|rfl<;>rfl
theorem wL{K:aa}:o7 K "bool":=by
 intro t ht
 simp only[Gas,Gce,GdZ] at ht
 rcases ht with rfl|rfl|rfl|rfl|rfl|rfl|rfl<;>rfl
end
open PySem PySem.Spec PyProof.Rows L2
section
variable{X:Cx}{sts:List Stmt}{f:DS}
theorem ai(i:Nat)(x:Str)(k:(∀pos,PEd X (.Name x pos) (vE i))→gP X sts f)(hN:X.N[i]? =some x:=by rfl)(hv:Vis X.env.scope x:=by first|exact Or.inl rfl|exact Or.inr (Or.inl rfl)|exact Or.inr (Or.inr rfl))(hd:(x==("__debug__":Str))=false:=by decide)
  (hcd:(x==("__classdict__":Str))=false:=by decide):gP X sts f:=k λ_=>cx i hN hv hd hcd
theorem aW(i:Nat)(x:Str)(k:Loc X.env.scope x→gP X sts f)(hx:Loc X.env.scope x:=by first|exact Or.inl rfl|exact Or.inr rfl):gP X sts f:=k hx
theorem p9(i:Nat)(x:Str)(k:Vis X.env.scope x→gP X sts f)(hv:Vis X.env.scope x:=by first|exact Or.inl rfl|exact Or.inr (Or.inl rfl)|exact Or.inr (Or.inr rfl)):gP X sts f:=k hv
theorem aJ(x:Str)(k:Gl X x→gP X sts f)(hg:Gl X x:=by rfl):gP X sts f:=k hg
end
open PySem PySem.Spec PyProof.Rows L2
theorem iY{env:PySem.Env}:∀(names:List (Str×NameKind)),(∀y∈names,y.2= .free→∃c,env.cells.lookup y.1=some c)→∀(cs:List (Str×Addr)),(∀n c,cs.lookup n=some c→env.cells.lookup n=some c)→
  ∃cl:List (Str×Addr),(forIn names cs λx r=>(do
    if(x.2==NameKind.free)=true then pure (ForInStep.yield ((x.1,←cellOf env x.1)::r)) else pure (ForInStep.yield r):Sem (ForInStep (List (Str×Addr)))))=pure cl∧
   (∀n c,cl.lookup n=some c→env.cells.lookup n=some c)∧(∀y∈names,y.2= .free→∃c,cl.lookup y.1=some c)∧∀n c,cs.lookup n=some c→∃c',cl.lookup n=some c'
 |[],_,cs,h=>by
  refine⟨cs,rfl,h, ?_,λn c e=> ⟨c,e⟩⟩
  intro y hy;cases hy
 |(x,k)::names,hf,cs,h=>by
  by_cases hk:k= .free
  ·subst hk
   obtain⟨c,hc⟩:=hf (x,.free) Gav rfl
   have hcell:cellOf env x=pure c:=by unfold cellOf;rw[hc]<;>rfl
   obtain⟨cl,h1,h2,h3,h4⟩:=iY names (λy hy=>hf y (Gak _ hy)) ((x,c)::cs) (λn c' e=>by
    by_cases z:n=x
    ·subst z;simp[GaW] at e;subst e;exact hc
    ·have z' :(n==x)=false:=by simpa using z
     simp[GaW,z'] at e;exact h n c' e)
   refine⟨cl, ?_,h2,λy hy hyf=> ?_,λn c' e=> ?_⟩
   ·rw[List.forIn_cons]
    simp only[hcell]
    exact h1
   ·rcases Gas.mp hy with rfl|hy
    ·exact h4 x c (by simp[GaW])
    ·exact h3 y hy hyf
   ·by_cases z:n=x
    ·subst z;exact h4 n c (by simp[GaW])
    ·have z' :(n==x)=false:=by simpa using z
     exact h4 n c' (by simp[GaW,z',e])
  ·have hk' :(k==NameKind.free)=false:=by simpa using hk
   obtain⟨cl,h1,h2,h3,h4⟩:=iY names (λy hy=>hf y (Gak _ hy)) cs h
   refine⟨cl, ?_,h2,λy hy hyf=> ?_,h4⟩
   ·rw[List.forIn_cons]
    simp only[hk']
    exact h1
   ·rcases Gas.mp hy with rfl|hy
    ·exact absurd hyf hk
    ·exact h3 y hy hyf
theorem iI{env:PySem.Env}{scope:Scope}(hf:∀y∈scope.names,y.2= .free→∃c,env.cells.lookup y.1=some c):
  ∃cl:List (Str×Addr),closureFor scope env=pure cl∧(∀n c,cl.lookup n=some c→env.cells.lookup n=some c)∧∀y∈scope.names,y.2= .free→∃c,cl.lookup y.1=some c:=by
 obtain⟨cl,h1,h2,h3,_⟩:=iY scope.names hf [] (λn c e=>by simp at e)
 refine⟨cl, ?_,h2,h3⟩
 unfold closureFor
 exact(congrArg (λm=>m>>=pure) h1).trans (by rfl)
theorem mem_of_lookup{x:Str}{k:NameKind}:∀{l:List (Str×NameKind)},l.lookup x=some k→(x,k)∈l
 |[],h=>by simp at h
 |(n,k')::r,h=>by
  rw[GaW] at h
  cases hx:x==n with
  |true=>rw[hx] at h;cases h;rw[Gcn] at hx;subst hx;exact Gav
  |false=>rw[hx] at h;exact Gak _ (mem_of_lookup h)
theorem iZ{env:PySem.Env}{x:Str}:∀{names:List (Str×NameKind)},(∀y∈names,y.2≠ .cell)→((names.map λ(n,k)=>if(k==NameKind.free&&env.scope.kind== .function&&env.kindOf n==some .cell) then(n,NameKind.cell) else(n,k)).lookup x=some .cell∨
   (names.map λ(n,k)=>if(k==NameKind.free&&env.scope.kind== .function&&env.kindOf n==some .cell) then(n,NameKind.cell) else(n,k)).lookup x=some .free)→(x,NameKind.free)∈names
 |[],_,h=>by simp at h
 |(n,k)::r,hc,h=>by
  have hk:k≠ .cell:=hc (n,k) Gav
  rw[GaI] at h
  dsimp only at h
  split at h
  ·rename_i q
   have q1:k= .free:=by
    rw[Gaq,Gaq] at q
    simpa using q.1.1
   subst q1
   rw[GaW] at h
   cases hx:x==n with
   |true=>rw[Gcn] at hx;subst hx;exact Gav
   |false=>rw[hx] at h;exact Gak _ (iZ (λy hy=>hc y (Gak _ hy)) h)
  ·rw[GaW] at h
   cases hx:x==n with
   |true=>
    rw[hx] at h
    rw[Gcn] at hx;subst hx
    rcases h with h|h
    ·cases h;exact absurd rfl hk
    ·cases h;exact Gav
   |false=>rw[hx] at h;exact Gak _ (iZ (λy hy=>hc y (Gak _ hy)) h)
theorem dz{env:PySem.Env}{x:Str}:∀{names:List (Str×NameKind)},names.lookup x=some .free→((names.map λ(n,k)=>if(k==NameKind.free&&env.scope.kind== .function&&env.kindOf n==some .cell) then(n,NameKind.cell) else(n,k)).lookup x=some .cell∨
   (names.map λ(n,k)=>if(k==NameKind.free&&env.scope.kind== .function&&env.kindOf n==some .cell) then(n,NameKind.cell) else(n,k)).lookup x=some .free)
 |[],h=>by simp at h
 |(n,k)::r,h=>by
  rw[GaW] at h
  rw[GaI]
  dsimp only
  cases hx:x==n with
  |true=>
   rw[hx] at h;cases h
   split
   ·left;rw[GaW,hx]
   ·right;rw[GaW,hx]
  |false=>
   rw[hx] at h
   split
   ·rw[GaW,hx];exact dz h
   ·rw[GaW,hx];exact dz h
noncomputable def blk(X:Cx)(scope:Scope)(cl:List (Str×Addr))(C:Addr)(N:List Str)(s:Shared)(H:Hp)(ex:List Addr):Cx:=
 {X with N:=N,s₀:=s,H₀:=H,env:=compEnvC scope cl C X.env,outer:=X.stack,ex:=ex,fn:=λ_=>false,pn:=[],xe:=λ_ _=>False}
noncomputable def G2:Option NameKind→Bool
 |some .cell=>true
 |some .free=>true
 |_=>false
structure gT(X:Cx)(scope:Scope)(N:List Str)(n:Nat)(caps:List Nat):Prop where
 cell:(scope.names.all λy=>y.2 != .cell)=true
 kind:scope.kind= .function
 names:(scope.names.all λy=>y.2 != .local||scope.names.lookup y.1==some .local)=true
 free:(scope.names.all λy=>y.2 != .free||G2 (X.env.kindOf y.1))=true
 cap:N.drop n=caps.map λi=>(X.N[i]?).getD ("":Str)
 le:n≤N.length
 lt:(caps.all λi=>decide (i<X.N.length))=true
 fr:((N.drop n).all λx=>scope.names.lookup x==some .free)=true
noncomputable def lH(X:Cx)(ifs:List Expr)(tt:TT):Prop:=∀(pins:List (Addr×Obj)) (s:Shared) (σ:St) (H:Hp) (Q:Bool→Hp→Prop),Inv X pins σ H s→tt σ H Q→
 wpAny (model X.prog X.w) X.A (forIn ifs true λc r=>if r=true then do let ok←isTrue c X.env (eval c X.env);pure (ForInStep.yield ok) else pure (ForInStep.yield r)) (TP X pins σ Q) X.xe s
theorem o8{X:Cx}:lH X [] (tT X jf):=λpins s σ H Q I ⟨_,_,_,_,_,e,k⟩=>by
 cases e
 exact wpAny_tests_nil ⟨H,I,k H bJ⟩
theorem o9{X:Cx}{c:Expr}{t:DT}(h:PTd X c t):lH X [c] (tT X t):=λpins s σ H Q I q=>wpAny_tests_one (h pins s σ H Q I q)
theorem lI{caps:List Nat}{n j:Nat}{α:Type}{f:Nat→Option α}{y:α}(h:(List.replicate n (none:Option α)++caps.map f)[j]? =some (some y)):∃i,caps[j -n]? =some i∧n≤j∧f i=some y:=by
 by_cases hj:j<n
 ·rw[Gbh (by simpa using hj),GcU] at h
  rw[Gag hj] at h;cases h
 ·rw[Gbo (by simp;omega),Gea,Gax] at h
  cases q:caps[j -n]? with
  |none=>rw[q] at h;cases h
  |some i=>rw[q] at h;simp only[Gco,GdM] at h;exact⟨i,rfl,by omega,h⟩
theorem wM{caps:List Nat}{n j i:Nat}{α:Type}{f:Nat→Option α}(h1:caps[j -n]? =some i)(h2:n≤j):(List.replicate n (none:Option α)++caps.map f)[j]? =some (f i):=by
 rw[Gbo (by simp;omega),Gea,Gax,h1];rfl
noncomputable def gU(n:Nat)(caps:List Nat)(σ:St):St:=List.replicate n none++caps.map λi=>σ[i]?.getD none
noncomputable def gV(Bad:Addr→Prop)(env:Env)(σ:St)(p:Addr):Addr→Prop:=λa=>a=p∨¬Cln Bad env σ a
theorem getD_some{α:Type}{o:Option (Option α)}{y:α}(h:o.getD none=some y):o=some (some y):=by
 cases o with
 |none=>cases h
 |some z=>simp only[Option.getD_some] at h;rw[h]
theorem ql{caps:List Nat}{n j:Nat}{env:Env}{sl:Slot}(e:(compEnv n caps env)[j]? =some (some sl)):∃i,caps[j -n]? =some i∧n≤j∧je (env[i]?.getD none)=some sl:=lI e
theorem tK{caps:List Nat}{n j:Nat}{env:Env}{σ:St}{a:Addr}(t:b5 (compEnv n caps env)[j]?)(e:(gU n caps σ)[j]? =some (some (.ref a))):∃i:Nat,b5 env[i]? ∧σ[i]? =some (some (.ref a)):=by
 cases q:(compEnv n caps env)[j]? with
 |none=>rw[q] at t;exact t.elim
 |some z=>
  cases z with
  |none=>rw[q] at t;exact t.elim
  |some sl=>
   obtain⟨i,e1,e2,e3⟩:=ql q
   obtain⟨i',e1',_,e3'⟩:=lI e
   rw[e1] at e1';cases e1'
   refine⟨i, ?_,getD_some e3'⟩
   rw[q] at t
   cases r:env[i]? with
   |none=>rw[r] at e3;cases e3
   |some z=>cases z with
    |none=>rw[r] at e3;cases e3
    |some z=>
     rw[r] at e3
     cases z with
     |sh d=>cases e3;exact t.elim
     |own d=>trivial
     |lok d=>trivial
     |bor d=>trivial
theorem BD{caps:List Nat}{n j:Nat}{env:Env}:¬isO (compEnv n caps env)[j]? :=λt=>by
 match q:(compEnv n caps env)[j]?,t with
 |some (some (.own d)),_=>
  obtain⟨i,_,_,e3⟩:=ql q
  cases q:env[i]?.getD none with
  |none=>rw[q] at e3;cases e3
  |some z=>rw[q] at e3;cases z<;>cases e3
theorem aj.block{K:aa}{H₀:Hp}{Bad:Addr→Prop}{env:Env}{σ:St}{H:Hp}(E:aj K H₀ Bad env σ H)(n:Nat)(caps:List Nat){p:Addr}(hp:H p=none):
  aj K H (gV Bad env σ p) (compEnv n caps env) (gU n caps σ) (upd H p (.lst [])):=by
 have sm:b8 H (upd H p (.lst [])):=aY hp
 have slot:∀(j:Nat) (sl:Slot),(compEnv n caps env)[j]? =some (some sl)→∃i,caps[j -n]? =some i∧n≤j∧je (env[i]?.getD none)=some sl:=λj sl e=>lI e
 have noO:∀(j:Nat) d,(compEnv n caps env)[j]? ≠some (some (.own d))∧(compEnv n caps env)[j]? ≠some (some (.lok d)):=λj d=>by
  constructor<;>
  ·intro e
   obtain⟨i,_,_,e3⟩:=slot j _ e
   cases q:env[i]?.getD none with
   |none=>rw[q] at e3;cases e3
   |some z=>rw[q] at e3;cases z<;>cases e3
 have topAd:∀(j:Nat) a,b5 (compEnv n caps env)[j]? →(gU n caps σ)[j]? =some (some (.ref a))→∃i:Nat,b5 env[i]? ∧σ[i]? =some (some (.ref a)):=λj a t e=>tK t e
 have cln:∀b,Cln Bad env σ b→H b≠none→Cln (gV Bad env σ p) (compEnv n caps env) (gU n caps σ) b:=λb h hb=>by
  refine⟨λz=> ?_,λj t e=> ?_⟩
  ·rcases z with z|z
   ·subst z;exact hb hp
   ·exact z h
  ·obtain⟨i,t',e'⟩:=topAd j b t e
   exact h.2 i t' e'
 refine⟨sm, ?_, ?_, ?_, ?_, ?_, ?_⟩
 ·simp[compEnv,gU]
 ·intro a ha
  rcases ha with ha|ha
  ·subst ha;rw[au];simp
  ·intro z
   refine ha ⟨λb=>E.bad a b (sm.free z),λi t e=>E.jj t e (sm.free z)⟩
 ·intro j d e
  obtain⟨i,e1,e2,e3⟩:=slot j _ e
  have q:env[i]? =some (some (.sh d)):=by
   cases r:env[i]? with
   |none=>rw[r] at e3;cases e3
   |some z=>cases z with
    |none=>rw[r] at e3;cases e3
    |some z=>rw[r] at e3;cases z<;>cases e3;rfl
  obtain⟨v,h1,h2⟩:=E.sh i d q
  refine⟨v, ?_,h2.gen (.of_same sm) cln⟩
  unfold gU
  rw[wM e1 e2,h1];rfl
 ·intro j d e
  rcases e with e|e
  ·exact absurd e (noO j d).1
  ·exact absurd e (noO j d).2
 ·intro j d e
  obtain⟨i,e1,e2,e3⟩:=slot j _ e
  have q:b5 env[i]? ∧(env[i]? =some (some (.own d))∨env[i]? =some (some (.lok d))∨env[i]? =some (some (.bor d))):=by
   cases r:env[i]? with
   |none=>rw[r] at e3;cases e3
   |some z=>cases z with
    |none=>rw[r] at e3;cases e3
    |some z=>
     rw[r] at e3
     cases z with
     |sh d=>cases e3
     |own d=>cases e3;exact⟨trivial,.inl rfl⟩
     |lok d=>cases e3;exact⟨trivial,.inr (.inl rfl)⟩
     |bor d=>cases e3;exact⟨trivial,.inr (.inr rfl)⟩
  have fact:∃a,σ[i]? =some (some (.ref a))∧Wr H a∧d.top=true∧Inn K (Cln Bad env σ) H d (.ref a):=by
   rcases q.2 with q|q|q
   ·obtain⟨a,h1,_,_,h4,h5,h6⟩:=E.ow i d (.inl q);exact⟨a,h1,h4,h5,h6⟩
   ·obtain⟨a,h1,_,_,h4,h5,h6⟩:=E.ow i d (.inr q);exact⟨a,h1,h4,h5,h6⟩
   ·exact E.bo i d q
  obtain⟨a,h1,h4,h5,h6⟩:=fact
  refine⟨a, ?_,h4.same sm,h5,h6.gen (.of_same sm) cln λ_ _ _ o e=>sm _ o e⟩
  unfold gU
  rw[wM e1 e2,h1];rfl
 ·intro j k a t
  exfalso
  cases q:(compEnv n caps env)[j]? with
  |none=>rw[q] at t;exact t
  |some z=>cases z with
   |none=>rw[q] at t;exact t
   |some z=>cases z with
    |sh d=>rw[q] at t;exact t
    |own d=>exact(noO j d).1 q
    |lok d=>exact(noO j d).2 q
    |bor d=>rw[q] at t;exact t
theorem aj.grow{K:aa}{H₀:Hp}{Bad:Addr→Prop}{env:Env}{σ:St}{H:Hp}{p:Addr}{vs us:List V}(E:aj K H₀ Bad env σ H)(hb:Bad p)(h0:H₀ p=none)(hp:H p=some (.lst vs))(hl:∀i:Nat,nC env[i]? →σ[i]? ≠some (some (.ref p))):aj K H₀ Bad env σ (upd H p (.lst us)):=by
 have gJ:gO (Cln Bad env σ) H (upd H p (.lst us)):=λb o e q=>by
  refine(az ?_).trans e
  rintro rfl
  rcases q with q|q
  ·exact q.1 hb
  ·rw[hp] at e;cases e;exact q
 have wr:∀{a},Wr H a→Wr (upd H p (.lst us)) a:=λ{a} ⟨o,h1,h2⟩=>by
  by_cases z:a=p
  ·subst z;exact⟨_,au,trivial⟩
  ·exact⟨o,(az z).trans h1,h2⟩
 refine⟨λb o e=>(az λz=>by subst z;rw[h0] at e;cases e).trans (E.same b o e),E.len,λa ha=> ?_,λi d e=> ?_,λi d e=> ?_,λi d e=> ?_,E.dj⟩
 ·by_cases z:a=p
  ·subst z;rw[au];simp
  ·rw[az z];exact E.bad a ha
 ·obtain⟨v,h1,h2⟩:=E.sh i d e
  exact⟨v,h1,h2.gen gJ λ_ f _=>f⟩
 ·obtain⟨a,h1,h2,h3,h4,h5,h6⟩:=E.ow i d e
  refine⟨a,h1,h2,h3,wr h4,h5,h6.gen gJ (λ_ f _=>f) λb eb _ o q=> ?_⟩
  cases eb
  exact(az (λz:a=p=>h3 (by rw[z];exact hb))).trans q
 ·obtain⟨a,h1,h4,h5,h6⟩:=E.bo i d e
  refine⟨a,h1,wr h4,h5,h6.gen gJ (λ_ f _=>f) λb eb _ o q=> ?_⟩
  cases eb
  exact(az (λz:a=p=>hl i (by rw[e];trivial) (by rw[←z];exact h1))).trans q
open PySem PySem.Spec PyProof.Rows L2
section
variable{X:Cx}{pos:Pos}
theorem dU{env:PySem.Env}{scope:Scope}{x:Str}(h:scope.names.lookup x=some .local):(relabel scope env).names.lookup x=some .local:=lookup_relabel_local h
theorem d3{scope:Scope}{cl:List (Str×Addr)}{C:Addr}{N:List Str}{s:Shared}{H:Hp}{ex:List Addr}{x:Str}(h:scope.names.lookup x=some .local):Vis (blk X scope cl C N s H ex).env.scope x:= .inl (dU h)
theorem ip{scope:Scope}{cl:List (Str×Addr)}{C:Addr}{N:List Str}{s:Shared}{H:Hp}{ex:List Addr}{x:Str}(h:scope.names.lookup x=some .local):Loc (blk X scope cl C N s H ex).env.scope x:= .inl (dU h)
theorem dW{scope:Scope}{cl:List (Str×Addr)}{C:Addr}{N:List Str}{s:Shared}{H:Hp}{ex:List Addr}{x:Str}(h:scope.names.lookup x=some .free):Vis (blk X scope cl C N s H ex).env.scope x:= .inr (dz h)
theorem uT{scope:Scope}{cl:List (Str×Addr)}{N:List Str}{n:Nat}{caps:List Nat}{pins:List (Addr×Obj)}{σ:St}{H:Hp}{s:Shared}{fp:List Addr}{h₁:Heap}{tk:Nat}{C:Addr}(S:gT X scope N n caps)(I:Inv X pins σ H s)
  (hcl:∀x c,cl.lookup x=some c→X.env.cells.lookup x=some c)(hfr:∀y∈scope.names,y.2= .free→∃c,cl.lookup y.1=some c)(hf:∀b∈fp,jP X pins H b)(hfo:∀b∈fp,b<s.heap.objs.size)
  (hC:s.heap.objs.size+1=C)(hns:h₁.Ns C λ_=>none)(old:∀b o,s.heap.get? b=some o→h₁.get? b=some o)(hacc:h₁.get? s.heap.objs.size=some {cls:= .type "list",data:= .seq ([]:List Value).toArray}):
  Inv (blk X scope cl C N s H fp) [] (gU n caps σ) (upd H s.heap.objs.size (.lst [])) {s with heap:=h₁,toks:=tk}:=by
 have hpn:=I.fresh
 have hCn:H C=none:=I.hok.fresh (by omega)
 have hne:C≠s.heap.objs.size:=λz=>by rw[z] at hC;exact Nat.succ_ne_self _ hC
 have hcell:∀y∈scope.names,y.2≠ .cell:=λy hy z=>by
  have:=Gat.mp S.cell y hy
  rw[z] at this;simp at this
 have cells:∀x c,cl.lookup x=some c→∃v,s.heap.IsCell c v:=λx c e=>I.cell x c (hcl x c e)
 have cNe:∀x c,cl.lookup x=some c→c≠s.heap.objs.size:=λx c e z=>by
  obtain⟨v,q⟩:=cells x c e
  exact absurd q.lt (by rw[z];exact Gbt _)
 refine⟨⟨I.ok.mod,S.kind,I.ok.glob,I.ok.blt,by show s.heap.objs.size≤C;omega,λx y c e1 e2=>I.ok.inj x y c (hcl x c e1) (hcl y c e2),λx hx=> ?_,λx c e=>(by cases e),I.ok.hd,I.ok.frames,.inl rfl,λb hb=> ⟨?_,λx c e=>(hf b hb).2.2.2.2.1 x c (hcl x c e)⟩,
  I.bs,GbQ I.ok.bsz I.sz,λb o e hb=> ?_,λb hb hs=> ?_,I.stack,I.t5⟩,rfl,I.bare,Un.laid old (Gau _) hpn,⟨_,hns,λj x v e1 e2 e3=> ?_⟩,λx c e=> ?_,(az hne).trans hCn,λx c e=>(az (cNe x c e)).trans (I.ie x c (hcl x c e)),λp hp=> ?_, ?_, ?_⟩
 ·obtain⟨c,hc⟩:=hfr (x,.free) (iZ hcell hx) rfl
  exact⟨c,hc⟩
 ·intro z
  have:=hfo b hb
  have z' :b=C:=z
  rw[z',←hC] at this
  exact Gbt _ (Nat.lt_of_succ_lt this)
 ·rcases(hf b hb).2.2.2.1 with z|z
  ·exact I.ok.AS b o e z
  ·exact absurd (GaG (Gam e) (GbQ I.ok.bsz z)) (Gbt _)
 ·have hs' :b∈frs X.stack:=hs
  rcases Gas.mp (I.rC b hs') with z|z
  ·exact(hf b hb).2.1 z
  ·exact(hf b hb).2.2.1 z
 ·
  obtain⟨i,f1,f2,f3⟩:=lI e2
  have f3' :=getD_some f3
  have e1' :N[j]? =some x:=e1
  have hd:(N.drop n)[j -n]? =some x:=by rw[Gbd];rw[show n+(j -n)=j by omega];exact e1'
  have hxf:scope.names.lookup x=some .free:=by
   have:=Gat.mp S.fr x (GaO hd)
   simpa using this
  rw[S.cap,Gax,f1] at hd
  have hi:i<X.N.length:=GaN (Gat.mp S.lt i (GaO f1))
  have hXN:X.N[i]? =some x:=by
   simp only[Gco,GdM] at hd
   rw[Gac hi] at hd⊢
   simpa using hd
  have hk:G2 (X.env.kindOf x)=true:=by
   have:=Gat.mp S.free (x,.free) (mem_of_lookup hxf)
   simpa using this
  have hk' :X.env.kindOf x=some .cell∨X.env.kindOf x=some .free:=by
   cases q:X.env.kindOf x with
   |none=>rw[q] at hk;cases hk
   |some z=>rw[q] at hk;cases z<;>first|(cases hk;done)|exact .inl rfl|exact .inr rfl
  obtain⟨m,hm,look⟩:=I.loc
  have hv:Vis X.env.scope x:= .inr hk'
  obtain⟨u,ru,l⟩:=look i x v hXN f3' hv
  refine⟨u,ru,.inr ⟨?_, ?_⟩⟩
  ·exact dz hxf
  ·rcases l with⟨l,_⟩| ⟨_,c,hc,o,ho,hdt⟩
   ·rcases hk' with z|z<;>rw[l] at z<;>cases z
   ·obtain⟨c',hc'⟩:=hfr (x,.free) (mem_of_lookup hxf) rfl
    have:=hcl x c' hc'
    rw[hc] at this;cases this
    exact⟨c,hc',o,old _ _ ho,hdt⟩
 ·obtain⟨v,o,ho,hdt⟩:=cells x c e
  exact⟨v,o,old _ _ ho,hdt⟩
 ·cases hp
 ·exact I.hok.laid old (Gau _) ⟨GaJ _,[],0,.nil,hacc⟩
 ·show(gU n caps σ).length=N.length
  have:=congrArg List.length S.cap
  rw[List.length_drop,Gar] at this
  have:=S.le
  simp[gU]
  omega
theorem BE{scope:Scope}{cl:List (Str×Addr)}{N:List Str}{C:Addr}{pins pins' :List (Addr×Obj)}{σ σ' :St}{H H' :Hp}{s s' :Shared}{fp:List Addr}(I:Inv X pins σ H s)(hf:∀b∈fp,jP X pins H b)
  (I' :Inv (blk X scope cl C N s H fp) pins' σ' H' s'):Inv X pins σ H' s' :=
 I.EW I'.os I'.base I'.hok I'.bare λb hb=> ⟨(hf b hb).2.2.2.1,(hf b hb).2.1,(hf b hb).2.2.2.2.1,(hf b hb).2.2.2.2.2⟩
noncomputable def G3(K:aa)(H H' :Hp)(F:Addr→Prop)(p:Addr)(rs:List D):Prop:=b8 H H' ∧H p=none∧∃vs,H' p=some (.lst vs)∧aq K (λb=>F b∧b≠p) H' rs vs
noncomputable def tL(gd:DG):Prop:=∀d e e',gd d e=some e' →(∀j:Nat,¬isO e[j]?)→∀j:Nat,¬isO e'[j]?
theorem BF{e:Env}{i:Nat}{d:D}(h:∀j:Nat,¬isO e[j]?):∀j:Nat,¬isO (e.set i (some (.sh d)))[j]? :=λj z=>by
 by_cases q:i=j
 ·subst q
  by_cases hl:i<e.length
  ·rw[Gbj hl] at z;exact z
  ·rw[GaV (by simp;omega)] at z;exact z
 ·rw[Gah q] at z;exact h j z
theorem jn{i:Nat}:tL (gN i):=λd e e' h n=>by cases h;exact BF n
theorem oe{scope:Scope}{cl:List (Str×Addr)}{N:List Str}{n:Nat}{caps:List Nat}{pins:List (Addr×Obj)}{σ:St}{H H₀:Hp}{s:Shared}{fp:List Addr}{it:Addr}{tn:Nat→Heap→Prop}{J:It}{tg iter elt:Expr}{ifs:List Expr}{E:Value→Shared→Prop}
  {gd:DG}{t:DT}{f:DE}{ds rs:List D}{Bad:Addr→Prop}{env:Env}{RR:Value→Addr→Result→Shared→Prop}(hc:X.calm=true)(S:gT X scope N n caps)(I:Inv X pins σ H s)
  (hcl:∀x c,cl.lookup x=some c→X.env.cells.lookup x=some c)(hfr:∀y∈scope.names,y.2= .free→∃c,cl.lookup y.1=some c)(hf:∀b∈fp,jP X pins H b)(T:Turn X.prog X.w X.K tg J fp it tn)(st:tn 0 s.heap)
  (hg:∀C s' H',PGd (blk X scope cl C N s' H' fp) tg gd)(ht:∀C s' H',lH (blk X scope cl C N s' H' fp) ifs (tT X t))(he:∀C s' H',PEd (blk X scope cl C N s' H' fp) elt f)
  (EE:aj X.K H₀ Bad env σ H)(io:wD X.K (λb=>Cln Bad env σ b∧H b≠none) (λb=>¬Ow env σ b) J ds H)(hgo:tL gd)(hz:ds.length≤ao)(hl:cF gd t f ds (compEnv n caps env)=some rs)
  (hRR:∀p C s' H' m,Inv X pins σ H' s' →s'.heap.Ns C m→s.heap.objs.size≤C→jP X pins H' C→G3 X.K H H' (Cln Bad env σ) p rs→RR (.ref p) C (.ok .next) s'):
  wpAny (model X.prog X.w) X.A (newList []) (λacc s₃=>wpAny (model X.prog X.w) X.A (newFunctionEnv scope X.env.globals cl [] X.env.qual none .none (some X.env)) (λcenv s₄=>
   codeAny (model X.prog X.w) X.A (.compStart (.ListComp elt [⟨tg,iter,ifs,0⟩] scope pos) 0 (.ref it) acc {cenv with scope:=relabel scope X.env}) (RR acc cenv.locals) s₄) E s₃) E s:=by
 have hcell:∀y∈scope.names,y.2≠ .cell:=λy hy z=>by
  have:=Gat.mp S.cell y hy
  rw[z] at this;simp at this
 refine GaX (wpAny_newFunctionEnv hcell (by intro y hy;simp at hy) (λh₁ hns₁ hsb₁=> ?_) S.kind)
 dsimp only at hns₁ hsb₁⊢
 generalize hH2:s.heap.push {cls:= .type "list",dict:=none,data:= .seq ([]:List Value).toArray}=H2 at hns₁ hsb₁⊢
 have hC:s.heap.objs.size+1=H2.objs.size:=by rw[←hH2,GbK]
 have hDC:s.heap.objs.size≠H2.objs.size:=by rw[←hC];exact GaA (GbR _)
 have hCle:s.heap.objs.size≤H2.objs.size:=by rw[←hC];exact Gde _
 have old:∀b o,s.heap.get? b=some o→h₁.get? b=some o:=λb o e=>hsb₁.extBut b o (by rw[←hC];exact GaA (Gcs (Gam e))) (Gad _ (hH2▸Gad _ e))
 have hacc:h₁.get? s.heap.objs.size=some {cls:= .type "list",data:= .seq ([]:List Value).toArray}:=hsb₁.extBut _ _ hDC (Gad _ (hH2▸Gan _ rfl))
 have hfo:∀b∈fp,b<s.heap.objs.size:=λb hb=>by obtain⟨o,e,_⟩:=T.obj 0 _ st b hb;exact Gam e
 have st₁:tn 0 h₁:=T.keep 0 _ _ st λb _ o e=>old b o e
 have hpn:=I.fresh
 generalize hC' :H2.objs.size=C at*
 have I1:Inv (blk X scope cl C N s H fp) [] (gU n caps σ) (upd H s.heap.objs.size (.lst [])) {s with heap:=h₁,toks:=s.toks+([]:List (Str×Value)).length}:=uT S I hcl hfr hf hfo hC (by
  have z:(λx:Str=>([]:List (Str×Value)).reverse.lookup x)=λ_=>none:=by funext x;rfl
  rw[z] at hns₁;exact hns₁) old hacc
 have E1:=EE.block n caps hpn
 generalize hp:s.heap.objs.size=p at*
 have loop:codeAny (model X.prog X.w) X.A (.compLoop (.ListComp elt [⟨tg,iter,ifs,0⟩] scope pos) 0 (.ref it) (.ref p) (compEnvC scope cl C X.env)) (RR (.ref p) C) {s with heap:=h₁,toks:=s.toks+([]:List (Str×Value)).length}:=by
  refine codeAny_loop rfl (λm s' =>∃i σi Hi envi vs done rest,m=ds.length -i∧i≤ds.length∧Inv (blk X scope cl C N s H fp) [] σi Hi s' ∧tn i s'.heap∧(∀b∈fp,Hi b=none)∧aj X.K H (gV Bad env σ p) envi σi Hi∧Hi p=some (.lst vs)∧
   aq X.K (λb=>Cln Bad env σ b∧b≠p) Hi done vs∧(∀j:Nat,¬isO envi[j]?)∧(∀(j:Nat) a,nC envi[j]? →σi[j]? =some (some (.ref a))→¬Cln Bad env σ a)∧done.length≤i∧cF gd t f (ds.drop i) envi=some rest∧done++rest=rs) ?_ ds.length ?_
  ·rintro m s' ⟨i,σi,Hi,envi,vs,done,rest,rfl,hi,Ii,sti,fri,Ei,hpi,ri,owi,lbi,dl,ci,eqi⟩
   have hfi:∀{H' :Hp},(∀b∈fp,H' b=none)→∀b∈fp,jP (blk X scope cl C N s H fp) [] H' b:=λhn b hb=>by
    refine⟨hn b hb,(Ii.ok.exf b hb).1,Ii.ok.AU b hb,.inl hb,(Ii.ok.exf b hb).2,λq hq=>(by cases hq)⟩
   have keepAll:∀b o,H b=some o→Hi b=some o:=Ei.same
   obtain⟨items,stop⟩:=io Hi λb o hb _=>keepAll b o hb
   show wpAny _ X.A ((compTurn (.ListComp elt [⟨tg,iter,ifs,0⟩] scope pos) 0 (.ref it) (.ref p) (compEnvC scope cl C X.env)).onRaise (λx=>do noteFrame x (compEnvC scope cl C X.env);theTreesLotGoes x)) _ _ s'
   refine wpAny_noted ?_
   rw[compTurn_list]
   refine Gaa (wpAny_standAt (Gaa ?_))
   by_cases hlt:i<ds.length
   ·obtain⟨go,yld⟩:=items i ds[i] (by simp[hlt])
    refine thn (T.item (blk X scope cl C N s H fp) rfl rfl rfl hc i [] s' σi Hi _ Ii (hfi fri) sti go) λr s4 ⟨u,hr,h4⟩=> ?_
    subst hr
    refine Gaa (thn h4 λ_ s5 ⟨x,H5,I5,r5,y5,st5,fr5⟩=> ?_)
    obtain⟨s2,rep⟩:=yld x H5 y5
    have I5' :=I5.pinned (hfi fr5) (T.obj _ _ st5)
    have hd:ds.drop i=ds[i]::ds.drop (i+1):=GbL hlt
    rw[hd] at ci
    unfold cF at ci
    obtain⟨e2,hg2,ci⟩:=bind_some ci
    obtain⟨bb,ht2,ci⟩:=bind_some ci
    have clnIn:∀b,Cln Bad env σ b∧H b≠none→Cln (gV Bad env σ p) envi σi b:=λb ⟨q1,q2⟩=>by
     refine⟨λz=>z.elim (λz=>q2 (by rw[z];exact hpn)) λz=>z q1,λj tj ej=> ?_⟩
     rcases nV tj with o|o
     ·exact owi j o
     ·exact lbi j b o ej q1
    refine Gaa (thn (GbU (hg C s H _ s5 σi H5 x u (λσ6 H6=>aj X.K H (gV Bad env σ p) e2 σ6 H6∧Stp envi σi H5 e2 σ6 H6) I5' r5 ⟨H,gV Bad env σ p,envi,ds[i],e2,Ei.mono s2,hg2,rep.imp clnIn,λσ' H' E' p' => ⟨E',p'⟩⟩) (λ_ _ q=>q) λ_ _ q=>q.elim) λ_ s6 ⟨σ6,H6,I6,E6,p6⟩=> ?_)
    have noO6:=hgo _ _ _ hg2 owi
    have s56:b8 H5 H6:=λb o e=>p6.keep b o e λ⟨j,z,_⟩=>owi j z
    have lb6:∀(j:Nat) a,nC e2[j]? →σ6[j]? =some (some (.ref a))→¬Cln Bad env σ a:=λj a z ej=>by
     obtain⟨q1,q2⟩:=p6.lk j z
     rw[q1] at z;rw[q2] at ej
     exact lbi j a z ej
    have again:∀{H7:Hp} {s7:Shared} {vs' :List V} {done' rest' :List D},Inv (blk X scope cl C N s H fp) ([]++lU fp s5.heap) σ6 H7 s7→aj X.K H (gV Bad env σ p) e2 σ6 H7→H7 p=some (.lst vs')→aq X.K (λb=>Cln Bad env σ b∧b≠p) H7 done' vs' →
      done'.length≤i+1→cF gd t f (ds.drop (i+1)) e2=some rest' →done' ++rest' =rs→
      ∃m,m<ds.length -i∧∃i σi Hi envi vs done rest,m=ds.length -i∧i≤ds.length∧Inv (blk X scope cl C N s H fp) [] σi Hi s7∧tn i s7.heap∧(∀b∈fp,Hi b=none)∧aj X.K H (gV Bad env σ p) envi σi Hi∧Hi p=some (.lst vs)∧
       aq X.K (λb=>Cln Bad env σ b∧b≠p) Hi done vs∧(∀j:Nat,¬isO envi[j]?)∧(∀(j:Nat) a,nC envi[j]? →σi[j]? =some (some (.ref a))→¬Cln Bad env σ a)∧done.length≤i∧cF gd t f (ds.drop i) envi=some rest∧done++rest=rs:=by
     intro H7 s7 vs' done' rest' I7 E7 hp7 r7 dl7 c7 q7
     refine⟨ds.length -(i+1),by omega,i+1,σ6,H7,e2,vs',done',rest',rfl,hlt,I7.jc,T.keep _ _ _ st5 λb hb o e=>(I7.pin (b,o) (Gbl _ (Gbl _ (fT hb e)))).1,λb hb=> ?_,E7,hp7,r7,noO6,lb6,dl7,c7,q7⟩
     obtain⟨o,e,d⟩:=T.obj _ _ st5 b hb
     exact(I7.pin (b,o) (Gbl _ (Gbl _ (fT hb e)))).2.1
    refine Gaa (thn (GbU (ht C s H _ s6 σ6 H6 (λb' H7=>b' =bb∧b8 H6 H7) I6 ⟨H,gV Bad env σ p,e2,bb,E6,ht2,λH' s' => ⟨rfl,s'⟩⟩) (λ_ _ q=>q) λ_ _ q=>q.elim) λok s7 ⟨H7,I7,hok,s67⟩=> ?_)
    subst hok
    have sAll:b8 Hi H7:=s2.trans (s56.trans s67)
    have E7:=E6.mono s67
    have hp7:H7 p=some (.lst vs):=sAll _ _ hpi
    have r7:=ri.gen (F' :=λb=>Cln Bad env σ b∧b≠p) (.of_same sAll) λ_ q _=>q
    cases ok with
    |false=>
     rw[Gae Gay] at ci
     exact Gab ⟨rfl,again I7 E7 hp7 r7 (Gev dl) ci eqi⟩
    |true=>
     rw[Gag rfl] at ci
     obtain⟨r,hr,ci⟩:=bind_some ci
     split at ci
     ·rename_i hfree
      obtain⟨rest',c8,rfl⟩:=Gaj.mp ci
      refine Gaa (Gaa (thn (GbU (he C s H _ s7 σ6 H7 (λv H8=>b8 H7 H8∧fB X.K H (gV Bad env σ p) e2 σ6 H7 H8 r v) I7 ⟨H,gV Bad env σ p,e2,r,E7,hr,λv H' s' R=> ⟨s',R⟩⟩) (λ_ _ q=>q) λ_ _ q=>q.elim) λy s8 ⟨v,H8,I8,ry,s78,R⟩=> ?_))
      have E8:=E7.mono s78
      have hp8:H8 p=some (.lst vs):=s78 _ _ hp7
      have r8:=(r7.gen (F' :=λb=>Cln Bad env σ b∧b≠p) (.of_same s78) λ_ q _=>q)
      have vr:Rep X.K (λb=>Cln Bad env σ b∧b≠p) H8 r.d v:=(R.rep E7 hfree).imp λb q=> ⟨Classical.byContradiction λz=>q.1 (.inr z),λz=>q.1 (.inl z)⟩
      have hlen:vs.length<sizeLine:=by
       rw[←size_eq,←ri.1];omega
      refine Gaa (thn (GbU (nS (X:=blk X scope cl C N s H fp) _ s8 σ6 H8 (.ref p) [v] (.ref p) [y] (λ_ H9=>H9=upd H8 p (.lst (vs++[v]))) I8 rfl (.cons ry .nil) ⟨p,vs,v,rfl,rfl,hp8,hlen,rfl⟩) (λ_ _ q=>q) λ_ _ q=>q.elim) λ_ s9 ⟨_,H9,I9,_,h9⟩=> ?_)
      subst h9
      have lbp:∀j:Nat,nC e2[j]? →σ6[j]? ≠some (some (.ref p)):=λj z ej=>lb6 j p z ej (EE.oZ hpn)
      have gJ:gO (λb=>Cln Bad env σ b∧b≠p) H8 (upd H8 p (.lst (vs++[v]))):=λb o e q=>by
       refine(az ?_).trans e
       rintro rfl
       rcases q with q|q
       ·exact q.2 rfl
       ·rw[hp8] at e;cases e;exact q
      refine Gab (Gab ⟨rfl,again I9 (E8.grow (.inl rfl) hpn hp8 lbp) au ((r8.append (aq.cons vr .nil)).gen gJ λ_ q _=>q) (by simp;omega) c8 ?_⟩)
      rw[←eqi,GaF];rfl
     ·cases ci
   ·have hi' :i=ds.length:=by omega
    subst hi'
    rw[GcP] at ci
    cases ci
    rw[Gca] at eqi
    subst eqi
    refine thn (T.done (blk X scope cl C N s H fp) rfl rfl rfl hc ds.length [] s' σi Hi _ Ii (hfi fri) sti stop) λr s4 ⟨hr,I4⟩=> ?_
    subst hr
    obtain⟨m,hm,_⟩:=I4.loc
    have IX:=BE I hf I4
    exact Gab (hRR p C s4 Hi m IX hm hCle ⟨I4.free,(I.CV (by rw[hp];exact hCle) (I.hok.fresh (by rw[hp];exact hCle))).2⟩ ⟨keepAll,hpn,vs,hpi,ri⟩)
  ·exact⟨0,_,_,_,[],[],rs,by simp,GaJ _,I1,st₁,λb hb=>(az (by rintro rfl;exact Gbt _ (hfo _ hb))).trans (hf b hb).1,E1,au,aq.nil,λj=>BD,λj a z e=>by
    obtain⟨i,t1,t2⟩:=tK z.top e
    exactλq=>q.2 i t1 t2,Gau _,by simpa using hl,rfl⟩
 exact codeAny_compStart_list loop (T.self X.A 0 _ _ _ st₁ loop)
end
open PySem PySem.Spec PyProof.Rows L2
section
variable{X:Cx}{pos:Pos}
theorem jo{n:Nat}{caps:List Nat}{l:Option Nat}{env:Env}:compEnv n caps (aN l env)=compEnv n caps env:=by
 cases l with
 |none=>rfl
 |some j=>
  unfold aN
  dsimp only
  split
  ·rename_i d q
   unfold compEnv
   congr 1
   apply Geo
   intro i _
   by_cases z:j=i
   ·subst z
    rw[Gbj (Gaf.mp q).1,q];rfl
   ·rw[Gah z]
  ·rfl
theorem gT.cells{scope:Scope}{N:List Str}{n:Nat}{caps:List Nat}{pins:List (Addr×Obj)}{σ:St}{H:Hp}{s:Shared}(S:gT X scope N n caps)(I:Inv X pins σ H s):∀y∈scope.names,y.2= .free→∃c,X.env.cells.lookup y.1=some c:=λy hy hf=>by
 have hk:=Gat.mp S.free y hy
 rw[hf] at hk
 simp only[GdN,Get] at hk
 refine I.ok.has y.1 ?_
 cases q:X.env.kindOf y.1 with
 |none=>rw[q] at hk;cases hk
 |some z=>rw[q] at hk;cases z<;>first|(cases hk;done)|exact .inl rfl|exact .inr rfl
theorem gT.wN{scope:Scope}{N:List Str}{n:Nat}{caps:List Nat}(S:gT X scope N n caps):∀y∈scope.names,y.2= .local→scope.names.lookup y.1=some .local:=λy hy hl=>by
 have:=Gat.mp S.names y hy
 rw[hl] at this
 simpa using this
structure Blk(X:Cx)(scope:Scope)(N:List Str)(tg elt:Expr)(ifs:List Expr)(gd:DG)(t:DT)(f:DE):Prop where
 g:∀cl C s H ex,PGd (blk X scope cl C N s H ex) tg gd
 t:∀cl C s H ex,lH (blk X scope cl C N s H ex) ifs (tT X t)
 e:∀cl C s H ex,PEd (blk X scope cl C N s H ex) elt f
theorem _root_.L2.Inv.Cw{pins:List (Addr×Obj)}{σ:St}{H:Hp}{s:Shared}{C:Addr}{h' :Heap}(I:Inv X pins σ H s)(F:jP X pins H C)(hs:Heap.SameBut C s.heap h'):Inv X pins σ H {s with heap:=h' }:=
 I.turned (t' :=s.toks) (λb o hb e=>(hs.2 b hb).trans e) F.1 F.2.1 F.2.2.2.1 F.2.2.2.2.1 F.2.2.2.2.2
theorem tM{tg iter elt:Expr}{ifs:List Expr}{scope:Scope}{N:List Str}{n:Nat}{caps:List Nat}{l:Option Nat}{src:DI}{gd:DG}{t:DT}{f:DE}(hc:X.calm=true)(S:gT X scope N n caps)(hi:PId X tg iter src)(hgo:tL gd)(B:Blk X scope N tg elt ifs gd t f)
  (hs:∀x,foldedSetIterable iter X.env x=pure x:=by intro _;rfl):PEd X (.ListComp elt [⟨tg,iter,ifs,0⟩] scope pos) (iG l n caps src gd t f):=by
 intro pins s σ H Q I hw
 obtain⟨H₀,Bad,env,r,E,e,k⟩:=hw
 unfold iG at e
 obtain⟨ds,hds,e⟩:=bind_some e
 split at e
 ·rename_i hz
  obtain⟨rs,hrs,rfl⟩:=Gaj.mp e
  obtain⟨EL,lo,tops⟩:=E.lock l
  obtain⟨cl,h1,h2,h3⟩:=iI (S.cells I)
  rw[eval_ListComp]
  refine wpAny_comprehension_free (use:=none) rfl hs h1 S.kind S.wN ?_
  refine thn (hi pins s σ H (λJ H' =>b8 H H' ∧wD X.K (λb=>Cln Bad (aN l env) σ b∧H' b≠none) (λb=>¬Ow (aN l env) σ b) J ds H') I ⟨H₀,Bad,aN l env,ds,EL,hds,λJ H' s' io=> ⟨s',io⟩⟩) λv s1 q1=>thn q1 λitv s2 q2=> ?_
  obtain⟨it,fp,tn,J,H2,e,I2,T,st2,f2,sH,io⟩:=q2
  subst e
  refine oe (RR:=λacc C=>compPost (model X.prog X.w) X.A X.xe none (EP X pins σ Q) acc C) hc S I2 h2 h3 f2 T st2 (λC s' H' =>B.g cl C s' H' fp) (λC s' H' =>B.t cl C s' H' fp) (λC s' H' =>B.e cl C s' H' fp) (EL.mono sH) io hgo hz (by rw[jo];exact hrs) ?_
  intro p C s' H' m IX hm hC hF G
  refine⟨m,hm,λh' hs' => ⟨.ref p,H',IX.Cw hF hs',rfl, ?_⟩⟩
  obtain⟨g1,g2,vs,g3,g4⟩:=G
  exact k _ H' (sH.trans g1) ⟨p,rfl,sH.free g2,⟨_,g3,trivial⟩,rfl,.lst (.inl g3) (g4.gen (.of_same bJ) λb q _=> ⟨⟨q.1.1,λi ti ei=>q.1.2 i ((tops i).mpr ti) ei⟩,q.2⟩)⟩
 ·cases e
theorem tN{i:Nat}{x:Str}{pos' lpos:Pos}{tg iter elt:Expr}{ifs:List Expr}{scope:Scope}{N:List Str}{n:Nat}{caps:List Nat}{l:Option Nat}{src:DI}{gd:DG}{t:DT}{f:DE}(hN:X.N.Nodup)(hi' :X.N[i]? =some x)(hx:Loc X.env.scope x)(hc:X.calm=true)(S:gT X scope N n caps)
  (hi:PId X tg iter src)(hgo:tL gd)(B:Blk X scope N tg elt ifs gd t f)
  (hsw:swapsWith (.ListComp elt [⟨tg,iter,ifs,0⟩] scope lpos) (some (.Name x pos')) pos.line X.env=pure true:=by rfl)(hs:∀x,foldedSetIterable iter X.env x=pure x:=by intro _;rfl)
  (hf:X.fn x=true∨X.env.scope.names.lookup x=some .local:=by first|exact .inl rfl|exact .inr rfl|assumption):PSd X (.Assign [.Name x pos'] (.ListComp elt [⟨tg,iter,ifs,0⟩] scope lpos) pos) (cN i (iG l n caps src gd t f)):=by
 intro pins s σ H D I hw
 have hl:=I.len
 obtain⟨H₀,Bad,env,o,E,e,k⟩:=hw
 obtain⟨r,hr,e⟩:=bind_some e
 obtain⟨e',hst,rfl⟩:=Gaj.mp e
 have hie:i<env.length:=wC E hl hi'
 unfold iG at hr
 obtain⟨ds,hds,hr⟩:=bind_some hr
 split at hr
 ·rename_i hz
  obtain⟨rs,hrs,rfl⟩:=Gaj.mp hr
  cases hst
  obtain⟨EL,lo,tops⟩:=E.lock l
  obtain⟨cl,h1,h2,h3⟩:=iI (S.cells I)
  rw[exec_Assign_Name_used _ _ _ _ hsw]
  refine Gaa (wpAny_standAt (Gaa ?_))
  show wpAny _ X.A (do let _←comprehension (.ListComp elt [⟨tg,iter,ifs,0⟩] scope lpos) scope X.env _ (newList []) false (eval iter X.env) (some (assign (.Name x pos') X.env))) _ _ s
  refine Gaa (GbU (wpAny_comprehension_free (use:=some (assign (.Name x pos') X.env)) (Q:=λ_ s' =>SP X pins D .next s') rfl hs h1 S.kind S.wN ?_) (λ_ s' hq=>Gab (Gab hq)) λ_ _ e=>e)
  refine thn (hi pins s σ H (λJ H' =>b8 H H' ∧wD X.K (λb=>Cln Bad (aN l env) σ b∧H' b≠none) (λb=>¬Ow (aN l env) σ b) J ds H') I ⟨H₀,Bad,aN l env,ds,EL,hds,λJ H' s' io=> ⟨s',io⟩⟩) λv s1 q1=>thn q1 λitv s2 q2=> ?_
  obtain⟨it,fp,tn,J,H2,e,I2,T,st2,f2,sH,io⟩:=q2
  subst e
  refine oe (RR:=λacc C=>compPost (model X.prog X.w) X.A X.xe (some (assign (.Name x pos') X.env)) (λ_ s' =>SP X pins D .next s') acc C) hc S I2 h2 h3 f2 T st2 (λC s' H' =>B.g cl C s' H' fp) (λC s' H' =>B.t cl C s' H' fp) (λC s' H' =>B.e cl C s' H' fp) (EL.mono sH) io hgo hz (by rw[jo];exact hrs) ?_
  intro p C s' H' m IX hm hC hF G
  obtain⟨g1,g2,vs,g3,g4⟩:=G
  show wpAny _ X.A (assign (.Name x pos') X.env (.ref p)) _ _ _
  refine wpAny_assign_Name (nN IX hN hi' hx (v:= .ref p) rfl (λs'' I'' ⟨a,hsb,ha⟩=> ?_) hf)
  have hCa:C≠a:=by
   rcases ha with ha|ha
   ·rw[ha];exact hF.2.1
   ·exactλz=>hF.2.2.2.2.1 x a ha z.symm
  refine⟨m,hm.sameBut hsb hCa,λh' hs' => ⟨_,H',I''.Cw hF hs', ?_⟩⟩
  exact k _ H' (E.mj (sH.trans g1) hie (sH.free g2) ⟨_,g3,trivial⟩ rfl (.lst (.inl g3) (g4.gen (.of_same bJ) λb q _=> ⟨⟨q.1.1,λi ti ei=>q.1.2 i ((tops i).mpr ti) ei⟩,q.2⟩))) (.mj (sH.trans g1) hie E.len (sH.free g2))
 ·cases hr
end
open PySem PySem.Spec PyProof.Rows L2
theorem j0{env:PySem.Env}{x:Str}:∀{names:List (Str×NameKind)},names.lookup x=some .globalImplicit→(names.map λ(n,k)=>if(k==NameKind.free&&env.scope.kind== .function&&env.kindOf n==some .cell) then(n,NameKind.cell) else(n,k)).lookup x=some .globalImplicit
 |[],h=>by simp at h
 |(n,k)::r,h=>by
  rw[GaW] at h
  rw[GaI]
  dsimp only
  cases hx:x==n with
  |true=>
   rw[hx] at h;cases h
   rw[Gae (by simp),GaW,hx]
  |false=>
   rw[hx] at h
   split
   ·rw[GaW,hx];exact j0 h
   ·rw[GaW,hx];exact j0 h
section
variable{X:Cx}{scope:Scope}{cl:List (Str×Addr)}{C:Addr}{N:List Str}{s:Shared}{H:Hp}{ex:List Addr}{x:Str}
theorem rT(h:scope.names.lookup x=some .globalImplicit):Gl (blk X scope cl C N s H ex) x:=j0 h
theorem ph(h:N.Nodup):(blk X scope cl C N s H ex).N.Nodup:=h
theorem pj(h:scope.names.lookup x=some .local):(blk X scope cl C N s H ex).fn x=true∨(blk X scope cl C N s H ex).env.scope.names.lookup x=some .local:= .inr (dU h)
end
open PySem PySem.Spec PyProof.Rows L2
section
variable{X:Cx}{e a b c:Expr}{f g h:DE}{pos:Pos}
theorem _root_.L2.PO.aC{e:Option Expr}{t t' :TO}(h:PO X e t')(i:∀σ H Q,t σ H Q→t' σ H Q):PO X e t:=λpins s σ H Q I q=>h pins s σ H Q I (i σ H Q q)
theorem wO{pins:List (Addr×Obj)}{σ:St}{H:Hp}{s:Shared}{p:Addr}{ys:List V}{Q:Value→Shared→Prop}{E:Value→Shared→Prop}(hc:X.calm=true)(I:Inv X pins σ H s)(h:SqL X.K H p ys∨SqT X.K H p ys)
  (k:∀(It:Addr) fp wr P St (s₂:Shared),Walks X.prog X.w X.A.in1 It fp wr ys.length P St→St 0 s₂.heap→(∀b∈fp,b<s₂.heap.objs.size)→(∀(i:Nat) v,P i v→∃y,ys[i]? =some y∧RelV y v)→
   (∀h' tk,(∀b o,b∉wr→s₂.heap.get? b=some o→h'.get? b=some o)→Inv X pins σ H {s₂ with heap:=h',toks:=tk})→Q (.ref It) s₂):wpAny (model X.prog X.w) X.A.in1 (pyIter (.ref p)) Q E s:=by
 have hh:X.A.in1.handled=none:=I.ok.hd hc
 have kept:∀{oi:Obj} {h' :Heap} {tk:Nat},(∀b o,b∉[s.heap.objs.size]→(s.heap.push oi).get? b=some o→h'.get? b=some o)→Inv X pins σ H {s with heap:=h',toks:=tk}:=λ{oi h' tk} hk=>
  I.kept λb o e=>hk b o (by simp only[GaK];exact GaA (Gam e)) (Gad _ e)
 have get:∀{its:List Value},Vals ys its→∀(i:Nat) v,its.toArray[i]? =some v→∃y,ys[i]? =some y∧RelV y v:=λ{its} r i v e=>by
  have e' :its[i]? =some v:=by simpa using e
  obtain⟨hi,_⟩:=Gaf.mp e'
  have hi' :i<ys.length:=by rw[r.length];exact hi
  obtain⟨u,hu,ru⟩:=r.get (x:=ys[i]) (i:=i) (by simp[hi'])
  rw[e'] at hu;cases hu
  exact⟨ys[i],by simp[hi'],ru⟩
 have lts:∀{oi:Obj},p<s.heap.objs.size→∀b∈[s.heap.objs.size,p],b<(s.heap.push oi).objs.size:=λ{oi} hp b hb=>by
  rw[GbK]
  rcases Gas.mp hb with rfl|hb
  ·exact GbR _
  ·rcases Gas.mp hb with rfl|hb
   ·exact Gcs hp
   ·cases hb
 rcases h with hq|hq
 ·obtain⟨its,rv,pl,hz⟩:=I.list hq
  have hlt:p<s.heap.objs.size:=by obtain⟨_,e,_⟩:=pl.isList;exact Gam e
  have W:=Walks.list (prog:=X.prog) (w:=X.w) hh s.heap.objs.size p (GaA hlt) its.toArray
  have hsz:its.toArray.size=ys.length:=by rw[Gao,rv.length]
  rw[hsz] at W
  exact wpAny_pyIter_list pl.isList (k _ _ _ _ _ _ W ⟨⟨_,Gan _ rfl,rfl,rfl⟩,pl.isList.push _⟩ (lts hlt) (get rv) λh' tk hk=>kept hk)
 ·obtain⟨its,rv,pl,hz⟩:=I.tuple hq
  have pl' :s.heap.IsTuple p its.toArray:=pl
  have hlt:p<s.heap.objs.size:=by obtain⟨_,e,_⟩:=pl';exact Gam e
  have W:=Walks.tuple (prog:=X.prog) (w:=X.w) hh s.heap.objs.size p (GaA hlt) its.toArray
  have hsz:its.toArray.size=ys.length:=by rw[Gao,rv.length]
  rw[hsz] at W
  exact wpAny_pyIter_tuple pl' (k _ _ _ _ _ _ W ⟨⟨_,Gan _ rfl,rfl,rfl⟩,pl'.at λo e=>Gad _ e⟩ (lts hlt) (get rv) λh' tk hk=>kept hk)
theorem range_all(bs:List Bool):(List.range bs.length).all (λi=>bs[i]?.getD false)=bs.all id:=by
 rw[Gdz]
 simp only[Gat,GaT,id]
 constructor
 ·intro h b hb
  obtain⟨i,hi,rfl⟩:=Gcw hb
  have:=h i hi
  rw[Gac hi] at this
  exact this
 ·intro h i hi
  rw[Gac hi]
  exact h _ (GaR hi)
theorem qm{A:Around}{P:Nat→Value→Prop}{bs:List Bool}(hP:∀(i:Nat) v,P i v→∃y,(bs.map V.bl)[i]? =some y∧RelV y v):TruthOf X.prog X.w A P (λi=>bs[i]?.getD false):=by
 intro i v s Q E p q
 obtain⟨y,hy,r⟩:=hP i v p
 rw[Gax] at hy
 cases hb:bs[i]? with
 |none=>rw[hb] at hy;cases hy
 |some b=>
  rw[hb] at hy;cases hy
  cases r
  refine Gdf ?_
  have q' :Q (bs[i]?.getD false) s:=q
  rw[hb] at q';exact q'
theorem uU(hc:X.calm=true):cW X (.builtin "all") (λxs H Q=>∃(p:Addr) (bs:List Bool),xs=[.ref p]∧(SqL X.K H p (bs.map V.bl)∨SqT X.K H p (bs.map V.bl))∧Q (.bl (bs.all id)) H):=by
 intro pins s σ H xs us Q I rv h
 obtain⟨p,bs,rfl,hq,q⟩:=h
 obtain⟨u,rfl,ru⟩:=rv.one
 cases ru
 refine call_all_walk (wO hc I hq λIt fp wr P St s₂ W st lt hP kept=> ⟨It,fp,wr,_,P,St,_,rfl,W,st,qm hP,λh' tk hk=> ?_⟩)
 rw[Gar,range_all]
 exact⟨.bl (bs.all id),H,kept h' tk hk,rfl,q⟩
theorem qo{K:aa}{F:Addr→Prop}{H:Hp}:∀{ds:List D} {vs:List V} {bs:List Bool},aq K F H ds vs→oU ds=some bs→vs=bs.map V.bl
 |[],vs,bs,r,e=>by cases e;exact r.bC
 |d::ds,vs,bs,r,e=>by
  obtain⟨v,w,rfl,h1,h2⟩:=r.cons_inv
  cases d<;>try (cases e;done)
  obtain⟨bs',e',rfl⟩:=Gaj.mp e
  cases h1
  rw[qo h2 e'];rfl
theorem wQ{K:aa}{F:Addr→Prop}{H:Hp}{d:D}{v:V}{ds:List D}(i:Inn K F H d v)(e:qa d=some ds):∃p vs,v= .ref p∧(SqL K H p vs∨SqT K H p vs)∧aq K F H ds vs:=by
 unfold qa at e
 split at e
 ·cases e
  cases i with
  |lst h r=>exact⟨_,_,rfl,.inl (.inl h),r⟩
 ·cases e
  cases i with
  |tup h r=>exact⟨_,_,rfl,.inr (SqT.of h),r⟩
 ·rename_i ns
  cases e
  cases i with
  |scr h=>
   refine⟨_,_,rfl,.inl h.sq,by simp,λi d v e1 e2=> ?_⟩
   rw[Gax] at e1 e2
   cases q:ns[i]? with
   |none=>rw[q] at e1;cases e1
   |some n=>rw[q] at e1 e2;cases e1;cases e2;exact .int n
 ·cases e
theorem wR{o:List D→Option RV}{ds:List D}{rv:RV}(h:one o ds=some rv):∃d xs,ds=[d]∧qa d=some xs∧o xs=some rv:=by
 unfold one at h
 split at h
 ·obtain⟨xs,h1,h2⟩:=bind_some h
  exact⟨_,xs,rfl,h1,h2⟩
 ·cases h
theorem uV:CallD X uL (λxs H Q=>∃(p:Addr) (bs:List Bool),xs=[.ref p]∧(SqL X.K H p (bs.map V.bl)∨SqT X.K H p (bs.map V.bl))∧Q (.bl (bs.all id)) H):=by
 intro F H ds vs rv Q ps e k
 obtain⟨d,xs,rfl,h1,h2⟩:=wR e
 obtain⟨bs,hb,rfl⟩:=Gaj.mp h2
 obtain⟨v,rfl,i⟩:=d6 ps
 obtain⟨p,vs,rfl,hs,r⟩:=wQ i h1
 rw[qo r hb] at hs
 exact⟨p,bs,rfl,hs,k _ H bJ (.bl _)⟩
end
open PySem PySem.Spec PyProof.Rows L2
section
variable{X:Cx}{e a b c:Expr}{f g h:DE}{pos:Pos}
theorem aB.cons{κ:Type}{K:aa}{F:Addr→Prop}{H:Hp}{kvs:List (κ×D)}{ws:List (κ×V)}{k:κ}{d:D}{v:V}(h:Rep K F H d v)(r:aB K F H kvs ws):aB K F H ((k,d)::kvs) ((k,v)::ws):=by
 refine⟨by simp[r.1],λi x u e1 e2=> ?_⟩
 cases i with
 |zero=>simp at e1 e2;subst e1;subst e2;exact h
 |succ i=>exact r.2 i x u (by simpa using e1) (by simpa using e2)
theorem aB.cons_inv{κ:Type}{K:aa}{F:Addr→Prop}{H:Hp}{kvs:List (κ×D)}{ws:List (κ×V)}{k:κ}{d:D}(h:aB K F H ((k,d)::kvs) ws):∃v r,ws=(k,v)::r∧Rep K F H d v∧aB K F H kvs r:=by
 cases ws with
 |nil=>exact absurd h.1 (by simp)
 |cons q r=>
  obtain⟨k',v⟩:=q
  have h1:k=k' ∧kvs.map (·.1)=r.map (·.1):=by have:=h.1;simpa using this
  obtain⟨rfl,h2⟩:=h1
  exact⟨v,r,rfl,h.2 0 (k,d) (k,v) rfl rfl,h2,λi x y e1 e2=>h.2 (i+1) x y (by simpa using e1) (by simpa using e2)⟩
theorem aB.nil{κ:Type}{K:aa}{F:Addr→Prop}{H:Hp}:aB K F H ([]:List (κ×D)) []:=⟨rfl,λi p q e=>by simp at e⟩
theorem aB.bC{κ:Type}{K:aa}{F:Addr→Prop}{H:Hp}{ws:List (κ×V)}(h:aB K F H [] ws):ws=[]:=by
 cases ws with
 |nil=>rfl
 |cons q r=>exact absurd h.1 (by simp)
theorem aB.len{κ:Type}{K:aa}{F:Addr→Prop}{H:Hp}{kvs:List (κ×D)}{ws:List (κ×V)}(h:aB K F H kvs ws):kvs.length=ws.length:=by
 have:=congrArg List.length h.1
 simpa using this
theorem aB.over{κ:Type} [DecidableEq κ]{K:aa}{F:Addr→Prop}{H:Hp}{k:κ}{d:D}{v:V}(hv:Rep K F H d v):∀{kvs:List (κ×D)} {ws:List (κ×V)},aB K F H kvs ws→
  aB K F H (kvs.map λkv=>if kv.1=k then(kv.1,d) else kv) (ws.map λkv=>if kv.1=k then(kv.1,v) else kv)
 |[],ws,r=>by rw[r.bC];exact .nil
 |(k',d')::kvs,ws,r=>by
  obtain⟨v',w,rfl,h1,h2⟩:=r.cons_inv
  rw[GaI,GaI]
  dsimp only
  split
  ·exact .cons hv (aB.over hv h2)
  ·exact .cons h1 (aB.over hv h2)
theorem aB.snoc{κ:Type}{K:aa}{F:Addr→Prop}{H:Hp}{k:κ}{d:D}{v:V}(hv:Rep K F H d v):∀{kvs:List (κ×D)} {ws:List (κ×V)},aB K F H kvs ws→aB K F H (kvs++[(k,d)]) (ws++[(k,v)])
 |[],ws,r=>by rw[r.bC];exact .cons hv .nil
 |(k',d')::kvs,ws,r=>by
  obtain⟨v',w,rfl,h1,h2⟩:=r.cons_inv
  exact .cons h1 (aB.snoc hv h2)
theorem aB.any{κ:Type} [DecidableEq κ]{K:aa}{F:Addr→Prop}{H:Hp}{k:κ}:∀{kvs:List (κ×D)} {ws:List (κ×V)},aB K F H kvs ws→(kvs.any λkv=>decide (kv.1=k))=(ws.any λkv=>decide (kv.1=k))
 |[],ws,r=>by rw[r.bC];rfl
 |(k',d')::kvs,ws,r=>by
  obtain⟨v',w,rfl,h1,h2⟩:=r.cons_inv
  rw[GcW,GcW,aB.any h2]
theorem aB.put{κ:Type} [DecidableEq κ]{K:aa}{F:Addr→Prop}{H:Hp}{kvs:List (κ×D)}{ws:List (κ×V)}{k:κ}{d:D}{v:V}(r:aB K F H kvs ws)(hv:Rep K F H d v):aB K F H (put kvs k d) (putK ws k v):=by
 unfold DL.put putK
 rw[r.any]
 split
 ·exact r.over hv
 ·exact r.snoc hv
theorem Dy{K:aa}{F:Addr→Prop}{H:Hp}{kvs:List (Key×D)}{a:Addr}(i:Inn K F H (.dK kvs) (.ref a)):∃ws,H a=some (.dK ws)∧aB K F H kvs ws:=by
 cases i with
 |dK h r=>exact⟨_,h,r⟩
theorem Dz{K:aa}{F:Addr→Prop}{H:Hp}{kvs:List (List Key×D)}{a:Addr}(i:Inn K F H (.dT kvs) (.ref a)):∃ws,H a=some (.dT ws)∧aB K F H kvs ws:=by
 cases i with
 |dT h r=>exact⟨_,h,r⟩
noncomputable def Cy:V→V→V→Hp→(Hp→Prop)→Prop:=λo i v H Q=>Cm o i v H Q∨∃a H4,o= .ref a∧pY H a i v H4∧Q H4
theorem BG(hu:X.A.units+1<cLine):F5 X Cy:=by
 intro pins s σ H o i v ov iv u Q I ro ri rv h
 rcases h with h| ⟨a,H4,rfl,g,q⟩
 ·exact set_list pins s σ H o i v ov iv u Q I ro ri rv h
 ·cases ro
  exact uH hu I g ri rv λs4 I4=> ⟨H4,I4,q⟩
noncomputable def Ht(td ty tv:TE):TS:=λD σ H=>tv σ H λv H1=>td σ H1 λx H2=>ty σ H2 λy H3=>Cy x y v H3 λH4=>D.nx σ H4
theorem DB{o i value:Expr}{td ty tv:TE}{pos' :Pos}(hu:X.A.units+1<cLine)(ho:PE X o td)(hi:PE X i ty)(hv:PE X value tv)(hs:swapsWith value (some (.Subscript o i pos')) pos.line X.env=pure false):PS X (.Assign [.Subscript o i pos'] value pos) (Ht td ty tv):=by
 intro pins s σ H D I h
 refine wpAny_Assign_Subscript (thn (hv pins s σ H _ I h) λr s1 ⟨v,H1,I1,rv,q1⟩=>thn (ho pins s1 σ H1 _ I1 q1) λu s2 ⟨x,H2,I2,rx,q2⟩=>thn (hi pins s2 σ H2 _ I2 q2) λiv s3 ⟨y,H3,I3,ry,q3⟩=> ?_) hs
 exact thn (BG hu pins s3 σ H3 x y v u iv r _ I3 rx ry rv q3) λ_ s4 ⟨H4,I4,q4⟩=> ⟨σ,H4,I4,q4⟩
theorem jq{Bad:Addr→Prop}{env:Env}{σ:St}{H:Hp}{i:Nat}{a:Addr}{d:D}{o o' :HO}(q:env[i]? =some (some (.own d)))(h1:σ[i]? =some (some (.ref a)))(hH:H a=some o')(hw:isW o'):gO (Cln Bad env σ) H (upd H a o):=λb x hb w=>by
 have:b≠a:=by
  rintro rfl
  rcases w with w|w
  ·exact w.2 i (by rw[q];trivial) h1
  ·rw[hH] at hb;cases hb
   cases o' <;>simp[isT] at w<;>exact hw
 rw[az this];exact hb
theorem wU{i:Nat}{x:Str}{px pos' :Pos}{k value:Expr}{fk fv:DE}(hu:X.A.units+1<cLine)(hN:X.N[i]? =some x)(hv:Vis X.env.scope x)(hk:PEd X k fk)(he:PEd X value fv)(hd:(x==("__debug__":Str))=false:=by decide)(hcd:(x==("__classdict__":Str))=false:=by decide)
  (hs:swapsWith value (some (.Subscript (.Name x px) k pos')) pos.line X.env=pure false:=by rfl):PSd X (.Assign [.Subscript (.Name x px) k pos'] value pos) (Bj i fk fv):=by
 refine(DB hu (iO hN hv hd hcd) hk he hs).aC ?_
 rintro D σ H ⟨H₀,Bad,env,o,E,e,kk⟩
 obtain⟨r,hr,e⟩:=bind_some e
 obtain⟨y,hy,e⟩:=bind_some e
 obtain⟨d,hd,e⟩:=bind_some e
 have q:=jk hd
 split at e
 ·rename_i hfree
  obtain⟨d',hp,rfl⟩:=Gaj.mp e
  refine⟨H₀,Bad,env,r,E,hr,λv H1 s1 R=> ?_⟩
  have E1:=E.mono s1
  obtain⟨a,h1,h2,h3,h4,h5,h6⟩:=E1.ow i _ (.inl q)
  refine⟨_,h1,H₀,Bad,env,y,E1,hy,λvy H3 s3 Ry=> ?_⟩
  have E3:=E1.mono s3
  have rep:=(R.rep E hfree).same s3
  have i6:=h6.same s3
  have iy:=Ry.inn
  have fin:∀(o' :HO) (o'' :HO),H3 a=some o'' →isW o'' →isW o' →d'.top=true→Inn X.K (Cln Bad env σ) (upd H3 a o') d' (.ref a)→D.nx σ (upd H3 a o'):=λo' o'' hH hw hw' ht inn=>by
   obtain⟨E4,p4⟩:=E3.change (d' :=d') (o:=o') q h1 hw' ht inn
   exact kk σ _ E4 (((Stp.of_same s1).trans (.of_same s3)).trans p4)
  unfold putD at hp
  split at hp
  ·rename_i kvs
   split at hp
   ·rename_i hz
    obtain⟨key,hkey,rfl⟩:=Gaj.mp hp
    obtain⟨ws,hH,rp⟩:=Dy i6
    have hy' :=k6 iy hkey
    subst hy'
    refine .inr ⟨a,_,rfl,pY.k hH (by rw[←rp.len,←size_eq];exact hz),fin _ _ hH trivial trivial rfl ?_⟩
    exact .dK au ((rp.put rep).gen (jq q h1 hH trivial) λ_ f _=>f)
   ·cases hp
  ·rename_i kvs
   split at hp
   ·rename_i ks hks
    split at hp
    ·rename_i hz
     obtain⟨key,hkey,rfl⟩:=Gaj.mp hp
     obtain⟨ws,hH,rp⟩:=Dz i6
     rw[hks] at iy
     cases iy with
     |tup hb rb=>
      have:=gS rb hkey
      subst this
      refine .inr ⟨a,_,rfl,pY.t hH hb (by rw[←rp.len,←size_eq];exact hz),fin _ _ hH trivial trivial rfl ?_⟩
      exact .dT au ((rp.put rep).gen (jq q h1 hH trivial) λ_ f _=>f)
    ·cases hp
   ·cases hp
  ·rename_i xs
   split at hp
   ·rename_i j hj
    rw[hj] at iy
    cases iy
    obtain⟨vs,hH,rp⟩:=lG (h4.same s3) i6
    split at hp
    ·rename_i hb
     cases hp
     refine .inl ⟨a,vs,j,j.toNat,rfl,rfl,hH, ?_,fin _ _ hH trivial trivial rfl ?_⟩
     ·unfold ixN
      rw[Gag hb.1,Gag (by rw[←rp.1];exact hb.2)]
     ·exact .lst (.inl au) ((rp.set rep j.toNat).gen (jq q h1 hH trivial) λ_ f _=>f)
    ·split at hp
     ·rename_i hb
      cases hp
      refine .inl ⟨a,vs,j,(j+xs.length).toNat,rfl,rfl,hH, ?_,fin _ _ hH trivial trivial rfl ?_⟩
      ·unfold ixN
       rw[Gae (by omega),Gag (by rw[←rp.1];omega),rp.1]
      ·exact .lst (.inl au) ((rp.set rep _).gen (jq q h1 hH trivial) λ_ f _=>f)
     ·cases hp
   ·cases hp
  ·cases hp
 ·cases e
theorem qp:PEd X (.Dict [] [] pos) rN:=w6.aC λσ H Q ⟨_,_,_,_,E,e,k⟩ p n=>by
 cases e
 exact k _ _ (aY n) ⟨p,rfl,n,⟨_,au,trivial⟩,rfl,.dT au .nil⟩
end
open PySem PySem.Spec PyProof.Rows L2
open PySem.W (KasT kas_rev kas_asc kas_desc kas_tail3 kas_descPart kas_count kas_place kas_bin kas_sort)
section
variable{rk:Nat→Int}{N:Nat}
noncomputable def Asks(rk:Nat→Int)(N:Nat){α:Type}:KasT α→(α→Prop)→Prop
 | .ret a,Q=>Q a
 | .ask i j k,Q=>i<N∧j<N∧Asks rk N (k (decide (rk i<rk j))) Q
theorem Asks.mono{α:Type}{Q Q' :α→Prop}(hq:∀a,Q a→Q' a):∀(t:KasT α),Asks rk N t Q→Asks rk N t Q'
 | .ret a,h=>hq a h
 | .ask i j k,h=> ⟨h.1,h.2.1,Asks.mono hq _ h.2.2⟩
theorem Asks.then{α β:Type}{f:α→KasT β}{Q:β→Prop}:∀(t:KasT α),Asks rk N t (λa=>Asks rk N (f a) Q)→Asks rk N (t.bind f) Q
 | .ret a,h=>h
 | .ask i j k,h=> ⟨h.1,h.2.1,Asks.then _ h.2.2⟩
theorem Asks.wp{α:Type}{cmp:Nat→Nat→(Bool→Shared→Prop)→Shared→Prop}{s:Shared}(hc:∀i j C,i<N→j<N→C (decide (rk i<rk j)) s→cmp i j C s){Q:α→Prop}{G:α→Shared→Prop}(hG:∀a,Q a→G a s):
  ∀(t:KasT α),Asks rk N t Q→t.kasWp cmp G s
 | .ret a,h=>hG a h
 | .ask i j k,h=>hc i j _ h.1 h.2.1 (Asks.wp hc hG _ h.2.2)
noncomputable def Ord(N:Nat)(p:Array Nat):Prop:=p.toList.Perm (List.range N)
theorem Ord.size{p:Array Nat}(h:Ord N p):p.size=N:=by
 have:=List.Perm.length_eq h
 simpa using this
theorem Ord.lt{p:Array Nat}(h:Ord N p){i:Nat}(hN:0<N):p.getD i 0<N:=by
 by_cases hi:i<p.size
 ·have e:p.getD i 0=p[i]:=by simp[Array.getD,hi]
  rw[e]
  have m:p[i]∈p.toList:=by simp
  exact GaT.mp (h.mem_iff.mp m)
 ·have e:p.getD i 0=0:=by simp[Array.getD,hi]
  rw[e];exact hN
theorem Ord.tO{p p' :Array Nat}(h:Ord N p)(q:p'.Perm p):Ord N p' :=List.Perm.trans (Array.perm_iff_toList_perm.mp q) h
noncomputable def b7(rk:Nat→Int)(p:Array Nat)(i:Nat):Int:=rk (p.getD i 0)
theorem dX{p p' :Array Nat}{i j:Nat}(h:p'[i]? =p[j]?):b7 rk p' i=b7 rk p j:=by
 unfold b7
 have e:p'.getD i 0=p.getD j 0:=by
  rw[GaM,GaM,h]
 rw[e]
noncomputable def Up(rk:Nat→Int)(p:Array Nat)(k:Nat):Prop:=∀u v,u≤v→v<k→b7 rk p u≤b7 rk p v
noncomputable def Down(rk:Nat→Int)(p:Array Nat)(k:Nat):Prop:=∀u v,u≤v→v<k→b7 rk p v≤b7 rk p u
theorem rU{p:Array Nat}{i j:Nat}(hj:j≤p.size)(k:Nat):b7 rk (kas_rev p i j) k=if i≤k∧k<j then b7 rk p (i+j -1 -k) else b7 rk p k:=by
 have g:=getElem?_mirror_all (i:=i) hj k
 split
 ·rename_i c
  rw[Gag c] at g
  exact dX g
 ·rename_i c
  rw[Gae c] at g
  exact dX g
theorem fH{p:Array Nat}{i j:Nat}(hj:j≤p.size)(he:∀k,i≤k→k<j→b7 rk p k=b7 rk p (j -1))(k:Nat):b7 rk (kas_rev p i j) k=b7 rk p k:=by
 rw[rU hj]
 split
 ·rename_i c
  rw[he (i+j -1 -k) (by omega) (by omega),he k c.1 c.2]
 ·rfl
theorem jr{p:Array Nat}{i j:Nat}(h:Ord N p):Ord N (kas_rev p i j):=h.tO (mirror_perm p i j ((j -i)/2))
theorem rV{p:Array Nat}(hp:Ord N p)(hN:0<N):∀(f n:Nat),1≤n→Up rk p n→Asks rk N (kas_asc p f n) λm=>n≤m∧m≤n+f∧Up rk p m∧(m=n+f∨b7 rk p m<b7 rk p (m -1))
 |0,n,h1,hu=> ⟨Gau n,Gau n,hu,.inl rfl⟩
 |f+1,n,h1,hu=>by
  refine⟨hp.lt hN,hp.lt hN, ?_⟩
  by_cases c:rk (p.getD n 0)<rk (p.getD (n -1) 0)
  ·rw[GaD c];dsimp only;rw[Gag rfl]
   exact⟨Gau n,by omega,hu,.inr c⟩
  ·rw[GaE c];dsimp only;rw[Gae Gay]
   have nxt:Up rk p (n+1):=λu v huv hv=>by
    rcases Gbb v n with hvn|hvn
    ·exact hu u v huv hvn
    ·have ev:v=n:=by omega
     subst ev
     have c' :b7 rk p (v -1)≤b7 rk p v:=Gds.mp c
     rcases GdE huv with e|e
     ·subst e;exact Gbn _
     ·exact Int.le_trans (hu u (v -1) (by omega) (by omega)) c'
   refine Asks.mono (λm hm=> ?_) _ (rV hp hN f (n+1) (by omega) nxt)
   obtain⟨q1,q2,q3,q4⟩:=hm
   refine⟨by omega,by omega,q3, ?_⟩
   rcases q4 with q4|q4
   ·left;omega
   ·exact .inr q4
theorem Down.snoc{p p' :Array Nat}{k:Nat}(hd:Down rk p k)(hk:1≤k)(e:∀i,b7 rk p' i=b7 rk p i)(c:b7 rk p k≤b7 rk p (k -1)):Down rk p' (k+1):=λu v huv hv=>by
 rw[e,e]
 rcases Gbb v k with hvk|hvk
 ·exact hd u v huv hvk
 ·have ev:v=k:=by omega
  subst ev
  rcases GdE huv with q|q
  ·subst q;exact Gbn _
  ·exact Int.le_trans c (hd u (v -1) (by omega) (by omega))
theorem lJ(hN:0<N):∀(f:Nat) (p:Array Nat) (n q:Nat),Ord N p→1≤n→n+f≤N→Down rk p n→q+1≤n→(∀i,n -(q+1)≤i→i<n→b7 rk p i=b7 rk p (n -1))→
  Asks rk N (kas_desc f p n q) λr=>Ord N r.1∧n≤r.2.1∧r.2.1≤n+f∧Down rk r.1 r.2.1∧r.2.2+1≤r.2.1∧∀i,r.2.1 -(r.2.2+1)≤i→i<r.2.1→b7 rk r.1 i=b7 rk r.1 (r.2.1 -1)
 |0,p,n,q,hp,h1,hnf,hd,hq,he=> ⟨hp,Gau n,Gau n,hd,hq,he⟩
 |f+1,p,n,q,hp,h1,hnf,hd,hq,he=>by
  have sz:=hp.size
  refine⟨hp.lt hN,hp.lt hN, ?_⟩
  by_cases c:rk (p.getD n 0)<rk (p.getD (n -1) 0)
  ·rw[GaD c];dsimp only;rw[Gag rfl]
   have c' :b7 rk p n≤b7 rk p (n -1):=Gew c
   by_cases z:q>0
   ·rw[Gag z]
    have eq:=λk=>fH (rk:=rk) (i:=n -(q+1)) (by omega) he k
    exact Asks.mono (λr ⟨a1,a2,a3,a4⟩=> ⟨a1,by omega,by omega,a4⟩) _ (lJ hN f _ (n+1) 0 (jr hp) (by omega) (by omega) (hd.snoc h1 eq c') (by omega) λi i1 i2=>by rw[show i=n+1 -1 by omega])
   ·rw[Gae z]
    exact Asks.mono (λr ⟨a1,a2,a3,a4⟩=> ⟨a1,by omega,by omega,a4⟩) _ (lJ hN f p (n+1) 0 hp (by omega) (by omega) (hd.snoc h1 (λ_=>rfl) c') (by omega) λi i1 i2=>by rw[show i=n+1 -1 by omega])
  ·rw[GaE c];dsimp only;rw[Gae Gay]
   refine⟨hp.lt hN,hp.lt hN, ?_⟩
   by_cases g:rk (p.getD (n -1) 0)<rk (p.getD n 0)
   ·rw[GaD g];dsimp only;rw[Gag rfl]
    exact⟨hp,Gau n,Nat.le_add_right n (f+1),hd,hq,he⟩
   ·rw[GaE g];dsimp only;rw[Gae Gay]
    have eq:b7 rk p n=b7 rk p (n -1):=Int.le_antisymm (Gds.mp g) (Gds.mp c)
    refine Asks.mono (λr ⟨a1,a2,a3,a4⟩=> ⟨a1,by omega,by omega,a4⟩) _ (lJ hN f p (n+1) (q+1) hp (by omega) (by omega) (hd.snoc h1 (λ_=>rfl) (Int.le_of_eq eq)) (by omega) λi i1 i2=> ?_)
    rcases Gbb i n with hi|hi
    ·rw[he i (by omega) hi,show n+1 -1=n by omega,eq]
    ·rw[show i=n+1 -1 by omega]
theorem tP{p:Array Nat}{n M:Nat}(hp:Ord N p)(hN:0<N)(h1:1≤n)(hn:n≤M)(hM:M≤N)(hd:Down rk p n):Asks rk N (kas_tail3 n M p) λr=>Ord N r.2∧1≤r.1∧r.1≤M∧Up rk r.2 r.1:=by
 have sz:=hp.size
 refine Asks.then _ (Asks.mono (λm ⟨a1,a2,a3,_⟩=> ⟨jr hp,by omega,by omega,a3⟩) _ (rV (jr hp) hN (M -n) n h1 λu v huv hv=> ?_))
 rw[rU (by omega),rU (by omega),Gag ⟨GaJ _,by omega⟩,Gag ⟨GaJ _,hv⟩]
 exact hd _ _ (by omega) (by omega)
theorem kQ{p:Array Nat}{n M:Nat}(hp:Ord N p)(hN:0<N)(h1:1≤n)(hn:n+1≤M)(hM:M≤N)(hd:Down rk p (n+1)):Asks rk N (kas_descPart n M p) λr=>Ord N r.2∧1≤r.1∧r.1≤M∧Up rk r.2 r.1:=by
 have sz:=hp.size
 refine Asks.then _ (Asks.mono (λr ⟨a1,a2,a3,a4,a5,a6⟩=> ?_) _ (lJ hN (M -(n+1)) p (n+1) 0 hp (by omega) (by omega) hd (by omega) λi i1 i2=>by rw[show i=n+1 -1 by omega]))
 have s1:=a1.size
 split
 ·refine tP (jr a1) hN (by omega) (by omega) hM λu v huv hv=> ?_
  rw[fH (by omega) a6,fH (by omega) a6]
  exact a4 u v huv hv
 ·exact tP a1 hN (by omega) (by omega) hM a4
theorem wV{p:Array Nat}{M:Nat}(hp:Ord N p)(hM1:1≤M)(hM:M≤N):Asks rk N (kas_count M p) λr=>Ord N r.2∧1≤r.1∧r.1≤M∧Up rk r.2 r.1:=by
 have hN:0<N:=by omega
 have sz:=hp.size
 refine Asks.then _ (Asks.mono (λn ⟨a1,a2,a3,a4⟩=> ?_) _ (rV hp hN (M -1) 1 (Gau 1) λu v huv hv=>by rw[show u=v by omega];exact Gbn _))
 by_cases c:(n==M)=true
 ·rw[Gag c]
  exact⟨hp,a1,by omega,a3⟩
 ·rw[Gae c]
  have cn:n≠M:=λz=>c (by simp[z])
  have fall:b7 rk p n<b7 rk p (n -1):=by
   rcases a4 with z|z
   ·omega
   ·exact z
  by_cases g:n>1
  ·rw[Gag g]
   refine⟨hp.lt hN,hp.lt hN, ?_⟩
   by_cases r:rk (p.getD 0 0)<rk (p.getD (n -1) 0)
   ·rw[GaD r];dsimp only;rw[Gag rfl]
    exact⟨hp,a1,by omega,a3⟩
   ·rw[GaE r];dsimp only;rw[Gae Gay]
    have all:∀k,0≤k→k<n→b7 rk p k=b7 rk p (n -1):=λk _ hk=>by
     have b1:=a3 0 k (GaJ _) hk
     have b2:=a3 k (n -1) (by omega) (by omega)
     have b3:b7 rk p (n -1)≤b7 rk p 0:=Gds.mp r
     omega
    refine kQ (jr hp) hN a1 (by omega) hM λu v huv hv=> ?_
    rw[fH (by omega) all,fH (by omega) all]
    rcases Gbb v n with hvn|hvn
    ·rw[all u (GaJ _) (by omega),all v (GaJ _) hvn];exact Gbn _
    ·have ev:v=n:=by omega
     subst ev
     rcases GdE huv with q|q
     ·subst q;exact Gbn _
     ·rw[all u (GaJ _) q];exact Gew fall
  ·rw[Gae g]
   have en:n=1:=by omega
   subst en
   refine kQ hp hN (Gau 1) (by omega) hM λu v huv hv=> ?_
   rcases GdE huv with q|q
   ·subst q;exact Gbn _
   ·have eu:u=0:=by omega
    have ev:v=1:=by omega
    subst eu ev
    exact Gew fall
theorem mE{p:Array Nat}{k:Nat}(hp:Ord N p)(hN:0<N)(hu:Up rk p k):∀(f l r:Nat),l≤r→r≤k→r -l≤f→(∀i,i<l→b7 rk p i≤b7 rk p k)→(∀i,r≤i→i<k→b7 rk p k<b7 rk p i)→
  Asks rk N (kas_place p k f l r) λm=>m≤k∧(∀i,i<m→b7 rk p i≤b7 rk p k)∧∀i,m≤i→i<k→b7 rk p k<b7 rk p i
 |0,l,r,h1,h2,h3,h4,h5=>by
  have e:l=r:=by omega
  subst e
  exact⟨h2,h4,h5⟩
 |f+1,l,r,h1,h2,h3,h4,h5=>by
  unfold kas_place
  by_cases c:l≥r
  ·rw[Gag c]
   have e:l=r:=by omega
   subst e
   exact⟨h2,h4,h5⟩
  ·rw[Gae c]
   refine⟨hp.lt hN,hp.lt hN, ?_⟩
   by_cases g:rk (p.getD k 0)<rk (p.getD ((l+r)/2) 0)
   ·rw[GaD g];dsimp only;rw[Gag rfl]
    exact mE hp hN hu f l ((l+r)/2) (by omega) (by omega) (by omega) h4 λi i1 i2=>Int.lt_of_lt_of_le g (hu ((l+r)/2) i i1 i2)
   ·rw[GaE g];dsimp only;rw[Gae Gay]
    exact mE hp hN hu f ((l+r)/2+1) r (by omega) h2 (by omega) (λi i1=>Int.le_trans (hu i ((l+r)/2) (by omega) (by omega)) (Gds.mp g)) h5
theorem DC{p:Array Nat}{k d:Nat}(hk:k<p.size)(hd:d≤k)(i:Nat):b7 rk (bubble p k d) i=if i=k -d then b7 rk p k else if k -d<i∧i≤k then b7 rk p (i -1) else b7 rk p i:=by
 have g:=getElem?_bubble hk d hd i
 split
 ·rename_i c
  rw[Gag c] at g
  exact dX g
 ·rename_i c
  rw[Gae c] at g
  split
  ·rename_i c2
   rw[Gag c2] at g
   exact dX g
  ·rename_i c2
   rw[Gae c2] at g
   exact dX g
theorem wW(hN:0<N):∀(f:Nat) (p:Array Nat) (k:Nat),Ord N p→k+f=N→Up rk p k→Asks rk N (kas_bin f p k) λr=>Ord N r∧Up rk r N
 |0,p,k,hp,hk,hu=>by
  have e:k=N:=by omega
  subst e
  exact⟨hp,hu⟩
 |f+1,p,k,hp,hk,hu=>by
  have sz:=hp.size
  refine Asks.then _ (Asks.mono (λm ⟨a1,a2,a3⟩=> ?_) _ (mE hp hN hu k 0 k (GaJ _) (Gau _) (by omega) (λi hi=>by omega) λi i1 i2=>by omega))
  refine wW hN f _ (k+1) (hp.tO (bubble_perm p k (k -m))) (by omega) λu v huv hv=> ?_
  have B:=λi=>DC (rk:=rk) (p:=p) (k:=k) (d:=k -m) (by omega) (by omega) i
  rw[B u,B v]
  have em:k -(k -m)=m:=by omega
  rw[em]
  by_cases u1:u=m
  ·rw[Gag u1]
   by_cases v1:v=m
   ·rw[Gag v1];exact Gbn _
   ·rw[Gae v1]
    rw[Gag ⟨by omega,by omega⟩]
    exact Gew (a3 (v -1) (by omega) (by omega))
  ·rw[Gae u1]
   by_cases u2:m<u∧u≤k
   ·rw[Gag u2,Gae (show¬v=m by omega),Gag ⟨by omega,by omega⟩]
    exact hu (u -1) (v -1) (by omega) (by omega)
   ·rw[Gae u2]
    by_cases v1:v=m
    ·rw[Gag v1]
     exact a2 u (by omega)
    ·rw[Gae v1]
     by_cases v2:m<v∧v≤k
     ·rw[Gag v2]
      exact hu u (v -1) (by omega) (by omega)
     ·rw[Gae v2]
      exact hu u v huv (by omega)
theorem tQ(hN:1≤N):Asks rk N (kas_sort N) λr=>Ord N r∧Up rk r N:=by
 have h0:Ord N (List.toArray (List.range N)):=List.Perm.refl _
 refine Asks.then _ (Asks.mono (λr ⟨a1,a2,a3,a4⟩=> ?_) _ (wV h0 hN (Gau N)))
 split
 ·exact wW (by omega) _ _ _ a1 (by omega) (by rw[show max r.1 1=r.1 by omega];exact a4)
 ·rename_i c
  have e:r.1=N:=by omega
  rw[e] at a4
  exact⟨a1,a4⟩
end
open PySem PySem.Spec PyProof.Rows L2
open PySem.W (KatLex KatTups kas_sort kas_ask kat_kind kat_lt kat_one kat_run kat_snds BoolBack kat_lt_int)
noncomputable def FlV:D→Value→Prop
 | .non,v=>v= .none
 | .int i,v=>∃t,v= .int i t
 | .str x,v=>∃t,v= .str x t
 |_,_=>False
noncomputable def gW(h:Heap):D→Value→Prop
 | .int i,v=>∃t,v= .int i t
 | .tup fs,v=>∃a o n us,v= .ref a∧h.get? a=some o∧o.cls= .type "tuple"∧o.data= .seq (List.toArray us) n∧Paired FlV fs us
 |_,_=>False
theorem gW.keep{h h' :Heap}{d:D}{v:Value}(k:gW h d v)(e:∀b o,h.get? b=some o→h'.get? b=some o):gW h' d v:=by
 cases d with
 |int i=>exact k
 |tup fs=>obtain⟨a,o,n,us,h1,h2,h3⟩:=k;exact⟨a,o,n,us,h1,e _ _ h2,h3⟩
 |_=>exact k
theorem gX{α β:Type}{R S:α→β→Prop}(h:∀a b,R a b→S a b):∀{xs:List α} {ys:List β},Paired R xs ys→Paired S xs ys
 |_,_,.nil=> .nil
 |_,_,.cons p t=> .cons (h _ _ p) (gX h t)
theorem BH{xs ys:List Nat}(h:xs.map Int.ofNat=ys.map Int.ofNat):xs=ys:=by
 induction xs generalizing ys with
 |nil=>cases ys with
  |nil=>rfl
  |cons=>simp at h
 |cons x xs ih=>cases ys with
  |nil=>simp at h
  |cons y ys=>
   simp only[GaI,List.cons.injEq] at h
   rw[ih h.2,Int.ofNat_inj.mp h.1]
theorem BI{x y:Str}(h:x.cps.toList=y.cps.toList):x=y:=by
 cases x;cases y
 simp only at h
 rw[Gcc.mp h]
theorem ka{a b:D}(ha:fw a=true)(hb:fw b=true)(h:ar a=ar b):a=b:=by
 cases a<;>cases b<;>simp[fw,tyD] at ha hb<;>simp[ar] at h
 ·rfl
 ·rw[h]
 ·have:=BI (BH h)
  rw[this]
theorem kb:∀{as bs:List D},as.all fw=true→bs.all fw=true→as.map ar=bs.map ar→as=bs
 |[],[],_,_,_=>rfl
 |[],_::_,_,_,h=>by simp at h
 |_::_,[],_,_,h=>by simp at h
 |a::as,b::bs,ha,hb,h=>by
  rw[GbD,Gaq] at ha hb
  simp only[GaI,List.cons.injEq] at h
  rw[ka ha.1 hb.1 h.1,kb ha.2 hb.2 h.2]
theorem DD{a:D}{t:Nat}(h:(tyD a==t)=true)(ht:t≠3):fw a=true:=by
 unfold fw
 rw[Gcn] at h
 rw[h]
 simpa using ht
theorem gf{t:Nat}{d:D}(ht:t≠3)(h:fG t d=true):∃f r,d= .tup (f::r)∧tyD f=t∧(f::r).all fw=true:=by
 unfold fG at h
 split at h
 ·rename_i f r
  rw[Gaq] at h
  refine⟨f,r,rfl,Gcn.mp h.1, ?_⟩
  rw[GbD,Gaq]
  exact⟨DD h.1 ht,h.2⟩
 ·cases h
theorem fI{d:D}(h:uN d=true):∃i,d= .int i:=by
 unfold uN at h
 split at h
 ·exact⟨_,rfl⟩
 ·cases h
theorem wX{ds:List D}(h:keysOk ds=true):∀a∈ds,∀b∈ds,code a=code b→a=b:=by
 intro a ha b hb e
 unfold keysOk at h
 rw[Gbu,Gaq,Gbu] at h
 have tup:∀t,t≠3→ds.all (fG t)=true→a=b:=λt ht hk=>by
  obtain⟨f,r,rfl,_,q1⟩:=gf ht (Gat.mp hk a ha)
  obtain⟨f',r',rfl,_,q2⟩:=gf ht (Gat.mp hk b hb)
  rw[kb q1 q2 e]
 rcases h with h| ⟨h|h,_⟩
 ·obtain⟨i,rfl⟩:=fI (Gat.mp h a ha)
  obtain⟨j,rfl⟩:=fI (Gat.mp h b hb)
  simp[code,ar] at e
  rw[e]
 ·exact tup 1 (by decide) h
 ·exact tup 2 (by decide) h
theorem pq{i j:Int}:cK ltI (ar (.int i)) (ar (.int j))=decide (i<j):=by
 unfold ar
 simp only[cK,Gbf]
 by_cases e:i=j
 ·subst e;simp
 ·rw[Gae e];rfl
theorem tR:∀(xs ys:List Nat),cK ltI (xs.map Int.ofNat) (ys.map Int.ofNat)=decide (xs<ys)
 |[],[]=>by simp[cK]
 |[],y::ys=>by simp[cK]
 |x::xs,[]=>by simp[cK]
 |x::xs,y::ys=>by
  simp only[GaI,cK]
  by_cases e:x=y
  ·subst e
   rw[Gag rfl,tR xs ys]
   simp[List.cons_lt_cons_iff]
  ·rw[Gae (λz:Int.ofNat x=Int.ofNat y=>e (Int.ofNat_inj.mp z))]
   have:(x::xs<y::ys)↔x<y:=by rw[List.cons_lt_cons_iff];simp[e]
   unfold ltI
   simp[this]
theorem tU{x y:Str}:cK ltI (ar (.str x)) (ar (.str y))=decide (x.cps.toList<y.cps.toList):=by
 unfold ar
 simp only[cK,Gbf]
 exact tR _ _
section
variable{prog:Program}{w:World}{A:Around}{E:Value→Shared→Prop}{s:Shared}
theorem Cz{a b:D}{u v:Value}{Q:Bool→Shared→Prop}(ha:FlV a u)(hb:FlV b v)(ht:tyD a=tyD b)(h:Q (decide (ar a=ar b)) s):wpAny (model prog w) A (eqBool u v) Q E s:=by
 cases a<;>cases b<;>simp[tyD] at ht<;>try exact ha.elim
 ·cases ha;cases hb
  unfold eqBool
  refine Gbp ?_
  simp only[ar,decide_true] at h
  rw[Gag (by rfl)]
  exact Gaa (Gcz (Gab h))
 ·obtain⟨t,rfl⟩:=ha
  obtain⟨t',rfl⟩:=hb
  refine wpAny_eqBool_int ?_
  rename_i i j
  have e:decide (ar (.int i)=ar (.int j))=(i==j):=by
   simp only[ar]
   by_cases q:i=j
   ·subst q;simp
   ·simp[q]
  rw[e] at h;exact h
 ·obtain⟨t,rfl⟩:=ha
  obtain⟨t',rfl⟩:=hb
  refine eqBool_str ?_
  rename_i i j
  have e:decide (ar (.str i)=ar (.str j))=(i==j):=by
   by_cases q:i=j
   ·subst q;simp
   ·have:¬ar (.str i)=ar (.str j):=λz=>q (by
     have:=ka (a:= .str i) (b:= .str j) rfl rfl z
     cases this;rfl)
    simp[q,this]
  rw[e] at h;exact h
theorem G4{a b:D}{u v:Value}{one:Bool}{Q:Bool→Shared→Prop}(ha:FlV a u)(hb:FlV b v)(ht:tyD a=tyD b)(hk:tyD a=1∨tyD a=2)(h:Q (cK ltI (ar a) (ar b)) s):wpAny (model prog w) A (oneLt' one u v) Q E s:=by
 cases a<;>cases b<;>simp[tyD] at ht hk
 ·obtain⟨t,rfl⟩:=ha
  obtain⟨t',rfl⟩:=hb
  rw[pq] at h
  cases one with
  |true=>exact oneLt_int h
  |false=>exact kat_one _ _ (PyProof.Rows.lt_int h)
 ·obtain⟨t,rfl⟩:=ha
  obtain⟨t',rfl⟩:=hb
  rw[tU] at h
  cases one with
  |true=>exact oneLt_str h
  |false=>exact kat_one _ _ (PyProof.Rows.lt_str h)
theorem wY{b fin:Bool}{Q:Bool→Shared→Prop}:∀{as bs:List D} {us vs:List Value} (i:Nat),Paired FlV as us→Paired FlV bs vs→jg as bs=true→fin=decide (as.length<bs.length)→Q (ltC (as.map ar) (bs.map ar)) s→KatLex prog w A b fin Q (us.zip vs) i s
 |[],[],_,_,i,.nil,.nil,_,hf,h=>by
  have h' :Q fin s:=by rw[hf];exact h
  exact h'
 |[],_::_,_,_,i,.nil,.cons _ _,_,hf,h=>by
  have h' :Q fin s:=by rw[hf,GaD (by simp)];exact h
  exact h'
 |_::_,[],_,_,i,.cons _ _,.nil,_,hf,h=>by
  have h' :Q fin s:=by rw[hf,GaE (by simp)];exact h
  exact h'
 |a::as,c::cs,_,_,i,.cons (b:=u) ha ta,.cons (b:=v) hb tb,hc,hf,h=>by
  unfold jg at hc
  have h0:ltC ((a::as).map ar) ((c::cs).map ar)=if ar a=ar c then ltC (as.map ar) (cs.map ar) else cK ltI (ar a) (ar c):=rfl
  rw[h0] at h
  have ht:tyD a=tyD c:=by
   split at hc
   ·rename_i e
    cases a<;>cases c<;>simp[ar] at e<;>first|rfl|exact ha.elim|exact hb.elim
   ·rw[Gaq] at hc;exact Gcn.mp hc.1
  show wpAny _ _ (eqBool u v) _ _ s
  refine Cz ha hb ht ?_
  by_cases e:ar a=ar c
  ·rw[GaD e,Gag rfl]
   rw[Gag e] at h hc
   exact wY (i+1) ta tb hc (by rw[hf];simp) h
  ·rw[GaE e,Gae Gay]
   rw[Gae e] at h hc
   rw[Gaq,Gbu] at hc
   exact G4 ha hb ht (hc.2.imp Gcn.mp Gcn.mp) h
theorem wZ{ds:List D}{vs:List Value}{κ:SortKind}(hK:Paired (gW s.heap) ds vs)(hok:keysOk ds=true)(hκ:(ds.all uN=true∧κ=oneType')∨((ds.all (fG 1)||ds.all (fG 2))=true∧(ds.all λx=>ds.all λy=>rO x y)=true∧κ=tuples' true)):
  ∀i j C,i<ds.length→j<ds.length→C (decide (rank (ds.map code) i<rank (ds.map code) j)) s→kas_ask prog w A κ vs i j C s:=by
 intro i j C hi hj h
 have hl:=hK.length
 rw[lD (by simpa using hi) (by simpa using hj)] at h
 simp only[Gcf] at h
 unfold kas_ask
 have gi:vs.getD i Value.none=vs[i]:=by simp[←hl,hi]
 have gj:vs.getD j Value.none=vs[j]:=by simp[←hl,hj]
 rw[gi,gj]
 have at_:∀{ds:List D} {vs:List Value},Paired (gW s.heap) ds vs→∀(i:Nat) (h1:i<ds.length) (h2:i<vs.length),gW s.heap ds[i] vs[i]:=by
  intro ds vs hK
  induction hK with
  |nil=>intro i h1;simp at h1
  |cons h t ih=>
   intro i h1 h2
   cases i with
   |zero=>exact h
   |succ i=>exact ih i (by simpa using h1) (by simpa using h2)
 have ki:=at_ hK i hi (by omega)
 have kj:=at_ hK j hj (by omega)
 rcases hκ with⟨a1,rfl⟩| ⟨a1,a2,rfl⟩
 ·obtain⟨x,hx⟩:=fI (Gat.mp a1 ds[i] (GaR hi))
  obtain⟨y,hy⟩:=fI (Gat.mp a1 ds[j] (GaR hj))
  rw[hx] at ki h
  rw[hy] at kj h
  obtain⟨t,ei⟩:=ki
  obtain⟨t',ej⟩:=kj
  rw[ei,ej]
  refine kat_lt_int ?_
  have e:ltC (code (.int x)) (code (.int y))=decide (x<y):=by
   show cK (cK ltI) [ar (.int x)] [ar (.int y)]=_
   unfold cK
   split
   ·rename_i z
    have:=ka (a:= .int x) (b:= .int y) rfl rfl z
    cases this
    simp[cK]
   ·exact pq
  rw[e] at h;exact h
 ·have tup:∀d∈ds,∃fs,d= .tup fs:=λd hd=>by
   rw[Gbu] at a1
   rcases a1 with a1|a1
   ·obtain⟨f,r,e,_⟩:=gf (by decide) (Gat.mp a1 d hd);exact⟨_,e⟩
   ·obtain⟨f,r,e,_⟩:=gf (by decide) (Gat.mp a1 d hd);exact⟨_,e⟩
  have cm:=Gat.mp (Gat.mp a2 ds[i] (GaR hi)) ds[j] (GaR hj)
  obtain⟨xs,hx⟩:=tup ds[i] (GaR hi)
  obtain⟨ys,hy⟩:=tup ds[j] (GaR hj)
  rw[hx] at ki h cm
  rw[hy] at kj h cm
  obtain⟨a,o,n,us,ei,h1,h2,h3,h4⟩:=ki
  obtain⟨a',o',n',us',ej,h1',h2',h3',h4'⟩:=kj
  rw[ei,ej]
  refine kat_lt h1 h3 h1' h3' ?_
  exact wY 0 h4 h4' cm (by rw[Gao,Gao,h4.length,h4'.length]) h
theorem kc{t:Nat}(ht:t≠3):∀{ds:List D} {vs:List Value},Paired (gW s.heap) ds vs→ds.all (fG t)=true→∃fs:List Value,∃gs:List D,KatTups s.heap vs fs∧Paired FlV gs fs∧(∀g∈gs,tyD g=t)∧fs.length=vs.length
 |[],_,.nil,_=> ⟨[],[],trivial,.nil,(by intro g hg;cases hg),rfl⟩
 |d::ds,_,.cons h tl,hk=>by
  rw[GbD,Gaq] at hk
  obtain⟨fs,gs,h1,h2,h3,h4⟩:=kc ht tl hk.2
  obtain⟨f,r,rfl,q1,q2⟩:=gf ht hk.1
  obtain⟨a,o,n,us,rfl,g1,g2,g3,g4⟩:=h
  cases g4 with
  |cons p t=>
   refine⟨_::fs,f::gs,KatTups.cons g1 g2 g3 (by simp) h1,.cons p h2,λg hg=> ?_,by simp[h4]⟩
   rcases Gas.mp hg with e|e
   ·subst e;exact q1
   ·exact h3 g e
theorem tV{M:Model}{h:Heap}{d:D}{v:Value}{t:Nat}(hd:FlV d v)(ht:tyD d=t):(t=1→PySem.W.Looks M h (typeOf v) (.type "int"))∧(t=2→PySem.W.Looks M h (typeOf v) (.type "str")):=by
 subst ht
 cases d<;>simp[tyD]<;>try exact hd.elim
 ·obtain⟨u,rfl⟩:=hd
  exact PySem.W.Looks.of_pure rfl
 ·obtain⟨u,rfl⟩:=hd
  exact PySem.W.Looks.of_pure rfl
theorem uW{ds:List D}{vs:List Value}{Q:SortKind→Shared→Prop}(hK:Paired (gW s.heap) ds vs)(hok:keysOk ds=true)(h2:2≤ds.length)
  (h:∀κ,((ds.all uN=true∧κ=oneType')∨((ds.all (fG 1)||ds.all (fG 2))=true∧(ds.all λx=>ds.all λy=>rO x y)=true∧κ=tuples' true))→Q κ s):wpAny (model prog w) A (keyKind' vs.toArray) Q E s:=by
 have hl:=hK.length
 unfold keysOk at hok
 rw[Gbu,Gaq] at hok
 rcases hok with hok| ⟨hok,hc⟩
 ·have ia:∀{ds:List D} {vs:List Value},Paired (gW s.heap) ds vs→ds.all uN=true→∃ns,IntsAre vs ns:=by
   intro ds vs hK
   induction hK with
   |nil=>intro _;exact⟨[],.nil⟩
   |cons p t ih=>
    intro hk
    rw[GbD,Gaq] at hk
    obtain⟨ns,q⟩:=ih hk.2
    obtain⟨i,rfl⟩:=fI hk.1
    obtain⟨u,rfl⟩:=p
    exact⟨i::ns,.cons i u q⟩
  obtain⟨ns,q⟩:=ia hK hok
  match vs,hl,q with
  |[],e,_=>rw[Gef] at e;omega
  |[_],e,_=>rw[GcG] at e;omega
  |v1::v2::vr,_,q=>
   rw[keyKind_ints q]
   exact Gab (h _ (.inl ⟨hok,rfl⟩))
 ·have hok' :=hok
  rw[Gbu] at hok'
  rcases hok' with a1|a1
  ·obtain⟨fs,gs,q1,q2,q3,q4⟩:=kc (s:=s) (by decide) hK a1
   refine kat_kind (T:= .type "int") q1 (by rw[q4,←hl];omega) (λv hv=> ?_) (by rfl) (h _ (.inr ⟨hok,hc,rfl⟩))
   obtain⟨g,hg,hgv⟩:∃g∈gs,FlV g v:=by
    clear q1 q3 q4
    induction q2 with
    |nil=>cases hv
    |cons p t ih=>
     rcases Gas.mp hv with e|e
     ·subst e;exact⟨_,Gav,p⟩
     ·obtain⟨g,h1,h2⟩:=ih e;exact⟨g,Gak _ h1,h2⟩
   exact(tV hgv (q3 g hg)).1 rfl
  ·obtain⟨fs,gs,q1,q2,q3,q4⟩:=kc (s:=s) (by decide) hK a1
   refine kat_kind (T:= .type "str") q1 (by rw[q4,←hl];omega) (λv hv=> ?_) (by rfl) (h _ (.inr ⟨hok,hc,rfl⟩))
   obtain⟨g,hg,hgv⟩:∃g∈gs,FlV g v:=by
    clear q1 q3 q4
    induction q2 with
    |nil=>cases hv
    |cons p t ih=>
     rcases Gas.mp hv with e|e
     ·subst e;exact⟨_,Gav,p⟩
     ·obtain⟨g,h1,h2⟩:=ih e;exact⟨g,Gak _ h1,h2⟩
   exact(tV hgv (q3 g hg)).2 rfl
theorem pz{a:Addr}{vs:List Value}{ds:List D}{n:Nat}{P:PySem.Fin→Shared→Prop}(ho:s.heap.get? a=some (seqObj "list" vs.toArray n))(h64:vs.length<64)(hK:Paired (gW s.heap) ds vs)(hok:keysOk ds=true)
  (h:∀p:Array Nat,Ord vs.length p→Up (rank (ds.map code)) p vs.length→P (.done (.ret .none)) {s with heap:=sortedHeap s.heap a vs (List.toArray (p.toList.map λi=>vs.getD i Value.none))}):wpAny (model prog w) A (Builtin.«list.sort» ⟨[.ref a],[]⟩) P E s:=by
 have hl:=hK.length
 have ha:a<s.heap.objs.size:=Gam ho
 have szl:vs.length≤sizeLine:=by rw[GbA];omega
 rw[list_sort_plain]
 refine Gaa (listItems_at ho rfl (Gaa (GcX ho rfl ?_ (by rw[Gao];exact szl) (GaJ _))))
 obtain⟨ep,ho1⟩:∃ep,(s.heap.update a (Obj.mapSeq λ_=>(#[]:Array Value))).get? a=some (seqObj "list" #[] ep):=⟨_,get?_update_seq ho λ_=>#[]⟩
 refine Gaa (GdS ho1 rfl (Gaa (GdJ ?_ szl)))
 refine Gaa (Gct ?_ (GaJ _))
 refine Gbp ?_
 generalize hG:((s.heap.update a (Obj.mapSeq λ_=>(#[]:Array Value))).push {cls:= .type "tuple",data:= .seq vs.toArray}).push {cls:= .type "list",data:= .seq ([]:List Value).toArray}=G
 have hGs:G=((s.heap.update a (Obj.mapSeq λ_=>(#[]:Array Value))).push (seqObj "tuple" vs.toArray 0)).push (seqObj "list" #[] 0):=hG.symm
 have hoG:G.get? a=some (seqObj "list" #[] ep):=by rw[←hG];exact Gad _ (Gad _ ho1)
 have keepG:∀b o,b≠a→s.heap.get? b=some o→G.get? b=some o:=λb o hb e=>by
  rw[←hG]
  exact Gad _ (Gad _ ((GaS _ _ (Gba hb)).trans e))
 show wpAny (model prog w) A _ P E {s with heap:=G}
 have fin:∀(p:Array Nat),Ord vs.length p→Up (rank (ds.map code)) p vs.length→P (.done (.ret .none)) {s with heap:=G.update a (Obj.mapSeq λ_=>List.toArray (p.toList.map λi=>vs.getD i Value.none))}:=λp h1 h2=>by
  have:=h p h1 h2
  unfold sortedHeap at this
  rw[←hGs] at this
  exact this
 have endOk:∀(p:Array Nat),Ord vs.length p→Up (rank (ds.map code)) p vs.length→∀(st:SortSt),(arrOf st).map (·.2)=List.toArray (p.toList.map λi=>vs.getD i Value.none)→failedOf st=none→
   wpAny (model prog w) A (do
    let touched:=(←seqEpoch a) !=ep
    Builtin.List.listUpdate (.ref a) λ_=>(arrOf st).map (·.2)
    if let some e:=failedOf st then rule "list.sort.comparison-raised";throw e
    if touched then rule "list.sort.modified";raiseError "ValueError" "list modified during sort"
    ret .none) P E {s with heap:=G}:=λp h1 h2 st e1 e2=>by
  refine Gaa (GdS hoG rfl ?_)
  rw[e1]
  refine Gaa (GcX hoG rfl ?_ (GaJ _) (by rw[Gao,Gar,GaC,h1.size];omega))
  rw[e2]
  simp only[GdN,Gai,GaB]
  exact Gab (fin p h1 h2)
 have hsz:vs.toArray.size=vs.length:=by simp
 dsimp only
 by_cases h2:vs.toArray.size<2
 ·rw[Gag h2,Gag h2]
  refine Gaa (Gab ?_)
  rw[StateT.run_pure]
  refine Gaa (Gab ?_)
  refine endOk (List.toArray (List.range vs.length)) (List.Perm.refl _) (λu v huv hv=>by rw[show u=v by omega];exact Gbn _) (SortSt.mk' general' (vs.toArray.zip vs.toArray) #[] 7 none) ?_ rfl
  show((vs.toArray.zip vs.toArray).map (·.2))=_
  apply Gcc.mp
  simp only[Array.toList_map,Array.toList_zip]
  have hv:vs.length<2:=by rw[←hsz];exact h2
  clear hK h fin endOk ho hG hGs hoG keepG hl h64 szl hsz h2
  match vs,hv with
  |[],_=>rfl
  |[x],_=>rfl
  |x::y::r,q=>exact absurd q (by simp)
 ·rw[Gae h2,Gae h2]
  have hKG:Paired (gW G) ds vs:=by
   clear h fin endOk hl h64 szl hsz h2 hok
   have one:∀{d:D} {v:Value},gW s.heap d v→gW G d v:=λ{d v} k=>by
    cases d with
    |int i=>exact k
    |tup fs=>
     obtain⟨b,o,m,us,h1,h2,h3,h4⟩:=k
     refine⟨b,o,m,us,h1,keepG b o (λz=> ?_) h2,h3,h4⟩
     rw[z,ho] at h2
     cases h2
     have q:Value.type "list"= .type "tuple":=h3
     simp at q
    |_=>exact k
   exact gX (λ_ _=>one) hK
  refine Gaa (uW (s:={s with heap:=G}) hKG hok (by omega) λκ hκ=> ?_)
  refine Gaa (GbU (kat_run (E:=E) (Q:=λst' s' =>s' ={s with heap:=G}∧∃p:Array Nat,Ord vs.length p∧Up (rank (ds.map code)) p vs.length∧(arrOf st').map (·.2)=List.toArray (p.toList.map λi=>vs.getD i Value.none)∧failedOf st' =none)
   (G:=λp s' =>s' ={s with heap:=G}∧Ord vs.length p∧Up (rank (ds.map code)) p vs.length) rfl (by omega) h64 (λp st' s' b1 b2 b3 b4=> ⟨b4.1,p,b4.2.1,b4.2.2,kat_snds rfl b2,b3⟩) ?_) ?_ λ_ _ e=>e)
  ·have so:=tQ (rk:=rank (ds.map code)) (N:=vs.length) (by omega)
   refine Asks.wp (s:={s with heap:=G}) (λi j C hi hj hc=> ?_) (λp hp=> ⟨rfl,hp.1,hp.2⟩) _ so
   exact wZ (s:={s with heap:=G}) hKG hok hκ i j C (by omega) (by omega) hc
  ·rintro⟨⟨⟩,st'⟩ s' ⟨rfl,p,c1,c2,c3,c4⟩
   exact endOk p c1 c2 st' c3 c4
theorem qq{l:Addr}{o:Obj}{vs:List Value}{n:Nat}{T:String}{Q:List Value→Shared→Prop}(ho:s.heap.get? l=some o)(hc:o.cls= .type T)(hT:T="list"∨T="tuple")(hd:o.data= .seq vs.toArray n)
  (h:Q vs {s with heap:=(s.heap.push (seqObj "list" #[] 0)).update s.heap.objs.size (Obj.mapSeq (· ++vs.toArray))})(hsz:vs.length≤sizeLine):wpAny (model prog w) A (collect (.ref l)) Q E s:=by
 unfold collect
 refine Gaa (Gep (Gbx entry_proto_collect' ?_))
 show wpAny _ _ (newList []>>=λl0=>again (.builtin "list.__iadd__" ⟨[l0,.ref l],[]⟩)) _ _ s
 refine Gaa (Gct (Gab ⟨GdF _ (by decide+kernel),Gbx entry_list_iadd' ?_⟩))
 show wpAny _ _ (Builtin.List.listExtendWith (.ref s.heap.objs.size) (.ref l) (.ref s.heap.objs.size)) _ _ {s with heap:=s.heap.push (seqObj "list" #[] 0)}
 unfold Builtin.List.listExtendWith
 have hol:(s.heap.push (seqObj "list" #[] 0)).get? l=some o:=Gad _ ho
 refine Gaa (Gdl (T:=T) ⟨o,hol,hc⟩ ?_)
 rw[Gag (by rcases hT with rfl|rfl<;>simp<;>first|(left;right;rfl)|(right;rfl)|rfl)]
 refine Gaa (listItems_at hol hd ?_)
 refine Gaa (listItems_at (xs:=#[]) (n:=0) (Gan _ rfl) rfl ?_)
 rw[Gae (by simp)]
 refine Gaa (GcX (xs:=#[]) (n:=0) (Gan _ rfl) rfl ?_ (GaJ _) (by simp only[Array.size_append,Gao,Gef];omega))
 refine Gab ?_
 show wpAny (model prog w) A (load s.heap.objs.size>>=λo=>match o.data with
   | .seq xs _=>pure xs.toList
   |_=>unsupported "internal:collect") Q E {s with heap:=(s.heap.push (seqObj "list" #[] 0)).update s.heap.objs.size (Obj.mapSeq (· ++vs.toArray))}
 refine Gaa (wpAny_load (get?_update_seq (Gan _ rfl) _) ?_)
 have e:((#[]:Array Value)++vs.toArray).toList=vs:=by simp
 show wpAny _ _ (pure ((#[]:Array Value)++vs.toArray).toList) Q E _
 rw[e]
 exact Gab h
end
section
variable{X:Cx}
theorem G5{K:aa}{F:Addr→Prop}{H:Hp}{d:D}{v:V}{u:Value}(r:Rep K F H d v)(hf:fw d=true)(ru:RelV v u):FlV d u:=by
 cases r<;>simp[fw,tyD] at hf
 ·cases ru;rfl
 ·exact ru
 ·exact ru
theorem rW{K:aa}{F:Addr→Prop}{H:Hp}:∀{ds:List D} {vs:List V} {us:List Value},aq K F H ds vs→ds.all fw=true→Vals vs us→Paired FlV ds us
 |[],vs,us,r,_,ru=>by
  have:=r.bC
  subst this
  cases ru
  exact .nil
 |d::ds,vs,us,r,hf,ru=>by
  obtain⟨v,w,rfl,h1,h2⟩:=r.cons_inv
  rw[GbD,Gaq] at hf
  cases ru with
  |cons r1 r2=>exact .cons (G5 h1 hf.1 r1) (rW h2 hf.2 r2)
noncomputable def isKey(d:D):Bool:=match d with
 | .int _=>true
 | .tup fs=>fs.all fw
 |_=>false
theorem jT{pins:List (Addr×Obj)}{σ:St}{F:Addr→Prop}{H:Hp}{s:Shared}{d:D}{v:V}{u:Value}(I:Inv X pins σ H s)(r:Rep X.K F H d v)(hk:isKey d=true)(ru:RelV v u):gW s.heap d u:=by
 cases r<;>simp[isKey] at hk
 ·exact ru
 ·rename_i a vs fs h l r
  cases ru
  obtain⟨its,rv,⟨o,h1,h2,n,h3⟩,_⟩:=I.tuple (SqT.of h)
  exact⟨a,o,n,its,rfl,h1,h2,h3,rW ⟨l,r⟩ (Gat.mpr hk) rv⟩
theorem tW{pins:List (Addr×Obj)}{σ:St}{F:Addr→Prop}{H:Hp}{s:Shared}(I:Inv X pins σ H s):∀{ds:List D} {vs:List V} {us:List Value},aq X.K F H ds vs→ds.all isKey=true→Vals vs us→Paired (gW s.heap) ds us
 |[],vs,us,r,_,ru=>by
  have:=r.bC
  subst this
  cases ru
  exact .nil
 |d::ds,vs,us,r,hf,ru=>by
  obtain⟨v,w,rfl,h1,h2⟩:=r.cons_inv
  rw[GbD,Gaq] at hf
  cases ru with
  |cons r1 r2=>exact .cons (jT I h1 hf.1 r1) (tW I h2 hf.2 r2)
theorem A0{ds:List D}(h:keysOk ds=true):ds.all isKey=true:=by
 unfold keysOk at h
 rw[Gbu,Gaq,Gbu] at h
 refine Gat.mpr λd hd=> ?_
 have tup:∀t,t≠3→ds.all (fG t)=true→isKey d=true:=λt ht hk=>by
  obtain⟨f,r,rfl,_,q1⟩:=gf ht (Gat.mp hk d hd)
  exact q1
 rcases h with h| ⟨h|h,_⟩
 ·obtain⟨i,rfl⟩:=fI (Gat.mp h d hd);rfl
 ·exact tup 1 (by decide) h
 ·exact tup 2 (by decide) h
theorem range_getD{α:Type}{xs:List α}{d:α}:(List.range xs.length).map (λi=>xs.getD i d)=xs:=by
 apply Gdt
 ·simp
 ·intro i h1 h2
  simp[h2]
theorem cQ{α:Type}{xs:List α}{d:α}{p:Array Nat}(h:Ord xs.length p):(p.toList.map λi=>xs.getD i d).Perm xs:=by
 have:=List.Perm.map (λi=>xs.getD i d) h
 rw[range_getD] at this
 exact this
theorem pA{n:Nat}{p:Array Nat}(h:Ord n p){i:Nat}(hi:i<p.toList.length):p.toList[i]<n:=GaT.mp (h.mem_iff.mp (GaR hi))
theorem rX{ds:List D}{p:Array Nat}(h:Ord ds.length p)(hu:Up (rank (ds.map code)) p ds.length):fX (p.toList.map λi=>ds.getD i .non):=by
 refine Gck.mpr λi j hi hj hij=> ?_
 rw[Gar] at hi hj
 rw[Gcf,Gcf]
 have bi:=pA h hi
 have bj:=pA h hj
 have hs:=h.size
 have hi' :i<p.size:=by simpa using hi
 have hj' :j<p.size:=by simpa using hj
 have u:=hu i j (GcC hij) (by omega)
 unfold b7 at u
 have ei:p.getD i 0=p.toList[i]:=by simp[Array.getD,hi']
 have ej:p.getD j 0=p.toList[j]:=by simp[Array.getD,hj']
 rw[ei,ej] at u
 have r:=lD (cs:=ds.map code) (i:=p.toList[j]) (j:=p.toList[i]) (by simpa using bj) (by simpa using bi)
 rw[GaE (Gds.mpr u)] at r
 simp only[Gcf] at r
 have gd:∀{k:Nat} (hk:k<ds.length),ds.getD k .non=ds[k]:=λ{k} hk=>by simp[hk]
 have gi:=gd bi
 have gj:=gd bj
 rw[gi,gj]
 exact r.symm
theorem mF{K:aa}{F:Addr→Prop}{H:Hp}{ds:List D}{vs:List V}{p:Array Nat}(h:Ord ds.length p)(r:aq K F H ds vs):aq K F H (p.toList.map λi=>ds.getD i .non) (p.toList.map λi=>vs.getD i .non):=by
 refine⟨by simp,λi d v e1 e2=> ?_⟩
 rw[Gax] at e1 e2
 cases q:p.toList[i]? with
 |none=>rw[q] at e1;cases e1
 |some k=>
  rw[q] at e1 e2
  have hk:k<ds.length:=GaT.mp (h.mem_iff.mp (GaO q))
  have hk2:k<vs.length:=by rw[←r.1];exact hk
  cases e1;cases e2
  exact r.2 k _ _ (by simp[hk]) (by simp[hk2])
theorem mG{vs:List V}{us:List Value}{p:Array Nat}(h:Ord vs.length p)(r:Vals vs us):Vals (p.toList.map λi=>vs.getD i .non) (p.toList.map λi=>us.getD i Value.none):=by
 have hl:=r.length
 have all:∀(l:List Nat),(∀i∈l,i<vs.length)→Vals (l.map λi=>vs.getD i .non) (l.map λi=>us.getD i Value.none):=by
  intro l
  induction l with
  |nil=>intro _;exact .nil
  |cons i l ih=>
   intro hm
   have hi:=hm i Gav
   obtain⟨u,hu,ru⟩:=r.get (x:=vs[i]) (i:=i) (by simp[hi])
   refine .cons ?_ (ih λj hj=>hm j (Gak _ hj))
   have e1:vs.getD i .non=vs[i]:=by simp[hi]
   have e2:us.getD i Value.none=u:=by simp[hu]
   show RelV (vs.getD i .non) (us.getD i Value.none)
   rw[e1,e2];exact ru
 exact all _ λi hi=>GaT.mp (h.mem_iff.mp hi)
end
open PySem PySem.Spec PyProof.Rows L2
open PySem PySem.Spec PyProof.Rows L2
section
variable{X:Cx}{e a b c:Expr}{f g h:DE}{pos:Pos}
noncomputable def G6(neg:Bool):R2:=λx y H Q=>∃a o,y= .ref a∧lX H a x o∧Q (.bl (if neg then !o.isSome else o.isSome)) H
theorem rY(hu:X.A.units+1<cLine):OpR X (compareOp .NotIn) (G6 true):=by
 intro pins s σ H x y v u Q I rx ry h
 obtain⟨p,o,rfl,g,q⟩:=h
 cases ry
 exact Bg hu I g rx λs' I' => ⟨.bl (!o.isSome),H,I',rfl,q⟩
theorem BJ{K:aa}{F:Addr→Prop}{H:Hp}:∀(n:Nat) {d d' :D} {v:V},a9 n d=true→a9 n d' =true→Rep K F H d v→Rep K F H d' v→d=d' :=by
 have go:∀(n:Nat) {ds ds' :List D} {vs:List V},(∀{d d' :D} {v:V},a9 n d=true→a9 n d' =true→Rep K F H d v→Rep K F H d' v→d=d')→ds.all (a9 n)=true→ds'.all (a9 n)=true→aq K F H ds vs→aq K F H ds' vs→ds=ds' :=by
  intro n ds ds' vs ih
  induction ds generalizing ds' vs with
  |nil=>
   intro _ _ r r'
   have e:=r.bC
   subst e
   exact(Gcu r'.1).symm
  |cons d ds ih2=>
   intro p p' r r'
   obtain⟨v,w,rfl,h1,h2⟩:=r.cons_inv
   cases ds' with
   |nil=>cases r'.1
   |cons d' ds' =>
    obtain⟨v',w',e,h1',h2'⟩:=r'.cons_inv
    cases e
    rw[GbD,Gaq] at p p'
    rw[ih p.1 p'.1 h1 h1',ih2 p.2 p'.2 h2 h2']
 intro n
 induction n with
 |zero=>
  intro d d' v p p' r r'
  cases r<;>simp at p<;>cases r' <;>simp at p' <;>rfl
 |succ n ih=>
  intro d d' v p p' r r'
  cases r with
  |non=>cases r';rfl
  |bl b=>cases r';rfl
  |int i=>cases r';rfl
  |str x=>cases r';rfl
  |tup h l r=>
   cases r' with
   |tup h' l' r' =>
    rw[h] at h';cases h'
    rw[go n ih (by simpa using p) (by simpa using p') ⟨l,r⟩ ⟨l',r'⟩]
   |lst f' h' l' r' =>
    rcases h' with h' | ⟨o,h'⟩
    ·rw[h] at h';cases h'
    ·rw[h] at h';cases h'
   |_=>simp at p'
  |lst f h l r=>
   cases r' with
   |lst f' h' l' r' =>
    have e:∀{a:Addr} {u w:List V},Rd H a (.lst u)→Rd H a (.lst w)→u=w:=by
     intro a u w h1 h2
     rcases h1 with h1| ⟨o,h1⟩<;>rcases h2 with h2| ⟨o',h2⟩<;>rw[h1] at h2<;>cases h2<;>rfl
    have ee:=e h h'
    subst ee
    rw[go n ih (by simpa using p) (by simpa using p') ⟨l,r⟩ ⟨l',r'⟩]
   |tup h' l' r' =>
    rcases h with h| ⟨o,h⟩
    ·rw[h] at h';cases h'
    ·rw[h] at h';cases h'
   |_=>simp at p'
  |_=>simp at p
noncomputable def G7:Value→V
 | .bool b=> .bl b
 | .int i _=> .int i
 | .str x _=> .str x
 | .bytes b _=> .byt b
 | .float b _=> .flt b
 | .ref a=> .ref a
 | .type n=> .ty n
 |_=> .non
theorem qr{v:V}{u:Value}(h:RelV v u):G7 u=v:=by
 cases v<;>first|(obtain⟨t,rfl⟩:=h;rfl)|(have h' :=h;unfold RelV at h';subst h';rfl)
theorem A1{v v' :V}{u:Value}(h:RelV v u)(h' :RelV v' u):v=v' :=(qr h).symm.trans (qr h')
noncomputable def G8(K:aa)(neg:Bool):R2:=λx y H Q=>∃p xs dx ds,y= .ref p∧(SqL K H p xs∨SqT K H p xs)∧a9 10 dx=true∧ds.all (a9 10)=true∧Rep K (λ_=>True) H dx x∧aq K (λ_=>True) H ds xs∧Q (.bl (if neg then !ds.any (λy=>eqD y dx) else ds.any (λy=>eqD y dx))) H
theorem qt{pins:List (Addr×Obj)}{σ:L2.St}{H:Hp}{z:Shared}(I:Inv X pins σ H z)(hu:X.A.units+20<cLine){xs:List V}{its:List Value}{dx:D}{ds:List D}{x:V}{v:Value}(r:Vals xs its)(hx:a9 10 dx=true)(hs:ds.all (a9 10)=true)
  (rx:Rep X.K (λ_=>True) H dx x)(rs:aq X.K (λ_=>True) H ds xs)(rv:RelV x v):∃ev:Value→Bool,(∀w∈its,SeqAt.EqAt X.A.in1 z w v (ev w))∧its.any ev=ds.any λy=>eqD y dx:=by
 classical
 have hll:=r.length
 have tri:∀(i:Nat) (w:Value),its[i]? =some w→∃d u,ds[i]? =some d∧xs[i]? =some u∧RelV u w∧Rep X.K (λ_=>True) H d u∧a9 10 d=true:=λi w hw=>by
  have hi:i<its.length:=(Gaf.mp hw).1
  have hd:ds[i]? =some (ds[i]'(by rw[rs.1,hll];exact hi)):=Gac _
  obtain⟨u,hu1,hu2⟩:=rs.get hd
  obtain⟨w',hw1,hw2⟩:=r.get hu1
  rw[hw] at hw1;cases hw1
  exact⟨_,u,hd,hu1,hw2,hu2,Gat.mp hs _ (GaO hd)⟩
 refine⟨λw=>decide (∃(i:Nat) (d:D),its[i]? =some w∧ds[i]? =some d∧eqD d dx=true),λw hw=> ?_, ?_⟩
 ·obtain⟨i,hi⟩:=List.getElem?_of_mem hw
  obtain⟨d,u,h1,h2,h3,h4,h5⟩:=tri i w hi
  have key:decide (∃(i:Nat) (d:D),its[i]? =some w∧ds[i]? =some d∧eqD d dx=true)=eqD d dx:=by
   cases q:eqD d dx with
   |true=>exact GaD ⟨i,d,hi,h1,q⟩
   |false=>
    refine GaE ?_
    rintro⟨j,d',g1,g2,g3⟩
    obtain⟨d2,u2,k1,k2,k3,k4,k5⟩:=tri j w g1
    rw[g2] at k1;cases k1
    have eu:=A1 h3 k3
    subst eu
    rw[BJ 10 h5 k5 h4 k4] at q
    rw[q] at g3;cases g3
  show SeqAt.EqAt X.A.in1 z w v (decide _)
  rw[key]
  exact jm I 10 h5 hx h4 rx h3 rv (by show X.A.units+1+10<_;omega)
 ·rw[Gdz,Gcx,Gcx]
  constructor
  ·rintro⟨w,hw,e⟩
   obtain⟨i,d,_,h2,h3⟩:=GaN e
   exact⟨d,GaO h2,h3⟩
  ·rintro⟨d,hd,e⟩
   obtain⟨i,hi⟩:=List.getElem?_of_mem hd
   have hl:i<its.length:=by rw[←hll,←rs.1];exact(Gaf.mp hi).1
   exact⟨its[i],GaR hl,GaD ⟨i,d,Gac hl,hi,e⟩⟩
theorem BK(hu:X.A.units+20<cLine):OpR X (compareOp .NotIn) (G8 X.K true):=by
 intro pins z σ H x y v u Q I rx ry h
 obtain⟨p,xs,dx,ds,rfl,hq,fx,fs,r1,r2,q⟩:=h
 cases ry
 rcases hq with hq|hq
 ·obtain⟨its,r,pl,hz⟩:=I.list hq
  obtain⟨ev,e1,e2⟩:=qt I hu r fx fs r1 r2 rx
  refine SeqAt.notIn_listAt ev pl.isList (λw hw=>e1 w (by simpa using hw)) ⟨.bl _,H,I,rfl, ?_⟩
  rw[show its.toArray.any ev=its.any ev by simp,e2]
  exact q
 ·obtain⟨its,r,pl,hz⟩:=I.tuple hq
  obtain⟨ev,e1,e2⟩:=qt I hu r fx fs r1 r2 rx
  refine SeqAt.notIn_tupleAt ev pl (λw hw=>e1 w (by simpa using hw)) ⟨.bl _,H,I,rfl, ?_⟩
  rw[show its.toArray.any ev=its.any ev by simp,e2]
  exact q
noncomputable def BL(K:aa)(neg:Bool):R2:=λx y H Q=>G8 K neg x y H Q∨G6 neg x y H Q
theorem tX(hu:X.A.units+20<cLine):OpR X (compareOp .NotIn) (BL X.K true):=(BK hu).or (rY (by omega))
theorem BM{neg:Bool}{F:Addr→Prop}{H:Hp}{dx dy:D}{x y:V}{b:Bool}{Q:VK}(ix:Inn X.K F H dx x)(iy:Inn X.K F H dy y)(e:inB dx dy=some b)(q:Q (.bl (if neg then !b else b)) H):BL X.K neg x y H Q:=by
 have seq:∀{ds:List D} {p:Addr} {vs:List V},y= .ref p→(SqL X.K H p vs∨SqT X.K H p vs)→aq X.K F H ds vs→tm dx ds=some b→BL X.K neg x y H Q:=λ{ds p vs} ey hs r hb=>by
  unfold tm at hb
  split at hb
  ·rename_i c
   rw[Gaq] at c
   cases hb
   exact .inl ⟨p,vs,dx,ds,ey,hs,c.1,c.2,ix.any,⟨r.1,λi d v e1 e2=>(r.2 i d v e1 e2).inn.any⟩,q⟩
  ·cases hb
 unfold inB at e
 split at e
 ·obtain⟨k,hk,rfl⟩:=Gaj.mp e
  obtain⟨g1,g2⟩:=lF iy ix
  obtain⟨p,ws,ey,r,g⟩:=g1 _ k rfl hk
  refine .inr ⟨p,_,ey,g, ?_⟩
  rename_i kvs
  have:(gG ws k).isSome=(look kvs k).isSome:=by
   cases z:look kvs k with
   |none=>rw[jZ r z];rfl
   |some d=>obtain⟨v,h1,_⟩:=gR r z;rw[h1];rfl
  rw[this];exact q
 ·split at e
  ·rename_i _ kvs _ ks
   obtain⟨k,hk,rfl⟩:=Gaj.mp e
   obtain⟨g1,g2⟩:=lF iy ix
   obtain⟨p,ws,ey,r,g⟩:=g2 _ _ k rfl rfl hk
   refine .inr ⟨p,_,ey,g, ?_⟩
   have:(gG ws k).isSome=(look kvs k).isSome:=by
    cases z:look kvs k with
    |none=>rw[jZ r z];rfl
    |some d=>obtain⟨v,h1,_⟩:=gR r z;rw[h1];rfl
   rw[this];exact q
  ·cases e
 ·cases iy with
  |lst h r=>exact seq rfl (.inl (.inl h)) r e
 ·cases iy with
  |tup h r=>exact seq rfl (.inr (SqT.of h)) r e
 ·cases e
theorem tY:OpB X qd (BL X.K true):=λF H dx dy x y b Q ix iy e q=>by
 obtain⟨b',e',rfl⟩:=Gaj.mp e
 exact BM (neg:=true) ix iy e' q
end
open PySem PySem.Spec PyProof.Rows L2
namespace Fr
end Fr
noncomputable def qu(h:Heap)(it a:Addr)(i:Int):Prop:=∃o,h.get? it=some o∧o.cls= .type "reversed"∧o.data= .fields #[.ref a,rawInt i]
section
variable{prog:Program}{w:World}{A:Around}{E:Value→Shared→Prop}{z:Shared}
theorem qu.ty{it a:Addr}{i:Int}(x:qu z.heap it a i):z.TypeIs (.ref it) "reversed":=let⟨o,ho,hc,_⟩:=x;⟨o,ho,hc⟩
theorem qu.at{h h' :Heap}{it a:Addr}{i:Int}(x:qu h it a i)(e:∀o,h.get? it=some o→h'.get? it=some o):qu h' it a i:=let⟨o,ho,r⟩:=x;⟨o,e _ ho,r⟩
end
open PySem PySem.Spec PyProof.Rows L2
section
variable{X:Cx}{e a b c:Expr}{f g h:DE}{pos:Pos}
theorem A2{xs:List V}{its:List Value}(r:Vals xs its){x:V}{u:Value}(hx:RelV x u)(j:Int):Vals (fe xs j x) (PySem.W.kl_ins its j u):=by
 have hl:=r.length
 unfold fe PySem.W.kl_ins
 rw[hl]
 have tk:∀{xs:List V} {its:List Value} (r:Vals xs its) (n:Nat),Vals (xs.take n) (its.take n):=by
  intro xs its r
  induction r with
  |nil=>intro n;simp;exact .nil
  |cons h t ih=>intro n;cases n with
   |zero=>exact .nil
   |succ n=>exact .cons h (ih n)
 have dr:∀{xs:List V} {its:List Value} (r:Vals xs its) (n:Nat),Vals (xs.drop n) (its.drop n):=by
  intro xs its r
  induction r with
  |nil=>intro n;simp;exact .nil
  |cons h t ih=>intro n;cases n with
   |zero=>exact .cons h t
   |succ n=>exact ih n
 exact(tk r _).append (.cons hx (dr r _))
noncomputable def BN:V→List V→Hp→VK→Prop:=λx vs H Q=>∃l xs j y,x= .ref l∧vs=[.int j,y]∧H l=some (.lst xs)∧xs.length<sizeLine∧-(2^62)≤j∧j<2^62∧Q .non (upd H l (.lst (fe xs j y)))
theorem uX:MtM X "list.insert" BN:=by
 intro pins z σ H x vs v us Q I rx rv h
 obtain⟨l,xs,j,y,rfl,rfl,hH,hz,h1,h2,q⟩:=h
 cases rx
 cases rv with
 |cons r1 t1=>
  cases t1 with
  |cons r2 t2=>
   cases t2
   obtain⟨t,rfl⟩:=r1
   rename_i u
   obtain⟨_,its,n,r,hl,e⟩:=I.Be hH
   have hfit:Builtin.List.listFitsIndex j=true:=by simp[Builtin.List.listFitsIndex];omega
   refine call_meets F.slot_list_insert ⟨_,e,rfl⟩ F.entry_list_insert (F.args_list_insert_3 _ _ _) (PySem.AutoSeq1.list_insert_list_int_val_1 l its.toArray n j t u (by simp[hfit]) (by rw[Gao];omega)) ⟨e, ?_⟩
   refine⟨.non,_,I.Bd (its' :=PySem.W.kl_ins its j u) hH e ?_ (A2 r r2 j) ?_,rfl,q⟩
   ·show(its.toArray.extract 0 _).push u++its.toArray.extract _=_
    rw[PySem.W.kl_ins_eq]
    simp only[Gao]
    rfl
   ·rw[uO];omega
theorem j1{α β:Type}{F:α→β→Prop}:∀{xs:List α} {ys:List β},xs.length=ys.length→(∀(i:Nat) x y,xs[i]? =some x→ys[i]? =some y→F x y)→Paired F xs ys
 |[],[],_,_=> .nil
 |[],_::_,h,_=>by cases h
 |_::_,[],h,_=>by cases h
 |x::xs,y::ys,h,g=> .cons (g 0 x y rfl rfl) (j1 (by simpa using h) λi a b ha hb=>g (i+1) a b (by simpa using ha) (by simpa using hb))
theorem mH{K:aa}{F:Addr→Prop}{H:Hp}{α:Type}{dd:α→D}{vv:α→V}(h:∀n,Rep K F H (dd n) (vv n)):∀{l:List α},aq K F H (l.map dd) (l.map vv)
 |[]=> .nil
 |x::l=> .cons (h x) (mH h)
theorem uY{b:List Stmt}:gP X b oV:=by
 rintro pins z σ H D I ⟨H₀,Bad,env,o,E,e,k⟩
 cases e
end
noncomputable def G9(op:CmpOp)(A:Around)(z:Shared)(x y:Value)(r:Bool):Prop:=∀(prog:Program) (w:World) (E:Value→Shared→Prop) (Q:Value→Shared→Prop),Q (.bool r) z→wpAny (model prog w) A (richCompare op x y) Q E z
noncomputable def Ans(op:CmpOp)(A:Around)(z:Shared)(fin:Bool):List (Value×Value)→Bool→Prop
 |[],r=>r=fin
 |(x,y)::ps,r=>∃b,SeqAt.EqAt A z x y b∧((b=true∧Ans op A z fin ps r)∨(b=false∧G9 op A z x y r))
theorem rZ(l b:Addr)(items items2:Array Value)(n n2:Nat)(dd dd2:Option Addr)(sl sl2:Array (Option Value))(r:Bool):
  Meets (Builtin.«tuple.__lt__» ⟨[.ref l,.ref b],[]⟩)
   (λA R z=>z.heap.get? l=some {cls:= .type "tuple",dict:=dd,data:= .seq items n,slots:=sl}∧z.heap.get? b=some {cls:= .type "tuple",dict:=dd2,data:= .seq items2 n2,slots:=sl2}∧
    Ans .Lt A.in1 z (decide (items.size<items2.size)) (items.toList.zip items2.toList) r∧R (.ok (.ret (.bool r))) z):=
 .of_wp λprog w A R z h=>by
  obtain⟨hp,g,d,tk,os⟩:=z;obtain⟨hl,hb,he,h⟩:=h
  have f2:=AutoSeq1.sub_tuple_tuple
  wp_walk using AutoSeq1.wpAny_loadPart' hl,AutoSeq1.wpAny_loadPart' hb,GcQ _ (λrest b s' =>b.1=none∧s' =⟨hp,g,d,tk,os⟩∧Ans .Lt A.in1 ⟨hp,g,d,tk,os⟩ (decide (items.size<items2.size)) rest r) _
  case turn=>
   rintro⟨y,x⟩ rest b s' ⟨hb',rfl,c,ec,hc⟩
   refine Gaa (ec prog w _ _ ?_)
   rcases hc with⟨rfl,hc⟩| ⟨rfl,hc⟩
   ·wp_walk
    exact⟨rfl,rfl,hc⟩
   ·have hc' :∀(E:Value→Shared→Prop) (Q:Value→Shared→Prop),Q (.bool r) ⟨hp,g,d,tk,os⟩→wpAny (model prog w) A.in1 (richCompare .Lt y x) Q E ⟨hp,g,d,tk,os⟩:=λE Q hq=>hc prog w E Q hq
    wp_walk using hc' _ _
    exact⟨_,rfl,h⟩
  case fin=>
   rintro⟨b1,b2⟩ s' ⟨hb',rfl,hR⟩
   simp only at hb'
   subst hb'
   wp_walk
   have hR' :r=decide (items.size<items2.size):=hR
   exact⟨_,rfl,by rw[hR'] at h;simpa[Builtin.Tuple.tupleCompareSizes] using h⟩
  case h=>exact⟨rfl,rfl,he⟩
theorem Ga{A:Around}{z:Shared}{l b:Addr}{its its2:Array Value}{r:Bool}(hl:z.heap.IsTuple l its)(hb:z.heap.IsTuple b its2)(hu:A.units<cLine)(he:Ans .Lt A.in1 z (decide (its.size<its2.size)) (its.toList.zip its2.toList) r):G9 .Lt A z (.ref l) (.ref b) r:=λprog w E Q h=>by
 obtain⟨⟨cls,dd,data,sl⟩,ho,hc,n,hd⟩:=id hl
 obtain⟨⟨cls2,dd2,data2,sl2⟩,ho2,hc2,n2,hd2⟩:=id hb
 simp only at hc hd hc2 hd2
 subst hc hd hc2 hd2
 exact richCompare_meets_room (op:= .Lt) ⟨_,ho,rfl⟩ ⟨_,ho2,rfl⟩ F.slot_tuple_lt F.entry_tuple_lt (F.args_tuple_lt_2 _ _) (rZ l b its its2 n n2 dd dd2 sl sl2 r) ⟨ho,ho2,he,show Value.bool r≠Value.notImplemented∧Q (.bool r) z from⟨(λx=>nomatch x),h⟩⟩ hu
noncomputable def gg(h:Heap)(d:Addr)(es:Array DictEntry)(ep:Nat):Prop:=∃o,h.get? d=some o∧o.ExactDict∧o.data= .dict es ep
theorem gg.at{h h' :Heap}{d:Addr}{es:Array DictEntry}{ep:Nat}(x:gg h d es ep)(e:∀o,h.get? d=some o→h'.get? d=some o):gg h' d es ep:=let⟨o,ho,r⟩:=x;⟨o,e _ ho,r⟩
section
variable{prog:Program}{w:World}{A:Around}{E:Value→Shared→Prop}{z:Shared}
theorem gg.ty{d:Addr}{es:Array DictEntry}{ep:Nat}(x:gg z.heap d es ep):z.TypeIs (.ref d) "dict":=let⟨o,ho,hc,_⟩:=x;⟨o,ho,hc.1⟩
theorem A3{d:Addr}{es:Array DictEntry}{ep:Nat}{Q:Value→Shared→Prop}(hd:(d==sysModules)=false)(hm:gg z.heap d es ep)
  (hQ:Q (.ref z.heap.objs.size) {z with heap:=z.heap.push {cls:= .type "dict_keyiterator",data:= .fields #[.ref d,.int 0 0,.int es.size 0,.int ep 0]}}):wpAny (model prog w) A (pyIter (.ref d)) Q E z:=by
 obtain⟨o,ho,hc,hdat⟩:=id hm
 have hT:z.TypeIs (.ref d) "dict":=hm.ty
 refine GdO hT F.slot_dict_iter (Gbi F.slot_dict_iter hT F.entry_dict_iter ?_ (F.args_dict_iter_1 _))
 unfold Builtin.«dict.__iter__»
 refine Gaa ?_
 unfold Builtin.Dict.dictSlotNone
 refine Gaa (wpAny_notOrdered_dict hT ?_)
 show wpAny _ _ (pure (Value.ref d)) _ _ z
 refine Gab ?_
 show wpAny _ _ (Builtin.Dict.showsAll d>>=_) _ _ z
 unfold Builtin.Dict.showsAll
 rw[Gae (by rw[hd];simp)]
 refine Gaa (Gab ?_)
 refine Gaa (GcI ho hdat ?_)
 refine Gaa (Gda ho hdat ?_)
 refine Gaa (GaX (Gab ⟨_,rfl,"dict_keyiterator",_,⟨_,Gan _ rfl,rfl⟩,GbV.lookup, ?_⟩))
 simpa[rawInt] using hQ
theorem A4{it d:Addr}{i ep:Nat}{es:Array DictEntry}(hi:i<es.size){Q:Option Value→Shared→Prop}(hit:z.heap.IsKeyIter it d i es.size ep)(hm:gg z.heap d es ep)
  (hQ:∀h',h'.IsKeyIter it d (i+1) es.size ep→Heap.SameBut it z.heap h' →Q (some es[i].key) {z with heap:=h' }):wpAny (model prog w) A (pyNext (.ref it)) Q E z:=by
 obtain⟨o,ho,hc,hd⟩:=id hit
 obtain⟨od,hod,hcd,hdd⟩:=id hm
 unfold pyNext
 refine Gaa (GcY (GbZ (name:=Str.ofString "__next__") hit.typeIs GbV (Gbi GbV hit.typeIs F.entry_dict_keyiterator_next ?_ (F.args_dict_keyiterator_next_1 _))))
 refine Gaa (Gab ?_)
 refine Gaa (Gaa ?_)
 first|refine Gaa (Gcv hit.typeIs (Gab ?_))|refine Gaa (GcR hit.typeIs (Gab ?_))
 refine Gaa (Gdm ho hd ?_)
 have hown:Builtin.Dict_items.ownsTuple "dict_keyiterator"=false:=by decide
 simp only[hown,Gai,GaB]
 show wpAny _ _ (if(Value.ref d==Value.none)=true then _ else _) _ _ z
 rw[Gae (by simp)]
 refine Gaa (Gab ?_)
 refine Gaa (GcI hod hdd ?_)
 rw[Gae (by simp)]
 refine Gaa (Gab ?_)
 refine Gaa (Gda hod hdd ?_)
 rw[Gae (by simp)]
 refine Gab ?_
 simp only[show¬((i:Int)<0) from by omega,GaB,Gbq,Gap hi]
 refine Gaa ?_
 first|refine Gaa (Gcv hit.typeIs (Gab ?_))|refine Gaa (GcR hit.typeIs (Gab ?_))
 refine Gaa (wpAny_isOneOf_keyiter hit.typeIs ?_)
 show wpAny _ _ (setField (.ref it) 1 (rawInt ((i:Int)+1))>>=_) _ _ z
 refine Gaa (GbE ho hd (by simp) ?_)
 have hit' :(z.heap.update it (Obj.mapFields (·.setIfInBounds 1 (rawInt ((i:Int)+1))))).IsKeyIter it d (i+1) es.size ep:=⟨_,GaH _ ho (GbN (Gbc hd _)),(GcJ ..).trans hc,by rw[Gbc hd];simp[rawInt]⟩
 refine Gaa (Gbp ?_)
 refine Gaa (wpAny_isOneOf_keyiter (s:={z with heap:=z.heap.update it (Obj.mapFields (·.setIfInBounds 1 (rawInt ((i:Int)+1))))}) hit'.typeIs ?_)
 show wpAny _ _ (pure es[i].key) _ _ _
 exact Gab (Gab ⟨_,rfl,Gab (hQ _ hit' (GaY ..))⟩)
theorem BO{it d:Addr}{i ep:Nat}{es:Array DictEntry}(hi:es.size≤i){Q:Option Value→Shared→Prop}(hh:A.handled=none)(hit:z.heap.IsKeyIter it d i es.size ep)(hm:gg z.heap d es ep)
  (hQ:∀h',Heap.ExtBut it z.heap h' →Q none {z with heap:=h' }):wpAny (model prog w) A (pyNext (.ref it)) Q E z:=by
 obtain⟨o,ho,hc,hd⟩:=id hit
 obtain⟨od,hod,hcd,hdd⟩:=id hm
 unfold pyNext
 refine Gaa (GcY (GbZ (name:=Str.ofString "__next__") hit.typeIs GbV (Gbi GbV hit.typeIs F.entry_dict_keyiterator_next ?_ (F.args_dict_keyiterator_next_1 _))))
 refine Gaa (Gab ?_)
 refine Gaa (Gaa ?_)
 first|refine Gaa (Gcv hit.typeIs (Gab ?_))|refine Gaa (GcR hit.typeIs (Gab ?_))
 refine Gaa (Gdm ho hd ?_)
 have hown:Builtin.Dict_items.ownsTuple "dict_keyiterator"=false:=by decide
 simp only[hown,Gai,GaB]
 show wpAny _ _ (if(Value.ref d==Value.none)=true then _ else _) _ _ z
 rw[Gae (by simp)]
 refine Gaa (Gab ?_)
 refine Gaa (GcI hod hdd ?_)
 rw[Gae (by simp)]
 refine Gaa (Gab ?_)
 refine Gaa (Gda hod hdd ?_)
 rw[Gae (by simp)]
 refine Gab ?_
 simp only[show¬((i:Int)<0) from by omega,GaB,Gbq,GbB hi]
 refine Gaa ?_
 first|refine Gaa (Gcv hit.typeIs (Gab ?_))|refine Gaa (GcR hit.typeIs (Gab ?_))
 show wpAny _ _ (setField (.ref it) 0 .none>>=_) _ _ z
 refine Gaa (GbE ho hd (by simp) ?_)
 show wpAny _ _ (newExc (.type "StopIteration") []>>=_) _ _ _
 refine Gaa ?_
 simp only[newExc,newTuple]
 refine Gaa (GaX ?_ (by size_fits))
 refine Gaa (m:=firstArgMember _ _) (GcM (a:=Value.none) rfl ?_)
 refine GaX ?_ (by size_fits)
 simp only[raiseNew]
 refine Gaa (GdW ?_)
 rw[show A.in1.handled=none from hh]
 refine Gaa (Gab (wpAny_throw ?_))
 refine Gaa (Gcg (T:="StopIteration") (b:=true) ⟨_,Gan _ rfl,rfl⟩ GdK (Gab (hQ _ ?_)))
 exact((GaY ..).extBut.push _).push _
theorem uZ(hh:A.handled=none)(I d:Addr)(hne:d≠I)(es:Array DictEntry)(ep:Nat):Walks prog w A I [I,d] [I] es.size (λi v=>∃e,es[i]? =some e∧v=e.key) (λi h=>h.IsKeyIter I d i es.size ep∧gg h d es ep) where
 sub:=λb hb=>by simp at hb;simp[hb]
 frame:=λ_ _ _ st hk=> ⟨st.1.at λo e=>hk I (by simp) o e,st.2.at λo e=>hk d (by simp) o e⟩
 item:=λi z Q E hi st hQ=>A4 hi st.1 st.2 λh' hit' hs' =>hQ _ h' z.toks ⟨_,Gap hi,rfl⟩ ⟨hit',st.2.at λo e=>hs'.extBut d o hne e⟩ λb o hb e=>hs'.extBut b o (λh=>hb (by simp[h])) e
 done:=λz Q E st hQ=>BO (Gau _) hh st.1 st.2 λh' he' =>hQ h' z.toks λb o hb e=>he' b o (λh=>hb (by simp[h])) e
 self:=λ_ _ _ _ st hQ=>wpAny_pyIter_keyiter st.1 hQ
end
section
variable{prog:Program}{w:World}{A:Around}{E:Value→Shared→Prop}{z:Shared}
theorem v8{d:Addr}{Q:Bool→Shared→Prop}(hT:z.TypeIs (.ref d) "dict")(h:Q false z):wpAny (model prog w) A (Builtin.List.listLengthHint (.ref d)) Q E z:=by
 unfold Builtin.List.listLengthHint
 refine Gaa (Gdb hT F.slot_dict_len.lookup ?_)
 generalize hid:("dict.__len__":String)=id0
 wp_delta
 rw[show splitId id0=some ("dict","__len__") from by subst hid;decide+kernel]
 subst hid
 refine Gaa (Gcg (T:="dict") (b:=true) hT (by rw[Geq];kernel_rfl) ?_)
 refine GbM (λhab=>absurd hab (by decide)) (λ_=> ?_)
 refine GbM (λ_=> ?_) (λhab=>absurd (by decide+kernel) hab)
 refine Gaa (Gdl hT ?_)
 exact Gab h
theorem se{R:Result→Shared→Prop}{d:Addr}{es:Array DictEntry}{ep:Nat}(hh:A.handled=none)(hds:(d==sysModules)=false)(hm:gg z.heap d es ep)(hlen:es.size≤sizeLine)(S:Addr)(res:Value)(c₀:Nat)(hS:z.heap.get? S=some {cls:= .type "list",data:= .seq #[] c₀})(hSd:S≠d)
  (hR:∀h' tk acc' c',(∀b o,b≠S→z.heap.get? b=some o→h'.get? b=some o)→h'.get? S=some {cls:= .type "list",dict:=none,data:= .seq acc' c',slots:=#[]}→ItemsOf (λi v=>∃e,es[i]? =some e∧v=e.key) acc' es.size→R (.ok (.ret res)) {z with heap:=h',toks:=tk}):
  wpAny (model prog w) A.in1 (Builtin.List.listExtendWith (.ref S) (.ref d) res) (λfin s' =>match fin with| .done f=>R (.ok f) s' | .again c' =>c'.quiet=true∧codeAny (model prog w) A c' R s') (λe s' =>R (.error e) s') z:=by
 have hSlt:S<z.heap.objs.size:=Gam hS
 have hdlt:d<z.heap.objs.size:=let⟨o,ho,_⟩:=hm;Gam ho
 have W:=(uZ (prog:=prog) (w:=w) (A:=A.in1) hh z.heap.objs.size d (GaA hdlt) es ep).toS
 have hSf:S∉[z.heap.objs.size,d]:=λhmm=>by
  rcases Gas.mp hmm with e|e
  ·exact Gbt _ (e▸hSlt)
  ·exact hSd (by simpa using e)
 unfold Builtin.List.listExtendWith
 refine Gaa (Gdl (T:="dict") hm.ty ?_)
 have h1:Builtin.List.listSameRef (.ref S) (.ref d)=false:=by simp[Builtin.List.listSameRef,hSd]
 have h2:(Value.type "dict"==Value.type "list")=false:=by decide
 have h3:(Value.type "dict"==Value.type "tuple")=false:=by decide
 simp only[h1,h2,h3,Ges,Gai,GaB]
 refine Gaa (A3 hds hm ?_)
 refine Gaa (Gbp (v8 (let⟨o,ho,hc,_⟩:=hm;⟨o,Gad _ ho,hc.1⟩) ?_))
 have hS₁:=Gad {cls:= .type "dict_keyiterator",data:= .fields #[.ref d,.int 0 0,.int es.size 0,.int ep 0]} hS
 refine GbM (λ_=> ?_) (λhab=>absurd (by decide+kernel) hab)
 refine Gaa (Gcz ?_)
 refine Gaa ?_
 show wpAny _ _ (updateSeq S (·.push .none)>>=λ_=>updateSeq S (·.pop)) _ _ _
 refine Gaa (Gcp hS₁ rfl ?_)
 have hS₂:=GaH (Obj.mapSeq (·.push Value.none)) hS₁ rfl
 refine Gcp (hz:=by seq_fits) hS₂ rfl ?_
 have hS₃:=GaH (Obj.mapSeq (·.pop)) hS₂ rfl
 have oth:∀b o,b≠S→(z.heap.push {cls:= .type "dict_keyiterator",data:= .fields #[.ref d,.int 0 0,.int es.size 0,.int ep 0]}).get? b=some o→(((z.heap.push {cls:= .type "dict_keyiterator",data:= .fields #[.ref d,.int 0 0,.int es.size 0,.int ep 0]}).update S (Obj.mapSeq (·.push Value.none))).update S (Obj.mapSeq (·.pop))).get? b=some o:=λb o hb e=>(GaS _ _ (Gba hb)).trans ((GaS _ _ (Gba hb)).trans e)
 refine Gab ⟨GcZ F.plain_extend_loop _,codeAny_extend_loopS W hlen S hSf res es.size 0 _ #[] _ rfl (GaJ _) ?_ hS₃ (ItemsOf.nil _) λs' acc' c' hmv hS' hacc=> ?_⟩
 ·exact⟨⟨_,oth _ _ (Gba (GaA hSlt)) (Gan _ rfl),rfl,rfl⟩,hm.at λo e=>oth d o (Gba hSd) (Gad _ e)⟩
 ·rw[Moved.eq_with hmv]
  refine hR s'.heap s'.toks acc' c' (λb o hb e=>hmv.heap b o (λhmem=> ?_) (oth b o hb (Gad _ e))) hS' hacc
  rcases Gas.mp hmem with e' |hmem
  ·exact hb e'
  ·exact absurd (Gam e) (by rw[GaK.mp hmem];exact Gbt _)
end
section
variable{X:Cx}{e a b c:Expr}{f g h:DE}{pos:Pos}
noncomputable def sf(H:Hp)(kvs:List (List Key×V))(ks:List V):Prop:=ks.length=kvs.length∧∀(i:Nat) p v,kvs[i]? =some p→ks[i]? =some v→∃b,v= .ref b∧H b=some (.tup (p.1.map kV))
theorem DF{pins:List (Addr×Obj)}{σ:L2.St}{H:Hp}{z:Shared}{d:Addr}{kvs:List (List Key×V)}(I:Inv X pins σ H z)(e:H d=some (.dT kvs)):kvs.length≤sizeLine∧(d==sysModules)=false∧∃(es:Array DictEntry) (ep:Nat) (bs:List Addr),gg z.heap d es ep∧es.size=kvs.length∧bs.length=kvs.length∧
  (∀(i:Nat) p b,kvs[i]? =some p→bs[i]? =some b→H b=some (.tup (p.1.map kV)))∧∀(i:Nat) en b,es[i]? =some en→bs[i]? =some b→en.key= .ref b:=by
 obtain⟨h1,h2,xs,kt,o,es,ep,ho,hx,hd,he,_⟩:=vZ I.hok e
 have hl:kvs.length=xs.length:=Paired.length kt
 have hs:es.size=xs.length:=by rw[←GaC,he,Gar]
 refine⟨h1,h2,es,ep,xs.map (·.2.1),⟨o,ho,hx,hd⟩,by omega,by simp[hl], ?_, ?_⟩
 ·have all:∀{l:List (List Key×V)} {m:List (List Key×Addr×Value)},KT H l m→∀(i:Nat) p b,l[i]? =some p→(m.map (·.2.1))[i]? =some b→H b=some (.tup (p.1.map kV)):=by
   intro l m q
   induction q with
   |nil=>intro i p b h;simp at h
   | @cons p q ps qs hq t ih=>
    intro i p' b h1 h2
    cases i with
    |zero=>
     simp at h1 h2
     subst h1 h2
     exact hq.2.1
    |succ i=>exact ih i p' b (by simpa using h1) (by simpa using h2)
  exact all kt
 ·intro i en b h3 h4
  have h5:es.toList[i]? =some en:=by simpa using h3
  rw[he,Gax] at h5
  rw[Gax] at h4
  cases q:xs[i]? with
  |none=>rw[q] at h4;cases h4
  |some x=>
   rw[q] at h4 h5
   cases h4;cases h5
   rfl
theorem tZ{K:aa}{F:Addr→Prop}{H:Hp}(k:Key):Rep K F H (m8 k) (kV k):=by
 cases k with
 |inl i=>exact .int i
 |inr x=>exact .str x
theorem v9{K:aa}{F:Addr→Prop}{H:Hp}{kvs:List (List Key×D)}{ws:List (List Key×V)}{ks:List V}(h:kvs.map (·.1)=ws.map (·.1))(hk:sf H ws ks):aq K F H (ff kvs) ks:=by
 have hl:kvs.length=ws.length:=by have:=congrArg List.length h;simpa using this
 refine⟨by unfold ff;rw[Gar,hl,hk.1],λi d v e1 e2=> ?_⟩
 unfold ff at e1
 rw[Gax] at e1
 obtain⟨p,hp,rfl⟩:=Gaj.mp e1
 have hi:i<ws.length:=by rw[←hl];exact(Gaf.mp hp).1
 have hq:ws[i]? =some ws[i]:=Gac hi
 have ep:p.1=ws[i].1:=by
  have:=congrArg (λl=>l[i]?) h
  simp only[Gax,hp,hq,Gco,GdM] at this
  exact this
 obtain⟨b,rfl,hb⟩:=hk.2 i _ _ hq e2
 have rs:aq K F H (p.1.map m8) (ws[i].1.map kV):=by rw[ep];exact mH λk=>tZ k
 exact .tup hb rs.1 rs.2
end
section
variable{prog:Program}{w:World}{A:Around}{E:Value→Shared→Prop}{z:Shared}
theorem qv{d:Addr}{es:Array DictEntry}{ep:Nat}{Q:List Value→Shared→Prop}(hh:A.handled=none)(hds:(d==sysModules)=false)(hm:gg z.heap d es ep)(hlen:es.size≤sizeLine)
  (h:∀h' tk acc,z.heap.objs.size<h'.objs.size→(∀b o,z.heap.get? b=some o→h'.get? b=some o)→ItemsOf (λi v=>∃e,es[i]? =some e∧v=e.key) acc es.size→Q acc.toList {z with heap:=h',toks:=tk}):wpAny (model prog w) A (collect (.ref d)) Q E z:=by
 have hdlt:d<z.heap.objs.size:=let⟨o,ho,_⟩:=hm;Gam ho
 unfold collect
 refine Gaa (Gep (Gbx entry_proto_collect' ?_))
 show wpAny _ _ (newList []>>=λl0=>again (.builtin "list.__iadd__" ⟨[l0,.ref d],[]⟩)) _ _ z
 refine Gaa (Gct (Gab ⟨GdF _ (by decide+kernel),Gbx entry_list_iadd' ?_⟩))
 have hS:(z.heap.push (seqObj "list" #[] 0)).get? z.heap.objs.size=some {cls:= .type "list",data:= .seq #[] 0}:=Gan _ rfl
 rw[GbW (show plainId "list.__iadd__"=true by decide+kernel) _]
 show wpAny _ _ (Builtin.List.listExtendWith (.ref z.heap.objs.size) (.ref d) (.ref z.heap.objs.size)) _ _ {z with heap:=z.heap.push (seqObj "list" #[] 0)}
 refine se (prog:=prog) (w:=w) (A:=A) (R:=λr s' =>match r with
   | .ok (.ret v)=>wpAny (model prog w) A (match v with
     | .ref a=>(load a>>=λo=>match o.data with
       | .seq xs _=>pure xs.toList
       |_=>unsupported "internal:collect")
     |_=>unsupported "internal:collect") Q E s'
   | .ok _=>False
   | .error e=>E e s') (z:={z with heap:=z.heap.push (seqObj "list" #[] 0)}) hh hds (hm.at λo e=>Gad _ e) hlen z.heap.objs.size (.ref z.heap.objs.size) 0 hS (Gba (GaA hdlt)) λh' tk acc c hk hS' hacc=> ?_
 show wpAny (model prog w) A (load z.heap.objs.size>>=λo=>match o.data with
   | .seq xs _=>pure xs.toList
   |_=>unsupported "internal:collect") Q E {z with heap:=h',toks:=tk}
 refine Gaa (wpAny_load hS' ?_)
 exact Gab (h h' tk acc (Gam hS') (λb o e=>hk b o (GaA (Gam e)) (Gad _ e)) hacc)
theorem si{d:Addr}{es:Array DictEntry}{ep:Nat}{ds:List D}{Q:Value→Shared→Prop}(hh:A.handled=none)(hds:(d==sysModules)=false)(hm:gg z.heap d es ep)(h64:es.size<64)(hK:Paired (gW z.heap) ds (es.toList.map (·.key)))(hok:keysOk ds=true)
  (h:∀(p:Array Nat) a h' tk c,Ord es.size p→Up (rank (ds.map code)) p es.size→z.heap.objs.size≤a→(∀b o,z.heap.get? b=some o→h'.get? b=some o)→h'.get? a=some (seqObj "list" (List.toArray (p.toList.map λi=>(es.toList.map (·.key)).getD i Value.none)) c)→Q (.ref a) {z with heap:=h',toks:=tk}):
  wpAny (model prog w) A (call (.builtin "sorted") [.ref d]) Q E z:=by
 have hlen:es.size≤sizeLine:=by rw[GbA];omega
 refine GdA kind_sorted plain_sorted entry_sorted (args_sorted1 _) ?_
 unfold Builtin.«sorted»
 refine Gaa (m:=checkCount "sorted" 1 1 _) (Gab (Gaa (qv (A:=A.in1) hh hds hm hlen λh' tk acc hlt hk hacc=> ?_)))
 have ev:acc.toList=es.toList.map (·.key):=by
  apply Gdh
  intro i
  by_cases hi:i<es.size
  ·have ha:acc[i]? =some (acc[i]'(by rw[hacc.1];exact hi)):=Gap _
   obtain⟨en,h1,h2⟩:=hacc.2 i _ ha
   rw[GaU,ha,Gax,GaU,h1,h2];rfl
  ·rw[GaV (by rw[GaC,hacc.1];omega),GaV (by simp;omega)]
 rw[ev]
 generalize hvs:es.toList.map (·.key)=vs at*
 have hvl:vs.length=es.size:=by rw[←hvs];simp
 refine Gaa (Gct ?_ (by omega))
 have hoL:(h'.push (seqObj "list" vs.toArray 0)).get? h'.objs.size=some (seqObj "list" vs.toArray 0):=Gan _ rfl
 have keep:∀b o,z.heap.get? b=some o→(h'.push (seqObj "list" vs.toArray 0)).get? b=some o:=λb o e=>Gad _ (hk b o e)
 have hKG:Paired (gW (h'.push (seqObj "list" vs.toArray 0))) ds vs:=gX (λ_ _ p=>p.keep keep) hK
 have zle:z.heap.objs.size≤h'.objs.size:=GcC hlt
 refine Gaa (Gbp (Gbi slot_list_sort ⟨_,hoL,rfl⟩ entry_list_sort (pz (s:={z with heap:=h'.push (seqObj "list" vs.toArray 0),toks:=tk}) hoL (by omega) hKG hok λp h1 h2=> ⟨_,rfl, ?_⟩) (args_list_sort _)))
 rw[hvl] at h1 h2
 obtain⟨c,hat⟩:=sortedHeap_at (h:=h'.push (seqObj "list" vs.toArray 0)) (a:=h'.objs.size) (vs:=vs) (n:=0) (out:=List.toArray (p.toList.map λi=>vs.getD i Value.none)) hoL
 refine Gab ⟨_,rfl,h p h'.objs.size _ tk c h1 h2 zle (λb o e=> ?_) hat⟩
 have hb:=Gam (hk b o e)
 exact(sortedHeap_old (GaA hb) (Geg hb (by rw[size_push'];exact GbR _))).trans (keep b o e)
end
section
variable{X:Cx}{e a b c:Expr}{f g h:DE}{pos:Pos}
theorem qw{H:Hp}{kvs:List (List Key×V)}{bs:List Addr}(e2:bs.length=kvs.length)(e3:∀(i:Nat) p b,kvs[i]? =some p→bs[i]? =some b→H b=some (.tup (p.1.map kV))):sf H kvs (bs.map V.ref):=
 ⟨by rw[Gar,e2],λi p v hp hv=>by
  rw[Gax] at hv
  obtain⟨b,hb,rfl⟩:=Gaj.mp hv
  exact⟨b,rfl,e3 i p b hp hb⟩⟩
theorem sr{K:aa}{F:Addr→Prop}{H:Hp}{ws:List (List Key×V)}{ks:List V}(hk:sf H ws ks):aq K F H (gx ws) ks:=by
 have:=v9 (K:=K) (F:=F) (kvs:=ws.map λp=>(p.1,D.non)) (by simp) hk
 have e:ff (ws.map λp=>(p.1,D.non))=gx ws:=by unfold ff gx;simp
 rwa[e] at this
noncomputable def qx(K:aa):List V→Hp→VK→Prop:=λxs H Q=>∃(a:Addr) (kvs:List (List Key×V)),xs=[.ref a]∧H a=some (.dT kvs)∧kvs.length<64∧keysOk (gx kvs)=true∧
 ∀l out,H l=none→(∀F,aq K F H (kM (gx kvs)) out)→Q (.ref l) (upd H l (.lst out))
theorem mI(hc:X.calm=true):cW X (.builtin "sorted") (qx X.K):=by
 intro pins z σ H xs us Q I r h
 obtain⟨d,kvs,rfl,hp,h64,hok,q⟩:=h
 obtain⟨u,rfl,rx⟩:=vals1 r
 cases rx
 obtain⟨h1,h2,es,ep,bs,hr,e1,e2,e3,e4⟩:=DF I hp
 have hka:=qw e2 e3
 have hrep:∀F,aq X.K F H (gx kvs) (bs.map V.ref):=λF=>sr hka
 have hvals:Vals (bs.map V.ref) (es.toList.map (·.key)):=by
  refine j1 (by simp;omega) λi x y hx hy=> ?_
  rw[Gax] at hx hy
  obtain⟨b,hb,rfl⟩:=Gaj.mp hx
  obtain⟨en,hen,rfl⟩:=Gaj.mp hy
  exact e4 i en b (by simpa using hen) hb
 have hK:=tW I (hrep λ_=>False) (A0 hok) hvals
 have ln:(gx kvs).length=es.size:=by unfold gx;rw[Gar];omega
 refine si (I.ok.hd hc) h2 hr (by omega) hK hok λod a h' tk c h3 h4 h5 h6 h7=> ?_
 rw[←ln] at h3 h4
 have uniq:(od.toList.map λi=>(gx kvs).getD i .non)=kM (gx kvs):=fA ((cQ h3).trans (dM _).symm) (rX h3 h4) (fY _) λx hx y hy=>wX hok x ((cQ h3).mem_iff.mp hx) y ((cQ h3).mem_iff.mp hy)
 have h3v:Ord (bs.map V.ref).length od:=by rw[Gar,e2,←e1,←ln];exact h3
 have fresh:H a=none:=I.hok.fresh h5
 refine⟨.ref a,_,I.laid (a:=a) (o:= .lst (od.toList.map λi=>(bs.map V.ref).getD i .non)) (t' :=tk) h6 h5 ?_,rfl,q _ _ fresh λF' => ?_⟩
 ·refine⟨?_,_,c,mG h3v hvals,h7⟩
  rw[Gar,GaC,h3v.size,Gar,e2,GbA]
  omega
 ·rw[←uniq]
  exact mF h3 (hrep F')
theorem nD:CallD X jh (qx X.K):=by
 intro F H ds vs rv Q ps e k
 unfold jh at e
 split at e
 ·rename_i kvs
  split at e
  ·rename_i hc
   rw[Gaq] at hc
   cases e
   obtain⟨v,rfl,i⟩:=d6 ps
   cases i with
   | @dT p kvs' _ h r=>
    have er:=r.1
    have el:kvs.length=kvs'.length:=by have:=congrArg List.length er;simpa using this
    have ek:gx kvs' =ff kvs:=by
     unfold gx ff
     have:(kvs'.map (·.1)).map (λk=>D.tup (k.map m8))=(kvs.map (·.1)).map (λk=>D.tup (k.map m8)):=by rw[er]
     rw[Gby,Gby] at this;exact this
    refine⟨_,_,rfl,h,by rw[←el];exact GaN hc.1,by rw[ek];exact hc.2,λl out hl ho=>k _ _ (aY hl) ⟨l,rfl,hl,jX,rfl,cy hl ?_⟩⟩
    rw[←ek]
    exact ho F
  ·cases e
 ·cases e
end
section
variable{prog:Program}{w:World}{A:Around}{E:Value→Shared→Prop}{s:Shared}
theorem lp(d:Addr)(hd:(d==sysModules)=false):MeetsIn prog w (Builtin.«dict.items» ⟨[.ref d],[]⟩) (λ_ R s=>s.TypeIs (.ref d) "dict"∧R (.ok (.ret (.ref s.heap.objs.size))) {s with heap:=s.heap.push {cls:= .type "dict_items",data:= .fields #[.ref d]}}):=
 .of_wp λA R s ⟨hm,h⟩=>by
  refine Gaa ?_
  unfold Builtin.Dict.noArgs
  refine Gaa (wpAny_notOrdered_dict hm ?_)
  show wpAny _ _ (pure d) _ _ s
  refine Gab ?_
  show wpAny _ _ (Builtin.Dict.showsAll d>>=_) _ _ s
  unfold Builtin.Dict.showsAll
  rw[Gae (by rw[hd];exact Gay)]
  refine Gaa (Gab ?_)
  exact Gaa (GaX (Gab ⟨_,rfl,h⟩))
theorem mJ{v d:Addr}{es:Array DictEntry}{ep:Nat}{Q:Value→Shared→Prop}(hv:s.heap.IsItemsView v d)(hm:gg s.heap d es ep)
  (hQ:Q (.ref s.heap.objs.size) {s with heap:=s.heap.push {cls:= .type "dict_itemiterator",data:= .fields #[.none,.bool false,.ref d,.int 0 0,.int es.size 0,.int ep 0,.none,.none]}}):wpAny (model prog w) A (pyIter (.ref v)) Q E s:=by
 obtain⟨ov,hov,hcv,hdv⟩:=id hv
 obtain⟨o,ho,hc,hdat⟩:=id hm
 refine GdO hv.typeIs F.slot_dict_items_iter (Gbi F.slot_dict_items_iter hv.typeIs F.entry_dict_items_iter ?_ (F.args_dict_items_iter_1 _))
 unfold Builtin.«dict_items.__iter__»
 refine Gaa (Gab ?_)
 refine Gaa ?_
 unfold Builtin.Dict_items.dictOf
 refine Gaa (GdT hov hdv (x:= .ref d) rfl (Gab ?_))
 refine Gaa ?_
 unfold Builtin.Dict_items.newIterator
 refine Gaa (GcI ho hdat ?_)
 refine Gaa (Gda ho hdat ?_)
 have hown:Builtin.Dict_items.ownsTuple "dict_itemiterator"=true:=by decide
 simp only[hown,Gbf]
 refine GaX (Gab ⟨_,rfl,"dict_itemiterator",_,⟨_,Gan _ rfl,rfl⟩,GbP.lookup, ?_⟩)
  (by simp only[sizeOk,Builtin.Dict_items.ownedTupleFields,Gao,GaL,GbH,Gef,GbA];omega)
 simpa[rawInt,Builtin.Dict_items.ownedTupleFields] using hQ
noncomputable abbrev ItI (h:Heap) (it d:Addr) (i n ep:Nat) (f0 f1 ok ov:Value):Prop:=h.get? it=some {cls:= .type "dict_itemiterator",dict:=none,data:= .fields #[f0,f1,.ref d,.int i 0,.int n 0,.int ep 0,ok,ov],slots:=#[]}
theorem mK{it d:Addr}{i ep:Nat}{es:Array DictEntry}{f0 f1 ok ov:Value}(hi:i<es.size){Q:Option Value→Shared→Prop}(hit:ItI s.heap it d i es.size ep f0 f1 ok ov)(hm:gg s.heap d es ep)
  (hf:f0= .none∨∃(a:Addr) (oa:Obj) (f:Bool),f0=rawInt a∧f1= .bool f∧s.heap.get? a=some oa∧a≠it)
  (hQ:∀h' g0 g1 ok' ov',ItI h' it d (i+1) es.size ep g0 g1 ok' ov' →((f0= .none∧g0=rawInt s.heap.objs.size∧g1= .bool false)∨(f0≠ .none∧g0=f0∧g1= .bool true))→
   h'.get? s.heap.objs.size=some {cls:= .type "tuple",data:= .seq #[es[i].key,es[i].val]}→h'.objs.size=s.heap.objs.size+1→
   (∀b o,b≠it→s.heap.get? b=some o→h'.get? b=some o)→Q (some (.ref s.heap.objs.size)) {s with heap:=h' }):wpAny (model prog w) A (pyNext (.ref it)) Q E s:=by
 obtain⟨hp,g,dr,tk,os⟩:=s
 obtain⟨od,hod,hcd,hdd⟩:=id hm
 have hT:Shared.TypeIs ⟨hp,g,dr,tk,os⟩ (.ref it) "dict_itemiterator":=⟨_,hit,rfl⟩
 unfold pyNext
 refine Gaa (GcY (GbZ (name:=Str.ofString "__next__") hT GbP
  (Gbi GbP hT F.entry_dict_itemiterator_next ?_ (F.args_dict_itemiterator_next_1 _))))
 refine Gaa (Gab ?_)
 refine Gaa (Gaa ?_)
 first|refine Gaa (Gcq hT (Gab ?_))|refine Gaa (GcL hT (Gab ?_))
 refine Gaa (Gdm hit rfl ?_)
 have hown:Builtin.Dict_items.ownsTuple "dict_itemiterator"=true:=by decide
 simp only[hown,Gbf]
 show wpAny _ _ (if(Value.ref d==Value.none)=true then _ else _) _ _ _
 rw[Gae (show¬((Value.ref d==Value.none)=true) from Gay)]
 refine Gaa (Gab ?_)
 refine Gaa (GcI hod hdd ?_)
 rw[Gae (by simp)]
 refine Gaa (Gab ?_)
 refine Gaa (Gda hod hdd ?_)
 rw[Gae (by simp)]
 refine Gab ?_
 simp only[show¬((i:Int)<0) from by omega,GaB,Gbq,Gap hi]
 refine Gaa ?_
 first|refine Gaa (Gcq hT (Gab ?_))|refine Gaa (GcL hT (Gab ?_))
 refine Gaa (GdU hT ?_)
 show wpAny _ _ (setField (.ref it) 3 (rawInt ((i:Int)+1))>>=_) _ _ ⟨hp,g,dr,tk,os⟩
 refine Gaa (GcD hit (by simp) λh₁ he₁ hs₁=> ?_)
 replace hs₁:Heap.SameBut it hp h₁:=hs₁
 replace he₁:ItI h₁ it d (i+1) es.size ep f0 f1 ok ov:=by
  have e:((i+1:Nat):Int)=(i:Int)+1:=by omega
  unfold ItI;rw[e];simpa[rawInt] using he₁
 have hT₁:Shared.TypeIs ⟨h₁,g,dr,tk,os⟩ (.ref it) "dict_itemiterator":=⟨_,he₁,rfl⟩
 refine Gaa (Gbp ?_)
 refine Gaa (GdU hT₁ ?_)
 refine Gaa (GdU hT₁ ?_)
 show wpAny _ _ (Builtin.Dict_items.pairFromOwner (.ref it) 6 es[i].key es[i].val) _ _ ⟨h₁,g,dr,tk,os⟩
 unfold Builtin.Dict_items.pairFromOwner
 refine Gaa (GdJ ?_)
 have he₂:ItI (h₁.push {cls:= .type "tuple",data:= .seq #[es[i].key,es[i].val]}) it d (i+1) es.size ep f0 f1 ok ov:=Gad _ he₁
 generalize hh₂:h₁.push {cls:= .type "tuple",data:= .seq #[es[i].key,es[i].val]}=h₂ at he₂
 have hz₁:h₁.objs.size=hp.objs.size:=hs₁.1
 have hil:it<hp.objs.size:=Gam hit
 have ht₂:h₂.get? hp.objs.size=some {cls:= .type "tuple",data:= .seq #[es[i].key,es[i].val]}:=by rw[←hh₂,←hz₁];exact Gan _ rfl
 have hz₂:h₂.objs.size=hp.objs.size+1:=by rw[←hh₂,GbK,hz₁]
 have hk₂:∀b o,b≠it→hp.get? b=some o→h₂.get? b=some o:=λb o hb e=>by rw[←hh₂];exact Gad _ (hs₁.extBut b o hb e)
 show wpAny _ _ (Builtin.Dict_items.ownedTupleIsFree (.ref it)>>=_) _ _ ⟨h₂,g,dr,tk,os⟩
 rw[hz₁]
 clear hh₂ he₁ hs₁ hT₁ hz₁ h₁
 refine Gaa ?_
 unfold Builtin.Dict_items.ownedTupleIsFree
 rcases hf with rfl| ⟨a,oa,f,rfl,rfl,ha,hai⟩
 ·refine Gaa (GdT he₂ rfl (x:= .none) rfl (Gab ?_))
  simp only[Gbf]
  refine Gaa (GdT he₂ rfl (x:=ok) rfl ?_)
  refine Gaa (GdT he₂ rfl (x:=ov) rfl ?_)
  refine Gaa (GcD he₂ (by simp) λh₃ he₃ hs₃=> ?_)
  replace hs₃:Heap.SameBut it h₂ h₃:=hs₃
  replace he₃:ItI h₃ it d (i+1) es.size ep .none f1 es[i].key ov:=he₃
  refine Gaa (GcD he₃ (by simp) λh₄ he₄ hs₄=> ?_)
  replace hs₄:Heap.SameBut it h₃ h₄:=hs₄
  replace he₄:ItI h₄ it d (i+1) es.size ep .none f1 es[i].key es[i].val:=he₄
  refine Gaa (GcD he₄ (by simp) λh₅ he₅ hs₅=> ?_)
  replace hs₅:Heap.SameBut it h₄ h₅:=hs₅
  replace he₅:ItI h₅ it d (i+1) es.size ep (rawInt hp.objs.size) f1 es[i].key es[i].val:=he₅
  refine Gaa (GcD he₅ (by simp) λh₆ he₆ hs₆=> ?_)
  replace hs₆:Heap.SameBut it h₅ h₆:=hs₆
  replace he₆:ItI h₆ it d (i+1) es.size ep (rawInt hp.objs.size) (.bool false) es[i].key es[i].val:=he₆
  refine Gaa (wpAny_letGo (Gab (Gab ⟨_,rfl,Gab (hQ h₆ _ _ _ _ he₆ (.inl ⟨rfl,rfl,rfl⟩) ?_ ?_ ?_)⟩)))
  ·exact hs₆.extBut _ _ (Gbg hil) (hs₅.extBut _ _ (Gbg hil) (hs₄.extBut _ _ (Gbg hil) (hs₃.extBut _ _ (Gbg hil) ht₂)))
  ·show h₆.objs.size=hp.objs.size+1
   rw[hs₆.1,hs₅.1,hs₄.1,hs₃.1,hz₂]
  ·exactλb o hb e=>hs₆.extBut b o hb (hs₅.extBut b o hb (hs₄.extBut b o hb (hs₃.extBut b o hb (hk₂ b o hb e))))
 ·have ha₂:h₂.get? a=some oa:=hk₂ a oa hai ha
  refine Gaa (GdT he₂ rfl (x:=rawInt a) rfl ?_)
  show wpAny _ _ (loadIfAlive ((a:Int).toNat)>>=_) _ _ _
  rw[Gbq]
  refine Gaa (PySem.W.kdx_alive ha₂ ?_)
  simp only[Option.isNone_some,Gai,GaB]
  refine Gaa (GdT he₂ rfl (x:= .bool f) rfl ?_)
  have fin:∀h₃:Heap,ItI h₃ it d (i+1) es.size ep (rawInt a) (.bool true) ok ov→Heap.SameBut it h₂ h₃→Q (some (.ref hp.objs.size)) ⟨h₃,g,dr,tk,os⟩:=λh₃ he₃ hs₃=>
   hQ h₃ _ _ _ _ he₃ (.inr ⟨by simp[rawInt],rfl,rfl⟩) (hs₃.extBut _ _ (Gbg hil) ht₂) (by show h₃.objs.size=hp.objs.size+1;rw[hs₃.1,hz₂]) λb o hb e=>hs₃.extBut b o hb (hk₂ b o hb e)
  cases f with
  |true=>
   rw[Gae (show¬((Value.bool true !=Value.bool true)=true) from Gay)]
   refine Gab ?_
   simp only[Gai,GaB]
   exact Gab (Gab ⟨_,rfl,Gab (fin h₂ he₂ (Heap.SameBut.refl _ _))⟩)
  |false=>
   rw[Gag (show(Value.bool false !=Value.bool true)=true from rfl)]
   refine Gaa (GcD he₂ (by simp) λh₃ he₃ hs₃=> ?_)
   replace hs₃:Heap.SameBut it h₂ h₃:=hs₃
   replace he₃:ItI h₃ it d (i+1) es.size ep (rawInt a) (.bool true) ok ov:=he₃
   refine Gab ?_
   simp only[Gai,GaB]
   exact Gab (Gab ⟨_,rfl,Gab (fin h₃ he₃ hs₃)⟩)
theorem nE{it d:Addr}{i ep:Nat}{es:Array DictEntry}{f0 f1 ok ov:Value}(hi:es.size≤i){Q:Option Value→Shared→Prop}(hh:A.handled=none)(hit:ItI s.heap it d i es.size ep f0 f1 ok ov)(hm:gg s.heap d es ep)
  (hQ:∀h',Heap.ExtBut it s.heap h' →Q none {s with heap:=h' }):wpAny (model prog w) A (pyNext (.ref it)) Q E s:=by
 obtain⟨od,hod,hcd,hdd⟩:=id hm
 have hT:s.TypeIs (.ref it) "dict_itemiterator":=⟨_,hit,rfl⟩
 unfold pyNext
 refine Gaa (GcY (GbZ (name:=Str.ofString "__next__") hT GbP
  (Gbi GbP hT F.entry_dict_itemiterator_next ?_ (F.args_dict_itemiterator_next_1 _))))
 refine Gaa (Gab ?_)
 refine Gaa (Gaa ?_)
 first|refine Gaa (Gcq hT (Gab ?_))|refine Gaa (GcL hT (Gab ?_))
 refine Gaa (Gdm hit rfl ?_)
 have hown:Builtin.Dict_items.ownsTuple "dict_itemiterator"=true:=by decide
 simp only[hown,Gbf]
 show wpAny _ _ (if(Value.ref d==Value.none)=true then _ else _) _ _ s
 rw[Gae (show¬((Value.ref d==Value.none)=true) from Gay)]
 refine Gaa (Gab ?_)
 refine Gaa (GcI hod hdd ?_)
 rw[Gae (by simp)]
 refine Gaa (Gab ?_)
 refine Gaa (Gda hod hdd ?_)
 rw[Gae (by simp)]
 refine Gab ?_
 simp only[show¬((i:Int)<0) from by omega,GaB,Gbq,GbB hi]
 refine Gaa ?_
 first|refine Gaa (Gcq hT (Gab ?_))|refine Gaa (GcL hT (Gab ?_))
 show wpAny _ _ (setField (.ref it) 2 .none>>=_) _ _ s
 refine Gaa (GbE hit rfl (by simp) ?_)
 show wpAny _ _ (newExc (.type "StopIteration") []>>=_) _ _ _
 refine Gaa ?_
 simp only[newExc,newTuple]
 refine Gaa (GaX ?_ (by size_fits))
 refine Gaa (m:=firstArgMember _ _) (GcM (a:=Value.none) (by first|rfl|(simp only[firstArgMember];rfl)) ?_)
 refine GaX ?_ (by size_fits)
 simp only[raiseNew]
 refine Gaa (GdW ?_)
 rw[show A.in1.handled=none from hh]
 refine Gaa (Gab (wpAny_throw ?_))
 refine Gaa (Gcg (T:="StopIteration") (b:=true) ⟨_,Gan _ rfl,rfl⟩ GdK ?_)
 exact Gab (hQ _ (((GaY ..).extBut.push _).push _))
end
section
variable{X:Cx}{e a b c:Expr}{f g h:DE}{pos:Pos}
theorem og{κ:Type}{K:aa}{F:Addr→Prop}{H:Hp}{kvs:List (κ×D)}{ws:List (κ×V)}(r:aB K F H kvs ws):kvs.length=ws.length:=by
 have:=congrArg List.length r.1
 simpa using this
theorem va{κ:Type}{K:aa}{F:Addr→Prop}{H:Hp}{kvs:List (κ×D)}{ws:List (κ×V)}(r:aB K F H kvs ws){i:Nat}{p:κ×D}(e:kvs[i]? =some p):∃q,ws[i]? =some q∧p.1=q.1∧Rep K F H p.2 q.2:=by
 have hi:i<ws.length:=by rw[←og r];exact(Gaf.mp e).1
 have hq:ws[i]? =some ws[i]:=Gac hi
 refine⟨ws[i],hq, ?_,r.2 i p _ e hq⟩
 have:=congrArg (λl=>l[i]?) r.1
 simp only[Gax,e,hq,Gco,GdM] at this
 exact this
end
section
variable{prog:Program}{w:World}{A:Around}{E:Value→Shared→Prop}{s:Shared}{es:Array DictEntry}{ep:Nat}
noncomputable def ItS(h:Heap)(it d S:Addr)(i n ep:Nat):Prop:=∃f0 f1 ok ov,ItI h it d i n ep f0 f1 ok ov∧(f0= .none∨∃(a:Addr) (oa:Obj) (f:Bool),f0=rawInt a∧f1= .bool f∧h.get? a=some oa∧a≠it∧a≠S)
noncomputable def Prs(es:Array DictEntry)(lo:Addr)(h:Heap)(as:List Addr):Prop:=as.Nodup∧∀(j:Nat) (a:Addr),as[j]? =some a→lo<a∧∃en,es[j]? =some en∧h.get? a=some {cls:= .type "tuple",data:= .seq #[en.key,en.val]}
theorem su{R:Result→Shared→Prop}{S I d:Addr}(hh:A.handled=none)(hSI:S<I)(hSd:d≠S)(hId:d≠I)(hn:es.size≤sizeLine)(res:Value){h₁:Heap}
  (hR:∀h' tk acc c as,(∀b o,b≠S→b≠I→h₁.get? b=some o→h'.get? b=some o)→h'.get? S=some {cls:= .type "list",dict:=none,data:= .seq acc c,slots:=#[]}→as.length=es.size→Prs es I h' as→
   acc.toList=as.map Value.ref→R (.ok (.ret res)) {s with heap:=h',toks:=tk}):
  ∀(k i:Nat) (h:Heap) (tk c:Nat) (acc:Array Value) (as:List Addr),es.size -i=k→i≤es.size→ItS h I d S i es.size ep→gg h d es ep→(∀b o,b≠S→b≠I→h₁.get? b=some o→h.get? b=some o)→
   h.get? S=some {cls:= .type "list",dict:=none,data:= .seq acc c,slots:=#[]}→acc.toList=as.map Value.ref→as.length=i→Prs es I h as→I<h.objs.size→
   codeAny (model prog w) A (.builtin "list.extend.loop" ⟨[.ref S,.ref I,res],[]⟩) R {s with heap:=h,toks:=tk}:=by
 have hne:S≠I:=GaA hSI
 intro k
 induction k with
 |zero=>
  intro i h tk c acc as hk hi hst hD hkeep hS hacc hal hG hIs
  obtain⟨f0,f1,ok,ov,hit,_⟩:=hst
  refine Gbx PySem.F.entry_extend_loop ?_
  rw[GbW Gcl _]
  show wpAny _ A.in1 (pyNext (.ref I)>>=_) _ _ _
  refine Gaa (nE (s:={s with heap:=h,toks:=tk}) (A:=A.in1) (by omega) hh hit hD λh' he=> ?_)
  refine Gab (hR h' tk acc c as (λb o h1 h2 e=>he b o h2 (hkeep b o h1 h2 e)) (he S _ hne hS) (by omega) ⟨hG.1,λj a hj=> ?_⟩ hacc)
  obtain⟨e1,en,e2,e3⟩:=hG.2 j a hj
  exact⟨e1,en,e2,he a _ (Gbg e1) e3⟩
 |succ k ih=>
  intro i h tk c acc as hk hi hst hD hkeep hS hacc hal hG hIs
  have hlt:i<es.size:=by omega
  have hsz:acc.size=i:=by rw[←GaC,hacc,Gar,hal]
  obtain⟨f0,f1,ok,ov,hit,hf⟩:=hst
  have hSl:S<h.objs.size:=Gam hS
  refine Gbx PySem.F.entry_extend_loop ?_
  rw[GbW Gcl _]
  show wpAny _ A.in1 (pyNext (.ref I)>>=_) _ _ _
  refine Gaa (mK (s:={s with heap:=h,toks:=tk}) hlt hit hD (hf.imp id λ⟨a,oa,f,z1,z2,z3,z4,_⟩=> ⟨a,oa,f,z1,z2,z3,z4⟩) λh' g0 g1 ok' ov' hit' hg ht hz hkp=> ?_)
  dsimp only at ht hz hkp⊢
  have hS' :=hkp S _ hne hS
  have up:∀b o,b≠S→h'.get? b=some o→(h'.update S (Obj.mapSeq (·.push (Value.ref h.objs.size)))).get? b=some o:=λb o hb e=>(GaS _ _ (Gba hb)).trans e
  have hst' :ItS (h'.update S (Obj.mapSeq (·.push (Value.ref h.objs.size)))) I d S (i+1) es.size ep:=by
   refine⟨g0,g1,ok',ov',up I _ (Gba hne) hit',.inr ?_⟩
   rcases hg with⟨z1,z2,z3⟩| ⟨z1,z2,z3⟩
   ·exact⟨h.objs.size,_,false,z2,z3,up _ _ (Gbg hSl) ht,Gbg hIs,Gbg hSl⟩
   ·rcases hf with z| ⟨a,oa,f,y1,y2,y3,y4,y5⟩
    ·exact absurd z z1
    ·exact⟨a,oa,true,z2.trans y1,z3,up _ _ y5 (hkp a oa y4 y3),y4,y5⟩
  show wpAny _ A.in1 (updateSeq S (·.push (Value.ref h.objs.size))>>=_) _ _ _
  refine Gaa ?_
  refine Gcp hS' rfl (Gab ⟨GcZ Gcl _,ih (i+1) _ tk _ (acc.push (Value.ref h.objs.size)) (as++[h.objs.size]) (by omega) hlt hst' (hD.at λo e=>up d o hSd (hkp d o hId e))
   (λb o h1 h2 e=>up b o h1 (hkp b o h2 (hkeep b o h1 h2 e))) (GaH _ hS' rfl) (by rw[Gdi,hacc,Gcr];rfl) (by rw[GaL,hal];rfl) ⟨?_, ?_⟩ ?_⟩) (by rw[hsz];omega) (by show(acc.push (Value.ref h.objs.size)).size≤sizeLine+1;rw[Array.size_push,hsz];omega)
  ·refine GdP.mpr ⟨hG.1,by simp,λa ha b hb=> ?_⟩
   rw[GaK.mp hb]
   obtain⟨j,hj⟩:=GbO.mp ha
   obtain⟨_,en,_,e3⟩:=hG.2 j a hj
   exact GaA (Gam e3)
  ·intro j b hj
   rcases GdQ j as.length with h1|h1|h1
   ·rw[Gbh h1] at hj
    obtain⟨hb,en,e2,e3⟩:=hG.2 j b hj
    exact⟨hb,en,e2,up b _ (Gbg (Geg hSI hb)) (hkp b _ (Gbg hb) e3)⟩
   ·subst h1
    have hb:h.objs.size=b:=by simpa using hj
    subst hb
    refine⟨hIs,es[i],by rw[hal];simp[hlt],up _ _ (Gbg hSl) ht⟩
   ·have hnone:(as++[h.objs.size])[j]? =none:=GaV (by rw[GaL,GcG];omega)
    rw[hnone] at hj;cases hj
  ·have e:(h'.update S (Obj.mapSeq (·.push (Value.ref h.objs.size)))).get? h.objs.size=_:=up _ _ (Gbg hSl) ht
   exact Geg hIs (Gam e)
theorem pB{R:Result→Shared→Prop}{r d:Addr}(hh:A.handled=none)(hv:s.heap.IsItemsView r d)(hm:gg s.heap d es ep)(S:Addr)(hSr:S≠r)(hSd:d≠S)(res:Value)(c₀:Nat)(hS:s.heap.get? S=some {cls:= .type "list",data:= .seq #[] c₀})
  (hR:∀h' tk acc c as,(∀b o,b≠S→s.heap.get? b=some o→h'.get? b=some o)→h'.get? S=some {cls:= .type "list",dict:=none,data:= .seq acc c,slots:=#[]}→as.length=es.size→Prs es s.heap.objs.size h' as→
   acc.toList=as.map Value.ref→R (.ok (.ret res)) {s with heap:=h',toks:=tk})(hn:es.size≤sizeLine):
  wpAny (model prog w) A.in1 (Builtin.List.listExtendWith (.ref S) (.ref r) res)
   (λfin s' =>match fin with| .done f=>R (.ok f) s' | .again c' =>c'.quiet=true∧codeAny (model prog w) A c' R s') (λe s' =>R (.error e) s') s:=by
 have hSI:S<s.heap.objs.size:=Gam hS
 have hdI:d<s.heap.objs.size:=let⟨_,ho,_⟩:=hm;Gam ho
 have key:∀(h:Heap) (c₁ tk:Nat),(∀b o,b≠S→(s.heap.push {cls:= .type "dict_itemiterator",data:= .fields #[.none,.bool false,.ref d,.int 0 0,.int es.size 0,.int ep 0,.none,.none]}).get? b=some o→h.get? b=some o)→
   h.get? S=some {cls:= .type "list",data:= .seq #[] c₁}→codeAny (model prog w) A (.builtin "list.extend.loop" ⟨[.ref S,.ref s.heap.objs.size,res],[]⟩) R {s with heap:=h,toks:=tk}:=by
  intro h c₁ tk hk hS₁
  have hI:=hk s.heap.objs.size _ (Gbg hSI) (Gan _ rfl)
  refine su (es:=es) (ep:=ep) (s:=s) (h₁:=s.heap) hh hSI hSd (GaA hdI) hn res (λh' tk' acc c as hk' hS' hl hG hacc=>hR h' tk' acc c as (λb o hb e=>hk' b o hb (GaA (Gam e)) e) hS' hl hG hacc)
   es.size 0 h tk c₁ #[] [] (Nat.sub_zero _) (GaJ _) ⟨_,_,_,_,hI,.inl rfl⟩ (hm.at λo e=>hk d o hSd (Gad _ e)) (λb o hb _ e=>hk b o hb (Gad _ e)) hS₁ rfl rfl
   ⟨GcN,(λj a hj=>by simp at hj)⟩ (Gam hI)
 unfold Builtin.List.listExtendWith
 refine Gaa (Gdl (T:="dict_items") hv.typeIs ?_)
 have h1:Builtin.List.listSameRef (.ref S) (.ref r)=false:=by simp[Builtin.List.listSameRef,hSr]
 have h2:(Value.type "dict_items"==Value.type "list")=false:=by decide
 have h3:(Value.type "dict_items"==Value.type "tuple")=false:=by decide
 simp only[h1,h2,h3,Ges,Gai,GaB]
 refine Gaa (mJ hv hm ?_)
 have hS₁:=Gad {cls:= .type "dict_itemiterator",data:= .fields #[.none,.bool false,.ref d,.int 0 0,.int es.size 0,.int ep 0,.none,.none]} hS
 refine Gaa (Gbp (PySem.W.kdx_hint (let⟨o,ho,hc,_⟩:=hv;⟨o,Gad _ ho,hc⟩) ?_))
 refine GbM (λ_=> ?_) (λ_=>Gab ⟨GcZ Gcl _,key _ c₀ _ (λb o _ e=>e) hS₁⟩)
 refine Gaa (Gcz ?_)
 refine Gaa ?_
 show wpAny _ _ (updateSeq S (·.push .none)>>=λ_=>updateSeq S (·.pop)) _ _ _
 refine Gaa (Gcp hS₁ rfl ?_)
 have hS₂:=GaH (Obj.mapSeq (·.push Value.none)) hS₁ rfl
 refine Gcp (hz:=by seq_fits) hS₂ rfl ?_
 have hS₃:=GaH (Obj.mapSeq (·.pop)) hS₂ rfl
 refine Gab ⟨GcZ Gcl _,key _ _ _ (λb o hb e=> ?_) hS₃⟩
 exact(GaS _ _ (Gba hb)).trans ((GaS _ _ (Gba hb)).trans e)
theorem mL{Q:Value→Shared→Prop}{r d:Addr}(hh:A.handled=none)(hv:s.heap.IsItemsView r d)(hm:gg s.heap d es ep)(hn:es.size≤sizeLine)
  (hQ:∀h' tk acc c as,(∀b o,s.heap.get? b=some o→h'.get? b=some o)→h'.get? s.heap.objs.size=some {cls:= .type "list",dict:=none,data:= .seq acc c,slots:=#[]}→as.length=es.size→Prs es s.heap.objs.size h' as→
   acc.toList=as.map Value.ref→Q (.ref s.heap.objs.size) {s with heap:=h',toks:=tk}):
  wpAny (model prog w) A (call (.type "list") [.ref r]) Q E s:=by
 have hr:r<s.heap.objs.size:=let⟨_,ho,_⟩:=hv;Gam ho
 have hd:d<s.heap.objs.size:=let⟨_,ho,_⟩:=hm;Gam ho
 refine callType_codes (Q₁:=λobj s₁=>obj= .ref s.heap.objs.size∧s₁={s with heap:=s.heap.push {cls:= .type "list",data:= .seq #[]}}) PySem.F.called_list (PySem.F.typeCall_list_1 _) PySem.F.entry_list_init
  (code_list_new _ ⟨rfl,rfl⟩) λobj s₁ h₁=> ?_
 obtain⟨rfl,rfl⟩:=h₁
 have hS:(s.heap.push {cls:= .type "list",data:= .seq #[]}).get? s.heap.objs.size=some {cls:= .type "list",data:= .seq #[]}:=Gan _ rfl
 refine⟨⟨_,hS,rfl⟩,PySem.F.args_list_init_2 _ _, ?_⟩
 show wpAny _ A.in1.in1 (do let old←Builtin.List.listItems (.ref s.heap.objs.size);Builtin.List.listUpdate (.ref s.heap.objs.size) (λ_=>#[]);letGo old.toList.reverse;Builtin.List.listExtendWith (.ref s.heap.objs.size) (.ref r) .none) _ _ _
 refine Gaa ?_
 unfold Builtin.List.listItems
 refine Gaa (Gdn hS rfl (Gab ?_))
 show wpAny _ A.in1.in1 (updateSeq s.heap.objs.size (λ_=>#[])>>=λ_=>letGo (#[]:Array Value).toList.reverse>>=λ_=>Builtin.List.listExtendWith (.ref s.heap.objs.size) (.ref r) .none) _ _ _
 refine Gaa (Gcp hS rfl ?_)
 have hS₂:=GaH (Obj.mapSeq (λ_=>(#[]:Array Value))) hS rfl
 have oth:∀b o,b≠s.heap.objs.size→(s.heap.push {cls:= .type "list",data:= .seq #[]}).get? b=some o→((s.heap.push {cls:= .type "list",data:= .seq #[]}).update s.heap.objs.size (Obj.mapSeq (λ_=>(#[]:Array Value)))).get? b=some o:=λb o hb e=>(GaS _ _ (Gba hb)).trans e
 have old:∀b o,s.heap.get? b=some o→((s.heap.push {cls:= .type "list",data:= .seq #[]}).update s.heap.objs.size (Obj.mapSeq (λ_=>(#[]:Array Value)))).get? b=some o:=λb o e=>oth b o (GaA (Gam e)) (Gad _ e)
 refine Gaa (wpAny_letGo ?_)
 have hz:s.heap.objs.size≤((s.heap.push {cls:= .type "list",data:= .seq #[]}).update s.heap.objs.size (Obj.mapSeq (λ_=>(#[]:Array Value)))).objs.size:=GcC (Gam hS₂)
 refine pB (es:=es) (ep:=ep) (A:=A.in1) (s:={s with heap:=(s.heap.push {cls:= .type "list",data:= .seq #[]}).update s.heap.objs.size (Obj.mapSeq (λ_=>(#[]:Array Value)))}) hh (let⟨o,ho,x⟩:=hv;⟨o,old r o ho,x⟩) (hm.at λo e=>old d o e) s.heap.objs.size (Gbg hr) (GaA hd) .none _ hS₂ (λh' tk acc c as hk hS' hl hG hacc=> ?_) hn
 exact⟨rfl,hQ h' tk acc c as (λb o e=>hk b o (GaA (Gam e)) (old b o e)) hS' hl ⟨hG.1,λj a hj=> ⟨GdD hz (hG.2 j a hj).1,(hG.2 j a hj).2⟩⟩ hacc⟩
end
section
variable{X:Cx}{e a b c:Expr}{f g h:DE}{pos:Pos}{pins:List (Addr×Obj)}{σ:St}{H:Hp}{s:Shared}
theorem _root_.L2.Inv.BP{H' :Hp}{h' :Heap}{t' :Nat}(I:Inv X pins σ H s)(k:∀b u,s.heap.get? b=some u→h'.get? b=some u)(same:∀b,b<s.heap.objs.size→H' b=H b)(new:∀b u,s.heap.objs.size≤b→H' b=some u→bB X.prog X.w H' h' b u):Inv X pins σ H' {s with heap:=h',toks:=t' }:=by
 have low:∀b u,H b=some u→H' b=some u:=λb u q=>by rw[same b (I.hok.lt q)];exact q
 refine I.un ⟨λb u q _ _ _=>k b u q,λb u q _ _ _=> ⟨u.slots,k b u q⟩,λb u q n _=>by rw[same b (Gam q)];exact n,λb u q _=> ⟨u,k b u q⟩,λb xs q=>low b _ q,λb o u q=>low b _ q,λb ps q=> ⟨#[],by rw[low b _ q];simp⟩⟩ λb u q=> ?_
 rcases Gbb b s.heap.objs.size with z|z
 ·rw[same b z] at q
  exact(I.hok b u q).gJ (λc v _ q=>k c v q) (λc q=>low c _ q) λc xs q=>low c _ q
 ·exact new b u z q
noncomputable def A5(v d:Addr):HO:= .ext λh=>h.IsItemsView v d
theorem A6:MtR X "dict.items" (λo xs H Q=>∃d kvs,o= .ref d∧xs=[]∧H d=some (.dT kvs)∧∀v,H v=none→Q (.ref v) (upd H v (A5 v d))):=by
 intro pins s σ H x xs v us Q I r1 r2 h
 obtain⟨d,kvs,rfl,rfl,hd,q⟩:=h
 cases r1
 cases r2
 obtain⟨t1,t2,hds⟩:=Dl I (.inr ⟨kvs,.inl hd⟩)
 refine call_meetsIn PySem.F.slot_dict_items t1 PySem.F.entry_dict_items (PySem.F.args_dict_items_1 _) (lp d hds) ⟨t1, ?_⟩
 refine⟨.ref s.heap.objs.size,_,I.laid (a:=s.heap.objs.size) (o:=A5 s.heap.objs.size d) (λb o e=>Gad _ e) (Gau _) ?_,rfl,q _ I.fresh⟩
 exact⟨⟨_,Gan _ rfl,rfl,rfl⟩,⟨_,Gan _ rfl⟩,λh1 h2 ⟨o,ho,r⟩ k=> ⟨o,k o ho,r⟩⟩
noncomputable def Hu:List V→Hp→VK→Prop:=λxs H Q=>∃(v d:Addr) (kvs:List (List Key×V)),xs=[.ref v]∧H v=some (A5 v d)∧H d=some (.dT kvs)∧
 ∀(l:Addr) (vs:List V) (H' :Hp),b8 H H' →H l=none→H' l=some (.lst vs)→vs.length=kvs.length→(∀(i:Nat) p u,kvs[i]? =some p→vs[i]? =some u→∃q b,u= .ref q∧H' q=some (.tup [.ref b,p.2])∧H b=some (.tup (p.1.map kV)))→Q (.ref l) H'
theorem lq(hc:X.calm=true):cW X (.type "list") Hu:=by
 intro pins z σ H xs us Q I r h
 obtain⟨v,d,kvs,rfl,hv,hd,q⟩:=h
 obtain⟨u,rfl,rx⟩:=vals1 r
 cases rx
 obtain⟨iv,_,_⟩:=I.hok v _ hv
 obtain⟨h1,h2,xs,kt,o,es,ep,ho,hx,hdt,he,_⟩:=vZ I.hok hd
 have hl:kvs.length=xs.length:=Paired.length kt
 have hs:es.size=xs.length:=by rw[←GaC,he,Gar]
 have rel:∀{l:List (List Key×V)} {m:List (List Key×Addr×Value)},KT H l m→∀(i:Nat) p q,l[i]? =some p→m[i]? =some q→H q.2.1=some (.tup (p.1.map kV))∧RelV p.2 q.2.2:=by
  intro l m q
  induction q with
  |nil=>intro i p q h;simp at h
  |cons hq t ih=>
   intro i p' q' h1 h2
   cases i with
   |zero=>simp at h1 h2;subst h1 h2;exact hq.2
   |succ i=>exact ih i p' q' (by simpa using h1) (by simpa using h2)
 refine mL (I.ok.hd hc) iv ⟨o,ho,hx,hdt⟩ (by omega) λh' tk acc cc as hk hS hal hP hacc=> ?_
 let S:=z.heap.objs.size
 let T:Addr→Option HO:=λb=>if b=S then some (.lst (as.map V.ref)) else match as.findIdx? (λa=>a==b) with
  |some j=>match xs[j]?,kvs[j]? with
   |some x,some p=>some (.tup [.ref x.2.1,p.2])
   |_,_=>H b
  |none=>H b
 have hlt:∀a∈as,S<a:=λa ha=>by
  obtain⟨j,hj⟩:=GbO.mp ha
  exact(hP.2 j a hj).1
 have atj:∀(j:Nat) a,as[j]? =some a→∃x p,xs[j]? =some x∧kvs[j]? =some p∧T a=some (.tup [.ref x.2.1,p.2]):=λj a hj=>by
  have hj' :j<as.length:=(Gaf.mp hj).1
  have e1:xs[j]? =some xs[j]:=by simp
  have e2:kvs[j]? =some kvs[j]:=by simp
  refine⟨_,_,e1,e2, ?_⟩
  have hne:a≠S:=Gbg (hlt a (GaO hj))
  show(if a=S then _ else _)=_
  rw[Gae hne]
  have ix:as.findIdx? (λy=>y==a)=some j:=by
   rw[GdV]
   refine⟨hj', ?_,λk hk=> ?_⟩
   ·have:=(Gaf.mp hj).2
    simp[this]
   ·have e:=(Gaf.mp hj).2
    simp only[Gcn]
    intro z
    have:=(List.getElem_inj hP.1).mp (z.trans e.symm)
    omega
  rw[ix]
  dsimp only
  rw[e1,e2]
 have low:∀b,b<S→T b=H b:=λb hb=>by
  show(if b=S then _ else _)=_
  rw[Gae (GaA hb)]
  have:as.findIdx? (λy=>y==b)=none:=by
   rw[List.findIdx?_eq_none_iff]
   intro y hy
   have:=hlt y hy
   simp only[Gel]
   omega
  rw[this]
 have tS:T S=some (.lst (as.map V.ref)):=Gag rfl
 have hi:∀b u,S≤b→T b=some u→(b=S∧u= .lst (as.map V.ref))∨∃(j:Nat) (x:List Key×Addr×Value) (p:List Key×V),as[j]? =some b∧xs[j]? =some x∧kvs[j]? =some p∧u= .tup [.ref x.2.1,p.2]:=λb u hb e=>by
  by_cases z:b=S
  ·subst z;rw[tS] at e;cases e;exact .inl ⟨rfl,rfl⟩
  ·right
   have e' :(match as.findIdx? (λa=>a==b) with
    |some j=>match xs[j]?,kvs[j]? with
     |some x,some p=>some (HO.tup [.ref x.2.1,p.2])
     |_,_=>H b
    |none=>H b)=some u:=by
    have:T b=_:=Gae z
    rw[this] at e;exact e
   have hn:H b=none:=I.hok.fresh hb
   cases q:as.findIdx? (λa=>a==b) with
   |none=>rw[q] at e';rw[hn] at e';cases e'
   |some j=>
    rw[q] at e'
    obtain⟨hj,hj2,_⟩:=GdV.mp q
    have e1:xs[j]? =some xs[j]:=by simp
    have e2:kvs[j]? =some kvs[j]:=by simp
    dsimp only at e'
    rw[e1,e2] at e'
    cases e'
    exact⟨j,_,_,by rw[Gac hj];simpa using hj2,e1,e2,rfl⟩
 have sm:b8 H T:=λb u q=>by rw[low b (I.hok.lt q)];exact q
 have I1:Inv X pins σ T {z with heap:=h',toks:=tk}:=I.BP hk low λb u hb e=>by
  rcases hi b u hb e with⟨rfl,rfl⟩| ⟨j,x,p,e1,e2,e3,rfl⟩
  ·refine⟨by rw[Gar,hal];omega,acc.toList,cc, ?_,by simpa using hS⟩
   rw[hacc]
   exact j1 (by simp) λi x y hx hy=>by
    rw[Gax] at hx hy
    obtain⟨b,hb,rfl⟩:=Gaj.mp hx
    rw[hb] at hy
    cases hy
    rfl
  ·obtain⟨_,en,q1,q2⟩:=hP.2 j b e1
   have q1' :es.toList[j]? =some en:=by simpa using q1
   rw[he,Gax,e2] at q1'
   cases q1'
   obtain⟨r1,r2⟩:=rel kt j p x e3 e2
   exact⟨by simp[GbA],[.ref x.2.1,x.2.2],.cons rfl (.cons r2 .nil),_,q2,rfl,0,rfl⟩
 refine⟨.ref S,T,I1,rfl,q S (as.map V.ref) T sm I.fresh tS (by rw[Gar];omega) λi p u hp hu=> ?_⟩
 rw[Gax] at hu
 obtain⟨a,ha,rfl⟩:=Gaj.mp hu
 obtain⟨x,p',e1,e2,e3⟩:=atj i a ha
 rw[hp] at e2;cases e2
 exact⟨a,x.2.1,rfl,e3,(rel kt i p x hp e1).1⟩
theorem vb{p:Pos}{o:Expr}{apos cpos:Pos}(hc:X.calm=true)(hg:Gl X "list")(hm:X.mg "list"=none)(ho:PEd X o f)
  (hbase:attributeBase o "items" X.env (eval o X.env)=eval o X.env:=by rfl)(hline:(apos.endLine==cpos.line)=true:=by rfl)
  (hs2:starEach [.Call (.Attribute o "items" apos) [] [] cpos] X.env=[(false,eval (.Call (.Attribute o "items" apos) [] [] cpos) X.env)]:=by rfl):
  PEd X (.Call (.Name "list" p) [.Call (.Attribute o "items" apos) [] [] cpos] [] pos) (litE f):=by
 refine(jR (lq hc) hg hm gc (fc (rK PySem.F.plainAttrs_dict PySem.F.slot_dict_items PySem.F.type_dict_items A6 ho hbase hline) jQ hs2) (by decide) (by decide) hs2 rfl).aC ?_
 rintro σ H Q ⟨H₀,Bad,env,rv,E,e,k⟩
 obtain⟨r,hr,e⟩:=bind_some e
 split at e
 ·rename_i kvs hd
  split at e
  ·rename_i him
   cases e
   refine⟨H₀,Bad,env,r,E,hr,λv H1 s1 R1=> ?_⟩
   have i:=R1.inn
   rw[hd] at i
   cases i with
   | @dT a ws _ h rk=>
    refine⟨.inr (.inr (.inl ⟨rfl,.inr ⟨ws,h⟩⟩)),a,ws,rfl,rfl,h,λvw hvw=> ?_⟩
    have ne:a≠vw:=cw h hvw
    refine⟨vw,a,ws,rfl,au,by rw[az ne];exact h,λl vs H' sm hl hH' hlen hitems=> ?_⟩
    have s13:b8 H1 H' :=(aY hvw).trans sm
    have hl1:H1 l=none:=by
     by_cases z:l=vw
     ·subst z;exact hvw
     ·rw[az z] at hl;exact hl
    refine k _ H' (s1.trans s13) ⟨l,rfl,s1.free hl1,⟨_,hH',trivial⟩,rfl,.lst (.inl hH') ⟨?_,λj d u e1 e2=> ?_⟩⟩
    ·unfold m9;rw[Gar,og rk,hlen]
    ·unfold m9 at e1
     rw[Gax] at e1
     obtain⟨pd,hpd,rfl⟩:=Gaj.mp e1
     obtain⟨q,h1,h2,h3⟩:=va rk hpd
     obtain⟨t,b,rfl,ht,hb⟩:=hitems j q u h1 e2
     have hb1:H1 b=some (.tup (q.1.map kV)):=by
      by_cases z:b=vw
      ·subst z;rw[au] at hb;cases hb
      ·rw[az z] at hb;exact hb
     have hb' :H' b=some (.tup (q.1.map kV)):=s13 _ _ hb1
     have him' :pd.2.imm=true:=lE him j pd.2 (by rw[Gax,hpd];rfl)
     have r2:Rep X.K (λb=>Cln Bad env σ b∧b≠l) H' pd.2 q.2:=(h3.imm (F' :=λb=>Cln Bad env σ b∧b≠l) him').same s13
     have rs:aq X.K (λb=>Cln Bad env σ b∧b≠l) H' (pd.1.map m8) (q.1.map kV):=by rw[h2];exact mH λk=>tZ k
     have r1:Rep X.K (λb=>Cln Bad env σ b∧b≠l) H' (.tup (pd.1.map m8)) (.ref b):= .tup hb' rs.1 rs.2
     have rr:aq X.K (λb=>Cln Bad env σ b∧b≠l) H' [.tup (pd.1.map m8),pd.2] [.ref b,q.2]:= .cons r1 (.cons r2 .nil)
     exact .tup ht rr.1 rr.2
  ·cases e
 ·cases e
end
open PySem.W (KatLex KatTups kas_sort kas_ask kat_kind kat_lt kat_one kat_run kat_snds BoolBack kat_lt_int)
section
variable{prog:Program}{w:World}{A:Around}{E:Value→Shared→Prop}{s:Shared}
noncomputable def js(prog:Program)(w:World)(A:Around)(E:Value→Shared→Prop)(s:Shared)(cs:List (List (List Int)))(vs:List Value):Prop:=
 2≤vs.length→∀Q:SortKind→Shared→Prop,(∀κ,(∀i j C,i<vs.length→j<vs.length→C (decide (rank cs i<rank cs j)) s→kas_ask prog w A κ vs i j C s)→Q κ s)→wpAny (model prog w) A (keyKind' vs.toArray) Q E s
theorem nF{a:Addr}{vs:List Value}{cs:List (List (List Int))}{n:Nat}{P:PySem.Fin→Shared→Prop}(ho:s.heap.get? a=some (seqObj "list" vs.toArray n))(h64:vs.length<64)
  (hK:∀G:Heap,(∀b o,b≠a→s.heap.get? b=some o→G.get? b=some o)→js prog w A E {s with heap:=G} cs vs)
  (h:∀p:Array Nat,Ord vs.length p→Up (rank cs) p vs.length→P (.done (.ret .none)) {s with heap:=sortedHeap s.heap a vs (List.toArray (p.toList.map λi=>vs.getD i Value.none))}):wpAny (model prog w) A (Builtin.«list.sort» ⟨[.ref a],[]⟩) P E s:=by
 have ha:a<s.heap.objs.size:=Gam ho
 have szl:vs.length≤sizeLine:=by rw[GbA];omega
 rw[list_sort_plain]
 refine Gaa (listItems_at ho rfl (Gaa (GcX ho rfl ?_ (by rw[Gao];exact szl) (GaJ _))))
 obtain⟨ep,ho1⟩:∃ep,(s.heap.update a (Obj.mapSeq λ_=>(#[]:Array Value))).get? a=some (seqObj "list" #[] ep):=⟨_,get?_update_seq ho λ_=>#[]⟩
 refine Gaa (GdS ho1 rfl (Gaa (GdJ ?_ szl)))
 refine Gaa (Gct ?_ (GaJ _))
 refine Gbp ?_
 generalize hG:((s.heap.update a (Obj.mapSeq λ_=>(#[]:Array Value))).push {cls:= .type "tuple",data:= .seq vs.toArray}).push {cls:= .type "list",data:= .seq ([]:List Value).toArray}=G
 have hGs:G=((s.heap.update a (Obj.mapSeq λ_=>(#[]:Array Value))).push (seqObj "tuple" vs.toArray 0)).push (seqObj "list" #[] 0):=hG.symm
 have hoG:G.get? a=some (seqObj "list" #[] ep):=by rw[←hG];exact Gad _ (Gad _ ho1)
 have keepG:∀b o,b≠a→s.heap.get? b=some o→G.get? b=some o:=λb o hb e=>by
  rw[←hG]
  exact Gad _ (Gad _ ((GaS _ _ (Gba hb)).trans e))
 show wpAny (model prog w) A _ P E {s with heap:=G}
 have fin:∀(p:Array Nat),Ord vs.length p→Up (rank cs) p vs.length→P (.done (.ret .none)) {s with heap:=G.update a (Obj.mapSeq λ_=>List.toArray (p.toList.map λi=>vs.getD i Value.none))}:=λp h1 h2=>by
  have:=h p h1 h2
  unfold sortedHeap at this
  rw[←hGs] at this
  exact this
 have endOk:∀(p:Array Nat),Ord vs.length p→Up (rank cs) p vs.length→∀(st:SortSt),(arrOf st).map (·.2)=List.toArray (p.toList.map λi=>vs.getD i Value.none)→failedOf st=none→
   wpAny (model prog w) A (do
    let touched:=(←seqEpoch a) !=ep
    Builtin.List.listUpdate (.ref a) λ_=>(arrOf st).map (·.2)
    if let some e:=failedOf st then rule "list.sort.comparison-raised";throw e
    if touched then rule "list.sort.modified";raiseError "ValueError" "list modified during sort"
    ret .none) P E {s with heap:=G}:=λp h1 h2 st e1 e2=>by
  refine Gaa (GdS hoG rfl ?_)
  rw[e1]
  refine Gaa (GcX hoG rfl ?_ (GaJ _) (by rw[Gao,Gar,GaC,h1.size];omega))
  rw[e2]
  simp only[GdN,Gai,GaB]
  exact Gab (fin p h1 h2)
 have hsz:vs.toArray.size=vs.length:=by simp
 dsimp only
 by_cases h2:vs.toArray.size<2
 ·rw[Gag h2,Gag h2]
  refine Gaa (Gab ?_)
  rw[StateT.run_pure]
  refine Gaa (Gab ?_)
  refine endOk (List.toArray (List.range vs.length)) (List.Perm.refl _) (λu v huv hv=>by rw[show u=v by omega];exact Gbn _) (SortSt.mk' general' (vs.toArray.zip vs.toArray) #[] 7 none) ?_ rfl
  show((vs.toArray.zip vs.toArray).map (·.2))=_
  apply Gcc.mp
  simp only[Array.toList_map,Array.toList_zip]
  have hv:vs.length<2:=by rw[←hsz];exact h2
  clear hK h fin endOk ho hG hGs hoG keepG h64 szl hsz h2
  match vs,hv with
  |[],_=>rfl
  |[x],_=>rfl
  |x::y::r,q=>exact absurd q (by simp)
 ·rw[Gae h2,Gae h2]
  refine Gaa (hK G keepG (by omega) _ λκ hκ=> ?_)
  refine Gaa (GbU (kat_run (E:=E) (Q:=λst' s' =>s' ={s with heap:=G}∧∃p:Array Nat,Ord vs.length p∧Up (rank cs) p vs.length∧(arrOf st').map (·.2)=List.toArray (p.toList.map λi=>vs.getD i Value.none)∧failedOf st' =none)
   (G:=λp s' =>s' ={s with heap:=G}∧Ord vs.length p∧Up (rank cs) p vs.length) rfl (by omega) h64 (λp st' s' b1 b2 b3 b4=> ⟨b4.1,p,b4.2.1,b4.2.2,kat_snds rfl b2,b3⟩) ?_) ?_ λ_ _ e=>e)
  ·have so:=tQ (rk:=rank cs) (N:=vs.length) (by omega)
   refine Asks.wp (s:={s with heap:=G}) (λi j C hi hj hc=>hκ i j C hi hj hc) (λp hp=> ⟨rfl,hp.1,hp.2⟩) _ so
  ·rintro⟨⟨⟩,st'⟩ s' ⟨rfl,p,c1,c2,c3,c4⟩
   exact endOk p c1 c2 st' c3 c4
theorem sv{l:Addr}{o:Obj}{vs:List Value}{cs:List (List (List Int))}{n:Nat}{T:String}{Q:Value→Shared→Prop}(ho:s.heap.get? l=some o)(hc:o.cls= .type T)(hT:T="list"∨T="tuple")(hd:o.data= .seq vs.toArray n)(h64:vs.length<64)
  (hK:∀G:Heap,(∀b o,s.heap.get? b=some o→G.get? b=some o)→∀A' :Around,A'.units=A.units+2→js prog w A' E {s with heap:=G} cs vs)
  (h:∀p:Array Nat,Ord vs.length p→Up (rank cs) p vs.length→Q (.ref (s.heap.objs.size+1)) {s with heap:=sortedAll s.heap vs (List.toArray (p.toList.map λi=>vs.getD i Value.none))}):wpAny (model prog w) A (call (.builtin "sorted") [.ref l]) Q E s:=by
 have szl:vs.length≤sizeLine:=by rw[GbA];omega
 refine GdA kind_sorted plain_sorted entry_sorted (args_sorted1 _) ?_
 unfold Builtin.«sorted»
 refine Gaa (m:=checkCount "sorted" 1 1 _) (Gab (Gaa (qq ho hc hT hd ?_ szl)))
 refine Gaa (Gct ?_ szl)
 generalize hG:(s.heap.push (seqObj "list" #[] 0)).update s.heap.objs.size (Obj.mapSeq (· ++vs.toArray))=G
 have hsz:G.objs.size=s.heap.objs.size+1:=by rw[←hG,Heap.size_update,size_push']
 have hoL:(G.push (seqObj "list" vs.toArray 0)).get? (s.heap.objs.size+1)=some (seqObj "list" vs.toArray 0):=by rw[←hsz];exact Gan _ rfl
 have keep:∀b o,s.heap.get? b=some o→(G.push (seqObj "list" vs.toArray 0)).get? b=some o:=λb o e=>by
  have hlt:=Gam e
  refine Gad _ ?_
  rw[←hG,Heap.get?_update_ne _ _ _ _ (GaA hlt)]
  exact Gad _ e
 show wpAny _ _ _ _ _ {s with heap:=G.push (seqObj "list" vs.toArray 0)}
 rw[hsz]
 refine Gaa (Gbp (Gbi slot_list_sort ⟨_,hoL,rfl⟩ entry_list_sort (nF (cs:=cs) (s:={s with heap:=G.push (seqObj "list" vs.toArray 0)}) hoL h64 (λG' kG=> ?_) λp h1 h2=> ⟨_,rfl, ?_⟩) (args_list_sort _)))
 ·exact hK G' (λb o e=>kG b o (GaA (Gcs (Gam e))) (keep b o e)) _ rfl
 ·have:=h p h1 h2
  unfold sortedAll at this
  rw[hG] at this
  exact Gab ⟨_,rfl,this⟩
theorem A7{A:Around}{z:Shared}:∀{as bs:List D} {us vs:List Value},Paired FlV as us→Paired FlV bs vs→jg as bs=true→Ans .Lt A z (decide (as.length<bs.length)) (us.zip vs) (ltC (as.map ar) (bs.map ar))
 |[],[],_,_,.nil,.nil,_=>rfl
 |[],_::_,_,_,.nil,.cons _ _,_=>by
  show ltC [] _=_
  simp[ltC,cK]
 |_::_,[],_,_,.cons _ _,.nil,_=>by
  show ltC (_::_) []=_
  simp[ltC,cK]
 |a::as,c::cs,_,_,.cons (b:=u) ha ta,.cons (b:=v) hb tb,hc=>by
  unfold jg at hc
  have h0:ltC ((a::as).map ar) ((c::cs).map ar)=if ar a=ar c then ltC (as.map ar) (cs.map ar) else cK ltI (ar a) (ar c):=rfl
  have ht:tyD a=tyD c:=by
   split at hc
   ·rename_i e
    cases a<;>cases c<;>simp[ar] at e<;>first|rfl|exact ha.elim|exact hb.elim
   ·rw[Gaq] at hc;exact Gcn.mp hc.1
  refine⟨decide (ar a=ar c),λprog w E Q h=>Cz ha hb ht h, ?_⟩
  rw[h0]
  by_cases e:ar a=ar c
  ·rw[Gag e] at hc⊢
   refine .inl ⟨GaD e, ?_⟩
   have l:decide ((a::as).length<(c::cs).length)=decide (as.length<cs.length):=by simp
   rw[l]
   exact A7 ta tb hc
  ·rw[Gae e] at hc⊢
   refine .inr ⟨GaE e, ?_⟩
   rw[Gaq,Gbu] at hc
   have hk:=hc.2.imp Gcn.mp Gcn.mp
   cases a<;>cases c<;>simp[tyD] at ht hk
   ·obtain⟨t,rfl⟩:=ha
    obtain⟨t',rfl⟩:=hb
    rw[pq]
    exactλprog w E Q h=>PyProof.Rows.lt_int h
   ·obtain⟨t,rfl⟩:=ha
    obtain⟨t',rfl⟩:=hb
    rw[tU]
    exactλprog w E Q h=>PyProof.Rows.lt_str h
theorem u0:∀{as bs:List D},as.all fw=true→bs.all fw=true→fV as bs=true→as=bs
 |[],[],_,_,_=>rfl
 |[],_::_,_,_,h=>by simp at h
 |_::_,[],_,_,h=>by simp at h
 |a::as,b::bs,ha,hb,h=>by
  rw[GbD,Gaq] at ha hb
  simp only[fV,Gaq] at h
  rw[u0 ha.2 hb.2 h.2]
  have:a=b:=by
   have h1:=ha.1
   have h2:=hb.1
   have h3:=h.1
   cases a<;>simp[fw,tyD] at h1<;>cases b<;>simp[fw,tyD] at h2<;>simp at h3
   ·rfl
   ·rw[h3]
   ·rw[h3]
  rw[this]
theorem kR{b fin:Bool}{Q:Bool→Shared→Prop}:∀(l:List Value) (i:Nat),Q fin s→KatLex prog w A b fin Q (l.zip l) i s
 |[],_,h=>h
 |v::l,i,h=>by
  show wpAny _ _ (eqBool v v) _ _ s
  refine SeqAt.EqAt.same v prog w _ _ ?_
  rw[Gag rfl]
  exact kR l (i+1) h
end
section
variable{X:Cx}{pins:List (Addr×Obj)}{σ:St}{H:Hp}{z:Shared}{F:Addr→Prop}
theorem mM(I:Inv X pins σ H z){d:D}{y:V}{v:Value}{t:Nat}(r:Rep X.K F H d y)(rv:RelV y v)(h1:cY d=true)(h2:fG t (iS d)=true)(ht:t≠3):
  ∃(a:Addr) (its:List Value) (u:Value) (ur:List Value) (b:Addr) (fs:List D) (us:List Value),v= .ref a∧z.heap.IsTuple a its.toArray∧its=u::ur∧u= .ref b∧iS d= .tup fs∧fs.all fw=true∧z.heap.IsTuple b us.toArray∧Paired FlV fs us∧
   ∃x,Rep X.K F H (iS d) x∧RelV x u:=by
 cases r with
 | @tup a vs ds h l q=>
  cases ds with
  |nil=>simp[cY] at h1
  |cons f rr=>
   cases rv
   obtain⟨its,rvs,pt,_⟩:=I.tuple (SqT.of h)
   have h2' :fG t f=true:=h2
   obtain⟨f0,fr,ef,_,fl⟩:=gf ht h2'
   cases vs with
   |nil=>simp at l
   |cons x xs=>
    have rx:Rep X.K F H f x:=q 0 f x rfl rfl
    cases rvs with
    | @cons _ u _ ur ru _=>
     subst ef
     have rx' :=rx
     cases rx' with
     | @tup b ws _ hb lb qb=>
      have ru' :=ru
      cases ru'
      obtain⟨us,rus,pb,_⟩:=I.tuple (SqT.of hb)
      exact⟨a,_,_,_,b,f0::fr,us,rfl,pt,rfl,rfl,rfl,fl,pb,rW ⟨lb,qb⟩ fl rus,_,rx,ru⟩
 |_=>simp[cY] at h1
theorem kS(I:Inv X pins σ H z){M:Model}{t:Nat}(ht:t≠3):∀{ds:List D} {ys:List V} {vs:List Value},aq X.K F H ds ys→Vals ys vs→ds.all cY=true→(ds.map iS).all (fG t)=true→∃fs:List Value,KatTups z.heap vs fs∧fs.length=vs.length∧∀v∈fs,PySem.W.Looks M z.heap (typeOf v) (.type "tuple")
 |[],ys,vs,r,rv,_,_=>by
  have:=r.bC
  subst this
  cases rv
  exact⟨[],trivial,rfl,λv hv=>by cases hv⟩
 |d::ds,ys,vs,r,rv,h1,h2=>by
  obtain⟨y,yr,rfl,r1,r2⟩:=r.cons_inv
  rw[GbD,Gaq] at h1
  rw[GaI,GbD,Gaq] at h2
  cases rv with
  | @cons _ v _ vr rv1 rv2=>
   obtain⟨fs,g1,g2,g3⟩:=kS I (M:=M) ht r2 rv2 h1.2 h2.2
   obtain⟨a,its,u,ur,b,fds,us,rfl,p1,rfl,rfl,_,_,p2,_⟩:=mM I r1 rv1 h1.1 h2.1 ht
   obtain⟨o,ho,hc,n,hd⟩:=p1
   obtain⟨ob,hob,hcb,_⟩:=p2
   refine⟨.ref b::fs,KatTups.cons ho hc hd (by simp) g1,by simp[g2],λv hv=> ?_⟩
   rcases Gas.mp hv with e|e
   ·subst e
    have:PySem.W.Looks M z.heap (typeOf (.ref b)) ob.cls:=(PySem.W.Looks.ld hob).andThen .now
    rw[hcb] at this;exact this
   ·exact g3 v e
theorem mN(I:Inv X pins σ H z){E:Value→Shared→Prop}{A:Around}(hu:A.units+12<cLine){ds:List D}{ys:List V}{vs:List Value}(r:aq X.K F H ds ys)(rv:Vals ys vs)(hok:cP ds=true):js X.prog X.w A E z (ds.map cdN) vs:=by
 intro h2 Q hq
 unfold cP at hok
 rw[Gaq,Gaq,Gaq,Gbu] at hok
 obtain⟨⟨⟨o1,o2⟩,o3⟩,o4⟩:=hok
 have hl:vs.length=ds.length:=by rw[←rv.length,r.1]
 obtain⟨t,ht,o2⟩:∃t,t≠3∧(ds.map iS).all (fG t)=true:=by
  rcases o2 with q|q
  ·exact⟨1,by decide,q⟩
  ·exact⟨2,by decide,q⟩
 obtain⟨fs,g1,g2,g3⟩:=kS I (M:=model X.prog X.w) ht r rv o1 o2
 refine kat_kind (T:= .type "tuple") g1 (by omega) g3 (by rfl) (hq _ λi j C hi hj hC=> ?_)
 have bf:(Value.type "tuple" !=Value.type "tuple")=false:=by decide
 rw[bf]
 unfold kas_ask
 have gi:vs.getD i Value.none=vs[i]:=by simp[hi]
 have gj:vs.getD j Value.none=vs[j]:=by simp[hj]
 rw[gi,gj]
 have hi' :i<ds.length:=by omega
 have hj' :j<ds.length:=by omega
 have hyi:i<ys.length:=by rw[←r.1];exact hi'
 have hyj:j<ys.length:=by rw[←r.1];exact hj'
 have at_:∀{ys:List V} {vs:List Value},Vals ys vs→∀(i:Nat) (h1:i<ys.length) (h2:i<vs.length),RelV ys[i] vs[i]:=by
  intro ys vs hv
  induction hv with
  |nil=>intro i h1;simp at h1
  |cons h t ih=>
   intro i h1 h2
   cases i with
   |zero=>exact h
   |succ i=>exact ih i (by simpa using h1) (by simpa using h2)
 have keyAll:∀(i:Nat) (h:i<ds.length),fG t (iS ds[i])=true:=λi h=>Gat.mp o2 _ (Gaz.mpr ⟨ds[i],GaR h,rfl⟩)
 obtain⟨a,its,u,ur,b,fds,us,ev,p1,eits,eu,ef,fl,p2,pf,x,rx,rxu⟩:=mM I (r.2 i ds[i] ys[i] (by simp[hi']) (by simp[hyi])) (at_ rv i hyi hi) (Gat.mp o1 _ (GaR hi')) (keyAll i hi') ht
 obtain⟨a',its',u',ur',b',fds',us',ev',p1',eits',eu',ef',fl',p2',pf',x',rx',rxu'⟩:=mM I (r.2 j ds[j] ys[j] (by simp[hj']) (by simp[hyj])) (at_ rv j hyj hj) (Gat.mp o1 _ (GaR hj')) (keyAll j hj') ht
 rw[ev,ev']
 obtain⟨o,ho,hc,n,hd⟩:=p1
 obtain⟨o',ho',hc',n',hd'⟩:=p1'
 refine kat_lt ho hd ho' hd' ?_
 have plain:∀{l:List D},l.all fw=true→a9 10 (.tup l)=true:=λ{l} hl=>by
  show l.all (a9 9)=true
  refine Gat.mpr λd hd=> ?_
  have:=Gat.mp hl d hd
  cases d<;>simp[fw,tyD] at this<;>rfl
 have nod:=dO.mp o4
 have cmp:=Gat.mp (Gat.mp o3 _ (Gaz.mpr ⟨ds[i],GaR hi',rfl⟩)) _ (Gaz.mpr ⟨ds[j],GaR hj',rfl⟩)
 have eq:=jm I 10 (A:=A) (by rw[ef];exact plain fl) (by rw[ef'];exact plain fl') rx rx' rxu rxu' (by omega)
 have rk:=lD (cs:=ds.map cdN) (i:=i) (j:=j) (by simpa using hi') (by simpa using hj')
 simp only[Gcf] at rk
 rw[ef,ef'] at eq cmp
 by_cases ee:eqD (.tup fds) (.tup fds')=true
 ·have e1:fds=fds' :=u0 fl fl' (by simpa using ee)
  have e2:cdN ds[i]=cdN ds[j]:=by unfold cdN;rw[ef,ef',e1]
  have ij:i=j:=by
   have:=(List.getElem_inj (i:=i) (j:=j) (h₀:=by simpa using hi') (h₁:=by simpa using hj') nod).mp (by simpa using e2)
   exact this
  subst ij
  rw[ev] at ev'
  cases ev'
  rw[ho] at ho';cases ho'
  rw[hd] at hd'
  have es:its' =its:=by
   have:its'.toArray=its.toArray:=by injection hd' with z;exact z.symm
   simpa using this
  subst es
  refine kR _ _ ?_
  rw[GaE (Int.lt_irrefl _)] at hC
  simpa using hC
 ·have en:eqD (.tup fds) (.tup fds')=false:=by simpa using ee
  rw[en] at eq
  subst eits eits'
  show wpAny _ _ (eqBool u u') _ _ z
  refine eq X.prog X.w _ _ ?_
  rw[Gae Gay]
  show wpAny _ _ (oneLt' (false&&(0:Nat)==0) u u') _ _ z
  rw[Bool.false_and]
  refine kat_one _ _ ?_
  have an:=A7 (A:=A.in1) (z:=z) pf pf' cmp
  rw[pf.length,pf'.length] at an
  subst eu eu'
  refine Ga (A:=A) p2 p2' (by omega) (by simpa using an) X.prog X.w _ _ ?_
  rw[rk] at hC
  unfold cdN at hC
  rw[ef,ef'] at hC
  exact hC
theorem kT{cd:D→List (List Int)}{ds:List D}{p:Array Nat}(h:Ord ds.length p)(hu:Up (rank (ds.map cd)) p ds.length):fZ cd (p.toList.map λi=>ds.getD i .non):=by
 refine Gck.mpr λi j hi hj hij=> ?_
 rw[Gar] at hi hj
 rw[Gcf,Gcf]
 have bi:=pA h hi
 have bj:=pA h hj
 have hs:=h.size
 have hi' :i<p.size:=by simpa using hi
 have hj' :j<p.size:=by simpa using hj
 have u:=hu i j (GcC hij) (by omega)
 unfold b7 at u
 have ei:p.getD i 0=p.toList[i]:=by simp[Array.getD,hi']
 have ej:p.getD j 0=p.toList[j]:=by simp[Array.getD,hj']
 rw[ei,ej] at u
 have r:=lD (cs:=ds.map cd) (i:=p.toList[j]) (j:=p.toList[i]) (by simpa using bj) (by simpa using bi)
 rw[GaE (Gds.mpr u)] at r
 simp only[Gcf] at r
 have gd:∀{k:Nat} (hk:k<ds.length),ds.getD k .non=ds[k]:=λ{k} hk=>by simp[hk]
 have gi:=gd bi
 have gj:=gd bj
 rw[gi,gj]
 exact r.symm
noncomputable def qy(K:aa):List V→Hp→VK→Prop:=λxs H Q=>∃(p:Addr) (ds:List D) (vs:List V) (F:Addr→Prop),xs=[.ref p]∧(SqL K H p vs∨SqT K H p vs)∧aq K F H ds vs∧ds.length<64∧cP ds=true∧
 ∀l out,H l=none→(∀F',aq K F' H ds vs→aq K F' H (gy cdN ds) out)→Q (.ref l) (upd H l (.lst out))
theorem jt(hu:X.A.units+20<cLine):cW X (.builtin "sorted") (qy X.K):=by
 intro pins s σ H xs us Q I rv h
 obtain⟨p,ds,vs,F,rfl,hq,hr,h64,hok,q⟩:=h
 obtain⟨u,rfl,ru⟩:=rv.one
 cases ru
 obtain⟨o,T,n,its,ho,hc,hT,hd,rvs⟩:∃(o:Obj) (T:String) (n:Nat) (its:List Value),s.heap.get? p=some o∧o.cls= .type T∧(T="list"∨T="tuple")∧o.data= .seq its.toArray n∧Vals vs its:=by
  rcases hq with hq|hq
  ·obtain⟨its,rvs,pl,_⟩:=I.list hq
   obtain⟨o,h1,h2,n,h3⟩:=pl.isList
   exact⟨o,"list",n,its,h1,h2,.inl rfl,h3,rvs⟩
  ·obtain⟨its,rvs,⟨o,h1,h2,n,h3⟩,_⟩:=I.tuple hq
   exact⟨o,"tuple",n,its,h1,h2,.inr rfl,h3,rvs⟩
 have e1:its.length=ds.length:=by rw[←rvs.length,hr.1]
 refine sv (cs:=ds.map cdN) ho hc hT hd (by omega) (λG keep A' hA' =>mN (I.kept (t' :=s.toks) keep) (by omega) hr rvs hok) λod h1 h2=> ?_
 have h1' :Ord ds.length od:=by rw[←e1];exact h1
 have h2' :Up (rank (ds.map cdN)) od ds.length:=by rw[←e1];exact h2
 have nod:(ds.map cdN).Nodup:=by
  unfold cP at hok
  rw[Gaq] at hok
  exact dO.mp hok.2
 have uniq:(od.toList.map λi=>ds.getD i .non)=gy cdN ds:=dN ((cQ h1').trans (iT ds).symm) (kT h1' h2') (dw ds) λa ha b hb=>g8 nod a ((cQ h1').mem_iff.mp ha) b ((cQ h1').mem_iff.mp hb)
 obtain⟨c,hat⟩:=sortedAll_at s.heap its (List.toArray (od.toList.map λi=>its.getD i Value.none))
 have fresh:H (s.heap.objs.size+1)=none:=I.hok.fresh (Gde _)
 have h1v:Ord vs.length od:=by rw[←hr.1];exact h1'
 refine⟨.ref (s.heap.objs.size+1),_,I.laid (a:=s.heap.objs.size+1) (o:= .lst (od.toList.map λi=>vs.getD i .non)) (t' :=s.toks) (λb ob e=>sortedAll_old e) (Gde _) ?_,rfl,q _ _ fresh λF' r=> ?_⟩
 ·refine⟨?_,_,c,mG h1v rvs,hat⟩
  rw[Gar,GaC,h1v.size,←hr.1,GbA]
  omega
 ·rw[←uniq]
  exact mF h1' r
theorem iJ:CallD X ji (qy X.K):=by
 intro F H ds vs rv Q ps e k
 obtain⟨d,xs,rfl,h1,h2⟩:=wR e
 split at h2
 ·rename_i c
  rw[Gaq] at c
  cases h2
  obtain⟨v,rfl,i⟩:=d6 ps
  obtain⟨p,vs,rfl,hs,r⟩:=wQ i h1
  exact⟨p,xs,vs,F,rfl,hs,r,GaN c.1,c.2,λl out hl hr=>k _ _ (aY hl) ⟨l,rfl,hl,jX,rfl,cy hl (hr F r)⟩⟩
 ·cases h2
end
section
variable{X:Cx}{e a b c:Expr}{f g h:DE}{pos:Pos}
theorem aq.dropLast{K:aa}{F:Addr→Prop}{H:Hp}{ds:List D}{vs:List V}(h:aq K F H ds vs):aq K F H ds.dropLast vs.dropLast:=by
 rw[List.dropLast_eq_take,List.dropLast_eq_take,←h.1]
 exact h.take _
theorem vc{i:Nat}{x:Str}{px apos cpos px2 apos2 cpos2:Pos}(hN:X.N[i]? =some x)(hv:Vis X.env.scope x)(he:PEd X e f)(hd:(x==("__debug__":Str))=false:=by decide)(hcd:(x==("__classdict__":Str))=false:=by decide)
  (hs1:starEach [e,.Call (.Attribute (.Name x px2) "pop" apos2) [] [] cpos2] X.env=(false,eval e X.env)::starEach [.Call (.Attribute (.Name x px2) "pop" apos2) [] [] cpos2] X.env:=by rfl)
  (hs2:starEach [.Call (.Attribute (.Name x px2) "pop" apos2) [] [] cpos2] X.env=[(false,eval (.Call (.Attribute (.Name x px2) "pop" apos2) [] [] cpos2) X.env)]:=by rfl)
  (hbase:attributeBase (.Name x px) "insert" X.env (eval (.Name x px) X.env)=eval (.Name x px) X.env:=by rfl)
  (hbase2:attributeBase (.Name x px2) "pop" X.env (eval (.Name x px2) X.env)=eval (.Name x px2) X.env:=by rfl)
  (hfew:((backTo cpos (starEach [e,.Call (.Attribute (.Name x px2) "pop" apos2) [] [] cpos2] X.env)).all (λx=> !x.1)&&(backToKw cpos (keywordEach [] X.env)).all (λx=>x.1.isSome)
   &&decide (([e,.Call (.Attribute (.Name x px2) "pop" apos2) [] [] cpos2]:List Expr).length+([]:List Keyword).length+(if([]:List Keyword).isEmpty then 0 else 1)<30))=true:=by rfl)
  (hline:(apos.endLine==cpos.line)=true:=by rfl)(hline2:(apos2.endLine==cpos2.line)=true:=by rfl)
  (hs:swapsWith (.Call (.Attribute (.Name x px) "insert" apos) [e,.Call (.Attribute (.Name x px2) "pop" apos2) [] [] cpos2] [] cpos) none pos.line X.env=pure false:=by rfl):
  PSd X (.Expr (.Call (.Attribute (.Name x px) "insert" apos) [e,.Call (.Attribute (.Name x px2) "pop" apos2) [] [] cpos2] [] cpos) pos) (tq i f):=by
 refine(oR (Cn GcV PySem.F.slot_list_insert PySem.F.type_list_insert uX (iO hN hv hd hcd)
  (fc he (fc (rK GcV PySem.F.slot_list_pop PySem.F.type_list_pop Df (iO hN hv hd hcd) hbase2 hline2) jQ hs2) hs1) hbase hfew hline hs1 (by rw[hs2];rfl)) hs).aC ?_
 rintro D σ H ⟨H₀,Bad,env,o,E,e,k⟩
 obtain⟨r,hr,e⟩:=bind_some e
 obtain⟨d,hd,e⟩:=bind_some e
 have q:=jk hd
 obtain⟨kd,rd⟩:=r
 split at e
 ·rename_i xs j hj
  have hj' :rd= .int j:=hj
  split at e
  ·rename_i y hy
   split at e
   ·rename_i z
    rw[Gaq] at z
    obtain⟨z2,z3⟩:=z
    cases e
    subst hj'
    obtain⟨a,h1,h2,h3,h4,h5,h6⟩:=E.ow i _ (.inl q)
    obtain⟨vs,hH,rp⟩:=lG h4 h6
    refine⟨_,h1,.inl ⟨rfl,vs,.inl (.inl hH)⟩,H₀,Bad,env,⟨kd,.int j⟩,E,hr,λv1 H2 s2 R1=> ?_⟩
    have i1:=R1.inn
    cases i1
    have hH2:=s2 _ _ hH
    have rp1:aq X.K (Cln Bad env σ) H2 xs vs:=rp.gen (.of_same s2) λ_ f _=>f
    obtain⟨yv,hyv,ry⟩:=rp1.get hy
    rw[rp1.1] at hyv
    refine⟨_,h1,.inl ⟨rfl,vs,.inl (.inl hH2)⟩,a,vs,yv,rfl,rfl,hH2,hyv, ?_⟩
    have sj:=iX z3
    refine⟨a,vs.dropLast,j,yv,rfl,rfl,au, ?_,sj.1,sj.2, ?_⟩
    ·have:=GaN z2
     rw[List.length_dropLast,←rp1.1,←size_eq]
     omega
    ·rw[AV]
     have E2:=E.mono s2
     have rpd:=rp1.dropLast
     have rp2:aq X.K (Cln Bad env σ) H2 (fe xs.dropLast j y) (fe vs.dropLast j yv):=by
      unfold fe
      rw[←rpd.1]
      exact(rpd.take _).append (.cons ry (rpd.drop _))
     obtain⟨E3,p3⟩:=E2.change (d' := .lst (fe xs.dropLast j y)) (o:= .lst (fe vs.dropLast j yv)) q h1 trivial rfl (.lst (.inl au) (rp2.gen (λb o hb w=>by
      have:b≠a:=by
       rintro rfl
       rcases w with w|w
       ·exact w.2 i (by rw[q];trivial) h1
       ·rw[hH2] at hb;cases hb;exact w
      rw[az this];exact hb) λ_ f _=>f))
     exact k σ _ E3 ((Stp.of_same s2).trans p3)
   ·cases e
  ·cases e
 ·cases e
end
structure qz(K:aa)(Bad:Addr→Prop)(env:Env)(σ:St)(H:Hp)(i:Nat)(p:Addr)(as:List Addr)(rows:List (List D)):Prop where
 at_:σ[i]? =some (some (.ref p))
 hid:env[i]? =some none
 top:H p=some (.lst (as.map V.ref))
 nd:(p::as).Nodup
 len:as.length=rows.length
 row:∀(k:Nat) a ds,as[k]? =some a→rows[k]? =some ds→∃vs,H a=some (.lst vs)∧aq K (Cln Bad env σ) H ds vs
 bad:∀b∈p::as,Bad b
structure BQ(as:List Addr)(env:Env)(σ:St)(H:Hp)(env' :Env)(σ' :St)(H' :Hp):Prop where
 keep:∀b o,H b=some o→¬Ow env σ b→b∉as→H' b=some o
 ow:∀b,Ow env' σ' b→Ow env σ b∨H b=none
 lk:∀i:Nat,nC env'[i]? →env'[i]? =env[i]? ∧σ'[i]? =σ[i]?
 th:∀b∈as,H' b≠none
section
variable{K:aa}{H₀ H H' H1:Hp}{Bad Bad' :Addr→Prop}{env env' :Env}{σ σ' :St}{d:D}{v:V}{a p:Addr}{i j:Nat}{as:List Addr}{rows:List (List D)}
theorem qz.mono(N:qz K Bad env σ H i p as rows)(s:b8 H H'):qz K Bad env σ H' i p as rows where
 at_:=N.at_
 hid:=N.hid
 top:=s _ _ N.top
 nd:=N.nd
 len:=N.len
 row:=λk a ds h1 h2=>let⟨vs,h3,h4⟩:=N.row k a ds h1 h2;⟨vs,s _ _ h3,h4.gen (.of_same s) λ_ f _=>f⟩
 bad:=N.bad
theorem vd{b:Addr}(h:Cln Bad env σ b):Cln Bad (env.set j (some (.sh d))) (σ.set j (some v)) b:=⟨h.1,λk t e=>by
 obtain⟨q,t⟩:=d0 t
 rw[Gah q] at e
 exact h.2 k t e⟩
theorem qz.mi(N:qz K Bad env σ H i p as rows)(hij:i≠j):qz K Bad (env.set j (some (.sh d))) (σ.set j (some v)) H i p as rows where
 at_:=by rw[Gah (Gba hij)];exact N.at_
 hid:=by rw[Gah (Gba hij)];exact N.hid
 top:=N.top
 nd:=N.nd
 len:=N.len
 row:=λk a ds h1 h2=>let⟨vs,h3,h4⟩:=N.row k a ds h1 h2;⟨vs,h3,h4.gen (.of_same λ_ _ e=>e) λ_ f _=>vd f⟩
 bad:=N.bad
theorem qz.there(N:qz K Bad env σ H i p as rows):∀b∈as,H b≠none:=λb hb=>by
 obtain⟨k,hk⟩:=GbO.mp hb
 have hk' :k<rows.length:=by rw[←N.len];exact(Gaf.mp hk).1
 obtain⟨vs,h,_⟩:=N.row k b rows[k] hk (Gac hk')
 rw[h];simp
theorem BQ.trans{e1 e2 e3:Env}{s1 s2 s3:St}{H1 H2 H3:Hp}(a:BQ as e1 s1 H1 e2 s2 H2)(b:BQ as e2 s2 H2 e3 s3 H3):BQ as e1 s1 H1 e3 s3 H3:=by
 refine⟨λc o e n na=>b.keep c o (a.keep c o e n na) (λh=> ?_) na,λc h=> ?_,λi h=> ?_,b.th⟩
 ·rcases a.ow c h with q|q
  ·exact n q
  ·rw[e] at q;cases q
 ·rcases b.ow c h with q|q
  ·exact a.ow c q
  ·by_cases z:Ow e1 s1 c
   ·exact .inl z
   ·right
    cases e:H1 c with
    |none=>rfl
    |some o=>
     by_cases m:c∈as
     ·exact absurd q (a.th c m)
     ·rw[a.keep c o e z m] at q;cases q
 ·obtain⟨h1,h2⟩:=b.lk i h
  rw[h1] at h
  obtain⟨h3,h4⟩:=a.lk i h
  exact⟨h1.trans h3,h2.trans h4⟩
end
open PySem PyProof.Rows
noncomputable abbrev SM:=StateT SortSt Sem
noncomputable def gz:Bool→Keyed→Array Keyed→Nat→Nat→Nat→SM (Option Nat):=sortPriv%PySem.Builtin.gallop
noncomputable def BR(far:Nat→SM (Option Bool))(n l0 r0:Nat):SM (Option Nat):=do
 let mut lo:=l0
 let mut hi:=r0
 for _ in [0:n] do
  if lo≥hi then break
  let md:=lo+(hi -lo)/2
  let some mo←far md|return none
  if mo then lo:=md+1 else hi:=md
 return some hi
noncomputable def DH(far:Nat→SM (Option Bool))(n h0:Nat):SM (Option Nat):=do
 let some rt←far h0|return none
 if rt then
  let mut lst:=0
  let mut nxt:=1
  for _ in [0:n] do
   if nxt≥n -h0 then break
   let some mo←far (h0+nxt)|return none
   if !mo then break
   lst:=nxt
   nxt:=2*nxt+1
  BR far n (h0+lst+1) (h0+min nxt (n -h0))
 else
  let mut lst:=0
  let mut nxt:=1
  for _ in [0:n] do
   if nxt≥h0+1 then break
   let some fd←far (h0 -nxt)|return none
   if fd then break
   lst:=nxt
   nxt:=2*nxt+1
  BR far n (h0+1 -min nxt (h0+1)) (h0 -lst)
noncomputable def CA(lf:Bool)(kx:Keyed)(xs:Array Keyed)(b0 u:Nat):SM (Option Bool):=do
 let y←elem' xs (b0+u)
 if lf then lt' y kx else return(←lt' kx y).map (!·)
theorem A8(lf:Bool)(kx:Keyed)(xs:Array Keyed)(b0 n h0:Nat):gz lf kx xs b0 n h0=DH (CA lf kx xs b0) n h0:=rfl
section
variable{M:Model}{A:Around}{E:Value→Shared→Prop}{s:Shared}{st:SortSt}{far:Nat→SM (Option Bool)}{n:Nat}{B:Nat→Bool}{Q:Option Nat→SortSt→Prop}
noncomputable def Cut(B:Nat→Bool)(n k:Nat):Prop:=k≤n∧(∀u,u<k→B u=true)∧∀u,k≤u→u<n→B u=false
theorem u3{lo hi:Nat}(hf:∀u,u<n→∀R:Option Bool→SortSt→Prop,R (some (B u)) st→wpS M A E s (far u) R st)(mB:∀u v,u≤v→v<n→B v=true→B u=true)(h1:lo≤hi)(h2:hi≤n)
  (hlo:∀u,u<lo→B u=true)(hhi:∀u,hi≤u→u<n→B u=false)(h:∀k,Cut B n k→Q (some k) st):wpS M A E s (BR far n lo hi) Q st:=by
 unfold BR
 refine Gal (GbI (Gbr (I:=λi c z=>z=st∧∃lo hi,c=(none,lo,hi)∧lo≤hi∧hi≤n∧hi -lo≤n -i∧(∀u,u<lo→B u=true)∧(∀u,hi≤u→u<n→B u=false))
  (Q:=λc z=>z=st∧∃lo hi,c=(none,lo,hi)∧Cut B n hi) ?step ?fin ⟨rfl,lo,hi,rfl,h1,h2,by omega,hlo,hhi⟩) ?post)
 case fin=>
  rintro c z ⟨rfl,lo,hi,rfl,q1,q2,q3,q4,q5⟩
  have:lo=hi:=by
   have:max 0 n=n:=by omega
   omega
  subst this
  exact⟨rfl,_,_,rfl,q2,q4,q5⟩
 case step=>
  rintro i c z _ hi' ⟨rfl,lo,hi,rfl,q1,q2,q3,q4,q5⟩
  dsimp only
  by_cases g:lo≥hi
  ·rw[Gag g]
   have:lo=hi:=by omega
   subst this
   exact Gaw ⟨rfl,_,_,rfl,q2,q4,q5⟩
  ·rw[Gae g]
   refine Gal (hf _ (by omega) _ ?_)
   dsimp only
   cases b:B (lo+(hi -lo)/2) with
   |true=>
    simp only[Gbf]
    exact Gaw ⟨rfl,_,_,rfl,by omega,q2,by omega,λu hu=>mB u _ (by omega) (by omega) b,q5⟩
   |false=>
    simp only[Gai,GaB]
    refine Gaw ⟨rfl,_,_,rfl,by omega,by omega,by omega,q4,λu hu hn=> ?_⟩
    cases b' :B u with
    |false=>rfl
    |true=>rw[mB _ u hu hn b'] at b;cases b
 case post=>
  rintro c z ⟨rfl,lo,hi,rfl,q⟩
  exact Gaw (h hi q)
theorem BS{h0:Nat}(hf:∀u,u<n→∀R:Option Bool→SortSt→Prop,R (some (B u)) st→wpS M A E s (far u) R st)(mB:∀u v,u≤v→v<n→B v=true→B u=true)(hh:h0<n)
  (h:∀k,Cut B n k→Q (some k) st):wpS M A E s (DH far n h0) Q st:=by
 unfold DH
 refine Gal (hf _ hh _ ?_)
 dsimp only
 cases b:B h0 with
 |true=>
  simp only[Gbf]
  refine Gal (GbI (Gbr (I:=λi c z=>z=st∧∃l o,c=(none,l,o)∧l<o∧l<n -h0∧i+1≤o∧B (h0+l)=true)
   (Q:=λc z=>z=st∧∃l o,c=(none,l,o)∧l<o∧l<n -h0∧B (h0+l)=true∧(o≥n -h0∨B (h0+o)=false)) ?step ?fin ⟨rfl,0,1,rfl,by omega,by omega,by omega,b⟩) ?post)
  case fin=>
   rintro c z ⟨rfl,l,o,rfl,q1,q2,q3,q4⟩
   exact⟨rfl,l,o,rfl,q1,q2,q4,.inl (by omega)⟩
  case step=>
   rintro i c z _ hi' ⟨rfl,l,o,rfl,q1,q2,q3,q4⟩
   dsimp only
   by_cases g:o≥n -h0
   ·rw[Gag g]
    exact Gaw ⟨rfl,l,o,rfl,q1,q2,q4,.inl g⟩
   ·rw[Gae g]
    refine Gal (hf _ (by omega) _ ?_)
    dsimp only
    cases b' :B (h0+o) with
    |false=>
     simp only[Bool.not_false,Gbf]
     exact Gaw ⟨rfl,l,o,rfl,q1,q2,q4,.inr b'⟩
    |true=>
     simp only[GbT,Gai,GaB]
     exact Gaw ⟨rfl,o,2*o+1,rfl,by omega,by omega,by omega,b'⟩
  case post=>
   rintro c z ⟨rfl,l,o,rfl,q1,q2,q3,q4⟩
   dsimp only
   refine u3 hf mB (by omega) (by omega) (λu hu=>mB u (h0+l) (by omega) (by omega) q3) (λu hu hn=> ?_) h
   rcases q4 with q4|q4
   ·omega
   ·by_cases w:o≥n -h0
    ·omega
    ·cases b' :B u with
     |false=>rfl
     |true=>rw[mB (h0+o) u (by omega) hn b'] at q4;cases q4
 |false=>
  simp only[Gai,GaB]
  refine Gal (GbI (Gbr (I:=λi c z=>z=st∧∃l o,c=(none,l,o)∧l<o∧l<h0+1∧i+1≤o∧B (h0 -l)=false)
   (Q:=λc z=>z=st∧∃l o,c=(none,l,o)∧l<o∧l<h0+1∧B (h0 -l)=false∧(o≥h0+1∨B (h0 -o)=true)) ?step ?fin ⟨rfl,0,1,rfl,by omega,by omega,by omega,b⟩) ?post)
  case fin=>
   rintro c z ⟨rfl,l,o,rfl,q1,q2,q3,q4⟩
   exact⟨rfl,l,o,rfl,q1,q2,q4,.inl (by omega)⟩
  case step=>
   rintro i c z _ hi' ⟨rfl,l,o,rfl,q1,q2,q3,q4⟩
   dsimp only
   by_cases g:o≥h0+1
   ·rw[Gag g]
    exact Gaw ⟨rfl,l,o,rfl,q1,q2,q4,.inl g⟩
   ·rw[Gae g]
    refine Gal (hf _ (by omega) _ ?_)
    dsimp only
    cases b' :B (h0 -o) with
    |true=>
     simp only[Gbf]
     exact Gaw ⟨rfl,l,o,rfl,q1,q2,q4,.inr b'⟩
    |false=>
     simp only[Gai,GaB]
     exact Gaw ⟨rfl,o,2*o+1,rfl,by omega,by omega,by omega,b'⟩
  case post=>
   rintro c z ⟨rfl,l,o,rfl,q1,q2,q3,q4⟩
   dsimp only
   refine u3 hf mB (by omega) (by omega) (λu hu=> ?_) (λu hu hn=> ?_) h
   ·rcases q4 with q4|q4
    ·omega
    ·by_cases w:o≥h0+1
     ·omega
     ·exact mB u (h0 -o) (by omega) (by omega) q4
   ·cases b' :B u with
    |false=>rfl
    |true=>rw[mB (h0 -l) u (by omega) hn b'] at q3;cases q3
end
open PySem.W (kas_item)
noncomputable def mO:Nat→SM Unit:=sortPriv%PySem.Builtin.setMinGallop
theorem ju(g:Nat):mO g=modify (λz=>SortSt.mk' (kindOf z) (arrOf z) (pendingOf z) g (failedOf z)):=rfl
noncomputable def Srt(rk:Nat→Int)(p:List Nat):Prop:=p.Pairwise λx y=>rk x≤rk y
noncomputable def dq(prog:Program)(w:World)(A:Around)(s:Shared)(κ:SortKind)(it:Array Keyed)(rk:Nat→Int):Prop:=
 ∀i j,i<it.size→j<it.size→∀C:Bool→Shared→Prop,C (decide (rk i<rk j)) s→wpAny (model prog w) A (keyLt' κ (kas_item it i).1 (kas_item it j).1) C (λ_ _=>False) s
noncomputable def aO(it:Array Keyed)(a:Array Keyed)(p:List Nat):Prop:=a=(p.map (kas_item it)).toArray∧∀i∈p,i<it.size
noncomputable def bR(z z' :SortSt):Prop:=kindOf z' =kindOf z∧arrOf z' =arrOf z∧pendingOf z' =pendingOf z∧failedOf z' =failedOf z
theorem bR.refl{z:SortSt}:bR z z:=⟨rfl,rfl,rfl,rfl⟩
theorem bR.trans{x y z:SortSt}(a:bR x y)(b:bR y z):bR x z:=⟨b.1.trans a.1,b.2.1.trans a.2.1,b.2.2.1.trans a.2.2.1,b.2.2.2.trans a.2.2.2⟩
section
variable{it:Array Keyed}{a b:Array Keyed}{p q:List Nat}
theorem aO.size(R:aO it a p):a.size=p.length:=by rw[R.1];simp
theorem aO.get{k i:Nat}(R:aO it a p)(h:p[k]? =some i):a[k]? =some (kas_item it i):=by rw[R.1];simp[h]
theorem aO.lt{k i:Nat}(R:aO it a p)(h:p[k]? =some i):i<it.size:=R.2 i (GaO h)
theorem aO.push{i:Nat}(R:aO it a p)(hi:i<it.size):aO it (a.push (kas_item it i)) (p++[i]):=⟨by rw[R.1];simp,λj hj=>by
 rcases GaQ.mp hj with h|h
 ·exact R.2 j h
 ·simp at h;subst h;exact hi⟩
theorem aO.append(R:aO it a p)(S:aO it b q):aO it (a++b) (p++q):=⟨by rw[R.1,S.1];simp,λj hj=>(GaQ.mp hj).elim (R.2 j) (S.2 j)⟩
theorem aO.sub(R:aO it a p){l:List Nat}(h:∀x∈l,x∈p){c:Array Keyed}(e:c=(l.map (kas_item it)).toArray):aO it c l:=⟨e,λj hj=>R.2 j (h j hj)⟩
theorem aO.extract(R:aO it a p)(i j:Nat):aO it (a.extract i j) ((p.drop i).take (j -i)):=by
 refine R.sub (λx hx=>GbX (Gbz hx)) ?_
 apply Gcc.mp
 rw[R.1]
 simp[List.map_take,List.map_drop,List.extract_eq_take_drop]
theorem aO.drop(R:aO it a p)(i:Nat):aO it (a.extract i a.size) (p.drop i):=by
 have:=R.extract i a.size
 rw[R.size,GcA (by simp)] at this
 rw[R.size];exact this
theorem aO.reverse(R:aO it a p):aO it a.reverse p.reverse:=by
 refine R.sub (λx hx=>Gch.mp hx) ?_
 rw[R.1];simp
end
section
variable{prog:Program}{w:World}{A:Around}{E:Value→Shared→Prop}{s:Shared}{st:SortSt}{κ:SortKind}{it:Array Keyed}{rk:Nat→Int}
theorem qA{i j:Nat}{Q:Option Bool→SortSt→Prop}(hA:dq prog w A s κ it rk)(hk:kindOf st=κ)(hi:i<it.size)(hj:j<it.size)(h:Q (some (decide (rk i<rk j))) st):wpS (model prog w) A E s (lt' (kas_item it i) (kas_item it j)) Q st:=by
 rw[lt'_eq]
 refine Gal (Gdo ?_)
 rw[hk]
 refine Gal (wpS_lift (GcY (GbU (hA i j hi hj (λb z=>z=s∧b=decide (rk i<rk j)) ⟨rfl,rfl⟩) (λb z hb=> ⟨hb.1, ?_⟩) λ_ _ f=>f.elim)))
 rw[hb.2]
 exact Gaw h
theorem aU{a:Array Keyed}{p:List Nat}{k i:Nat}{Q:Keyed→SortSt→Prop}(R:aO it a p)(hk:p[k]? =some i)(h:Q (kas_item it i) st):wpS (model prog w) A E s (elem' a k) Q st:=by
 rw[elem'_eq,R.get hk]
 exact Gaw h
theorem lK{l:List Nat}(h:Srt rk l):∀{u v x y:Nat},u≤v→l[u]? =some x→l[v]? =some y→rk x≤rk y:=by
 intro u v x y huv hx hy
 rcases Gbb u v with c|c
 ·obtain⟨h1,rfl⟩:=Gaf.mp hx
  obtain⟨h2,rfl⟩:=Gaf.mp hy
  exact Gck.mp h u v h1 h2 c
 ·have:u=v:=by omega
  subst this
  rw[hx] at hy;cases hy;exact Gbn _
theorem ke{lf:Bool}{xs:Array Keyed}{ps:List Nat}{ik b0 n h0:Nat}{Q:Option Nat→SortSt→Prop}(hA:dq prog w A s κ it rk)(hk:kindOf st=κ)(R:aO it xs ps)(hi:ik<it.size)(hn:b0+n≤ps.length)(hs:Srt rk ((ps.drop b0).take n))(hh:h0<n)
  (h:∀k,k≤n→(∀x∈((ps.drop b0).take n).take k,if lf=true then rk x<rk ik else rk x≤rk ik)→(∀x∈((ps.drop b0).take n).drop k,if lf=true then rk ik≤rk x else rk ik<rk x)→Q (some k) st):
  wpS (model prog w) A E s (gz lf (kas_item it ik) xs b0 n h0) Q st:=by
 rw[A8]
 have len:((ps.drop b0).take n).length=n:=by simp;omega
 have at_:∀u,u<n→∃x,((ps.drop b0).take n)[u]? =some x∧ps[b0+u]? =some x:=λu hu=>by
  have h1:u<((ps.drop b0).take n).length:=by rw[len];exact hu
  refine⟨((ps.drop b0).take n)[u],Gac h1, ?_⟩
  have:=Gac h1
  rw[GaP hu,Gbd] at this
  exact this
 have fin:∀B:Nat→Bool,(∀u x,((ps.drop b0).take n)[u]? =some x→B u=if lf=true then decide (rk x<rk ik) else !decide (rk ik<rk x))→∀k,Cut B n k→Q (some k) st:=by
  intro B hB k ⟨c1,c2,c3⟩
  refine h k c1 (λx hx=> ?_) (λx hx=> ?_)
  ·obtain⟨u,hu⟩:=GbO.mp hx
   have hu' :u<k:=by have:=(Gaf.mp hu).1;simp at this;omega
   rw[GaP hu'] at hu
   have b:=c2 u hu'
   rw[hB u x hu] at b
   cases lf with
   |true=>simpa using b
   |false=>simpa using b
  ·obtain⟨u,hu⟩:=GbO.mp hx
   rw[Gbd] at hu
   have hu' :k+u<n:=by have:=(Gaf.mp hu).1;rw[len] at this;exact this
   have b:=c3 (k+u) (by omega) hu'
   rw[hB _ x hu] at b
   cases lf with
   |true=>simpa using b
   |false=>simpa using b
 refine BS (B:=λu=>if lf=true then decide (rk (((ps.drop b0).take n).getD u 0)<rk ik) else !decide (rk ik<rk (((ps.drop b0).take n).getD u 0))) (λu hu R' hR=> ?_) (λu v huv hv b=> ?_) hh (fin _ λu x hx=>by simp[List.getD,hx])
 ·obtain⟨x,h1,h2⟩:=at_ u hu
  have e:((ps.drop b0).take n).getD u 0=x:=by simp[List.getD,h1]
  simp only[e] at hR
  unfold CA
  refine Gal (aU R h2 ?_)
  cases lf with
  |true=>
   simp only[Gbf] at hR⊢
   exact qA hA hk (R.lt h2) hi hR
  |false=>
   simp only[Gai,GaB] at hR⊢
   exact Gal (qA hA hk hi (R.lt h2) (Gaw hR))
 ·obtain⟨x,h1,_⟩:=at_ u (by omega)
  obtain⟨y,h2,_⟩:=at_ v hv
  have e1:((ps.drop b0).take n).getD u 0=x:=by simp[List.getD,h1]
  have e2:((ps.drop b0).take n).getD v 0=y:=by simp[List.getD,h2]
  have le:=lK hs huv h1 h2
  simp only[e1,e2] at b⊢
  cases lf with
  |true=>simp at b⊢;omega
  |false=>simp at b⊢;omega
end
noncomputable def DJ:Array Keyed→Array Keyed→SM (Array Keyed):=sortPriv%PySem.Builtin.mergeLo
theorem BU(a b:Array Keyed):DJ a b=(do
 rule "list.sort.merge-lo"
 let tot:=a.size+b.size
 let fin (o:Array Keyed) (u v:Nat):=o++a.extract u a.size++b.extract v b.size
 let las (o:Array Keyed) (u v:Nat):=o++b.extract v b.size++a.extract u a.size
 let mut o:Array Keyed:=#[←elem' b 0]
 let mut u:=0
 let mut v:=1
 if v==b.size then return fin o u v
 if u+1==a.size then return las o u v
 let mut mg:=gallopOf (←get)
 for _ in [0:tot] do
  let mut ca:=0
  let mut cb:=0
  for _ in [0:tot] do
   let some w←lt' (←elem' b v) (←elem' a u)|return fin o u v
   if w then
    o:=o.push (←elem' b v);v:=v+1;cb:=cb+1;ca:=0
    if v==b.size then return fin o u v
    if cb≥mg then break
   else
    o:=o.push (←elem' a u);u:=u+1;ca:=ca+1;cb:=0
    if u+1==a.size then return las o u v
    if ca≥mg then break
  rule "list.sort.gallop"
  mg:=mg+1
  for _ in [0:tot] do
   if mg>1 then mg:=mg -1
   mO mg
   let some k←gz false (←elem' b v) a u (a.size -u) 0|return fin o u v
   ca:=k
   if k>0 then
    o:=o++a.extract u (u+k);u:=u+k
    if u+1==a.size then return las o u v
    if u==a.size then return fin o u v
   o:=o.push (←elem' b v);v:=v+1
   if v==b.size then return fin o u v
   let some k←gz true (←elem' a u) b v (b.size -v) 0|return fin o u v
   cb:=k
   if k>0 then
    o:=o++b.extract v (v+k);v:=v+k
    if v==b.size then return fin o u v
   o:=o.push (←elem' a u);u:=u+1
   if u+1==a.size then return las o u v
   if ca<7&&cb<7 then break
  mg:=mg+1
  mO mg
 unsupported "internal:list.sort.merge-bound"):=rfl
noncomputable abbrev sC:=Option (Array Keyed)×Array Keyed×Nat×Nat×Nat×Nat×Nat
noncomputable def loC(a b:Array Keyed)(mg ca cb:Nat)(o:Array Keyed)(u v:Nat):SM (ForInStep sC):=do
 let e←elem' a u
 if(u+1+1==a.size)=true then pure (.done (some (o.push e++b.extract v b.size++a.extract (u+1) a.size),o.push e,u+1,v,mg,ca,cb))
 else if(decide (ca<7)&&decide (cb<7))=true then pure (.done (none,o.push e,u+1,v,mg,ca,cb))
 else pure (.yield (none,o.push e,u+1,v,mg,ca,cb))
noncomputable def loB(a b:Array Keyed)(mg ca cb:Nat)(o:Array Keyed)(u v:Nat):SM (ForInStep sC):=do
 let e←elem' b v
 if(v+1==b.size)=true then pure (.done (some (o.push e++a.extract u a.size++b.extract (v+1) b.size),o.push e,u,v+1,mg,ca,cb))
 else do
  let e2←elem' a u
  let f←gz true e2 b (v+1) (b.size -(v+1)) 0
  match f with
  |some k=>
   if k>0 then
    if(v+1+k==b.size)=true then pure (.done (some (o.push e++b.extract (v+1) (v+1+k)++a.extract u a.size++b.extract (v+1+k) b.size),o.push e++b.extract (v+1) (v+1+k),u,v+1+k,mg,ca,k))
    else loC a b mg ca k (o.push e++b.extract (v+1) (v+1+k)) u (v+1+k)
   else loC a b mg ca k (o.push e) u (v+1)
  |_=>pure (.done (some (o.push e++a.extract u a.size++b.extract (v+1) b.size),o.push e,u,v+1,mg,ca,cb))
noncomputable def loA(a b:Array Keyed)(mg ca cb:Nat)(o:Array Keyed)(u v:Nat):SM (ForInStep sC):=do
 mO mg
 let e←elem' b v
 let f←gz false e a u (a.size -u) 0
 match f with
 |some k=>
  if k>0 then
   if(u+k+1==a.size)=true then pure (.done (some (o++a.extract u (u+k)++b.extract v b.size++a.extract (u+k) a.size),o++a.extract u (u+k),u+k,v,mg,k,cb))
   else if(u+k==a.size)=true then pure (.done (some (o++a.extract u (u+k)++a.extract (u+k) a.size++b.extract v b.size),o++a.extract u (u+k),u+k,v,mg,k,cb))
   else loB a b mg k cb (o++a.extract u (u+k)) (u+k) v
  else loB a b mg k cb o u v
 |_=>pure (.done (some (o++a.extract u a.size++b.extract v b.size),o,u,v,mg,ca,cb))
structure LoI(rk:Nat→Int)(p q o:List Nat)(u v:Nat):Prop where
 pm:o.Perm (p.take u++q.take v)
 so:Srt rk o
 oa:∀x∈o,∀y∈p.drop u,rk x≤rk y
 ob:∀x∈o,∀y∈q.drop v,rk x≤rk y
section
variable{rk:Nat→Int}{p q o:List Nat}{u v k:Nat}
theorem bW{l m:List Nat}(h:Srt rk l)(h2:Srt rk m)(h3:∀x∈l,∀y∈m,rk x≤rk y):Srt rk (l++m):=List.pairwise_append.mpr ⟨h,h2,h3⟩
theorem cq{l:List Nat}(h:Srt rk l)(n:Nat):Srt rk (l.drop n):=h.sublist (List.drop_sublist _ _)
theorem cR{l:List Nat}(h:Srt rk l)(n:Nat):Srt rk (l.take n):=h.sublist (List.take_sublist _ _)
theorem lL{l:List Nat}(h:Srt rk l)(n:Nat):∀x∈l.take n,∀y∈l.drop n,rk x≤rk y:=by
 have:=h
 rw[←Gbe n l] at this
 exact(List.pairwise_append.mp this).2.2
theorem ve{l:List Nat}{n k:Nat}{x:Nat}(h:x∈l.drop (n+k)):x∈l.drop n:=by
 rw[←Gci] at h
 exact GbX h
theorem LoI.sD(I:LoI rk p q o u v)(sp:Srt rk p)(h:∀x∈(p.drop u).take k,∀y∈q.drop v,rk x≤rk y):LoI rk p q (o++(p.drop u).take k) (u+k) v:=by
 refine⟨?_,bW I.so (cR (cq sp u) k) λx hx y hy=>I.oa x hx y (Gbz hy),λx hx y hy=> ?_,λx hx y hy=> ?_⟩
 ·rw[List.take_add]
  refine(I.pm.append_right _).trans ?_
  rw[GaF,GaF]
  exact Gbm.append_left _
 ·rcases GaQ.mp hx with hx|hx
  ·exact I.oa x hx y (ve hy)
  ·rw[←Gci] at hy
   exact lL (cq sp u) k x hx y hy
 ·rcases GaQ.mp hx with hx|hx
  ·exact I.ob x hx y hy
  ·exact h x hx y hy
theorem LoI.swap(I:LoI rk p q o u v):LoI rk q p o v u:=⟨I.pm.trans Gbm,I.so,I.ob,I.oa⟩
theorem LoI.DK(I:LoI rk p q o u v)(sq:Srt rk q)(h:∀x∈(q.drop v).take k,∀y∈p.drop u,rk x≤rk y):LoI rk p q (o++(q.drop v).take k) u (v+k):=(I.swap.sD sq h).swap
theorem take1{l:List Nat}{n x:Nat}(h:l[n]? =some x):(l.drop n).take 1=[x]:=by
 obtain⟨h1,rfl⟩:=Gaf.mp h
 rw[GbL h1]
 rfl
theorem LoI.mP{x:Nat}(I:LoI rk p q o u v)(sp:Srt rk p)(hx:p[u]? =some x)(h:∀y∈q.drop v,rk x≤rk y):LoI rk p q (o++[x]) (u+1) v:=by
 have:=I.sD (k:=1) sp (by rw[take1 hx];intro z hz;simp at hz;subst hz;exact h)
 rw[take1 hx] at this
 exact this
theorem LoI.qB{x:Nat}(I:LoI rk p q o u v)(sq:Srt rk q)(hx:q[v]? =some x)(h:∀y∈p.drop u,rk x≤rk y):LoI rk p q (o++[x]) u (v+1):=(I.swap.mP sq hx h).swap
theorem LoI.done(I:LoI rk p q o u v)(sp:Srt rk p)(sq:Srt rk q)(h:v=q.length∨u=p.length):(o++p.drop u++q.drop v).Perm (p++q)∧Srt rk (o++p.drop u++q.drop v):=by
 constructor
 ·refine(GbC _ (GbC _ I.pm)).trans ?_
  have e:p++q=(p.take u++p.drop u)++(q.take v++q.drop v):=by rw[Gbe,Gbe]
  rw[e,GaF,GaF,GaF]
  refine Gcj _ ?_
  rw[←GaF,←GaF]
  exact GbC _ Gbm
 ·rcases h with rfl|rfl
  ·rw[GcP,Gca]
   exact bW I.so (cq sp u) I.oa
  ·rw[GcP,Gca]
   exact bW I.so (cq sq v) I.ob
theorem LoI.last(I:LoI rk p q o u v)(sq:Srt rk q)(h:u+1=p.length)(hl:∀x,p[u]? =some x→∀y∈q,rk y≤rk x):(o++q.drop v++p.drop u).Perm (p++q)∧Srt rk (o++q.drop v++p.drop u):=by
 have hu:u<p.length:=by omega
 have e:p.drop u=[p[u]]:=by rw[GbL hu,h,GcP]
 constructor
 ·have pm:=I.pm
  refine(GbC _ (GbC _ pm)).trans ?_
  rw[GaF,GaF,←GaF (List.take v q),Gbe]
  refine(Gcj _ Gbm).trans ?_
  rw[←GaF,Gbe]
 ·refine bW (bW I.so (cq sq v) I.ob) (by rw[e];exact GbY _ _) λx hx y hy=> ?_
  rw[e] at hy
  simp at hy
  subst hy
  rcases GaQ.mp hx with hx|hx
  ·exact I.oa x hx _ (by rw[e];simp)
  ·exact hl _ (Gac hu) x (GbX hx)
end
section
variable{prog:Program}{w:World}{A:Around}{E:Value→Shared→Prop}{s:Shared}{st:SortSt}{κ:SortKind}{it:Array Keyed}{rk:Nat→Int}{a b:Array Keyed}{p q:List Nat}
noncomputable def da(it:Array Keyed)(rk:Nat→Int)(p q:List Nat)(r:Array Keyed):Prop:=∃l,aO it r l∧l.Perm (p++q)∧Srt rk l
theorem iq{l:List Nat}{x y n:Nat}(h:Srt rk l)(hx:l[n]? =some x)(hy:y∈l.drop n):rk x≤rk y:=by
 obtain⟨k,hk⟩:=GbO.mp hy
 rw[Gbd] at hk
 exact lK h (by omega) hx hk
structure LoP(it:Array Keyed)(rk:Nat→Int)(p q:List Nat)(o:Array Keyed)(u v:Nat):Prop where
 ex:∃l,aO it o l∧LoI rk p q l u v
 bu:u+1<p.length
 bv:v<q.length
noncomputable def u4(it:Array Keyed)(rk:Nat→Int)(p q:List Nat)(N:Nat):ForInStep sC→Prop
 | .done c=>(∃r t,c=(some r,t)∧da it rk p q r)∨∃o u v mg ca cb,c=(none,o,u,v,mg,ca,cb)∧LoP it rk p q o u v∧N≤u+v
 | .yield c=>∃o u v mg ca cb,c=(none,o,u,v,mg,ca,cb)∧LoP it rk p q o u v∧N≤u+v
structure LoX(prog:Program)(w:World)(A:Around)(s:Shared)(κ:SortKind)(it:Array Keyed)(rk:Nat→Int)(a b:Array Keyed)(p q:List Nat):Prop where
 hA:dq prog w A s κ it rk
 Ra:aO it a p
 Rb:aO it b q
 sp:Srt rk p
 sq:Srt rk q
 hl:∀x,p[p.length -1]? =some x→∀y∈q,rk y≤rk x
theorem LoX.done{o:Array Keyed}{l:List Nat}{u v:Nat}(X:LoX prog w A s κ it rk a b p q)(Ro:aO it o l)(I:LoI rk p q l u v)(hh:v=q.length∨u=p.length):da it rk p q (o++a.extract u a.size++b.extract v b.size):=
 ⟨_,(Ro.append (X.Ra.drop _)).append (X.Rb.drop _),(I.done X.sp X.sq hh).1,(I.done X.sp X.sq hh).2⟩
theorem LoX.last{o:Array Keyed}{l:List Nat}{u v:Nat}(X:LoX prog w A s κ it rk a b p q)(Ro:aO it o l)(I:LoI rk p q l u v)(hh:u+1=p.length):da it rk p q (o++b.extract v b.size++a.extract u a.size):=by
 have hl' :∀x,p[u]? =some x→∀y∈q,rk y≤rk x:=by
  have:=X.hl
  rw[show p.length -1=u by omega] at this;exact this
 exact⟨_,(Ro.append (X.Rb.drop _)).append (X.Ra.drop _),(I.last X.sq hh hl').1,(I.last X.sq hh hl').2⟩
theorem A9{mg ca cb u v N:Nat}{o:Array Keyed}{l:List Nat}{R:ForInStep sC→SortSt→Prop}(X:LoX prog w A s κ it rk a b p q)(Ro:aO it o l)(I:LoI rk p q l u v)(bu:u+1<p.length)(bv:v<q.length)
  (hx:∀x,p[u]? =some x→∀y∈q.drop v,rk x≤rk y)(hN:N≤u+v+1)(h:∀r,u4 it rk p q N r→R r st):wpS (model prog w) A E s (loC a b mg ca cb o u v) R st:=by
 have sza:=X.Ra.size
 unfold loC
 obtain⟨x,ex⟩:∃x,p[u]? =some x:=⟨_,Gac (by omega)⟩
 refine Gal (aU X.Ra ex ?_)
 have I' :=I.mP X.sp ex (hx x ex)
 have Ro' :=Ro.push (X.Ra.lt ex)
 by_cases e:(u+1+1==a.size)=true
 ·rw[Gag e]
  have:u+1+1=a.size:=by simpa using e
  exact Gaw (h _ (.inl ⟨_,_,rfl,X.last Ro' I' (by omega)⟩))
 ·rw[Gae e]
  have e' :u+1+1≠a.size:=by simpa using e
  by_cases e2:(decide (ca<7)&&decide (cb<7))=true
  ·rw[Gag e2]
   exact Gaw (h _ (.inr ⟨_,_,_,_,_,_,rfl,⟨⟨_,Ro',I'⟩,by omega,bv⟩,by omega⟩))
  ·rw[Gae e2]
   exact Gaw (h _ ⟨_,_,_,_,_,_,rfl,⟨⟨_,Ro',I'⟩,by omega,bv⟩,by omega⟩)
theorem Aa{mg ca cb u v N:Nat}{o:Array Keyed}{l:List Nat}{R:ForInStep sC→SortSt→Prop}(X:LoX prog w A s κ it rk a b p q)(hk:kindOf st=κ)(Ro:aO it o l)(I:LoI rk p q l u v)(bu:u+1<p.length)(bv:v<q.length)
  (hx:∀x,q[v]? =some x→∀y∈p.drop u,rk x≤rk y)(hN:N≤u+v+2)(h:∀r,u4 it rk p q N r→R r st):wpS (model prog w) A E s (loB a b mg ca cb o u v) R st:=by
 have szb:=X.Rb.size
 unfold loB
 obtain⟨y,ey⟩:∃x,q[v]? =some x:=⟨_,Gac bv⟩
 obtain⟨x,ex⟩:∃x,p[u]? =some x:=⟨_,Gac (by omega)⟩
 refine Gal (aU X.Rb ey ?_)
 have I1:=I.qB X.sq ey (hx y ey)
 have Ro1:=Ro.push (X.Rb.lt ey)
 by_cases e:(v+1==b.size)=true
 ·rw[Gag e]
  have:v+1=b.size:=by simpa using e
  exact Gaw (h _ (.inl ⟨_,_,rfl,X.done Ro1 I1 (.inl (by omega))⟩))
 rw[Gae e]
 have e' :v+1≠b.size:=by simpa using e
 refine Gal (aU X.Ra ex ?_)
 have full:(q.drop (v+1)).take (b.size -(v+1))=q.drop (v+1):=GcA (by simp;omega)
 refine Gal (ke X.hA hk X.Rb (X.Ra.lt ex) (by omega) (by rw[full];exact cq X.sq _) (by omega) λk hk1 t1 t2=> ?_)
 rw[full] at t1 t2
 simp only[Gbf] at t1 t2
 dsimp only
 have I2:=I1.DK (k:=k) X.sq λz hz t ht=>by have:=t1 z hz;have:=iq X.sp ex ht;omega
 have Ro2:=Ro1.append (X.Rb.extract (v+1) (v+1+k))
 rw[show v+1+k -(v+1)=k by omega] at Ro2
 have hx2:∀z,p[u]? =some z→∀t∈q.drop (v+1+k),rk z≤rk t:=λz hz t ht=>by
  rw[ex] at hz;cases hz
  rw[←Gci] at ht
  exact t2 t ht
 by_cases g:k>0
 ·rw[Gag g]
  by_cases e2:(v+1+k==b.size)=true
  ·rw[Gag e2]
   have:v+1+k=b.size:=by simpa using e2
   exact Gaw (h _ (.inl ⟨_,_,rfl,X.done Ro2 I2 (.inl (by omega))⟩))
  ·rw[Gae e2]
   have e2' :v+1+k≠b.size:=by simpa using e2
   exact A9 X Ro2 I2 bu (by omega) hx2 (by omega) h
 ·rw[Gae g]
  have k0:k=0:=by omega
  subst k0
  exact A9 X Ro1 I1 bu (by omega) hx2 (by omega) h
theorem DP{mg ca cb u v N:Nat}{o:Array Keyed}{l:List Nat}{R:ForInStep sC→SortSt→Prop}(X:LoX prog w A s κ it rk a b p q)(hk:kindOf st=κ)(Ro:aO it o l)(I:LoI rk p q l u v)(bu:u+1<p.length)(bv:v<q.length)
  (hN:N≤u+v+2)(h:∀r z,bR st z→u4 it rk p q N r→R r z):wpS (model prog w) A E s (loA a b mg ca cb o u v) R st:=by
 have sza:=X.Ra.size
 unfold loA
 rw[ju]
 refine Gal (Gcb ?_)
 generalize hz:SortSt.mk' (kindOf st) (arrOf st) (pendingOf st) mg (failedOf st)=z
 have sz:bR st z:=by rw[←hz];exact⟨rfl,rfl,rfl,rfl⟩
 have hkz:kindOf z=κ:=sz.1.trans hk
 have h' :∀r,u4 it rk p q N r→R r z:=λr hr=>h r z sz hr
 obtain⟨y,ey⟩:∃x,q[v]? =some x:=⟨_,Gac bv⟩
 refine Gal (aU X.Rb ey ?_)
 have full:(p.drop u).take (a.size -u)=p.drop u:=GcA (by simp;omega)
 refine Gal (ke X.hA hkz X.Ra (X.Rb.lt ey) (by omega) (by rw[full];exact cq X.sp _) (by omega) λk hk1 t1 t2=> ?_)
 rw[full] at t1 t2
 simp only[Gai,GaB] at t1 t2
 dsimp only
 have I1:=I.sD (k:=k) X.sp λz hz t ht=>by have:=t1 z hz;have:=iq X.sq ey ht;omega
 have Ro1:=Ro.append (X.Ra.extract u (u+k))
 rw[show u+k -u=k by omega] at Ro1
 have hx:∀z,q[v]? =some z→∀t∈p.drop (u+k),rk z≤rk t:=λz hz t ht=>by
  rw[ey] at hz;cases hz
  rw[←Gci] at ht
  have:=t2 t ht;omega
 by_cases g:k>0
 ·rw[Gag g]
  by_cases e1:(u+k+1==a.size)=true
  ·rw[Gag e1]
   have:u+k+1=a.size:=by simpa using e1
   exact Gaw (h' _ (.inl ⟨_,_,rfl,X.last Ro1 I1 (by omega)⟩))
  rw[Gae e1]
  have e1' :u+k+1≠a.size:=by simpa using e1
  by_cases e2:(u+k==a.size)=true
  ·rw[Gag e2]
   have:u+k=a.size:=by simpa using e2
   exact Gaw (h' _ (.inl ⟨_,_,rfl,X.done Ro1 I1 (.inr (by omega))⟩))
  rw[Gae e2]
  have e2' :u+k≠a.size:=by simpa using e2
  exact Aa X hkz Ro1 I1 (by omega) bv hx (by omega) h'
 ·rw[Gae g]
  have k0:k=0:=by omega
  subst k0
  exact Aa X hkz Ro I bu bv hx (by omega) h'
theorem Gb{Q:Array Keyed→SortSt→Prop}(hA:dq prog w A s κ it rk)(hk:kindOf st=κ)(Ra:aO it a p)(Rb:aO it b q)(sp:Srt rk p)(sq:Srt rk q)(hp:0<p.length)(hq:0<q.length)
  (h0:∀x,q[0]? =some x→∀y∈p,rk x≤rk y)(hl:∀x,p[p.length -1]? =some x→∀y∈q,rk y≤rk x)(h:∀r z,bR st z→da it rk p q r→Q r z):wpS (model prog w) A E s (DJ a b) Q st:=by
 rw[BU]
 refine Gal (wpS_lift (Gcz ⟨rfl, ?_⟩))
 dsimp only
 obtain⟨x0,hx0⟩:∃x,q[0]? =some x:=⟨_,Gac hq⟩
 refine Gal (aU Rb hx0 ?_)
 have I0:LoI rk p q [x0] 0 1:=by
  refine⟨?_,GbY _ _,λx hx y hy=> ?_,λx hx y hy=> ?_⟩
  ·have:=take1 hx0
   rw[Gcy] at this
   rw[this];simp
  ·simp at hx;subst hx;exact h0 _ hx0 y (GbX hy)
  ·simp at hx;subst hx;exact iq sq hx0 (GbX hy)
 have R0:aO it #[kas_item it x0] [x0]:=⟨rfl,λj hj=>by simp at hj;subst hj;exact Rb.lt hx0⟩
 have sza:=Ra.size
 have szb:=Rb.size
 have X:LoX prog w A s κ it rk a b p q:=⟨hA,Ra,Rb,sp,sq,hl⟩
 by_cases c1:(1==b.size)=true
 ·rw[Gag c1]
  have:1=b.size:=by simpa using c1
  exact Gaw (h _ _ .refl (X.done R0 I0 (.inl (by omega))))
 rw[Gae c1]
 have c1' :1≠b.size:=by simpa using c1
 by_cases c2:(0+1==a.size)=true
 ·rw[Gag c2]
  have:0+1=a.size:=by simpa using c2
  exact Gaw (h _ _ .refl (X.last R0 I0 (by omega)))
 rw[Gae c2]
 have c2' :0+1≠a.size:=by simpa using c2
 refine Gal (Gdo ?_)
 refine Gal (GbI (Gbr (I:=λi c z=>bR st z∧∃o u v mg l,c=(none,o,u,v,mg)∧aO it o l∧LoI rk p q l u v∧u+1<p.length∧v<q.length∧i+1≤u+v)
  (Q:=λc z=>bR st z∧∃r t,c=(some r,t)∧da it rk p q r) ?step ?fin ⟨.refl,_,0,1,_,[x0],rfl,R0,I0,by omega,by omega,by omega⟩) ?post)
 case fin=>
  rintro c z ⟨_,o,u,v,mg,l,rfl,_,_,g1,g2,g3⟩
  exfalso
  omega
 case post=>
  rintro c z ⟨hz,r,t,rfl,g⟩
  exact Gaw (h r z hz g)
 case step=>
  rintro i c z _ hi ⟨hz,o,u,v,mg,l,rfl,Ro,I,g1,g2,g3⟩
  dsimp only
  have hkz:kindOf z=κ:=hz.1.trans hk
  refine Gal (GbI (Gbr (I:=λj c z' =>z' =z∧∃o u' v' ca cb l,c=(none,o,u',v',ca,cb)∧aO it o l∧LoI rk p q l u' v' ∧u' +1<p.length∧v' <q.length∧u+v+j≤u' +v')
   (Q:=λc z' =>z' =z∧((∃r t,c=(some r,t)∧da it rk p q r)∨∃o u' v' ca cb l,c=(none,o,u',v',ca,cb)∧aO it o l∧LoI rk p q l u' v' ∧u' +1<p.length∧v' <q.length∧u+v+1≤u' +v')) ?s1 ?f1 ⟨rfl,o,u,v,0,0,l,rfl,Ro,I,g1,g2,by omega⟩) ?p1)
  case f1=>
   rintro c z' ⟨_,o,u',v',ca,cb,l,rfl,_,_,k1,k2,k3⟩
   exfalso
   omega
  case s1=>
   rintro j c z' _ hj ⟨rfl,o,u',v',ca,cb,l,rfl,Ro,I,k1,k2,k3⟩
   dsimp only
   obtain⟨y,hy⟩:∃x,q[v']? =some x:=⟨_,Gac k2⟩
   obtain⟨x,hx⟩:∃x,p[u']? =some x:=⟨_,Gac (by omega)⟩
   refine Gal (aU Rb hy (Gal (aU Ra hx (Gal (qA hA hkz (Rb.lt hy) (Ra.lt hx) ?_)))))
   dsimp only
   by_cases lt:rk y<rk x
   ·rw[GaD lt]
    simp only[Gbf]
    refine Gal (aU Rb hy ?_)
    have I' :=I.qB sq hy λt ht=>by have:=iq sp hx ht;omega
    have Ro' :=Ro.push (Rb.lt hy)
    by_cases e:(v' +1==b.size)=true
    ·rw[Gag e]
     have:v' +1=b.size:=by simpa using e
     exact Gaw ⟨rfl,.inl ⟨_,_,rfl,X.done Ro' I' (.inl (by omega))⟩⟩
    ·rw[Gae e]
     have e' :v' +1≠b.size:=by simpa using e
     by_cases e2:cb+1≥mg
     ·rw[Gag e2]
      exact Gaw ⟨rfl,.inr ⟨_,_,_,_,_,_,rfl,Ro',I',k1,by omega,by omega⟩⟩
     ·rw[Gae e2]
      exact Gaw ⟨rfl,_,_,_,_,_,_,rfl,Ro',I',k1,by omega,by omega⟩
   ·rw[GaE lt]
    simp only[Gai,GaB]
    refine Gal (aU Ra hx ?_)
    have I' :=I.mP sp hx λt ht=>by have:=iq sq hy ht;omega
    have Ro' :=Ro.push (Ra.lt hx)
    by_cases e:(u' +1+1==a.size)=true
    ·rw[Gag e]
     have:u' +1+1=a.size:=by simpa using e
     exact Gaw ⟨rfl,.inl ⟨_,_,rfl,X.last Ro' I' (by omega)⟩⟩
    ·rw[Gae e]
     have e' :u' +1+1≠a.size:=by simpa using e
     by_cases e2:ca+1≥mg
     ·rw[Gag e2]
      exact Gaw ⟨rfl,.inr ⟨_,_,_,_,_,_,rfl,Ro',I',by omega,k2,by omega⟩⟩
     ·rw[Gae e2]
      exact Gaw ⟨rfl,_,_,_,_,_,_,rfl,Ro',I',by omega,k2,by omega⟩
  case p1=>
   rintro c z' ⟨rfl,⟨r,t,rfl,g⟩| ⟨o1,u1,v1,ca1,cb1,l1,rfl,Ro1,I1,k1,k2,k3⟩⟩
   ·exact Gaw ⟨hz,r,_,rfl,g⟩
   dsimp only
   refine Gal (wpS_lift (Gcz ⟨rfl, ?_⟩))
   refine Gal (GbI (Gbr (I:=λj c y=>bR st y∧∃o u' v' mg ca cb l,c=(none,o,u',v',mg,ca,cb)∧aO it o l∧LoI rk p q l u' v' ∧u' +1<p.length∧v' <q.length∧u1+v1+j≤u' +v')
    (Q:=λc y=>bR st y∧((∃r t,c=(some r,t)∧da it rk p q r)∨∃o u' v' mg ca cb l,c=(none,o,u',v',mg,ca,cb)∧aO it o l∧LoI rk p q l u' v' ∧u' +1<p.length∧v' <q.length∧u1+v1≤u' +v')) ?s2 ?f2 ⟨hz,o1,u1,v1,_,ca1,cb1,l1,rfl,Ro1,I1,k1,k2,by omega⟩) ?p2)
   case f2=>
    rintro c y ⟨_,o,u',v',mg,ca,cb,l,rfl,_,_,n1,n2,n3⟩
    exfalso
    omega
   case p2=>
    rintro c y ⟨hy,⟨r,t,rfl,g⟩| ⟨o2,u2,v2,mg2,ca2,cb2,l2,rfl,Ro2,I2,n1,n2,n3⟩⟩
    ·exact Gaw ⟨hy,r,_,rfl,g⟩
    dsimp only
    rw[ju]
    refine Gal (Gcb (Gaw ⟨hy.trans ⟨rfl,rfl,rfl,rfl⟩,o2,u2,v2,_,l2,rfl,Ro2,I2,n1,n2,by omega⟩))
   case s2=>
    rintro j c y _ hj ⟨hy,o,u',v',mg',ca,cb,l,rfl,Ro,I,n1,n2,n3⟩
    dsimp only
    have fin:∀g,wpS (model prog w) A E s (loA a b g ca cb o u' v') (λr y' =>match r with
      | .done c=>bR st y' ∧((∃r t,c=(some r,t)∧da it rk p q r)∨∃o u' v' mg ca cb l,c=(none,o,u',v',mg,ca,cb)∧aO it o l∧LoI rk p q l u' v' ∧u' +1<p.length∧v' <q.length∧u1+v1≤u' +v')
      | .yield c=>bR st y' ∧∃o u' v' mg ca cb l,c=(none,o,u',v',mg,ca,cb)∧aO it o l∧LoI rk p q l u' v' ∧u' +1<p.length∧v' <q.length∧u1+v1+(j+1)≤u' +v') y:=λg=>by
     refine DP X (hy.1.trans hk) Ro I n1 n2 (N:=u' +v' +2) (Gau _) λr z' sz hr=> ?_
     cases r with
     |done c=>
      rcases hr with hr| ⟨o,u,v,mg,ca,cb,e,P,hn⟩
      ·exact⟨hy.trans sz,.inl hr⟩
      ·obtain⟨l,h1,h2⟩:=P.ex
       exact⟨hy.trans sz,.inr ⟨o,u,v,mg,ca,cb,l,e,h1,h2,P.bu,P.bv,by omega⟩⟩
     |yield c=>
      obtain⟨o,u,v,mg,ca,cb,e,P,hn⟩:=hr
      obtain⟨l,h1,h2⟩:=P.ex
      exact⟨hy.trans sz,o,u,v,mg,ca,cb,l,e,h1,h2,P.bu,P.bv,by omega⟩
    show wpS (model prog w) A E s (if mg' >1 then loA a b (mg' -1) ca cb o u' v' else loA a b mg' ca cb o u' v') _ y
    split
    ·exact GbI (fin _) λr y' hr=>by cases r<;>exact hr
    ·exact GbI (fin _) λr y' hr=>by cases r<;>exact hr
end
noncomputable def DQ:Array Keyed→Array Keyed→SM (Array Keyed):=sortPriv%PySem.Builtin.mergeHi
theorem BV(a b:Array Keyed):DQ a b=(do
 rule "list.sort.merge-hi"
 let tot:=a.size+b.size
 let fin (o:Array Keyed) (u v:Nat):=a.extract 0 u++b.extract 0 v++o.reverse
 let fst (o:Array Keyed) (u v:Nat):=b.extract 0 v++a.extract 0 u++o.reverse
 let mut u:=a.size -1
 let mut v:=b.size
 let mut o:Array Keyed:=#[←elem' a u]
 if u==0 then return fin o u v
 if v==1 then return fst o u v
 let mut mg:=gallopOf (←get)
 for _ in [0:tot] do
  let mut ca:=0
  let mut cb:=0
  for _ in [0:tot] do
   let some w←lt' (←elem' b (v -1)) (←elem' a (u -1))|return fin o u v
   if w then
    u:=u -1;o:=o.push (←elem' a u);ca:=ca+1;cb:=0
    if u==0 then return fin o u v
    if ca≥mg then break
   else
    v:=v -1;o:=o.push (←elem' b v);cb:=cb+1;ca:=0
    if v==1 then return fst o u v
    if cb≥mg then break
  rule "list.sort.gallop"
  mg:=mg+1
  for _ in [0:tot] do
   if mg>1 then mg:=mg -1
   mO mg
   let some c←gz false (←elem' b (v -1)) a 0 u (u -1)|return fin o u v
   let k:=u -c
   ca:=k
   if k>0 then
    o:=o++(a.extract c u).reverse;u:=c
    if u==0 then return fin o u v
   v:=v -1;o:=o.push (←elem' b v)
   if v==1 then return fst o u v
   let some c←gz true (←elem' a (u -1)) b 0 v (v -1)|return fin o u v
   let k:=v -c
   cb:=k
   if k>0 then
    o:=o++(b.extract c v).reverse;v:=c
    if v==1 then return fst o u v
    if v==0 then return fin o u v
   u:=u -1;o:=o.push (←elem' a u)
   if u==0 then return fin o u v
   if ca<7&&cb<7 then break
  mg:=mg+1
  mO mg
 unsupported "internal:list.sort.merge-bound"):=rfl
noncomputable abbrev sE:=Option (Array Keyed)×Nat×Nat×Array Keyed×Nat×Nat×Nat
noncomputable def hiC(a b:Array Keyed)(mg ca cb:Nat)(o:Array Keyed)(u v:Nat):SM (ForInStep sE):=do
 let e←elem' a (u -1)
 if(u -1==0)=true then pure (.done (some (a.extract 0 (u -1)++b.extract 0 v++(o.push e).reverse),u -1,v,o.push e,mg,ca,cb))
 else if(decide (ca<7)&&decide (cb<7))=true then pure (.done (none,u -1,v,o.push e,mg,ca,cb))
 else pure (.yield (none,u -1,v,o.push e,mg,ca,cb))
noncomputable def hiB(a b:Array Keyed)(mg ca cb:Nat)(o:Array Keyed)(u v:Nat):SM (ForInStep sE):=do
 let e←elem' b (v -1)
 if(v -1==1)=true then pure (.done (some (b.extract 0 (v -1)++a.extract 0 u++(o.push e).reverse),u,v -1,o.push e,mg,ca,cb))
 else do
  let e2←elem' a (u -1)
  let f←gz true e2 b 0 (v -1) (v -1 -1)
  match f with
  |some c=>
   if v -1 -c>0 then
    if(c==1)=true then pure (.done (some (b.extract 0 c++a.extract 0 u++(o.push e++(b.extract c (v -1)).reverse).reverse),u,c,o.push e++(b.extract c (v -1)).reverse,mg,ca,v -1 -c))
    else if(c==0)=true then pure (.done (some (a.extract 0 u++b.extract 0 c++(o.push e++(b.extract c (v -1)).reverse).reverse),u,c,o.push e++(b.extract c (v -1)).reverse,mg,ca,v -1 -c))
    else hiC a b mg ca (v -1 -c) (o.push e++(b.extract c (v -1)).reverse) u c
   else hiC a b mg ca (v -1 -c) (o.push e) u (v -1)
  |_=>pure (.done (some (a.extract 0 u++b.extract 0 (v -1)++(o.push e).reverse),u,v -1,o.push e,mg,ca,cb))
noncomputable def hiA(a b:Array Keyed)(mg ca cb:Nat)(o:Array Keyed)(u v:Nat):SM (ForInStep sE):=do
 mO mg
 let e←elem' b (v -1)
 let f←gz false e a 0 u (u -1)
 match f with
 |some c=>
  if u -c>0 then
   if(c==0)=true then pure (.done (some (a.extract 0 c++b.extract 0 v++(o++(a.extract c u).reverse).reverse),c,v,o++(a.extract c u).reverse,mg,u -c,cb))
   else hiB a b mg (u -c) cb (o++(a.extract c u).reverse) c v
  else hiB a b mg (u -c) cb o u v
 |_=>pure (.done (some (a.extract 0 u++b.extract 0 v++o.reverse),u,v,o,mg,ca,cb))
structure HiI(rk:Nat→Int)(p q o:List Nat)(u v:Nat):Prop where
 pm:o.Perm (p.drop u++q.drop v)
 so:Srt rk o.reverse
 oa:∀x∈o,∀y∈p.take u,rk y≤rk x
 ob:∀x∈o,∀y∈q.take v,rk y≤rk x
section
variable{rk:Nat→Int}{p q o:List Nat}{u v c:Nat}
theorem vf{l:List Nat}{m n:Nat}{x:Nat}(h:m≤n)(hx:x∈l.take m):x∈l.take n:=by
 have:l.take m=(l.take n).take m:=by rw[GcO,GdB h]
 rw[this] at hx
 exact Gbz hx
theorem Ab{l:List Nat}{m n:Nat}{x:Nat}(h:m≤n)(hx:x∈(l.drop m).take (n -m)):x∈l.take n:=by
 rw[←Gdp] at hx
 exact GbX hx
theorem Ac{l:List Nat}{m n:Nat}(h:m≤n):l.drop m=(l.drop m).take (n -m)++l.drop n:=by
 conv=>lhs;rw[←Gbe (n -m) (l.drop m)]
 rw[Gci,show m+(n -m)=n by omega]
theorem HiI.sD(I:HiI rk p q o u v)(sp:Srt rk p)(hc:c≤u)(h:∀x∈(p.drop c).take (u -c),∀y∈q.take v,rk y≤rk x):HiI rk p q (o++((p.drop c).take (u -c)).reverse) c v:=by
 refine⟨?_, ?_,λx hx y hy=> ?_,λx hx y hy=> ?_⟩
 ·have e:p.drop c++q.drop v=((p.drop c).take (u -c)++p.drop u)++q.drop v:=by rw[←Ac hc]
  rw[e]
  refine(Gbm.trans ?_)
  rw[GaF]
  exact(List.reverse_perm _).append I.pm
 ·rw[List.reverse_append,List.reverse_reverse]
  exact bW (cR (cq sp c) _) I.so λx hx y hy=>I.oa y (Gch.mp hy) x (Ab hc hx)
 ·rcases GaQ.mp hx with hx|hx
  ·exact I.oa x hx y (vf hc hy)
  ·exact lL sp c y hy x (Gbz (Gch.mp hx))
 ·rcases GaQ.mp hx with hx|hx
  ·exact I.ob x hx y hy
  ·exact h x (Gch.mp hx) y hy
theorem HiI.swap(I:HiI rk p q o u v):HiI rk q p o v u:=⟨I.pm.trans Gbm,I.so,I.ob,I.oa⟩
theorem HiI.DK(I:HiI rk p q o u v)(sq:Srt rk q)(hc:c≤v)(h:∀x∈(q.drop c).take (v -c),∀y∈p.take u,rk y≤rk x):HiI rk p q (o++((q.drop c).take (v -c)).reverse) u c:=(I.swap.sD sq hc h).swap
theorem HiI.mP{x:Nat}(I:HiI rk p q o u v)(sp:Srt rk p)(hu:0<u)(hx:p[u -1]? =some x)(h:∀y∈q.take v,rk y≤rk x):HiI rk p q (o++[x]) (u -1) v:=by
 have e:(p.drop (u -1)).take (u -(u -1))=[x]:=by rw[show u -(u -1)=1 by omega];exact take1 hx
 have:=I.sD (c:=u -1) sp (by omega) (by rw[e];intro z hz;simp at hz;subst hz;exact h)
 rw[e] at this
 exact this
theorem HiI.qB{x:Nat}(I:HiI rk p q o u v)(sq:Srt rk q)(hv:0<v)(hx:q[v -1]? =some x)(h:∀y∈p.take u,rk y≤rk x):HiI rk p q (o++[x]) u (v -1):=(I.swap.mP sq hv hx h).swap
theorem HiI.perm(I:HiI rk p q o u v):(p.take u++q.take v++o.reverse).Perm (p++q):=by
 refine(Gcj _ ((List.reverse_perm _).trans I.pm)).trans ?_
 have e:p++q=(p.take u++p.drop u)++(q.take v++q.drop v):=by rw[Gbe,Gbe]
 rw[e,GaF,GaF]
 refine Gcj _ ?_
 rw[←GaF,←GaF]
 exact GbC _ Gbm
theorem HiI.done(I:HiI rk p q o u v)(sp:Srt rk p)(sq:Srt rk q)(h:u=0∨v=0):(p.take u++q.take v++o.reverse).Perm (p++q)∧Srt rk (p.take u++q.take v++o.reverse):=by
 refine⟨I.perm, ?_⟩
 rcases h with rfl|rfl
 ·rw[List.take_zero,List.nil_append]
  exact bW (cR sq v) I.so λx hx y hy=>I.ob y (Gch.mp hy) x hx
 ·rw[List.take_zero,Gca]
  exact bW (cR sp u) I.so λx hx y hy=>I.oa y (Gch.mp hy) x hx
theorem HiI.first(I:HiI rk p q o u v)(sp:Srt rk p)(h:v=1)(h0:∀x,q[0]? =some x→∀y∈p,rk x≤rk y):(q.take v++p.take u++o.reverse).Perm (p++q)∧Srt rk (q.take v++p.take u++o.reverse):=by
 refine⟨(GbC _ Gbm).trans I.perm, ?_⟩
 subst h
 refine bW (bW ?_ (cR sp u) λx hx y hy=> ?_) I.so λx hx y hy=> ?_
 ·cases q with
  |nil=>exact List.Pairwise.nil
  |cons z t=>exact GbY _ _
 ·cases q with
  |nil=>cases hx
  |cons z t=>
   have:x=z:=by simpa using hx
   subst this
   exact h0 x rfl y (Gbz hy)
 ·rcases GaQ.mp hx with hx|hx
  ·exact I.ob y (Gch.mp hy) x hx
  ·exact I.oa y (Gch.mp hy) x hx
end
section
variable{prog:Program}{w:World}{A:Around}{E:Value→Shared→Prop}{s:Shared}{st:SortSt}{κ:SortKind}{it:Array Keyed}{rk:Nat→Int}{a b:Array Keyed}{p q:List Nat}
theorem aO.take{a:Array Keyed}{p:List Nat}(R:aO it a p)(n:Nat):aO it (a.extract 0 n) (p.take n):=by
 have:=R.extract 0 n
 rw[Gcy,Nat.sub_zero] at this
 exact this
theorem ir{l:List Nat}{x y n:Nat}(h:Srt rk l)(hx:l[n -1]? =some x)(hy:y∈l.take n):rk y≤rk x:=by
 obtain⟨k,hk⟩:=GbO.mp hy
 have hkn:k<n:=by have:=(Gaf.mp hk).1;simp at this;omega
 rw[GaP hkn] at hk
 exact lK h (by omega) hk hx
structure HiP(it:Array Keyed)(rk:Nat→Int)(p q:List Nat)(o:Array Keyed)(u v:Nat):Prop where
 ex:∃l,aO it o l∧HiI rk p q l u v
 bu:0<u
 bv:1<v
 cu:u≤p.length
 cv:v≤q.length
noncomputable def u5(it:Array Keyed)(rk:Nat→Int)(p q:List Nat)(N:Nat):ForInStep sE→Prop
 | .done c=>(∃r t,c=(some r,t)∧da it rk p q r)∨∃o u v mg ca cb,c=(none,u,v,o,mg,ca,cb)∧HiP it rk p q o u v∧u+v≤N
 | .yield c=>∃o u v mg ca cb,c=(none,u,v,o,mg,ca,cb)∧HiP it rk p q o u v∧u+v≤N
structure HiX(prog:Program)(w:World)(A:Around)(s:Shared)(κ:SortKind)(it:Array Keyed)(rk:Nat→Int)(a b:Array Keyed)(p q:List Nat):Prop where
 hA:dq prog w A s κ it rk
 Ra:aO it a p
 Rb:aO it b q
 sp:Srt rk p
 sq:Srt rk q
 h0:∀x,q[0]? =some x→∀y∈p,rk x≤rk y
theorem HiX.done{o:Array Keyed}{l:List Nat}{u v:Nat}(X:HiX prog w A s κ it rk a b p q)(Ro:aO it o l)(I:HiI rk p q l u v)(hh:u=0∨v=0):da it rk p q (a.extract 0 u++b.extract 0 v++o.reverse):=
 ⟨_,((X.Ra.take _).append (X.Rb.take _)).append Ro.reverse,(I.done X.sp X.sq hh).1,(I.done X.sp X.sq hh).2⟩
theorem HiX.first{o:Array Keyed}{l:List Nat}{u v:Nat}(X:HiX prog w A s κ it rk a b p q)(Ro:aO it o l)(I:HiI rk p q l u v)(hh:v=1):da it rk p q (b.extract 0 v++a.extract 0 u++o.reverse):=
 ⟨_,((X.Rb.take _).append (X.Ra.take _)).append Ro.reverse,(I.first X.sp hh X.h0).1,(I.first X.sp hh X.h0).2⟩
theorem Ad{mg ca cb u v N:Nat}{o:Array Keyed}{l:List Nat}{R:ForInStep sE→SortSt→Prop}(X:HiX prog w A s κ it rk a b p q)(Ro:aO it o l)(I:HiI rk p q l u v)(bu:0<u)(bv:1<v)(cu:u≤p.length)(cv:v≤q.length)
  (hx:∀x,p[u -1]? =some x→∀y∈q.take v,rk y≤rk x)(hN:u+v≤N+1)(h:∀r,u5 it rk p q N r→R r st):wpS (model prog w) A E s (hiC a b mg ca cb o u v) R st:=by
 unfold hiC
 obtain⟨x,ex⟩:∃x,p[u -1]? =some x:=⟨_,Gac (by omega)⟩
 refine Gal (aU X.Ra ex ?_)
 have I' :=I.mP X.sp bu ex (hx x ex)
 have Ro' :=Ro.push (X.Ra.lt ex)
 by_cases e:(u -1==0)=true
 ·rw[Gag e]
  have:u -1=0:=by simpa using e
  exact Gaw (h _ (.inl ⟨_,_,rfl,X.done Ro' I' (.inl this)⟩))
 ·rw[Gae e]
  have e' :u -1≠0:=by simpa using e
  by_cases e2:(decide (ca<7)&&decide (cb<7))=true
  ·rw[Gag e2]
   exact Gaw (h _ (.inr ⟨_,_,_,_,_,_,rfl,⟨⟨_,Ro',I'⟩,by omega,bv,by omega,cv⟩,by omega⟩))
  ·rw[Gae e2]
   exact Gaw (h _ ⟨_,_,_,_,_,_,rfl,⟨⟨_,Ro',I'⟩,by omega,bv,by omega,cv⟩,by omega⟩)
theorem Ae{mg ca cb u v N:Nat}{o:Array Keyed}{l:List Nat}{R:ForInStep sE→SortSt→Prop}(X:HiX prog w A s κ it rk a b p q)(hk:kindOf st=κ)(Ro:aO it o l)(I:HiI rk p q l u v)(bu:0<u)(bv:1<v)(cu:u≤p.length)(cv:v≤q.length)
  (hx:∀x,q[v -1]? =some x→∀y∈p.take u,rk y≤rk x)(hN:u+v≤N+2)(h:∀r,u5 it rk p q N r→R r st):wpS (model prog w) A E s (hiB a b mg ca cb o u v) R st:=by
 unfold hiB
 obtain⟨y,ey⟩:∃x,q[v -1]? =some x:=⟨_,Gac (by omega)⟩
 obtain⟨x,ex⟩:∃x,p[u -1]? =some x:=⟨_,Gac (by omega)⟩
 refine Gal (aU X.Rb ey ?_)
 have I1:=I.qB X.sq (by omega) ey (hx y ey)
 have Ro1:=Ro.push (X.Rb.lt ey)
 by_cases e:(v -1==1)=true
 ·rw[Gag e]
  have:v -1=1:=by simpa using e
  exact Gaw (h _ (.inl ⟨_,_,rfl,X.first Ro1 I1 this⟩))
 rw[Gae e]
 have e' :v -1≠1:=by simpa using e
 refine Gal (aU X.Ra ex ?_)
 refine Gal (ke X.hA hk X.Rb (X.Ra.lt ex) (by omega) (by rw[Gcy];exact cR X.sq _) (by omega) λc hc1 t1 t2=> ?_)
 rw[Gcy] at t1 t2
 simp only[Gbf] at t1 t2
 dsimp only
 have t2' :∀z∈(q.drop c).take (v -1 -c),rk x≤rk z:=λz hz=>t2 z (by rw[Gdp];exact hz)
 have t1' :∀z∈q.take c,rk z<rk x:=λz hz=>t1 z (by rw[GcO,GdB hc1];exact hz)
 have I2:=I1.DK (c:=c) X.sq hc1 λz hz t ht=>by have:=t2' z hz;have:=ir X.sp ex ht;omega
 have Ro2:=Ro1.append (X.Rb.extract c (v -1)).reverse
 have hx2:∀z,p[u -1]? =some z→∀t∈q.take c,rk t≤rk z:=λz hz t ht=>by
  rw[ex] at hz;cases hz
  have:=t1' t ht;omega
 by_cases g:v -1 -c>0
 ·rw[Gag g]
  by_cases e2:(c==1)=true
  ·rw[Gag e2]
   have:c=1:=by simpa using e2
   exact Gaw (h _ (.inl ⟨_,_,rfl,X.first Ro2 I2 this⟩))
  rw[Gae e2]
  have e2' :c≠1:=by simpa using e2
  by_cases e3:(c==0)=true
  ·rw[Gag e3]
   have:c=0:=by simpa using e3
   exact Gaw (h _ (.inl ⟨_,_,rfl,X.done Ro2 I2 (.inr this)⟩))
  rw[Gae e3]
  have e3' :c≠0:=by simpa using e3
  exact Ad X Ro2 I2 bu (by omega) cu (by omega) hx2 (by omega) h
 ·rw[Gae g]
  have k0:c=v -1:=by omega
  rw[k0] at hx2
  exact Ad X Ro1 I1 bu (by omega) cu (by omega) hx2 (by omega) h
theorem DR{mg ca cb u v N:Nat}{o:Array Keyed}{l:List Nat}{R:ForInStep sE→SortSt→Prop}(X:HiX prog w A s κ it rk a b p q)(hk:kindOf st=κ)(Ro:aO it o l)(I:HiI rk p q l u v)(bu:0<u)(bv:1<v)(cu:u≤p.length)(cv:v≤q.length)
  (hN:u+v≤N+2)(h:∀r z,bR st z→u5 it rk p q N r→R r z):wpS (model prog w) A E s (hiA a b mg ca cb o u v) R st:=by
 unfold hiA
 rw[ju]
 refine Gal (Gcb ?_)
 generalize hz:SortSt.mk' (kindOf st) (arrOf st) (pendingOf st) mg (failedOf st)=z
 have sz:bR st z:=by rw[←hz];exact⟨rfl,rfl,rfl,rfl⟩
 have hkz:kindOf z=κ:=sz.1.trans hk
 have h' :∀r,u5 it rk p q N r→R r z:=λr hr=>h r z sz hr
 obtain⟨y,ey⟩:∃x,q[v -1]? =some x:=⟨_,Gac (by omega)⟩
 refine Gal (aU X.Rb ey ?_)
 refine Gal (ke X.hA hkz X.Ra (X.Rb.lt ey) (by omega) (by rw[Gcy];exact cR X.sp _) (by omega) λc hc1 t1 t2=> ?_)
 rw[Gcy] at t1 t2
 simp only[Gai,GaB] at t1 t2
 dsimp only
 have t2' :∀z∈(p.drop c).take (u -c),rk y<rk z:=λz hz=>t2 z (by rw[Gdp];exact hz)
 have t1' :∀z∈p.take c,rk z≤rk y:=λz hz=>t1 z (by rw[GcO,GdB hc1];exact hz)
 have I1:=I.sD (c:=c) X.sp hc1 λz hz t ht=>by have:=t2' z hz;have:=ir X.sq ey ht;omega
 have Ro1:=Ro.append (X.Ra.extract c u).reverse
 have hx:∀z,q[v -1]? =some z→∀t∈p.take c,rk t≤rk z:=λz hz t ht=>by
  rw[ey] at hz;cases hz
  exact t1' t ht
 by_cases g:u -c>0
 ·rw[Gag g]
  by_cases e1:(c==0)=true
  ·rw[Gag e1]
   have:c=0:=by simpa using e1
   exact Gaw (h' _ (.inl ⟨_,_,rfl,X.done Ro1 I1 (.inl this)⟩))
  rw[Gae e1]
  have e1' :c≠0:=by simpa using e1
  exact Ae X hkz Ro1 I1 (by omega) bv (by omega) cv hx (by omega) h'
 ·rw[Gae g]
  have k0:c=u:=by omega
  rw[k0] at hx
  exact Ae X hkz Ro I bu bv cu cv hx (by omega) h'
theorem Gd{Q:Array Keyed→SortSt→Prop}(hA:dq prog w A s κ it rk)(hk:kindOf st=κ)(Ra:aO it a p)(Rb:aO it b q)(sp:Srt rk p)(sq:Srt rk q)(hp:0<p.length)(hq:0<q.length)
  (h0:∀x,q[0]? =some x→∀y∈p,rk x≤rk y)(hl:∀x,p[p.length -1]? =some x→∀y∈q,rk y≤rk x)(h:∀r z,bR st z→da it rk p q r→Q r z):wpS (model prog w) A E s (DQ a b) Q st:=by
 rw[BV]
 refine Gal (wpS_lift (Gcz ⟨rfl, ?_⟩))
 dsimp only
 have sza:=Ra.size
 have szb:=Rb.size
 obtain⟨x0,hx0⟩:∃x,p[p.length -1]? =some x:=⟨_,Gac (by omega)⟩
 rw[sza,szb]
 refine Gal (aU Ra hx0 ?_)
 have I0:HiI rk p q [x0] (p.length -1) q.length:=by
  refine⟨?_,GbY _ _,λx hx y hy=> ?_,λx hx y hy=> ?_⟩
  ·have:=take1 hx0
   rw[GcP,Gca]
   have e:p.drop (p.length -1)=[x0]:=by
    rw[←this,GcA (by simp;omega)]
   rw[e]
  ·simp at hx;subst hx;exact ir sp hx0 (by rw[List.take_length];exact Gbz hy)
  ·simp at hx;subst hx;exact hl _ hx0 y (Gbz hy)
 have R0:aO it #[kas_item it x0] [x0]:=⟨rfl,λj hj=>by simp at hj;subst hj;exact Ra.lt hx0⟩
 have X:HiX prog w A s κ it rk a b p q:=⟨hA,Ra,Rb,sp,sq,h0⟩
 by_cases c1:(p.length -1==0)=true
 ·rw[Gag c1]
  have:p.length -1=0:=by simpa using c1
  exact Gaw (h _ _ .refl (X.done R0 I0 (.inl this)))
 rw[Gae c1]
 have c1' :p.length -1≠0:=by simpa using c1
 by_cases c2:(q.length==1)=true
 ·rw[Gag c2]
  have:q.length=1:=by simpa using c2
  exact Gaw (h _ _ .refl (X.first R0 I0 this))
 rw[Gae c2]
 have c2' :q.length≠1:=by simpa using c2
 refine Gal (Gdo ?_)
 refine Gal (GbI (Gbr (I:=λi c z=>bR st z∧∃o u v mg,c=(none,u,v,o,mg)∧HiP it rk p q o u v∧u+v+i+1≤p.length+q.length)
  (Q:=λc z=>bR st z∧∃r t,c=(some r,t)∧da it rk p q r) ?step ?fin ⟨.refl,_,_,_,_,rfl,⟨⟨_,R0,I0⟩,by omega,by omega,by omega,by omega⟩,by omega⟩) ?post)
 case fin=>
  rintro c z ⟨_,o,u,v,mg,rfl,P,g3⟩
  have:=P.bu
  exfalso
  omega
 case post=>
  rintro c z ⟨hz,r,t,rfl,g⟩
  exact Gaw (h r z hz g)
 case step=>
  rintro i c z _ hi ⟨hz,o,u,v,mg,rfl,P,g3⟩
  dsimp only
  have hkz:kindOf z=κ:=hz.1.trans hk
  refine Gal (GbI (Gbr (I:=λj c z' =>z' =z∧∃o u' v' ca cb,c=(none,u',v',o,ca,cb)∧HiP it rk p q o u' v' ∧u' +v' +j≤u+v)
   (Q:=λc z' =>z' =z∧((∃r t,c=(some r,t)∧da it rk p q r)∨∃o u' v' ca cb,c=(none,u',v',o,ca,cb)∧HiP it rk p q o u' v' ∧u' +v' +1≤u+v)) ?s1 ?f1 ⟨rfl,o,u,v,0,0,rfl,P,by omega⟩) ?p1)
  case f1=>
   rintro c z' ⟨_,o,u',v',ca,cb,rfl,P',k3⟩
   have:=P'.bu
   have:=P.cu
   have:=P.cv
   exfalso
   omega
  case s1=>
   rintro j c z' _ hj ⟨rfl,o,u',v',ca,cb,rfl,P',k3⟩
   obtain⟨⟨l,Ro,I⟩,bu,bv,cu,cv⟩:=P'
   dsimp only
   obtain⟨y,hy⟩:∃x,q[v' -1]? =some x:=⟨_,Gac (by omega)⟩
   obtain⟨x,hx⟩:∃x,p[u' -1]? =some x:=⟨_,Gac (by omega)⟩
   refine Gal (aU Rb hy (Gal (aU Ra hx (Gal (qA hA hkz (Rb.lt hy) (Ra.lt hx) ?_)))))
   dsimp only
   by_cases lt:rk y<rk x
   ·rw[GaD lt]
    simp only[Gbf]
    refine Gal (aU Ra hx ?_)
    have I' :=I.mP sp bu hx λt ht=>by have:=ir sq hy ht;omega
    have Ro' :=Ro.push (Ra.lt hx)
    by_cases e:(u' -1==0)=true
    ·rw[Gag e]
     have:u' -1=0:=by simpa using e
     exact Gaw ⟨rfl,.inl ⟨_,_,rfl,X.done Ro' I' (.inl this)⟩⟩
    ·rw[Gae e]
     have e' :u' -1≠0:=by simpa using e
     by_cases e2:ca+1≥mg
     ·rw[Gag e2]
      exact Gaw ⟨rfl,.inr ⟨_,_,_,_,_,rfl,⟨⟨_,Ro',I'⟩,by omega,bv,by omega,cv⟩,by omega⟩⟩
     ·rw[Gae e2]
      exact Gaw ⟨rfl,_,_,_,_,_,rfl,⟨⟨_,Ro',I'⟩,by omega,bv,by omega,cv⟩,by omega⟩
   ·rw[GaE lt]
    simp only[Gai,GaB]
    refine Gal (aU Rb hy ?_)
    have I' :=I.qB sq (by omega) hy λt ht=>by have:=ir sp hx ht;omega
    have Ro' :=Ro.push (Rb.lt hy)
    by_cases e:(v' -1==1)=true
    ·rw[Gag e]
     have:v' -1=1:=by simpa using e
     exact Gaw ⟨rfl,.inl ⟨_,_,rfl,X.first Ro' I' this⟩⟩
    ·rw[Gae e]
     have e' :v' -1≠1:=by simpa using e
     by_cases e2:cb+1≥mg
     ·rw[Gag e2]
      exact Gaw ⟨rfl,.inr ⟨_,_,_,_,_,rfl,⟨⟨_,Ro',I'⟩,bu,by omega,cu,by omega⟩,by omega⟩⟩
     ·rw[Gae e2]
      exact Gaw ⟨rfl,_,_,_,_,_,rfl,⟨⟨_,Ro',I'⟩,bu,by omega,cu,by omega⟩,by omega⟩
  case p1=>
   rintro c z' ⟨rfl,⟨r,t,rfl,g⟩| ⟨o1,u1,v1,ca1,cb1,rfl,P1,k3⟩⟩
   ·exact Gaw ⟨hz,r,_,rfl,g⟩
   dsimp only
   refine Gal (wpS_lift (Gcz ⟨rfl, ?_⟩))
   refine Gal (GbI (Gbr (I:=λj c y=>bR st y∧∃o u' v' mg ca cb,c=(none,u',v',o,mg,ca,cb)∧HiP it rk p q o u' v' ∧u' +v' +j≤u1+v1)
    (Q:=λc y=>bR st y∧((∃r t,c=(some r,t)∧da it rk p q r)∨∃o u' v' mg ca cb,c=(none,u',v',o,mg,ca,cb)∧HiP it rk p q o u' v' ∧u' +v' ≤u1+v1)) ?s2 ?f2 ⟨hz,o1,u1,v1,_,ca1,cb1,rfl,P1,by omega⟩) ?p2)
   case f2=>
    rintro c y ⟨_,o,u',v',mg,ca,cb,rfl,P',n3⟩
    have:=P'.bu
    have:=P1.cu
    have:=P1.cv
    exfalso
    omega
   case p2=>
    rintro c y ⟨hy,⟨r,t,rfl,g⟩| ⟨o2,u2,v2,mg2,ca2,cb2,rfl,P2,n3⟩⟩
    ·exact Gaw ⟨hy,r,_,rfl,g⟩
    dsimp only
    rw[ju]
    exact Gal (Gcb (Gaw ⟨hy.trans ⟨rfl,rfl,rfl,rfl⟩,o2,u2,v2,_,rfl,P2,by omega⟩))
   case s2=>
    rintro j c y _ hj ⟨hy,o,u',v',mg',ca,cb,rfl,P',n3⟩
    obtain⟨⟨l,Ro,I⟩,bu,bv,cu,cv⟩:=P'
    dsimp only
    have fin:∀g,wpS (model prog w) A E s (hiA a b g ca cb o u' v') (λr y' =>match r with
      | .done c=>bR st y' ∧((∃r t,c=(some r,t)∧da it rk p q r)∨∃o u' v' mg ca cb,c=(none,u',v',o,mg,ca,cb)∧HiP it rk p q o u' v' ∧u' +v' ≤u1+v1)
      | .yield c=>bR st y' ∧∃o u' v' mg ca cb,c=(none,u',v',o,mg,ca,cb)∧HiP it rk p q o u' v' ∧u' +v' +(j+1)≤u1+v1) y:=λg=>by
     refine DR X (hy.1.trans hk) Ro I bu bv cu cv (N:=u' +v' -2) (by omega) λr z' sz hr=> ?_
     cases r with
     |done c=>
      rcases hr with hr| ⟨o,u,v,mg,ca,cb,e,P,hn⟩
      ·exact⟨hy.trans sz,.inl hr⟩
      ·exact⟨hy.trans sz,.inr ⟨o,u,v,mg,ca,cb,e,P,by omega⟩⟩
     |yield c=>
      obtain⟨o,u,v,mg,ca,cb,e,P,hn⟩:=hr
      exact⟨hy.trans sz,o,u,v,mg,ca,cb,e,P,by omega⟩
    show wpS (model prog w) A E s (if mg' >1 then hiA a b (mg' -1) ca cb o u' v' else hiA a b mg' ca cb o u' v') _ y
    split
    ·exact GbI (fin _) λr y' hr=>by cases r<;>exact hr
    ·exact GbI (fin _) λr y' hr=>by cases r<;>exact hr
end
open PySem.W (kas_item kas_swaps_map)
noncomputable abbrev DU:=Option (Option Nat)×Nat
noncomputable abbrev DV:=Option (Option Nat)×Nat×Nat
noncomputable def Af(lo a nrem:Nat):SM DU:=forIn [a:nrem] ((none,a):DU) λ_ z=>do
 let x←ltAt' (lo+z.2) (lo+z.2 -1)
 match x with
 |some c=>if c=true then pure (.done (none,z.2)) else pure (.yield (none,z.2+1))
 |_=>pure (.done (some none,z.2))
noncomputable def qC(lo n nrem:Nat):SM (Option Nat):=do
 reverseSlice' lo (lo+n)
 let z←Af lo n nrem
 match z.1 with
 |some r=>pure r
 |none=>pure (some z.2)
noncomputable def u6(lo n nrem:Nat):SM DV:=forIn [n:nrem] ((none,n,0):DV) λ_ z=>do
 let x←ltAt' (lo+z.2.1) (lo+z.2.1 -1)
 match x with
 |some c=>
  if c=true then
   if z.2.2>0 then do
    reverseSlice' (lo+z.2.1 -(z.2.2+1)) (lo+z.2.1)
    pure (.yield (none,z.2.1+1,0))
   else pure (.yield (none,z.2.1+1,0))
  else do
   let y←ltAt' (lo+z.2.1 -1) (lo+z.2.1)
   match y with
   |some d=>if d=true then pure (.done (none,z.2.1,z.2.2)) else pure (.yield (none,z.2.1+1,z.2.2+1))
   |_=>pure (.done (some none,z.2.1,z.2.2))
 |_=>pure (.done (some none,z.2.1,z.2.2))
noncomputable def mQ(lo n nrem:Nat):SM (Option Nat):=do
 rule "list.sort.descending-run"
 let z←u6 lo (n+1) nrem
 match z.1 with
 |some r=>pure r
 |none=>
  if z.2.2>0 then
   reverseSlice' (lo+z.2.1 -(z.2.2+1)) (lo+z.2.1)
   qC lo z.2.1 nrem
  else qC lo z.2.1 nrem
noncomputable def DW(lo nrem:Nat):SM (Option Nat):=do
 let z←Af lo 1 nrem
 match z.1 with
 |some r=>pure r
 |none=>
  if(z.2==nrem)=true then pure (some z.2)
  else if z.2>1 then
   let x←ltAt' lo (lo+z.2 -1)
   match x with
   |some c=>
    if c=true then pure (some z.2)
    else
     reverseSlice' lo (lo+z.2)
     mQ lo z.2 nrem
   |_=>pure none
  else mQ lo z.2 nrem
theorem pC(lo nrem:Nat):countRun' lo nrem=DW lo nrem:=by
 rw[countRun'_eq]
 dsimp only
 unfold DW mQ qC u6 Af
 refine congrArg (bind _) (funext λz=> ?_)
 obtain⟨r,n⟩:=z
 cases r with
 |some r=>rfl
 |none=>
  dsimp only
  split
  ·rfl
  ·split
   ·congr 1
    funext x
    cases x with
    |none=>rfl
    |some c=>
     dsimp only
     split
     ·rfl
     ·congr 1
      funext _r
      congr 1
      funext _u
      congr 1
      congr 1
      funext z2
      obtain⟨r2,n2,q2⟩:=z2
      cases r2 with
      |some r2=>rfl
      |none=>
       dsimp only
       split
       ·congr 1
        funext _v
        congr 1
        funext _w
        congr 1
        funext z3
        obtain⟨r3,n3⟩:=z3
        cases r3<;>rfl
       ·congr 1
        funext _w
        congr 1
        funext z3
        obtain⟨r3,n3⟩:=z3
        cases r3<;>rfl
   ·congr 1
    funext _u
    congr 1
    congr 1
    funext z2
    obtain⟨r2,n2,q2⟩:=z2
    cases r2 with
    |some r2=>rfl
    |none=>
     dsimp only
     split
     ·congr 1
      funext _v
      congr 1
      funext _w
      congr 1
      funext z3
      obtain⟨r3,n3⟩:=z3
      cases r3<;>rfl
     ·congr 1
      funext _w
      congr 1
      funext z3
      obtain⟨r3,n3⟩:=z3
      cases r3<;>rfl
structure SS(κ:SortKind)(it:Array Keyed)(z:SortSt)(p:Array Nat):Prop where
 kind:kindOf z=κ
 arr:arrOf z=p.map (kas_item it)
 fail:failedOf z=none
 ok:∀i∈p.toList,i<it.size
noncomputable def gY(z z' :SortSt):Prop:=pendingOf z' =pendingOf z
noncomputable def Rk(rk:Nat→Int)(p:Array Nat)(i:Nat):Int:=rk (p.getD i 0)
noncomputable def Up'(rk:Nat→Int)(p:Array Nat)(lo hi:Nat):Prop:=∀u v,lo≤u→u≤v→v<hi→Rk rk p u≤Rk rk p v
noncomputable def Dn'(rk:Nat→Int)(p:Array Nat)(lo hi:Nat):Prop:=∀u v,lo≤u→u≤v→v<hi→Rk rk p v≤Rk rk p u
structure Ag(lo hi:Nat)(p p' :Array Nat):Prop where
 perm:p'.Perm p
 out:∀k,k<lo∨hi≤k→p'[k]? =p[k]?
theorem Ag.refl{lo hi:Nat}{p:Array Nat}:Ag lo hi p p:=⟨Array.Perm.refl _,λ_ _=>rfl⟩
theorem Ag.trans{lo hi:Nat}{p q r:Array Nat}(a:Ag lo hi p q)(b:Ag lo hi q r):Ag lo hi p r:=⟨b.perm.trans a.perm,λk h=>(b.out k h).trans (a.out k h)⟩
theorem Ag.size{lo hi:Nat}{p q:Array Nat}(a:Ag lo hi p q):q.size=p.size:=by
 have:=a.perm.toList.length_eq
 simpa using this
theorem Ag.mono{lo hi hi' :Nat}{p q:Array Nat}(a:Ag lo hi p q)(h:hi≤hi'):Ag lo hi' p q:=⟨a.perm,λk z=>a.out k (by omega)⟩
theorem Ag.rk{rk:Nat→Int}{lo hi k:Nat}{p q:Array Nat}(a:Ag lo hi p q)(h:k<lo∨hi≤k):Rk rk q k=Rk rk p k:=by
 unfold Rk
 have:=a.out k h
 simp only[GaM,this]
theorem iu{lo hi:Nat}{p:Array Nat}(h:hi≤p.size):Ag lo hi p (mirror p lo hi ((hi -lo)/2)):=⟨mirror_perm _ _ _ _,λk z=>by
 rw[getElem?_mirror_all h,Gae (by omega)]⟩
theorem kf{rk:Nat→Int}{i j k:Nat}{p:Array Nat}(h:j≤p.size):Rk rk (mirror p i j ((j -i)/2)) k=if i≤k∧k<j then Rk rk p (i+j -1 -k) else Rk rk p k:=by
 unfold Rk
 simp only[GaM,getElem?_mirror_all h]
 split<;>rfl
theorem cS{rk:Nat→Int}{i j k:Nat}{p:Array Nat}(h:j≤p.size)(e:∀u,i≤u→u<j→Rk rk p u=Rk rk p (j -1)):Rk rk (mirror p i j ((j -i)/2)) k=Rk rk p k:=by
 rw[kf h]
 split
 ·rename_i z
  rw[e _ (by omega) (by omega),e k z.1 z.2]
 ·rfl
section
variable{prog:Program}{w:World}{A:Around}{E:Value→Shared→Prop}{s:Shared}{st:SortSt}{κ:SortKind}{it:Array Keyed}{rk:Nat→Int}{p:Array Nat}
theorem SS.rep(S:SS κ it st p):aO it (arrOf st) p.toList:=⟨by rw[S.arr];apply Gcc.mp;simp,S.ok⟩
theorem SS.move{p' :Array Nat}{xs:Array Keyed}(S:SS κ it st p)(pm:p'.Perm p)(e:xs=p'.map (kas_item it)):SS κ it (setArr st xs) p' :=⟨S.kind,e,S.fail,λi hi=>S.ok i (by
 have:=pm.toList.mem_iff (a:=i)
 exact this.mp hi)⟩
theorem wp_at{i j:Nat}{Q:Option Bool→SortSt→Prop}(hA:dq prog w A s κ it rk)(S:SS κ it st p)(hi:i<p.size)(hj:j<p.size)(h:Q (some (decide (Rk rk p i<Rk rk p j))) st):wpS (model prog w) A E s (ltAt' i j) Q st:=by
 rw[ltAt'_eq]
 refine Gal (Gdo ?_)
 have gi:p.toList[i]? =some (p.getD i 0):=by simp[Array.getD,hi]
 have gj:p.toList[j]? =some (p.getD j 0):=by simp[Array.getD,hj]
 exact Gal (aU S.rep gi (Gal (aU S.rep gj (qA hA S.kind (S.rep.lt gi) (S.rep.lt gj) h))))
theorem pD{i j:Nat}{Q:Unit→SortSt→Prop}(S:SS κ it st p)(h:∀z,SS κ it z (mirror p i j ((j -i)/2))→gY st z→Q () z):wpS (model prog w) A E s (reverseSlice' i j) Q st:=by
 rw[reverseSlice'_eq]
 refine Gcb (h _ (S.move (mirror_perm _ _ _ _) ?_) rfl)
 rw[S.arr]
 exact kas_swaps_map (kas_item it) (λk=>i+k) (λk=>j -1 -k) _ p
theorem u7{lo a nrem:Nat}{Q:DU→SortSt→Prop}(hA:dq prog w A s κ it rk)(S:SS κ it st p)(h1:1≤a)(ha:a≤nrem)(hz:lo+nrem≤p.size)(hu:Up' rk p lo (lo+a))
  (h:∀m,a≤m→m≤nrem→Up' rk p lo (lo+m)→(m=nrem∨Rk rk p (lo+m)<Rk rk p (lo+m -1))→Q (none,m) st):wpS (model prog w) A E s (Af lo a nrem) Q st:=by
 unfold Af
 refine Gbr (I:=λx c z=>z=st∧c=(none,x)∧Up' rk p lo (lo+x)) ?step ?fin ⟨rfl,rfl,hu⟩
 case fin=>
  rintro c z ⟨rfl,rfl,q⟩
  rw[show max a nrem=nrem by omega] at q⊢
  exact h nrem ha (Gau _) q (.inl rfl)
 case step=>
  rintro x c z h2 h3 ⟨rfl,rfl,q⟩
  dsimp only
  refine Gal (wp_at hA S (by omega) (by omega) ?_)
  dsimp only
  by_cases lt:Rk rk p (lo+x)<Rk rk p (lo+x -1)
  ·rw[GaD lt]
   simp only[Gbf]
   exact Gaw (h x h2 (by omega) q (.inr lt))
  ·rw[GaE lt]
   simp only[Gai,GaB]
   refine Gaw ⟨rfl,rfl,λu v a1 a2 a3=> ?_⟩
   by_cases hv:v<lo+x
   ·exact q u v a1 a2 hv
   ·have e:v=lo+x:=by omega
    subst e
    by_cases hu:u=lo+x
    ·subst hu;exact Gbn _
    ·have:=q u (lo+x -1) a1 (by omega) (by omega)
     omega
theorem qD{lo n nrem:Nat}{Q:Option Nat→SortSt→Prop}(hA:dq prog w A s κ it rk)(S:SS κ it st p)(h1:1≤n)(hn:n≤nrem)(hz:lo+nrem≤p.size)(hd:Dn' rk p lo (lo+n))
  (h:∀m z p',SS κ it z p' →gY st z→Ag lo (lo+nrem) p p' →1≤m→m≤nrem→Up' rk p' lo (lo+m)→Q (some m) z):wpS (model prog w) A E s (qC lo n nrem) Q st:=by
 unfold qC
 refine Gal (pD S λz S' hp=> ?_)
 have ag:Ag lo (lo+n) p (mirror p lo (lo+n) ((lo+n -lo)/2)):=iu (by omega)
 refine Gal (u7 hA S' h1 hn (by rw[ag.size];exact hz) (λu v a1 a2 a3=> ?_) λm m1 m2 m3 _=> ?_)
 ·rw[kf (by omega),kf (by omega),Gag (by omega),Gag (by omega)]
  exact hd _ _ (by omega) (by omega) (by omega)
 ·exact Gaw (h m z _ S' hp (ag.mono (by omega)) (by omega) m2 m3)
theorem Ah{lo n nrem:Nat}{Q:DV→SortSt→Prop}(hA:dq prog w A s κ it rk)(S:SS κ it st p)(h1:1≤n)(hn:n≤nrem)(hz:lo+nrem≤p.size)(hd:Dn' rk p lo (lo+n))
  (h:∀m e z p',SS κ it z p' →gY st z→Ag lo (lo+nrem) p p' →n≤m→m≤nrem→Dn' rk p' lo (lo+m)→e+1≤m→(∀u,lo+m -(e+1)≤u→u<lo+m→Rk rk p' u=Rk rk p' (lo+m -1))→Q (none,m,e) z):wpS (model prog w) A E s (u6 lo n nrem) Q st:=by
 unfold u6
 refine Gbr (I:=λx c z=>∃e p',c=(none,x,e)∧SS κ it z p' ∧gY st z∧Ag lo (lo+nrem) p p' ∧Dn' rk p' lo (lo+x)∧e+1≤x∧(∀u,lo+x -(e+1)≤u→u<lo+x→Rk rk p' u=Rk rk p' (lo+x -1))) ?step ?fin
  ⟨0,p,rfl,S,rfl,.refl,hd,by omega,λu a1 a2=>by rw[show u=lo+n -1 by omega]⟩
 case fin=>
  rintro c z ⟨e,p',rfl,S',hp,ag,d,e1,e2⟩
  rw[show max n nrem=nrem by omega] at d e1 e2⊢
  exact h nrem e z p' S' hp ag hn (Gau _) d e1 e2
 case step=>
  rintro x c z h2 h3 ⟨e,p',rfl,S',hp,ag,d,e1,e2⟩
  have sz:=ag.size
  dsimp only
  refine Gal (wp_at hA S' (by omega) (by omega) ?_)
  dsimp only
  by_cases lt:Rk rk p' (lo+x)<Rk rk p' (lo+x -1)
  ·rw[GaD lt]
   simp only[Gbf]
   have dn:∀r:Array Nat,(∀k,Rk rk r k=Rk rk p' k)→Dn' rk r lo (lo+(x+1)):=λr hr u v a1 a2 a3=>by
    rw[hr,hr]
    by_cases hv:v<lo+x
    ·exact d u v a1 a2 hv
    ·have ev:v=lo+x:=by omega
     subst ev
     by_cases hu:u=lo+x
     ·subst hu;exact Gbn _
     ·have:=d u (lo+x -1) a1 (by omega) (by omega)
      omega
   by_cases g:e>0
   ·rw[Gag g]
    refine Gal (pD S' λz' S2 hp2=>Gaw ⟨0,_,rfl,S2,hp2.trans hp,ag.trans ?_,dn _ λk=>cS (by omega) e2,by omega,λu a1 a2=>by rw[show u=lo+(x+1)-1 by omega]⟩)
    have am:Ag (lo+x -(e+1)) (lo+x) p' (mirror p' (lo+x -(e+1)) (lo+x) ((lo+x -(lo+x -(e+1)))/2)):=iu (by omega)
    exact⟨am.perm,λk hk=>am.out k (by omega)⟩
   ·rw[Gae g]
    exact Gaw ⟨0,p',rfl,S',hp,ag,dn p' λ_=>rfl,by omega,λu a1 a2=>by rw[show u=lo+(x+1)-1 by omega]⟩
  ·rw[GaE lt]
   simp only[Gai,GaB]
   refine Gal (wp_at hA S' (by omega) (by omega) ?_)
   dsimp only
   by_cases gt:Rk rk p' (lo+x -1)<Rk rk p' (lo+x)
   ·rw[GaD gt]
    simp only[Gbf]
    exact Gaw (h x e z p' S' hp ag h2 (by omega) d e1 e2)
   ·rw[GaE gt]
    simp only[Gai,GaB]
    have eq:Rk rk p' (lo+x)=Rk rk p' (lo+x -1):=by omega
    refine Gaw ⟨e+1,p',rfl,S',hp,ag,λu v a1 a2 a3=> ?_,by omega,λu a1 a2=> ?_⟩
    ·by_cases hv:v<lo+x
     ·exact d u v a1 a2 hv
     ·have ev:v=lo+x:=by omega
      subst ev
      by_cases hu:u=lo+x
      ·subst hu;exact Gbn _
      ·have:=d u (lo+x -1) a1 (by omega) (by omega)
       omega
    ·rw[show lo+(x+1)-1=lo+x by omega,eq]
     by_cases hu:u=lo+x
     ·subst hu;exact eq
     ·exact e2 u (by omega) (by omega)
theorem oh{lo n nrem:Nat}{Q:Option Nat→SortSt→Prop}(hA:dq prog w A s κ it rk)(S:SS κ it st p)(h1:1≤n)(hn:n+1≤nrem)(hz:lo+nrem≤p.size)(hd:Dn' rk p lo (lo+(n+1)))
  (h:∀m z p',SS κ it z p' →gY st z→Ag lo (lo+nrem) p p' →1≤m→m≤nrem→Up' rk p' lo (lo+m)→Q (some m) z):wpS (model prog w) A E s (mQ lo n nrem) Q st:=by
 unfold mQ
 refine Gal (wpS_lift (Gcz ⟨rfl, ?_⟩))
 refine Gal (Ah hA S (by omega) hn hz hd λm e z p' S' hp ag m1 m2 d e1 e2=> ?_)
 have sz:=ag.size
 dsimp only
 by_cases g:e>0
 ·rw[Gag g]
  refine Gal (pD S' λz2 S2 hp2=> ?_)
  have am:Ag (lo+m -(e+1)) (lo+m) p' (mirror p' (lo+m -(e+1)) (lo+m) ((lo+m -(lo+m -(e+1)))/2)):=iu (by omega)
  have am' :Ag lo (lo+nrem) p' (mirror p' (lo+m -(e+1)) (lo+m) ((lo+m -(lo+m -(e+1)))/2)):=⟨am.perm,λk hk=>am.out k (by omega)⟩
  refine qD hA S2 (by omega) m2 (by rw[am.size];omega) (λu v a1 a2 a3=> ?_) λm' z3 p3 S3 hp3 ag3=>h m' z3 p3 S3 ((hp3.trans hp2).trans hp) ((ag.trans am').trans ag3)
  rw[cS (by omega) e2,cS (by omega) e2]
  exact d u v a1 a2 a3
 ·rw[Gae g]
  exact qD hA S' (by omega) m2 (by omega) d λm' z3 p3 S3 hp3 ag3=>h m' z3 p3 S3 (hp3.trans hp) (ag.trans ag3)
theorem Ai{lo nrem:Nat}{Q:Option Nat→SortSt→Prop}(hA:dq prog w A s κ it rk)(S:SS κ it st p)(h1:1≤nrem)(hz:lo+nrem≤p.size)
  (h:∀m z p',SS κ it z p' →gY st z→Ag lo (lo+nrem) p p' →1≤m→m≤nrem→Up' rk p' lo (lo+m)→Q (some m) z):wpS (model prog w) A E s (countRun' lo nrem) Q st:=by
 rw[pC]
 unfold DW
 refine Gal (u7 hA S (Gau _) h1 hz (λu v a1 a2 a3=>by rw[show u=v by omega];exact Gbn _) λn n1 n2 up stop=> ?_)
 dsimp only
 by_cases c1:(n==nrem)=true
 ·rw[Gag c1]
  exact Gaw (h n st p S rfl .refl n1 n2 up)
 rw[Gae c1]
 have c1' :n≠nrem:=by simpa using c1
 have lt:Rk rk p (lo+n)<Rk rk p (lo+n -1):=stop.resolve_left c1'
 by_cases c2:n>1
 ·rw[Gag c2]
  refine Gal (wp_at hA S (by omega) (by omega) ?_)
  dsimp only
  by_cases ro:Rk rk p lo<Rk rk p (lo+n -1)
  ·rw[GaD ro]
   simp only[Gbf]
   exact Gaw (h n st p S rfl .refl n1 n2 up)
  ·rw[GaE ro]
   simp only[Gai,GaB]
   have eq:∀u,lo≤u→u<lo+n→Rk rk p u=Rk rk p (lo+n -1):=λu a1 a2=>by
    have b1:=up lo u (Gau _) a1 a2
    have b2:=up u (lo+n -1) a1 (by omega) (by omega)
    omega
   refine Gal (pD S λz S' hp=> ?_)
   have am:Ag lo (lo+n) p (mirror p lo (lo+n) ((lo+n -lo)/2)):=iu (by omega)
   refine oh hA S' n1 (by omega) (by rw[am.size];exact hz) (λu v a1 a2 a3=> ?_) λm' z3 p3 S3 hp3 ag3=>h m' z3 p3 S3 (hp3.trans hp) ((am.mono (by omega)).trans ag3)
   rw[cS (by omega) eq,cS (by omega) eq]
   by_cases hv:v<lo+n
   ·rw[eq u a1 (by omega),eq v (by omega) hv];exact Gbn _
   ·rw[show v=lo+n by omega]
    by_cases hu:u=lo+n
    ·subst hu;exact Gbn _
    ·rw[eq u a1 (by omega)];omega
 ·rw[Gae c2]
  have n1' :n=1:=by omega
  subst n1'
  refine oh hA S (Gau _) (by omega) hz (λu v a1 a2 a3=> ?_) h
  by_cases e1:u=v
  ·subst e1;exact Gbn _
  ·rw[show v=lo+1 by omega,show u=lo+1 -1 by omega];omega
end
theorem oj{rk:Nat→Int}{src d k:Nat}{p:Array Nat}(h:src<p.size)(hd:d≤src):Rk rk (bubble p src d) k=if k=src -d then Rk rk p src else if src -d<k∧k≤src then Rk rk p (k -1) else Rk rk p k:=by
 unfold Rk
 simp only[GaM,getElem?_bubble h d hd]
 split
 ·rfl
 ·split<;>rfl
section
variable{prog:Program}{w:World}{A:Around}{E:Value→Shared→Prop}{s:Shared}{st:SortSt}{κ:SortKind}{it:Array Keyed}{rk:Nat→Int}{p:Array Nat}
theorem BW{src dst:Nat}{Q:Unit→SortSt→Prop}(S:SS κ it st p)(h:∀z,SS κ it z (bubble p src (src -dst))→gY st z→Q () z):wpS (model prog w) A E s (moveDown' src dst) Q st:=by
 rw[moveDown'_eq]
 refine Gcb (h _ (S.move (bubble_perm _ _ _) ?_) rfl)
 rw[S.arr]
 exact kas_swaps_map (kas_item it) (λk=>src -k) (λk=>src -k -1) _ p
theorem DX{lo n ok:Nat}{Q:Bool→SortSt→Prop}(hA:dq prog w A s κ it rk)(S:SS κ it st p)(hz:lo+n≤p.size)(h1:1≤ok)(hok:ok≤n)(hu:Up' rk p lo (lo+ok))
  (h:∀z p',SS κ it z p' →gY st z→Ag lo (lo+n) p p' →Up' rk p' lo (lo+n)→Q true z):wpS (model prog w) A E s (binarySort' lo n ok) Q st:=by
 rw[binarySort'_eq]
 refine Gal (GbI (Gbr (I:=λk c z=>∃p',c=(none,())∧SS κ it z p' ∧gY st z∧Ag lo (lo+n) p p' ∧Up' rk p' lo (lo+k))
  (Q:=λc z=>∃p',c=(none,())∧SS κ it z p' ∧gY st z∧Ag lo (lo+n) p p' ∧Up' rk p' lo (lo+n)) ?step ?fin ⟨p,rfl,S,rfl,.refl,by rw[show max ok 1=ok by omega];exact hu⟩) ?post)
 case post=>
  rintro c z ⟨p',rfl,S',hp,ag,up⟩
  exact Gaw (h z p' S' hp ag up)
 case fin=>
  rintro c z ⟨p',rfl,S',hp,ag,up⟩
  rw[show max (max ok 1) n=n by omega] at up
  exact⟨p',rfl,S',hp,ag,up⟩
 case step=>
  rintro k c z k1 k2 ⟨p',rfl,S',hp,ag,up⟩
  have sz:=ag.size
  dsimp only
  refine Gal (GbI (Gbr (I:=λi c z' =>z' =z∧∃l r,c=(none,l,r)∧l≤r∧r≤k∧r -l≤k -i∧(∀u,u<l→Rk rk p' (lo+u)≤Rk rk p' (lo+k))∧(∀u,r≤u→u<k→Rk rk p' (lo+k)≤Rk rk p' (lo+u)))
   (Q:=λc z' =>z' =z∧∃l,c=(none,l,l)∧l≤k∧(∀u,u<l→Rk rk p' (lo+u)≤Rk rk p' (lo+k))∧(∀u,l≤u→u<k→Rk rk p' (lo+k)≤Rk rk p' (lo+u))) ?s1 ?f1 ⟨rfl,0,k,rfl,by omega,by omega,by omega,λu hu=>by omega,λu a1 a2=>by omega⟩) ?p1)
  case f1=>
   rintro c z' ⟨rfl,l,r,rfl,q1,q2,q3,q4,q5⟩
   have:l=r:=by omega
   subst this
   exact⟨rfl,l,rfl,q2,q4,q5⟩
  case s1=>
   rintro i c z' _ hi ⟨rfl,l,r,rfl,q1,q2,q3,q4,q5⟩
   dsimp only
   by_cases g:l≥r
   ·rw[Gag g]
    have:l=r:=by omega
    subst this
    exact Gaw ⟨rfl,l,rfl,q2,q4,q5⟩
   rw[Gae g]
   refine Gal (wp_at hA S' (by omega) (by omega) ?_)
   dsimp only
   by_cases lt:Rk rk p' (lo+k)<Rk rk p' (lo+(l+r)/2)
   ·rw[GaD lt]
    simp only[Gbf]
    refine Gaw ⟨rfl,l,(l+r)/2,rfl,by omega,by omega,by omega,q4,λu a1 a2=> ?_⟩
    have:=up (lo+(l+r)/2) (lo+u) (by omega) (by omega) (by omega)
    omega
   ·rw[GaE lt]
    simp only[Gai,GaB]
    refine Gaw ⟨rfl,(l+r)/2+1,r,rfl,by omega,by omega,by omega,λu a1=> ?_,q5⟩
    have:=up (lo+u) (lo+(l+r)/2) (by omega) (by omega) (by omega)
    omega
  case p1=>
   rintro c z' ⟨rfl,l,rfl,l1,l2,l3⟩
   dsimp only
   refine Gal (BW S' λz2 S2 hp2=>Gaw ⟨_,rfl,S2,hp2.trans hp,ag.trans ⟨bubble_perm _ _ _,λj hj=> ?_⟩,λu v a1 a2 a3=> ?_⟩)
   ·rw[getElem?_bubble (by omega) _ (by omega),Gae (by omega),Gae (by omega)]
   ·rw[oj (by omega) (by omega),oj (by omega) (by omega)]
    have e:lo+k -(lo+k -(lo+l))=lo+l:=by omega
    rw[e]
    by_cases u1:u=lo+l
    ·rw[Gag u1]
     by_cases v1:v=lo+l
     ·rw[Gag v1];exact Gbn _
     ·rw[Gae v1,Gag (by omega)]
      have:=l3 (v -1 -lo) (by omega) (by omega)
      rw[show lo+(v -1 -lo)=v -1 by omega] at this
      exact this
    ·rw[Gae u1]
     by_cases u2:lo+l<u∧u≤lo+k
     ·rw[Gag u2,Gae (by omega),Gag (by omega)]
      exact up _ _ (by omega) (by omega) (by omega)
     ·rw[Gae u2]
      have hu' :u<lo+l:=by omega
      by_cases v1:v=lo+l
      ·rw[Gag v1]
       have:=l2 (u -lo) (by omega)
       rw[show lo+(u -lo)=u by omega] at this
       exact this
      ·rw[Gae v1]
       by_cases v2:lo+l<v∧v≤lo+k
       ·rw[Gag v2]
        exact up _ _ (by omega) (by omega) (by omega)
       ·rw[Gae v2]
        exact up _ _ a1 a2 (by omega)
end
theorem DY{rk:Nat→Int}{p:Array Nat}{k x:Nat}(h:p.toList[k]? =some x):Rk rk p k=rk x:=by
 unfold Rk
 have h' :p[k]? =some x:=by simpa using h
 simp[GaM,h']
theorem pE{rk:Nat→Int}{p:Array Nat}{lo n:Nat}(hz:lo+n≤p.size):Up' rk p lo (lo+n)↔Srt rk ((p.toList.drop lo).take n):=by
 have len:((p.toList.drop lo).take n).length=n:=by simp;omega
 have at_:∀u,u<n→∃x,((p.toList.drop lo).take n)[u]? =some x∧Rk rk p (lo+u)=rk x:=λu hu=>by
  have h1:u<((p.toList.drop lo).take n).length:=by rw[len];exact hu
  refine⟨((p.toList.drop lo).take n)[u],Gac h1, ?_⟩
  have:=Gac h1
  rw[GaP hu,Gbd] at this
  exact DY this
 constructor
 ·intro h
  unfold Srt
  rw[Gck]
  intro i j hi hj hij
  rw[len] at hi hj
  obtain⟨x,e1,e2⟩:=at_ i hi
  obtain⟨y,e3,e4⟩:=at_ j hj
  obtain⟨_,e5⟩:=Gaf.mp e1
  obtain⟨_,e6⟩:=Gaf.mp e3
  rw[e5,e6,←e2,←e4]
  exact h _ _ (by omega) (by omega) (by omega)
 ·intro h u v a1 a2 a3
  obtain⟨x,e1,e2⟩:=at_ (u -lo) (by omega)
  obtain⟨y,e3,e4⟩:=at_ (v -lo) (by omega)
  rw[show lo+(u -lo)=u by omega] at e2
  rw[show lo+(v -lo)=v by omega] at e4
  rw[e2,e4]
  exact lK h (by omega) e1 e3
theorem qE{α:Type}(c:Nat):∀(m:List α) (n:Nat) (a:Array α),c+n+m.length≤a.size→((m.zipIdx n).foldl (λa (x:α×Nat)=>a.setIfInBounds (c+x.2) x.1) a).toList=a.toList.take (c+n)++m++a.toList.drop (c+n+m.length)
 |[],n,a,_=>by simp
 |x::m,n,a,h=>by
  rw[List.zipIdx_cons,Gdc]
  simp only[GbH] at h
  rw[qE c m (n+1) _ (by rw[Array.size_setIfInBounds];omega),Gdv]
  have hc:c+n<a.toList.length:=by simp;omega
  have e1:(a.toList.set (c+n) x).take (c+(n+1))=a.toList.take (c+n)++[x]:=by
   rw[show c+(n+1)=c+n+1 by omega,List.take_succ,List.take_set_of_le (Gau _),Gbj hc]
   rfl
  have e2:(a.toList.set (c+n) x).drop (c+(n+1)+m.length)=a.toList.drop (c+n+(x::m).length):=by
   rw[List.drop_set_of_lt (by omega)]
   congr 1
   simp only[GbH];omega
  rw[e1,e2]
  simp
theorem BX{M:Model}{A:Around}{E:Value→Shared→Prop}{s:Shared}{σ:Type}{x st:σ}{Q:PUnit→σ→Prop}(h:Q ⟨⟩ x):wpS M A E s (set x:StateT σ Sem PUnit) Q st:=by
 unfold wpS;rw[StateT.run_set];exact Gab ⟨rfl,h⟩
theorem BY(i:Nat):mergeAt' i=(do
 let z←get
 let(some (sa,na,w0),some (sb,nb,_)):=((pendingOf z)[i]?,(pendingOf z)[i+1]?)|unsupported "internal:list.sort.pending"
 set (setPending z (((pendingOf z).setIfInBounds i (sa,na+nb,w0)).eraseIdxIfInBounds (i+1)))
 let some k←gz false (←elem' (arrOf z) sb) (arrOf z) sa na 0|return false
 let(sc,nc):=(sa+k,na -k)
 if nc==0 then return true
 let some nd←gz true (←elem' (arrOf z) (sc+nc -1)) (arrOf z) sb nb (nb -1)|return false
 if nd==0 then return true
 let x:=(arrOf z).extract sc sb
 let y:=(arrOf z).extract sb (sb+nd)
 let mm←if nc≤nd then DJ x y else DQ x y
 modify λz=>setArr z (mm.toList.zipIdx.foldl (λa (q,j)=>a.setIfInBounds (sc+j) q) (arrOf z))
 return(failedOf (←get)).isNone):=rfl
section
variable{prog:Program}{w:World}{A:Around}{E:Value→Shared→Prop}{s:Shared}{st:SortSt}{κ:SortKind}{it:Array Keyed}{rk:Nat→Int}{p:Array Nat}
theorem BZ{l:List Nat}{a b:Nat}(h:a≤b):l=l.take a++(l.drop a).take (b -a)++l.drop b:=by
 rw[GaF,←Ac h,Gbe]
theorem sF{i sa na sb nb w0 w1:Nat}{Q:Bool→SortSt→Prop}(hA:dq prog w A s κ it rk)(S:SS κ it st p)(e1:(pendingOf st)[i]? =some (sa,na,w0))(e2:(pendingOf st)[i+1]? =some (sb,nb,w1))(hb:sb=sa+na)(ha0:0<na)(hb0:0<nb)(hz:sb+nb≤p.size)
  (ua:Up' rk p sa sb)(ub:Up' rk p sb (sb+nb))
  (h:∀z p',SS κ it z p' →pendingOf z=((pendingOf st).setIfInBounds i (sa,na+nb,w0)).eraseIdxIfInBounds (i+1)→Ag sa (sb+nb) p p' →Up' rk p' sa (sb+nb)→Q true z):wpS (model prog w) A E s (mergeAt' i) Q st:=by
 rw[BY]
 refine Gal (Gdo ?_)
 rw[e1,e2]
 dsimp only
 refine Gal (BX ?_)
 generalize hz1:setPending st (((pendingOf st).setIfInBounds i (sa,na+nb,w0)).eraseIdxIfInBounds (i+1))=z1
 have S1:SS κ it z1 p:=by rw[←hz1];exact⟨S.kind,S.arr,S.fail,S.ok⟩
 have pe:pendingOf z1=((pendingOf st).setIfInBounds i (sa,na+nb,w0)).eraseIdxIfInBounds (i+1):=by rw[←hz1]
 have R:=S.rep
 have szl:p.toList.length=p.size:=by simp
 subst hb
 have sA:Srt rk ((p.toList.drop sa).take na):=(pE (by omega)).mp ua
 have sB:Srt rk ((p.toList.drop (sa+na)).take nb):=(pE (by omega)).mp ub
 have whole:∀l:List Nat,(p.toList.drop sa).take (na+nb)=l→Srt rk l→Up' rk p sa (sa+na+nb):=λl hl hs=>by
  rw[GdX]
  exact(pE (by omega)).mpr (by rw[hl];exact hs)
 have split:(p.toList.drop sa).take (na+nb)=(p.toList.drop sa).take na++(p.toList.drop (sa+na)).take nb:=by
  rw[List.take_add,Gci]
 obtain⟨y0,ey0⟩:∃x,p.toList[sa+na]? =some x:=⟨_,Gac (by omega)⟩
 refine Gal (aU R ey0 ?_)
 refine Gal (ke hA S1.kind R (R.lt ey0) (by omega) sA ha0 λk k1 t1 t2=> ?_)
 simp only[Gai,GaB] at t1 t2
 dsimp only
 have hB0:((p.toList.drop (sa+na)).take nb)[0]? =some y0:=by
  rw[GaP hb0,Gbd];exact ey0
 have leB:∀y∈(p.toList.drop (sa+na)).take nb,rk y0≤rk y:=λy hy=>iq sB hB0 (by rw[Gcy];exact hy)
 by_cases c1:(na -k==0)=true
 ·rw[Gag c1]
  have:na -k=0:=by simpa using c1
  have kk:k=na:=by omega
  subst kk
  refine Gaw (h z1 p S1 pe .refl (whole _ split (bW sA sB λx hx y hy=> ?_)))
  have q1:=t1 x (by rw[GcO,Geh];exact hx)
  have q2:=leB y hy
  omega
 rw[Gae c1]
 have c1' :na -k≠0:=by simpa using c1
 obtain⟨x1,ex1⟩:∃x,p.toList[sa+k+(na -k)-1]? =some x:=⟨_,Gac (by omega)⟩
 refine Gal (aU R ex1 ?_)
 refine Gal (ke hA S1.kind R (R.lt ex1) (by omega) sB (by omega) λnd d1 t3 t4=> ?_)
 simp only[Gbf] at t3 t4
 dsimp only
 have hAl:((p.toList.drop sa).take na)[na -1]? =some x1:=by
  rw[GaP (by omega),Gbd,show sa+(na -1)=sa+k+(na -k)-1 by omega]
  exact ex1
 have leA:∀x∈(p.toList.drop sa).take na,rk x≤rk x1:=λx hx=>by
  refine ir (n:=na) sA hAl ?_
  rw[GcO,Geh];exact hx
 by_cases c2:(nd==0)=true
 ·rw[Gag c2]
  have nd0:nd=0:=by simpa using c2
  subst nd0
  refine Gaw (h z1 p S1 pe .refl (whole _ split (bW sA sB λx hx y hy=> ?_)))
  have q1:=leA x hx
  have q2:=t4 y (by rw[Gcy];exact hy)
  omega
 rw[Gae c2]
 have c2' :nd≠0:=by simpa using c2
 have Rx:aO it ((arrOf st).extract (sa+k) (sa+na)) ((p.toList.drop (sa+k)).take (na -k)):=by
  have:=R.extract (sa+k) (sa+na)
  rw[show sa+na -(sa+k)=na -k by omega] at this
  exact this
 have Ry:aO it ((arrOf st).extract (sa+na) (sa+na+nd)) ((p.toList.drop (sa+na)).take nd):=by
  have:=R.extract (sa+na) (sa+na+nd)
  rw[show sa+na+nd -(sa+na)=nd by omega] at this
  exact this
 have ePx:(p.toList.drop (sa+k)).take (na -k)=((p.toList.drop sa).take na).drop k:=by rw[Gdp,Gci]
 have ePy:(p.toList.drop (sa+na)).take nd=((p.toList.drop (sa+na)).take nb).take nd:=by rw[GcO,GdB d1]
 have sx:Srt rk ((p.toList.drop (sa+k)).take (na -k)):=by rw[ePx];exact cq sA k
 have sy:Srt rk ((p.toList.drop (sa+na)).take nd):=by rw[ePy];exact cR sB nd
 have lx:((p.toList.drop (sa+k)).take (na -k)).length=na -k:=by simp;omega
 have ly:((p.toList.drop (sa+na)).take nd).length=nd:=by simp;omega
 have f0:∀x,((p.toList.drop (sa+na)).take nd)[0]? =some x→∀y∈(p.toList.drop (sa+k)).take (na -k),rk x≤rk y:=λx hx y hy=>by
  rw[GaP (by omega),Gbd] at hx
  have:p.toList[sa+na]? =some x:=hx
  rw[ey0] at this;cases this
  rw[ePx] at hy
  have:=t2 y hy
  omega
 have fl:∀x,((p.toList.drop (sa+k)).take (na -k))[((p.toList.drop (sa+k)).take (na -k)).length -1]? =some x→∀y∈(p.toList.drop (sa+na)).take nd,rk y≤rk x:=λx hx y hy=>by
  rw[lx,GaP (by omega),Gbd,show sa+k+(na -k -1)=sa+k+(na -k)-1 by omega,ex1] at hx
  cases hx
  rw[ePy] at hy
  have:=t3 y hy
  omega
 have fin:∀mm z,bR z1 z→da it rk ((p.toList.drop (sa+k)).take (na -k)) ((p.toList.drop (sa+na)).take nd) mm→
   wpS (model prog w) A E s (do
    modify λz=>setArr z (mm.toList.zipIdx.foldl (λa (x:Keyed×Nat)=>a.setIfInBounds (sa+k+x.2) x.1) (arrOf z))
    let z' ←get
    pure (failedOf z').isNone) Q z:=by
  rintro mm z sg ⟨m,Rm,pm,sm⟩
  have lm:m.length=na -k+nd:=by have:=pm.length_eq;rw[GaL,lx,ly] at this;exact this
  refine Gal (Gcb (Gal (Gdo (Gaw ?_))))
  have ea:arrOf z=arrOf st:=sg.2.1.trans (by rw[S1.arr,S.arr])
  have hmm:mm.toList=m.map (kas_item it):=by rw[Rm.1]
  have hw:((mm.toList.zipIdx.foldl (λa (x:Keyed×Nat)=>a.setIfInBounds (sa+k+x.2) x.1) (arrOf z))).toList=(p.toList.take (sa+k)++m++p.toList.drop (sa+na+nd)).map (kas_item it):=by
   rw[hmm,ea]
   have:=qE (sa+k) (m.map (kas_item it)) 0 (arrOf st) (by rw[Gar,lm,R.size,szl];omega)
   rw[this,R.1]
   simp only[Gcr,List.map_take,List.map_drop,Gar,lm,Nat.add_zero]
   rw[show sa+k+(na -k+nd)=sa+na+nd by omega]
  have fz:failedOf (setArr z (mm.toList.zipIdx.foldl (λa (x:Keyed×Nat)=>a.setIfInBounds (sa+k+x.2) x.1) (arrOf z)))=none:=sg.2.2.2.trans S1.fail
  have pieces:p.toList=p.toList.take (sa+k)++((p.toList.drop (sa+k)).take (na -k)++(p.toList.drop (sa+na)).take nd)++p.toList.drop (sa+na+nd):=by
   conv=>lhs;rw[BZ (l:=p.toList) (show sa+k≤sa+na+nd by omega)]
   congr 2
   rw[show sa+na+nd -(sa+k)=(na -k)+nd by omega,List.take_add,Gci,show sa+k+(na -k)=sa+na by omega]
  generalize hl' :p.toList.take (sa+k)++m++p.toList.drop (sa+na+nd)=l' at hw
  have pl:l'.Perm p.toList:=by
   rw[←hl']
   conv=>rhs;rw[pieces]
   exact GbC _ (Gcj _ pm)
  have S2:SS κ it (setArr z (mm.toList.zipIdx.foldl (λa (x:Keyed×Nat)=>a.setIfInBounds (sa+k+x.2) x.1) (arrOf z))) l'.toArray:=by
   refine⟨sg.1.trans S1.kind, ?_,fz,λj hj=>S.ok j (pl.mem_iff.mp hj)⟩
   apply Gcc.mp
   show(mm.toList.zipIdx.foldl (λa (x:Keyed×Nat)=>a.setIfInBounds (sa+k+x.2) x.1) (arrOf z)).toList=_
   rw[hw];simp
  have lt1:(p.toList.take (sa+k)).length=sa+k:=by simp;omega
  have ag:Ag sa (sa+na+nb) p l'.toArray:=by
   refine⟨⟨pl⟩,λj hj=> ?_⟩
   show l'.toArray[j]? =p[j]?
   have g1:l'.toArray[j]? =l'[j]? :=by simp
   have g2:p[j]? =p.toList[j]? :=by simp
   rw[g1,g2,←hl']
   rcases hj with hj|hj
   ·rw[GaF,Gbh (by rw[lt1];omega),GaP (by omega)]
   ·rw[Gbo (by rw[GaL,lt1,lm];omega),GaL,lt1,lm,Gbd]
    congr 1;omega
  have nn:failedOf (setArr z (mm.toList.zipIdx.foldl (λa (x:Keyed×Nat)=>a.setIfInBounds (sa+k+x.2) x.1) (arrOf z)))=none:=fz
  have goal:=h _ l'.toArray S2 (sg.2.2.1.trans pe) ag ?_
  ·rw[nn];exact goal
  ·rw[GdX]
   refine(pE (by rw[Gao,pl.length_eq,szl];omega)).mpr ?_
   have seg:(l'.drop sa).take (na+nb)=((p.toList.drop sa).take na).take k++m++((p.toList.drop (sa+na)).take nb).drop nd:=by
    rw[←hl',GaF,List.drop_append_of_le_length (by rw[lt1];omega)]
    have q1:(p.toList.take (sa+k)).drop sa=((p.toList.drop sa).take na).take k:=by rw[Gdp,GcO,show sa+k -sa=k by omega,GdB k1]
    rw[q1]
    have lk:(((p.toList.drop sa).take na).take k).length=k:=by simp;omega
    rw[←GaF,List.take_append,GaL,lk,lm,GcA (by rw[GaL,lk,lm];omega)]
    congr 1
    rw[Gdp,Gci]
    congr 1
    omega
   show Srt rk ((l'.toArray.toList.drop sa).take (na+nb))
   show Srt rk ((l'.drop sa).take (na+nb))
   rw[seg]
   refine bW (bW (cR sA k) sm λx hx y hy=> ?_) (cq sB nd) λx hx y hy=> ?_
   ·rcases GaQ.mp (pm.mem_iff.mp hy) with hy|hy
    ·rw[ePx] at hy
     exact lL sA k x hx y hy
    ·rw[ePy] at hy
     have b1:=t1 x hx
     have b2:=leB y (Gbz hy)
     omega
   ·rcases GaQ.mp hx with hx|hx
    ·have b1:=leA x (Gbz hx)
     have b2:=t4 y hy
     omega
    ·rcases GaQ.mp (pm.mem_iff.mp hx) with hx|hx
     ·rw[ePx] at hx
      have b1:=leA x (GbX hx)
      have b2:=t4 y hy
      omega
     ·rw[ePy] at hx
      exact lL sB nd x hx y hy
 by_cases c3:na -k≤nd
 ·rw[Gag c3]
  exact Gal (Gb hA S1.kind Rx Ry sx sy (by omega) (by omega) f0 fl fin)
 ·rw[Gae c3]
  exact Gal (Gd hA S1.kind Rx Ry sx sy (by omega) (by omega) f0 fl fin)
end
noncomputable abbrev Run:=Nat×Nat×Nat
noncomputable def chain:Nat→List Run→Nat→Prop
 |a,[],b=>a=b
 |a,r::t,b=>r.1=a∧0<r.2.1∧chain (a+r.2.1) t b
theorem jv:∀{l:List Run} {a b:Nat},chain a l b→a+l.length≤b
 |[],a,b,h=>by have:a=b:=h;simp;omega
 |r::t,a,b,h=>by
  have:=jv h.2.2
  have:=h.2.1
  simp only[GbH];omega
theorem kg:∀{l:List Run} {a b:Nat} {r:Run},chain a l b→r∈l→a≤r.1∧r.1+r.2.1≤b∧0<r.2.1
 |q::t,a,b,r,h,hr=>by
  rcases Gas.mp hr with e|e
  ·subst e
   have:=jv h.2.2
   have:=h.1
   exact⟨by omega,by omega,h.2.1⟩
  ·have:=kg h.2.2 e
   exact⟨by omega,this.2.1,this.2.2⟩
theorem mR:∀{l:List Run} {a b:Nat} {n w0:Nat},chain a l b→0<n→chain a (l++[(b,n,w0)]) (b+n)
 |[],a,b,n,w0,h,hn=>by have:a=b:=h;subst this;exact⟨rfl,hn,rfl⟩
 |r::t,a,b,n,w0,h,hn=> ⟨h.1,h.2.1,mR h.2.2 hn⟩
theorem jw{f:Run→Run}(hf:∀r,(f r).1=r.1∧(f r).2.1=r.2.1):∀{l:List Run} {a b:Nat} (i:Nat),chain a l b→chain a (l.modify i f) b
 |[],a,b,i,h=>by simpa using h
 |r::t,a,b,0,h=>by
  rw[List.modify_zero_cons]
  exact⟨(hf r).1.trans h.1,by rw[(hf r).2];exact h.2.1,by rw[(hf r).2];exact h.2.2⟩
 |r::t,a,b,i+1,h=>by
  rw[List.modify_succ_cons]
  exact⟨h.1,h.2.1,jw hf i h.2.2⟩
theorem mem_modify{f:Run→Run}(hf:∀r,(f r).1=r.1∧(f r).2.1=r.2.1):∀{l:List Run} {i:Nat} {r:Run},r∈l.modify i f→∃r' ∈l,r'.1=r.1∧r'.2.1=r.2.1
 |[],i,r,h=>by simp at h
 |q::t,0,r,h=>by
  rw[List.modify_zero_cons] at h
  rcases Gas.mp h with e|e
  ·subst e;exact⟨q,Gav,(hf q).1.symm,(hf q).2.symm⟩
  ·exact⟨r,Gak _ e,rfl,rfl⟩
 |q::t,i+1,r,h=>by
  rw[List.modify_succ_cons] at h
  rcases Gas.mp h with e|e
  ·subst e;exact⟨r,Gav,rfl,rfl⟩
  ·obtain⟨r',h1,h2⟩:=mem_modify hf e
   exact⟨r',Gak _ h1,h2⟩
theorem kU:∀{l:List Run} {a b:Nat} {i sa na w0 sb nb w1:Nat},chain a l b→l[i]? =some (sa,na,w0)→l[i+1]? =some (sb,nb,w1)→
  sb=sa+na∧0<na∧0<nb∧a≤sa∧sb+nb≤b∧chain a ((l.set i (sa,na+nb,w0)).eraseIdx (i+1)) b∧∀r∈(l.set i (sa,na+nb,w0)).eraseIdx (i+1),r=(sa,na+nb,w0)∨(r∈l∧(r.1+r.2.1≤sa∨sb+nb≤r.1))
 |r::r2::t,a,b,0,sa,na,w0,sb,nb,w1,h,e1,e2=>by
  simp at e1 e2
  subst e1 e2
  obtain⟨h1,h2,h3,h4,h5⟩:=h
  have h1' :sa=a:=h1
  have h3' :sb=a+na:=h3
  have h2' :0<na:=h2
  have h4' :0<nb:=h4
  have le:=jv h5
  refine⟨by omega,h2',h4',by omega, ?_, ?_,λq hq=> ?_⟩
  ·have:a+na+nb≤b:=by
    have:a+(sa,na,w0).2.1+(sb,nb,w1).2.1+t.length≤b:=le
    have:a+na+nb+t.length≤b:=this
    omega
   omega
  ·show chain a ((sa,na+nb,w0)::t) b
   refine⟨h1,by show 0<na+nb;omega, ?_⟩
   show chain (a+(na+nb)) t b
   rw[←GdX]
   exact h5
  ·have hq' :q=(sa,na+nb,w0)∨q∈t:=by simpa using hq
   rcases hq' with e|e
   ·exact .inl e
   ·refine .inr ⟨Gak _ (Gak _ e),.inr ?_⟩
    have:=(kg h5 e).1
    have:a+na+nb≤q.1:=this
    omega
 |r::t,a,b,i+1,sa,na,w0,sb,nb,w1,h,e1,e2=>by
  rw[GdL] at e1 e2
  obtain⟨g1,g2,g3,g4,g5,g6,g7⟩:=kU h.2.2 e1 e2
  have:=h.2.1
  refine⟨g1,g2,g3,by omega,g5,⟨h.1,h.2.1, ?_⟩,λq hq=> ?_⟩
  ·exact g6
  ·have hq' :q=r∨q∈(t.set i (sa,na+nb,w0)).eraseIdx (i+1):=by simpa using hq
   rcases hq' with e|e
   ·subst e
    refine .inr ⟨Gav,.inl ?_⟩
    have:=h.1
    omega
   ·rcases g7 q e with z| ⟨z1,z2⟩
    ·exact .inl z
    ·exact .inr ⟨Gak _ z1,z2⟩
section
variable{prog:Program}{w:World}{A:Around}{E:Value→Shared→Prop}{s:Shared}{st:SortSt}{κ:SortKind}{it:Array Keyed}{rk:Nat→Int}{p0 p:Array Nat}
structure Pd(κ:SortKind)(it:Array Keyed)(rk:Nat→Int)(p0:Array Nat)(lo:Nat)(z:SortSt)(p:Array Nat):Prop where
 ss:SS κ it z p
 perm:p.Perm p0
 ch:chain 0 (pendingOf z).toList lo
 up:∀r∈(pendingOf z).toList,Up' rk p r.1 (r.1+r.2.1)
 le:lo≤p0.size
theorem Pd.size{lo:Nat}{z:SortSt}(P:Pd κ it rk p0 lo z p):p.size=p0.size:=by
 have:=P.perm.toList.length_eq
 simpa using this
theorem mS{lo i:Nat}{Q:Bool→SortSt→Prop}(hA:dq prog w A s κ it rk)(P:Pd κ it rk p0 lo st p)(hi:i+1<(pendingOf st).size)
  (h:∀z p',Pd κ it rk p0 lo z p' →Ag 0 lo p p' →(pendingOf z).size+1=(pendingOf st).size→Q true z):wpS (model prog w) A E s (mergeAt' i) Q st:=by
 obtain⟨⟨sa,na,w0⟩,e1⟩:∃x,(pendingOf st)[i]? =some x:=⟨_,Gap (by omega)⟩
 obtain⟨⟨sb,nb,w1⟩,e2⟩:∃x,(pendingOf st)[i+1]? =some x:=⟨_,Gap hi⟩
 have e1' :(pendingOf st).toList[i]? =some (sa,na,w0):=by simpa using e1
 have e2' :(pendingOf st).toList[i+1]? =some (sb,nb,w1):=by simpa using e2
 obtain⟨g1,g2,g3,g4,g5,g6,g7⟩:=kU P.ch e1' e2'
 have le:=P.le
 have sz:=P.size
 have u1:=P.up _ (GaO e1')
 have u2:=P.up _ (GaO e2')
 refine sF hA P.ss e1 e2 g1 g2 g3 (by omega) (by rw[g1];exact u1) u2 λz p' S' pe ag up' => ?_
 have tl:(pendingOf z).toList=((pendingOf st).toList.set i (sa,na+nb,w0)).eraseIdx (i+1):=by
  rw[pe]
  simp[Array.toList_eraseIdxIfInBounds,Gdv]
 have aL:Ag 0 lo p p' :=⟨ag.perm,λk hk=>ag.out k (by omega)⟩
 refine h z p' ⟨S',ag.perm.trans P.perm,by rw[tl];exact g6,λr hr=> ?_,P.le⟩ aL ?_
 ·rw[tl] at hr
  rcases g7 r hr with e| ⟨hr1,hr2⟩
  ·subst e
   show Up' rk p' sa (sa+(na+nb))
   rw[←GdX,←g1];exact up'
  ·intro u v a1 a2 a3
   rw[ag.rk (by omega),ag.rk (by omega)]
   exact P.up r hr1 u v a1 a2 a3
 ·have l1:(pendingOf z).size=(pendingOf z).toList.length:=by simp
  have l2:(pendingOf st).size=(pendingOf st).toList.length:=by simp
  rw[l1,l2,tl,Gdw (by rw[Gee,←l2];exact hi),Gee]
  omega
end
section
variable{prog:Program}{w:World}{A:Around}{E:Value→Shared→Prop}{s:Shared}{st:SortSt}{κ:SortKind}{it:Array Keyed}{rk:Nat→Int}{p0 p:Array Nat}
theorem Pd.push{lo n:Nat}{z:SortSt}(P:Pd κ it rk p0 lo z p)(hn:0<n)(hz:lo+n≤p0.size)(hu:Up' rk p lo (lo+n)):Pd κ it rk p0 (lo+n) (setPending z ((pendingOf z).push (lo,n,0))) p:=by
 refine⟨⟨P.ss.kind,P.ss.arr,P.ss.fail,P.ss.ok⟩,P.perm, ?_,λr hr=> ?_,hz⟩
 ·show chain 0 ((pendingOf z).push (lo,n,0)).toList (lo+n)
  rw[Gdi]
  exact mR P.ch hn
 ·have hr' :r∈((pendingOf z).push (lo,n,0)).toList:=hr
  rw[Gdi] at hr'
  rcases GaQ.mp hr' with e|e
  ·exact P.up r e
  ·simp at e;subst e;exact hu
theorem Pd.modify{lo i:Nat}{z:SortSt}{f:Run→Run}(P:Pd κ it rk p0 lo z p)(hf:∀r,(f r).1=r.1∧(f r).2.1=r.2.1):Pd κ it rk p0 lo (setPending z ((pendingOf z).modify i f)) p:=by
 refine⟨⟨P.ss.kind,P.ss.arr,P.ss.fail,P.ss.ok⟩,P.perm, ?_,λr hr=> ?_,P.le⟩
 ·show chain 0 ((pendingOf z).modify i f).toList lo
  rw[Array.toList_modify]
  exact jw hf i P.ch
 ·have hr' :r∈((pendingOf z).modify i f).toList:=hr
  rw[Array.toList_modify] at hr'
  obtain⟨r',h1,h2,h3⟩:=mem_modify hf hr'
  rw[←h2,←h3]
  exact P.up r' h1
theorem C0{Q:Unit→SortSt→Prop}(hA:dq prog w A s κ it rk)(S:SS κ it st p0)(hp:pendingOf st=#[])(h1:1≤p0.size)
  (h:∀z p,SS κ it z p→p.Perm p0→Up' rk p 0 p0.size→Q () z):wpS (model prog w) A E s sortRuns' Q st:=by
 rw[sortRuns'_eq]
 refine Gal (Gdo ?_)
 dsimp only
 have sz:(arrOf st).size=p0.size:=by rw[S.arr];simp
 rw[sz]
 generalize minRun' p0.size p0.size 0=mr
 have P0:Pd κ it rk p0 0 st p0:=⟨S,Array.Perm.refl _,by rw[hp];rfl,λr hr=>(by rw[hp] at hr;cases hr),by omega⟩
 refine Gal (GbI (Gbr (I:=λx c z=>∃lo p,c=(none,lo)∧Pd κ it rk p0 lo z p∧(x≤lo))
  (Q:=λc z=>∃p,c=(none,p0.size)∧Pd κ it rk p0 p0.size z p) ?step ?fin ⟨0,p0,rfl,P0,Gau _⟩) ?post)
 case fin=>
  rintro c z ⟨lo,p,rfl,P,hx⟩
  have:=P.le
  have e:lo=p0.size:=by
   have:max 0 p0.size=p0.size:=by omega
   omega
  subst e
  exact⟨p,rfl,P⟩
 case step=>
  rintro x c z _ hx ⟨lo,p,rfl,P,hlo⟩
  dsimp only
  have le:=P.le
  have szp:=P.size
  by_cases c1:lo≥p0.size
  ·rw[Gag c1]
   have e:lo=p0.size:=by omega
   subst e
   exact Gaw ⟨p,rfl,P⟩
  rw[Gae c1]
  refine Gal (Ai hA P.ss (by omega) (by omega) λm z1 p1 S1 hp1 ag1 m1 m2 up1=> ?_)
  dsimp only
  have carry:∀{n:Nat} {z2:SortSt} {p2:Array Nat},SS κ it z2 p2→gY z z2→Ag lo (lo+n) p p2→lo+n≤p0.size→Pd κ it rk p0 lo z2 p2:=λ{n z2 p2} S2 hp2 ag2 hn=>by
   have hp2' :pendingOf z2=pendingOf z:=hp2
   refine⟨S2,ag2.perm.trans P.perm,by rw[hp2'];exact P.ch,λr hr=> ?_,le⟩
   rw[hp2'] at hr
   have:=(kg P.ch hr).2.1
   intro u v a1 a2 a3
   rw[ag2.rk (by omega),ag2.rk (by omega)]
   exact P.up r hr u v a1 a2 a3
  by_cases c2:m<mr
  ·rw[Gag c2]
   refine Gal (wpS_lift (Gcz ⟨rfl, ?_⟩))
   have sz1:=ag1.size
   refine Gal (DX hA S1 (by omega) m1 (by omega) up1 λz2 p2 S2 hp2 ag2 up2=> ?_)
   simp only[GbT,Gai,GaB]
   obtain⟨n,hnn⟩:∃n,n=min (p0.size -lo) mr:=⟨_,rfl⟩
   have P2:Pd κ it rk p0 lo z2 p2:=carry S2 (hp2.trans hp1) (ag1.trans (ag2.mono (by omega))|>.mono (hi' :=lo+(p0.size -lo)) (by omega)) (by omega)
   rw[←hnn] at up2⊢
   have n0:0<n:=by omega
   have hn:lo+n≤p0.size:=by omega
   refine Gal (Gdo ?_)
   cases hb:(pendingOf z2).back? with
   |none=>
    dsimp only
    exact Gal (Gcb (Gaw ⟨lo+n,p2,rfl,P2.push n0 hn up2,by omega⟩))
   |some r=>
    obtain⟨s1,n1,w1⟩:=r
    dsimp only
    refine Gal (GbI (Gbr (I:=λ_ c y=>c=(none,⟨⟩)∧∃p3,Pd κ it rk p0 lo y p3∧Up' rk p3 lo (lo+n)) (Q:=λc y=>c=(none,⟨⟩)∧∃p3,Pd κ it rk p0 lo y p3∧Up' rk p3 lo (lo+n)) ?s1 (λ_ _ z=>z) ⟨rfl,p2,P2,up2⟩) ?p1)
    case p1=>
     rintro c y ⟨rfl,p3,P3,up3⟩
     dsimp only
     refine Gal (Gcb (Gal (Gcb (Gaw ⟨lo+n,p3,rfl, ?_,by omega⟩))))
     exact(P3.modify (f:=λx=>(x.1,x.2.1,power' p0.size (2*s1+n1) (2*s1+n1+n1+n) p0.size)) (λr=> ⟨rfl,rfl⟩)).push n0 hn up3
    case s1=>
     rintro i c y _ _ ⟨rfl,p3,P3,up3⟩
     refine Gal (Gdo ?_)
     by_cases g:(pendingOf y).size>1
     ·rw[Gag g]
      obtain⟨⟨t1,t2,t3⟩,ht⟩:∃x,(pendingOf y)[(pendingOf y).size -2]? =some x:=⟨_,Gap (by omega)⟩
      rw[ht]
      dsimp only
      split
      ·exact Gaw ⟨rfl,p3,P3,up3⟩
      ·refine Gal (mS hA P3 (by omega) λy2 p4 P4 ag4 _=> ?_)
       simp only[GbT,Gai,GaB]
       refine Gaw ⟨rfl,p4,P4,λu v a1 a2 a3=> ?_⟩
       rw[ag4.rk (by omega),ag4.rk (by omega)]
       exact up3 u v a1 a2 a3
     ·rw[Gae g]
      exact Gaw ⟨rfl,p3,P3,up3⟩
  ·rw[Gae c2]
   obtain⟨n,hnn⟩:∃n,n=m:=⟨_,rfl⟩
   rw[←hnn] at up1⊢
   have P2:Pd κ it rk p0 lo z1 p1:=carry S1 hp1 (ag1.mono (hi' :=lo+(p0.size -lo)) (by omega)) (by omega)
   have n0:0<n:=by omega
   have hn:lo+n≤p0.size:=by omega
   refine Gal (Gdo ?_)
   cases hb:(pendingOf z1).back? with
   |none=>
    dsimp only
    exact Gal (Gcb (Gaw ⟨lo+n,p1,rfl,P2.push n0 hn up1,by omega⟩))
   |some r=>
    obtain⟨s1,n1,w1⟩:=r
    dsimp only
    refine Gal (GbI (Gbr (I:=λ_ c y=>c=(none,⟨⟩)∧∃p3,Pd κ it rk p0 lo y p3∧Up' rk p3 lo (lo+n)) (Q:=λc y=>c=(none,⟨⟩)∧∃p3,Pd κ it rk p0 lo y p3∧Up' rk p3 lo (lo+n)) ?s1 (λ_ _ z=>z) ⟨rfl,p1,P2,up1⟩) ?pp)
    case pp=>
     rintro c y ⟨rfl,p3,P3,up3⟩
     dsimp only
     refine Gal (Gcb (Gal (Gcb (Gaw ⟨lo+n,p3,rfl, ?_,by omega⟩))))
     exact(P3.modify (f:=λx=>(x.1,x.2.1,power' p0.size (2*s1+n1) (2*s1+n1+n1+n) p0.size)) (λr=> ⟨rfl,rfl⟩)).push n0 hn up3
    case s1=>
     rintro i c y _ _ ⟨rfl,p3,P3,up3⟩
     refine Gal (Gdo ?_)
     by_cases g:(pendingOf y).size>1
     ·rw[Gag g]
      obtain⟨⟨t1,t2,t3⟩,ht⟩:∃x,(pendingOf y)[(pendingOf y).size -2]? =some x:=⟨_,Gap (by omega)⟩
      rw[ht]
      dsimp only
      split
      ·exact Gaw ⟨rfl,p3,P3,up3⟩
      ·refine Gal (mS hA P3 (by omega) λy2 p4 P4 ag4 _=> ?_)
       simp only[GbT,Gai,GaB]
       refine Gaw ⟨rfl,p4,P4,λu v a1 a2 a3=> ?_⟩
       rw[ag4.rk (by omega),ag4.rk (by omega)]
       exact up3 u v a1 a2 a3
     ·rw[Gae g]
      exact Gaw ⟨rfl,p3,P3,up3⟩
 case post=>
  rintro c z ⟨p,rfl,P⟩
  dsimp only
  refine Gal (GbI (Gbr (I:=λx c y=>c=(none,())∧∃p,Pd κ it rk p0 p0.size y p∧(pendingOf y).size+x≤p0.size) (Q:=λc y=>c=(none,())∧∃p,Pd κ it rk p0 p0.size y p∧(pendingOf y).size≤1) ?s2 ?f2 ⟨rfl,p,P, ?i2⟩) ?p2)
  case i2=>
   have:=jv P.ch
   simp at this
   omega
  case f2=>
   rintro c y ⟨rfl,p,P,hs⟩
   refine⟨rfl,p,P, ?_⟩
   have:max 0 p0.size=p0.size:=by omega
   omega
  case p2=>
   rintro c y ⟨rfl,p,P,hs⟩
   refine Gaw (h y p P.ss P.perm ?_)
   have ch:=P.ch
   have up:=P.up
   have l1:(pendingOf y).toList.length≤1:=by simpa using hs
   generalize (pendingOf y).toList=l at ch up l1
   match l,l1 with
   |[],_=>
    have:0=p0.size:=ch
    omega
   |[r],_=>
    obtain⟨c1,c2,c3⟩:=ch
    have c3' :0+r.2.1=p0.size:=c3
    have:=up r (by simp)
    rw[c1,c3'] at this
    exact this
  case s2=>
   rintro x c y _ hx ⟨rfl,p,P,hs⟩
   refine Gal (Gdo ?_)
   by_cases g:(pendingOf y).size≤1
   ·rw[Gag g]
    exact Gaw ⟨rfl,p,P,g⟩
   rw[Gae g]
   have go:∀i,i+1<(pendingOf y).size→wpS (model prog w) A E s (do
     let b←mergeAt' i
     if(!b)=true then pure (ForInStep.done ((some ⟨⟩,()):Option PUnit×PUnit)) else pure (ForInStep.yield (none,()))) (λr z' =>match r with
     | .done c=>c=(none,())∧∃p,Pd κ it rk p0 p0.size z' p∧(pendingOf z').size≤1
     | .yield c=>c=(none,())∧∃p,Pd κ it rk p0 p0.size z' p∧(pendingOf z').size+(x+1)≤p0.size) y:=λi hi=>by
    refine Gal (mS hA P hi λy2 p4 P4 ag4 hs4=> ?_)
    simp only[GbT,Gai,GaB]
    exact Gaw ⟨rfl,p4,P4,by omega⟩
   refine GbI (go _ ?_) λr z' hr=>by cases r<;>exact hr
   by_cases i0:(pendingOf y).size -2>0
   ·rw[Gag i0]
    split<;>omega
   ·rw[Gae i0]
    simp only[Option.any_none,Gai,GaB]
    omega
end
section
variable{prog:Program}{w:World}{A:Around}{E:Value→Shared→Prop}{s:Shared}
theorem nG{a:Addr}{vs:List Value}{cs:List (List (List Int))}{n:Nat}{P:PySem.Fin→Shared→Prop}(ho:s.heap.get? a=some (seqObj "list" vs.toArray n))(h64:vs.length<1000000)
  (hK:∀G:Heap,(∀b o,b≠a→s.heap.get? b=some o→G.get? b=some o)→js prog w A E {s with heap:=G} cs vs)
  (h:∀p:Array Nat,Ord vs.length p→Up (rank cs) p vs.length→P (.done (.ret .none)) {s with heap:=sortedHeap s.heap a vs (List.toArray (p.toList.map λi=>vs.getD i Value.none))}):wpAny (model prog w) A (Builtin.«list.sort» ⟨[.ref a],[]⟩) P E s:=by
 have ha:a<s.heap.objs.size:=Gam ho
 have szl:vs.length≤sizeLine:=by rw[GbA];omega
 rw[list_sort_plain]
 refine Gaa (listItems_at ho rfl (Gaa (GcX ho rfl ?_ (by rw[Gao];exact szl) (GaJ _))))
 obtain⟨ep,ho1⟩:∃ep,(s.heap.update a (Obj.mapSeq λ_=>(#[]:Array Value))).get? a=some (seqObj "list" #[] ep):=⟨_,get?_update_seq ho λ_=>#[]⟩
 refine Gaa (GdS ho1 rfl (Gaa (GdJ ?_ szl)))
 refine Gaa (Gct ?_ (GaJ _))
 refine Gbp ?_
 generalize hG:((s.heap.update a (Obj.mapSeq λ_=>(#[]:Array Value))).push {cls:= .type "tuple",data:= .seq vs.toArray}).push {cls:= .type "list",data:= .seq ([]:List Value).toArray}=G
 have hGs:G=((s.heap.update a (Obj.mapSeq λ_=>(#[]:Array Value))).push (seqObj "tuple" vs.toArray 0)).push (seqObj "list" #[] 0):=hG.symm
 have hoG:G.get? a=some (seqObj "list" #[] ep):=by rw[←hG];exact Gad _ (Gad _ ho1)
 have keepG:∀b o,b≠a→s.heap.get? b=some o→G.get? b=some o:=λb o hb e=>by
  rw[←hG]
  exact Gad _ (Gad _ ((GaS _ _ (Gba hb)).trans e))
 show wpAny (model prog w) A _ P E {s with heap:=G}
 have fin:∀(p:Array Nat),Ord vs.length p→Up (rank cs) p vs.length→P (.done (.ret .none)) {s with heap:=G.update a (Obj.mapSeq λ_=>List.toArray (p.toList.map λi=>vs.getD i Value.none))}:=λp h1 h2=>by
  have:=h p h1 h2
  unfold sortedHeap at this
  rw[←hGs] at this
  exact this
 have endOk:∀(p:Array Nat),Ord vs.length p→Up (rank cs) p vs.length→∀(st:SortSt),(arrOf st).map (·.2)=List.toArray (p.toList.map λi=>vs.getD i Value.none)→failedOf st=none→
   wpAny (model prog w) A (do
    let touched:=(←seqEpoch a) !=ep
    Builtin.List.listUpdate (.ref a) λ_=>(arrOf st).map (·.2)
    if let some e:=failedOf st then rule "list.sort.comparison-raised";throw e
    if touched then rule "list.sort.modified";raiseError "ValueError" "list modified during sort"
    ret .none) P E {s with heap:=G}:=λp h1 h2 st e1 e2=>by
  refine Gaa (GdS hoG rfl ?_)
  rw[e1]
  refine Gaa (GcX hoG rfl ?_ (GaJ _) (by rw[Gao,Gar,GaC,h1.size];omega))
  rw[e2]
  simp only[GdN,Gai,GaB]
  exact Gab (fin p h1 h2)
 have hsz:vs.toArray.size=vs.length:=by simp
 dsimp only
 by_cases h2:vs.toArray.size<2
 ·rw[Gag h2,Gag h2]
  refine Gaa (Gab ?_)
  rw[StateT.run_pure]
  refine Gaa (Gab ?_)
  refine endOk (List.toArray (List.range vs.length)) (List.Perm.refl _) (λu v huv hv=>by rw[show u=v by omega];exact Gbn _) (SortSt.mk' general' (vs.toArray.zip vs.toArray) #[] 7 none) ?_ rfl
  show((vs.toArray.zip vs.toArray).map (·.2))=_
  apply Gcc.mp
  simp only[Array.toList_map,Array.toList_zip]
  have hv:vs.length<2:=by rw[←hsz];exact h2
  clear hK h fin endOk ho hG hGs hoG keepG h64 szl hsz h2
  match vs,hv with
  |[],_=>rfl
  |[x],_=>rfl
  |x::y::r,q=>exact absurd q (by simp)
 ·rw[Gae h2,Gae h2]
  refine Gaa (hK G keepG (by omega) _ λκ hκ=> ?_)
  have run:=C0 (prog:=prog) (w:=w) (A:=A) (κ:=κ) (E:=E) (s:={s with heap:=G}) (st:=SortSt.mk' κ (vs.toArray.zip vs.toArray) #[] 7 none) (it:=vs.toArray.zip vs.toArray) (rk:=rank cs) (p0:=List.toArray (List.range vs.length))
   (Q:=λ_ st' =>∃p:Array Nat,Ord vs.length p∧Up (rank cs) p vs.length∧(arrOf st').map (·.2)=List.toArray (p.toList.map λi=>vs.getD i Value.none)∧failedOf st' =none) ?_ ?_ rfl (by simp;omega) λz p S pm up=> ?_
  ·refine Gaa (GbU run ?_ λ_ _ e=>e)
   rintro⟨⟨⟩,st'⟩ s' ⟨rfl,p,c1,c2,c3,c4⟩
   exact endOk p c1 c2 st' c3 c4
  ·intro i j hi hj C hc
   have hz:(vs.toArray.zip vs.toArray).size=vs.length:=by simp
   have:=hκ i j C (by omega) (by omega) hc
   rw[PySem.W.kat_ask_eq (ks:=vs) (vs:=vs) rfl] at this
   exact this
  ·refine⟨rfl, ?_,rfl,λi hi=> ?_⟩
   ·have e:=PySem.W.kas_range (vs.toArray.zip vs.toArray)
    rw[show(vs.toArray.zip vs.toArray).size=vs.length by simp] at e
    exact e.symm
   ·have hi' :i<vs.length:=by simpa using hi
    simpa using hi'
  ·have od:Ord vs.length p:=pm.toList
   refine⟨p,od,λu v huv hv=> ?_,kat_snds rfl S.arr,S.fail⟩
   have hsz' :(List.toArray (List.range vs.length)).size=vs.length:=by simp
   rw[hsz'] at up
   exact up u v (GaJ _) huv hv
end
open PySem
noncomputable def Ris(xs:Array Nat):Prop:=∀i j:Nat,i<j→∀x y,xs[i]? =some x→xs[j]? =some y→x<y
noncomputable def Bel(xs:Array Nat)(j r:Nat):Prop:=r≤xs.size∧(∀(i x:Nat),i<r→xs[i]? =some x→x<j)∧∀(i x:Nat),r≤i→xs[i]? =some x→j≤x
theorem mT{xs:Array Nat}{j:Nat}(hr:Ris xs):∀(f lo hi:Nat),lo≤hi→hi≤xs.size→hi -lo≤f→(∀(i x:Nat),i<lo→xs[i]? =some x→x<j)→(∀(i x:Nat),hi≤i→xs[i]? =some x→j≤x)→Bel xs j (SetTable.below.go xs j f lo hi)
 |0,lo,hi,h1,h2,h3,h4,h5=>by
  have e:lo=hi:=by omega
  subst e
  exact⟨h2,h4,h5⟩
 |f+1,lo,hi,h1,h2,h3,h4,h5=>by
  unfold SetTable.below.go
  by_cases c:lo<hi
  ·rw[Gag c]
   have hm:(lo+hi)/2<xs.size:=by omega
   have gm:xs[(lo+hi)/2]? =some xs[(lo+hi)/2]:=Gap hm
   have gd:xs.getD ((lo+hi)/2) j=xs[(lo+hi)/2]:=by simp[Array.getD,hm]
   dsimp only
   rw[gd]
   by_cases c2:xs[(lo+hi)/2]<j
   ·rw[Gag c2]
    refine mT hr f _ _ (by omega) h2 (by omega) (λi x hi' hx=> ?_) h5
    rcases Gbb i ((lo+hi)/2) with q|q
    ·have:=hr i _ q x _ hx gm;omega
    ·rw[show i=(lo+hi)/2 by omega,gm] at hx;cases hx;exact c2
   ·rw[Gae c2]
    refine mT hr f _ _ (by omega) (by omega) (by omega) h4 (λi x hi' hx=> ?_)
    rcases Gbb ((lo+hi)/2) i with q|q
    ·have:=hr _ i q _ x gm hx;omega
    ·rw[show i=(lo+hi)/2 by omega,gm] at hx;cases hx;omega
  ·rw[Gae c]
   have e:lo=hi:=by omega
   subst e
   exact⟨h2,h4,h5⟩
theorem fJ{xs:Array Nat}{j:Nat}(hr:Ris xs):Bel xs j (SetTable.below xs j):=
 mT hr xs.size 0 xs.size (GaJ _) (Gau _) (by omega) (λi x hi=>by omega) (λi x hi hx=>by
  rw[GbB hi] at hx;cases hx)
theorem pF{xs:Array Nat}{p j i:Nat}(hp:p≤xs.size):(SetTable.insertAt xs p j)[i]? =if i<p then xs[i]? else if i=p then some j else xs[i -1]? :=by
 have e:(SetTable.insertAt xs p j)[i]? =(SetTable.insertAt xs p j).toList[i]? :=by simp
 rw[e,GcS]
 have l1:(xs.toList.take p).length=p:=by simp;omega
 by_cases c:i<p
 ·rw[Gag c,Gbh (by rw[l1];exact c),GaP c]
  simp
 ·rw[Gae c,Gbo (by rw[l1];omega),l1]
  by_cases c2:i=p
  ·rw[Gag c2,c2,Nat.sub_self];rfl
  ·rw[Gae c2,show i -p=(i -p -1)+1 by omega,GdL,Gbd,show p+(i -p -1)=i -1 by omega]
   simp
theorem sG{xs:Array Nat}{j:Nat}(hr:Ris xs)(hn:xs[SetTable.below xs j]? ≠some j):Ris (SetTable.insertAt xs (SetTable.below xs j) j):=by
 obtain⟨b1,b2,b3⟩:=fJ (j:=j) hr
 generalize SetTable.below xs j=p at*
 have b3' :∀(i x:Nat),p≤i→xs[i]? =some x→j<x:=λi x hi hx=>by
  have h1:=b3 i x hi hx
  rcases Gbb j x with q|q
  ·exact q
  ·have e:x=j:=by omega
   subst e
   rcases Gbb p i with c|c
   ·obtain⟨y,hy⟩:∃y,xs[p]? =some y:=⟨xs[p]'(by
     have:i<xs.size:=by
      rcases Gbb i xs.size with z|z
      ·exact z
      ·rw[GbB z] at hx;cases hx
     omega),Gap _⟩
    have h2:=b3 p y (Gau _) hy
    have h3:=hr p i c y x hy hx
    omega
   ·rw[show i=p by omega] at hx;exact absurd hx hn
 intro i k hik x y hx hy
 rw[pF b1] at hx hy
 by_cases c1:i<p
 ·rw[Gag c1] at hx
  by_cases c2:k<p
  ·rw[Gag c2] at hy;exact hr i k hik x y hx hy
  ·rw[Gae c2] at hy
   have h1:=b2 i x c1 hx
   by_cases c3:k=p
   ·rw[Gag c3] at hy;cases hy;exact h1
   ·rw[Gae c3] at hy
    have:=b3' (k -1) y (by omega) hy
    omega
 ·rw[Gae c1,] at hx
  rw[Gae (by omega)] at hy
  by_cases c2:i=p
  ·rw[Gag c2] at hx;cases hx
   rw[Gae (by omega)] at hy
   exact b3' (k -1) y (by omega) hy
  ·rw[Gae c2] at hx
   rw[Gae (by omega)] at hy
   exact hr (i -1) (k -1) (by omega) x y hx hy
noncomputable def Tb(bt:Bool)(t:SetTable):Prop:=t.led= !bt∧(t.plain=true→Ris t.place)
theorem qF{n:Nat}{g:Nat→Option Nat}:Ris (((List.range n).filterMap λj=>(g j).map λk=>(j,k)).map (·.1)).toArray:=by
 have pw:∀(l:List Nat),l.Pairwise (· < ·)→((l.filterMap λj=>(g j).map λk=>(j,k)).map (·.1)).Pairwise (· < ·):=by
  intro l
  induction l with
  |nil=>intro _;exact List.Pairwise.nil
  |cons a l ih=>
   intro h
   have h' :=Gbk.mp h
   rw[GcT]
   cases hg:g a with
   |none=>simpa[hg] using ih h'.2
   |some k=>
    simp only[hg,Gco,GaI]
    refine Gbk.mpr ⟨λb hb=> ?_,ih h'.2⟩
    obtain⟨q,hq,rfl⟩:=Gaz.mp hb
    obtain⟨j,hj,e⟩:=GdC.mp hq
    cases hgj:g j with
    |none=>rw[hgj] at e;cases e
    |some k' =>rw[hgj] at e;cases e;exact h'.1 j hj
 have:=pw (List.range n) List.pairwise_lt_range
 intro i j hij x y hx hy
 generalize ((List.range n).filterMap λj=>(g j).map λk=>(j,k)).map (·.1)=l at*
 have hx' :l[i]? =some x:=by simpa using hx
 have hy' :l[j]? =some y:=by simpa using hy
 obtain⟨h1,rfl⟩:=Gaf.mp hx'
 obtain⟨h2,rfl⟩:=Gaf.mp hy'
 exact Gck.mp this i j h1 h2 hij
open PySem PySem.Spec PyProof.Rows
noncomputable def kOf(e:Int×Value):Int:=match e.2 with
 | .int k _=>k
 |_=>0
section
variable{prog:Program}{w:World}{A:Around}{E:Value→Shared→Prop}{z:Shared}
noncomputable def vg(prog:Program)(w:World)(es:Array (Int×Value))(ks:List Int):Prop:=(∀e∈es.toList,∃k t,e=((intKind prog w).hash k,Value.int k t))∧(es.toList.map kOf).Perm ks
noncomputable def SetT(prog:Program)(w:World)(bt:Bool)(g:Heap)(a:Addr)(ks:List Int):Prop:=
 ∃o es ep t,g.get? a=some o∧o.ExactSet∧o.data= .set es ep t∧vg prog w es ks∧es.size<scanBound∧t.fits es.size=true∧Tb bt t
theorem vg.size{es:Array (Int×Value)}{ks:List Int}(h:vg prog w es ks):es.size=ks.length:=by
 have:=h.2.length_eq
 simpa using this
theorem vg.perm{es fs:Array (Int×Value)}{ks:List Int}(h:vg prog w es ks)(p:fs.toList.Perm es.toList):vg prog w fs ks:=⟨λe he=>h.1 e (p.mem_iff.mp he),(p.map kOf).trans h.2⟩
end
section
variable{prog:Program}{w:World}{A:Around}{R:Result→Shared→Prop}{I:Addr}{fp wr:List Addr}{G:Array GenState→Array GenState→Prop}{n:Nat}{P:Nat→Value→Prop}{St:Nat→Shared→Prop}
theorem SetT.at{bt:Bool}{g g' :Heap}{a:Addr}{ks:List Int}(h:SetT prog w bt g a ks)(e:∀o,g.get? a=some o→g'.get? a=some o):SetT prog w bt g' a ks:=let⟨o,es,ep,t,ho,r⟩:=h;⟨o,es,ep,t,e o ho,r⟩
end
noncomputable def gI(w:World):Bool:=w.params.followText "set-order"
section
variable{prog:Program}{w:World}{A:Around}{E:Value→Shared→Prop}{z:Shared}
noncomputable abbrev kh(w:World):Obj:={cls:= .type "set",dict:=none,data:= .set #[] 0 (.fresh 0 0 (!gI w))}
theorem Aj(a:Value){R:Value→Shared→Prop}(h:R (.ref z.heap.objs.size) {z with heap:=z.heap.push (kh w)}):codeAny (model prog w) A (.call (.builtin "set.__new__") ⟨[.type "set",a],[]⟩) (wants R E) z:=by
 refine codeAny_of_tree ?_
 show wpAny _ A.in1 (do checkBuiltinCall "set.__new__" ⟨[.type "set",a],[]⟩;again (.builtin "set.__new__" ⟨[.type "set",a],[]⟩)) _ _ z
 refine Gaa (GcM (PySem.F.newCall_set_1 a) (Gab ⟨GcZ PySem.F.plain_set_new _,Gbx PySem.F.entry_set_new ?_⟩))
 rw[GbW PySem.F.plain_set_new _]
 unfold Builtin.«set.__new__» Builtin.Frozenset.newClass
 have sub:=PySem.sub_set_self
 obtain⟨hp,g,d,tk,os⟩:=z
 dsimp only
 wp_walk
 refine wpAny_askSetting (Gab ?_)
 dsimp only
 simp only[newObj]
 refine Gaa (wpAny_alloc (Gab ?_))
 exact Gab h
end
namespace Fr
theorem om:Manifest.owners.lookup (String.ofList ['r', 'o', 't', 'a', 'r', 'e', 't', 'i', '_', 't', 'e', 's'].reverse)=some Manifest.sig_set_iterator:=by kernel_rfl
theorem mU:isSubtype (.type "set_iterator") (.type "set_iterator")=pure true:=by rw[Geq];kernel_rfl
theorem cA:PySem.Slot "set_iterator" "__next__" "set_iterator.__next__":=
 .of (owner:="set_iterator") (n:="__next__") (by rw[Gei,Gdq];kernel_rfl) (by decide+kernel) (by decide+kernel) (by decide+kernel) (by first|exact .inl (by decide+kernel)|exact .inr (by decide+kernel)) mU
theorem fK:entryFor table "set_iterator.__next__"=some Builtin.«set_iterator.__next__» :=entryFor_of_tree (by kernel_rfl)
theorem gA(a:Value):argsOk "set_iterator.__next__" ⟨[a],[]⟩:=by
 unfold argsOk
 rw[signature?_of (id:="set_iterator.__next__") (n:=['_', '_', 't', 'x', 'e', 'n', '_', '_']) (o:=['r', 'o', 't', 'a', 'r', 'e', 't', 'i', '_', 't', 'e', 's']) (by kernel_rfl) om]
 kernel_rfl
theorem mV:PySem.Slot "set_iterator" "__iter__" "set_iterator.__iter__":=
 .of (owner:="set_iterator") (n:="__iter__") (by rw[Gei,Gdq];kernel_rfl) (by decide+kernel) (by decide+kernel) (by decide+kernel) (by first|exact .inl (by decide+kernel)|exact .inr (by decide+kernel)) mU
theorem lr(a:Value):argsOk "set_iterator.__iter__" ⟨[a],[]⟩:=by
 unfold argsOk
 rw[signature?_of (id:="set_iterator.__iter__") (n:=['_', '_', 'r', 'e', 't', 'i', '_', '_']) (o:=['r', 'o', 't', 'a', 'r', 'e', 't', 'i', '_', 't', 'e', 's']) (by kernel_rfl) om]
 kernel_rfl
theorem kl:entryFor table "set_iterator.__iter__"=some Builtin.«dict_keyiterator.__iter__» :=
 entryFor_alias (id' :="dict_keyiterator.__iter__") (by kernel_rfl) (by first|rfl|decide+kernel|(unfold String.splitOn;simp+decide [String.splitOnAux])) (by decide+kernel) (by kernel_rfl)
theorem qG:isSubtype (.type "set") (.type "set")=pure true:=by rw[Geq];kernel_rfl
theorem C1:Manifest.owners.lookup (String.ofList ['t', 'e', 's'].reverse)=some Manifest.sig_set:=by kernel_rfl
theorem qH:PySem.Slot "set" "__iter__" "set.__iter__":=
 .of (owner:="set") (n:="__iter__") (by rw[Gei,Gdq];kernel_rfl) (by decide+kernel) (by decide+kernel) (by decide+kernel) (by first|exact .inl (by decide+kernel)|exact .inr (by decide+kernel)) qG
theorem C2:PySem.Slot "set" "__len__" "set.__len__":=
 .of (owner:="set") (n:="__len__") (by rw[Gei,Gdq];kernel_rfl) (by decide+kernel) (by decide+kernel) (by decide+kernel) (by first|exact .inl (by decide+kernel)|exact .inr (by decide+kernel)) qG
theorem nH(a:Value):argsOk "set.__iter__" ⟨[a],[]⟩:=by
 unfold argsOk
 rw[signature?_of (id:="set.__iter__") (n:=['_', '_', 'r', 'e', 't', 'i', '_', '_']) (o:=['t', 'e', 's']) (by kernel_rfl) C1]
 kernel_rfl
theorem mW:entryFor table "set.__iter__"=some Builtin.«frozenset.__iter__» :=
 entryFor_alias (id' :="frozenset.__iter__") (by kernel_rfl) (by first|rfl|decide+kernel|(unfold String.splitOn;simp+decide [String.splitOnAux])) (by decide+kernel) (by kernel_rfl)
end Fr
theorem j2{α:Type}:∀(xs:List α) (i:Nat) (h:i<xs.length),(xs[i]::xs.eraseIdx i).Perm xs
 |x::xs,0,h=>by simp
 |x::xs,i+1,h=>by
  have h' :i<xs.length:=by simpa using h
  simp only[List.getElem_cons_succ,List.eraseIdx_cons_succ]
  exact(List.Perm.swap _ _ _).trans ((j2 xs i h').cons x)
theorem u9{α:Type}{next:Nat→Nat}:∀(f k:Nat) (left:List α) (out:Array α),left.length=f→(pickOrder.go next f k left out).toList.Perm (out.toList++left)
 |0,k,left,out,e=>by
  have:left=[]:=List.length_eq_zero_iff.mp e
  subst this
  simp[pickOrder.go]
 |f+1,k,left,out,e=>by
  have hl:next k%left.length<left.length:=Gdu _ (by omega)
  unfold pickOrder.go
  rw[Gac hl]
  dsimp only
  refine(u9 f (k+1) _ _ (by rw[Gdw hl];omega)).trans ?_
  rw[Gdi,GaF]
  refine Gcj _ ?_
  exact(j2 _ _ hl)
theorem oo{α:Type}(next:Nat→Nat)(xs:Array α):(pickOrder next xs).toList.Perm xs.toList:=by
 have:=u9 (next:=next) xs.size 0 xs.toList #[] (by simp)
 simpa[pickOrder] using this
section
variable{prog:Program}{w:World}{A:Around}{E:Value→Shared→Prop}{z:Shared}
theorem jy{α:Type}:∀(n:Nat) (xs:List α) (z:Shared) (Q:List α→Shared→Prop),xs.length=n→(∀ys d,ys.Perm xs→Q ys {z with drawn:=d})→wpAny (model prog w) A (drawOrder n xs) Q E z
 |0,xs,z,Q,e,h=>by
  have:xs=[]:=List.length_eq_zero_iff.mp e
  subst this
  exact Gab (h [] z.drawn (List.Perm.refl _))
 |n+1,x::xs,z,Q,e,h=>by
  unfold drawOrder
  refine Gaa (λΓ p hΓ=> ⟨Nat.succ_ne_zero _, ?_⟩)
  suffices hs:∀(i:Nat),i<(x::xs).length→wpAny (model prog w) A (match(x::xs)[i]? with|some y=>(do return y::(←drawOrder n ((x::xs).eraseIdx i)))|none=>unsupported "internal:drawOrder") Q E {z with drawn:=z.drawn.bump .order} from hs _ (Gdu _ (Gdr _))
  intro i hi
  rw[Gac hi]
  dsimp only
  refine Gaa (jy n _ _ _ (by rw[Gdw hi];omega) λys d hp=> ?_)
  exact Gab (h _ d ((hp.cons _).trans (j2 _ _ hi)))
noncomputable def j3(h:Heap)(a:Addr)(es:Array (Int×Value))(ep:Nat)(t:SetTable):Prop:=∃o,h.get? a=some o∧o.ExactSet∧o.data= .set es ep t
theorem j3.at{h h' :Heap}{a:Addr}{es:Array (Int×Value)}{ep:Nat}{t:SetTable}(x:j3 h a es ep t)(e:∀o,h.get? a=some o→h'.get? a=some o):j3 h' a es ep t:=let⟨o,ho,r⟩:=x;⟨o,e _ ho,r⟩
theorem j3.ty{a:Addr}{es:Array (Int×Value)}{ep:Nat}{t:SetTable}(x:j3 z.heap a es ep t):z.TypeIs (.ref a) "set":=let⟨o,ho,hc,_⟩:=x;⟨o,ho,hc.1⟩
inductive Way (w:World) (a:Addr) (es:Array (Int×Value)) (ep:Nat) (t:SetTable) (h:Heap) (tp:Addr):Value→Nat→List (Int×Value)→Prop
 |text {i:Nat}:gI w=true→Way w a es ep t h tp (rawInt 0) i (pickOrder (w.params.setOrder a ep) es).toList
 |drawn {i:Nat} {ps:List Nat}:IsTup h tp (ps.map λ(j:Nat)=>rawInt j).toArray→ps.Perm (List.range es.size)→Way w a es ep t h tp (.ref tp) i (ps.map λj=>es.getD j (0,.none))
 |plain {i:Nat} {s:Nat}:gI w=false→¬(t.plain=false∧es.size>1)→Ris t.place→t.led=true→(s=if i=0 then 0 else t.place.getD (i -1) 0+1)→Way w a es ep t h tp (rawInt s) i es.toList
noncomputable def dA(w:World)(h:Heap)(it a tp:Addr)(es:Array (Int×Value))(ep:Nat)(t:SetTable)(xs:List (Int×Value))(i:Nat):Prop:=
 ∃o first,h.get? it=some o∧o.cls= .type "set_iterator"∧o.data= .fields #[first,rawInt i,.ref a,rawInt es.size,rawInt ep]∧Way w a es ep t h tp first i xs
theorem Way.perm{a tp:Addr}{es:Array (Int×Value)}{ep i:Nat}{t:SetTable}{h:Heap}{f:Value}{xs:List (Int×Value)}(x:Way w a es ep t h tp f i xs):xs.Perm es.toList:=by
 cases x with
 |text _=>exact oo _ _
 |drawn _ hp=>
  refine(hp.map _).trans ?_
  have:(List.range es.size).map (λj=>es.getD j (0,Value.none))=es.toList:=by
   apply Gdt
   ·simp
   ·intro i h1 h2
    simp at h1 h2⊢
    simp[Array.getD,h2]
  rw[this]
 |plain _ _ _ _ _=>exact List.Perm.refl _
theorem below_at{xs:Array Nat}{i:Nat}(hr:Ris xs)(hi:i≤xs.size):SetTable.below xs (if i=0 then 0 else xs.getD (i -1) 0+1)=i:=by
 obtain⟨h1,h2,h3⟩:=fJ (j:=if i=0 then 0 else xs.getD (i -1) 0+1) hr
 generalize SetTable.below xs (if i=0 then 0 else xs.getD (i -1) 0+1)=r at*
 by_cases c:i=0
 ·subst c
  simp only[Gag] at h2
  rcases Nat.eq_zero_or_pos r with q|q
  ·exact q
  ·have:=h2 0 xs[0] q (Gap _)
   exact absurd this (Nat.not_lt_zero _)
 ·simp only[Gae c] at h2 h3
  have hg:xs.getD (i -1) 0=xs[i -1]'(by omega):=by simp[Array.getD,show i -1<xs.size by omega]
  rw[hg] at h2 h3
  have g1:xs[i -1]? =some (xs[i -1]'(by omega)):=Gap _
  have a1:i≤r:=by
   rcases Gbb r i with q|q
   ·have:=h3 (i -1) _ (by omega) g1;omega
   ·exact q
  have a2:r≤i:=by
   rcases Gbb i r with q|q
   ·have g2:xs[i]? =some (xs[i]'(by omega)):=Gap _
    have b1:=h2 i _ q g2
    have b2:=hr (i -1) i (by omega) _ _ g1 g2
    omega
   ·exact q
  omega
theorem dA.ty{it a tp:Addr}{es:Array (Int×Value)}{ep i:Nat}{t:SetTable}{xs:List (Int×Value)}(x:dA w z.heap it a tp es ep t xs i):z.TypeIs (.ref it) "set_iterator":=let⟨o,f,ho,hc,_⟩:=x;⟨o,ho,hc⟩
theorem iw{Q:Bool→Shared→Prop}(h:Q (gI w) z):wpAny (model prog w) A setsByText Q E z:=Gaa (wpAny_askSetting (Gab h))
theorem mX{a:Addr}{es:Array (Int×Value)}{ep i s:Nat}{t:SetTable}{Q:Option (Value×Nat)→Shared→Prop}(hm:j3 z.heap a es ep t)(hf:t.fits es.size=true)
  (h1:gI w=false)(h2:¬(t.plain=false∧es.size>1))(h3:Ris t.place)(h4:t.led=true)(hi:i≤es.size)(hs:s=if i=0 then 0 else t.place.getD (i -1) 0+1)
  (h:Q (es[i]?.map λe=>(e.2,t.place.getD i 0+1)) z):wpAny (model prog w) A (setNext a s i ep) Q E z:=by
 obtain⟨o,ho,hx,hd⟩:=hm
 have hsz:t.place.size=es.size:=by
  unfold SetTable.fits at hf
  simp at hf
  omega
 unfold setNext
 refine Gaa (GaZ ho hd hf (Gaa (iw ?_)))
 dsimp only
 rw[h1]
 simp only[Gai,GaB]
 show wpAny _ _ (if(!t.plain&&decide (es.size>1))=true then _ else _) _ _ z
 rw[Gae (by intro q;simp at q;exact h2 q)]
 show wpAny _ _ ((if(!t.led&& !es.isEmpty)=true then unsupported "set:maker-not-led" else pure ())>>=_) _ _ z
 rw[Gae (by rw[h4];simp)]
 refine Gaa (Gab ?_)
 have hb:SetTable.below t.place s=i:=by rw[hs];exact below_at h3 (by omega)
 rw[hb]
 refine Gab ?_
 rcases Gbb i es.size with c|c
 ·rw[Gap c] at h⊢
  rw[Gap (show i<t.place.size by omega)]
  have:t.place.getD i 0=t.place[i]'(by omega):=by simp[Array.getD,show i<t.place.size by omega]
  rw[this] at h
  exact h
 ·rw[GbB c] at h⊢
  exact h
theorem oq{a:Addr}{es:Array (Int×Value)}{ep i s:Nat}{t:SetTable}{Q:Option (Value×Nat)→Shared→Prop}(hm:j3 z.heap a es ep t)(hf:t.fits es.size=true)
  (h1:gI w=true)(h:Q ((pickOrder (w.params.setOrder a ep) es)[i]?.map λe=>(e.2,s)) z):wpAny (model prog w) A (setNext a s i ep) Q E z:=by
 obtain⟨o,ho,hx,hd⟩:=hm
 unfold setNext
 refine Gaa (GaZ ho hd hf (Gaa (iw ?_)))
 dsimp only
 rw[h1]
 simp only[Gbf]
 rw[Gae (by simp)]
 refine Gaa ?_
 unfold setWalk
 refine Gaa (GaZ ho hd hf (Gaa (iw ?_)))
 try dsimp only
 rw[h1]
 simp only[Gbf]
 refine Gaa (wpAny_askSetting (Gab ?_))
 exact Gab h
theorem sI{a:Addr}{es:Array (Int×Value)}{ep j:Nat}{t:SetTable}{Q:Value→Shared→Prop}(hm:j3 z.heap a es ep t)(hf:t.fits es.size=true)(hj:j<es.size)
  (h:Q es[j].2 z):wpAny (model prog w) A (setNextDrawn a j ep) Q E z:=by
 obtain⟨o,ho,hx,hd⟩:=hm
 unfold setNextDrawn
 refine Gaa (GaZ ho hd hf ?_)
 try dsimp only
 rw[Gae (by simp),Gap hj]
 exact Gab h
theorem vh{h h' :Heap}{tp it:Addr}{vs:Array Value}(x:IsTup h tp vs)(hne:tp≠it)(sb:Heap.SameBut it h h'):IsTup h' tp vs:=by
 obtain⟨o,ho,r⟩:=x
 exact⟨o,(sb.2 tp hne).trans ho,r⟩
theorem Ak{it a tp:Addr}{es:Array (Int×Value)}{ep i:Nat}{t:SetTable}{xs:List (Int×Value)}{e:Int×Value}{Q:Option Value→Shared→Prop}(hit:dA w z.heap it a tp es ep t xs i)(hm:j3 z.heap a es ep t)(hf:t.fits es.size=true)(hne:tp≠it)(hx:xs[i]? =some e)
  (hQ:∀h',dA w h' it a tp es ep t xs (i+1)→Heap.SameBut it z.heap h' →Q (some e.2) {z with heap:=h' }):wpAny (model prog w) A (pyNext (.ref it)) Q E z:=by
 obtain⟨o,first,ho,hc,hd,hw⟩:=id hit
 obtain⟨os,hos,hxs,hds⟩:=id hm
 have hl:i<es.size:=by
  have h1:=(Gaf.mp hx).1
  have:=hw.perm.length_eq
  simp at this
  omega
 unfold pyNext
 refine Gaa (GcY (GbZ (name:=Str.ofString "__next__") hit.ty Fr.cA (Gbi Fr.cA hit.ty Fr.fK ?_ (Fr.gA _))))
 unfold Builtin.«set_iterator.__next__»
 refine Gaa (GcM (a:=(Value.ref it,[])) rfl ?_)
 dsimp only
 refine Gaa (Gdm ho hd ?_)
 dsimp only[rawInt]
 refine Gaa (Gaa (GaZ hos hds hf (Gab ?_)))
 dsimp only
 rw[Gae (by simp)]
 have up:∀(f:Value),Way w a es ep t z.heap tp f (i+1) xs→∀h' o',h'.get? it=some o' →o'.cls= .type "set_iterator"→o'.data= .fields #[f,rawInt ((i+1:Nat):Int),.ref a,rawInt es.size,rawInt ep]→Heap.SameBut it z.heap h' →dA w h' it a tp es ep t xs (i+1):=λf hf' h' o' g1 g2 g3 sb=>by
  refine⟨o',f,g1,g2,g3, ?_⟩
  cases hf' with
  |text q=>exact .text q
  |drawn q1 q2=>exact .drawn (vh q1 hne sb) q2
  |plain q1 q2 q3 q4 q5=>exact .plain q1 q2 q3 q4 q5
 cases hw with
 |text hb=>
  dsimp only[rawInt]
  refine Gaa (oq hm hf hb ?_)
  have hx' :(pickOrder (w.params.setOrder a ep) es)[i]? =some e:=by simpa using hx
  simp only[Gbq,hx',Gco]
  refine Gaa (GbE ho hd (by simp) ?_)
  have ho2:=GaH (Obj.mapFields (·.setIfInBounds 0 (rawInt ((Int.toNat 0:Nat):Int)))) ho (GbN (Gbc hd _))
  have hd2:=Gbc hd (·.setIfInBounds 0 (rawInt ((Int.toNat 0:Nat):Int)))
  refine Gaa (GbE (s:={z with heap:=_}) ho2 hd2 (by simp) ?_)
  have sb:=(GaY z.heap it (Obj.mapFields (·.setIfInBounds 0 (rawInt ((Int.toNat 0:Nat):Int))))).trans (GaY _ it (Obj.mapFields (·.setIfInBounds 1 (rawInt ((i:Int)+1)))))
  refine Gab ⟨e.2,rfl,Gab (hQ _ (up (rawInt 0) (.text hb) _ _ (GaH _ ho2 (GbN (Gbc hd2 _))) ((GcJ ..).trans ((GcJ ..).trans hc)) (by rw[Gbc hd2];simp[rawInt]) sb) sb)⟩
 | @drawn _ ps ht hp=>
  obtain⟨p,hpi,rfl⟩:∃p,ps[i]? =some p∧es.getD p (0,Value.none)=e:=by
   rw[Gax] at hx
   obtain⟨p,h1,h2⟩:=Gaj.mp hx
   exact⟨p,h1,h2⟩
  have hpl:p<es.size:=by
   have:=hp.mem_iff.mp (GaO hpi)
   simpa using this
  dsimp only
  obtain⟨ot,hot,hct,n,hdt⟩:=id ht
  refine Gaa (Gdn hot hdt ?_)
  have hq:(List.map (λ(j:Nat)=>rawInt j) ps).toArray[i]? =some (rawInt p):=by simp[hpi]
  simp only[Gbq,hq]
  dsimp only[rawInt]
  simp only[Gbq]
  refine Gaa (sI hm hf hpl ?_)
  refine Gaa (GbE ho hd (by simp) ?_)
  have sb:=(GaY z.heap it (Obj.mapFields (·.setIfInBounds 1 (rawInt ((i:Int)+1)))))
  have eg:es.getD p (0,Value.none)=es[p]:=by simp[Array.getD,hpl]
  rw[eg] at hQ
  refine Gab ⟨es[p].2,rfl,Gab (hQ _ (up (.ref tp) (.drawn ht hp) _ _ (GaH _ ho (GbN (Gbc hd _))) ((GcJ ..).trans hc) (by rw[Gbc hd];simp[rawInt]) sb) sb)⟩
 | @plain _ s q1 q2 q3 q4 q5=>
  dsimp only[rawInt]
  simp only[Gbq]
  have hx' :es[i]? =some e:=by simpa using hx
  refine Gaa (mX hm hf q1 q2 q3 q4 (GcC hl) q5 ?_)
  rw[hx']
  simp only[Gco]
  refine Gaa (GbE ho hd (by simp) ?_)
  have ho2:=GaH (Obj.mapFields (·.setIfInBounds 0 (rawInt ((t.place.getD i 0+1:Nat):Int)))) ho (GbN (Gbc hd _))
  have hd2:=Gbc hd (·.setIfInBounds 0 (rawInt ((t.place.getD i 0+1:Nat):Int)))
  refine Gaa (GbE (s:={z with heap:=_}) ho2 hd2 (by simp) ?_)
  have sb:=(GaY z.heap it (Obj.mapFields (·.setIfInBounds 0 (rawInt ((t.place.getD i 0+1:Nat):Int))))).trans (GaY _ it (Obj.mapFields (·.setIfInBounds 1 (rawInt ((i:Int)+1)))))
  refine Gab ⟨e.2,rfl,Gab (hQ _ (up (rawInt ((t.place.getD i 0+1:Nat):Int)) (.plain q1 q2 q3 q4 (by simp)) _ _ (GaH _ ho2 (GbN (Gbc hd2 _))) ((GcJ ..).trans ((GcJ ..).trans hc)) (by rw[Gbc hd2];simp[rawInt]) sb) sb)⟩
end
open PySem PySem.Spec PyProof.Rows
section
variable{prog:Program}{w:World}{A:Around}{E:Value→Shared→Prop}{z:Shared}
theorem C3{it a tp:Addr}{es:Array (Int×Value)}{ep i:Nat}{t:SetTable}{xs:List (Int×Value)}{Q:Option Value→Shared→Prop}(hh:A.handled=none)(hit:dA w z.heap it a tp es ep t xs i)(hm:j3 z.heap a es ep t)(hf:t.fits es.size=true)(hi:i=es.size)
  (hQ:∀h',Heap.ExtBut it z.heap h' →Q none {z with heap:=h' }):wpAny (model prog w) A (pyNext (.ref it)) Q E z:=by
 obtain⟨o,first,ho,hc,hd,hw⟩:=id hit
 obtain⟨os,hos,hxs,hds⟩:=id hm
 unfold pyNext
 refine Gaa (GcY (GbZ (name:=Str.ofString "__next__") hit.ty Fr.cA (Gbi Fr.cA hit.ty Fr.fK ?_ (Fr.gA _))))
 unfold Builtin.«set_iterator.__next__»
 refine Gaa (GcM (a:=(Value.ref it,[])) rfl ?_)
 dsimp only
 refine Gaa (Gdm ho hd ?_)
 dsimp only[rawInt]
 refine Gaa (Gaa (GaZ hos hds hf (Gab ?_)))
 dsimp only
 rw[Gae (by simp)]
 cases hw with
 |text hb=>
  dsimp only[rawInt]
  refine Gaa (oq hm hf hb ?_)
  have hx' :(pickOrder (w.params.setOrder a ep) es)[i]? =none:=by
   have:=(oo (w.params.setOrder a ep) es).length_eq
   simp only[GaC] at this
   exact GbB (by omega)
  simp only[Gbq,hx',Option.map_none]
  refine Gaa (GbE ho hd (by simp) ?_)
  refine Gaa ?_
  simp only[newExc,newTuple]
  refine Gaa (GaX ?_ (by size_fits))
  refine Gaa (m:=firstArgMember _ _) (GcM (a:=Value.none) rfl ?_)
  refine GaX ?_ (by size_fits)
  simp only[raiseNew]
  refine Gaa (GdW ?_)
  rw[show A.in1.handled=none from hh]
  refine Gaa (Gab (wpAny_throw ?_))
  refine Gaa (Gcg (T:="StopIteration") (b:=true) ⟨_,Gan _ rfl,rfl⟩ GdK (Gab (hQ _ ?_)))
  exact((GaY ..).extBut.push _).push _
 | @drawn _ ps ht hp=>
  have hpi:ps[i]? =none:=GaV (by
   have:=hp.length_eq
   simp at this
   omega)
  dsimp only
  obtain⟨ot,hot,hct,n,hdt⟩:=id ht
  refine Gaa (Gdn hot hdt ?_)
  have hq:(List.map (λ(j:Nat)=>rawInt j) ps).toArray[i]? =none:=by simp[hpi]
  simp only[Gbq,hq]
  refine Gaa (GbE ho hd (by simp) ?_)
  have ho2:=GaH (Obj.mapFields (·.setIfInBounds 0 (rawInt 0))) ho (GbN (Gbc hd _))
  have hd2:=Gbc hd (·.setIfInBounds 0 (rawInt 0))
  refine Gaa (GbE (s:={z with heap:=_}) ho2 hd2 (by simp) ?_)
  refine Gaa ?_
  simp only[newExc,newTuple]
  refine Gaa (GaX ?_ (by size_fits))
  refine Gaa (m:=firstArgMember _ _) (GcM (a:=Value.none) rfl ?_)
  refine GaX ?_ (by size_fits)
  simp only[raiseNew]
  refine Gaa (GdW ?_)
  rw[show A.in1.handled=none from hh]
  refine Gaa (Gab (wpAny_throw ?_))
  refine Gaa (Gcg (T:="StopIteration") (b:=true) ⟨_,Gan _ rfl,rfl⟩ GdK (Gab (hQ _ ?_)))
  exact(((GaY ..).trans (GaY ..)).extBut.push _).push _
 | @plain _ s q1 q2 q3 q4 q5=>
  dsimp only[rawInt]
  simp only[Gbq]
  refine Gaa (mX hm hf q1 q2 q3 q4 (Nat.le_of_eq hi) q5 ?_)
  rw[GbB (by omega)]
  simp only[Option.map_none]
  refine Gaa (GbE ho hd (by simp) ?_)
  refine Gaa ?_
  simp only[newExc,newTuple]
  refine Gaa (GaX ?_ (by size_fits))
  refine Gaa (m:=firstArgMember _ _) (GcM (a:=Value.none) rfl ?_)
  refine GaX ?_ (by size_fits)
  simp only[raiseNew]
  refine Gaa (GdW ?_)
  rw[show A.in1.handled=none from hh]
  refine Gaa (Gab (wpAny_throw ?_))
  refine Gaa (Gcg (T:="StopIteration") (b:=true) ⟨_,Gan _ rfl,rfl⟩ GdK (Gab (hQ _ ?_)))
  exact((GaY ..).extBut.push _).push _
theorem sJ{it a tp:Addr}{es:Array (Int×Value)}{ep i:Nat}{t:SetTable}{xs:List (Int×Value)}{Q:Value→Shared→Prop}(hit:dA w z.heap it a tp es ep t xs i)(h:Q (.ref it) z):wpAny (model prog w) A (pyIter (.ref it)) Q E z:=by
 refine GdO hit.ty Fr.mV (Gbi Fr.mV hit.ty Fr.kl ?_ (Fr.lr _))
 show wpAny _ _ (ret (.ref it)) _ _ z
 exact Gab ⟨_,rfl,"set_iterator",_,hit.ty,Fr.cA.lookup,h⟩
theorem Way.at{a tp:Addr}{es:Array (Int×Value)}{ep i:Nat}{t:SetTable}{h h' :Heap}{f:Value}{xs:List (Int×Value)}(x:Way w a es ep t h tp f i xs)(k:∀o,h.get? tp=some o→h'.get? tp=some o):Way w a es ep t h' tp f i xs:=by
 cases x with
 |text q=>exact .text q
 |drawn q1 q2=>
  obtain⟨o,ho,r⟩:=q1
  exact .drawn ⟨o,k o ho,r⟩ q2
 |plain q1 q2 q3 q4 q5=>exact .plain q1 q2 q3 q4 q5
theorem vi(hh:A.handled=none)(I a tp:Addr)(hne:a≠I)(hnt:tp≠I)(es:Array (Int×Value))(ep:Nat)(t:SetTable)(hf:t.fits es.size=true)(xs:List (Int×Value))(hxs:xs.length=es.size):
  Walks prog w A I [I,a,tp] [I] es.size (λi v=>∃e,xs[i]? =some e∧v=e.2) (λi h=>dA w h I a tp es ep t xs i∧j3 h a es ep t) where
 sub:=λb hb=>by simp at hb;simp[hb]
 frame:=λi h h' st hk=>by
  obtain⟨⟨o,f,ho,hc,hd,hw⟩,hs⟩:=st
  exact⟨⟨o,f,hk I (by simp) o ho,hc,hd,hw.at λo e=>hk tp (by simp) o e⟩,hs.at λo e=>hk a (by simp) o e⟩
 item:=λi z Q E hi st hQ=>by
  have hx:xs[i]? =some (xs[i]'(by omega)):=Gac _
  exact Ak st.1 st.2 hf hnt hx λh' hit' hs' =>hQ _ h' z.toks ⟨_,hx,rfl⟩ ⟨hit',st.2.at λo e=>hs'.extBut a o hne e⟩ λb o hb e=>hs'.extBut b o (λh=>hb (by simp[h])) e
 done:=λz Q E st hQ=>C3 hh st.1 st.2 hf rfl λh' he' =>hQ h' z.toks λb o hb e=>he' b o (λh=>hb (by simp[h])) e
 self:=λ_ _ _ _ st hQ=>sJ st.1 hQ
theorem Al{a:Addr}{es:Array (Int×Value)}{ep:Nat}{t:SetTable}{Q:Value→Shared→Prop}(hm:j3 z.heap a es ep t)(hf:t.fits es.size=true)(hT:Tb (gI w) t)(hlen:es.size≤sizeLine)
  (hQ:∀(h' :Heap) (it tp:Addr) (d:Drawn) (xs:List (Int×Value)),z.heap.objs.size≤it→tp≠it→z.heap.objs.size≤tp→(∀b o,z.heap.get? b=some o→h'.get? b=some o)→dA w h' it a tp es ep t xs 0→xs.length=es.size→xs.Perm es.toList→Q (.ref it) {z with heap:=h',drawn:=d}):
  wpAny (model prog w) A (pyIter (.ref a)) Q E z:=by
 obtain⟨o,ho,hx,hd⟩:=id hm
 have hTy:z.TypeIs (.ref a) "set":=hm.ty
 have hsz:t.place.size=es.size:=by
  unfold SetTable.fits at hf
  simp at hf
  omega
 refine GdO hTy Fr.qH (Gbi Fr.qH hTy Fr.mW ?_ (Fr.nH _))
 unfold Builtin.«frozenset.__iter__»
 refine Gaa (m:=Builtin.Frozenset.slot0 "__iter__" ⟨[.ref a],[]⟩) (GcM (a:=a) rfl ?_)
 unfold Builtin.Frozenset.sizeOf
 refine Gaa (Gaa (Gaa (GaZ ho hd hf (Gab (Gab ?_)))))
 dsimp only
 refine Gaa ?_
 unfold setDrawn
 refine Gaa (GaZ ho hd hf (Gaa (iw ?_)))
 try dsimp only
 refine Gab ?_
 by_cases c:(!gI w&&(!t.plain&&decide (es.size>1)))=true
 ·show wpAny _ _ (if(!gI w&&(!t.plain&&decide (es.size>1)))=true then _ else _) _ _ z
  rw[Gag c]
  refine Gaa (jy es.size (List.range es.size) z _ (by simp) λps d hp=> ?_)
  have hpl:ps.length=es.size:=by rw[hp.length_eq];simp
  refine Gaa (GdJ ?_ (by rw[Gar];omega))
  have ho1:(z.heap.push {cls:= .type "tuple",data:= .seq (ps.map λ(i:Nat)=>rawInt i).toArray}).get? a=some o:=Gad _ ho
  refine Gaa (m:=setEpoch a) (Gaa (GaZ (s:={z with heap:=_,drawn:=d}) ho1 hd hf (Gab ?_)))
  dsimp only
  unfold newFields
  refine Gaa (GaX (Gab ⟨_,rfl,"set_iterator",_,⟨_,Gan _ rfl,rfl⟩,Fr.cA.lookup, ?_⟩) (by size_fits))
  refine hQ _ _ z.heap.objs.size d (ps.map λj=>es.getD j (0,.none)) (by rw[GbK];exact Gde _) (by rw[GbK];exact GaA (GbR _)) (Gau _) (λb o e=>Gad _ (Gad _ e)) ?_ (by simp[hpl]) (Way.perm (w:=w) (a:=a) (ep:=ep) (i:=0) (t:=t) (.drawn (h:=z.heap.push {cls:= .type "tuple",data:= .seq (ps.map λ(i:Nat)=>rawInt i).toArray}) (tp:=z.heap.objs.size) ⟨_,Gan _ rfl,rfl,0,rfl⟩ hp))
  exact⟨_,_,Gan _ rfl,rfl,rfl,.drawn ⟨_,Gad _ (Gan _ rfl),rfl,0,rfl⟩ hp⟩
 ·show wpAny _ _ (if(!gI w&&(!t.plain&&decide (es.size>1)))=true then _ else _) _ _ z
  rw[Gae c]
  refine Gaa (Gab ?_)
  refine Gaa (m:=setEpoch a) (Gaa (GaZ ho hd hf (Gab ?_)))
  dsimp only
  unfold newFields
  refine Gaa (GaX (Gab ⟨_,rfl,"set_iterator",_,⟨_,Gan _ rfl,rfl⟩,Fr.cA.lookup, ?_⟩) (by size_fits))
  obtain⟨xs,hW⟩:∃xs,Way w a es ep t (z.heap.push {cls:= .type "set_iterator",data:= .fields #[rawInt 0,rawInt 0,.ref a,rawInt es.size,rawInt ep]}) (z.heap.objs.size+1) (rawInt 0) 0 xs:=by
   cases hb:gI w with
   |true=>exact⟨_,.text hb⟩
   |false=>
    have c' :¬(t.plain=false∧es.size>1):=λq=>c (by rw[hb,q.1];simp[q.2])
    refine⟨_,.plain (s:=0) hb c' ?_ (by rw[hT.1,hb];rfl) (by simp)⟩
    cases hp:t.plain with
    |true=>exact hT.2 hp
    |false=>
     intro i j hij x y hx hy
     have:es.size≤1:=by
      rcases Gbb 1 es.size with q|q
      ·exact absurd ⟨hp,q⟩ c'
      ·exact q
     have h2:=(GbJ.mp hy).1
     omega
  exact hQ _ _ (z.heap.objs.size+1) z.drawn xs (Gau _) (Gbg (GbR _)) (Gde _) (λb o e=>Gad _ e) ⟨_,_,Gan _ rfl,rfl,rfl,hW⟩ (by have:=hW.perm.length_eq;simpa using this) hW.perm
theorem Am{d:Addr}{Q:Bool→Shared→Prop}(hT:z.TypeIs (.ref d) "set")(h:Q false z):wpAny (model prog w) A (Builtin.List.listLengthHint (.ref d)) Q E z:=by
 unfold Builtin.List.listLengthHint
 refine Gaa (Gdb hT Fr.C2.lookup ?_)
 generalize hid:("set.__len__":String)=id0
 wp_delta
 rw[show splitId id0=some ("set","__len__") from by subst hid;decide+kernel]
 subst hid
 refine Gaa (Gcg (T:="set") (b:=true) hT (by rw[Geq];kernel_rfl) ?_)
 refine GbM (λhab=>absurd hab (by decide)) (λ_=> ?_)
 refine GbM (λ_=> ?_) (λhab=>absurd (by decide+kernel) hab)
 refine Gaa (Gdl hT ?_)
 exact Gab h
theorem sL{R:Result→Shared→Prop}{a:Addr}{es:Array (Int×Value)}{ep:Nat}{t:SetTable}(hh:A.handled=none)(hm:j3 z.heap a es ep t)(hf:t.fits es.size=true)(hT:Tb (gI w) t)(hlen:es.size≤sizeLine)(S:Addr)(res:Value)(c₀:Nat)(hS:z.heap.get? S=some {cls:= .type "list",data:= .seq #[] c₀})(hSd:S≠a)
  (hR:∀h' tk d acc' c' (xs:List (Int×Value)),(∀b o,b≠S→z.heap.get? b=some o→h'.get? b=some o)→h'.get? S=some {cls:= .type "list",dict:=none,data:= .seq acc' c',slots:=#[]}→xs.Perm es.toList→acc'.toList=xs.map (·.2)→R (.ok (.ret res)) {z with heap:=h',toks:=tk,drawn:=d}):
  wpAny (model prog w) A.in1 (Builtin.List.listExtendWith (.ref S) (.ref a) res) (λfin s' =>match fin with| .done f=>R (.ok f) s' | .again c' =>c'.quiet=true∧codeAny (model prog w) A c' R s') (λe s' =>R (.error e) s') z:=by
 have hSlt:S<z.heap.objs.size:=Gam hS
 have hdlt:a<z.heap.objs.size:=let⟨o,ho,_⟩:=hm;Gam ho
 unfold Builtin.List.listExtendWith
 refine Gaa (Gdl (T:="set") hm.ty ?_)
 have h1:Builtin.List.listSameRef (.ref S) (.ref a)=false:=by simp[Builtin.List.listSameRef,hSd]
 have h2:(Value.type "set"==Value.type "list")=false:=by decide
 have h3:(Value.type "set"==Value.type "tuple")=false:=by decide
 simp only[h1,h2,h3,Ges,Gai,GaB]
 refine Gaa (Al hm hf hT hlen λh1 it tp d xs hit1 hnt htp hk1 hIt hxl hxp=> ?_)
 refine Gaa (Gbp (Am (z:={z with heap:=h1,drawn:=d}) (let⟨o,ho,hc,_⟩:=hm;⟨o,hk1 _ _ ho,hc.1⟩) ?_))
 have W:=(vi (prog:=prog) (w:=w) (A:=A.in1) hh it a tp (GaA (GaG hdlt hit1)) hnt es ep t hf xs hxl).toS
 have hSf:S∉[it,a,tp]:=λhmm=>by
  simp only[Gas,Gce,GdZ] at hmm
  rcases hmm with e|e|e
  ·exact Gbt _ (GaG (e▸hSlt) hit1)
  ·exact hSd e
  ·exact Gbt _ (GaG (e▸hSlt) htp)
 have hS₁:=hk1 _ _ hS
 refine GbM (λ_=> ?_) (λhab=>absurd (by decide+kernel) hab)
 refine Gaa (Gcz ?_)
 refine Gaa ?_
 show wpAny _ _ (updateSeq S (·.push .none)>>=λ_=>updateSeq S (·.pop)) _ _ _
 refine Gaa (Gcp hS₁ rfl ?_)
 have hS₂:=GaH (Obj.mapSeq (·.push Value.none)) hS₁ rfl
 refine Gcp (hz:=by seq_fits) hS₂ rfl ?_
 have hS₃:=GaH (Obj.mapSeq (·.pop)) hS₂ rfl
 have oth:∀b o,b≠S→h1.get? b=some o→((h1.update S (Obj.mapSeq (·.push Value.none))).update S (Obj.mapSeq (·.pop))).get? b=some o:=λb o hb e=>(GaS _ _ (Gba hb)).trans ((GaS _ _ (Gba hb)).trans e)
 have hSi:it≠S:=λe=>hSf (by simp[e])
 have hSt:tp≠S:=λe=>hSf (by simp[e])
 refine Gab ⟨GcZ F.plain_extend_loop _,codeAny_extend_loopS W hlen S hSf res es.size 0 _ #[] _ rfl (GaJ _) ?_ hS₃ (ItemsOf.nil _) λs' acc' c' hmv hS' hacc=> ?_⟩
 ·obtain⟨o,f,ho,hc,hd,hw⟩:=hIt
  exact⟨⟨o,f,oth it o hSi ho,hc,hd,hw.at λo e=>oth tp o hSt e⟩,hm.at λo e=>oth a o (Gba hSd) (hk1 _ _ e)⟩
 ·rw[Moved.eq_with hmv]
  refine hR s'.heap s'.toks d acc' c' xs (λb o hb e=>hmv.heap b o (λhmem=> ?_) (oth b o hb (hk1 _ _ e))) hS' hxp ?_
  ·rcases Gas.mp hmem with e' |hmem
   ·exact hb e'
   ·have hbl:=Gam e
    rw[GaK.mp hmem] at hbl
    exact absurd (GaG hbl hit1) (Gbt _)
  ·apply Gdh
   intro i
   by_cases hi:i<es.size
   ·have ha:acc'[i]? =some (acc'[i]'(by rw[hacc.1];exact hi)):=Gap _
    obtain⟨en,h1,h2⟩:=hacc.2 i _ ha
    rw[GaU,ha,Gax,h1,h2];rfl
   ·rw[GaV (by rw[GaC,hacc.1];omega),GaV (by simp;omega)]
theorem qI{a:Addr}{es:Array (Int×Value)}{ep:Nat}{t:SetTable}{Q:List Value→Shared→Prop}(hh:A.handled=none)(hm:j3 z.heap a es ep t)(hf:t.fits es.size=true)(hT:Tb (gI w) t)(hlen:es.size≤sizeLine)
  (h:∀h' tk d (xs:List (Int×Value)),z.heap.objs.size<h'.objs.size→(∀b o,z.heap.get? b=some o→h'.get? b=some o)→xs.Perm es.toList→Q (xs.map (·.2)) {z with heap:=h',toks:=tk,drawn:=d}):wpAny (model prog w) A (collect (.ref a)) Q E z:=by
 have hdlt:a<z.heap.objs.size:=let⟨o,ho,_⟩:=hm;Gam ho
 unfold collect
 refine Gaa (Gep (Gbx entry_proto_collect' ?_))
 show wpAny _ _ (newList []>>=λl0=>again (.builtin "list.__iadd__" ⟨[l0,.ref a],[]⟩)) _ _ z
 refine Gaa (Gct (Gab ⟨GdF _ (by decide+kernel),Gbx entry_list_iadd' ?_⟩))
 have hS:(z.heap.push (seqObj "list" #[] 0)).get? z.heap.objs.size=some {cls:= .type "list",data:= .seq #[] 0}:=Gan _ rfl
 rw[GbW (show plainId "list.__iadd__"=true by decide+kernel) _]
 show wpAny _ _ (Builtin.List.listExtendWith (.ref z.heap.objs.size) (.ref a) (.ref z.heap.objs.size)) _ _ {z with heap:=z.heap.push (seqObj "list" #[] 0)}
 refine sL (prog:=prog) (w:=w) (A:=A) (R:=λr s' =>match r with
   | .ok (.ret v)=>wpAny (model prog w) A (match v with
     | .ref a=>(load a>>=λo=>match o.data with
       | .seq xs _=>pure xs.toList
       |_=>unsupported "internal:collect")
     |_=>unsupported "internal:collect") Q E s'
   | .ok _=>False
   | .error e=>E e s') (z:={z with heap:=z.heap.push (seqObj "list" #[] 0)}) hh (hm.at λo e=>Gad _ e) hf hT hlen z.heap.objs.size (.ref z.heap.objs.size) 0 hS (Gba (GaA hdlt)) λh' tk d acc c xs hk hS' hp hacc=> ?_
 show wpAny (model prog w) A (load z.heap.objs.size>>=λo=>match o.data with
   | .seq xs _=>pure xs.toList
   |_=>unsupported "internal:collect") Q E {z with heap:=h',toks:=tk,drawn:=d}
 refine Gaa (wpAny_load hS' ?_)
 refine Gab ?_
 rw[hacc]
 exact h h' tk d xs (Gam hS') (λb o e=>hk b o (GaA (Gam e)) (Gad _ e)) hp
end
open PySem PySem.Spec PyProof.Rows L2
section
variable{X:Cx}{pins:List (Addr×Obj)}{σ:St}{H:Hp}{s:Shared}
theorem _root_.L2.Inv.draw(I:Inv X pins σ H s)(d:Drawn):Inv X pins σ H {s with drawn:=d}:=⟨I.ok,I.os,I.bare,I.base,I.loc,I.cell,I.free,I.ie,I.pin,I.hok,I.len⟩
end
section
variable{X:Cx}{e a b c:Expr}{f g h:DE}{pos:Pos}{pins:List (Addr×Obj)}{σ:St}{H:Hp}{s:Shared}
theorem il:∀{ns:List Int} {us:List Value},Vals (ns.map V.int) us→IntsAre us ns
 |[],_,.nil=> .nil
 |n::ns,_,.cons h t=>by
  obtain⟨k,rfl⟩:=h
  exact .cons n k (il t)
end
namespace Fr
end Fr
open PySem PySem.Spec PyProof.Rows L2
structure ou(K:aa)(Bad:Addr→Prop)(env:Env)(σ:St)(H:Hp)(i:Nat)(p:Addr)(ws:List (List Key×V))(kvs:Rws):Prop where
 at_:σ[i]? =some (some (.ref p))
 hid:env[i]? =some none
 top:H p=some (.dT ws)
 keys:kvs.map (·.1)=ws.map (·.1)
 row:∀(j:Nat) k v d,ws[j]? =some (k,v)→kvs[j]? =some (k,d)→∃a ds vs,v= .ref a∧d= .lst ds∧a≠p∧H a=some (.lst vs)∧aq K (λ_=>False) H ds vs
 inj:∀(j j' :Nat) k k' a,ws[j]? =some (k,V.ref a)→ws[j']? =some (k',V.ref a)→j=j'
noncomputable def qJ(H H' :Hp):Prop:=∀b o,H b=some o→isT o→H' b=some o
theorem qJ.trans{H H1 H2:Hp}(a:qJ H H1)(b:qJ H1 H2):qJ H H2:=λc o e t=>b c o (a c o e t) t
theorem qJ.same{H H1:Hp}(s:b8 H H1):qJ H H1:=λc o e _=>s c o e
theorem qJ.upd{H:Hp}{a:Addr}{o o' :HO}(h:H a=some o)(n:¬isT o):qJ H (upd H a o'):=λc x e t=>by
 have:c≠a:=by rintro rfl;rw[h] at e;cases e;exact n t
 rw[az this];exact e
section
variable{K:aa}{H₀ H H' H1:Hp}{Bad Bad' :Addr→Prop}{env env' :Env}{σ σ' :St}{d:D}{v:V}{a p:Addr}{i j:Nat}{ws:List (List Key×V)}{kvs:Rws}
theorem ou.mono(N:ou K Bad env σ H i p ws kvs)(s:b8 H H'):ou K Bad env σ H' i p ws kvs where
 at_:=N.at_
 hid:=N.hid
 top:=s _ _ N.top
 keys:=N.keys
 row:=λj k v d h1 h2=>let⟨a,ds,vs,e1,e2,e3,e4,e5⟩:=N.row j k v d h1 h2;⟨a,ds,vs,e1,e2,e3,s _ _ e4,e5.gen (.of_same s) λ_ f _=>f⟩
 inj:=N.inj
theorem ou.mi(N:ou K Bad env σ H i p ws kvs)(hij:i≠j):ou K Bad (env.set j (some (.sh d))) (σ.set j (some v)) H i p ws kvs where
 at_:=by rw[Gah (Gba hij)];exact N.at_
 hid:=by rw[Gah (Gba hij)];exact N.hid
 top:=N.top
 keys:=N.keys
 row:=λj k v d h1 h2=>let⟨a,ds,vs,e1,e2,e3,e4,e5⟩:=N.row j k v d h1 h2;⟨a,ds,vs,e1,e2,e3,e4,e5⟩
 inj:=N.inj
end
theorem qK{N P:List Str}{sc:Scope}(a:sc.kind= .function:=by rfl)(b:sc.isCoroutine=false:=by rfl)(c:sc.isGenerator=false:=by rfl)(d:N.Nodup:=by decide+kernel)(e:N.take P.length=P:=by rfl)(f:∀x∈P,sc.names.lookup x=some .local∨sc.names.lookup x=some .cell:=by decide+kernel)(g:∀y∈sc.names,y.2≠ .free:=by decide+kernel):bY N P sc:=⟨a,b,c,d,e,f,g⟩
noncomputable def An{κ β:Type} [DecidableEq κ](kvs:List (κ×β))(k:κ):List (κ×β):=kvs.filter λkv=> !decide (kv.1=k)
section
variable{X:Cx}{pos:Pos}
theorem aB.drop{K:aa}{F:Addr→Prop}{H:Hp}{kvs:List (List Key×D)}{ws:List (List Key×V)}(k:List Key)(h:aB K F H kvs ws):aB K F H (An kvs k) (An ws k):=by
 induction kvs generalizing ws with
 |nil=>rw[aB.bC h];exact .nil
 |cons x kvs ih=>
  obtain⟨c,d⟩:=x
  obtain⟨v,r,rfl,h1,h2⟩:=h.cons_inv
  have ih' :=ih h2
  unfold An at ih' ⊢
  by_cases q:c=k
  ·rw[List.filter_cons_of_neg (by simp[q]),List.filter_cons_of_neg (by simp[q])]
   exact ih'
  ·rw[List.filter_cons_of_pos (by simp[q]),List.filter_cons_of_pos (by simp[q])]
   exact aB.cons h1 ih'
end
open PySem
noncomputable def dt(mask:Nat):Nat→Nat×Nat→Nat×Nat
 |0,x=>x
 |n+1,x=>dt mask n (SetTable.leap mask x.1 x.2)
theorem ox(mask:Nat):∀(m n:Nat) (x:Nat×Nat),dt mask (m+n) x=dt mask n (dt mask m x)
 |0,n,x=>by rw[Gej];rfl
 |m+1,n,x=>by
  rw[Nat.succ_add]
  exact ox mask m n (SetTable.leap mask x.1 x.2)
noncomputable def lcg(mask:Nat):Nat→Nat→Nat
 |0,i=>i
 |n+1,i=>lcg mask n ((i*5+1)%(mask+1))
theorem qL(mask:Nat):∀(n i:Nat),dt mask n (i,0)=(lcg mask n i,0)
 |0,i=>rfl
 |n+1,i=>by
  show dt mask n (SetTable.leap mask i 0)=_
  have:SetTable.leap mask i 0=((i*5+1)%(mask+1),0):=by simp[SetTable.leap]
  rw[this,qL mask n]
  rfl
theorem jz(mask:Nat):∀(n:Nat) (x:Nat×Nat),(dt mask n x).2=x.2/32^n
 |0,x=>by simp[dt]
 |n+1,x=>by
  show(dt mask n (SetTable.leap mask x.1 x.2)).2=_
  rw[jz mask n]
  show x.2/32/32^n=_
  rw[Nat.div_div_eq_div_mul,Nat.pow_succ,Nat.mul_comm]
theorem uc(mask:Nat):∀(n:Nat) (x:Nat×Nat),x.1≤mask→(dt mask n x).1≤mask
 |0,x,h=>h
 |n+1,x,h=>uc mask n _ (GcK (Gdu _ (Gdr _)))
noncomputable def mY(mask:Nat):Nat→Nat→List Nat
 |0,_=>[]
 |n+1,i=>i::mY mask n ((i*5+1)%(mask+1))
theorem qM(mask:Nat):∀(n i m:Nat),m<n→(mY mask n i)[m]? =some (lcg mask m i)
 |0,i,m,h=>by omega
 |n+1,i,0,h=>rfl
 |n+1,i,m+1,h=>by
  show(mY mask n ((i*5+1)%(mask+1)))[m]? =_
  exact qM mask n _ m (by omega)
theorem mZ(mask:Nat):∀(n i:Nat),(mY mask n i).length=n
 |0,i=>rfl
 |n+1,i=>by show(mY mask n _).length+1=n+1;rw[mZ mask n]
theorem lM(mask:Nat):∀(m n i:Nat),lcg mask (m+n) i=lcg mask n (lcg mask m i)
 |0,n,i=>by rw[Gej];rfl
 |m+1,n,i=>by
  rw[Nat.succ_add]
  exact lM mask m n _
noncomputable def bP(mask:Nat):Bool:=((List.range (mask+1)).all λe=>(mY mask (mask+1) 0).contains e)&&lcg mask (mask+1) 0==0
theorem Ge:bP 31=true:=by decide+kernel
theorem DZ:bP 127=true:=by decide+kernel
theorem Ao{mask e:Nat}(h:bP mask=true)(he:e≤mask):∃m,m≤mask∧lcg mask m 0=e:=by
 unfold bP at h
 rw[Gaq] at h
 have h2:=Gat.mp h.1 e (GaT.mpr (by omega))
 have h3:e∈mY mask (mask+1) 0:=by simpa using h2
 obtain⟨m,hm,e1⟩:=Gcw h3
 rw[mZ] at hm
 refine⟨m,by omega, ?_⟩
 have:=qM mask (mask+1) 0 m hm
 rw[Gac (by rw[mZ];exact hm),e1] at this
 exact(Option.some.inj this).symm
theorem E5{mask i e:Nat}(h:bP mask=true)(hi:i≤mask)(he:e≤mask):∃m,m≤mask∧lcg mask m i=e:=by
 obtain⟨a,ha,ea⟩:=Ao h hi
 obtain⟨b,hb,eb⟩:=Ao h he
 by_cases c:a≤b
 ·refine⟨b -a,by omega, ?_⟩
  rw[←ea,←lM,show a+(b -a)=b by omega]
  exact eb
 ·refine⟨mask+1 -a+b,by omega, ?_⟩
  have z:lcg mask (mask+1) 0=0:=by
   unfold bP at h
   rw[Gaq] at h
   simpa using h.2
  have e0:lcg mask (mask+1 -a) i=0:=by
   rw[←ea,←lM,show a+(mask+1 -a)=mask+1 by omega]
   exact z
  rw[lM,e0]
  exact eb
theorem oy{mask i p e:Nat}(h:bP mask=true)(hi:i≤mask)(hp:p<2^64)(he:e≤mask):∃n,1≤n∧n≤mask+13∧(dt mask n (i,p)).1=e:=by
 have z:(dt mask 13 (i,p)).2=0:=by
  rw[jz]
  exact Nat.div_eq_of_lt (GaG hp (by decide))
 have l:=uc mask 13 (i,p) hi
 obtain⟨m,hm,e1⟩:=E5 h l he
 refine⟨13+m,by omega,by omega, ?_⟩
 rw[ox]
 have:dt mask 13 (i,p)=((dt mask 13 (i,p)).1,0):=Prod.ext rfl z
 rw[this,qL]
 exact e1
theorem km(mask i:Nat):SetTable.runEnd mask i -i≤9:=by
 unfold SetTable.runEnd
 split<;>omega
structure POk(t:SetTable)(p:SetTable.Probe):Prop where
 i:p.i≤t.mask
 more:p.more≤9
 Ew:p.perturb<2^64
theorem POk.start(t:SetTable)(h:Int):POk t (t.probeStart h):=by
 refine⟨?_,km _ _, ?_⟩
 ·exact GcK (Gdu _ (Gdr _))
 ·show SetTable.bits h<2^64
  unfold SetTable.bits
  have h1:0≤h%(2^64:Int):=Gdd _ (by decide)
  have h2:h%(2^64:Int)<2^64:=GcE _ (by decide)
  omega
theorem POk.adv{t:SetTable}{p:SetTable.Probe}(h:POk t p):POk t (t.advance p):=by
 unfold SetTable.advance
 split
 ·exact⟨h.i,by show p.more -1≤9;have:=h.more;omega,h.Ew⟩
 ·refine⟨?_,km _ _, ?_⟩
  ·exact GcK (Gdu _ (Gdr _))
  ·show p.perturb/32<2^64
   exact GdD (Nat.div_le_self _ _) h.Ew
theorem vj(t:SetTable)(p:SetTable.Probe)(d:Option Nat):(t.advance {p with dummy:=d})={t.advance p with dummy:=d}:=by
 unfold SetTable.advance
 dsimp only
 split<;>rfl
theorem qN(t:SetTable)(p:SetTable.Probe):{t.advance p with dummy:=p.dummy}=t.advance p:=by
 unfold SetTable.advance
 dsimp only
 split<;>rfl
theorem n4{t:SetTable}{hashAt:Nat→Int}{h:Int}{e:Nat}(he:t.slot e= .empty):∀(fuel n:Nat) (p:SetTable.Probe),1≤n→p.more≤9→(dt t.mask n (p.i,p.perturb)).1=e→p.more+10*(n -1)+1<fuel→(SetTable.probe.go t hashAt h fuel p).isSome=true
 |0,n,p,_,_,_,hf=>by omega
 |fuel+1,n,p,hn,hm,hl,hf=>by
  have rec_:∀d:Option Nat,(SetTable.probe.go t hashAt h fuel {t.advance p with dummy:=d}).isSome=true:=λd=>by
   by_cases c:p.more>0
   ·have ea:t.advance p={p with j:=p.j+1,more:=p.more -1}:=by
     unfold SetTable.advance
     rw[Gag c]
    rw[ea]
    exact n4 he fuel n _ hn (by show p.more -1≤9;omega) hl (by show p.more -1+10*(n -1)+1<fuel;omega)
   ·have ea:t.advance p={p with j:=(SetTable.leap t.mask p.i p.perturb).1,more:=SetTable.runEnd t.mask (SetTable.leap t.mask p.i p.perturb).1 -(SetTable.leap t.mask p.i p.perturb).1,i:=(SetTable.leap t.mask p.i p.perturb).1,perturb:=(SetTable.leap t.mask p.i p.perturb).2}:=by
     unfold SetTable.advance
     rw[Gae c]
    rw[ea]
    have hr:=km t.mask (SetTable.leap t.mask p.i p.perturb).1
    by_cases c1:n=1
    ·subst c1
     have hj:(SetTable.leap t.mask p.i p.perturb).1=e:=hl
     cases fuel with
     |zero=>omega
     |succ fuel=>
      unfold SetTable.probe.go
      dsimp only
      rw[hj,he]
      rfl
    ·obtain⟨n',rfl⟩:∃n',n=n' +1:=⟨n -1,by omega⟩
     refine n4 he fuel n' _ (by omega) hr hl ?_
     show SetTable.runEnd t.mask (SetTable.leap t.mask p.i p.perturb).1 -(SetTable.leap t.mask p.i p.perturb).1+10*(n' -1)+1<fuel
     omega
  unfold SetTable.probe.go
  cases q:t.slot p.j with
  |empty=>rfl
  |dummy=>
   dsimp only
   rw[vj]
   exact rec_ _
  |live i=>
   dsimp only
   split
   ·rfl
   ·have:=rec_ p.dummy
    rw[qN] at this
    exact this
theorem sM{t:SetTable}{hashAt:Nat→Int}{h:Int}{e:Nat}{p:SetTable.Probe}(hc:bP t.mask=true)(hp:POk t p)(he:t.slot e= .empty)(hem:e≤t.mask):(t.probe hashAt h p).isSome=true:=by
 obtain⟨n,h1,h2,h3⟩:=oy hc hp.i hp.Ew hem
 unfold SetTable.probe SetTable.turns
 exact n4 he _ n p h1 hp.more h3 (by have:=hp.more;omega)
theorem n5{mask:Nat}{owner:Array (Option Nat)}{e:Nat}(he:owner[e]? =some none):∀(fuel n i p:Nat),n<fuel→(dt mask n (i,p)).1=e→∃j,SetTable.layClean.free mask owner fuel i p=some j∧owner[j]? =some none
 |0,n,i,p,hf,_=>by omega
 |fuel+1,n,i,p,hf,hl=>by
  unfold SetTable.layClean.free
  cases q:(List.range (SetTable.runEnd mask i+1 -i)).find? λk=>(owner.getD (i+k) (some 0)).isNone with
  |some k=>
   refine⟨i+k,rfl, ?_⟩
   have h1:(owner.getD (i+k) (some 0)).isNone=true:=by simpa using List.find?_some q
   rw[GaM] at h1
   cases z:owner[i+k]? with
   |none=>rw[z] at h1;simp at h1
   |some o=>
    rw[z] at h1
    simp at h1
    rw[h1]
  |none=>
   dsimp only
   cases n with
   |zero=>
    exfalso
    have hi:i=e:=hl
    have:=Ger.mp q 0 (GaT.mpr (by unfold SetTable.runEnd;split<;>omega))
    rw[Nat.add_zero,hi,GaM,he] at this
    simp at this
   |succ n=>exact n5 he fuel n _ _ (by omega) hl
theorem vk{mask:Nat}{owner:Array (Option Nat)}{e:Nat}{h:Int}(hc:bP mask=true)(he:owner[e]? =some none)(hem:e≤mask):∃j,SetTable.layClean.free mask owner (SetTable.turns mask) (SetTable.bits h%(mask+1)) (SetTable.bits h)=some j∧owner[j]? =some none:=by
 have hp:SetTable.bits h<2^64:=by
  unfold SetTable.bits
  have h1:0≤h%(2^64:Int):=Gdd _ (by decide)
  have h2:h%(2^64:Int)<2^64:=GcE _ (by decide)
  omega
 obtain⟨n,h1,h2,h3⟩:=oy (i:=SetTable.bits h%(mask+1)) hc (GcK (Gdu _ (Gdr _))) hp hem
 exact n5 he _ n _ _ (by unfold SetTable.turns;omega) h3
theorem ud:∀{l:List (Option Nat)} {j m:Nat},l[j]? =some none→((l.set j (some m)).filterMap id).Perm (m::l.filterMap id)
 |[],j,m,h=>by simp at h
 |x::l,0,m,h=>by
  simp at h
  subst h
  simp
 |x::l,j+1,m,h=>by
  have h' :l[j]? =some none:=by simpa using h
  have ih:=ud (m:=m) h'
  rw[List.set_cons_succ]
  cases x with
  |none=>simpa using ih
  |some y=>
   show(y::(l.set j (some m)).filterMap id).Perm (m::y::l.filterMap id)
   exact(List.Perm.cons y ih).trans (List.Perm.swap m y _)
theorem has_none:∀{l:List (Option Nat)},(l.filterMap id).length<l.length→∃e:Nat,l[e]? =some none
 |[],h=>by simp at h
 |none::l,_=> ⟨0,rfl⟩
 |some x::l,h=>by
  have:(l.filterMap id).length<l.length:=by
   simp at h
   simpa using h
  obtain⟨e,he⟩:=has_none this
  exact⟨e+1,by simpa using he⟩
structure Laid(mask m:Nat)(owner:Array (Option Nat)):Prop where
 size:owner.size=mask+1
 occ:(owner.toList.filterMap id).Perm (List.range m)
theorem sN(mask:Nat):Laid mask 0 (Array.replicate (mask+1) none):=by
 refine⟨by simp, ?_⟩
 have:((Array.replicate (mask+1) (none:Option Nat)).toList.filterMap id)=[]:=by
  rw[Array.toList_replicate,List.filterMap_eq_nil_iff]
  intro x hx
  rw[List.eq_of_mem_replicate hx]
  rfl
 rw[this]
 exact List.Perm.refl _
theorem vm(owner:Array (Option Nat)):∀n,n=owner.size→((List.range n).filterMap λj=>(owner.getD j none).map λk=>(j,k)).map (·.2)=owner.toList.filterMap id:=by
 intro n hn
 subst hn
 have e:owner.toList=(List.range owner.size).map λj=>owner.getD j none:=by
  apply Gdh
  intro i
  rw[Gax,GaU]
  by_cases c:i<owner.size
  ·rw[Gem c,Gap c,Gco,GaM,Gap c]
   rfl
  ·rw[GbB (by omega),GaV (by simp;omega)]
   rfl
 rw[e,List.filterMap_map,List.map_filterMap]
 congr 1
 funext j
 show Option.map _ (Option.map _ _)=id (owner.getD j none)
 cases owner.getD j none<;>rfl
inductive Im (h:Heap):Nat→D→Value→Prop where
 |int (n:Nat) (i:Int) (t:Tok):Im h n (.int i) (.int i t)
 |str (n:Nat) (x:Str) (t:Tok):Im h n (.str x) (.str x t)
 |tup {n m:Nat} {a:Addr} {o:Obj} {items:Array Value} {ds:List D} (ho:h.get? a=some o) (hc:o.cls= .type "tuple") (hd:o.data= .seq items m) (hl:ds.length=items.toList.length) (hi:∀(i:Nat) d v,ds[i]? =some d→items.toList[i]? =some v→Im h n d v):Im h (n+1) (.tup ds) (.ref a)
noncomputable def aQ(w:World):Nat→D→Int
 |_,.int i=>hashInt i
 |_,.str x=>hashStr w x
 |n+1,.tup ds=>reduceHash (Builtin.Tuple.tupleHashOf (ds.map (aQ w n)))
 |_,_=>0
section
variable{prog:Program}{w:World}{A:Around}{E:Value→Shared→Prop}{s:Shared}
noncomputable def sO(prog:Program)(w:World)(A:Around)(s:Shared)(v:Value)(h:Int):Prop:=∀(tk:Nat) (R:Int→Shared→Prop) (E:Value→Shared→Prop),(∀tk',tk≤tk' →R h {s with toks:=tk' })→wpAny (model prog w) A (pyHash v) R E {s with toks:=tk}
theorem sP{n:Nat}{a:Addr}{o:Obj}{items:Array Value}{m:Nat}{ds:List D}(hu:A.units<cLine)(ho:s.heap.get? a=some o)(hc:o.cls= .type "tuple")(hd:o.data= .seq items m)(hl:ds.length=items.toList.length)
  (hi:∀(i:Nat) d v,ds[i]? =some d→items.toList[i]? =some v→sO prog w A.in1 s v (aQ w n d)):sO prog w A s (.ref a) (aQ w (n+1) (.tup ds)):=by
 intro tk Q E h
 have hT:({s with toks:=tk}:Shared).TypeIs (.ref a) "tuple":=⟨o,ho,hc⟩
 unfold pyHash
 first|unfold pyHashByItsType|skip
 first|refine Gaa (wpAny_cRoomFor_or (.inr hu) ?_)|skip
 refine Gaa (Gdb hT Gdj.lookup ?_)
 show wpAny _ _ (if(some (Value.builtin "tuple.__hash__")==some Value.none)=true then _ else _) Q E _
 rw[Gae (by rw[beq_builtin_none];exact Gay)]
 refine Gaa (Gdb hT Gdj.lookup ?_)
 show wpAny _ _ (callSpecialIfBoundUnlessNone? (.ref a) "__hash__" _>>=_) Q E _
 refine Gaa (wpAny_callSpecialIfBoundUnlessNone?_slot hT Gdj (Gbi Gdj hT F.entry_tuple_hash ?_ (F.args_tuple_hash_1 _)))
 show wpAny _ _ (Builtin.Tuple.tupleItemsOf (.ref a)>>=_) _ _ _
 refine Gaa (wpAny_tupleItemsOf ho hd ?_)
 refine Gaa ?_
 rw[←GdG]
 refine GcQ _
  (λrest (b:Array Int) s' =>∃i tk',tk≤tk' ∧i≤ds.length∧rest=items.toList.drop i∧b.toList=(ds.take i).map (aQ w n)∧s' ={s with toks:=tk' })
  _ ?_ ?_ _ _ ⟨0,tk,Gau _,GaJ _,rfl,rfl,rfl⟩
 ·rintro x rest b s' ⟨i,tk',htk,hle,hr,hb,rfl⟩
  have hlt:i<items.toList.length:=by
   rcases Gbb i items.toList.length with z|z
   ·exact z
   ·rw[List.drop_of_length_le z] at hr;cases hr
  rw[GbL hlt] at hr
  injection hr with hx hrest
  have hdi:i<ds.length:=by omega
  have hh:=hi i ds[i] x (Gac hdi) (by rw[hx];exact Gac hlt)
  refine Gaa (hh tk' _ _ λtk2 h2=> ?_)
  have fin:∃i' tk3,tk≤tk3∧i' ≤ds.length∧rest=items.toList.drop i' ∧(b.push (aQ w n ds[i])).toList=(ds.take i').map (aQ w n)∧({s with toks:=tk2}:Shared)={s with toks:=tk3}:=
   ⟨i+1,tk2,GbQ htk h2,hdi,hrest,by rw[Gdi,hb,List.take_succ_eq_append_getElem hdi,Gcr];rfl,rfl⟩
  first
   |exact Gab fin
   |exact Gaa (Gab (Gab fin))
 ·rintro b s' ⟨i,tk',htk,hle,hr,hb,rfl⟩
  have hi' :i=ds.length:=by
   have:(items.toList.drop i).length=0:=by rw[←hr];rfl
   rw[List.length_drop] at this
   omega
  subst hi'
  rw[List.take_length] at hb
  show wpAny _ _ (retInt (Builtin.Tuple.tupleHashOf b.toList)) _ _ _
  rw[hb]
  refine wpAny_ret_mkInt ?_
  have hq:∀tk2,tk≤tk2→Q (reduceHash (Builtin.Tuple.tupleHashOf (ds.map (aQ w n)))) {s with toks:=tk2}:=h
  show wpAny _ _ (if(decide (-(2:Int)^63≤Builtin.Tuple.tupleHashOf (ds.map (aQ w n)))&&decide (Builtin.Tuple.tupleHashOf (ds.map (aQ w n))<2^63))=true then _ else _) Q E _
  unfold reduceHash at hq
  by_cases hr:(decide (-(2:Int)^63≤Builtin.Tuple.tupleHashOf (ds.map (aQ w n)))&&decide (Builtin.Tuple.tupleHashOf (ds.map (aQ w n))<2^63))=true
  ·rw[Gag hr]
   rw[Gag hr] at hq
   exact Gab (hq _ (by first|exact htk|exact Gev htk))
  ·rw[Gae hr]
   rw[Gae hr] at hq
   exact Gaa (Gcz (Gab (hq _ (by first|exact htk|exact Gev htk))))
theorem ue:∀{n:Nat} {d:D} {v:Value} {A:Around},Im s.heap n d v→A.units+n<cLine→sO prog w A s v (aQ w n d)
 |n,_,_,A,.int _ i t,hu=>λtk R E h=>by
  have e:aQ w n (.int i)=(bA prog w).hash (.inl i):=by cases n<;>rfl
  rw[e] at h
  exact(bA prog w).pyHash (k:= .inl i) (kF prog w i t) (h _ (by first|exact Gau _|exact Gde _))
 |n,_,_,A,.str _ x t,hu=>λtk R E h=>by
  have e:aQ w n (.str x)=(bA prog w).hash (.inr x):=by cases n<;>rfl
  rw[e] at h
  exact(bA prog w).pyHash (k:= .inr x) (kH prog w x t) (h _ (by first|exact Gau _|exact Gde _))
 |n+1,_,_,A,.tup ho hc hd hl hi,hu=>sP (by omega) ho hc hd hl λi d v e1 e2=>ue (hi i d v e1 e2) (by show A.units+1+n<cLine;omega)
end
section
variable{prog:Program}{w:World}{A:Around}{E:Value→Shared→Prop}{s:Shared}
theorem drop_cons{α:Type}{l:List α}{i:Nat}{x:α}{rest:List α}(h:x::rest=l.drop i):l[i]? =some x∧rest=l.drop (i+1):=by
 have hlt:i<l.length:=by
  rcases Gbb i l.length with z|z
  ·exact z
  ·rw[List.drop_of_length_le z] at h;cases h
 rw[GbL hlt] at h
 injection h with h1 h2
 exact⟨by rw[h1];exact Gac hlt,h2⟩
theorem qO(n:Nat):∀{k:Nat} {d:D} {v:Value} {Q:Bool→Shared→Prop},Im s.heap n d v→n≤k→Q true s→wpAny (model prog w) A (eqIsQuiet k v) Q E s:=by
 induction n with
 |zero=>
  intro k d v Q im _ h
  cases im with
  |int _ i t=>rw[GdR _ (by rfl)];exact Gab h
  |str _ x t=>rw[GdR _ (by rfl)];exact Gab h
 |succ n ih=>
  intro k d v Q im hk h
  cases im with
  |int _ i t=>rw[GdR _ (by rfl)];exact Gab h
  |str _ x t=>rw[GdR _ (by rfl)];exact Gab h
  | @tup _ m a o items ds ho hc hd hl hi=>
   obtain⟨k,rfl⟩:∃k',k=k' +1:=⟨k -1,by omega⟩
   have hT:s.TypeIs (.ref a) "tuple":=⟨o,ho,hc⟩
   unfold eqIsQuiet
   refine Gaa (Gdb hT F.slot_tuple_eq.lookup ?_)
   show wpAny _ _ (isInstance (.ref a) (.type "tuple")>>=_) _ _ s
   refine Gaa (Gcg hT isSubtype_tuple_tuple ?_)
   simp only[GbT,Gai,GaB]
   refine Gaa (Gdn ho hd ?_)
   refine Gaa ?_
   show wpAny _ _ (forIn items _ _) _ _ s
   rw[←GdG]
   refine GcQ _ (λrest r s' =>r.1=none∧s' =s∧∃i,rest=items.toList.drop i) _ ?_ ?_ _ _ ⟨rfl,rfl,0,rfl⟩
   ·rintro v rest r s' ⟨hr,hs,i,hrest⟩
    obtain⟨hx,hr2⟩:=drop_cons hrest
    have hlt:=(Gaf.mp hx).1
    have im:=hi i ds[i] v (Gac (by omega)) hx
    rw[hs]
    refine Gaa (ih im (by omega) ?_)
    simp only[GbT,Gai,GaB]
    exact Gab ⟨rfl,rfl,i+1,hr2⟩
   ·rintro⟨r1,r2⟩ s' ⟨hr,hs,_⟩
    simp only at hr
    subst hr
    rw[hs]
    exact Gab h
theorem qP(n:Nat):∀{k:Nat} {d:D} {v:Value} {Q:Bool→Shared→Prop},Im s.heap n d v→n≤k→Q false s→wpAny (model prog w) A (ofAClassStatement k v) Q E s:=by
 induction n with
 |zero=>
  intro k d v Q im _ h
  cases im with
  |int _ i t=>unfold ofAClassStatement;exact Gab h
  |str _ x t=>unfold ofAClassStatement;exact Gab h
 |succ n ih=>
  intro k d v Q im hk h
  cases im with
  |int _ i t=>unfold ofAClassStatement;exact Gab h
  |str _ x t=>unfold ofAClassStatement;exact Gab h
  | @tup _ m a o items ds ho hc hd hl hi=>
   obtain⟨k,rfl⟩:∃k',k=k' +1:=⟨k -1,by omega⟩
   have hT:s.TypeIs (.ref a) "tuple":=⟨o,ho,hc⟩
   unfold ofAClassStatement
   refine Gaa (Gdl hT ?_)
   dsimp only
   rw[Gag (by rfl)]
   refine Gaa (Gab ?_)
   simp only[GbT,Gai,GaB]
   refine Gaa (Gdn ho hd ?_)
   dsimp only
   refine Gaa ?_
   rw[←GdG]
   refine GcQ _ (λrest r s' =>r.1=none∧s' =s∧∃i,rest=items.toList.drop i) _ ?_ ?_ _ _ ⟨rfl,rfl,0,rfl⟩
   ·rintro v rest r s' ⟨hr,hs,i,hrest⟩
    obtain⟨hx,hr2⟩:=drop_cons hrest
    have hlt:=(Gaf.mp hx).1
    have im:=hi i ds[i] v (Gac (by omega)) hx
    rw[hs]
    refine Gaa (ih im (by omega) ?_)
    simp only[Gai,GaB]
    exact Gab ⟨rfl,rfl,i+1,hr2⟩
   ·rintro⟨r1,r2⟩ s' ⟨hr,hs,_⟩
    simp only at hr
    subst hr
    rw[hs]
    exact Gab h
theorem E9(n:Nat):∀{k:Nat} {d:D} {v:Value} {Q:Bool→Shared→Prop},Im s.heap n d v→n≤k→(∀b,Q b s)→wpAny (model prog w) A (hashByValue k v) Q E s:=by
 induction n with
 |zero=>
  intro k d v Q im _ h
  cases im with
  |int _ i t=>cases k<;>(unfold hashByValue;exact Gab (h _))
  |str _ x t=>cases k<;>(unfold hashByValue;exact Gab (h _))
 |succ n ih=>
  intro k d v Q im hk h
  cases im with
  |int _ i t=>cases k<;>(unfold hashByValue;exact Gab (h _))
  |str _ x t=>cases k<;>(unfold hashByValue;exact Gab (h _))
  | @tup _ m a o items ds ho hc hd hl hi=>
   obtain⟨k,rfl⟩:∃k',k=k' +1:=⟨k -1,by omega⟩
   have hT:s.TypeIs (.ref a) "tuple":=⟨o,ho,hc⟩
   unfold hashByValue
   refine Gaa (Gdb hT Gdj.lookup ?_)
   show wpAny _ _ (seqItems? (.ref a)>>=_) _ _ s
   refine Gaa (Gdn ho hd ?_)
   refine Gaa ?_
   show wpAny _ _ (forIn items _ _) _ _ s
   rw[←GdG]
   refine GcQ _ (λrest r s' =>r.1=none∧s' =s∧∃i,rest=items.toList.drop i) _ ?_ ?_ _ _ ⟨rfl,rfl,0,rfl⟩
   ·rintro v rest r s' ⟨hr,hs,i,hrest⟩
    obtain⟨hx,hr2⟩:=drop_cons hrest
    have hlt:=(Gaf.mp hx).1
    have im:=hi i ds[i] v (Gac (by omega)) hx
    rw[hs]
    refine Gaa (ih im (by omega) λb=> ?_)
    cases b with
    |true=>
     simp only[GbT,Gai,GaB]
     exact Gab ⟨rfl,rfl,i+1,hr2⟩
    |false=>
     simp only[Bool.not_false,Gbf]
     exact Gab (Gab (h _))
   ·rintro⟨r1,r2⟩ s' ⟨hr,hs,_⟩
    simp only at hr
    subst hr
    rw[hs]
    exact Gab (h _)
end
section
variable{s:Shared}
theorem Ap(n:Nat):∀{d:D} {v:Value},Im s.heap n d v→a9 n d=true:=by
 induction n with
 |zero=>
  intro d v im
  cases im<;>rfl
 |succ n ih=>
  intro d v im
  cases im with
  |int _ i t=>rfl
  |str _ x t=>rfl
  | @tup _ m a o items ds ho hc hd hl hi=>
   show ds.all (a9 n)=true
   rw[Gat]
   intro d hdm
   obtain⟨i,hi1,rfl⟩:=Gcw hdm
   exact ih (hi i ds[i] items.toList[i] (Gac hi1) (Gac (by omega)))
theorem n6(n:Nat):∀{d e:D} {v:Value},Im s.heap n d v→Im s.heap n e v→d=e:=by
 induction n with
 |zero=>
  intro d e v i1 i2
  cases i1<;>cases i2<;>rfl
 |succ n ih=>
  intro d e v i1 i2
  cases i1 with
  |int _ i t=>cases i2;rfl
  |str _ x t=>cases i2;rfl
  | @tup _ m a o items ds ho hc hd hl hi=>
   cases i2 with
   | @tup _ m' _ o' items' ds' ho' hc' hd' hl' hi' =>
    rw[ho] at ho'
    cases ho'
    rw[hd] at hd'
    cases hd'
    congr 1
    apply Gdt (by omega)
    intro i h1 h2
    exact ih (hi i _ items.toList[i] (Gac h1) (Gac (by omega))) (hi' i _ _ (Gac h2) (Gac (by omega)))
theorem Gf(n:Nat):∀{dx dy:D} {v u:Value} {A:Around},Im s.heap n dx v→Im s.heap n dy u→A.units+n<cLine→SeqAt.EqAt A s v u (eqD dx dy):=by
 have flat:∀{x y:V} {v u:Value} {A:Around} {b:Bool},RelV x v→RelV y u→kI x=true→kI y=true→b=eqV x y→SeqAt.EqAt A s v u b:=by
  intro x y v u A b rv ru fx fy e
  rw[e]
  exact vW rv ru fx fy
 induction n with
 |zero=>
  intro dx dy v u A i1 i2 hu
  cases i1 with
  |int _ i t=>
   cases i2 with
   |int _ j t' =>exact flat (x:= .int i) (y:= .int j) ⟨t,rfl⟩ ⟨t',rfl⟩ rfl rfl rfl
   |str _ y t' =>exact flat (x:= .int i) (y:= .str y) ⟨t,rfl⟩ ⟨t',rfl⟩ rfl rfl rfl
  |str _ x t=>
   cases i2 with
   |int _ j t' =>exact flat (x:= .str x) (y:= .int j) ⟨t,rfl⟩ ⟨t',rfl⟩ rfl rfl rfl
   |str _ y t' =>exact flat (x:= .str x) (y:= .str y) ⟨t,rfl⟩ ⟨t',rfl⟩ rfl rfl rfl
 |succ n ih=>
  intro dx dy v u A i1 i2 hu
  have hu0:A.units<cLine:=by omega
  cases i1 with
  |int _ i t=>
   cases i2 with
   |int _ j t' =>exact flat (x:= .int i) (y:= .int j) ⟨t,rfl⟩ ⟨t',rfl⟩ rfl rfl rfl
   |str _ y t' =>exact flat (x:= .int i) (y:= .str y) ⟨t,rfl⟩ ⟨t',rfl⟩ rfl rfl rfl
   |tup ho hc hd hl hi=>exact SeqAt.EqAt.int_tuple i t ⟨_,ho,hc,_,hd⟩ hu0
  |str _ x t=>
   cases i2 with
   |int _ j t' =>exact flat (x:= .str x) (y:= .int j) ⟨t,rfl⟩ ⟨t',rfl⟩ rfl rfl rfl
   |str _ y t' =>exact flat (x:= .str x) (y:= .str y) ⟨t,rfl⟩ ⟨t',rfl⟩ rfl rfl rfl
   |tup ho hc hd hl hi=>exact SeqAt.EqAt.str_tuple x t ⟨_,ho,hc,_,hd⟩ hu0
  | @tup _ m a o items ds ho hc hd hl hi=>
   have ht:IsTup s.heap a items:=⟨_,ho,hc,_,hd⟩
   have i1' :Im s.heap (n+1) (.tup ds) (.ref a):= .tup ho hc hd hl hi
   cases i2 with
   |int _ j t' =>exact SeqAt.EqAt.tuple_int j t' ht hu0
   |str _ y t' =>exact SeqAt.EqAt.tuple_str y t' ht hu0
   | @tup _ m' b o' items' ds' ho' hc' hd' hl' hi' =>
    have i2' :Im s.heap (n+1) (.tup ds') (.ref b):= .tup ho' hc' hd' hl' hi'
    by_cases hab:a=b
    ·subst hab
     have:=n6 (n+1) i1' i2'
     rw[←this,mq _ _ (Ap _ i1')]
     exact SeqAt.EqAt.same _
    ·have ht2:IsTup s.heap b items' :=⟨_,ho',hc',_,hd'⟩
     have hs1:items.size=ds.length:=by rw[hl];simp
     have hs2:items'.size=ds'.length:=by rw[hl'];simp
     have key:=SeqAt.RcAt.tuples (e:=λj=>eqD (ds.getD j .non) (ds'.getD j .non)) ht ht2 hu0 λj h1 h2=>by
      have e1:ds.getD j .non=ds[j]'(by omega):=by rw[Gdx,Gac (by omega)];rfl
      have e2:ds'.getD j .non=ds'[j]'(by omega):=by rw[Gdx,Gac (by omega)];rfl
      rw[e1,e2]
      exact ih (hi j _ _ (Gac (by omega)) (by rw[GaU];exact Gap h1)) (hi' j _ _ (Gac (by omega)) (by rw[GaU];exact Gap h2)) (in1_units hu)
     refine SeqAt.EqAt.of_refs hab ?_
     show SeqAt.RcAt A s (.ref a) (.ref b) (fV ds ds')
     rw[hs1,hs2] at key
     by_cases hll:ds.length=ds'.length
     ·rw[←hll,Geh,cz hll] at key
      simpa using key
     ·rw[dS hll]
      have:(ds.length==ds'.length)=false:=by simpa using hll
      rw[this,GdI] at key
      exact key
end
noncomputable def aP(t:SetTable):Nat→SetTable.Probe→SetTable.Probe
 |0,p=>p
 |n+1,p=>aP t n (t.advance p)
theorem fL(t:SetTable):∀(m n:Nat) (p:SetTable.Probe),aP t (m+n) p=aP t n (aP t m p)
 |0,n,p=>by rw[Gej];rfl
 |m+1,n,p=>by
  rw[Nat.succ_add]
  exact fL t m n _
theorem fM(t:SetTable)(n:Nat)(p:SetTable.Probe):aP t (n+1) p=t.advance (aP t n p):=fL t n 1 p
structure TOk(t:SetTable)(n:Nat):Prop where
 cov:bP t.mask=true
 odd:t.mask%2=1
 dum:t.dummies=#[]
 size:t.place.size=n
 few:n≤t.mask
theorem gh{t:SetTable}(h:t.dummies=#[])(j:Nat):t.slot j= .empty∨∃i,t.slot j= .live i∧t.place[i]? =some j:=by
 unfold SetTable.slot
 dsimp only
 split
 ·rename_i c
  exact .inr ⟨_,rfl,by simpa using c⟩
 ·rw[h]
  left
  have:SetTable.has #[] j=false:=by
   unfold SetTable.has
   simp
  rw[this]
  simp
theorem uf:∀(N:Nat) (l:List Nat),l.length<N→∃e,e<N∧e∉l
 |0,l,h=>by omega
 |N+1,l,h=>by
  by_cases c:N∈l
  ·obtain⟨e,he,hn⟩:=uf N (l.erase N) (by rw[List.length_erase_of_mem c];have:=List.length_pos_of_mem c;omega)
   refine⟨e,by omega,λz=>hn ?_⟩
   exact(List.mem_erase_of_ne (by omega)).mpr z
  ·exact⟨N,by omega,c⟩
theorem TOk.hole{t:SetTable}{n:Nat}(h:TOk t n):∃e,e≤t.mask∧t.slot e= .empty:=by
 obtain⟨e,he,hn⟩:=uf (t.mask+1) t.place.toList (by rw[GaC,h.size];have:=h.few;omega)
 refine⟨e,by omega, ?_⟩
 rcases gh h.dum e with q| ⟨i,_,hp⟩
 ·exact q
 ·exfalso
  apply hn
  have:t.place.toList[i]? =some e:=by rw[GaU];exact hp
  exact GaO this
theorem fj{t:SetTable}{hashAt:Nat→Int}{h:Int}(hd:t.dummies=#[]):∀(fuel:Nat) (p:SetTable.Probe) (met:SetTable.Met),p.dummy=none→SetTable.probe.go t hashAt h fuel p=some met→
  ∃m,m<fuel∧(∀m',m' <m→∃i,t.slot (aP t m' p).j= .live i∧hashAt i≠h)∧((met= .empty (aP t m p).j none∧t.slot (aP t m p).j= .empty)∨∃i,met= .candidate (aP t m p).j i (t.advance (aP t m p))∧t.slot (aP t m p).j= .live i∧hashAt i=h)
 |0,p,met,_,e=>by cases e
 |fuel+1,p,met,hp,e=>by
  unfold SetTable.probe.go at e
  rcases gh hd p.j with q| ⟨i,q,_⟩
  ·rw[q] at e
   cases e
   exact⟨0,by omega,λm' h=>by omega,.inl ⟨by rw[hp];rfl,q⟩⟩
  ·rw[q] at e
   dsimp only at e
   split at e
   ·rename_i c
    cases e
    exact⟨0,by omega,λm' h=>by omega,.inr ⟨i,rfl,q,by simpa using c⟩⟩
   ·rename_i c
    have hne:hashAt i≠h:=by simpa using c
    have hp' :(t.advance p).dummy=none:=by
     have:=qN t p
     unfold SetTable.advance
     split<;>exact hp
    obtain⟨m,h0,h1,h2⟩:=fj hd fuel (t.advance p) met hp' e
    refine⟨m+1,by omega,λm' hm' => ?_,h2⟩
    cases m' with
    |zero=>exact⟨i,q,hne⟩
    |succ m' =>exact h1 m' (by omega)
theorem n8{t:SetTable}{n:Nat}{hashAt:Nat→Int}{h:Int}{p:SetTable.Probe}(T:TOk t n)(hp:POk t p)(hd:p.dummy=none):∃met m,m<10*SetTable.turns t.mask∧t.probe hashAt h p=some met∧(∀m',m' <m→∃i,t.slot (aP t m' p).j= .live i∧hashAt i≠h)∧
  ((met= .empty (aP t m p).j none∧t.slot (aP t m p).j= .empty)∨∃i,met= .candidate (aP t m p).j i (t.advance (aP t m p))∧t.slot (aP t m p).j= .live i∧hashAt i=h):=by
 obtain⟨e,he,hs⟩:=T.hole
 have hsome:=sM (hashAt:=hashAt) (h:=h) T.cov hp hs he
 obtain⟨met,hm⟩:=Option.isSome_iff_exists.mp hsome
 obtain⟨m,h0,h1,h2⟩:=fj T.dum _ p met hd hm
 exact⟨met,m,h0,hm,h1,h2⟩
theorem POk.aP{t:SetTable}{p:SetTable.Probe}(h:POk t p):∀n,POk t (aP t n p)
 |0=>h
 |n+1=>by
  rw[fM]
  exact(POk.aP h n).adv
theorem Aq{t:SetTable}{n:Nat}(T:TOk t n)(h:Int):∃K,K<10*SetTable.turns t.mask∧t.slot (aP t K (t.probeStart h)).j= .empty∧∀k,k<K→∃i,t.slot (aP t k (t.probeStart h)).j= .live i:=by
 obtain⟨met,m,h0,_,h1,h2⟩:=n8 (hashAt:=λ_=>h+1) (h:=h) (p:=t.probeStart h) T (.start t h) rfl
 refine⟨m,h0, ?_,λk hk=> ?_⟩
 ·rcases h2 with⟨_,q⟩| ⟨i,_,_,q⟩
  ·exact q
  ·exfalso;omega
 ·obtain⟨i,q,_⟩:=h1 k hk
  exact⟨i,q⟩
noncomputable def Ar(t:SetTable)(h:Int)(j:Nat):Prop:=∃k,(aP t k (t.probeStart h)).j=j∧∀k',k' <k→∃i,t.slot (aP t k' (t.probeStart h)).j= .live i
section
variable{prog:Program}{w:World}{A:Around}{E:Value→Shared→Prop}{s:Shared}
theorem C4{n:Nat}{dx:D}{x:Value}{stored:List Value}{Q:Bool→Shared→Prop}(hx:Im s.heap n dx x)(hs:∀y∈stored,∃d,Im s.heap n d y)(hn:n≤8)(h:Q false s):wpAny (model prog w) A (searchCouldBeSeen x stored) Q E s:=by
 unfold searchCouldBeSeen
 refine Gaa ?_
 refine GcQ _ (λrest r s' =>r.1=none∧s' =s∧∀y∈rest,y∈stored) _ ?_ ?_ _ _ ⟨rfl,rfl,λy hy=>hy⟩
 ·rintro y rest r s' ⟨hr,hs',hall⟩
  obtain⟨d,hy⟩:=hs y (hall y Gav)
  have more:∀z∈rest,z∈stored:=λz hz=>hall z (Gak _ hz)
  rw[hs']
  dsimp only
  split
  all_goals
   split
   ·exact Gab ⟨rfl,rfl,more⟩
   ·refine Gaa (qO n hx hn ?_)
    simp only[GbT,Gai,GaB]
    refine Gaa (qO n hy hn ?_)
    simp only[GbT,Gai,GaB]
    refine Gaa (qP n hx hn ?_)
    simp only[Gai,GaB]
    refine Gaa (qP n hy hn ?_)
    simp only[Gai,GaB]
    exact Gab ⟨rfl,rfl,more⟩
 ·rintro⟨r1,r2⟩ s' ⟨hr,hs',_⟩
  simp only at hr
  subst hr
  rw[hs']
  exact Gab h
structure j4(w:World)(g:Heap)(n:Nat)(es:Array (Int×Value))(t:SetTable):Prop where
 tok:TOk t es.size
 el:∀(i:Nat) h v,es[i]? =some (h,v)→∃b d,v= .ref b∧Im g n d v∧h=aQ w n d
 ris:Ris t.place
 way:∀(i:Nat) h v j,es[i]? =some (h,v)→t.place[i]? =some j→Ar t h j
end
section
variable{prog:Program}{w:World}{A:Around}{E:Value→Shared→Prop}{s:Shared}
noncomputable def storedAt(es:Array (Int×Value))(i:Nat):Int:=(es[i]?.map (·.1)).getD 0
theorem qQ(t:SetTable)(h:Int):∀k,(aP t k (t.probeStart h)).dummy=none
 |0=>rfl
 |k+1=>by
  have ih:=qQ t h k
  rw[fM]
  unfold SetTable.advance
  split<;>exact ih
noncomputable def j5(g:Heap)(n:Nat)(es:Array (Int×Value))(dx:D)(i:Nat):Prop:=∀h v d,es[i]? =some (h,v)→Im g n d v→eqD d dx=false
theorem pG{t:SetTable}{i j:Nat}(hr:Ris t.place)(h:t.place[i]? =some j):t.slot j= .live i:=by
 obtain⟨_,b2,b3⟩:=fJ (j:=j) hr
 have e:SetTable.below t.place j=i:=by
  rcases GdQ i (SetTable.below t.place j) with z|z|z
  ·exact absurd (b2 i j z h) (Gbt _)
  ·exact z.symm
  ·have hi:=(GbJ.mp h).1
   have g:t.place[SetTable.below t.place j]? =some (t.place[SetTable.below t.place j]'(by omega)):=Gap (by omega)
   have h1:=b3 _ _ (Gau _) g
   have h2:=hr _ _ z _ _ g h
   omega
 unfold SetTable.slot
 dsimp only
 rw[e,h]
 simp
theorem ug(n:Nat):∀{d e:D} {v u:Value},Im s.heap n d v→Im s.heap n e u→eqD d e=true→d=e:=by
 induction n with
 |zero=>
  intro d e v u i1 i2 h
  cases i1<;>cases i2<;>simp at h<;>simp[h]
 |succ n ih=>
  intro d e v u i1 i2 h
  cases i1 with
  |int _ i t=>cases i2<;>simp at h<;>simp[h]
  |str _ x t=>cases i2<;>simp at h<;>simp[h]
  | @tup _ m a o items ds ho hc hd hl hi=>
   cases i2 with
   |int _ i t=>simp at h
   |str _ x t=>simp at h
   | @tup _ m' b o' items' ds' ho' hc' hd' hl' hi' =>
    have h' :fV ds ds' =true:=by simpa using h
    have hll:ds.length=ds'.length:=by
     rcases Nat.decEq ds.length ds'.length with z|z
     ·rw[dS z] at h';cases h'
     ·exact z
    rw[←cz hll] at h'
    congr 1
    refine Gdt hll λi h1 h2=> ?_
    have:=Gat.mp h' i (GaT.mpr h1)
    have e1:ds.getD i .non=ds[i]:=by simp[h1]
    have e2:ds'.getD i .non=ds'[i]:=by simp[h2]
    rw[e1,e2] at this
    exact ih (hi i _ items.toList[i] (Gac h1) (Gac (by omega))) (hi' i _ items'.toList[i] (Gac h2) (Gac (by omega))) this
theorem sQ{es:Array (Int×Value)}{t:SetTable}{n:Nat}{dx:D}{x:Value}(X:j4 w s.heap n es t)(hx:Im s.heap n dx x){k:Nat}(hk:t.slot (aP t k (t.probeStart (aQ w n dx))).j= .empty)
  (past:∀k',k' <k→∃i,t.slot (aP t k' (t.probeStart (aQ w n dx))).j= .live i∧j5 s.heap n es dx i)(i:Nat):j5 s.heap n es dx i:=by
 intro h v d he im
 cases hq:eqD d dx with
 |false=>rfl
 |true=>
  exfalso
  have ed:=ug n im hx hq
  subst ed
  have hi:i<t.place.size:=by
   rw[X.tok.size]
   exact(GbJ.mp he).1
  have hp:t.place[i]? =some t.place[i]:=Gap hi
  obtain⟨b,d',hv,im',hh⟩:=X.el i h v he
  have:=n6 n im im'
  subst this
  subst hh
  obtain⟨k2,e2,before⟩:=X.way i _ v _ he hp
  have sl:=pG X.ris hp
  rcases GdQ k2 k with z|z|z
  ·obtain⟨i',q,un⟩:=past k2 z
   rw[e2,sl] at q
   cases q
   have:=un _ v d he im
   rw[this] at hq
   cases hq
  ·subst z
   rw[e2,sl] at hk
   cases hk
  ·obtain⟨i',q⟩:=before k z
   rw[hk] at q
   cases q
theorem qR{a:Addr}{o:Obj}{es:Array (Int×Value)}{ep:Nat}{t:SetTable}{n:Nat}{b:Addr}{dx:D}{R:SetFound→Shared→Prop}(ho:s.heap.get? a=some o)(hd:o.data= .set es ep t)(hf:t.fits es.size=true)(X:j4 w s.heap n es t)(hx:Im s.heap n dx (.ref b))(hn:n≤8)(hu:A.units+n<cLine)
  {K:Nat}(hK:t.slot (aP t K (t.probeStart (aQ w n dx))).j= .empty)
  (h1:(∃i,¬j5 s.heap n es dx i)→R (.there none) s)
  (h2:∀k,t.slot (aP t k (t.probeStart (aQ w n dx))).j= .empty→(∀k',k' <k→∃i,t.slot (aP t k' (t.probeStart (aQ w n dx))).j= .live i)→(∀i,j5 s.heap n es dx i)→R (.free (aP t k (t.probeStart (aQ w n dx))).j false) s):
  ∀(fuel k:Nat) (stand:Option SetTable.Probe),stand.getD (t.probeStart (aQ w n dx))=aP t k (t.probeStart (aQ w n dx))→K -k<fuel→(∀k',k' <k→∃i,t.slot (aP t k' (t.probeStart (aQ w n dx))).j= .live i∧j5 s.heap n es dx i)→
   wpAny (model prog w) A (setSearchFrom a (.ref b) (aQ w n dx) true fuel stand) R E s:=by
 have hK' :=hK
 have na:=λk=>sQ (k:=k) X hx
 generalize hhe:aQ w n dx=hh at*
 intro fuel
 induction fuel with
 |zero=>intro k stand _ hlt;omega
 |succ fuel ih=>
  intro k stand hst hlt past
  have hkK:k≤K:=by
   rcases Gbb K k with z|z
   ·obtain⟨i,q,_⟩:=past K z
    rw[hK] at q
    cases q
   ·exact z
  unfold setSearchFrom
  refine Gaa (GaZ ho hd hf ?_)
  dsimp only
  have gw:t.gaveWay=false:=by
   unfold SetTable.gaveWay
   rw[X.tok.odd]
   rfl
  rw[gw]
  simp only[Gai,GaB]
  rw[hst]
  have pk:POk t (aP t k (t.probeStart hh)):=(POk.start t _).aP k
  obtain⟨met,m,_,hm,p1,p2⟩:=n8 (hashAt:=storedAt es) (h:=hh) X.tok pk (qQ t hh k)
  erw[hm]
  rw[←fL] at p2
  have past2:∀k',k' <k+m→∃i,t.slot (aP t k' (t.probeStart hh)).j= .live i∧j5 s.heap n es dx i:=λk' hk' =>by
   rcases Gbb k' k with z|z
   ·exact past k' z
   ·obtain⟨i,q,hne⟩:=p1 (k' -k) (by omega)
    rw[←fL,show k+(k' -k)=k' by omega] at q
    refine⟨i,q,λh v d he im=> ?_⟩
    cases hq:eqD d dx with
    |false=>rfl
    |true=>
     exfalso
     have ed:=ug n im hx hq
     subst ed
     obtain⟨b',d',hv,im',hh'⟩:=X.el i h v he
     have:=n6 n im im'
     subst this
     apply hne
     unfold storedAt
     rw[he,←hhe,←hh']
     rfl
  rcases p2 with⟨rfl,q⟩| ⟨i,rfl,q,hi⟩
  ·dsimp only
   exact Gab (h2 _ q (λk' z=>let⟨i,q,_⟩:=past2 k' z;⟨i,q⟩) (na _ q past2))
  ·have hj:t.place[i]? =some (aP t (k+m) (t.probeStart hh)).j:=by
    rcases gh X.tok.dum (aP t (k+m) (t.probeStart hh)).j with z| ⟨i',z,hp⟩
    ·rw[q] at z;cases z
    ·rw[q] at z;cases z;exact hp
   have hlt2:i<es.size:=by
    have:=(GbJ.mp hj).1
    rw[X.tok.size] at this
    exact this
   have hes:es[i]? =some (es[i].1,es[i].2):=Gap hlt2
   obtain⟨c,d,hv,im,hh'⟩:=X.el i _ _ hes
   have hkm:k+m<K:=by
    rcases GdQ (k+m) K with z|z|z
    ·exact z
    ·rw[z,hK] at q;cases q
    ·obtain⟨i',q',_⟩:=past2 K z
     rw[hK] at q';cases q'
   have sm:t.sameMemory t.moves t.mask=some true:=by
    unfold SetTable.sameMemory
    simp
   have nx:t.advance (aP t (k+m) (t.probeStart hh))=aP t (k+m+1) (t.probeStart hh):=(fM t _ _).symm
   have hseen:∀y∈((es.filter (·.1==hh)).toList.map (·.2)),∃d,Im s.heap n d y:=λy hy=>by
    obtain⟨e,he,rfl⟩:=Gaz.mp hy
    have he' :e∈es:=(Array.mem_filter.mp (Gec.mp he)).1
    obtain⟨i',hi',rfl⟩:=Array.getElem_of_mem he'
    obtain⟨_,d',_,im',_⟩:=X.el i' es[i'].1 es[i'].2 (Gap hi')
    exact⟨d',im'⟩
   dsimp only
   rw[hes,nx]
   rw[hv] at im
   dsimp only
   rw[hv]
   refine GbM (λ_=>Gaa (C4 hx hseen hn ?_)) (λ_=> ?_)
   all_goals
    try simp only[Gai,GaB]
    refine Gaa (Gbp (Gf n im hx hu prog w _ _ ?_))
    refine Gaa (GaZ ho hd hf ?_)
    dsimp only
    cases hq:eqD d dx with
    |true=>
     simp only[Bool.and_self,Gbf]
     refine Gab (h1 ⟨i,λz=> ?_⟩)
     have:=z _ _ d hes (by rw[hv];exact im)
     rw[hq] at this
     cases this
    |false=>
     simp only[GdI,Gai,GaB]
     rw[sm]
     simp only[Gbf]
     rw[q]
     dsimp only
     rw[hes]
     dsimp only
     rw[hv]
     refine Gaa (wpAny_isSame_ref_self (Gaa (Gab ?_)))
     simp only[Gbf]
     refine ih (k+m+1) _ rfl (by omega) λk' hk' => ?_
     rcases Gbb k' (k+m) with z|z
     ·exact past2 k' z
     ·refine⟨i,by rw[show k' =k+m by omega];exact q,λh v d' he im' => ?_⟩
      rw[hes] at he
      cases he
      rw[hv] at im'
      have:=n6 n im im'
      rw[←this]
      exact hq
end
theorem iz{t u:SetTable}(h:t.mask=u.mask):∀(n:Nat) (p:SetTable.Probe),aP t n p=aP u n p
 |0,p=>rfl
 |n+1,p=>by
  have e:t.advance p=u.advance p:=by
   unfold SetTable.advance
   rw[h]
  show aP t n (t.advance p)=aP u n (u.advance p)
  rw[e]
  exact iz h n _
theorem j6{t u:SetTable}(h:t.mask=u.mask)(x:Int):t.probeStart x=u.probeStart x:=by
 unfold SetTable.probeStart
 rw[h]
theorem qS{t u:SetTable}{h:Int}{j:Nat}(hm:t.mask=u.mask)(hk:∀j i,t.slot j= .live i→∃i',u.slot j= .live i')(x:Ar t h j):Ar u h j:=by
 obtain⟨k,e,b⟩:=x
 refine⟨k,by rw[←iz hm,←j6 hm];exact e,λk' hk' => ?_⟩
 obtain⟨i,q⟩:=b k' hk'
 rw[←iz hm,←j6 hm]
 exact hk _ _ q
theorem iA{α:Type}{xs:Array α}{p i:Nat}{j:α}(hp:p≤xs.size):(SetTable.insertAt xs p j)[i]? =if i<p then xs[i]? else if i=p then some j else xs[i -1]? :=by
 have e:(SetTable.insertAt xs p j)[i]? =(SetTable.insertAt xs p j).toList[i]? :=by simp
 rw[e,GcS]
 have l1:(xs.toList.take p).length=p:=by simp;omega
 by_cases c:i<p
 ·rw[Gag c,Gbh (by rw[l1];exact c),GaP c]
  simp
 ·rw[Gae c,Gbo (by rw[l1];omega),l1]
  by_cases c2:i=p
  ·rw[Gag c2,c2,Nat.sub_self];rfl
  ·rw[Gae c2,show i -p=(i -p -1)+1 by omega,GdL,Gbd,show p+(i -p -1)=i -1 by omega]
   simp
theorem j7{α:Type}{xs:Array α}{p:Nat}{j:α}(hp:p≤xs.size):(SetTable.insertAt xs p j).size=xs.size+1:=by
 have:(SetTable.insertAt xs p j).size=(SetTable.insertAt xs p j).toList.length:=by simp
 rw[this,GcS]
 simp
 omega
theorem sR{α:Type}{xs:Array α}{p:Nat}{j:α}:(SetTable.insertAt xs p j).toList.Perm (j::xs.toList):=by
 rw[GcS]
 refine GdY.trans (List.Perm.cons j ?_)
 rw[Gbe]
theorem C5{t:SetTable}{j:Nat}(h:t.dummies=#[]):(t.put j).1.dummies=#[]:=by
 unfold SetTable.put
 dsimp only
 rw[h]
 have:SetTable.has #[] j=false:=by
  unfold SetTable.has
  simp
 rw[this]
 rfl
theorem sS{t:SetTable}{j:Nat}(h:t.slot j= .empty):t.place[SetTable.below t.place j]? ≠some j:=by
 intro e
 unfold SetTable.slot at h
 dsimp only at h
 rw[e] at h
 simp at h
theorem Ea{t:SetTable}{n j:Nat}(T:TOk t n)(hr:Ris t.place)(hj:t.slot j= .empty)(hn:n+1≤t.mask):TOk (t.put j).1 (n+1)∧Ris (t.put j).1.place∧∀j' i,t.slot j' = .live i→∃i',(t.put j).1.slot j' = .live i' :=by
 have bl:=(fJ (j:=j) hr).1
 have hr' :Ris (t.put j).1.place:=sG hr (sS hj)
 refine⟨⟨T.cov,T.odd,C5 T.dum, ?_,hn⟩,hr',λj' i q=> ?_⟩
 ·show(SetTable.insertAt t.place _ j).size=_
  rw[j7 bl,T.size]
 ·rcases gh T.dum j' with z| ⟨i',z,hp⟩
  ·rw[q] at z;cases z
  ·have hp' :(t.put j).1.place[if i' <SetTable.below t.place j then i' else i' +1]? =some j' :=by
    show(SetTable.insertAt t.place _ j)[_]? =_
    rw[iA bl]
    by_cases c:i' <SetTable.below t.place j
    ·rw[Gag c,Gag c];exact hp
    ·rw[Gae c,Gae (by omega),Gae (by omega)]
     exact hp
   exact⟨_,pG hr' hp'⟩
section
open PySem.Spec
variable{w:World}
theorem j4.put{g:Heap}{n:Nat}{es:Array (Int×Value)}{t:SetTable}{d:D}{b:Addr}{k:Nat}(X:j4 w g n es t)(hx:Im g n d (.ref b))(hk:t.slot (aP t k (t.probeStart (aQ w n d))).j= .empty)
  (past:∀k',k' <k→∃i,t.slot (aP t k' (t.probeStart (aQ w n d))).j= .live i)(hn:es.size+1≤t.mask):
  j4 w g n (SetTable.insertAt es (t.put (aP t k (t.probeStart (aQ w n d))).j).2 (aQ w n d,.ref b)) (t.put (aP t k (t.probeStart (aQ w n d))).j).1:=by
 generalize hj:(aP t k (t.probeStart (aQ w n d))).j=j at*
 have bl:=(fJ (j:=j) X.ris).1
 have bl2:SetTable.below t.place j≤es.size:=by rw[←X.tok.size];exact bl
 obtain⟨T,R,keep⟩:=Ea X.tok X.ris hk hn
 have e2:(t.put j).2=SetTable.below t.place j:=rfl
 rw[e2]
 have wn:Ar t (aQ w n d) j:=⟨k,hj,past⟩
 refine⟨by rw[j7 bl2];exact T,λi h v he=> ?_,R,λi h v j' he hp=> ?_⟩
 ·rw[iA bl2] at he
  split at he
  ·exact X.el i h v he
  ·split at he
   ·cases he
    exact⟨b,d,rfl,hx,rfl⟩
   ·exact X.el (i -1) h v he
 ·have hp' :(SetTable.insertAt t.place (SetTable.below t.place j) j)[i]? =some j' :=hp
  rw[iA bl] at hp'
  rw[iA bl2] at he
  refine qS (t:=t) rfl keep ?_
  split at he
  ·rename_i c
   rw[Gag c] at hp'
   exact X.way i h v j' he hp'
  ·rename_i c
   rw[Gae c] at hp'
   split at he
   ·rename_i c2
    rw[Gag c2] at hp'
    cases he
    cases hp'
    exact wn
   ·rename_i c2
    rw[Gae c2] at hp'
    exact X.way (i -1) h v j' he hp'
end
noncomputable def T0(mask:Nat):SetTable:={SetTable.fresh 0 0 false with mask:=mask}
theorem jA{t:SetTable}{p:SetTable.Probe}:∀k,k≤p.more→aP t k p={p with j:=p.j+k,more:=p.more -k}
 |0,_=>rfl
 |k+1,h=>by
  rw[fM,jA k (by omega)]
  unfold SetTable.advance
  dsimp only
  rw[Gag (by omega),Nat.sub_sub,GdX]
noncomputable def Tkn(owner:Array (Option Nat))(j:Nat):Prop:=∃m,owner[j]? =some (some m)
noncomputable def As(mask:Nat)(owner:Array (Option Nat))(h:Int)(j:Nat):Prop:=∃k,(aP (T0 mask) k ((T0 mask).probeStart h)).j=j∧∀k',k' <k→Tkn owner (aP (T0 mask) k' ((T0 mask).probeStart h)).j
theorem vn{mask i:Nat}(h:i≤mask):i≤SetTable.runEnd mask i∧SetTable.runEnd mask i≤mask:=by
 unfold SetTable.runEnd
 split<;>omega
theorem Au{owner:Array (Option Nat)}{j:Nat}(hj:j<owner.size)(h:(owner.getD j (some 0)).isNone=false):Tkn owner j:=by
 rw[GaM,Gap hj] at h
 cases q:owner[j] with
 |none=>simp[q] at h
 |some m=>exact⟨m,by rw[Gap hj,q]⟩
theorem qT{mask:Nat}{owner:Array (Option Nat)}(hs:owner.size=mask+1):∀(fuel i p j:Nat),i≤mask→SetTable.layClean.free mask owner fuel i p=some j→
  ∃k,(aP (T0 mask) k {j:=i,more:=SetTable.runEnd mask i -i,i:=i,perturb:=p,dummy:=none}).j=j∧∀k',k' <k→Tkn owner (aP (T0 mask) k' {j:=i,more:=SetTable.runEnd mask i -i,i:=i,perturb:=p,dummy:=none}).j
 |0,i,p,j,_,e=>by cases e
 |fuel+1,i,p,j,hi,e=>by
  have re:=vn hi
  unfold SetTable.layClean.free at e
  cases q:(List.range (SetTable.runEnd mask i+1 -i)).find? λk=>(owner.getD (i+k) (some 0)).isNone with
  |some k=>
   rw[q] at e
   cases e
   have hk:k<SetTable.runEnd mask i+1 -i:=GaT.mp (List.mem_of_find?_eq_some q)
   refine⟨k, ?_,λk' hk' => ?_⟩
   ·rw[jA k (by show k≤SetTable.runEnd mask i -i;omega)]
   ·rw[jA k' (by show k' ≤SetTable.runEnd mask i -i;omega)]
    show Tkn owner (i+k')
    have:=(List.find?_range_eq_some.mp q).2.2 k' hk'
    exact Au (by omega) (by simpa using this)
  |none=>
   rw[q] at e
   dsimp only at e
   obtain⟨k,h1,h2⟩:=qT hs fuel (SetTable.leap mask i p).1 (SetTable.leap mask i p).2 j (GcK (Gdu _ (Gdr _))) e
   have all:∀k',k' ≤SetTable.runEnd mask i -i→Tkn owner (i+k'):=λk' hk' =>by
    have:=Ger.mp q k' (GaT.mpr (by omega))
    exact Au (by omega) (Bool.eq_false_iff.mpr this)
   have step:aP (T0 mask) (SetTable.runEnd mask i -i+1) {j:=i,more:=SetTable.runEnd mask i -i,i:=i,perturb:=p,dummy:=none}={j:=(SetTable.leap mask i p).1,more:=SetTable.runEnd mask (SetTable.leap mask i p).1 -(SetTable.leap mask i p).1,i:=(SetTable.leap mask i p).1,perturb:=(SetTable.leap mask i p).2,dummy:=none}:=by
    rw[fM,jA (SetTable.runEnd mask i -i) (Gau _)]
    unfold SetTable.advance
    dsimp only
    rw[Gae (by omega)]
    rfl
   refine⟨SetTable.runEnd mask i -i+1+k, ?_,λk' hk' => ?_⟩
   ·rw[fL,step];exact h1
   ·rcases Gbb k' (SetTable.runEnd mask i -i+1) with z|z
    ·rw[jA k' (by show k' ≤SetTable.runEnd mask i -i;omega)]
     exact all k' (by omega)
    ·have:=h2 (k' -(SetTable.runEnd mask i -i+1)) (by omega)
     rw[←step,←fL,show SetTable.runEnd mask i -i+1+(k' -(SetTable.runEnd mask i -i+1))=k' by omega] at this
     exact this
theorem As.mono{mask:Nat}{ow ow' :Array (Option Nat)}{h:Int}{j:Nat}(x:As mask ow h j)(k:∀j,Tkn ow j→Tkn ow' j):As mask ow' h j:=let⟨n,e,b⟩:=x;⟨n,e,λk' hk' =>k _ (b k' hk')⟩
noncomputable def Eb(mask:Nat)(all:List Int)(owner:Array (Option Nat)):Prop:=∀(j k:Nat),owner[j]? =some (some k)→∃h,all[k]? =some h∧As mask owner h j
theorem qU{mask:Nat}(hc:bP mask=true):∀(hs pre:List Int) (owner:Array (Option Nat)),Laid mask pre.length owner→Eb mask (pre++hs) owner→(pre++hs).length≤mask→∃owner',Laid mask (pre++hs).length owner' ∧Eb mask (pre++hs) owner' ∧
  hs.foldl (λacc h=>do
   let(owner,k)←acc
   let j←SetTable.layClean.free mask owner (SetTable.turns mask) (SetTable.bits h%(mask+1)) (SetTable.bits h)
   pure (owner.setIfInBounds j (some k),k+1)) (some (owner,pre.length))=some (owner',(pre++hs).length)
 |[],pre,owner,L,W,_=>by
  rw[Gca] at W⊢
  exact⟨owner,L,W,rfl⟩
 |h::hs,pre,owner,L,W,hl=>by
  have hl' :pre.length+(hs.length+1)≤mask:=by simpa using hl
  have lt:(owner.toList.filterMap id).length<owner.toList.length:=by
   have e1:owner.toList.length=mask+1:=by rw[GaC];exact L.size
   rw[L.occ.length_eq,List.length_range,e1]
   omega
  obtain⟨e,he⟩:=has_none lt
  have he' :owner[e]? =some none:=by rw[←GaU];exact he
  have hem:e≤mask:=by
   have:=(Gaf.mp he).1
   rw[GaC,L.size] at this
   omega
  obtain⟨j,hj,hn⟩:=vk (h:=h) hc he' hem
  have hn' :owner.toList[j]? =some none:=by rw[GaU];exact hn
  have hjs:j<owner.size:=(GbJ.mp hn).1
  have wj:As mask owner h j:=qT L.size _ _ _ j (GcK (Gdu _ (Gdr _))) hj
  have L' :Laid mask (pre++[h]).length (owner.setIfInBounds j (some pre.length)):=by
   refine⟨by simpa using L.size, ?_⟩
   rw[Gdv]
   refine(ud hn').trans ?_
   rw[GaL,GcG,List.range_succ]
   exact(List.Perm.cons pre.length L.occ).trans (Gbm (l₁:=[pre.length]) (l₂:=List.range pre.length))
  have mono:∀x,Tkn owner x→Tkn (owner.setIfInBounds j (some pre.length)) x:=λx ⟨m,hm⟩=>by
   by_cases c:j=x
   ·subst c;rw[hn] at hm;cases hm
   ·exact⟨m,by rw[Geb c];exact hm⟩
  have W' :Eb mask ((pre++[h])++hs) (owner.setIfInBounds j (some pre.length)):=by
   intro x k hx
   rw[GaF,List.singleton_append]
   by_cases c:j=x
   ·subst c
    rw[Array.getElem?_setIfInBounds_self_of_lt hjs] at hx
    cases hx
    exact⟨h,by simp,wj.mono mono⟩
   ·rw[Geb c] at hx
    obtain⟨h',e1,e2⟩:=W x k hx
    exact⟨h',e1,e2.mono mono⟩
  obtain⟨owner',L2,W2,e2⟩:=qU hc hs (pre++[h]) _ L' W' (by simpa using hl)
  rw[GaF,List.singleton_append] at L2 W2 e2
  refine⟨owner',L2,W2, ?_⟩
  rw[Gdc,←e2]
  congr 1
  show(SetTable.layClean.free mask owner (SetTable.turns mask) (SetTable.bits h%(mask+1)) (SetTable.bits h)).bind _=_
  rw[hj,GaL]
  rfl
theorem vo{mask finger moves:Nat}{led plain:Bool}{hashes:Array Int}(hc:bP mask=true)(hl:hashes.size≤mask):∃t order,SetTable.laid mask finger moves led plain hashes=some (t,order)∧order.toList.Perm (List.range hashes.size)∧t.mask=mask∧t.place.size=hashes.size∧t.dummies=#[]∧t.plain=plain∧t.led=led∧Ris t.place∧
  ∀(i k j:Nat),order[i]? =some k→t.place[i]? =some j→∃h,hashes[k]? =some h∧Ar t h j:=by
 obtain⟨owner,L,W,e⟩:=qU hc hashes.toList [] (Array.replicate (mask+1) none) (sN mask) (λj k h=>by
  rw[Array.getElem?_replicate] at h
  split at h<;>cases h) (by simpa using hl)
 rw[List.nil_append] at L W e
 rw[GaC] at L e
 have el:SetTable.layClean mask hashes=some owner:=by
  unfold SetTable.layClean
  rw[←Array.foldl_toList]
  refine(congrArg (Option.map (λ(x:Array (Option Nat)×Nat)=>x.1)) e).trans rfl
 have r:=vm owner (mask+1) L.size.symm
 unfold SetTable.laid
 rw[el]
 refine⟨_,_,rfl, ?_,rfl, ?_,rfl,rfl,rfl,qF (g:=λj=>owner.getD j none), ?_⟩
 ·rw[List.toList_toArray]
  exact(by rw[r];exact L.occ:(((List.range (mask+1)).filterMap λj=>(owner.getD j none).map λk=>(j,k)).map (·.2)).Perm (List.range hashes.size))
 ·show(((List.range (mask+1)).filterMap λj=>(owner.getD j none).map λk=>(j,k)).map (·.1)).toArray.size=_
  rw[Gao,Gar]
  have:=congrArg List.length r
  rw[Gar] at this
  rw[this,L.occ.length_eq,List.length_range]
 ·intro i k j hk hj
  have hris:=qF (n:=mask+1) (g:=λj=>owner.getD j none)
  generalize hlv:((List.range (mask+1)).filterMap λj=>(owner.getD j none).map λk=>(j,k))=live at*
  have hk' :(live.map (·.2))[i]? =some k:=by simpa using hk
  have hj' :(live.map (·.1))[i]? =some j:=by simpa using hj
  have hmem:∀x m,(x,m)∈live↔owner[x]? =some (some m):=λx m=>by
   rw[←hlv,GdC]
   constructor
   ·rintro⟨a,_,h2⟩
    cases q:owner.getD a none with
    |none=>rw[q] at h2;cases h2
    |some c=>
     rw[q] at h2
     cases h2
     rw[GaM] at q
     cases z:owner[x]? with
     |none=>rw[z] at q;cases q
     |some o=>rw[z] at q;rw[←q];rfl
   ·intro h
    have hx:=(GbJ.mp h).1
    refine⟨x,GaT.mpr (by rw[←L.size];exact hx), ?_⟩
    rw[GaM,h]
    rfl
  obtain⟨q,hq,rfl⟩:∃q,live[i]? =some q∧q.1=j:=by
   rw[Gax] at hj'
   exact Gaj.mp hj'
  have hq2:q.2=k:=by
   rw[Gax,hq] at hk'
   exact Option.some.inj hk'
  have ho:=(hmem q.1 q.2).mp (GaO hq)
  rw[hq2] at ho
  obtain⟨h,e1,k0,e2,b⟩:=W _ _ ho
  have am:∀u:SetTable,u.mask=mask→∀n,aP u n (u.probeStart h)=aP (T0 mask) n ((T0 mask).probeStart h):=λu hu n=>by rw[iz (t:=u) (u:=T0 mask) hu,j6 (t:=u) (u:=T0 mask) hu]
  refine⟨h,by rw[←GaU];exact e1,k0, ?_,λk' hk' => ?_⟩
  ·rw[←e2];exact congrArg (λz:SetTable.Probe=>z.j) (am {mask:=mask,place:=_,dummies:=#[],finger:=finger,led:=led,moves:=moves,plain:=plain} rfl k0)
  ·obtain⟨m,hm⟩:=b k' hk'
   obtain⟨i',hi',e'⟩:=Gcw ((hmem _ _).mpr hm)
   rw[am _ rfl]
   refine⟨i',pG hris ?_⟩
   show((live.map (·.1)).toArray)[i']? =_
   simp[hi',e']
theorem Im.mono{g g' :Heap}(hk:∀b o,g.get? b=some o→g'.get? b=some o):∀{n:Nat} {d:D} {v:Value},Im g n d v→Im g' n d v
 |_,_,_,.int n i t=> .int n i t
 |_,_,_,.str n x t=> .str n x t
 |_,_,_,.tup ho hc hd hl hi=> .tup (hk _ _ ho) hc hd hl λi d v e1 e2=>(hi i d v e1 e2).mono hk
theorem j4.mono{w:World}{g g' :Heap}{n:Nat}{es:Array (Int×Value)}{t:SetTable}(hk:∀b o,g.get? b=some o→g'.get? b=some o)(X:j4 w g n es t):j4 w g' n es t:=⟨X.tok,λi h v e=>let⟨b,d,h1,h2,h3⟩:=X.el i h v e;⟨b,d,h1,h2.mono hk,h3⟩,X.ris,X.way⟩
theorem j4.off{w:World}{g:Heap}{n:Nat}{es:Array (Int×Value)}{t:SetTable}(X:j4 w g n es t):j4 w g n es {t with plain:=false}:=
 ⟨⟨X.tok.cov,X.tok.odd,X.tok.dum,X.tok.size,X.tok.few⟩,X.el,X.ris,λi h v j e p=>qS (t:=t) rfl (λj i q=> ⟨i,q⟩) (X.way i h v j e p)⟩
theorem TOk.fits{t:SetTable}{n:Nat}(T:TOk t n):t.fits n=true:=by
 unfold SetTable.fits SetTable.fill
 rw[T.dum,T.size]
 have:=T.few
 simpa using this
theorem TOk.full{t:SetTable}{n:Nat}(T:TOk t n):t.tooFull=decide (n*5≥t.mask*3):=by
 unfold SetTable.tooFull SetTable.fill
 rw[T.dum,T.size]
 rfl
noncomputable def Big(m n:Nat):Prop:=m=7∧n≤4∨m=31∧n≤18∨m=127∧n≤76
structure SIx(w:World)(bt:Bool)(g0:Heap)(n:Nat)(its:List Value)(ix:List Nat)(es:Array (Int×Value))(t:SetTable):Prop where
 ok:j4 w g0 n es t
 vals:(es.toList.map (·.2)).Perm (ix.map λi=>its.getD i .none)
 big:Big t.mask es.size
 led:t.led= !bt
noncomputable def lu(w:World)(bt:Bool)(g0:Heap)(n:Nat)(its:List Value)(g:Heap)(a:Addr)(ix:List Nat):Prop:=
 ∃o es ep t,g.get? a=some o∧o.ExactSet∧o.data= .set es ep t∧SIx w bt g0 n its ix es t
theorem SIx.size{w:World}{bt:Bool}{g0:Heap}{n:Nat}{its:List Value}{ix:List Nat}{es:Array (Int×Value)}{t:SetTable}(h:SIx w bt g0 n its ix es t):es.size=ix.length:=by
 have:=h.vals.length_eq
 simpa using this
noncomputable def uh(g0:Heap)(n:Nat)(ds:List D)(its:List Value):Prop:=∀i,i<its.length→∃b,its.getD i .none= .ref b∧Im g0 n (ds.getD i .non) (.ref b)
theorem n9{α:Type}{es:Array α}{z:α}:∀{l:List Nat},(∀k∈l,k<es.size)→l.filterMap (λk=>es[k]?)=l.map λk=>es.getD k z
 |[],_=>rfl
 |k::l,h=>by
  have hk:=h k Gav
  rw[GcT,Gap hk,GaI,n9 (z:=z) λx hx=>h x (Gak _ hx)]
  simp[Array.getD,hk]
theorem sT{α:Type}(es:Array α):(List.range es.size).filterMap (λk=>es[k]?)=es.toList:=by
 cases hs:es.toList with
 |nil=>
  have:es.size=0:=by rw[←GaC,hs];rfl
  rw[this];rfl
 |cons z _=>
  rw[←hs,n9 (z:=z) λk hk=>GaT.mp hk]
  apply Gdt
  ·simp
  ·intro i h1 h2
   simp at h1 h2⊢
   simp[Array.getD,h2]
section
variable{prog:Program}{w:World}{A:Around}{E:Value→Shared→Prop}{z:Shared}
theorem C6{g0:Heap}{n:Nat}{es:Array (Int×Value)}{t:SetTable}(X:j4 w g0 n es t){wanted M:Nat}(hM:SetTable.sizeAbove wanted=M+1)(hc:bP M=true)(hodd:M%2=1)(hl:es.size≤M):
  ∃t' order,t.relaid (es.map (·.1)) wanted=some (t',order)∧(order.filterMap (es[·]?)).toList.Perm es.toList∧t'.mask=M∧t'.led=t.led∧j4 w g0 n (order.filterMap (es[·]?)) t' :=by
 unfold SetTable.relaid
 rw[hM,Nat.add_sub_cancel]
 obtain⟨t',order,e,hp,m1,m2,m3,m4,m5,m6,m7⟩:=vo (finger:=t.finger) (moves:=t.movedTo M) (led:=t.led) (plain:=t.plain) (hashes:=es.map (·.1)) hc (by simpa using hl)
 rw[Array.size_map] at hp m2
 have hlt:∀k∈order.toList,k<es.size:=λk hk=>GaT.mp (hp.mem_iff.mp hk)
 have pm:(order.filterMap (es[·]?)).toList.Perm es.toList:=by
  rw[Array.toList_filterMap]
  exact(hp.filterMap _).trans (by rw[sT])
 have sz:(order.filterMap (es[·]?)).size=es.size:=by
  have:=pm.length_eq
  rw[GaC,GaC] at this
  exact this
 have at_:∀(i:Nat) e,(order.filterMap (es[·]?))[i]? =some e→∃k:Nat,order[i]? =some k∧es[k]? =some e:=λi e he=>by
  rw[←GaU,Array.toList_filterMap,n9 (z:=(0,Value.none)) hlt,Gax] at he
  obtain⟨k,hk,rfl⟩:=Gaj.mp he
  have hk2:=hlt k (GaO hk)
  rw[GaU] at hk
  exact⟨k,hk,by rw[Gap hk2];simp[Array.getD,hk2]⟩
 refine⟨t',order,e,pm,m1,m5,⟨⟨by rw[m1];exact hc,by rw[m1];exact hodd,m3,by rw[m2,sz],by rw[sz,m1];exact hl⟩,λi h v he=> ?_,m6,λi h v j he hj=> ?_⟩⟩
 ·obtain⟨k,_,hk⟩:=at_ i _ he
  exact X.el k h v hk
 ·obtain⟨k,ho,hk⟩:=at_ i _ he
  obtain⟨h',e1,e2⟩:=m7 i k j ho hj
  rw[Array.getElem?_map,hk] at e1
  cases e1
  exact e2
theorem ng{bt:Bool}{g0 g:Heap}{n:Nat}{its:List Value}{a:Addr}{o:Obj}{es fs:Array (Int×Value)}{ep:Nat}{t u:SetTable}{ix:List Nat}(ho:g.get? a=some o)(hex:o.ExactSet)(hd:o.data= .set es ep t)(hE:SIx w bt g0 n its ix fs u):
  (g.update a (Obj.putSet fs u)).get? a=some {o with data:= .set fs (ep+1) u}∧lu w bt g0 n its (g.update a (Obj.putSet fs u)) a ix:=by
 have hg:(g.update a (Obj.putSet fs u)).get? a=some {o with data:= .set fs (ep+1) u}:=by
  have q:=GaH (Obj.putSet fs u) ho (by rw[putSet_of fs u hd];rfl)
  rw[putSet_of fs u hd] at q;exact q
 exact⟨hg,_,fs,ep+1,u,hg,hex,rfl,hE⟩
theorem C7{bt:Bool}{g0:Heap}{n:Nat}{ds:List D}{its:List Value}{a b:Addr}{ix:List Nat}{k:Nat}{R:Bool→Shared→Prop}(hS:lu w bt g0 n its z.heap a ix)(hI:uh g0 n ds its)(hold:∀b o,g0.get? b=some o→z.heap.get? b=some o)(hix:∀i∈ix,i<its.length)(hk:k<its.length)(hb:its.getD k .none= .ref b)(hroom:ix.length<76)(hn:n≤8)(hu:A.units+n<cLine)
  (h:∀r g,Heap.SameBut a z.heap g→lu w bt g0 n its g a (if ix.any (λi=>eqD (ds.getD i .non) (ds.getD k .non)) then ix else ix++[k])→R r {z with heap:=g}):
  wpAny (model prog w) A (setAddHashed a (.ref b) (aQ w n (ds.getD k .non))) R E z:=by
 obtain⟨o,es,ep,t,ho,hex,hd,hE⟩:=hS
 obtain⟨b',hb',im0⟩:=hI k hk
 rw[hb] at hb'
 cases hb'
 generalize hdx:ds.getD k .non=dx at*
 have im:Im z.heap n dx (.ref b):=im0.mono hold
 have X:=hE.ok.mono hold
 have hf:=X.tok.fits
 have bg:=hE.big
 have sz:=hE.size
 obtain⟨K,hKl,hK,_⟩:=Aq X.tok (aQ w n dx)
 have hsl:sizeLine=16777216:=GbA
 have hm127:t.mask≤127:=by rcases bg with q|q|q<;>omega
 unfold setAddHashed setAddHashedIn
 refine Gbp (Gaa (GaZ ho hd hf ?_))
 dsimp only
 rw[Gae (by show¬(byScan (.ref b) es=true);unfold byScan;simp[Value.scannable])]
 unfold setSearch
 refine Gaa (qR ho hd hf X im hn hu hK ?_ ?_ 100000 0 none rfl ?_ ?_)
 ·rintro⟨i,hun⟩
  dsimp only
  have hany:ix.any (λi=>eqD (ds.getD i .non) dx)=true:=by
   simp only[j5,Classical.not_forall] at hun
   obtain⟨hh,v,d,e1,e2,e3⟩:=hun
   have hv:v∈es.toList.map (·.2):=Gaz.mpr ⟨(hh,v),by rw[Gec];exact Array.mem_of_getElem? e1,rfl⟩
   obtain⟨i',hi',rfl⟩:=Gaz.mp (hE.vals.mem_iff.mp hv)
   obtain⟨b2,eb2,im2⟩:=hI i' (hix i' hi')
   rw[eb2] at e2
   have:=n6 n e2 (im2.mono hold)
   subst this
   exact Gcx.mpr ⟨i',hi',by simpa using e3⟩
  rw[Gag hany] at h
  refine Gab ?_
  have e:z={z with heap:=z.heap}:=by cases z;rfl
  rw[e]
  exact h _ z.heap (Heap.SameBut.refl a z.heap) ⟨o,es,ep,t,ho,hex,hd,hE⟩
 ·intro k0 hk0 past un
  dsimp only
  have hany:ix.any (λi=>eqD (ds.getD i .non) dx)=false:=by
   rw[Geu]
   intro i hi hq
   obtain⟨b2,eb2,im2⟩:=hI i (hix i hi)
   have hv:its.getD i .none∈es.toList.map (·.2):=hE.vals.mem_iff.mpr (Gaz.mpr ⟨i,hi,rfl⟩)
   obtain⟨e,he,hev⟩:=Gaz.mp hv
   obtain⟨j,hj,rfl⟩:=Gcw he
   rw[Array.getElem_toList] at hev
   have hj' :j<es.size:=by simpa using hj
   have:=un j es[j].1 es[j].2 (ds.getD i .non) (Gap hj') (by rw[hev,eb2];exact im2.mono hold)
   rw[this] at hq
   cases hq
  rw[hany,Gae Gay] at h
  have hn1:es.size+1≤t.mask:=by rcases bg with q|q|q<;>omega
  have X1:=hE.ok.put im0 hk0 past hn1
  have bl:(t.put (aP t k0 (t.probeStart (aQ w n dx))).j).2≤es.size:=by
   have:=(fJ (j:=(aP t k0 (t.probeStart (aQ w n dx))).j) X.ris).1
   rw[X.tok.size] at this
   exact this
  have ml:(t.put (aP t k0 (t.probeStart (aQ w n dx))).j).1.mask=t.mask:=rfl
  have ll:(t.put (aP t k0 (t.probeStart (aQ w n dx))).j).1.led=t.led:=rfl
  refine Gaa (GaZ ho hd hf ?_)
  dsimp only
  generalize t.put (aP t k0 (t.probeStart (aQ w n dx))).j=tp at*
  obtain⟨t1,p⟩:=tp
  dsimp only at*
  generalize hes1:SetTable.insertAt es p (aQ w n dx,Value.ref b)=es1 at*
  have sz1:es1.size=es.size+1:=by rw[←hes1];exact j7 bl
  have pv:(es1.toList.map (·.2)).Perm ((ix++[k]).map λi=>its.getD i .none):=by
   rw[←hes1]
   refine(sR.map _).trans ?_
   rw[GaI,Gcr,List.map_singleton,hb]
   exact(List.Perm.cons _ hE.vals).trans (Gbm (l₁:=[Value.ref b]))
  have fin:∀u:SetTable,j4 w g0 n es1 u→u.mask=t.mask→u.led=t.led→wpAny (model prog w) A (do
    storeSet a es1 u
    if(!false&&u.tooFull)=true then do
      setRelay a (SetTable.grown (es.size+1))
      pure true
     else pure true) R E z:=by
   intro u U hum hul
   refine Gaa (wpAny_storeSet_of ho hd ?_ (by omega))
   have hg:(z.heap.update a (Obj.putSet es1 u)).get? a=some {o with data:= .set es1 (ep+1) u}:=by
    have q:=GaH (Obj.putSet es1 u) ho (by rw[putSet_of es1 u hd];rfl)
    rw[putSet_of es1 u hd] at q;exact q
   have sb1:=GaY z.heap a (Obj.putSet es1 u)
   rw[Bool.not_false,Bool.true_and,U.tok.full,sz1,hum]
   refine GbM (λc=> ?_) (λc=> ?_)
   ·have c' :=GaN c
    obtain⟨M,hM,hc,hodd,hlM,hbM⟩:∃M,SetTable.sizeAbove (SetTable.grown (es.size+1))=M+1∧bP M=true∧M%2=1∧es.size+1≤M∧Big M (es.size+1):=by
     rcases bg with⟨q1,q2⟩| ⟨q1,q2⟩| ⟨q1,q2⟩
     ·have:es.size=4:=by omega
      rw[this]
      exact⟨31,by decide,Ge,rfl,by omega,.inr (.inl ⟨rfl,by omega⟩)⟩
     ·have:es.size=18:=by omega
      rw[this]
      exact⟨127,by decide,DZ,rfl,by omega,.inr (.inr ⟨rfl,by omega⟩)⟩
     ·omega
    obtain⟨t',order,e1,pm,m1,m5,X'⟩:=C6 U hM hc hodd (by omega)
    have sz2:(order.filterMap (es1[·]?)).size=es1.size:=by
     have:=pm.length_eq
     rw[GaC,GaC] at this
     exact this
    refine Gaa ?_
    unfold setRelay
    refine Gaa (GaZ (s:={z with heap:=_}) hg rfl U.tok.fits ?_)
    dsimp only
    have hM127:M≤127:=by rcases hbM with q|q|q<;>omega
    rw[Gae (by rw[hM];omega),e1]
    show wpAny _ _ ((if((order.filterMap (es1[·]?)).size !=es1.size)=true then _ else pure (order.filterMap (es1[·]?),t'))>>=_) _ _ _
    rw[Gae (by rw[sz2];simp)]
    refine Gaa (Gab ?_)
    refine wpAny_storeSet_of (s:={z with heap:=_}) hg rfl ?_ (by rw[sz2];omega)
    refine Gab ?_
    refine h _ _ (sb1.trans (GaY _ a _)) (ng hg hex rfl ⟨X',(pm.map _).trans pv, ?_, ?_⟩).2
    ·rw[m1,sz2,sz1];exact hbM
    ·rw[m5,hul];exact hE.led
   ·have c' :¬(es.size+1)*5≥t.mask*3:=λq=>c (GaD q)
    refine Gab (h _ _ sb1 (ng ho hex hd ⟨U,pv, ?_,by rw[hul];exact hE.led⟩).2)
    rw[hum,sz1]
    rcases bg with⟨q1,q2⟩| ⟨q1,q2⟩| ⟨q1,q2⟩
    ·exact .inl ⟨q1,by omega⟩
    ·exact .inr (.inl ⟨q1,by omega⟩)
    ·exact .inr (.inr ⟨q1,by omega⟩)
  refine GbM (λ_=>Gaa (E9 n im hn λbv=> ?_)) (λ_=>Gaa (Gab ?_))
  ·cases bv with
   |true=>
    simp only[Gbf]
    exact fin t1 X1 ml ll
   |false=>
    simp only[Gai,GaB]
    exact fin _ X1.off ml ll
  ·simp only[Gbf]
   exact fin t1 X1 ml ll
 ·have:SetTable.turns t.mask=t.mask+15:=rfl
  omega
 ·intro k' hk'
  omega
end
noncomputable def fD(ds:List D):Nat→List Nat
 |0=>[]
 |i+1=>if(fD ds i).any (λj=>eqD (ds.getD j .non) (ds.getD i .non)) then fD ds i else fD ds i++[i]
theorem lN(ds:List D):∀i,∀j∈fD ds i,j<i
 |0,j,h=>by cases h
 |i+1,j,h=>by
  unfold fD at h
  split at h
  ·exact Gcs (lN ds i j h)
  ·rcases GaQ.mp h with q|q
   ·exact Gcs (lN ds i j q)
   ·rw[GaK.mp q];exact GbR _
theorem jB(ds:List D):∀i,(fD ds i).length≤i
 |0=>Gau _
 |i+1=>by
  have:=jB ds i
  unfold fD
  split
  ·omega
  ·rw[GaL,GcG];omega
theorem qV(ds:List D):∀i,i≤ds.length→(fD ds i).map (λj=>ds.getD j .non)=ma (ds.take i)
 |0,_=>rfl
 |i+1,h=>by
  have ih:=qV ds i (by omega)
  have hi:i<ds.length:=by omega
  have e:ds.getD i .non=ds[i]:=by simp[hi]
  have step:ma (ds.take (i+1))=qg (ma (ds.take i)) ds[i]:=by
   unfold ma
   rw[←List.take_append_getElem hi,List.foldl_append]
   rfl
  rw[step,←ih]
  have e0:fD ds (i+1)=if(fD ds i).any (λj=>eqD (ds.getD j .non) (ds.getD i .non)) then fD ds i else fD ds i++[i]:=rfl
  rw[e0]
  unfold qg
  rw[List.any_map]
  show List.map _ (if(fD ds i).any (λj=>eqD (ds.getD j .non) (ds.getD i .non)) then _ else _)=if(fD ds i).any (λj=>eqD (ds.getD j .non) ds[i]) then _ else _
  rw[e]
  split
  ·rfl
  ·rw[Gcr,List.map_singleton,e]
section
variable{prog:Program}{w:World}{A:Around}{R:Result→Shared→Prop}{I:Addr}{fp wr:List Addr}{G:Array GenState→Array GenState→Prop}{n:Nat}{P:Nat→Value→Prop}{St:Nat→Shared→Prop}
theorem lu.at{bt:Bool}{g0 g g' :Heap}{n:Nat}{its:List Value}{a:Addr}{ix:List Nat}(h:lu w bt g0 n its g a ix)(e:∀o,g.get? a=some o→g'.get? a=some o):lu w bt g0 n its g' a ix:=let⟨o,es,ep,t,ho,r⟩:=h;⟨o,es,ep,t,e o ho,r⟩
theorem vp{bt:Bool}{g0:Heap}{m:Nat}{ds:List D}{its:List Value}(W:WalksS prog w A.in1 I fp wr G n P St)(S:Addr)(hSf:S∉fp)(hI:uh g0 m ds its)(hns:its.length=n)(hval:∀i v,P i v→its[i]? =some v)(hb:n<76)(hm:m≤8)(hu:A.units+1+m<cLine)
  (hS0:g0.get? S=none)(hwr:∀b∈wr,g0.get? b=none):
  ∀(k i:Nat) (z:Shared),n -i=k→i≤n→St i z→(∀b o,g0.get? b=some o→z.heap.get? b=some o)→lu w bt g0 m its z.heap S (fD ds i)→
   (∀y,Moved (S::wr) G z y→lu w bt g0 m its y.heap S (fD ds n)→R (.ok (.ret .none)) y)→codeAny (model prog w) A (.builtin "set.update.loop" ⟨[.ref S,.ref I],[]⟩) R z:=by
 have hSw:S∉wr:=λh=>hSf (W.sub _ h)
 have hsub:∀b∈wr,b∈S::wr:=λb hb=>Gak _ hb
 intro k
 induction k with
 |zero=>
  intro i z hk hi hst hold hS hR
  have hin:i=n:=by omega
  subst hin
  refine Gbx GdH ?_
  rw[GbW GcF _]
  show wpAny _ A.in1 (pyNext (.ref I)>>=_) _ _ z
  refine Gaa (W.done z _ _ hst λy hm=> ?_)
  show wpAny _ A.in1 (ret Value.none) _ _ y
  refine Gab (hR y (hm.mono hsub) ?_)
  exact hS.at λo e=>hm.heap S _ hSw e
 |succ k ih=>
  intro i z hk hi hst hold hS hR
  have hlt:i<n:=by omega
  refine Gbx GdH ?_
  rw[GbW GcF _]
  show wpAny _ A.in1 (pyNext (.ref I)>>=_) _ _ z
  refine Gaa (W.item i z _ _ hlt hst λv y hP hst' hm' => ?_)
  have hv:=hval i v hP
  have hi' :i<its.length:=by omega
  have hg:its.getD i .none=v:=by rw[Gdx,hv];rfl
  obtain⟨b,hb',im⟩:=hI i hi'
  rw[hg] at hb'
  subst hb'
  have old1:∀b o,g0.get? b=some o→y.heap.get? b=some o:=λb o e=>hm'.heap b _ (λhmem=>by rw[hwr b hmem] at e;cases e) (hold b o e)
  have hS' :lu w bt g0 m its y.heap S (fD ds i):=hS.at λo e=>hm'.heap S _ hSw e
  show wpAny _ A.in1 (holding [Value.ref b] (setAdd S (.ref b))>>=_) _ _ y
  refine Gaa (Gbp ?_)
  unfold setAdd
  refine Gbp ?_
  refine Gaa ((ue (s:=y) (im.mono old1) (show A.units+1+m<cLine from hu)) y.toks _ _ λtk' htk=> ?_)
  refine C7 (z:={y with toks:=tk' }) hS' hI old1 (λj hj=>by have:=lN ds i j hj;omega) hi' hg (by have:=jB ds i;omega) hm (show A.units+1+m<cLine from hu) λr g sb hS2=> ?_
  have hSi:lu w bt g0 m its g S (fD ds (i+1)):=hS2
  refine Gab ⟨GcZ GcF _,ih (i+1) _ (by omega) hlt (W.frame _ y _ _ hst' htk λb hb o e=> ?_) (λb o e=> ?_) hSi λx hm'' hS'' => ?_⟩
  ·rw[sb.2 b (λh:b=S=>hSf (by rw[←h];exact hb))];exact e
  ·rw[sb.2 b (λh:b=S=>by rw[h,hS0] at e;cases e)];exact old1 b o e
  ·refine hR x (Moved.trans W.gtrans ((hm'.mono hsub).then_heap htk λb o hb e=> ?_) hm'') hS''
   rw[sb.2 b (λh:b=S=>hb (by rw[h];exact Gav))];exact e
end
section
variable{prog:Program}{w:World}{A:Around}{E:Value→Shared→Prop}{z:Shared}
theorem vq(b:Bool):TOk (.fresh 0 0 b) 0:=⟨by show bP 7=true;decide,by show(7:Nat)%2=1;decide,rfl,rfl,GaJ _⟩
theorem vt{g0:Heap}{m:Nat}{its:List Value}{bt:Bool}:SIx w bt g0 m its [] #[] (.fresh 0 0 (!bt)):=
 ⟨⟨vq _,λi h v e=>by simp at e,λi j _ x y hx _=>by simp[SetTable.fresh] at hx,λi h v j e _=>by simp at e⟩,List.Perm.nil,.inl ⟨rfl,by decide⟩,rfl⟩
theorem ui{g:Heap}{b:Addr}(h:g.objs.size≤b):g.get? b=none:=by
 cases e:g.get? b with
 |none=>rfl
 |some o=>exact absurd (Gam e) (Nat.not_lt.mpr h)
theorem vz{l:Addr}{its:List Value}{m:Nat}{ds:List D}{R:Value→Shared→Prop}(hh:A.handled=none)(hl:z.heap.IsList l its.toArray)(hI:uh z.heap m ds its)(hb:its.length<76)(hm8:m≤8)(hu:A.units+3+m<cLine)
  (h:∀(g:Heap) (tk:Nat),lu w (gI w) z.heap m its g z.heap.objs.size (fD ds its.length)→(∀b o,b<z.heap.objs.size→z.heap.get? b=some o→g.get? b=some o)→R (.ref z.heap.objs.size) {z with heap:=g,toks:=tk}):
  wpAny (model prog w) A (call (.type "set") [.ref l]) R E z:=by
 obtain⟨c,tl,hmro⟩:=GbS.mro
 have hmade:=GbS.made
 have hsub:=GbS.sub
 refine wpAny_call (codeAny_of_tree ?_)
 show wpAny _ _ (callAny (.type "set") _) _ _ _
 refine Gab ⟨GdF _ (by decide+kernel),Gbx PySem.F.entry_type_call ?_⟩
 rw[Around.under_plain (weight_type_call_type "set" [.ref l] []) rfl]
 have h1:=GbS.notType
 have h2:=GbS.canCreate
 have hct:=PySem.F.typeCall_set_1 (.ref l)
 repeat (any_goals (first|assumption|wp_step))
 refine Ged (Aj (.ref l) (E:=E) (R:=λobj y=>obj= .ref z.heap.objs.size∧y={z with heap:=z.heap.push (kh w)}) ⟨rfl,rfl⟩) λr y hr=> ?_
 cases r with
 |error e=>exact hr
 |ok fl=>
  cases fl with
  |ret obj=>
   obtain⟨rfl,rfl⟩:=hr
   have hS:(z.heap.push (kh w)).get? z.heap.objs.size=some (kh w):=Gan _ rfl
   have hT:Shared.TypeIs {z with heap:=z.heap.push (kh w)} (.ref z.heap.objs.size) "set":=⟨_,hS,rfl⟩
   have hli:=GbS.init.lookup
   have hbi:=GbS.init.bind (.ref z.heap.objs.size)
   repeat (any_goals (first|assumption|wp_step))
   refine Ged (codeAny_call_builtin (R:=wants (λr y2=>r= .none∧∃g tk,y2={z with heap:=g,toks:=tk}∧lu w (gI w) z.heap m its g z.heap.objs.size (fD ds its.length)∧
     (∀b o,b<z.heap.objs.size→z.heap.get? b=some o→g.get? b=some o)) E) GbS.init.plain PySem.F.entry_set_init (PySem.check_set_init_1 hT ?_)) λr2 y2 hr2=> ?_
   ·obtain⟨ol,hol,hcl,nl,hdl⟩:=hl
    obtain⟨ocls,odict,odata,oslots⟩:=ol
    simp only at hcl hdl
    subst hcl;subst hdl
    have hol' :(z.heap.push (kh w)).get? l=some {cls:= .type "list",dict:=odict,data:= .seq its.toArray nl,slots:=oslots}:=Gad _ hol
    have hsls:=PySem.F.sub_list_set
    have hslf:=PySem.F.sub_list_frozenset
    have hne:(Value.type "list"==Value.type "dict")=false:=by decide
    have hl1:(z.heap.push (kh w)).IsList l its.toArray:=⟨_,hol',rfl,nl,rfl⟩
    unfold Builtin.«set.__init__» noKeywords Builtin.Frozenset.updateFrom
    generalize hPI:pyIter=PI
    wp_walk
    subst hPI
    refine wpAny_pyIter_list hl1 ?_
    refine Gaa (Gep ?_)
    have hlS:l<z.heap.objs.size:=Gam hol
    have hh3:A.in1.in1.in1.handled=none:=by simp[hh]
    have hneI:l≠(z.heap.push (kh w)).objs.size:=by
     rw[GbK];exact GaA (Gcs hlS)
    have hSf:z.heap.objs.size∉[(z.heap.push (kh w)).objs.size,l]:=by
     rw[GbK];simp only[Gas,GaK,Gce,GdZ,not_or]
     exact⟨GaA (GbR _),Gbg hlS⟩
    have hval:∀(i:Nat) (v:Value),its.toArray[i]? =some v→its[i]? =some v:=λi v hv=>by simpa using hv
    have hwr:∀b∈[(z.heap.push (kh w)).objs.size],z.heap.get? b=none:=λb hb=>by
     rw[GaK.mp hb,GbK];exact ui (Gde _)
    refine vp (bt:=gI w) (g0:=z.heap) (m:=m) (ds:=ds) (its:=its) (A:=A.in1.in1) ((Walks.list hh3 _ l hneI its.toArray).toS) z.heap.objs.size hSf hI (by simp) hval (by simpa using hb) hm8 (show A.units+2+1+m<cLine from hu) (ui (Gau _)) hwr (its.toArray.size -0) 0 _ (by omega) (GaJ _)
     ⟨⟨_,Gan _ rfl,rfl,rfl⟩,(hl1.push _)⟩ (λb o e=>Gad _ (Gad _ e)) ?hS0 ?hR
    case hS0=>
     have hget:((z.heap.push (kh w)).push {cls:= .type "list_iterator",data:= .fields #[.ref l,.int 0 0]}).get? z.heap.objs.size=some (kh w):=Gad _ hS
     exact⟨_,#[],0,_,hget,⟨rfl,rfl,rfl⟩,rfl,vt⟩
    case hR=>
     intro y hm hS'
     obtain⟨g,g',d',tk',os'⟩:=y
     have eg:g' =z.gens:=hm.gens
     have ed:d' =z.drawn:=hm.drawn
     have eo:os' =z.os:=hm.os
     subst eg;subst ed;subst eo
     show wpAny _ _ _ _ _ _
     refine Gab ?_
     show wpAny _ _ (ret Value.none) _ _ _
     refine Gab ⟨rfl,g,tk',rfl,(by simpa using hS'),λb o hb e=> ?_⟩
     have hb1:b≠z.heap.objs.size:=GaA hb
     have hb2:b≠(z.heap.push (kh w)).objs.size:=by
      rw[GbK];exact GaA (Gcs hb)
     exact hm.heap b o (by simp only[Gas,GaK,Gce,GdZ,not_or];exact⟨hb1,hb2⟩) (Gad _ (Gad _ e))
   ·cases r2 with
    |error e=>exact hr2
    |ok fl2=>
     cases fl2 with
     |ret r=>
      obtain⟨rfl,g,tk,rfl,hS',hk'⟩:=hr2
      repeat (any_goals (first|assumption|wp_step))
      exact h _ _ hS' hk'
     |_=>exact hr2.elim
  |_=>exact hr.elim
end
theorem oz{α β:Type}{f:α→β}:∀{ys:List β} {xs:List α},ys.Perm (xs.map f)→∃zs:List α,zs.Perm xs∧ys=zs.map f
 |[],xs,h=>by
  have:=h.length_eq
  have hx:xs=[]:=Gcu (by simpa using this.symm)
  subst hx
  exact⟨[],.nil,rfl⟩
 |y::ys,xs,h=>by
  obtain⟨x,hx,rfl⟩:=Gaz.mp (h.mem_iff.mp Gav)
  obtain⟨s,t,rfl⟩:=List.append_of_mem hx
  have e:(f x::ys).Perm (f x::(s++t).map f):=h.trans ((GdY (a:=x) (l₁:=s) (l₂:=t)).map f)
  obtain⟨zs,h1,h2⟩:=oz e.cons_inv
  exact⟨x::zs,(h1.cons x).trans GdY.symm,by rw[h2];rfl⟩
theorem qW{ds es:List D}(h:es.Perm ds)(k:cP ds=true):cP es=true:=by
 unfold cP at*
 have e1:es.all cY=ds.all cY:=h.all_eq
 have e2:∀p:D→Bool,(es.map iS).all p=(ds.map iS).all p:=λp=>(h.map iS).all_eq
 have e3:qf (es.map cdN)=qf (ds.map cdN):=by
  rw[Gdz,dO,dO]
  exact(h.map cdN).nodup_iff
 simp only[e1,e2,e3]
 exact k
section
variable{prog:Program}{w:World}{A:Around}{E:Value→Shared→Prop}{z:Shared}
theorem qX{a:Addr}{es:Array (Int×Value)}{ep:Nat}{t:SetTable}{Q:Value→Shared→Prop}(hh:A.handled=none)(hm:j3 z.heap a es ep t)(hf:t.fits es.size=true)(hT:Tb (gI w) t)(h64:es.size<64)
  (h:∀ws:List Value,ws.Perm (es.toList.map (·.2))→∃cs,(∀(G:Heap) tk d,(∀b o,z.heap.get? b=some o→G.get? b=some o)→∀A' :Around,A'.units=A.units+2→js prog w A' E {z with heap:=G,toks:=tk,drawn:=d} cs ws)∧
   ∀l h' tk d c (p:Array Nat),Ord ws.length p→Up (rank cs) p ws.length→z.heap.objs.size≤l→(∀b o,z.heap.get? b=some o→h'.get? b=some o)→h'.get? l=some (seqObj "list" (p.toList.map λi=>ws.getD i Value.none).toArray c)→Q (.ref l) {z with heap:=h',toks:=tk,drawn:=d}):
  wpAny (model prog w) A (call (.builtin "sorted") [.ref a]) Q E z:=by
 have hsl:sizeLine=16777216:=GbA
 refine GdA kind_sorted plain_sorted entry_sorted (args_sorted1 _) ?_
 unfold Builtin.«sorted»
 refine Gaa (m:=checkCount "sorted" 1 1 _) (Gab (Gaa (qI (A:=A.in1) hh hm hf hT (by omega) λh' tk d xs hlt hk hp=> ?_)))
 obtain⟨cs,hK,h⟩:=h (xs.map (·.2)) (hp.map _)
 have hxl:(xs.map (·.2)).length=es.size:=by rw[Gar,hp.length_eq];simp
 generalize xs.map (·.2)=ws at*
 refine Gaa (Gct ?_ (by omega))
 have hoL:(h'.push (seqObj "list" ws.toArray 0)).get? h'.objs.size=some (seqObj "list" ws.toArray 0):=Gan _ rfl
 have keep:∀b o,z.heap.get? b=some o→(h'.push (seqObj "list" ws.toArray 0)).get? b=some o:=λb o e=>Gad _ (hk b o e)
 have zle:z.heap.objs.size≤h'.objs.size:=GcC hlt
 refine Gaa (Gbp (Gbi slot_list_sort ⟨_,hoL,rfl⟩ entry_list_sort (nG (cs:=cs) (s:={z with heap:=h'.push (seqObj "list" ws.toArray 0),toks:=tk,drawn:=d}) hoL (by omega) (λG hG=>hK G tk d (λb o e=>hG b o (GaA (GaG (Gam e) zle)) (keep b o e)) _ rfl) λp h1 h2=> ⟨_,rfl, ?_⟩) (args_list_sort _)))
 obtain⟨c,hat⟩:=sortedHeap_at (h:=h'.push (seqObj "list" ws.toArray 0)) (a:=h'.objs.size) (vs:=ws) (n:=0) (out:=List.toArray (p.toList.map λi=>ws.getD i Value.none)) hoL
 refine Gab ⟨_,rfl,h h'.objs.size _ tk d c p h1 h2 zle (λb o e=> ?_) hat⟩
 have hb:=Gam (hk b o e)
 exact(sortedHeap_old (GaA hb) (Geg hb (by rw[size_push'];exact GbR _))).trans (keep b o e)
end
section
variable{X:Cx}{e a b c:Expr}{f g h:DE}{pos:Pos}{pins:List (Addr×Obj)}{σ:St}{H:Hp}{s:Shared}{F:Addr→Prop}
theorem lO:∀{ys:List V} {us:List Value},Vals ys us→∀(i:Nat) y u,ys[i]? =some y→us[i]? =some u→RelV y u
 |_,_,.nil,i,y,u,e,_=>by simp at e
 |_,_,.cons h t,0,y,u,e1,e2=>by cases e1;cases e2;exact h
 |_,_,.cons h t,i+1,y,u,e1,e2=>lO t i y u (by simpa using e1) (by simpa using e2)
theorem Ec(I:Inv X pins σ H s):∀(n:Nat) {d:D} {v:V} {u:Value},imN n d=true→Rep X.K F H d v→RelV v u→Im s.heap n d u:=by
 intro n
 induction n with
 |zero=>
  intro d v u hd r ru
  cases r with
  |int i=>obtain⟨t,rfl⟩:=ru;exact .int _ _ _
  |str x=>obtain⟨t,rfl⟩:=ru;exact .str _ _ _
  |_=>simp[imN] at hd
 |succ n ih=>
  intro d v u hd r ru
  cases r with
  |int i=>obtain⟨t,rfl⟩:=ru;exact .int _ _ _
  |str x=>obtain⟨t,rfl⟩:=ru;exact .str _ _ _
  | @tup a vs ds hH hl hr=>
   cases ru
   obtain⟨its,rvs,⟨o,h1,h2,m,h3⟩,_⟩:=I.tuple (SqT.of hH)
   refine .tup h1 h2 h3 ?_ λi d v e1 e2=> ?_
   ·rw[hl,rvs.length]
   ·have hi:i<vs.length:=by
     rw[←hl];exact(Gaf.mp e1).1
    have hd' :imN n d=true:=Gat.mp hd d (GaO e1)
    exact ih hd' (hr i d vs[i] e1 (Gac hi)) (lO rvs i _ _ (Gac hi) (by simpa using e2))
  |_=>simp[imN] at hd
noncomputable def Av(X:Cx)(v:Addr)(ds:List D)(vs:List V):HO:= .ext λh=>∃its o es ep t,Vals vs its∧h.get? v=some o∧o.ExactSet∧o.data= .set es ep t∧t.fits es.size=true∧Tb (gI X.w) t∧(es.toList.map (·.2)).Perm ((fD ds ds.length).map λi=>its.getD i .none)
noncomputable def Gg(X:Cx):List V→Hp→VK→Prop:=λxs H Q=>∃(p:Addr) (ds:List D) (vs:List V) (F:Addr→Prop),xs=[.ref p]∧SqL X.K H p vs∧aq X.K F H ds vs∧ds.length<64∧(ds.all λd=>cY d&&imN 4 d)=true∧∀v,H v=none→Q (.ref v) (upd H v (Av X v ds vs))
theorem sU(hc:X.calm=true)(hu:X.A.units+20<cLine):cW X (.type "set") (Gg X):=by
 intro pins s σ H xs us Q I rv h
 obtain⟨p,ds,vs,F,rfl,hq,hr,hl,hok,q⟩:=h
 obtain⟨u,rfl,ru⟩:=rv.one
 cases ru
 obtain⟨its,rvs,pl,_⟩:=I.list hq
 have hle:its.length=ds.length:=by rw[←rvs.length,hr.1]
 have hI:uh s.heap 4 ds its:=λi hi=>by
  have hd:i<ds.length:=by omega
  have hv:i<vs.length:=by rw[←hr.1];exact hd
  have ok:=Gat.mp hok ds[i] (GaR hd)
  rw[Gaq] at ok
  have im:=Ec I 4 ok.2 (hr.2 i _ _ (Gac hd) (Gac hv)) (lO rvs i _ _ (Gac hv) (Gac hi))
  have e1:its.getD i .none=its[i]:=by simp[hi]
  have e2:ds.getD i .non=ds[i]:=by simp[hd]
  rw[e1,e2]
  generalize ds[i]=d at*
  generalize its[i]=u at*
  cases im with
  |tup ho hc hd hl hi=>exact⟨_,rfl,.tup ho hc hd hl hi⟩
  |_=>simp[cY] at ok
 refine vz (m:=4) (ds:=ds) (I.ok.hd hc) pl.isList hI (by omega) (by decide) (by omega) λg tk hS hk=> ?_
 obtain⟨o,es,ep,t,ho,hex,hd,hE⟩:=hS
 refine⟨.ref s.heap.objs.size,_,I.laid (a:=s.heap.objs.size) (o:=Av X s.heap.objs.size ds vs) (t' :=tk) (λb o e=>hk b o (Gam e) e) (Gau _) ?_,rfl,q _ I.fresh⟩
 exact⟨⟨its,o,es,ep,t,rvs,ho,hex,hd,hE.ok.tok.fits,⟨hE.led,λ_=>hE.ok.ris⟩,by rw[←hle];exact hE.vals⟩,⟨o,ho⟩,λh1 h2 ⟨its,o,es,ep,t,r1,ho,r⟩ k=> ⟨its,o,es,ep,t,r1,k o ho,r⟩⟩
noncomputable def vA(X:Cx):List V→Hp→VK→Prop:=λxs H Q=>∃(v:Addr) (ds:List D) (vs:List V) (F:Addr→Prop),xs=[.ref v]∧H v=some (Av X v ds vs)∧aq X.K F H ds vs∧ds.length<64∧cP (ma ds)=true∧
 ∀l out,H l=none→(∀F',aq X.K F' H ds vs→aq X.K F' H (gy cdN (ma ds)) out)→Q (.ref l) (upd H l (.lst out))
theorem oA{K:aa}{F:Addr→Prop}{H:Hp}{ds:List D}{vs:List V}(r:aq K F H ds vs):∀(jx:List Nat),(∀i∈jx,i<ds.length)→aq K F H (jx.map λi=>ds.getD i .non) (jx.map λi=>vs.getD i .non)
 |[],_=> .nil
 |i::jx,h=>by
  have hi:=h i Gav
  have hv:i<vs.length:=by rw[←r.1];exact hi
  refine .cons ?_ (oA r jx λj hj=>h j (Gak _ hj))
  have e1:ds.getD i .non=ds[i]:=by simp[hi]
  have e2:vs.getD i .non=vs[i]:=by simp[hv]
  show Rep K F H (ds.getD i .non) (vs.getD i .non)
  rw[e1,e2]
  exact r.2 i _ _ (Gac hi) (Gac hv)
theorem oB{vs:List V}{us:List Value}(r:Vals vs us):∀(jx:List Nat),(∀i∈jx,i<vs.length)→Vals (jx.map λi=>vs.getD i .non) (jx.map λi=>us.getD i .none)
 |[],_=> .nil
 |i::jx,h=>by
  have hi:=h i Gav
  have hv:i<us.length:=by rw[←r.length];exact hi
  refine .cons ?_ (oB r jx λj hj=>h j (Gak _ hj))
  have e1:vs.getD i .non=vs[i]:=by simp[hi]
  have e2:us.getD i .none=us[i]:=by simp[hv]
  show RelV (vs.getD i .non) (us.getD i .none)
  rw[e1,e2]
  exact lO r i _ _ (Gac hi) (Gac hv)
theorem nI(hc:X.calm=true)(hu:X.A.units+20<cLine):cW X (.builtin "sorted") (vA X):=by
 intro pins s σ H xs us Q I rv h
 obtain⟨v,ds,vs,F,rfl,hv,hr,h64,hok,q⟩:=h
 obtain⟨u,rfl,ru⟩:=rv.one
 cases ru
 obtain⟨⟨its,o,es,ep,t,rvs,ho,hex,hd,hf,hT,hpm⟩,_,_⟩:=I.hok v _ hv
 have hvl:vs.length=ds.length:=hr.1.symm
 have hes:es.size≤ds.length:=by
  have e:=hpm.length_eq
  have:=jB ds ds.length
  simp at e
  omega
 refine qX (I.ok.hd hc) ⟨o,ho,hex,hd⟩ hf hT (by omega) λws hws=> ?_
 obtain⟨jx,hj1,hj2⟩:=oz (hws.trans hpm)
 have hjl:∀i∈jx,i<ds.length:=λi hi=>lN ds ds.length i (hj1.mem_iff.mp hi)
 have hjn:jx.length≤ds.length:=by rw[hj1.length_eq];exact jB ds ds.length
 have R' :∀F',aq X.K F' H ds vs→aq X.K F' H (jx.map λi=>ds.getD i .non) (jx.map λi=>vs.getD i .non):=λF' r=>oA r jx hjl
 have V' :=oB rvs jx λi hi=>by rw[hvl];exact hjl i hi
 rw[←hj2] at V'
 have hp' :(jx.map λi=>ds.getD i D.non).Perm (ma ds):=by
  have:=qV ds ds.length (Gau _)
  rw[List.take_length] at this
  rw[←this]
  exact hj1.map _
 have hok' :=qW hp' hok
 have hln:(jx.map λi=>ds.getD i D.non).length=jx.length:=Gar _
 have hlw:ws.length=jx.length:=by rw[hj2];exact Gar _
 have hly:(jx.map λi=>vs.getD i V.non).length=jx.length:=Gar _
 generalize (jx.map λi=>ds.getD i D.non)=ds' at*
 generalize (jx.map λi=>vs.getD i V.non)=ys' at*
 refine⟨ds'.map cdN,λG tk d hG A' hA=>mN ((I.kept (h' :=G) (t' :=tk) hG).draw d) (by omega) (R' F hr) V' hok',λl h' tk d c p h1 h2 hl hk hat=> ?_⟩
 have h1' :Ord ds'.length p:=by rw[hln,←hlw];exact h1
 have h2' :Up (rank (ds'.map cdN)) p ds'.length:=by rw[hln,←hlw];exact h2
 have nod:(ds'.map cdN).Nodup:=by
  unfold cP at hok'
  rw[Gaq] at hok'
  exact dO.mp hok'.2
 have uniq:(p.toList.map λi=>ds'.getD i .non)=gy cdN (ma ds):=dN ((cQ h1').trans (hp'.trans (iT _).symm)) (kT h1' h2') (dw _) λa ha b hb=>g8 nod a ((cQ h1').mem_iff.mp ha) b ((cQ h1').mem_iff.mp hb)
 have h1v:Ord ys'.length p:=by rw[hly,←hln];exact h1'
 have fresh:H l=none:=I.hok.fresh hl
 have hsl:sizeLine=16777216:=GbA
 refine⟨.ref l,_,(I.laid (a:=l) (o:= .lst (p.toList.map λi=>ys'.getD i .non)) (t' :=tk) hk hl ?_).draw d,rfl,q _ _ fresh λF' r=> ?_⟩
 ·refine⟨?_,_,c,mG h1v V',hat⟩
  rw[Gar,GaC,h1v.size]
  omega
 ·rw[←uniq]
  exact mF h1' (R' F' r)
theorem qY{p p2 cpos:Pos}(hc:X.calm=true)(hu:X.A.units+20<cLine)(hg:Gl X "sorted")(hm:X.mg "sorted"=none)(hg2:Gl X "set")(hm2:X.mg "set"=none)(he:PEd X e f)
  (hs1:starEach [e] X.env=[(false,eval e X.env)]:=by rfl)
  (hs2:starEach [.Call (.Name "set" p2) [e] [] cpos] X.env=[(false,eval (.Call (.Name "set" p2) [e] [] cpos) X.env)]:=by rfl):
  PEd X (.Call (.Name "sorted" p) [.Call (.Name "set" p2) [e] [] cpos] [] pos) (dP f):=by
 refine(lW (nI hc hu) hg hm rfl (fc (jR (sU hc hu) hg2 hm2 rfl (fc he jQ hs1) (by decide) (by decide) hs1 rfl) jQ hs2) (by decide) (by decide) hs2 rfl).aC ?_
 rintro σ H Q ⟨H₀,Bad,env,rv,E,e,k⟩
 obtain⟨r,hr,e⟩:=bind_some e
 split at e
 ·rename_i ds hd
  split at e
  ·rename_i hok
   cases e
   unfold setOk at hok
   rw[Gaq,Gaq] at hok
   obtain⟨⟨o1,o2⟩,o3⟩:=hok
   refine⟨H₀,Bad,env,r,E,hr,λv H1 s1 R1=> ?_⟩
   have i:=R1.inn
   rw[hd] at i
   cases i with
   | @lst a vs _ hq rk=>
    refine⟨a,ds,vs,_,rfl,.inl hq,rk,GaN o1,o2,λv hv=> ⟨v,ds,vs,_,rfl,au,rk.gen (.of_same (aY hv)) λ_ f _=>f,GaN o1,o3,λl out hl hout=> ?_⟩⟩
    have hl1:H1 l=none:=by
     by_cases z:l=v
     ·subst z;exact hv
     ·rw[az z] at hl;exact hl
    exact k _ _ (s1.trans ((aY hv).trans (aY hl))) ⟨l,rfl,s1.free hl1,⟨_,au,trivial⟩,rfl,cy hl (hout _ (rk.gen (.of_same (aY hv)) λ_ f _=>f))⟩
  ·cases e
 ·cases e
end
section
variable{K:aa}{H₀ H:Hp}{Bad:Addr→Prop}{env:Env}{σ:St}{d:D}{i:Nat}
theorem kn{j:Nat}(he:env[i]? =some (some (.own d))):(env.set i (some (.sh d)))[j]? =if j=i then some (some (.sh d)) else env[j]? :=by
 have hi:=(Gaf.mp he).1
 rw[List.getElem?_set]
 by_cases z:i=j
 ·subst z;simp[hi]
 ·rw[Gae z,Gae (λe=>z e.symm)]
theorem gk{j:Nat}(he:env[i]? =some (some (.own d)))(h:b5 (env.set i (some (.sh d)))[j]?):j≠i∧b5 env[j]? :=by
 rw[kn he] at h
 by_cases z:j=i
 ·rw[Gag z] at h;exact h.elim
 ·rw[Gae z] at h;exact⟨z,h⟩
theorem aj.rel(E:aj K H₀ Bad env σ H)(he:env[i]? =some (some (.own d))):aj K H₀ Bad (env.set i (some (.sh d))) σ H:=by
 have cl:∀a,Cln Bad env σ a→Cln Bad (env.set i (some (.sh d))) σ a:=λa h=> ⟨h.1,λj t=>h.2 j (gk he t).2⟩
 have oth:∀{j:Nat} {x:Slot},(∀y,x≠ .sh y)→(env.set i (some (.sh d)))[j]? =some (some x)→env[j]? =some (some x):=λ{j x} hx e=>by
  rw[kn he] at e
  by_cases z:j=i
  ·rw[Gag z] at e;cases e;exact absurd rfl (hx d)
  ·rw[Gae z] at e;exact e
 refine⟨E.same,by rw[Gee];exact E.len,E.bad,λj d' e=> ?_,λj d' e=> ?_,λj d' e=> ?_,λj k a h1 h2 h3 h4=> ?_⟩
 ·rw[kn he] at e
  by_cases z:j=i
  ·rw[Gag z] at e
   cases e
   subst z
   obtain⟨a,h1,_,h3,_,_,h6⟩:=E.ow j d (.inl he)
   refine⟨.ref a,h1,(h6.imp cl).rep λb eb _=> ?_⟩
   cases eb
   exact⟨h3,λk t e=>(gk he t).1 (E.dj j k a (by rw[he];trivial) (gk he t).2 h1 e).symm⟩
  ·rw[Gae z] at e
   obtain⟨v,h1,h2⟩:=E.sh j d' e
   exact⟨v,h1,h2.imp cl⟩
 ·obtain⟨a,h1,h2,h3,h4,h5,h6⟩:=E.ow j d' (e.imp (oth (by intro y q;cases q)) (oth (by intro y q;cases q)))
  exact⟨a,h1,h2,h3,h4,h5,h6.imp cl⟩
 ·obtain⟨a,h1,h2,h3,h4⟩:=E.bo j d' (oth (by intro y q;cases q) e)
  exact⟨a,h1,h2,h3,h4.imp cl⟩
 ·have g1:=gk he h1.top
  have g2:=gk he h2
  refine E.dj j k a ?_ g2.2 h3 h4
  rw[kn he,Gae g1.1] at h1
  exact h1
theorem Stp.rel(he:env[i]? =some (some (.own d))):Stp env σ H (env.set i (some (.sh d))) σ H:=by
 refine⟨λ_ _ e _=>e,λb h=> ?_,λj h=> ?_⟩
 ·obtain⟨j,h1,h2⟩:=h
  refine .inl ⟨j, ?_,h2⟩
  have g:=gk he h1.ol.top
  rw[kn he,Gae g.1] at h1
  exact h1
 ·have g:=gk he h.top
  rw[kn he,Gae g.1]
  exact⟨rfl,rfl⟩
theorem pH:∀(is:List Nat) (env:Env),aj K H₀ Bad env σ H→aj K H₀ Bad (uP is env) σ H∧Stp env σ H (uP is env) σ H
 |[],env,E=> ⟨E,.refl⟩
 |i::is,env,E=>by
  unfold uP
  split
  ·rename_i d he
   obtain⟨h1,h2⟩:=pH is _ (E.rel he)
   exact⟨h1,(Stp.rel he).trans h2⟩
  ·exact pH is env E
end
section
variable{X:Cx}{f:DS}{st:Stmt}{is:List Nat}
theorem Ed(h:PSd X st f):PSd X st (FX is f):=by
 refine PS.aC h ?_
 rintro D σ H ⟨H₀,Bad,env,o,E,e,k⟩
 obtain⟨h1,h2⟩:=pH is env E
 refine⟨H₀,Bad,uP is env,o,h1,e, ?_⟩
 cases o with
 |nx e2=>exactλσ2 H2 E2 p2=>k σ2 H2 E2 (h2.trans p2)
 |bk e2=>exactλσ2 H2 E2 p2=>k σ2 H2 E2 (h2.trans p2)
 |ct e2=>exactλσ2 H2 E2 p2=>k σ2 H2 E2 (h2.trans p2)
 |ret d=>exact k
end
end DL
namespace Den
open DL PySem
noncomputable def dc:DS:=
 (bc (cN 5 (ixE (vE 4) (kE (.int 0))))
 (bc (ifS (dH qd (vE 5) (vE 2))
  (Bj 2 (vE 5) (vE 4))
  cD)
 (ifS (dH neB (ixE (vE 2) (vE 5)) (vE 4))
  (Dn 3 (vE 5))
  cD)))
noncomputable def cT:DS:=
 (bc (cN 2 (rN))
 (bc (cN 3 (rM aA))
 (bc (wc none (Dm (opE ck (vE 0) (vE 1))) (gN 4)
  dc)
 (bc (ifS (dH gtB (dI cM (a8 (vE 3) aA)) (kE (.int 0)))
  oV
  cD)
 (retS (iG none 1 [2] (Dm (dI jh (a8 (vE 2) aA))) (gN 0) jf (ixE (vE 1) (vE 0))))))))
noncomputable def bS:List D→Option D:=fF 6 2 cT
noncomputable def ay:DS:=
 (bc (cN 2 (kE (.int 0)))
 (bc (ifS (dH gtB (dI cM (a8 (vE 0) aA)) (kE (.int 0)))
  (cN 2 (ixE (vE 0) (opE d9 (vE 1) (dI cM (a8 (vE 0) aA)))))
  cD)
 (bc (cN 3 (opE d9 (opE ck (opE ck (opE jU (opE d9 (vE 2) (kE (.int 1000003))) (kE (.int 48271))) (opE jU (opE jU (vE 1) (vE 1)) (kE (.int 7919)))) (kE (.int 1))) (kE (.int 65521))))
 (retS (opE d9 (opE jU (vE 3) (vE 3)) (kE (.int 65519)))))))
noncomputable def ah:List D→Option D:=fF 4 2 ay
noncomputable def d4:DS:=
 (bc (cN 2 (ixE (rM (a8 (kE (.str "a")) (a8 (kE (.str "b")) (a8 (kE (.str "ab")) (a8 (kE (.str "zz")) aA))))) (opE d9 (aM ah (a8 (vE 0) (a8 (vE 1) aA))) (kE (.int 4)))))
 (retS (uK (a8 (vE 2) (a8 (opE ck (kE (.int 1)) (opE d9 (aM ah (a8 (vE 0) (a8 (opE ck (vE 1) (kE (.int 1))) aA))) (kE (.int 12)))) aA)))))
noncomputable def cB:List D→Option D:=fF 3 2 d4
noncomputable def ba:DS:=
 (bc (cN 5 (opE d9 (aM ah (a8 (vE 0) (a8 (vE 1) aA))) (kE (.int 8))))
 (bc (cN 6 (opE jU (vE 4) (opE d9 (aM ah (a8 (vE 0) (a8 (opE ck (vE 1) (kE (.int 1))) aA))) (kE (.int 6)))))
 (bc (cN 7 (opE w9 (opE d9 (aM ah (a8 (vE 0) (a8 (opE ck (vE 1) (kE (.int 2))) aA))) (kE (.int 23))) (kE (.int 3))))
 (bc (ifS (dH eqB (opE d9 (aM ah (a8 (vE 0) (a8 (opE ck (vE 1) (kE (.int 3))) aA))) (kE (.int 5))) (kE (.int 0)))
  (cN 7 (opE jU (opE jU (vE 7) (kE (.int 4))) (opE wa (kE (.int 10)) (kE (.int 7)))))
  cD)
 (bc (ifS (dH eqB (vE 5) (kE (.int 0)))
  (retS (uK (a8 (kE (.str "weigh")) (a8 (opE d9 (aM ah (a8 (vE 0) (a8 (opE ck (vE 1) (kE (.int 4))) aA))) (vE 3)) (a8 (vE 6) (a8 (opE ck (kE (.int 1)) (opE d9 (aM ah (a8 (vE 0) (a8 (opE ck (vE 1) (kE (.int 2))) aA))) (kE (.int 300)))) aA))))))
  cD)
 (bc (ifS (dH eqB (vE 5) (kE (.int 1)))
  (retS (uK (a8 (kE (.str "strike")) (a8 (aM cB (a8 (vE 0) (a8 (opE ck (vE 1) (kE (.int 5))) aA))) aA))))
  cD)
 (bc (ifS (dH ltB (vE 5) (kE (.int 4)))
  (retS (uK (a8 (kE (.str "amend")) (a8 (aM cB (a8 (vE 0) (a8 (opE ck (vE 1) (kE (.int 5))) aA))) (a8 (vE 7) aA)))))
  cD)
 (retS (uK (a8 (kE (.str "give")) (a8 (opE d9 (aM ah (a8 (vE 0) (a8 (opE ck (vE 1) (kE (.int 4))) aA))) (vE 2)) (a8 (vE 6) (a8 (vE 7) aA)))))))))))))
noncomputable def c6:List D→Option D:=fF 8 5 ba
noncomputable def c9:DS:=
 (bc (cN 7 (aM cB (a8 (vE 0) (a8 (opE ck (kE (.int 4000)) (opE jU (kE (.int 11)) (vE 6))) aA))))
 (ifS (dH qd (vE 7) (vE 5))
  (Bj 5 (vE 7) (aM c6 (a8 (vE 0) (a8 (opE ck (kE (.int 4002)) (opE jU (kE (.int 11)) (vE 6))) (a8 (vE 2) (a8 (vE 3) (a8 (vE 4) aA)))))))
  cD))
noncomputable def bT:DS:=
 (bc (cN 5 (rN))
 (bc (wc none (dv (vE 1)) (gN 6)
  c9)
 (retS (litE (vE 5)))))
noncomputable def d7:List D→Option D:=fF 8 5 bT
noncomputable def bF:DS:=
 (tq 3 (opE d9 (aM ah (a8 (vE 0) (a8 (opE ck (vE 1) (vE 4)) aA))) (dI cM (a8 (vE 3) aA))))
noncomputable def bG:DS:=
 (Dn 3 (ixE (vE 3) (opE d9 (aM ah (a8 (vE 0) (a8 (opE ck (opE ck (vE 1) (kE (.int 50))) (vE 4)) aA))) (dI cM (a8 (vE 3) aA)))))
noncomputable def bh:DS:=
 (bc (cN 3 (dI listS (a8 (vE 2) aA)))
 (bc (wc none (dv (dI cM (a8 (vE 3) aA))) (gN 4)
  bF)
 (bc (wc none (dv (opE q8 (dI cM (a8 (vE 3) aA)) (kE (.int 4)))) (gN 4)
  bG)
 (retS (vE 3)))))
noncomputable def aZ:List D→Option D:=fF 5 3 bh
noncomputable def aF(rec:List D→Option D):DS:=
 (bc (ifS (orT (iQ (bE (lY "tuple" (vE 1)))) (iQ (bE (lY "list" (vE 1)))))
  (bc (ifS (q9 (iQ (bE (lY "tuple" (vE 1)))) (oT (iQ (bE (lY "tuple" (vE 0))))))
  (retS (kE (.bl false)))
  cD)
 (bc (ifS (q9 (iQ (bE (lY "list" (vE 1)))) (oT (iQ (bE (lY "list" (vE 0))))))
  (retS (kE (.bl false)))
  cD)
 (bc (ifS (dH neB (dI cM (a8 (vE 0) aA)) (dI cM (a8 (vE 1) aA)))
  (retS (kE (.bl false)))
  cD)
 (retS (dI uL (a8 (iG none 1 [0,1] (dv (dI cM (a8 (vE 1) aA))) (gN 0) jf (aM rec (a8 (ixE (vE 1) (vE 0)) (a8 (ixE (vE 2) (vE 0)) aA)))) aA))))))
  cD)
 (bc (ifS (dH wb (vE 1) (kE .non))
  (retS (bE (dH wb (vE 0) (kE .non))))
  cD)
 (bc (ifS (iQ (bE (lY "str" (vE 1))))
  (retS (bE (q9 (lY "str" (vE 0)) (dH eqB (vE 0) (vE 1)))))
  cD)
 (retS (bE (q9 (lY "int" (vE 0)) (q9 (oT (lY "bool" (vE 0))) (dH eqB (vE 0) (vE 1)))))))))
noncomputable def ae:Nat→List D→Option D
 |0=>fF 2 2 oV
 |n+1=>fF 2 2 (aF (ae n))
noncomputable def aV:List D→Option D:=ae 7
noncomputable def qZ:DS:=
 (bc (cN 1 (aM d7 (a8 (vE 0) (a8 (opE ck (kE (.int 10)) (opE d9 (aM ah (a8 (vE 0) (a8 (kE (.int 0)) aA))) (kE (.int 30)))) (a8 (kE (.int 3)) (a8 (kE (.int 3)) (a8 (kE (.int 1)) aA)))))))
 (bc (cN 2 (iG none 1 [0,1] (dv (dI cM (a8 (vE 1) aA))) (gN 0) (dH ltB (opE d9 (aM ah (a8 (vE 1) (a8 (opE ck (kE (.int 5000)) (vE 0)) aA))) (kE (.int 3))) (kE (.int 2))) (ixE (vE 2) (vE 0))))
 (bc (cN 3 (iG none 1 [0,1] (dv (dI cM (a8 (vE 1) aA))) (gN 0) (dH gtB (opE d9 (aM ah (a8 (vE 1) (a8 (opE ck (kE (.int 5000)) (vE 0)) aA))) (kE (.int 3))) (kE (.int 0))) (ixE (vE 2) (vE 0))))
 (bc (cN 2 (aM aZ (a8 (vE 0) (a8 (kE (.int 5100)) (a8 (vE 2) aA)))))
 (bc (cN 3 (aM aZ (a8 (vE 0) (a8 (kE (.int 5300)) (a8 (vE 3) aA)))))
 (bc (cN 4 (rM (a8 (dI listS (a8 (vE 2) aA)) (a8 (dI listS (a8 (vE 3) aA)) aA))))
 (bc (cN 5 (dI ji (a8 (vE 1) aA)))
 (bc (ifS (orT (oT (iQ (aM aV (a8 (aM bS (a8 (ixE (vE 4) (kE (.int 0))) (a8 (ixE (vE 4) (kE (.int 1))) aA))) (a8 (vE 5) aA))))) (oT (iQ (aM aV (a8 (aM bS (a8 (ixE (vE 4) (kE (.int 1))) (a8 (ixE (vE 4) (kE (.int 0))) aA))) (a8 (vE 5) aA))))))
  (retS (kE (.bl false)))
  cD)
 (bc (ifS (oT (iQ (aM aV (a8 (aM bS (a8 (rM aA) (a8 (ixE (vE 4) (kE (.int 0))) aA))) (a8 (dP (vE 2)) aA)))))
  (retS (kE (.bl false)))
  cD)
 (bc (cN 6 (dI ji (a8 (vE 1) aA)))
 (bc (cN 7 (aM bS (a8 (rM aA) (a8 (vE 6) aA))))
 (bc (ifS (oT (iQ (aM aV (a8 (vE 7) (a8 (vE 5) aA)))))
  (retS (kE (.bl false)))
  cD)
 (bc (wd 7)
 (FX [2,3] (retS (bE (q9 (iQ (aM aV (a8 (vE 6) (a8 (vE 5) aA)))) (iQ (aM aV (a8 (vE 4) (a8 (rM (a8 (vE 2) (a8 (vE 3) aA))) aA)))))))))))))))))))))
noncomputable def nh:List D→Option D:=fF 8 1 qZ
end Den
namespace Maths
open DL Den PySem
noncomputable def ni(ns:List Int)(k:Int):Int:=if ns.length=0 then 0 else ns[(k%ns.length).toNat]?.getD 0
noncomputable def mv(ns:List Int)(k:Int):Int:=(ni ns k%1000003*48271+k*k*7919+1)%65521
noncomputable def mx(ns:List Int)(k:Int):Int:=mv ns k*mv ns k%65519
theorem mxm(ns:List Int)(k m:Int)(h:0<m):0≤mx ns k%m∧mx ns k%m<m:=⟨Gdd _ (by omega),GcE _ h⟩
theorem vB{ns:List Int}{k:Int}:0≤ni ns k%1000003∧ni ns k%1000003<1000003:=⟨Gdd _ (by omega),GcE _ (by omega)⟩
theorem C8{ns:List Int}{k:Int}(h:0<ns.length):atD ns (k%ns.length)=some (ns[(k%ns.length).toNat]?.getD 0):=by
 unfold atD
 have h1:0≤k%(ns.length:Int):=Gdd _ (by omega)
 have h2:k%(ns.length:Int)<ns.length:=GcE _ (by omega)
 rw[Gag h1]
 have h3:(k%(ns.length:Int)).toNat<ns.length:=by omega
 simp[h3]
theorem lP{i j:Int}(h: -18446744073709551616<i)(h2:i<18446744073709551616):dF i j=true:=by
 unfold dF
 rw[Gbu]
 exact .inl (GaD (by omega))
theorem lQ{i j:Int}(h: -18446744073709551616<j)(h2:j<18446744073709551616):dF i j=true:=by
 unfold dF
 rw[Gbu]
 exact .inr (GaD (by omega))
theorem cU{ns:List Int}{k:Int}(hk:0≤k)(hk2:k<1000000):ah [.scr ns,.int k]=some (.int (mx ns k)):=by
 have c:=vB (ns:=ns) (k:=k)
 have v1:0≤mv ns k:=Gdd _ (by omega)
 have v2:mv ns k<65521:=GcE _ (by omega)
 have e1:dF k k=true:=lP (by omega) (by omega)
 have e2:∀i,dF i 48271=true:=λi=>lQ (by omega) (by omega)
 have e3:∀i,dF i 7919=true:=λi=>lQ (by omega) (by omega)
 have e4:dF (mv ns k) (mv ns k)=true:=lP (by omega) (by omega)
 unfold ah ay
 by_cases h:0<ns.length
 ·have hc:ni ns k=ns[(k%ns.length).toNat]?.getD 0:=by unfold ni;rw[Gae (by omega)]
  have h' :(0:Int)<ns.length:=by omega
  have e5:(ns[(k%↑ns.length).toNat]?.getD 0%1000003*48271+k*k*7919+1)%65521=mv ns k:=by unfold mv;rw[hc]
  simp[h,h',C8 h,e1,e2,e3,e5,e4,mx]
 ·have hc:ni ns k=0:=by unfold ni;rw[Gag (by omega)]
  have h' :¬(0:Int)<ns.length:=by omega
  have e5:(k*k*7919+1)%65521=mv ns k:=by unfold mv;rw[hc];simp
  simp[h,h',e1,e2,e3,e5,e4,mx]
theorem uj{g:DG}{body:DS}(I:DL.Env→Prop):∀(ds:List D) (env:DL.Env),I env→(∀d∈ds,∀env,I env→∃e1 e2,g d env=some e1∧body e1=some (.nx e2)∧I e2)→∃e,forL g body ds env=some (.nx e)∧I e
 |[],env,h,_=> ⟨env,rfl,h⟩
 |d::ds,env,h,st=>by
  obtain⟨e1,e2,h1,h2,h3⟩:=st d Gav env h
  obtain⟨e,h4,h5⟩:=uj I ds e2 h3 λd' hd=>st d' (Gak _ hd)
  exact⟨e,by simp[forL,h1,h2,h4],h5⟩
theorem fm{p:D→Prop}(hp:∀d,p d→d.imm=true):∀{ds:List D},(∀d∈ds,p d)→bN ds=true
 |[],_=>rfl
 |d::ds,h=>by
  simp[hp d (h d Gav),fm hp λx hx=>h x (Gak _ hx)]
theorem jC{d:D}(h:d.imm=true):gH d=⟨.c,d⟩:=by
 cases d<;>first|rfl|(simp at h)
theorem aG{f g:DS}{env e:DL.Env}(h:f env=some (.nx e)):bc f g env=g e:=by simp[bc,h]
theorem uk{f g:DS}{env:DL.Env}{d:D}(h:f env=some (.ret d)):bc f g env=some (.ret d):=by simp[bc,h]
theorem dY{n np:Nat}{body:DS}{ds:List D}{d:D}(hl:ds.length=np)(h:body (fW n ds)=some (.ret d)):fF n np body ds=some d:=by
 unfold fF;rw[Gag hl,h];rfl
theorem Ee{t:DT}{f g:DS}{env:DL.Env}(h:t env=some true):ifS t f g env=f env:=by simp[ifS,h]
theorem Gh{t:DT}{f g:DS}{env:DL.Env}(h:t env=some false):ifS t f g env=g env:=by simp[ifS,h]
theorem cC{i:Int}(h1: -4611686018427387904≤i)(h2:i<4611686018427387904):bD i=true:=by
 unfold bD
 rw[Gaq]
 exact⟨GaD h1,GaD h2⟩
theorem sV{lo:Int}{n:Nat}{d:D}(h:d∈aE lo n):∃k:Nat,k<n∧d= .int (lo+k):=by
 unfold aE at h
 obtain⟨k,hk,rfl⟩:=Gaz.mp h
 exact⟨k,GaT.mp hk,rfl⟩
theorem pI{g:DG}{body:DS}(I:Nat→DL.Env→Prop):∀(ds:List D) (k:Nat) (env:DL.Env),I k env→(∀(i:Nat) d e,ds[i]? =some d→I (k+i) e→∃e1 e2,g d e=some e1∧body e1=some (.nx e2)∧I (k+i+1) e2)→∃e,forL g body ds env=some (.nx e)∧I (k+ds.length) e
 |[],k,env,h,_=> ⟨env,rfl,h⟩
 |d::ds,k,env,h,st=>by
  obtain⟨e1,e2,h1,h2,h3⟩:=st 0 d env rfl h
  obtain⟨e,h4,h5⟩:=pI I ds (k+1) e2 h3 λi d' e' hd hI=>by
   have:=st (i+1) d' e' (by simpa using hd) (by rw[show k+(i+1)=k+1+i by omega];exact hI)
   rw[show k+(i+1)+1=k+1+i+1 by omega] at this
   exact this
  refine⟨e,by simp[forL,h1,h2,h4], ?_⟩
  rw[show k+(d::ds).length=k+1+ds.length by simp;omega]
  exact h5
theorem nj{lo:Int}{n i:Nat}{d:D}(h:(aE lo n)[i]? =some d):i<n∧d= .int (lo+i):=by
 unfold aE at h
 rw[Gax] at h
 by_cases hi:i<n
 ·rw[Gem hi] at h;cases h;exact⟨hi,rfl⟩
 ·rw[GaV (by simp;omega)] at h;cases h
theorem dZ{lo:Int}{n:Nat}:(aE lo n).length=n:=by simp[aE]
theorem ko{α:Type}{g:DG}{t:DT}{f:DE}(emb:α→D)(C:DL.Env→Prop)(p:α→Bool)(r:α→D):∀(xs:List α) (e:DL.Env),C e→
  (∀x∈xs,∀e,C e→∃e',g (emb x) e=some e' ∧C e' ∧t e' =some (p x)∧(p x=true→∃k,f e' =some ⟨k,r x⟩∧RV.free ⟨k,r x⟩=true))→cF g t f (xs.map emb) e=some ((xs.filter p).map r)
 |[],e,_,_=>rfl
 |d::ds,e,h,st=>by
  obtain⟨e',h1,h2,h3,h4⟩:=st d Gav e h
  have ih:=ko emb C p r ds e' h2 λd' hd=>st d' (Gak _ hd)
  cases q:p d with
  |false=>simp[cF,h1,h3,q,ih]
  |true=>
   obtain⟨k,h5,h6⟩:=h4 q
   simp[cF,h1,h3,q,h5,h6,ih]
theorem oC{α:Type}{g:DG}{f:DE}(emb:α→D)(C:DL.Env→Prop)(r:α→D)(xs:List α)(e:DL.Env)(h:C e)
  (st:∀x∈xs,∀e,C e→∃e',g (emb x) e=some e' ∧C e' ∧∃k,f e' =some ⟨k,r x⟩∧RV.free ⟨k,r x⟩=true):cF g jf f (xs.map emb) e=some (xs.map r):=by
 have:=ko (g:=g) (t:=jf) (f:=f) emb C (λ_=>true) r xs e h (λx hx e he=>by
  obtain⟨e',h1,h2,h3⟩:=st x hx e he
  exact⟨e',h1,h2,rfl,λ_=>h3⟩)
 rw[List.filter_eq_self.mpr λ_ _=>rfl] at this
 exact this
theorem vC(bs:List Bool):oU (bs.map D.bl)=some bs:=by
 induction bs with
 |nil=>rfl
 |cons b bs ih=>simp[ih]
@[simp] theorem r6(bs:List Bool):uL [.lst (bs.map D.bl)]=some ⟨.c,.bl (bs.all id)⟩:=by
 simp[uL,one,qa,vC]
theorem cG(n:Nat)(i:Int):ae (n+1) [.int i,.int i]=some (.bl true):=by
 unfold ae aF
 simp
theorem fN(n:Nat)(x:Str):ae (n+1) [.str x,.str x]=some (.bl true):=by
 unfold ae aF
 simp
theorem nk{n:Nat}{ds:List D}{a:D}(ha:∀k:Nat,ixD a (.int (k:Int))=ds[k]?)(h:∀d∈ds,ae n [d,d]=some (.bl true)):∀(M:Nat) (hM:M≤ds.length) (x0:Option Slot),
  cF (gN 0) jf (aM (ae n) (a8 (ixE (vE 1) (vE 0)) (a8 (ixE (vE 2) (vE 0)) aA))) (aE 0 M) [x0,some (.sh a),some (.sh a)]=some ((List.replicate M true).map D.bl):=by
 intro M hM x0
 have c:=oC (g:=gN 0) (f:=aM (ae n) (a8 (ixE (vE 1) (vE 0)) (a8 (ixE (vE 2) (vE 0)) aA))) (λk:Nat=>D.int ((0:Int)+(k:Int))) (λenv=>∃y,env=[y,some (.sh a),some (.sh a)]) (λ_=> .bl true) (List.range M) [x0,some (.sh a),some (.sh a)] ⟨x0,rfl⟩ (by
  rintro k hk env ⟨y,rfl⟩
  have hk' :k<M:=GaT.mp hk
  have hd:ixD a (.int (0+(k:Int)))=some (ds[k]'(by omega)):=by
   rw[show(0:Int)+(k:Int)=(k:Int) by omega,ha]
   exact Gac _
  have hh:=h (ds[k]'(by omega)) (GaR _)
  generalize ds[k]'(by omega)=dk at*
  generalize (0:Int)+(k:Int)=kk at*
  exact⟨_,rfl,⟨_,rfl⟩,.c,by simp[hd,hh],rfl⟩)
 unfold aE
 rw[c]
 congr 1
 rw[List.map_replicate]
 exact(List.eq_replicate_iff.mpr ⟨by simp,by simp⟩)
theorem nq{n:Nat}{ds bl:List D}{L:Int}(hL:cM [.tup ds]=some ⟨.c,.int L⟩)(s:bD L=true)(z:(aE 0 L.toNat).length≤16777216)
  (c:cF (gN 0) jf (aM (ae n) (a8 (ixE (vE 1) (vE 0)) (a8 (ixE (vE 2) (vE 0)) aA))) (aE 0 L.toNat) [none,some (.sh (.tup ds)),some (.sh (.tup ds))]=some bl)(al:uL [.lst bl]=some ⟨.c,.bl true⟩):ae (n+1) [.tup ds,.tup ds]=some (.bl true):=by
 show fF 2 2 (aF (ae n)) _=_
 refine dY rfl ?_
 unfold aF
 refine uk ?_
 refine(Ee (by simp)).trans ?_
 refine(aG (e:=[some (.sh (.tup ds)),some (.sh (.tup ds))]) (by simp)).trans ?_
 refine(aG (e:=[some (.sh (.tup ds)),some (.sh (.tup ds))]) (by simp)).trans ?_
 refine(aG (e:=[some (.sh (.tup ds)),some (.sh (.tup ds))]) (by simp[-qc,hL])).trans ?_
 simp[-qc,hL,s,z,ao,DL.compEnv,je,c,al]
theorem dD{n:Nat}{ds:List D}(hl:ds.length≤1000)(h:∀d∈ds,ae n [d,d]=some (.bl true)):ae (n+1) [.tup ds,.tup ds]=some (.bl true):=by
 have c:=nk (a:= .tup ds) (λk=>by show atD ds (k:Int)=_;exact oW) h ds.length (Gau _) none
 have e:(ds.length:Int).toNat=ds.length:=by omega
 have al:=r6 (List.replicate ds.length true)
 have al2:(List.replicate ds.length true).all id=true:=by simp
 rw[al2] at al
 refine nq (L:=(ds.length:Int)) rfl (cC (by omega) (by omega)) (by rw[e,dZ];omega) ?_ al
 rw[e]
 exact c
theorem nr{n:Nat}{ds bl:List D}{L:Int}(hL:cM [.lst ds]=some ⟨.c,.int L⟩)(s:bD L=true)(z:(aE 0 L.toNat).length≤16777216)
  (c:cF (gN 0) jf (aM (ae n) (a8 (ixE (vE 1) (vE 0)) (a8 (ixE (vE 2) (vE 0)) aA))) (aE 0 L.toNat) [none,some (.sh (.lst ds)),some (.sh (.lst ds))]=some bl)(al:uL [.lst bl]=some ⟨.c,.bl true⟩):ae (n+1) [.lst ds,.lst ds]=some (.bl true):=by
 show fF 2 2 (aF (ae n)) _=_
 refine dY rfl ?_
 unfold aF
 refine uk ?_
 refine(Ee (by simp)).trans ?_
 refine(aG (e:=[some (.sh (.lst ds)),some (.sh (.lst ds))]) (by simp)).trans ?_
 refine(aG (e:=[some (.sh (.lst ds)),some (.sh (.lst ds))]) (by simp)).trans ?_
 refine(aG (e:=[some (.sh (.lst ds)),some (.sh (.lst ds))]) (by simp[-cO,hL])).trans ?_
 simp[-cO,hL,s,z,ao,DL.compEnv,je,c,al]
theorem kq{n:Nat}{ds:List D}(hl:ds.length≤1000)(h:∀d∈ds,ae n [d,d]=some (.bl true)):ae (n+1) [.lst ds,.lst ds]=some (.bl true):=by
 have c:=nk (a:= .lst ds) (λk=>by show atD ds (k:Int)=_;exact oW) h ds.length (Gau _) none
 have e:(ds.length:Int).toNat=ds.length:=by omega
 have al:=r6 (List.replicate ds.length true)
 have al2:(List.replicate ds.length true).all id=true:=by simp
 rw[al2] at al
 refine nr (L:=(ds.length:Int)) rfl (cC (by omega) (by omega)) (by rw[e,dZ];omega) ?_ al
 rw[e]
 exact c
noncomputable def j8{α β:Type} [DecidableEq α](l:List (α×β))(k:α)(v:β):List (α×β):=if l.any (λe=>decide (e.1=k)) then l.map (λe=>if e.1=k then(e.1,v) else e) else l++[(k,v)]
noncomputable def de{α β:Type} [DecidableEq α](l:List (α×β))(k:α):Option β:=(l.find? λe=>decide (e.1=k)).map (·.2)
section
variable{α β:Type} [DecidableEq α]{kk:α→List Key}{vv:β→D}
noncomputable def emb(kk:α→List Key)(vv:β→D)(l:List (α×β)):List (List Key×D):=l.map λe=>(kk e.1,vv e.2)
theorem um(l:List (α×β)):(emb kk vv l).length=l.length:=by simp[emb]
theorem C9(hk:∀a b,kk a=kk b→a=b)(l:List (α×β))(k:α):((emb kk vv l).any λkv=>decide (kv.1=kk k))=l.any λe=>decide (e.1=k):=by
 unfold emb
 rw[List.any_map]
 congr 1
 funext e
 simp only[Gdk]
 exact decide_eq_decide.mpr ⟨hk _ _,λh=>by rw[h]⟩
theorem Ca(hk:∀a b,kk a=kk b→a=b)(l:List (α×β))(k:α)(v:β):put (emb kk vv l) (kk k) (vv v)=emb kk vv (j8 l k v):=by
 unfold put j8
 rw[C9 hk]
 split
 ·unfold emb
  rw[Gby,Gby]
  apply Geo
  intro e _
  simp only[Gdk]
  by_cases c:e.1=k
  ·rw[Gag c,Gag (by rw[c])]
  ·rw[Gae c,Gae λh=>c (hk _ _ h)]
 ·simp[emb]
theorem jD(hk:∀a b,kk a=kk b→a=b)(l:List (α×β))(k:α):look (emb kk vv l) (kk k)=(de l k).map vv:=by
 unfold look de emb
 rw[List.find?_map]
 have:((λkv:List Key×D=>decide (kv.1=kk k))∘λe:α×β=>(kk e.1,vv e.2))=λe=>decide (e.1=k):=by
  funext e
  simp only[Gdk]
  exact decide_eq_decide.mpr ⟨hk _ _,λh=>by rw[h]⟩
 rw[this]
 simp[Option.map_map,Gdk]
theorem oD{l:List (α×β)}{k:α}:de l k=none↔k∉l.map (·.1):=by
 unfold de
 simp only[Option.map_eq_none_iff,Ger,Gaz,Gdg]
 constructor
 ·rintro h ⟨e,he,rfl⟩;exact h e he rfl
 ·intro h e he c;exact h ⟨e,he,c⟩
theorem vD{l:List (α×β)}{k:α}{v:β}:(j8 l k v).map (·.1)=if k∈l.map (·.1) then l.map (·.1) else l.map (·.1)++[k]:=by
 unfold j8
 have iff:(l.any λe=>decide (e.1=k))=true↔k∈l.map (·.1):=by
  rw[Gcx]
  simp only[Gaz,Gdg]
 by_cases c:k∈l.map (·.1)
 ·rw[Gag (iff.mpr c),Gag c,Gby]
  apply Geo
  intro e _
  simp only[Gdk]
  split<;>rfl
 ·rw[Gae (λh=>c (iff.mp h)),Gae c];simp
theorem sW{l:List (α×β)}{k:α}{v:β}(h:(l.map (·.1)).Nodup):((j8 l k v).map (·.1)).Nodup:=by
 rw[vD]
 split
 ·exact h
 ·rename_i c
  refine GdP.mpr ⟨h,by simp,λa ha b hb=> ?_⟩
  rw[GaK.mp hb]
  intro e;subst e;exact c ha
theorem r9{l:List (α×β)}{k k' :α}{v:β}:de (j8 l k v) k' =if k' =k then some v else de l k' :=by
 induction l with
 |nil=>
  unfold j8 de
  by_cases c:k=k'
  ·simp[c]
  ·simp[c,Gba c]
 |cons e l ih=>
  unfold j8 de at*
  by_cases c:e.1=k
  ·by_cases c2:k' =k
   ·simp[c,c2]
   ·have c3:¬k=k' :=λh=>c2 h.symm
    have c4:¬e.1=k' :=by rw[c];exact c3
    have:∀m:List (α×β),(m.map λe=>if e.1=k then(e.1,v) else e).find? (λe=>decide (e.1=k'))=m.find? λe=>decide (e.1=k'):=by
     intro m
     induction m with
     |nil=>rfl
     |cons x m ihm=>
      by_cases q:x.1=k
      ·have:¬x.1=k' :=by rw[q];exact c3
       simp[q,c3,this,ihm]
      ·rw[GaI,Gae q,Gbw,Gbw,ihm]
    simp[c,c2,c3,c4,this]
  ·by_cases c2:e.1=k'
   ·have c5:¬k' =k:=by rw[←c2];exact c
    by_cases c3:(l.any λe=>decide (e.1=k))=true
    ·simp[c,c2,c3,c5]
    ·simp[c,c2,c3,c5]
   ·by_cases c3:(l.any λe=>decide (e.1=k))=true
    ·rw[Gag c3] at ih
     simp only[GcW,c,decide_false,Get,c3,Gbf,GaI,GaB]
     rw[GcB (by simpa using c2),GcB (by simpa using c2)]
     exact ih
    ·rw[Gae c3] at ih
     simp only[GcW,c,decide_false,Get,c3,Gai,GaB,List.cons_append]
     rw[GcB (by simpa using c2),GcB (by simpa using c2)]
     exact ih
theorem Aw{l:List (α×β)}{k:α}{v:β}:(j8 l k v).length≤l.length+1:=by
 unfold j8
 split<;>simp
theorem rf{l:List (α×β)}(h:(l.map (·.1)).Nodup){k:α}{v:β}(hm:(k,v)∈l):de l k=some v:=by
 induction l with
 |nil=>cases hm
 |cons e l ih=>
  rw[GaI,GbG] at h
  unfold de
  rcases Gas.mp hm with q|q
  ·subst q;simp
  ·have:¬e.1=k:=λc=>h.1 (Gaz.mpr ⟨_,q,c.symm⟩)
   rw[GcB (by simpa using this)]
   exact ih h.2 q
theorem rg{l:List (α×β)}{k:α}{v:β}(h:de l k=some v):(k,v)∈l:=by
 unfold de at h
 obtain⟨e,he,rfl⟩:=Gaj.mp h
 have h1:=List.mem_of_find?_eq_some he
 have h2:=List.find?_some he
 rw[←GaN h2]
 exact h1
theorem rh(hk:∀a b,kk a=kk b→a=b){l:List (α×β)}{k:α}{v:β}{kd:List D}(hkd:keysOf kd=some (kk k))(hl:l.length<1000000):putD (.dT (emb kk vv l)) (.tup kd) (vv v)=some (.dT (emb kk vv (j8 l k v))):=by
 unfold putD
 have:(emb kk vv l).length<ao:=by rw[um];unfold ao;omega
 simp only
 rw[Gag this,hkd]
 simp[Ca hk]
end
theorem kW{α:Type} [DecidableEq α]:∀{l m:List α},l.Nodup→m.Nodup→(∀a,a∈l↔a∈m)→l.Perm m
 |[],m,_,_,h=>by
  cases m with
  |nil=>exact List.Perm.refl _
  |cons b m=>exact absurd ((h b).mpr Gav) (by simp)
 |a::l,m,hl,hm,h=>by
  have ha:a∈m:=(h a).mp Gav
  rw[GbG] at hl
  have p:=List.perm_cons_erase ha
  refine List.Perm.trans (List.Perm.cons a (kW hl.2 (hm.erase a) λb=> ?_)) p.symm
  rw[List.Nodup.mem_erase_iff hm]
  constructor
  ·intro hb
   exact⟨λe=>hl.1 (e▸hb),(h b).mp (Gak _ hb)⟩
  ·rintro⟨h1,h2⟩
   rcases Gas.mp ((h b).mpr h2) with q|q
   ·exact absurd q h1
   ·exact q
noncomputable abbrev Mk:=Str×Int
inductive pJ where
 |we (g h w:Int)
 |st (m:Mk)
 |am (m:Mk) (a:Int)
 |gi (o h a:Int)
 deriving DecidableEq
noncomputable abbrev Ent:=Mk×pJ
noncomputable def mkD(m:Mk):D:= .tup [.str m.1,.int m.2]
noncomputable def mkK(m:Mk):List Key:=[.inr m.1,.inl m.2]
noncomputable def ddD:pJ→D
 | .we g h w=> .tup [.str "weigh",.int g,.int h,.int w]
 | .st m=> .tup [.str "strike",mkD m]
 | .am m a=> .tup [.str "amend",mkD m,.int a]
 | .gi o h a=> .tup [.str "give",.int o,.int h,.int a]
noncomputable def kd:pJ→Str
 | .we .. =>"weigh"
 | .st .. =>"strike"
 | .am .. =>"amend"
 | .gi .. =>"give"
noncomputable def enD(e:Ent):D:= .tup [mkD e.1,ddD e.2]
theorem iB(a b:Mk)(h:mkK a=mkK b):a=b:=by
 obtain⟨x,i⟩:=a
 obtain⟨y,j⟩:=b
 simp[mkK] at h
 rw[h.1,h.2]
theorem pK{a b:Mk}(h:mkD a=mkD b):a=b:=by
 obtain⟨x,i⟩:=a
 obtain⟨y,j⟩:=b
 simp[mkD] at h
 rw[h.1,h.2]
theorem jE(m:Mk):keysOf [.str m.1,.int m.2]=some (mkK m):=by simp[mkK,keyOf]
theorem pL(m:Mk):(mkD m).imm=true:=by simp[mkD]
theorem pM(d:pJ):(ddD d).imm=true:=by cases d<;>simp[ddD,mkD]
theorem uo(e:Ent):(enD e).imm=true:=by simp[enD,pL,pM]
theorem nu(l:List Ent):bN (l.map enD)=true:=fm (p:=λd=>d.imm=true) (λ_ h=>h) λd hd=>by
 obtain⟨e,_,rfl⟩:=Gaz.mp hd
 exact uo e
theorem Ax(a b:Mk):eqD (mkD a) (mkD b)=decide (a=b):=by
 obtain⟨x,i⟩:=a
 obtain⟨y,j⟩:=b
 by_cases h1:x=y<;>by_cases h2:i=j<;>simp[mkD,h1,h2]
noncomputable def hand(i:Int):Str:=([Str.ofString "a",Str.ofString "b",Str.ofString "ab",Str.ofString "zz"]:List Str)[i.toNat]?.getD "a"
noncomputable def pO(ns:List Int)(k:Int):Mk:=(hand (mx ns k%4),1+mx ns (k+1)%12)
theorem Cb{i:Int}(h1:0≤i)(h2:i<4):ixD (.lst [.str "a",.str "b",.str "ab",.str "zz"]) (.int i)=some (.str (hand i)):=by
 have hh:i=0∨i=1∨i=2∨i=3:=by omega
 rcases hh with rfl|rfl|rfl|rfl<;>rfl
theorem Ay{ns:List Int}{k:Int}(hk:0≤k)(hk2:k<100000):cB [.scr ns,.int k]=some (mkD (pO ns k)):=by
 have e0:=cU (ns:=ns) (k:=k) (by omega) (by omega)
 have e1:=cU (ns:=ns) (k:=k+1) (by omega) (by omega)
 have r:=mxm ns k 4 (by omega)
 have hx:=Cb r.1 r.2
 unfold pO mkD
 unfold cB d4
 simp[e0,e1,hx,ao,-lC]
noncomputable def Az(ns:List Int)(k:Int):Int:=if mx ns (k+3)%5=0 then(mx ns (k+2)%23 -3)*4*10000000 else mx ns (k+2)%23 -3
noncomputable def sX(ns:List Int)(k:Int):pJ:=
 if mx ns k%8=0 then .we (mx ns (k+4)%3) (mx ns (k+1)%6) (1+mx ns (k+2)%300)
 else if mx ns k%8=1 then .st (pO ns (k+5))
 else if mx ns k%8<4 then .am (pO ns (k+5)) (Az ns k)
 else .gi (mx ns (k+4)%3) (mx ns (k+1)%6) (Az ns k)
theorem Ef{ns:List Int}{k:Int}(hk:0≤k)(hk2:k<90000):c6 [.scr ns,.int k,.int 3,.int 3,.int 1]=some (ddD (sX ns k)):=by
 have e0:=cU (ns:=ns) (k:=k) (by omega) (by omega)
 have e1:=cU (ns:=ns) (k:=k+1) (by omega) (by omega)
 have e2:=cU (ns:=ns) (k:=k+2) (by omega) (by omega)
 have e3:=cU (ns:=ns) (k:=k+3) (by omega) (by omega)
 have e4:=cU (ns:=ns) (k:=k+4) (by omega) (by omega)
 have e5:=Ay (ns:=ns) (k:=k+5) (by omega) (by omega)
 have im:=pL (pO ns (k+5))
 have m1:∀j,dF 1 j=true:=λj=>lP (by omega) (by omega)
 have m2:∀j,dF j 4=true:=λj=>lQ (by omega) (by omega)
 have m3:∀j,dF j 10000000=true:=λj=>lQ (by omega) (by omega)
 have p7:(10:Int)^7=10000000:=by decide
 unfold sX Az
 generalize pO ns (k+5)=mm at*
 generalize hkind:mx ns k%8=kind at*
 have am:∃A:Int,A=(if mx ns (k+3)%5=0 then(mx ns (k+2)%23 -3)*4*10000000 else mx ns (k+2)%23 -3):=⟨_,rfl⟩
 obtain⟨A,hA⟩:=am
 rw[←hA]
 have st5:bD 0=true:=by decide
 show fF 8 5 ba _=_
 refine dY rfl ?_
 show ba [some (.sh (.scr ns)),some (.sh (.int k)),some (.sh (.int 3)),some (.sh (.int 3)),some (.sh (.int 1)),none,none,none]=_
 unfold ba
 refine(aG (e:=[some (.sh (.scr ns)),some (.sh (.int k)),some (.sh (.int 3)),some (.sh (.int 3)),some (.sh (.int 1)),some (.sh (.int kind)),none,none]) (by simp[e0,hkind,DL.stored])).trans ?_
 generalize hH:mx ns (k+1)%6=hr at*
 refine(aG (e:=[some (.sh (.scr ns)),some (.sh (.int k)),some (.sh (.int 3)),some (.sh (.int 3)),some (.sh (.int 1)),some (.sh (.int kind)),some (.sh (.int hr)),none]) (by simp[e1,m1,hH,DL.stored])).trans ?_
 refine(aG (e:=[some (.sh (.scr ns)),some (.sh (.int k)),some (.sh (.int 3)),some (.sh (.int 3)),some (.sh (.int 1)),some (.sh (.int kind)),some (.sh (.int hr)),some (.sh (.int (mx ns (k+2)%23 -3)))]) (by simp[e2,DL.stored])).trans ?_
 refine(aG (e:=[some (.sh (.scr ns)),some (.sh (.int k)),some (.sh (.int 3)),some (.sh (.int 3)),some (.sh (.int 1)),some (.sh (.int kind)),some (.sh (.int hr)),some (.sh (.int A))]) (by
  by_cases c:mx ns (k+3)%5=0
  ·rw[Gag c] at hA
   simp[e3,c,eqB,m2,m3,p7,hA,DL.stored]
  ·rw[Gae c] at hA
   simp[e3,c,eqB,hA])).trans ?_
 by_cases c0:kind=0
 ·subst c0
  simp[e4,e2,eqB,ao,gv,ddD]
 ·by_cases c1:kind=1
  ·subst c1
   simp[e5,eqB,ao,gv,ddD,im,jC im,RV.free]
  ·by_cases c2:kind<4
   ·simp[e5,eqB,c0,c1,c2,ao,gv,ddD,im,jC im,RV.free]
   ·simp[e4,eqB,c0,c1,c2,ao,gv,ddD,RV.free]
noncomputable def gZ(ns:List Int):Nat→List Ent
 |0=>[]
 |j+1=>if pO ns (4000+11*(j:Int))∈(gZ ns j).map (·.1) then gZ ns j else gZ ns j++[(pO ns (4000+11*(j:Int)),sX ns (4002+11*(j:Int)))]
theorem kr(ns:List Int):∀j,(gZ ns j).length≤j
 |0=>Gau _
 |j+1=>by
  have:=kr ns j
  unfold gZ
  split
  ·omega
  ·simp;omega
theorem kX(ns:List Int):∀j,((gZ ns j).map (·.1)).Nodup
 |0=>GcN
 |j+1=>by
  have ih:=kX ns j
  unfold gZ
  split
  ·exact ih
  ·rename_i c
   rw[Gcr]
   refine GdP.mpr ⟨ih,by simp,λa ha b hb=> ?_⟩
   have hb' :b=pO ns (4000+11*(j:Int)):=by simpa using hb
   rw[hb']
   intro e;subst e;exact c ha
theorem AA{ns:List Int}{l:List Ent}{j K1 K2 mn:Int}{m:Mk}{d:pJ}{x7:Option Slot}(h1:cB [.scr ns,.int K1]=some (mkD m))(h2:c6 [.scr ns,.int K2,.int 3,.int 3,.int 1]=some (ddD d))(hK1:4000+11*j=K1)(hK2:4002+11*j=K2)(hl:l.length<1000):
  c9 [some (.sh (.scr ns)),some (.sh (.int mn)),some (.sh (.int 3)),some (.sh (.int 3)),some (.sh (.int 1)),some (.own (.dT (emb mkK ddD l))),some (.sh (.int j)),x7]=
   some (.nx [some (.sh (.scr ns)),some (.sh (.int mn)),some (.sh (.int 3)),some (.sh (.int 3)),some (.sh (.int 1)),some (.own (.dT (emb mkK ddD (if m∈l.map (·.1) then l else l++[(m,d)])))),some (.sh (.int j)),some (.sh (mkD m))]):=by
 have m11:∀i,dF 11 i=true:=λi=>lP (by omega) (by omega)
 have im:=pL m
 have id:=pM d
 have hk:=jE m
 have lk:=jD (vv:=ddD) iB l m
 have nin:qd (mkD m) (.dT (emb mkK ddD l))=some (!(de l m).isSome):=by
  unfold qd mkD
  rw[wk,hk]
  simp[lk]
 unfold c9
 refine(aG (e:=[some (.sh (.scr ns)),some (.sh (.int mn)),some (.sh (.int 3)),some (.sh (.int 3)),some (.sh (.int 1)),some (.own (.dT (emb mkK ddD l))),some (.sh (.int j)),some (.sh (mkD m))]) (by simp[m11,hK1,h1,jC im,DL.stored])).trans ?_
 by_cases c:m∈l.map (·.1)
 ·have a1:(de l m).isSome=true:=by
   cases q:de l m with
   |none=>exact absurd c (oD.mp q)
   |some _=>rfl
  rw[Gag c]
  refine(Gh (by simp[nin,a1])).trans ?_
  rfl
 ·have a1:(de l m).isSome=false:=by rw[oD.mpr c];rfl
  rw[Gae c]
  refine(Ee (by simp[nin,a1])).trans ?_
  have pd:=rh (vv:=ddD) iB (l:=l) (k:=m) (v:=d) hk (by omega)
  have ap:j8 l m d=l++[(m,d)]:=by
   unfold j8
   rw[Gae]
   simp only[Gcx,Gdg,not_exists,not_and]
   intro e he q
   exact c (Gaz.mpr ⟨e,he,q⟩)
  rw[ap] at pd
  have pd' :putD (.dT (emb mkK ddD l)) (mkD m) (ddD d)=some (.dT (emb mkK ddD (l++[(m,d)]))):=pd
  simp[m11,hK2,h2,jC id,RV.free,pd']
theorem vF(l:List Ent):m9 (emb mkK ddD l)=l.map enD:=by
 unfold m9 emb
 rw[Gby]
 rfl
theorem vG{ns:List Int}{N:Nat}(hN:N≤100):∀{mn:Int},mn=(N:Int)→d7 [.scr ns,.int mn,.int 3,.int 3,.int 1]=some (.lst ((gZ ns N).map enD)):=by
 intro mn hmn
 have sm:bD mn=true:=cC (by omega) (by omega)
 obtain⟨e,he,y6,y7,rfl⟩:=pI (g:=gN 6) (body:=c9) (λi env=>∃y6 y7,env=[some (.sh (.scr ns)),some (.sh (.int mn)),some (.sh (.int 3)),some (.sh (.int 3)),some (.sh (.int 1)),some (.own (.dT (emb mkK ddD (gZ ns i)))),y6,y7]) (aE 0 N) 0 [some (.sh (.scr ns)),some (.sh (.int mn)),some (.sh (.int 3)),some (.sh (.int 3)),some (.sh (.int 1)),some (.own (.dT [])),none,none] ⟨none,none,rfl⟩ (by
  rintro i d env hd ⟨y6,y7,rfl⟩
  obtain⟨hi,rfl⟩:=nj hd
  rw[Gej]
  refine⟨_,_,rfl,AA (j:=0+(i:Int)) (Ay (k:=4000+11*(i:Int)) (by omega) (by omega)) (Ef (k:=4002+11*(i:Int)) (by omega) (by omega)) (by omega) (by omega) (by have:=kr ns i;omega), ?_⟩
  exact⟨_,_,rfl⟩)
 rw[dZ,Gej] at he
 have hr:aE 0 mn.toNat=aE 0 N:=by rw[hmn];simp
 generalize gZ ns N=l at*
 have im:bN ((emb mkK ddD l).map (·.2))=true:=fm (p:=λd=>d.imm=true) (λ_ h=>h) λd hd=>by
  unfold emb at hd
  rw[Gby] at hd
  obtain⟨x,_,rfl⟩:=Gaz.mp hd
  exact pM x.2
 have im2:=nu l
 have it:=vF l
 generalize emb mkK ddD l=kvs at*
 generalize l.map enD=eds at*
 show fF 8 5 bT _=_
 refine dY rfl ?_
 show bT [some (.sh (.scr ns)),some (.sh (.int mn)),some (.sh (.int 3)),some (.sh (.int 3)),some (.sh (.int 1)),none,none,none]=_
 unfold bT
 refine(aG (e:=[some (.sh (.scr ns)),some (.sh (.int mn)),some (.sh (.int 3)),some (.sh (.int 3)),some (.sh (.int 1)),some (.own (.dT [])),none,none]) (by simp[DL.stored])).trans ?_
 refine(aG (e:=[some (.sh (.scr ns)),some (.sh (.int mn)),some (.sh (.int 3)),some (.sh (.int 3)),some (.sh (.int 1)),some (.own (.dT kvs)),y6,y7]) (by simp[sm,hr,he,freed])).trans ?_
 simp[im,it,gv,D.gM,im2]
theorem Gi{ns:List Int}{k:Int}(hk:0≤k)(hk2:k<100000){xs:List D}{j i:Int}{row:List D}(hj:0≤j)(hj2:j<100000)(hr:row.Perm xs)(hl:xs.length≤1000)(h0:0<row.length):∃row',row'.Perm xs∧
  bF [some (.sh (.scr ns)),some (.sh (.int k)),some (.sh (.lst xs)),some (.own (.lst row)),some (.sh (.int j))]=some (.nx [some (.sh (.scr ns)),some (.sh (.int k)),some (.sh (.lst xs)),some (.own (.lst row')),some (.sh (.int j))]):=by
 have e0:=cU (ns:=ns) (k:=k+j) (by omega) (by omega)
 have ll:=hr.length_eq
 have hL:cM [.lst row]=some ⟨.c,.int (row.length:Int)⟩:=rfl
 have hp:0<(row.length:Int):=by omega
 have r:=mxm ns (k+j) (row.length:Int) hp
 have sm:bD (mx ns (k+j)%(row.length:Int))=true:=cC (by omega) (by omega)
 have hy:row[row.length -1]? =some (row[row.length -1]'(by omega)):=Gac _
 generalize hyy:row[row.length -1]'(by omega)=y at hy
 have z:row.length<16777216:=by omega
 have pm:(fe row.dropLast (mx ns (k+j)%(row.length:Int)) y).Perm xs:=by
  refine(rP _ _ _).trans (List.Perm.trans ?_ hr)
  have ne:row≠[]:=List.ne_nil_of_length_pos h0
  have e1:row.dropLast++[row.getLast ne]=row:=List.dropLast_concat_getLast ne
  have e2:row.getLast ne=y:=by rw[←hyy];exact List.getLast_eq_getElem ne
  rw[e2] at e1
  conv=>rhs;rw[←e1]
  exact(List.perm_append_singleton y row.dropLast).symm
 refine⟨_,pm, ?_⟩
 unfold bF
 generalize (row.length:Int)=L at*
 simp[e0,hL,hp,hy,z,sm,ao,-cO]
theorem Gj{ns:List Int}{k:Int}(hk:0≤k)(hk2:k<100000){xs:List D}{j:Int}{row:List D}(hj:0≤j)(hj2:j<100000)(h0:0<row.length)(hl:row.length≤10000):∃y∈row,
  bG [some (.sh (.scr ns)),some (.sh (.int k)),some (.sh (.lst xs)),some (.own (.lst row)),some (.sh (.int j))]=some (.nx [some (.sh (.scr ns)),some (.sh (.int k)),some (.sh (.lst xs)),some (.own (.lst (row++[y]))),some (.sh (.int j))]):=by
 have e0:=cU (ns:=ns) (k:=k+50+j) (by omega) (by omega)
 have hL:cM [.lst row]=some ⟨.c,.int (row.length:Int)⟩:=rfl
 have hp:0<(row.length:Int):=by omega
 have r:=mxm ns (k+50+j) (row.length:Int) hp
 have ix:ixD (.lst row) (.int (mx ns (k+50+j)%(row.length:Int)))=some (row[(mx ns (k+50+j)%(row.length:Int)).toNat]'(by omega)):=by
  show atD row _=_
  rw[Bm r.1]
  exact Gac _
 generalize hyy:row[(mx ns (k+50+j)%(row.length:Int)).toNat]'(by omega)=y at ix
 have z:row.length<16777216:=by omega
 refine⟨y,by rw[←hyy];exact GaR _, ?_⟩
 clear hyy r
 unfold bG
 generalize (row.length:Int)=L at*
 simp[e0,hL,hp,ix,z,ao,RV.free,-cO,-lC]
theorem vH{ns:List Int}{k L L2:Int}{xs row row2:List D}{y4 y42:Option Slot}(hL:cM [.lst xs]=some ⟨.c,.int L⟩)(hL2:cM [.lst row]=some ⟨.c,.int L2⟩)(sm:bD L=true)(sm2:bD (L2/4)=true)(im2:bN row2=true)
  (he:forL (gN 4) bF (aE 0 L.toNat) [some (.sh (.scr ns)),some (.sh (.int k)),some (.sh (.lst xs)),some (.own (.lst xs)),none]=some (.nx [some (.sh (.scr ns)),some (.sh (.int k)),some (.sh (.lst xs)),some (.own (.lst row)),y4]))
  (he2:forL (gN 4) bG (aE 0 (L2/4).toNat) [some (.sh (.scr ns)),some (.sh (.int k)),some (.sh (.lst xs)),some (.own (.lst row)),y4]=some (.nx [some (.sh (.scr ns)),some (.sh (.int k)),some (.sh (.lst xs)),some (.own (.lst row2)),y42])):
  aZ [.scr ns,.int k,.lst xs]=some (.lst row2):=by
 show fF 5 3 bh _=_
 refine dY rfl ?_
 show bh [some (.sh (.scr ns)),some (.sh (.int k)),some (.sh (.lst xs)),none,none]=_
 unfold bh
 refine(aG (e:=[some (.sh (.scr ns)),some (.sh (.int k)),some (.sh (.lst xs)),some (.own (.lst xs)),none]) (by simp[DL.stored])).trans ?_
 refine(aG (e:=[some (.sh (.scr ns)),some (.sh (.int k)),some (.sh (.lst xs)),some (.own (.lst row)),y4]) (by simp[hL,sm,he,freed,-cO])).trans ?_
 refine(aG (e:=[some (.sh (.scr ns)),some (.sh (.int k)),some (.sh (.lst xs)),some (.own (.lst row2)),y42]) (by simp[hL2,sm2,he2,freed,-cO])).trans ?_
 simp[gv,D.gM,im2]
theorem sY{ns:List Int}{k:Int}(hk:0≤k)(hk2:k<100000){xs:List D}(hl:xs.length≤1000)(im:∀d∈xs,d.imm=true):∃ys:List D,aZ [.scr ns,.int k,.lst xs]=some (.lst ys)∧(∀d,d∈ys↔d∈xs)∧ys.length≤xs.length+xs.length/4:=by
 have sm:bD (xs.length:Int)=true:=cC (by omega) (by omega)
 obtain⟨e,he,row,y4,rfl,hrow⟩:=uj (g:=gN 4) (body:=bF) (λenv=>∃row y4,env=[some (.sh (.scr ns)),some (.sh (.int k)),some (.sh (.lst xs)),some (.own (.lst row)),y4]∧row.Perm xs) (aE 0 xs.length) [some (.sh (.scr ns)),some (.sh (.int k)),some (.sh (.lst xs)),some (.own (.lst xs)),none] ⟨xs,none,rfl,List.Perm.refl _⟩ (by
  rintro d hd env ⟨row,y4,rfl,hr⟩
  obtain⟨j,hj,rfl⟩:=sV hd
  have ll:=hr.length_eq
  obtain⟨row',h1,h2⟩:=Gi (ns:=ns) hk hk2 (j:=0+(j:Int)) (i:=0) (by omega) (by omega) hr hl (by omega)
  exact⟨_,_,rfl,h2,row',_,rfl,h1⟩)
 have ll:=hrow.length_eq
 have sm2:bD ((row.length:Int)/4)=true:=cC (by omega) (by omega)
 obtain⟨e2,he2,row2,y42,rfl,hm,hl2⟩:=pI (g:=gN 4) (body:=bG) (λi env=>∃row2 y4,env=[some (.sh (.scr ns)),some (.sh (.int k)),some (.sh (.lst xs)),some (.own (.lst row2)),y4]∧(∀d,d∈row2↔d∈xs)∧row2.length=row.length+i) (aE 0 ((row.length:Int)/4).toNat) 0 [some (.sh (.scr ns)),some (.sh (.int k)),some (.sh (.lst xs)),some (.own (.lst row)),y4] ⟨row,y4,rfl,λd=>hrow.mem_iff,by simp⟩ (by
  rintro i d env hd ⟨row2,y4,rfl,h1,h2⟩
  obtain⟨hi,rfl⟩:=nj hd
  obtain⟨y,hy,h3⟩:=Gj (ns:=ns) hk hk2 (xs:=xs) (j:=0+(i:Int)) (row:=row2) (by omega) (by omega) (by omega) (by omega)
  refine⟨_,_,rfl,h3,row2++[y],_,rfl,λd=> ?_,by simp;omega⟩
  rw[GaQ,h1 d,GaK]
  constructor
  ·rintro(q|q)
   ·exact q
   ·rw[q];exact(h1 y).mp hy
  ·exact .inl)
 rw[dZ] at hl2
 refine⟨row2, ?_,hm,by omega⟩
 have im2:bN row2=true:=fm (p:=λd=>d.imm=true) (λ_ h=>h) λd hd=>im d ((hm d).mp hd)
 have hr:aE 0 (xs.length:Int).toNat=aE 0 xs.length:=by simp
 rw[←hr] at he
 exact vH rfl rfl sm sm2 im2 he he2
theorem oE{α S τ:Type}{g:DG}{body:DS}(eb:α→D)(E:S→τ→DL.Env)(f:S→α→S)(P:Nat→S→Prop):∀(xs:List α) (k:Nat) (s:S) (t:τ),P k s→
  (∀a∈xs,∀i s t,P i s→i<k+xs.length→∃e1 t',g (eb a) (E s t)=some e1∧body e1=some (.nx (E (f s a) t'))∧P (i+1) (f s a))→∃t',forL g body (xs.map eb) (E s t)=some (.nx (E (xs.foldl f s) t'))∧P (k+xs.length) (xs.foldl f s)
 |[],k,s,t,h,_=> ⟨t,rfl,h⟩
 |a::xs,k,s,t,h,st=>by
  obtain⟨e1,t',h1,h2,h3⟩:=st a Gav k s t h (by simp)
  obtain⟨t2,h4,h5⟩:=oE eb E f P xs (k+1) (f s a) t' h3 λb hb i s t hP hi=>st b (Gak _ hb) i s t hP (by simp at hi⊢;omega)
  refine⟨t2,by simp[forL,h1,h2,h4], ?_⟩
  rw[show k+(a::xs).length=k+1+xs.length by simp;omega]
  exact h5
theorem Hv(e:Ent):ixD (enD e) (.int 0)=some (mkD e.1):=rfl
theorem Bl(a b:Str):eqB (.str a) (.str b)=some (a==b):=by simp[eqB]
theorem d8{α:Type} [DecidableEq α]:∀{l m:List α},l.Nodup→(∀a∈l,a∈m)→l.length≤m.length
 |[],_,_,_=>GaJ _
 |a::l,m,h,hs=>by
  rw[GbG] at h
  have ha:=hs a Gav
  have:=d8 (m:=m.erase a) h.2 λb hb=>(List.mem_erase_of_ne (λe=>h.1 (by rw[←e];exact hb))).mpr (hs b (Gak _ hb))
  rw[List.length_erase_of_mem ha] at this
  have hp:=List.length_pos_of_mem ha
  simp;omega
noncomputable def vI(e:Ent):List Ent→List Ent
 |[]=>[e]
 |f::fs=>if ltC (code (mkD e.1)) (code (mkD f.1)) then e::f::fs else f::vI e fs
noncomputable def cH:List Ent→List Ent
 |[]=>[]
 |e::es=>vI e (cH es)
theorem rj(e:Ent):∀fs:List Ent,qe cdN (enD e) (fs.map enD)=(vI e fs).map enD
 |[]=>rfl
 |f::fs=>by
  show(if ltC (code (mkD e.1)) (code (mkD f.1)) then _ else _)=_
  unfold vI
  split
  ·rfl
  ·rw[GaI];rw[←rj e fs]
theorem iC:∀es:List Ent,gy cdN (es.map enD)=(cH es).map enD
 |[]=>rfl
 |e::es=>by
  show qe cdN (enD e) (gy cdN (es.map enD))=_
  rw[iC es,rj];rfl
theorem oF(e:Ent):∀fs:List Ent,(vI e fs).Perm (e::fs)
 |[]=>List.Perm.refl _
 |f::fs=>by
  unfold vI
  split
  ·exact List.Perm.refl _
  ·exact((oF e fs).cons f).trans (List.Perm.swap e f fs)
theorem bp:∀es:List Ent,(cH es).Perm es
 |[]=>List.Perm.refl _
 |e::es=>(oF e _).trans ((bp es).cons e)
theorem pP(es:List Ent):(cH es).Pairwise λa b=>ltC (code (mkD b.1)) (code (mkD a.1))=false:=by
 have:=dw (cd:=cdN) (es.map enD)
 rw[iC] at this
 unfold fZ at this
 rw[List.pairwise_map] at this
 exact this
theorem uq(m:Mk):[D.str m.1,D.int m.2].all fw=true:=rfl
theorem kY{a b:Mk}(h:code (mkD a)=code (mkD b)):a=b:=by
 have:[D.str a.1,D.int a.2]=[D.str b.1,D.int b.2]:=kb (uq a) (uq b) h
 obtain⟨x,i⟩:=a
 obtain⟨y,j⟩:=b
 simp at this
 rw[this.1,this.2]
theorem AB(a b:Mk):rO (mkD a) (mkD b)=true:=by
 show jg [.str a.1,.int a.2] [.str b.1,.int b.2]=true
 unfold jg
 split
 ·unfold jg
  split<;>rfl
 ·rfl
theorem vJ(ms:List Mk):keysOk (ms.map mkD)=true:=by
 unfold keysOk
 have h2:(ms.map mkD).all (fG 2)=true:=by
  rw[Gat]
  intro d hd
  obtain⟨m,_,rfl⟩:=Gaz.mp hd
  rfl
 have h3:((ms.map mkD).all λx=>(ms.map mkD).all λy=>rO x y)=true:=by
  rw[Gat]
  intro d hd
  rw[Gat]
  intro d' hd'
  obtain⟨m,_,rfl⟩:=Gaz.mp hd
  obtain⟨m',_,rfl⟩:=Gaz.mp hd'
  exact AB m m'
 rw[h2,h3];simp
theorem oG{es:List Ent}(h:(es.map (·.1)).Nodup):cP (es.map enD)=true:=by
 unfold cP
 have e1:(es.map enD).map iS=(es.map (·.1)).map mkD:=by rw[Gby,Gby];rfl
 have h0:(es.map enD).all cY=true:=by
  rw[Gat]
  intro d hd
  obtain⟨m,_,rfl⟩:=Gaz.mp hd
  rfl
 have h2:((es.map (·.1)).map mkD).all (fG 2)=true:=by
  rw[Gat]
  intro d hd
  obtain⟨m,_,rfl⟩:=Gaz.mp hd
  rfl
 have h3:(((es.map (·.1)).map mkD).all λx=>((es.map (·.1)).map mkD).all λy=>rO x y)=true:=by
  rw[Gat]
  intro d hd
  rw[Gat]
  intro d' hd'
  obtain⟨m,_,rfl⟩:=Gaz.mp hd
  obtain⟨m',_,rfl⟩:=Gaz.mp hd'
  exact AB m m'
 have h4:qf ((es.map enD).map cdN)=true:=by
  rw[dO]
  have:(es.map enD).map cdN=(es.map (·.1)).map λm=>code (mkD m):=by rw[Gby,Gby];rfl
  rw[this]
  exact List.Pairwise.map _ (λa b hab=>λe=>hab (kY e)) h
 rw[e1,h0,h2,h3,h4];simp
theorem ku{α β:Type}{f:α→β}{p:α→Bool}{l:List α}(h:(l.map f).Nodup):((l.filter p).map f).Nodup:=h.sublist (List.filter_sublist.map f)
theorem vK{α β:Type}(kk:α→List Key)(vv:β→D)(l:List (α×β)):ff (emb kk vv l)=l.map λe=> .tup ((kk e.1).map m8):=by
 unfold ff emb
 rw[Gby]
 rfl
theorem AD{es:List Ent}(h:(es.map (·.1)).Nodup)(hl:es.length≤60):ji [.lst (es.map enD)]=some ⟨.tn,.lst ((cH es).map enD)⟩:=by
 show(if(decide ((es.map enD).length<64)&&cP (es.map enD))=true then some (RV.mk .tn (.lst (gy cdN (es.map enD)))) else none)=_
 rw[oG h,Gar,GaD (by omega),iC]
 rfl
theorem Cc{a b:pJ}(h:ddD a=ddD b):a=b:=by
 cases a<;>cases b<;>simp[ddD] at h
 ·obtain⟨h1,h2,h3⟩:=h;subst h1 h2 h3;rfl
 ·rw[pK h]
 ·rw[pK h.1,h.2]
 ·obtain⟨h1,h2,h3⟩:=h;subst h1 h2 h3;rfl
theorem Cd{a b:Ent}(h:enD a=enD b):a=b:=by
 obtain⟨m,d⟩:=a
 obtain⟨m',d'⟩:=b
 simp[enD] at h
 rw[pK h.1,Cc h.2]
theorem oH{α:Type}{f:α→D}{es:List α}:∀(ys:List D),(∀d∈ys,d∈es.map f)→∃log:List α,ys=log.map f∧∀e∈log,e∈es
 |[],_=> ⟨[],rfl,λe h=>by cases h⟩
 |d::ys,h=>by
  obtain⟨e,he,rfl⟩:=Gaz.mp (h d Gav)
  obtain⟨log,h1,h2⟩:=oH ys λx hx=>h x (Gak _ hx)
  refine⟨e::log,by rw[h1];rfl,λx hx=> ?_⟩
  rcases Gas.mp hx with q|q
  ·rw[q];exact he
  ·exact h2 x q
theorem nv(n:Nat)(m:Mk):ae (n+2) [mkD m,mkD m]=some (.bl true):=dD (by simp) (by
 intro d hd
 rcases Gas.mp hd with q|hd
 ·rw[q];exact fN n _
 ·rw[GaK.mp hd];exact cG n _)
theorem AE(n:Nat)(d:pJ):ae (n+3) [ddD d,ddD d]=some (.bl true):=by
 cases d with
 |we g h w=>
  refine dD (by simp) λd hd=> ?_
  rcases Gas.mp hd with q|hd
  ·rw[q];exact fN (n+1) _
  rcases Gas.mp hd with q|hd
  ·rw[q];exact cG (n+1) _
  rcases Gas.mp hd with q|hd
  ·rw[q];exact cG (n+1) _
  ·rw[GaK.mp hd];exact cG (n+1) _
 |st m=>
  refine dD (by simp) λd hd=> ?_
  rcases Gas.mp hd with q|hd
  ·rw[q];exact fN (n+1) _
  ·rw[GaK.mp hd];exact nv n _
 |am m a=>
  refine dD (by simp) λd hd=> ?_
  rcases Gas.mp hd with q|hd
  ·rw[q];exact fN (n+1) _
  rcases Gas.mp hd with q|hd
  ·rw[q];exact nv n _
  ·rw[GaK.mp hd];exact cG (n+1) _
 |gi o h a=>
  refine dD (by simp) λd hd=> ?_
  rcases Gas.mp hd with q|hd
  ·rw[q];exact fN (n+1) _
  rcases Gas.mp hd with q|hd
  ·rw[q];exact cG (n+1) _
  rcases Gas.mp hd with q|hd
  ·rw[q];exact cG (n+1) _
  ·rw[GaK.mp hd];exact cG (n+1) _
theorem rl(n:Nat)(e:Ent):ae (n+4) [enD e,enD e]=some (.bl true):=dD (by simp) (by
 intro d hd
 rcases Gas.mp hd with q|hd
 ·rw[q];exact nv (n+1) _
 ·rw[GaK.mp hd];exact AE n _)
theorem oI{l:List Ent}(h:l.length≤1000):aV [.lst (l.map enD),.lst (l.map enD)]=some (.bl true):=kq (n:=6) (by simpa using h) (by
 intro d hd
 obtain⟨e,_,rfl⟩:=Gaz.mp hd
 exact rl 2 e)
theorem Eg(e:Ent):eqD (enD e) (enD e)=true:=by
 obtain⟨⟨h,n⟩,d⟩:=e
 cases d<;>simp[enD,ddD,mkD]
theorem Eh(e:Ent):neB (enD e) (enD e)=some false:=by
 have h1:(enD e).plain=true:=by
  obtain⟨⟨h,n⟩,d⟩:=e
  cases d<;>simp[enD,ddD,mkD]
 unfold neB
 rw[h1,Eg]
 rfl
noncomputable def fO(l:List (Mk×Ent))(e:Ent):List (Mk×Ent):=if(de l e.1).isSome then l else j8 l e.1 e
noncomputable def Keeps(es:List Ent)(l:List (Mk×Ent)):Prop:=(l.map (·.1)).Nodup∧∀m x,de l m=some x→x∈es∧x.1=m
theorem uniq{es:List Ent}(nd:(es.map (·.1)).Nodup){x y:Ent}(hx:x∈es)(hy:y∈es)(h:x.1=y.1):x=y:=g8 nd x hx y hy h
theorem kZ{es:List Ent}{l:List (Mk×Ent)}{e:Ent}(K:Keeps es l)(he:e∈es):Keeps es (fO l e):=by
 unfold fO
 split
 ·exact K
 ·refine⟨sW K.1,λm x h=> ?_⟩
  rw[r9] at h
  split at h
  ·rename_i q
   cases h
   exact⟨he,q.symm⟩
  ·exact K.2 m x h
theorem vL{l:List (Mk×Ent)}{e:Ent}:(fO l e).length≤l.length+1:=by
 unfold fO
 split
 ·omega
 ·exact Aw
theorem oJ{es:List Ent}(nd:(es.map (·.1)).Nodup){l:List (Mk×Ent)}{e x:Ent}(K:Keeps es l)(he:e∈es)(hx:x∈es):de (fO l e) x.1=some x↔de l x.1=some x∨x=e:=by
 unfold fO
 cases q:de l e.1 with
 |some y=>
  have hy:=K.2 e.1 y q
  have:y=e:=uniq nd hy.1 he hy.2
  subst this
  simp only[Option.isSome_some,Gbf]
  constructor
  ·exact .inl
  ·rintro(h|rfl)
   ·exact h
   ·exact q
 |none=>
  simp only[Option.isSome_none,Gai,GaB]
  rw[r9]
  by_cases c:x.1=e.1
  ·have:x=e:=uniq nd hx he c
   subst this
   simp
  ·rw[Gae c]
   constructor
   ·exact .inl
   ·rintro(h|rfl)
    ·exact h
    ·exact absurd rfl c
theorem oK{es:List Ent}(nd:(es.map (·.1)).Nodup){x:Ent}(hx:x∈es):∀(xs:List Ent) (l:List (Mk×Ent)),(∀e∈xs,e∈es)→Keeps es l→(de (xs.foldl fO l) x.1=some x↔de l x.1=some x∨x∈xs)
 |[],l,_,K=>by simp
 |e::xs,l,h,K=>by
  have he:=h e Gav
  rw[Gdc,oK nd hx xs _ (λy hy=>h y (Gak _ hy)) (kZ K he),oJ nd K he hx,Gas,or_assoc]
theorem rm{es:List Ent}(nd:(es.map (·.1)).Nodup){ks:List Mk}(hk:ks.Nodup)(P:Ent→Bool)(hm:∀m,m∈ks↔∃e∈es,P e=true∧e.1=m):kM (ks.map mkD)=((cH es).filter P).map λe=>mkD e.1:=by
 have nd2:(((cH es).filter P).map (·.1)).Nodup:=ku (((bp es).map _).nodup_iff.mpr nd)
 have pm:ks.Perm (((cH es).filter P).map (·.1)):=kW hk nd2 λm=>by
  rw[hm]
  constructor
  ·rintro⟨e,he,hp,rfl⟩
   exact Gaz.mpr ⟨e,Gcm.mpr ⟨(bp es).mem_iff.mpr he,hp⟩,rfl⟩
  ·intro h
   obtain⟨e,he,rfl⟩:=Gaz.mp h
   obtain⟨q1,q2⟩:=Gcm.mp he
   exact⟨e,(bp es).mem_iff.mp q1,q2,rfl⟩
 have e2:(((cH es).filter P).map λe=>mkD e.1)=(((cH es).filter P).map (·.1)).map mkD:=by rw[Gby];rfl
 refine fA ((dM _).trans ?_) (fY _) ?_ λa ha b hb e=> ?_
 ·rw[e2];exact pm.map mkD
 ·unfold fX
  rw[List.pairwise_map]
  exact(pP es).filter _
 ·have ha' :=(dM _).mem_iff.mp ha
  have hb' :=(dM _).mem_iff.mp hb
  obtain⟨x,_,rfl⟩:=Gaz.mp ha'
  obtain⟨y,_,rfl⟩:=Gaz.mp hb'
  rw[kY e]
theorem Ce{es:List Ent}(nd:(es.map (·.1)).Nodup){A B:D}{l:List (Mk×Ent)}{e:Ent}{x5:Option Slot}(K:Keeps es l)(he:e∈es)(hl:l.length<1000):
  dc [some (.sh A),some (.sh B),some (.own (.dT (emb mkK enD l))),some (.own (.lst [])),some (.sh (enD e)),x5]=some (.nx [some (.sh A),some (.sh B),some (.own (.dT (emb mkK enD (fO l e)))),some (.own (.lst [])),some (.sh (enD e)),some (.sh (mkD e.1))]):=by
 have h0:=Hv e
 have hn:=Eh e
 have lk:∀l:List (Mk×Ent),ixD (.dT (emb mkK enD l)) (mkD e.1)=(de l e.1).map enD:=λl=>by
  show ixD (.dT _) (.tup [.str e.1.1,.int e.1.2])=_
  rw[wg,jE]
  show look _ (mkK e.1)=_
  rw[jD iB]
 have hin:qd (mkD e.1) (.dT (emb mkK enD l))=some (!(de l e.1).isSome):=by
  unfold qd
  show Option.map _ (inB (.tup [.str e.1.1,.int e.1.2]) (.dT _))=_
  rw[wk,jE]
  show some (!(look _ (mkK e.1)).isSome)=_
  rw[jD iB]
  simp
 have pd:putD (.dT (emb mkK enD l)) (mkD e.1) (enD e)=some (.dT (emb mkK enD (j8 l e.1 e))):=rh iB (jE e.1) (by omega)
 have lk2:ixD (.dT (emb mkK enD (fO l e))) (mkD e.1)=some (enD e):=by
  rw[lk,(oJ nd K he he).mpr (.inr rfl)]
  rfl
 unfold dc
 have t1:∃kv,kv=emb mkK enD (fO l e)∧ifS (dH qd (vE 5) (vE 2)) (Bj 2 (vE 5) (vE 4)) cD [some (.sh A),some (.sh B),some (.own (.dT (emb mkK enD l))),some (.own (.lst [])),some (.sh (enD e)),some (.sh (mkD e.1))]=some (.nx [some (.sh A),some (.sh B),some (.own (.dT kv)),some (.own (.lst [])),some (.sh (enD e)),some (.sh (mkD e.1))]):=by
  refine⟨_,rfl, ?_⟩
  unfold fO
  generalize enD e=ed at*
  generalize mkD e.1=md at*
  cases c:(de l e.1).isSome with
  |true=>
   rw[c] at hin
   simp only[Gbf]
   generalize emb mkK enD l=kv at*
   simp[hin]
  |false=>
   rw[c] at hin
   simp only[Gai,GaB]
   generalize emb mkK enD l=kv at*
   simp[hin,pd,RV.free]
 obtain⟨kv,hkv,t1⟩:=t1
 rw[←hkv] at lk2⊢
 generalize emb mkK enD l=kv0 at*
 generalize enD e=ed at*
 generalize mkD e.1=md at*
 refine(aG (e:=[some (.sh A),some (.sh B),some (.own (.dT kv0)),some (.own (.lst [])),some (.sh ed),some (.sh md)]) (by simp[h0])).trans ?_
 refine(aG t1).trans ?_
 refine(Gh (by simp[lk2,hn])).trans ?_
 rfl
noncomputable def mrg(es xs:List Ent):List Ent:=(cH es).filter λe=>decide (e∈xs)
theorem rn{a b ks res:List D}{kvs:List (List Key×D)}{y4 y5:Option Slot}(ha:a.length+b.length≤ao)
  (he:forL (gN 4) dc (a++b) [some (.sh (.lst a)),some (.sh (.lst b)),some (.own (.dT [])),some (.own (.lst [])),none,none]=some (.nx [some (.sh (.lst a)),some (.sh (.lst b)),some (.own (.dT kvs)),some (.own (.lst [])),y4,y5]))
  (hs:jh [.dT kvs]=some ⟨.tn,.lst ks⟩)(z3:ks.length≤ao)(c3:cF (gN 0) jf (ixE (vE 1) (vE 0)) ks [none,some (.bor (.dT kvs))]=some res)(im:bN res=true):bS [.lst a,.lst b]=some (.lst res):=by
 show fF 6 2 cT _=_
 refine dY rfl ?_
 show cT [some (.sh (.lst a)),some (.sh (.lst b)),none,none,none,none]=_
 unfold cT
 refine(aG (e:=[some (.sh (.lst a)),some (.sh (.lst b)),some (.own (.dT [])),none,none,none]) (by simp[DL.stored])).trans ?_
 refine(aG (e:=[some (.sh (.lst a)),some (.sh (.lst b)),some (.own (.dT [])),some (.own (.lst [])),none,none]) (by simp[DL.stored])).trans ?_
 refine(aG (e:=[some (.sh (.lst a)),some (.sh (.lst b)),some (.own (.dT kvs)),some (.own (.lst [])),y4,y5]) (by simp[ha,he,freed,-forL])).trans ?_
 refine(aG (e:=[some (.sh (.lst a)),some (.sh (.lst b)),some (.own (.dT kvs)),some (.own (.lst [])),y4,y5]) (by simp)).trans ?_
 have c1:DL.compEnv 1 [2] [some (.sh (.lst a)),some (.sh (.lst b)),some (.own (.dT kvs)),some (.own (.lst [])),y4,y5]=[none,some (.bor (.dT kvs))]:=rfl
 simp[hs,c1,c3,z3,gv,D.gM,im,-cF]
theorem lR{es a b:List Ent}(nd:(es.map (·.1)).Nodup)(hl:es.length≤60)(ha:∀e∈a,e∈es)(hb:∀e∈b,e∈es)(la:a.length+b.length≤500):bS [.lst (a.map enD),.lst (b.map enD)]=some (.lst ((mrg es (a++b)).map enD)):=by
 have hab:∀e∈a++b,e∈es:=λe h=>(GaQ.mp h).elim (ha e) (hb e)
 have K0:Keeps es []:=⟨GcN,λm x h=>by cases h⟩
 have base:=oE (g:=gN 4) (body:=dc) enD (λ(l:List (Mk×Ent)) (x:Option Slot×Option Slot)=>[some (.sh (.lst (a.map enD))),some (.sh (.lst (b.map enD))),some (.own (.dT (emb mkK enD l))),some (.own (.lst [])),x.1,x.2]) fO (λi l=>l.length≤i∧Keeps es l) (a++b) 0 [] (none,none) ⟨Gau _,K0⟩ (by
  rintro e he i l t ⟨hP,K⟩ hi
  rw[GaL] at hi
  have:=vL (l:=l) (e:=e)
  exact⟨_,(some (.sh (enD e)),some (.sh (mkD e.1))),rfl,Ce nd K (hab e he) (by omega),by omega,kZ K (hab e he)⟩)
 obtain⟨t,he,_,K⟩:=base
 have get:=λx (hx:x∈es)=>oK nd hx (a++b) [] hab K0
 generalize (a++b).foldl fO []=l at*
 have ml:∀m,m∈l.map (·.1)↔∃e∈es,decide (e∈a++b)=true∧e.1=m:=λm=>by
  constructor
  ·intro h
   obtain⟨q,hq,rfl⟩:=Gaz.mp h
   have g:=rf K.1 (k:=q.1) (v:=q.2) hq
   obtain⟨h1,h2⟩:=K.2 _ _ g
   rw[←h2] at g
   refine⟨q.2,h1,GaD ?_,h2⟩
   exact((get q.2 h1).mp g).elim (λz=>by cases z) id
  ·rintro⟨e,h1,h2,rfl⟩
   have g:=(get e h1).mpr (.inr (GaN h2))
   exact Gaz.mpr ⟨_,rg g,rfl⟩
 have sk:=rm nd K.1 (λe=>decide (e∈a++b)) ml
 have ll:l.length≤60:=by
  have:=d8 K.1 (m:=es.map (·.1)) λm hm=>by
   obtain⟨e,h1,_,h3⟩:=(ml m).mp hm
   exact Gaz.mpr ⟨e,h1,h3⟩
  simp only[Gar] at this
  omega
 have hk:ff (emb mkK enD l)=(l.map (·.1)).map mkD:=by rw[vK,Gby];rfl
 have hs:jh [.dT (emb mkK enD l)]=some ⟨.tn,.lst ((mrg es (a++b)).map λe=>mkD e.1)⟩:=by
  show(if(decide ((emb mkK enD l).length<64)&&keysOk (ff (emb mkK enD l)))=true then some (RV.mk .tn (.lst (kM (ff (emb mkK enD l))))) else none)=_
  rw[hk,um,vJ,GaD (by omega)]
  simp only[Bool.and_self,Gbf]
  rw[sk]
  rfl
 have lm:(mrg es (a++b)).length≤60:=by
  have:=List.length_filter_le (λe:Ent=>decide (e∈a++b)) (cH es)
  have:=(bp es).length_eq
  unfold mrg
  omega
 have c3:=oC (g:=gN 0) (f:=ixE (vE 1) (vE 0)) (λe:Ent=>mkD e.1) (λenv=>∃y,env=[y,some (.bor (.dT (emb mkK enD l)))]) enD (mrg es (a++b)) [none,some (.bor (.dT (emb mkK enD l)))] ⟨none,rfl⟩ (by
  rintro e he env ⟨y,rfl⟩
  obtain⟨q1,q2⟩:=Gcm.mp he
  have hin:=(bp es).mem_iff.mp q1
  have g:=(get e hin).mpr (.inr (GaN q2))
  have lk:ixD (.dT (emb mkK enD l)) (mkD e.1)=some (enD e):=by
   show ixD (.dT _) (.tup [.str e.1.1,.int e.1.2])=_
   rw[wg,jE]
   show look _ (mkK e.1)=_
   rw[jD iB,g];rfl
  generalize emb mkK enD l=kvs at*
  generalize mkD e.1=md at*
  generalize enD e=dd at*
  exact⟨_,rfl,⟨_,rfl⟩,.c,by simp[lk],rfl⟩)
 refine rn (by rw[Gar,Gar];unfold ao;omega) (y4:=t.1) (y5:=t.2) ?_ hs (by rw[Gar];unfold ao;omega) c3 (nu _)
 rw[←Gcr]
 exact he
theorem lS{es xs:List Ent}(h:∀e∈es,e∈xs):mrg es xs=cH es:=by
 unfold mrg
 exact List.filter_eq_self.mpr λe he=>GaD (h e ((bp es).mem_iff.mp he))
theorem rq{ns:List Int}{k:Int}(hk:0≤k)(hk2:k<100000){r:List Ent}(hl:r.length≤120):∃r' :List Ent,aZ [.scr ns,.int k,.lst (r.map enD)]=some (.lst (r'.map enD))∧(∀e,e∈r' ↔e∈r)∧r'.length≤r.length+r.length/4:=by
 obtain⟨ys,e2,hm,hy⟩:=sY (ns:=ns) hk hk2 (xs:=r.map enD) (by simp;omega) (λd hd=>by
  obtain⟨e,_,rfl⟩:=Gaz.mp hd
  exact uo e)
 obtain⟨log,rfl,h2⟩:=oH (f:=enD) (es:=r) ys λd hd=>(hm d).mp hd
 refine⟨log,e2,λe=> ⟨h2 e,λhe=> ?_⟩, ?_⟩
 ·obtain⟨x,hx,q⟩:=Gaz.mp ((hm (enD e)).mpr (Gaz.mpr ⟨e,he,rfl⟩))
  rw[←Cd q];exact hx
 ·simpa using hy
theorem Ej(a b:pJ):eqD (ddD a) (ddD b)=decide (a=b):=by
 cases a<;>cases b<;>simp[ddD,Ax]<;>first|rfl|(rw[Gdz];simp[and_assoc])|decide
theorem Ek(a b:Ent):eqD (enD a) (enD b)=decide (a=b):=by
 obtain⟨m,d⟩:=a
 obtain⟨m',d'⟩:=b
 simp only[enD,eqD,fV,Ax,Ej,Bool.and_true]
 rw[Gdz]
 simp
noncomputable def dE1(acc:List Ent)(e:Ent):List Ent:=if acc.any (λx=>decide (x=e)) then acc else acc++[e]
noncomputable def ky(r:List Ent):List Ent:=r.foldl dE1 []
theorem AF:∀(r acc:List Ent),(r.map enD).foldl qg (acc.map enD)=(r.foldl dE1 acc).map enD
 |[],acc=>rfl
 |e::r,acc=>by
  rw[GaI,Gdc,Gdc,←AF r]
  congr 1
  unfold qg dE1
  rw[List.any_map]
  have:((λx=>eqD x (enD e))∘enD)=λx=>decide (x=e):=funext λx=>Ek x e
  rw[this]
  split
  ·rfl
  ·rw[Gcr];rfl
theorem uu(r:List Ent):ma (r.map enD)=(ky r).map enD:=AF r []
theorem jF:∀(r acc:List Ent),acc.Nodup→(r.foldl dE1 acc).Nodup∧∀e,e∈r.foldl dE1 acc↔e∈acc∨e∈r
 |[],acc,h=> ⟨h,λe=>by simp⟩
 |x::r,acc,h=>by
  rw[Gdc]
  have e0:dE1 acc x=if acc.any (λy=>decide (y=x)) then acc else acc++[x]:=rfl
  rw[e0]
  split
  ·rename_i c
   obtain⟨h1,h2⟩:=jF r acc h
   refine⟨h1,λe=> ?_⟩
   rw[h2,Gas]
   constructor
   ·rintro(q|q)
    ·exact .inl q
    ·exact .inr (.inr q)
   ·rintro(q|rfl|q)
    ·exact .inl q
    ·obtain⟨y,hy,hq⟩:=Gcx.mp c
     exact .inl ((GaN hq)▸hy)
    ·exact .inr q
  ·rename_i c
   have nx:x∉acc:=λhx=>c (Gcx.mpr ⟨x,hx,GaD rfl⟩)
   obtain⟨h1,h2⟩:=jF r (acc++[x]) (by
    rw[GdP]
    exact⟨h,by simp,λa ha b hb=>by rw[GaK.mp hb];exactλe=>nx (e▸ha)⟩)
   refine⟨h1,λe=> ?_⟩
   rw[h2,GaQ,GaK,Gas,or_assoc]
theorem gn(r:List Ent):(ky r).Nodup:=(jF r [] GcN).1
theorem fP(r:List Ent)(e:Ent):e∈ky r↔e∈r:=by
 unfold ky
 rw[(jF r [] GcN).2]
 simp
theorem i3{es:List Ent}(nd:(es.map (·.1)).Nodup):∀{l:List Ent},l.Nodup→(∀e∈l,e∈es)→(l.map (·.1)).Nodup
 |[],_,_=>GcN
 |x::l,h,hl=>by
  rw[GbG] at h
  rw[GaI,GbG]
  refine⟨λhm=> ?_,i3 nd h.2 λe he=>hl e (Gak _ he)⟩
  obtain⟨y,hy,e⟩:=Gaz.mp hm
  have:=uniq nd (hl y (Gak _ hy)) (hl x Gav) e
  exact h.1 (this▸hy)
theorem Gk(e:Ent):(cY (enD e)&&imN 4 (enD e))=true:=by
 obtain⟨m,d⟩:=e
 cases d<;>simp[enD,ddD,mkD,cY,imN]
theorem AG{es r:List Ent}(nd:(es.map (·.1)).Nodup)(hr:∀e∈r,e∈es)(hl:r.length<64){k:Cls}{env:DL.Env}{f:DE}(hf:f env=some ⟨k,.lst (r.map enD)⟩):dP f env=some ⟨.tn,.lst ((cH (ky r)).map enD)⟩:=by
 have nm:=i3 nd (gn r) λe he=>hr e ((fP r e).mp he)
 have ok:setOk (r.map enD)=true:=by
  unfold setOk
  rw[uu,oG nm,Gar,GaD hl,List.all_map]
  simp only[Bool.and_true,Bool.true_and]
  exact Gat.mpr λe _=>Gk e
 unfold dP
 rw[hf]
 show(if setOk (r.map enD)=true then _ else _)=_
 rw[Gag ok,uu,iC]
theorem vM{es r:List Ent}(nd:(es.map (·.1)).Nodup)(hl:es.length≤60)(hr:∀e∈r,e∈es)(h5:r.length≤500):bS [.lst [],.lst (r.map enD)]=some (.lst ((cH (ky r)).map enD)):=by
 have nm:=i3 nd (gn r) λe he=>hr e ((fP r e).mp he)
 have ln:(ky r).length≤60:=by
  have:=d8 (gn r) (m:=es) λe he=>hr e ((fP r e).mp he)
  omega
 have:=lR (es:=ky r) (a:=[]) (b:=r) nm ln (by simp) (λe he=>(fP r e).mpr he) (by simpa using h5)
 rw[lS (es:=ky r) (xs:=[]++r) λe he=>by simpa using(fP r e).mp he] at this
 exact this
noncomputable def fQ(ns:List Int)(q:Int→Bool)(es:List Ent):List Ent:=((List.range es.length).filter λ(j:Nat)=>q (mx ns (5000+(0+(j:Int)))%3)).map λj=>es.getD j (("",0),.we 0 0 0)
theorem rz{ns:List Int}{q:Int→Bool}{es:List Ent}{e:Ent}(h:e∈fQ ns q es):e∈es:=by
 obtain⟨j,hj,rfl⟩:=Gaz.mp h
 have:=GaT.mp (Gcm.mp hj).1
 simp[this]
theorem rA{ns:List Int}{q:Int→Bool}{es:List Ent}:(fQ ns q es).length≤es.length:=by
 unfold fQ
 rw[Gar]
 exact GbQ (List.length_filter_le _ _) (by simp)
theorem AH{ns:List Int}{p q:Int→Bool}{es:List Ent}(h:∀i:Int,0≤i→i<3→p i=true∨q i=true){e:Ent}(he:e∈es):e∈fQ ns p es∨e∈fQ ns q es:=by
 obtain⟨j,hj,rfl⟩:=Gcw he
 have b:=mxm ns (5000+(0+(j:Int))) 3 (by omega)
 have g:es.getD j (("",0),.we 0 0 0)=es[j]:=by simp[hj]
 rcases h _ b.1 b.2 with z|z
 ·exact .inl (Gaz.mpr ⟨j,Gcm.mpr ⟨GaT.mpr hj,z⟩,g⟩)
 ·exact .inr (Gaz.mpr ⟨j,Gcm.mpr ⟨GaT.mpr hj,z⟩,g⟩)
theorem oM{ns:List Int}{es:List Ent}{t:DT}{q:Int→Bool}{b:Option Slot}(hl:es.length≤60)(hb:b=some (.bor (.lst (es.map enD))))
  (ht:∀(j J M:Int),5000+j=J→ah [.scr ns,.int J]=some (.int M)→t [some (.sh (.int j)),some (.sh (.scr ns)),b]=some (q (M%3))):
  cF (gN 0) t (ixE (vE 2) (vE 0)) (aE 0 es.length) [none,some (.sh (.scr ns)),b]=some ((fQ ns q es).map enD):=by
 have:=ko (g:=gN 0) (t:=t) (f:=ixE (vE 2) (vE 0)) (λj:Nat=>D.int (0+(j:Int))) (λenv=>∃y,env=[y,some (.sh (.scr ns)),b]) (λj=>q (mx ns (5000+(0+(j:Int)))%3)) (λj=>enD (es.getD j (("",0),.we 0 0 0))) (List.range es.length) [none,some (.sh (.scr ns)),b] ⟨none,rfl⟩ (by
  rintro j hj env ⟨y,rfl⟩
  have hj' :=GaT.mp hj
  have hm:=cU (ns:=ns) (k:=5000+(0+(j:Int))) (by omega) (by omega)
  refine⟨_,rfl,⟨_,rfl⟩,ht _ _ _ rfl hm,λ_=> ⟨.c, ?_,rfl⟩⟩
  have ix:ixD (.lst (es.map enD)) (.int (0+(j:Int)))=some (enD (es.getD j (("",0),.we 0 0 0))):=by
   rw[lC,show(0:Int)+(j:Int)=(j:Int) by omega,oW,Gax,Gac hj']
   simp[hj']
  rw[hb]
  generalize (0+(j:Int))=J at*
  simp[ix,-lC])
 unfold fQ
 rw[Gby]
 exact this
theorem vN{a b:List Ent}(ha:a.length≤1000)(hb:b.length≤1000):aV [.lst [.lst (a.map enD),.lst (b.map enD)],.lst [.lst (a.map enD),.lst (b.map enD)]]=some (.bl true):=by
 have one:∀l:List Ent,l.length≤1000→ae 6 [.lst (l.map enD),.lst (l.map enD)]=some (.bl true):=λl hl=>kq (n:=5) (by simpa using hl) (by
  intro d hd
  obtain⟨e,_,rfl⟩:=Gaz.mp hd
  exact rl 1 e)
 exact kq (n:=6) (by simp) (by
  intro d hd
  rcases Gas.mp hd with z|z
  ·rw[z];exact one a ha
  ·rw[GaK.mp z];exact one b hb)
theorem AI{F:List D→Option D}{K:Int}{ns:List Int}{eds a b r:List D}(h:F [.scr ns,.int K,.lst a]=some (.lst r)):cN 2 (aM F (a8 (vE 0) (a8 (kE (.int K)) (a8 (vE 2) aA)))) [some (.sh (.scr ns)),some (.own (.lst eds)),some (.own (.lst a)),some (.own (.lst b)),none,none,none,none]=some (.nx [some (.sh (.scr ns)),some (.own (.lst eds)),some (.own (.lst r)),some (.own (.lst b)),none,none,none,none]):=by simp[h,gH,DL.stored,D.top]
theorem AJ{F:List D→Option D}{K:Int}{ns:List Int}{eds a b r:List D}(h:F [.scr ns,.int K,.lst b]=some (.lst r)):cN 3 (aM F (a8 (vE 0) (a8 (kE (.int K)) (a8 (vE 3) aA)))) [some (.sh (.scr ns)),some (.own (.lst eds)),some (.own (.lst a)),some (.own (.lst b)),none,none,none,none]=some (.nx [some (.sh (.scr ns)),some (.own (.lst eds)),some (.own (.lst a)),some (.own (.lst r)),none,none,none,none]):=by simp[h,gH,DL.stored,D.top]
theorem AK{ns:List Int}{mn M:Int}{L:Int}{eds o1 o2 r1 r2 S T:List D}(e0:ah [.scr ns,.int 0]=some (.int M))(hmn:10+M%30=mn)(e1:d7 [.scr ns,.int mn,.int 3,.int 3,.int 1]=some (.lst eds))
  (hL:cM [.lst eds]=some ⟨.c,.int L⟩)(sm:bD L=true)(z:(aE 0 L.toNat).length≤ao)
  (c1:cF (gN 0) (dH ltB (opE d9 (aM ah (a8 (vE 1) (a8 (opE ck (kE (.int 5000)) (vE 0)) aA))) (kE (.int 3))) (kE (.int 2))) (ixE (vE 2) (vE 0)) (aE 0 L.toNat) [none,some (.sh (.scr ns)),some (.bor (.lst eds))]=some o1)
  (c2:cF (gN 0) (dH gtB (opE d9 (aM ah (a8 (vE 1) (a8 (opE ck (kE (.int 5000)) (vE 0)) aA))) (kE (.int 3))) (kE (.int 0))) (ixE (vE 2) (vE 0)) (aE 0 L.toNat) [none,some (.sh (.scr ns)),some (.bor (.lst eds))]=some o2)
  (h1:aZ [.scr ns,.int 5100,.lst o1]=some (.lst r1))(h2:aZ [.scr ns,.int 5300,.lst o2]=some (.lst r2))
  (hs:ji [.lst eds]=some ⟨.tn,.lst S⟩)(m1:bS [.lst r1,.lst r2]=some (.lst S))(m2:bS [.lst r2,.lst r1]=some (.lst S))(m3:bS [.lst [],.lst r1]=some (.lst T))
  (st:∀env:DL.Env,vE 2 env=some ⟨.to,.lst r1⟩→dP (vE 2) env=some ⟨.tn,.lst T⟩)(m4:bS [.lst [],.lst S]=some (.lst S))
  (aS:aV [.lst S,.lst S]=some (.bl true))(aT:aV [.lst T,.lst T]=some (.bl true))(a2:aV [.lst [.lst r1,.lst r2],.lst [.lst r1,.lst r2]]=some (.bl true)):
  nh [.scr ns]=some (.bl true):=by
 show fF 8 1 qZ _=_
 refine dY rfl ?_
 show qZ [some (.sh (.scr ns)),none,none,none,none,none,none,none]=_
 unfold qZ
 have cE:∀x2 x3:Option Slot,DL.compEnv 1 [0,1] [some (.sh (.scr ns)),some (.own (.lst eds)),x2,x3,none,none,none,none]=[none,some (.sh (.scr ns)),some (.bor (.lst eds))]:=λ_ _=>rfl
 refine(aG (e:=[some (.sh (.scr ns)),some (.own (.lst eds)),none,none,none,none,none,none]) (by simp[e0,hmn,e1,gH,DL.stored,D.top])).trans ?_
 refine(aG (e:=[some (.sh (.scr ns)),some (.own (.lst eds)),some (.own (.lst o1)),none,none,none,none,none]) (by
  unfold cN iG
  simp only[aN]
  have:dv (dI cM (a8 (vE 1) aA)) [some (.sh (.scr ns)),some (.own (.lst eds)),none,none,none,none,none,none]=some (aE 0 L.toNat):=by simp[hL,sm,-cO]
  rw[this,Option.bind_some,Gag z,cE,c1]
  rfl)).trans ?_
 refine(aG (e:=[some (.sh (.scr ns)),some (.own (.lst eds)),some (.own (.lst o1)),some (.own (.lst o2)),none,none,none,none]) (by
  unfold cN iG
  simp only[aN]
  have:dv (dI cM (a8 (vE 1) aA)) [some (.sh (.scr ns)),some (.own (.lst eds)),some (.own (.lst o1)),none,none,none,none,none]=some (aE 0 L.toNat):=by simp[hL,sm,-cO]
  rw[this,Option.bind_some,Gag z,cE,c2]
  rfl)).trans ?_
 refine(aG (e:=[some (.sh (.scr ns)),some (.own (.lst eds)),some (.own (.lst r1)),some (.own (.lst o2)),none,none,none,none]) (AI h1)).trans ?_
 refine(aG (e:=[some (.sh (.scr ns)),some (.own (.lst eds)),some (.own (.lst r1)),some (.own (.lst r2)),none,none,none,none]) (AJ h2)).trans ?_
 refine(aG (e:=[some (.sh (.scr ns)),some (.own (.lst eds)),some (.own (.lst r1)),some (.own (.lst r2)),some (.own (.lst [.lst r1,.lst r2])),none,none,none]) (by simp[DL.stored,RV.free,ao])).trans ?_
 refine(aG (e:=[some (.sh (.scr ns)),some (.own (.lst eds)),some (.own (.lst r1)),some (.own (.lst r2)),some (.own (.lst [.lst r1,.lst r2])),some (.own (.lst S)),none,none]) (by simp[hs,DL.stored])).trans ?_
 have i0:atD [D.lst r1,D.lst r2] 0=some (.lst r1):=rfl
 have i1:atD [D.lst r1,D.lst r2] 1=some (.lst r2):=rfl
 refine(aG (e:=[some (.sh (.scr ns)),some (.own (.lst eds)),some (.own (.lst r1)),some (.own (.lst r2)),some (.own (.lst [.lst r1,.lst r2])),some (.own (.lst S)),none,none]) (by simp[i0,i1,m1,m2,aS,gH,D.top])).trans ?_
 refine(aG (e:=[some (.sh (.scr ns)),some (.own (.lst eds)),some (.own (.lst r1)),some (.own (.lst r2)),some (.own (.lst [.lst r1,.lst r2])),some (.own (.lst S)),none,none]) (by
  have q:=st [some (.sh (.scr ns)),some (.own (.lst eds)),some (.own (.lst r1)),some (.own (.lst r2)),some (.own (.lst [.lst r1,.lst r2])),some (.own (.lst S)),none,none] rfl
  generalize dP (vE 2)=F at q⊢
  simp[i0,m3,aT,q,gH,D.top,RV.free])).trans ?_
 refine(aG (e:=[some (.sh (.scr ns)),some (.own (.lst eds)),some (.own (.lst r1)),some (.own (.lst r2)),some (.own (.lst [.lst r1,.lst r2])),some (.own (.lst S)),some (.own (.lst S)),none]) (by simp[hs,DL.stored])).trans ?_
 refine(aG (e:=[some (.sh (.scr ns)),some (.own (.lst eds)),some (.own (.lst r1)),some (.own (.lst r2)),some (.own (.lst [.lst r1,.lst r2])),some (.own (.lst S)),some (.own (.lst S)),some (.own (.lst S))]) (by simp[m4,gH,D.top,DL.stored,RV.free])).trans ?_
 refine(aG (e:=[some (.sh (.scr ns)),some (.own (.lst eds)),some (.own (.lst r1)),some (.own (.lst r2)),some (.own (.lst [.lst r1,.lst r2])),some (.own (.lst S)),some (.own (.lst S)),some (.own (.lst S))]) (by simp[aS])).trans ?_
 refine(aG (e:=[some (.sh (.scr ns)),some (.own (.lst eds)),some (.own (.lst r1)),some (.own (.lst r2)),some (.own (.lst [.lst r1,.lst r2])),some (.own (.lst S)),some (.own (.lst S)),some (.own (.lst []))]) (by simp)).trans ?_
 simp[aS,a2,RV.free,ao,gv,D.imm]
theorem AL(ns:List Int)(h63:ns.length≤63):nh [.scr ns]=some (.bl true):=by
 have b0:=mxm ns 0 30 (by omega)
 have e0:=cU (ns:=ns) (k:=0) (by omega) (by omega)
 obtain⟨N,hN⟩:∃N:Nat,10+mx ns 0%30=(N:Int):=⟨(10+mx ns 0%30).toNat,by omega⟩
 have e1:=vG (ns:=ns) (N:=N) (by omega) hN
 have nd:=kX ns N
 have le:=kr ns N
 generalize gZ ns N=es at*
 have hl:es.length≤39:=by omega
 have t1:∀(j J M:Int),5000+j=J→ah [.scr ns,.int J]=some (.int M)→dH ltB (opE d9 (aM ah (a8 (vE 1) (a8 (opE ck (kE (.int 5000)) (vE 0)) aA))) (kE (.int 3))) (kE (.int 2)) [some (.sh (.int j)),some (.sh (.scr ns)),some (.bor (.lst (es.map enD)))]=some (decide (M%3<2)):=λj J M h1 h2=>by
  generalize es.map enD=eds
  simp[h1,h2]
 have t2:∀(j J M:Int),5000+j=J→ah [.scr ns,.int J]=some (.int M)→dH gtB (opE d9 (aM ah (a8 (vE 1) (a8 (opE ck (kE (.int 5000)) (vE 0)) aA))) (kE (.int 3))) (kE (.int 0)) [some (.sh (.int j)),some (.sh (.scr ns)),some (.bor (.lst (es.map enD)))]=some (decide (0<M%3)):=λj J M h1 h2=>by
  generalize es.map enD=eds
  simp[h1,h2]
 have c1:=oM (q:=λi=>decide (i<2)) (by omega) rfl t1
 have c2:=oM (q:=λi=>decide (0<i)) (by omega) rfl t2
 have hall:∀e∈es,e∈fQ ns (λi=>decide (i<2)) es∨e∈fQ ns (λi=>decide (0<i)) es:=λe he=>AH (λi h0 h3=>by
  simp only[Gdg]
  omega) he
 have s1:∀e∈fQ ns (λi=>decide (i<2)) es,e∈es:=λe=>rz
 have s2:∀e∈fQ ns (λi=>decide (0<i)) es,e∈es:=λe=>rz
 have l1:=rA (ns:=ns) (q:=λi=>decide (i<2)) (es:=es)
 have l2:=rA (ns:=ns) (q:=λi=>decide (0<i)) (es:=es)
 generalize fQ ns (λi=>decide (i<2)) es=o1 at*
 generalize fQ ns (λi=>decide (0<i)) es=o2 at*
 obtain⟨r1,h1,k1,g1⟩:=rq (ns:=ns) (k:=5100) (by omega) (by omega) (r:=o1) (by omega)
 obtain⟨r2,h2,k2,g2⟩:=rq (ns:=ns) (k:=5300) (by omega) (by omega) (r:=o2) (by omega)
 have a1:∀e∈r1,e∈es:=λe he=>s1 e ((k1 e).mp he)
 have a2:∀e∈r2,e∈es:=λe he=>s2 e ((k2 e).mp he)
 have hs:=AD nd (by omega)
 have ls:=(bp es).length_eq
 have m1:=lR nd (by omega) a1 a2 (by omega)
 have m2:=lR nd (by omega) a2 a1 (by omega)
 rw[lS λe he=>GaQ.mpr ((hall e he).imp (k1 e).mpr (k2 e).mpr)] at m1
 rw[lS λe he=>GaQ.mpr ((hall e he).symm.imp (k2 e).mpr (k1 e).mpr)] at m2
 have m3:=vM nd (by omega) a1 (by omega)
 have m4:=lR nd (by omega) (a:=[]) (b:=cH es) (by simp) (λe he=>(bp es).mem_iff.mp he) (by simp;omega)
 rw[lS λe he=>by simpa using(bp es).mem_iff.mpr he] at m4
 have dl:(cH (ky r1)).length≤1000:=by
  have:=d8 (gn r1) (m:=r1) λe he=>(fP r1 e).mp he
  have:=(bp (ky r1)).length_eq
  omega
 have hlen:(es.map enD).length=es.length:=Gar _
 have zr:(aE 0 ((es.map enD).length:Int).toNat).length≤ao:=by rw[dZ];unfold ao;omega
 have er:aE 0 ((es.map enD).length:Int).toNat=aE 0 es.length:=by simp
 have hL:cM [.lst (es.map enD)]=some ⟨.c,.int ((es.map enD).length:Int)⟩:=cO
 have sm:bD ((es.map enD).length:Int)=true:=cC (by omega) (by omega)
 rw[←er] at c1 c2
 have st:∀env:DL.Env,vE 2 env=some ⟨.to,.lst (r1.map enD)⟩→dP (vE 2) env=some ⟨.tn,.lst ((cH (ky r1)).map enD)⟩:=λenv he=>AG nd a1 (by omega) he
 have q1:=oI (l:=cH es) (by omega)
 have q2:=oI (l:=cH (ky r1)) dl
 have q3:=vN (a:=r1) (b:=r2) (by omega) (by omega)
 generalize ((es.map enD).length:Int)=L at*
 exact AK e0 rfl e1 hL sm zr c1 c2 h1 h2 hs m1 m2 m3 st m4 q1 q2 q3
end Maths
namespace Hd
open PySem PySem.W PyProof.Rows L2
noncomputable def top(i:Nat):Stmt:=PySem.Challenge.pw_dosehouse_k70_logs_merged.main.body.getD i (.Pass ⟨0,0,0,0⟩)
noncomputable def view:Program:={PySem.Challenge.pw_dosehouse_k70_logs_merged with main:={PySem.Challenge.pw_dosehouse_k70_logs_merged.main with body:=[top 1,top 2,top 4,top 6,top 7,top 8,top 9,top 10,top 11,top 12]}}
noncomputable def fn(n:Str)(i:Nat)(kV doc pm cd ct:Value):Obj:=⟨.type "function",none,.func (fnOf n n (bZ (top i)) (bM (top i)) (av (top i)) .none kV doc pm none cd ct),#[]⟩
noncomputable def e_(P:Params)(n:Str)(t:Nat)(v:Value):DictEntry:=⟨PyData.keyHash P n,.str n t,v⟩
noncomputable def K(P:Params):Frag:=[(3,{cls:= .type "dict",data:= .dict #[e_ P "__name__" 165 (.str "law_dosehouse_k70_logs_merged" 240),e_ P "__doc__" 166 (.none),e_ P "__package__" 167 (.none),e_ P "__loader__" 168 (.builtin "__main__.__loader__#opaque"),e_ P "__spec__" 169 (.none),e_ P "__annotations__" 170 (.ref 6),e_ P "__builtins__" 171 (.ref 4),e_ P "__file__" 173 (.str "/claim/cut.py" 172),e_ P "__cached__" 174 (.none),e_ P "HouseError" 206 (.ref 24),e_ P "Torn" 231 (.ref 44),e_ P "merged" 239 (.ref 51),e_ P "_law_mixed" 251 (.ref 58),e_ P "_law_mark" 260 (.ref 65),e_ P "_law_entry_deed" 274 (.ref 72),e_ P "_law_entries" 288 (.ref 79),e_ P "_law_shuffled" 299 (.ref 86),e_ P "_law_alike" 305 (.ref 91),e_ P "law" 311 (.ref 96)] 19}),
 (51,fn "merged" 4 (.none) (.none) (.str "dosehouse.logs" 232) (.ref 50) (.none)),
 (50,{cls:= .type "code",data:= .fields #[.str "merged" 234,.str "merged" 235,.str "/claim/cut.py" 236,.int 10 0,.int 2 0,.int 0 0,.int 0 0,.int 3 0,.ref 47,.bool true,.int 181 0,.ref 48,.none,.none,.none,.ref 49,.int 237 0,.int 10 0,.str "/claim/cut.py" 238]}),
 (58,fn "_law_mixed" 6 (.none) (.none) (.str "law_dosehouse_k70_logs_merged" 240) (.ref 57) (.none)),
 (57,{cls:= .type "code",data:= .fields #[.str "_law_mixed" 242,.str "_law_mixed" 243,.str "/claim/cut.py" 244,.int 23 0,.int 2 0,.int 0 0,.int 0 0,.int 3 0,.ref 52,.bool true,.int 181 0,.ref 53,.none,.ref 54,.ref 55,.ref 56,.int 249 0,.int 23 0,.str "/claim/cut.py" 250]}),
 (65,fn "_law_mark" 7 (.none) (.none) (.str "law_dosehouse_k70_logs_merged" 240) (.ref 64) (.none)),
 (64,{cls:= .type "code",data:= .fields #[.str "_law_mark" 252,.str "_law_mark" 253,.str "/claim/cut.py" 254,.int 29 0,.int 2 0,.int 0 0,.int 0 0,.int 3 0,.ref 59,.bool true,.int 181 0,.ref 60,.none,.ref 61,.ref 62,.ref 63,.int 258 0,.int 29 0,.str "/claim/cut.py" 259]}),
 (72,fn "_law_entry_deed" 8 (.none) (.none) (.str "law_dosehouse_k70_logs_merged" 240) (.ref 71) (.none)),
 (71,{cls:= .type "code",data:= .fields #[.str "_law_entry_deed" 261,.str "_law_entry_deed" 262,.str "/claim/cut.py" 263,.int 32 0,.int 5 0,.int 0 0,.int 0 0,.int 3 0,.ref 66,.bool true,.int 181 0,.ref 67,.none,.ref 68,.ref 69,.ref 70,.int 272 0,.int 32 0,.str "/claim/cut.py" 273]}),
 (79,fn "_law_entries" 9 (.none) (.none) (.str "law_dosehouse_k70_logs_merged" 240) (.ref 78) (.none)),
 (78,{cls:= .type "code",data:= .fields #[.str "_law_entries" 275,.str "_law_entries" 276,.str "/claim/cut.py" 277,.int 45 0,.int 5 0,.int 0 0,.int 0 0,.int 3 0,.ref 73,.bool true,.int 181 0,.ref 74,.none,.ref 75,.ref 76,.ref 77,.int 286 0,.int 45 0,.str "/claim/cut.py" 287]}),
 (86,fn "_law_shuffled" 10 (.none) (.none) (.str "law_dosehouse_k70_logs_merged" 240) (.ref 85) (.none)),
 (85,{cls:= .type "code",data:= .fields #[.str "_law_shuffled" 289,.str "_law_shuffled" 290,.str "/claim/cut.py" 291,.int 52 0,.int 3 0,.int 0 0,.int 0 0,.int 3 0,.ref 80,.bool true,.int 181 0,.ref 81,.none,.ref 82,.ref 83,.ref 84,.int 297 0,.int 52 0,.str "/claim/cut.py" 298]}),
 (91,fn "_law_alike" 11 (.none) (.none) (.str "law_dosehouse_k70_logs_merged" 240) (.ref 90) (.none)),
 (90,{cls:= .type "code",data:= .fields #[.str "_law_alike" 300,.str "_law_alike" 301,.str "/claim/cut.py" 302,.int 59 0,.int 2 0,.int 0 0,.int 0 0,.int 3 0,.ref 87,.bool true,.int 181 0,.ref 88,.none,.none,.none,.ref 89,.int 303 0,.int 59 0,.str "/claim/cut.py" 304]}),
 (96,fn "law" 12 (.none) (.none) (.str "law_dosehouse_k70_logs_merged" 240) (.ref 95) (.none)),
 (95,{cls:= .type "code",data:= .fields #[.str "law" 306,.str "law" 307,.str "/claim/cut.py" 308,.int 73 0,.int 1 0,.int 0 0,.int 0 0,.int 3 0,.ref 92,.bool true,.int 181 0,.ref 93,.none,.none,.none,.ref 94,.int 309 0,.int 73 0,.str "/claim/cut.py" 310]})]
noncomputable def as_:List Addr:=[3,51,50,58,57,65,64,72,71,79,78,86,85,91,90,96,95]
noncomputable def hook:Hook:=kHook K as_ (λ_=>rfl)
noncomputable def xt(s:Shared):Bool:=xlAt view [] s&&recOk (RowW.records (OpenRow.toRowW (OpenLaw.row PySem.Challenge.rw_dosehouse_k70_logs_merged))) s
theorem left:LeftO PySem.Challenge.pw_dosehouse_k70_logs_merged view [] xt hook.obs hook.val 1534:=λw=>by kernel_rfl
end Hd
seal L2.PE L2.PT L2.PW L2.PA L2.PS L2.PSs L2.PG L2.PGs L2.PI
namespace Der
open PySem PySem.Spec PyProof.Rows L2 DL Den
noncomputable abbrev top:=Hd.top
noncomputable abbrev dE:Stmt:=top 4
noncomputable abbrev cf:Stmt:=top 6
noncomputable abbrev cI:Stmt:=top 7
noncomputable abbrev b6:Stmt:=top 8
noncomputable abbrev bL:Stmt:=top 9
noncomputable abbrev bx:Stmt:=top 10
noncomputable abbrev cg:Stmt:=top 11
noncomputable abbrev kz:Stmt:=top 12
noncomputable def Txt(Pm:Params)(mg:Str→Option Value):Prop:=∃h:Heap,(Hd.K Pm).In h∧h.Ns mainGlobals mg
noncomputable abbrev Txt.ny {Pm:Params} {mg:Str→Option Value} (_:Txt Pm mg):Addr:=51
noncomputable abbrev nz:FuncData:=(PySem.W.fnOf "merged" "merged" (bZ dE) (bM dE) (av dE) .none (.none) (.none) (.str "dosehouse.logs" 232) none (.ref 50) (.none))
noncomputable abbrev Txt.kA {Pm:Params} {mg:Str→Option Value} (_:Txt Pm mg):FuncData:=nz
theorem oN(Pm:Params):Fun (Hd.K Pm) "merged" "merged" dE 51 nz:=gL (oc:= .type "function") (od:=none) (osl:=#[]) (by kernel_rfl) (by kernel_rfl) (by kernel_rfl)
theorem Txt.i4{Pm:Params}{mg:Str→Option Value}(T:Txt Pm mg):Fun (Hd.K Pm) "merged" "merged" dE T.ny T.kA:=oN Pm
theorem vO(Pm:Params):PySem.W.nsIn (Hd.K Pm) mainGlobals "merged"=some (some (.ref 51)):=by kernel_rfl
theorem Txt.jG{Pm:Params}{mg:Str→Option Value}(T:Txt Pm mg):mg "merged"=some (.ref T.ny):=let⟨_,X,G⟩:=T;GcH X G (vO Pm)
theorem Txt.cT{Pm:Params}{mg:Str→Option Value}(T:Txt Pm mg):Binds (Hd.K Pm) T.kA ["log","other"] []:=(oN Pm).binds (ps:=["log","other"]) λ_ _ _ _ _ _ us hl=>match us,hl with|[_,_],_=>rfl
noncomputable abbrev Txt.i5 {Pm:Params} {mg:Str→Option Value} (_:Txt Pm mg):Addr:=58
noncomputable abbrev iK:FuncData:=(PySem.W.fnOf "_law_mixed" "_law_mixed" (bZ cf) (bM cf) (av cf) .none (.none) (.none) (.str "law_dosehouse_k70_logs_merged" 240) none (.ref 57) (.none))
noncomputable abbrev Txt.gp {Pm:Params} {mg:Str→Option Value} (_:Txt Pm mg):FuncData:=iK
theorem jH(Pm:Params):Fun (Hd.K Pm) "_law_mixed" "_law_mixed" cf 58 iK:=gL (oc:= .type "function") (od:=none) (osl:=#[]) (by kernel_rfl) (by kernel_rfl) (by kernel_rfl)
theorem Txt.aH{Pm:Params}{mg:Str→Option Value}(T:Txt Pm mg):Fun (Hd.K Pm) "_law_mixed" "_law_mixed" cf T.i5 T.gp:=jH Pm
theorem pQ(Pm:Params):PySem.W.nsIn (Hd.K Pm) mainGlobals "_law_mixed"=some (some (.ref 58)):=by kernel_rfl
theorem Txt.aK{Pm:Params}{mg:Str→Option Value}(T:Txt Pm mg):mg "_law_mixed"=some (.ref T.i5):=let⟨_,X,G⟩:=T;GcH X G (pQ Pm)
theorem Txt.ay{Pm:Params}{mg:Str→Option Value}(T:Txt Pm mg):Binds (Hd.K Pm) T.gp ["_law_script","_law_k"] []:=(jH Pm).binds (ps:=["_law_script","_law_k"]) λ_ _ _ _ _ _ us hl=>match us,hl with|[_,_],_=>rfl
noncomputable abbrev Txt.j9 {Pm:Params} {mg:Str→Option Value} (_:Txt Pm mg):Addr:=65
noncomputable abbrev jI:FuncData:=(PySem.W.fnOf "_law_mark" "_law_mark" (bZ cI) (bM cI) (av cI) .none (.none) (.none) (.str "law_dosehouse_k70_logs_merged" 240) none (.ref 64) (.none))
noncomputable abbrev Txt.i7 {Pm:Params} {mg:Str→Option Value} (_:Txt Pm mg):FuncData:=jI
theorem l8(Pm:Params):Fun (Hd.K Pm) "_law_mark" "_law_mark" cI 65 jI:=gL (oc:= .type "function") (od:=none) (osl:=#[]) (by kernel_rfl) (by kernel_rfl) (by kernel_rfl)
theorem Txt.gq{Pm:Params}{mg:Str→Option Value}(T:Txt Pm mg):Fun (Hd.K Pm) "_law_mark" "_law_mark" cI T.j9 T.i7:=l8 Pm
theorem rB(Pm:Params):PySem.W.nsIn (Hd.K Pm) mainGlobals "_law_mark"=some (some (.ref 65)):=by kernel_rfl
theorem Txt.ja{Pm:Params}{mg:Str→Option Value}(T:Txt Pm mg):mg "_law_mark"=some (.ref T.j9):=let⟨_,X,G⟩:=T;GcH X G (rB Pm)
theorem Txt.d4{Pm:Params}{mg:Str→Option Value}(T:Txt Pm mg):Binds (Hd.K Pm) T.i7 ["_law_script","_law_k"] []:=(l8 Pm).binds (ps:=["_law_script","_law_k"]) λ_ _ _ _ _ _ us hl=>match us,hl with|[_,_],_=>rfl
noncomputable abbrev Txt.d5 {Pm:Params} {mg:Str→Option Value} (_:Txt Pm mg):Addr:=72
noncomputable abbrev f6:FuncData:=(PySem.W.fnOf "_law_entry_deed" "_law_entry_deed" (bZ b6) (bM b6) (av b6) .none (.none) (.none) (.str "law_dosehouse_k70_logs_merged" 240) none (.ref 71) (.none))
noncomputable abbrev Txt.cV {Pm:Params} {mg:Str→Option Value} (_:Txt Pm mg):FuncData:=f6
theorem fo(Pm:Params):Fun (Hd.K Pm) "_law_entry_deed" "_law_entry_deed" b6 72 f6:=gL (oc:= .type "function") (od:=none) (osl:=#[]) (by kernel_rfl) (by kernel_rfl) (by kernel_rfl)
theorem Txt.fR{Pm:Params}{mg:Str→Option Value}(T:Txt Pm mg):Fun (Hd.K Pm) "_law_entry_deed" "_law_entry_deed" b6 T.d5 T.cV:=fo Pm
theorem jJ(Pm:Params):PySem.W.nsIn (Hd.K Pm) mainGlobals "_law_entry_deed"=some (some (.ref 72)):=by kernel_rfl
theorem Txt.kB{Pm:Params}{mg:Str→Option Value}(T:Txt Pm mg):mg "_law_entry_deed"=some (.ref T.d5):=let⟨_,X,G⟩:=T;GcH X G (jJ Pm)
theorem Txt.ba{Pm:Params}{mg:Str→Option Value}(T:Txt Pm mg):Binds (Hd.K Pm) T.cV ["_law_script","_law_k","_law_orders","_law_guests","_law_hours"] []:=(fo Pm).binds (ps:=["_law_script","_law_k","_law_orders","_law_guests","_law_hours"]) λ_ _ _ _ _ _ us hl=>match us,hl with|[_,_,_,_,_],_=>rfl
noncomputable abbrev Txt.fE {Pm:Params} {mg:Str→Option Value} (_:Txt Pm mg):Addr:=79
noncomputable abbrev gB:FuncData:=(PySem.W.fnOf "_law_entries" "_law_entries" (bZ bL) (bM bL) (av bL) .none (.none) (.none) (.str "law_dosehouse_k70_logs_merged" 240) none (.ref 78) (.none))
noncomputable abbrev Txt.f7 {Pm:Params} {mg:Str→Option Value} (_:Txt Pm mg):FuncData:=gB
theorem i8(Pm:Params):Fun (Hd.K Pm) "_law_entries" "_law_entries" bL 79 gB:=gL (oc:= .type "function") (od:=none) (osl:=#[]) (by kernel_rfl) (by kernel_rfl) (by kernel_rfl)
theorem Txt.iL{Pm:Params}{mg:Str→Option Value}(T:Txt Pm mg):Fun (Hd.K Pm) "_law_entries" "_law_entries" bL T.fE T.f7:=i8 Pm
theorem nA(Pm:Params):PySem.W.nsIn (Hd.K Pm) mainGlobals "_law_entries"=some (some (.ref 79)):=by kernel_rfl
theorem Txt.nJ{Pm:Params}{mg:Str→Option Value}(T:Txt Pm mg):mg "_law_entries"=some (.ref T.fE):=let⟨_,X,G⟩:=T;GcH X G (nA Pm)
theorem Txt.bT{Pm:Params}{mg:Str→Option Value}(T:Txt Pm mg):Binds (Hd.K Pm) T.f7 ["_law_script","_law_many","_law_orders","_law_guests","_law_hours"] []:=(i8 Pm).binds (ps:=["_law_script","_law_many","_law_orders","_law_guests","_law_hours"]) λ_ _ _ _ _ _ us hl=>match us,hl with|[_,_,_,_,_],_=>rfl
noncomputable abbrev Txt.f9 {Pm:Params} {mg:Str→Option Value} (_:Txt Pm mg):Addr:=86
noncomputable abbrev fS:FuncData:=(PySem.W.fnOf "_law_shuffled" "_law_shuffled" (bZ bx) (bM bx) (av bx) .none (.none) (.none) (.str "law_dosehouse_k70_logs_merged" 240) none (.ref 85) (.none))
noncomputable abbrev Txt.dm {Pm:Params} {mg:Str→Option Value} (_:Txt Pm mg):FuncData:=fS
theorem gC(Pm:Params):Fun (Hd.K Pm) "_law_shuffled" "_law_shuffled" bx 86 fS:=gL (oc:= .type "function") (od:=none) (osl:=#[]) (by kernel_rfl) (by kernel_rfl) (by kernel_rfl)
theorem Txt.fb{Pm:Params}{mg:Str→Option Value}(T:Txt Pm mg):Fun (Hd.K Pm) "_law_shuffled" "_law_shuffled" bx T.f9 T.dm:=gC Pm
theorem lz(Pm:Params):PySem.W.nsIn (Hd.K Pm) mainGlobals "_law_shuffled"=some (some (.ref 86)):=by kernel_rfl
theorem Txt.i9{Pm:Params}{mg:Str→Option Value}(T:Txt Pm mg):mg "_law_shuffled"=some (.ref T.f9):=let⟨_,X,G⟩:=T;GcH X G (lz Pm)
theorem Txt.bh{Pm:Params}{mg:Str→Option Value}(T:Txt Pm mg):Binds (Hd.K Pm) T.dm ["_law_script","_law_k","_law_some"] []:=(gC Pm).binds (ps:=["_law_script","_law_k","_law_some"]) λ_ _ _ _ _ _ us hl=>match us,hl with|[_,_,_],_=>rfl
noncomputable abbrev Txt.fq {Pm:Params} {mg:Str→Option Value} (_:Txt Pm mg):Addr:=91
noncomputable abbrev iM:FuncData:=(PySem.W.fnOf "_law_alike" "_law_alike" (bZ cg) (bM cg) (av cg) .none (.none) (.none) (.str "law_dosehouse_k70_logs_merged" 240) none (.ref 90) (.none))
noncomputable abbrev Txt.dB {Pm:Params} {mg:Str→Option Value} (_:Txt Pm mg):FuncData:=iM
theorem jK(Pm:Params):Fun (Hd.K Pm) "_law_alike" "_law_alike" cg 91 iM:=gL (oc:= .type "function") (od:=none) (osl:=#[]) (by kernel_rfl) (by kernel_rfl) (by kernel_rfl)
theorem Txt.bH{Pm:Params}{mg:Str→Option Value}(T:Txt Pm mg):Fun (Hd.K Pm) "_law_alike" "_law_alike" cg T.fq T.dB:=jK Pm
theorem pR(Pm:Params):PySem.W.nsIn (Hd.K Pm) mainGlobals "_law_alike"=some (some (.ref 91)):=by kernel_rfl
theorem Txt.bX{Pm:Params}{mg:Str→Option Value}(T:Txt Pm mg):mg "_law_alike"=some (.ref T.fq):=let⟨_,X,G⟩:=T;GcH X G (pR Pm)
theorem Txt.aF{Pm:Params}{mg:Str→Option Value}(T:Txt Pm mg):Binds (Hd.K Pm) T.dB ["_law_found","_law_due"] []:=(jK Pm).binds (ps:=["_law_found","_law_due"]) λ_ _ _ _ _ _ us hl=>match us,hl with|[_,_],_=>rfl
noncomputable abbrev Txt.AM {Pm:Params} {mg:Str→Option Value} (_:Txt Pm mg):Addr:=96
noncomputable abbrev uv:FuncData:=(PySem.W.fnOf "law" "law" (bZ kz) (bM kz) (av kz) .none (.none) (.none) (.str "law_dosehouse_k70_logs_merged" 240) none (.ref 95) (.none))
noncomputable abbrev Txt.sZ {Pm:Params} {mg:Str→Option Value} (_:Txt Pm mg):FuncData:=uv
theorem AN(Pm:Params):Fun (Hd.K Pm) "law" "law" kz 96 uv:=gL (oc:= .type "function") (od:=none) (osl:=#[]) (by kernel_rfl) (by kernel_rfl) (by kernel_rfl)
theorem Txt.Gm{Pm:Params}{mg:Str→Option Value}(T:Txt Pm mg):Fun (Hd.K Pm) "law" "law" kz T.AM T.sZ:=AN Pm
theorem El(Pm:Params):PySem.W.nsIn (Hd.K Pm) mainGlobals "law"=some (some (.ref 96)):=by kernel_rfl
theorem Txt.Gn{Pm:Params}{mg:Str→Option Value}(T:Txt Pm mg):mg "law"=some (.ref T.AM):=let⟨_,X,G⟩:=T;GcH X G (El Pm)
theorem Txt.qZ{Pm:Params}{mg:Str→Option Value}(T:Txt Pm mg):Binds (Hd.K Pm) T.sZ ["_law_script"] []:=(AN Pm).binds (ps:=["_law_script"]) λ_ _ _ _ _ _ us hl=>match us,hl with|[_],_=>rfl
theorem Em(Pm:Params):PySem.W.nsIn (Hd.K Pm) mainGlobals "all"=some none:=by kernel_rfl
theorem Txt.Gp{Pm:Params}{mg:Str→Option Value}(T:Txt Pm mg):mg "all"=none:=let⟨_,X,G⟩:=T;Gbs X G (Em Pm)
theorem Cf(Pm:Params):PySem.W.nsIn (Hd.K Pm) mainGlobals "bool"=some none:=by kernel_rfl
theorem Txt.En{Pm:Params}{mg:Str→Option Value}(T:Txt Pm mg):mg "bool"=none:=let⟨_,X,G⟩:=T;Gbs X G (Cf Pm)
theorem Eo(Pm:Params):PySem.W.nsIn (Hd.K Pm) mainGlobals "int"=some none:=by kernel_rfl
theorem Txt.Gq{Pm:Params}{mg:Str→Option Value}(T:Txt Pm mg):mg "int"=none:=let⟨_,X,G⟩:=T;Gbs X G (Eo Pm)
theorem nK(Pm:Params):PySem.W.nsIn (Hd.K Pm) mainGlobals "isinstance"=some none:=by kernel_rfl
theorem Txt.aX{Pm:Params}{mg:Str→Option Value}(T:Txt Pm mg):mg "isinstance"=none:=let⟨_,X,G⟩:=T;Gbs X G (nK Pm)
theorem Ep(Pm:Params):PySem.W.nsIn (Hd.K Pm) mainGlobals "len"=some none:=by kernel_rfl
theorem Txt.gD{Pm:Params}{mg:Str→Option Value}(T:Txt Pm mg):mg "len"=none:=let⟨_,X,G⟩:=T;Gbs X G (Ep Pm)
theorem Cg(Pm:Params):PySem.W.nsIn (Hd.K Pm) mainGlobals "list"=some none:=by kernel_rfl
theorem Txt.jb{Pm:Params}{mg:Str→Option Value}(T:Txt Pm mg):mg "list"=none:=let⟨_,X,G⟩:=T;Gbs X G (Cg Pm)
theorem AO(Pm:Params):PySem.W.nsIn (Hd.K Pm) mainGlobals "range"=some none:=by kernel_rfl
theorem Txt.iD{Pm:Params}{mg:Str→Option Value}(T:Txt Pm mg):mg "range"=none:=let⟨_,X,G⟩:=T;Gbs X G (AO Pm)
theorem Er(Pm:Params):PySem.W.nsIn (Hd.K Pm) mainGlobals "set"=some none:=by kernel_rfl
theorem Txt.Gr{Pm:Params}{mg:Str→Option Value}(T:Txt Pm mg):mg "set"=none:=let⟨_,X,G⟩:=T;Gbs X G (Er Pm)
theorem vP(Pm:Params):PySem.W.nsIn (Hd.K Pm) mainGlobals "sorted"=some none:=by kernel_rfl
theorem Txt.jL{Pm:Params}{mg:Str→Option Value}(T:Txt Pm mg):mg "sorted"=none:=let⟨_,X,G⟩:=T;Gbs X G (vP Pm)
theorem Es(Pm:Params):PySem.W.nsIn (Hd.K Pm) mainGlobals "str"=some none:=by kernel_rfl
theorem Txt.CB{Pm:Params}{mg:Str→Option Value}(T:Txt Pm mg):mg "str"=none:=let⟨_,X,G⟩:=T;Gbs X G (Es Pm)
theorem AQ(Pm:Params):PySem.W.nsIn (Hd.K Pm) mainGlobals "tuple"=some none:=by kernel_rfl
theorem Txt.pS{Pm:Params}{mg:Str→Option Value}(T:Txt Pm mg):mg "tuple"=none:=let⟨_,X,G⟩:=T;Gbs X G (AQ Pm)
seal Hd.K
section
variable{P:Program}{w:World}{Pm:Params}{mg:Str→Option Value}{base:Heap}
theorem oO:bY ["log","other","kept","torn","entry","mark"] ["log","other"] (av dE):=qK
theorem iE(T:Txt Pm mg):df P w (Hd.K Pm) mg base CX0 1 T.ny T.kA ["log","other"] (spD (Hd.K Pm) 2 bS):=by
 refine jl T.i4 oO rfl λcdv A outer s H E hr=> ?_
 have sc:=oO
 have hu:=kK hr
 have hu20:=fi hr
 refine ai 0 _ λv0=>ai 1 _ λv1=>ai 2 _ λv2=>ai 3 _ λv3=>ai 4 _ λv4=>ai 5 _ λv5=>aW 2 "kept" λl2=>aW 3 "torn" λl3=>p9 3 "torn" λw3=>aW 4 "entry" λl4=>aW 5 "mark" λl5=>aJ "len" λg_len=>aJ "sorted" λg_sorted=> ?_
 exact(ak (bI (i:=2) sc.nd rfl l2 qp)
 (ak (bI (i:=3) sc.nd rfl l3 (k8 ab))
 (ak (p8 (l:=none) Gek rfl (wF (bq (v0 _) (v1 _))) (fh (i:=4) sc.nd rfl l4)
  (ak (bI (i:=5) sc.nd rfl l5 (dR hu (v4 _) af))
 (ak (cX (cZ (tX hu20) tY (v5 _) (v2 _) (by with_unfolding_all rfl))
  (aR (wU (i:=2) hu rfl (by first|exact Or.inl rfl|exact Or.inr (Or.inl rfl)|exact Or.inr (Or.inr rfl)) (v5 _) (v4 _)))
  bV)
 (aR (cX (cZ (wI hu20) wJ (dR hu (v2 _) (v5 _)) (v4 _) (cL _))
  (aR (o6 (i:=3) rfl w3 (v5 _)))
  bV)))))
 (ak (cX (cZ vU rR (cp (bQ.or br) bw g_len T.gD dh (a0 (v3 _) ab)) af (cL _))
  (aR wB)
  bV)
 (aR (bK (tM (N:=["mark","kept"]) (l:=none) rfl (by exact⟨rfl,rfl,rfl,rfl,rfl,by decide,rfl,rfl⟩) (wF (cp (mI (by rfl)) nD g_sorted T.jL k9 (a0 (v2 _) ab))) jn ⟨λ_ _ _ _ _=>(fh (i:=0) (ph (by decide+kernel)) rfl (ip rfl) (pj rfl)),λ_ _ _ _ _=>o8,λ_ _ _ _ _=>(dR (by exact hu) (cx (i:=1) (hN:=rfl) (hv:=dW rfl)) (cx (i:=0) (hN:=rfl) (hv:=d3 rfl)))⟩)))))))
theorem jM:bY ["_law_script","_law_k","_law_cell","_law_v"] ["_law_script","_law_k"] (av cf):=qK
theorem aD(T:Txt Pm mg):df P w (Hd.K Pm) mg base CX0 1 T.i5 T.gp ["_law_script","_law_k"] (spD (Hd.K Pm) 2 ah):=by
 refine jl T.aH jM rfl λcdv A outer s H E hr=> ?_
 have sc:=jM
 have hu:=kK hr
 have hu20:=fi hr
 refine ai 0 _ λv0=>ai 1 _ λv1=>ai 2 _ λv2=>ai 3 _ λv3=>aW 2 "_law_cell" λl2=>aW 3 "_law_v" λl3=>aJ "len" λg_len=> ?_
 exact(ak (bI (i:=2) sc.nd rfl l2 af)
 (ak (cX (cZ vU rR (cp (bQ.or br) bw g_len T.gD dh (a0 (v0 _) ab)) af (cL _))
  (aR (bI (i:=2) sc.nd rfl l2 (dR hu (v0 _) (bU (v1 _) (cp (bQ.or br) bw g_len T.gD dh (a0 (v0 _) ab))))))
  bV)
 (ak (bI (i:=3) sc.nd rfl l3 (bU (bq (bq (g9 (bU (v2 _) af) af) (g9 (g9 (v1 _) (v1 _)) af)) af) af))
 (aR (bK (bU (g9 (v3 _) (v3 _)) af))))))
theorem l9:bY ["_law_script","_law_k","_law_hand"] ["_law_script","_law_k"] (av cI):=qK
theorem ib(T:Txt Pm mg):df P w (Hd.K Pm) mg base CX0 2 T.j9 T.i7 ["_law_script","_law_k"] (spD (Hd.K Pm) 2 cB):=by
 refine jl T.gq l9 rfl λcdv A outer s H E hr=> ?_
 have sc:=l9
 have hu:=kK hr
 have hu20:=fi hr
 refine ai 0 _ λv0=>ai 1 _ λv1=>ai 2 _ λv2=>aW 2 "_law_hand" λl2=>aJ "_law_mixed" λaI=> ?_
 exact(ak (bI (i:=2) sc.nd rfl l2 (dR hu (k8 (a0 gQ (a0 gQ (a0 gQ (a0 gQ ab))))) (bU (aw (aD T) (hr.mono (by decide)) aI T.aK T.aH.kp T.ay b9 (a0 (v0 _) (a0 (v1 _) ab)) (a7 (a7 ax))) af)))
 (aR (bK (mf (a0 (v2 _) (a0 (bq af (bU (aw (aD T) (hr.mono (by decide)) aI T.aK T.aH.kp T.ay b9 (a0 (v0 _) (a0 (bq (v1 _) af) ab)) (a7 (a7 ax))) af)) ab))))))
theorem ft:bY ["_law_script","_law_k","_law_orders","_law_guests","_law_hours","_law_kind","_law_hour","_law_amount"] ["_law_script","_law_k","_law_orders","_law_guests","_law_hours"] (av b6):=qK
theorem jN(T:Txt Pm mg):df P w (Hd.K Pm) mg base CX0 3 T.d5 T.cV ["_law_script","_law_k","_law_orders","_law_guests","_law_hours"] (spD (Hd.K Pm) 5 c6):=by
 refine jl T.fR ft rfl λcdv A outer s H E hr=> ?_
 have sc:=ft
 have hu:=kK hr
 have hu20:=fi hr
 refine ai 0 _ λv0=>ai 1 _ λv1=>ai 2 _ λv2=>ai 3 _ λv3=>ai 4 _ λv4=>ai 5 _ λv5=>ai 6 _ λv6=>ai 7 _ λv7=>aW 5 "_law_kind" λl5=>aW 6 "_law_hour" λl6=>aW 7 "_law_amount" λl7=>aJ "_law_mark" λgu=>aJ "_law_mixed" λaI=> ?_
 exact(ak (bI (i:=5) sc.nd rfl l5 (bU (aw (aD T) (hr.mono (by decide)) aI T.aK T.aH.kp T.ay b9 (a0 (v0 _) (a0 (v1 _) ab)) (a7 (a7 ax))) af))
 (ak (bI (i:=6) sc.nd rfl l6 (g9 (v4 _) (bU (aw (aD T) (hr.mono (by decide)) aI T.aK T.aH.kp T.ay b9 (a0 (v0 _) (a0 (bq (v1 _) af) ab)) (a7 (a7 ax))) af)))
 (ak (bI (i:=7) sc.nd rfl l7 (Dr (bU (aw (aD T) (hr.mono (by decide)) aI T.aK T.aH.kp T.ay b9 (a0 (v0 _) (a0 (bq (v1 _) af) ab)) (a7 (a7 ax))) af) af))
 (ak (cX (cZ (mw hu20) mz (bU (aw (aD T) (hr.mono (by decide)) aI T.aK T.aH.kp T.ay b9 (a0 (v0 _) (a0 (bq (v1 _) af) ab)) (a7 (a7 ax))) af) af (cL _))
  (aR (bI (i:=7) sc.nd rfl l7 (g9 (g9 (v7 _) af) (Ds af af))))
  bV)
 (ak (cX (cZ (mw hu20) mz (v5 _) af (cL _))
  (aR (bK (mf (a0 gQ (a0 (bU (aw (aD T) (hr.mono (by decide)) aI T.aK T.aH.kp T.ay b9 (a0 (v0 _) (a0 (bq (v1 _) af) ab)) (a7 (a7 ax))) (v3 _)) (a0 (v6 _) (a0 (bq af (bU (aw (aD T) (hr.mono (by decide)) aI T.aK T.aH.kp T.ay b9 (a0 (v0 _) (a0 (bq (v1 _) af) ab)) (a7 (a7 ax))) af)) ab)))))))
  bV)
 (ak (cX (cZ (mw hu20) mz (v5 _) af (cL _))
  (aR (bK (mf (a0 gQ (a0 (aw (ib T) (hr.mono (by decide)) gu T.ja T.gq.kp T.d4 b9 (a0 (v0 _) (a0 (bq (v1 _) af) ab)) (a7 (a7 ax))) ab)))))
  bV)
 (ak (cX (cZ Cj wt (v5 _) af (cL _))
  (aR (bK (mf (a0 gQ (a0 (aw (ib T) (hr.mono (by decide)) gu T.ja T.gq.kp T.d4 b9 (a0 (v0 _) (a0 (bq (v1 _) af) ab)) (a7 (a7 ax))) (a0 (v7 _) ab))))))
  bV)
 (aR (bK (mf (a0 gQ (a0 (bU (aw (aD T) (hr.mono (by decide)) aI T.aK T.aH.kp T.ay b9 (a0 (v0 _) (a0 (bq (v1 _) af) ab)) (a7 (a7 ax))) (v2 _)) (a0 (v6 _) (a0 (v7 _) ab))))))))))))))
theorem ic:bY ["_law_script","_law_many","_law_orders","_law_guests","_law_hours","_law_deeds","_law_j","_law_mark_here"] ["_law_script","_law_many","_law_orders","_law_guests","_law_hours"] (av bL):=qK
theorem nB(T:Txt Pm mg):df P w (Hd.K Pm) mg base CX0 4 T.fE T.f7 ["_law_script","_law_many","_law_orders","_law_guests","_law_hours"] (spD (Hd.K Pm) 5 d7):=by
 refine jl T.iL ic rfl λcdv A outer s H E hr=> ?_
 have sc:=ic
 have hu:=kK hr
 have hu20:=fi hr
 refine ai 0 _ λv0=>ai 1 _ λv1=>ai 2 _ λv2=>ai 3 _ λv3=>ai 4 _ λv4=>ai 5 _ λv5=>ai 6 _ λv6=>ai 7 _ λv7=>aW 5 "_law_deeds" λl5=>aW 6 "_law_j" λl6=>aW 7 "_law_mark_here" λl7=>aJ "_law_entry_deed" λkD=>aJ "_law_mark" λgu=>aJ "list" λg_list=>aJ "range" λg_range=> ?_
 exact(ak (bI (i:=5) sc.nd rfl l5 qp)
 (ak (p8 (l:=none) Gek rfl (dC g_range T.iD (v1 _)) (fh (i:=6) sc.nd rfl l6)
  (ak (bI (i:=7) sc.nd rfl l7 (aw (ib T) (hr.mono (by decide)) gu T.ja T.gq.kp T.d4 b9 (a0 (v0 _) (a0 (bq af (g9 af (v6 _))) ab)) (a7 (a7 ax))))
 (aR (cX (cZ (tX hu20) tY (v7 _) (v5 _) (by with_unfolding_all rfl))
  (aR (wU (i:=5) hu rfl (by first|exact Or.inl rfl|exact Or.inr (Or.inl rfl)|exact Or.inr (Or.inr rfl)) (v7 _) (aw (jN T) (hr.mono (by decide)) kD T.kB T.fR.kp T.ba b9 (a0 (v0 _) (a0 (bq af (g9 af (v6 _))) (a0 (v2 _) (a0 (v3 _) (a0 (v4 _) ab))))) (a7 (a7 (a7 (a7 (a7 ax))))))))
  bV))))
 (aR (bK (vb rfl g_list T.jb (v5 _))))))
theorem gE:bY ["_law_script","_law_k","_law_some","_law_row","_law_j"] ["_law_script","_law_k","_law_some"] (av bx):=qK
theorem gF(T:Txt Pm mg):df P w (Hd.K Pm) mg base CX0 2 T.f9 T.dm ["_law_script","_law_k","_law_some"] (spD (Hd.K Pm) 3 aZ):=by
 refine jl T.fb gE rfl λcdv A outer s H E hr=> ?_
 have sc:=gE
 have hu:=kK hr
 have hu20:=fi hr
 refine ai 0 _ λv0=>ai 1 _ λv1=>ai 2 _ λv2=>ai 3 _ λv3=>ai 4 _ λv4=>aW 3 "_law_row" λl3=>p9 3 "_law_row" λw3=>aW 4 "_law_j" λl4=>aJ "_law_mixed" λaI=>aJ "len" λg_len=>aJ "list" λg_list=>aJ "range" λg_range=> ?_
 exact(ak (bI (i:=3) sc.nd rfl l3 (mh fU iV g_list T.jb gc (a0 (v2 _) ab)))
 (ak (p8 (l:=none) Gek rfl (dC g_range T.iD (cp (bQ.or br) bw g_len T.gD dh (a0 (v3 _) ab))) (fh (i:=4) sc.nd rfl l4)
  (aR (vc (i:=3) rfl w3 (bU (aw (aD T) (hr.mono (by decide)) aI T.aK T.aH.kp T.ay b9 (a0 (v0 _) (a0 (bq (v1 _) (v4 _)) ab)) (a7 (a7 ax))) (cp (bQ.or br) bw g_len T.gD dh (a0 (v3 _) ab))))))
 (ak (p8 (l:=none) Gek rfl (dC g_range T.iD (Bu (cp (bQ.or br) bw g_len T.gD dh (a0 (v3 _) ab)) af)) (fh (i:=4) sc.nd rfl l4)
  (aR (o6 (i:=3) rfl w3 (dR hu (v3 _) (bU (aw (aD T) (hr.mono (by decide)) aI T.aK T.aH.kp T.ay b9 (a0 (v0 _) (a0 (bq (bq (v1 _) af) (v4 _)) ab)) (a7 (a7 ax))) (cp (bQ.or br) bw g_len T.gD dh (a0 (v3 _) ab)))))))
 (aR (bK (v3 _))))))
theorem gr:bY ["_law_found","_law_due"] ["_law_found","_law_due"] (av cg):=qK
theorem iN(T:Txt Pm mg):∀n:Nat,df P w (Hd.K Pm) mg base CX0 (0+n+1) T.fq T.dB ["_law_found","_law_due"] (spD (Hd.K Pm) 2 (ae n))
 |0=>jl T.bH gr rfl λcdv A outer s H E hr=>uY
 |n+1=>by
   refine jl T.bH gr rfl λcdv A outer s H E hr=> ?_
   have sc:=gr
   have hu:=kK hr
   have hu20:=fi hr
   refine ai 0 _ λv0=>ai 1 _ λv1=>aJ "all" λg_all=>aJ "bool" λg_bool=>aJ "int" λg_int=>aJ "isinstance" λg_isinstance=>aJ "len" λg_len=>aJ "list" λg_list=>aJ "range" λg_range=>aJ "str" λg_str=>aJ "tuple" λg_tuple=> ?_
   exact(ak (cX (Cv (dQ (fC kit_tuple (v1 _) g_isinstance T.aX g_tuple T.pS mC)) (wu (dQ (fC mD (v1 _) g_isinstance T.aX g_list T.jb gc)))).pt
    (ak (cX (wx (dQ (fC kit_tuple (v1 _) g_isinstance T.aX g_tuple T.pS mC)) (tD (jY (dQ (fC kit_tuple (v0 _) g_isinstance T.aX g_tuple T.pS mC))))).pt
    (aR (bK nX))
    bV)
   (ak (cX (wx (dQ (fC mD (v1 _) g_isinstance T.aX g_list T.jb gc)) (tD (jY (dQ (fC mD (v0 _) g_isinstance T.aX g_list T.jb gc))))).pt
    (aR (bK nX))
    bV)
   (ak (cX (cZ (wI hu20) wJ (cp (bQ.or br) bw g_len T.gD dh (a0 (v0 _) ab)) (cp (bQ.or br) bw g_len T.gD dh (a0 (v1 _) ab)) (cL _))
    (aR (bK nX))
    bV)
   (aR (bK (cp (uU (by rfl)) uV g_all T.Gp Dw (a0 (tM (N:=["_law_k","_law_found","_law_due"]) (l:=none) rfl (by exact⟨rfl,rfl,rfl,rfl,rfl,by decide,rfl,rfl⟩) (dC g_range T.iD (cp (bQ.or br) bw g_len T.gD dh (a0 (v1 _) ab))) jn ⟨λ_ _ _ _ _=>(fh (i:=0) (ph (by decide+kernel)) rfl (ip rfl) (pj rfl)),λ_ _ _ _ _=>o8,λ_ _ _ _ _=>(aw (iN T n) (hr.mono (by omega)) (rT rfl) T.bX T.bH.kp T.aF b9 (a0 (dR (by exact hu) (cx (i:=1) (hN:=rfl) (hv:=dW rfl)) (cx (i:=0) (hN:=rfl) (hv:=d3 rfl))) (a0 (dR (by exact hu) (cx (i:=2) (hN:=rfl) (hv:=dW rfl)) (cx (i:=0) (hN:=rfl) (hv:=d3 rfl))) ab)) (a7 (a7 ax)))⟩) ab)))))))
    bV)
   (ak (cX (cZ vV tx (v1 _) wm (cL _))
    (aR (bK (rQ vV tx (v0 _) wm (cL _))))
    bV)
   (ak (cX (dQ (fC tJ (v1 _) g_isinstance T.aX g_str T.CB wK))
    (aR (bK (p5 (fC tJ (v0 _) g_isinstance T.aX g_str T.CB wK) (rS (rQ (mw hu20) mz (v0 _) (v1 _) (cL _))))))
    bV)
   (aR (bK (p5 (fC BC (v0 _) g_isinstance T.aX g_int T.Gq Dx) (p5 (Dt (fC wL (v0 _) g_isinstance T.aX g_bool T.En BB)) (rS (rQ (mw hu20) mz (v0 _) (v1 _) (cL _))))))))))
theorem cj(T:Txt Pm mg):df P w (Hd.K Pm) mg base CX0 8 T.fq T.dB ["_law_found","_law_due"] (spD (Hd.K Pm) 2 aV):=iN T 7
theorem AR:bY ["_law_script","_law_entries_here","_law_ones","_law_others","_law_handed","_law_due","_law_plain","_law_told"] ["_law_script"] (av kz):=qK
theorem Et(T:Txt Pm mg):df P w (Hd.K Pm) mg base CX0 9 T.AM T.sZ ["_law_script"] (spD (Hd.K Pm) 1 nh):=by
 refine jl T.Gm AR rfl λcdv A outer s H E hr=> ?_
 have sc:=AR
 have hu:=kK hr
 have hu20:=fi hr
 refine ai 0 _ λv0=>ai 1 _ λv1=>ai 2 _ λv2=>ai 3 _ λv3=>ai 4 _ λv4=>ai 5 _ λv5=>ai 6 _ λv6=>ai 7 _ λv7=>aW 1 "_law_entries_here" λl1=>aW 2 "_law_ones" λl2=>aW 3 "_law_others" λl3=>aW 4 "_law_handed" λl4=>aW 5 "_law_due" λl5=>aW 6 "_law_plain" λl6=>aW 7 "_law_told" λl7=>p9 7 "_law_told" λw7=>aJ "_law_alike" λcJ=>aJ "_law_entries" λnL=>aJ "_law_mixed" λaI=>aJ "_law_shuffled" λig=>aJ "len" λg_len=>aJ "list" λg_list=>aJ "merged" λg_merged=>aJ "range" λg_range=>aJ "set" λg_set=>aJ "sorted" λg_sorted=> ?_
 exact(ak (bI (i:=1) sc.nd rfl l1 (aw (nB T) (hr.mono (by decide)) nL T.nJ T.iL.kp T.bT b9 (a0 (v0 _) (a0 (bq af (bU (aw (aD T) (hr.mono (by decide)) aI T.aK T.aH.kp T.ay b9 (a0 (v0 _) (a0 af ab)) (a7 (a7 ax))) af)) (a0 af (a0 af (a0 af ab))))) (a7 (a7 (a7 (a7 (a7 ax)))))))
 (ak (tN (i:=2) (N:=["_law_j","_law_script","_law_entries_here"]) sc.nd rfl (by first|exact Or.inl rfl|exact Or.inr rfl) (l:=none) rfl (by exact⟨rfl,rfl,rfl,rfl,rfl,by decide,rfl,rfl⟩) (dC g_range T.iD (cp (bQ.or br) bw g_len T.gD dh (a0 (v1 _) ab))) jn ⟨λ_ _ _ _ _=>(fh (i:=0) (ph (by decide+kernel)) rfl (ip rfl) (pj rfl)),λ_ _ _ _ _=>(o9 (cZ Cj wt (bU (aw (aD T) (hr.mono (by decide)) (rT rfl) T.aK T.aH.kp T.ay b9 (a0 (cx (i:=1) (hN:=rfl) (hv:=dW rfl)) (a0 (bq af (cx (i:=0) (hN:=rfl) (hv:=d3 rfl))) ab)) (a7 (a7 ax))) af) af (cL _))),λ_ _ _ _ _=>(dR (by exact hu) (cx (i:=2) (hN:=rfl) (hv:=dW rfl)) (cx (i:=0) (hN:=rfl) (hv:=d3 rfl)))⟩)
 (ak (tN (i:=3) (N:=["_law_j","_law_script","_law_entries_here"]) sc.nd rfl (by first|exact Or.inl rfl|exact Or.inr rfl) (l:=none) rfl (by exact⟨rfl,rfl,rfl,rfl,rfl,by decide,rfl,rfl⟩) (dC g_range T.iD (cp (bQ.or br) bw g_len T.gD dh (a0 (v1 _) ab))) jn ⟨λ_ _ _ _ _=>(fh (i:=0) (ph (by decide+kernel)) rfl (ip rfl) (pj rfl)),λ_ _ _ _ _=>(o9 (cZ vU rR (bU (aw (aD T) (hr.mono (by decide)) (rT rfl) T.aK T.aH.kp T.ay b9 (a0 (cx (i:=1) (hN:=rfl) (hv:=dW rfl)) (a0 (bq af (cx (i:=0) (hN:=rfl) (hv:=d3 rfl))) ab)) (a7 (a7 ax))) af) af (cL _))),λ_ _ _ _ _=>(dR (by exact hu) (cx (i:=2) (hN:=rfl) (hv:=dW rfl)) (cx (i:=0) (hN:=rfl) (hv:=d3 rfl)))⟩)
 (ak (bI (i:=2) sc.nd rfl l2 (aw (gF T) (hr.mono (by decide)) ig T.i9 T.fb.kp T.bh b9 (a0 (v0 _) (a0 af (a0 (v2 _) ab))) (a7 (a7 (a7 ax)))))
 (ak (bI (i:=3) sc.nd rfl l3 (aw (gF T) (hr.mono (by decide)) ig T.i9 T.fb.kp T.bh b9 (a0 (v0 _) (a0 af (a0 (v3 _) ab))) (a7 (a7 (a7 ax)))))
 (ak (bI (i:=4) sc.nd rfl l4 (k8 (a0 (mh fU iV g_list T.jb gc (a0 (v2 _) ab)) (a0 (mh fU iV g_list T.jb gc (a0 (v3 _) ab)) ab))))
 (ak (bI (i:=5) sc.nd rfl l5 (cp (jt hu20) iJ g_sorted T.jL k9 (a0 (v1 _) ab)))
 (ak (cX (Cv (jY (dQ (aw (cj T) (hr.mono (by decide)) cJ T.bX T.bH.kp T.aF b9 (a0 (aw (iE T) (hr.mono (by decide)) g_merged T.jG T.i4.kp T.cT b9 (a0 (dR hu (v4 _) af) (a0 (dR hu (v4 _) af) ab)) (a7 (a7 ax))) (a0 (v5 _) ab)) (a7 (a7 ax))))) (wu (jY (dQ (aw (cj T) (hr.mono (by decide)) cJ T.bX T.bH.kp T.aF b9 (a0 (aw (iE T) (hr.mono (by decide)) g_merged T.jG T.i4.kp T.cT b9 (a0 (dR hu (v4 _) af) (a0 (dR hu (v4 _) af) ab)) (a7 (a7 ax))) (a0 (v5 _) ab)) (a7 (a7 ax))))))).pt
  (aR (bK nX))
  bV)
 (ak (cX (jY (dQ (aw (cj T) (hr.mono (by decide)) cJ T.bX T.bH.kp T.aF b9 (a0 (aw (iE T) (hr.mono (by decide)) g_merged T.jG T.i4.kp T.cT b9 (a0 (k8 ab) (a0 (dR hu (v4 _) af) ab)) (a7 (a7 ax))) (a0 (qY rfl hu20 g_sorted T.jL g_set T.Gr (v2 _)) ab)) (a7 (a7 ax)))))
  (aR (bK nX))
  bV)
 (ak (bI (i:=6) sc.nd rfl l6 (cp (jt hu20) iJ g_sorted T.jL k9 (a0 (v1 _) ab)))
 (ak (bI (i:=7) sc.nd rfl l7 (aw (iE T) (hr.mono (by decide)) g_merged T.jG T.i4.kp T.cT b9 (a0 (k8 ab) (a0 (v6 _) ab)) (a7 (a7 ax))))
 (ak (cX (jY (dQ (aw (cj T) (hr.mono (by decide)) cJ T.bX T.bH.kp T.aF b9 (a0 (v7 _) (a0 (v5 _) ab)) (a7 (a7 ax)))))
  (aR (bK nX))
  bV)
 (ak (wG (i:=7) rfl w7)
 (aR (Ed (bK (p5 (qh (aw (cj T) (hr.mono (by decide)) cJ T.bX T.bH.kp T.aF b9 (a0 (v6 _) (a0 (v5 _) ab)) (a7 (a7 ax)))) (rS (qh (aw (cj T) (hr.mono (by decide)) cJ T.bX T.bH.kp T.aF b9 (a0 (v4 _) (a0 (k8 (a0 (v2 _) (a0 (v3 _) ab))) ab)) (a7 (a7 ax))))))))))))))))))))))
end
theorem all_mk{l:PySem.W.OpenLaw}{w:World}{h:Heap}{mg:Str→Option Value}{fa:Addr}(X:(Hd.K w.params).In h)(G:h.Ns mainGlobals mg)(hfa:mg "law"=some (.ref fa)):
  ∃fd:FuncData,(∀(s:Shared) (v:Value),BindsTo s fd ⟨[v],[]⟩ [("_law_script",v)])∧∀base:Heap,(Hd.K w.params).In base→base.Ns mainGlobals mg→df l.prog w (Hd.K w.params) mg base CX0 9 fa fd ["_law_script"] (spD (Hd.K w.params) 1 nh):=by
 have T:Txt w.params mg:=⟨h,X,G⟩
 have e:=hfa.symm.trans T.Gn
 cases e
 exact⟨_,λs v=> .of_eq rfl,λbase _ _=>Et T⟩
theorem walk{l:PySem.W.OpenLaw}{q:Program}{loose:List Str}{XP:(Str→Option Value)→Heap→Prop}{YP:World→Heap→Prop}{d:DefRec}{K:Params→PySem.W.Frag}(hn:l.most=some 63)(hdf:d.params.defaults=[])
  (hY:∀(w:World) (h:Heap),YP w h→(K w.params).In h)(true_:∀ns:List Int,ns.length≤63→nh [.scr ns]=some (.bl true))
  (F:∀(w:World) (mg:Str→Option Value) (fa:Addr) (h:Heap),(K w.params).In h→h.Ns mainGlobals mg→mg d.name=some (.ref fa)→
   ∃fd:FuncData,(∀(s:Shared) (u:Value),BindsTo s fd ⟨[u],[]⟩ [("_law_script",u)])∧∀base:Heap,(K w.params).In base→base.Ns mainGlobals mg→df l.prog w (K w.params) mg base CX0 9 fa fd ["_law_script"] (spD (K w.params) 1 nh)):
  PySem.W.WalkO q loose XP YP l.row.toRowW d [] (λf vs=>PySem.call f vs):=
 L2.Bi (n:=63) (k:=9) (x:="_law_script") (CX:=λ_=>CX0) (sp:=λw=>spD (K w.params) 1 nh) hn (by decide) hdf ⟨rfl,by decide,by decide⟩ hY F (λ_ _ a ns hl hO hS=>Dv hO hS (true_ ns hl)) λ_ _ _ _ _ z=>z
end Der
open PySem PySem.W PyProof.Rows
set_option maxRecDepth 100000 in
set_option maxHeartbeats 0 in
theorem PySem.Challenge.cw_dosehouse_k70_logs_merged_holds : PySem.Challenge.rw_dosehouse_k70_logs_merged.Holds := by
 refine holds_law (by kernel_rfl) λsaid=> ?_
 refine holds_open (q:=Hd.view) (loose:=[]) (Xt:=Hd.xt) (XP:=XL Hd.view []) (Yf:=Hook.obs Hd.hook) (Ya:=Hook.val Hd.hook) (YP:=Hook.says Hd.hook) (N:=1534) Hd.left (Hook.of Hd.hook) (Hook.keeps Hd.hook) (λs e=>xl_of s (Bool.and_eq_true_iff.mp e).1) XL.keeps (by rfl) (by rfl) (by rfl) (λs e=>recFacts_of (Bool.and_eq_true_iff.mp e).2) (by rfl) said (by decide+kernel) ⟨rfl,rfl,rfl,rfl,rfl,by decide+kernel⟩ ?hw ?hc
 case hw=>w_witness2
 case hc=>exact Der.walk (l:=PySem.Challenge.rw_dosehouse_k70_logs_merged) (K:=Hd.K) rfl rfl (λw h Y=>PySem.W.kIn_of Y) Maths.AL λw mg fa h KX G hmg=>Der.all_mk KX G hmg
