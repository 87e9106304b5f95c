import PyProof.Rows.All
import Wide.All
import OpenK.AllK
import Wide.FinOn
import PySem.Challenge.RW_dosehouse_k42_faults_of_caps
set_option Elab.async false
set_option linter.all false
set_option maxRecDepth 100000
set_option maxHeartbeats 1000000
def Gaa:=@PySem.wpAny_bind
def Gab:=@List.getElem?_eq_getElem
def Gac:=@List.getElem?_set_ne
def Gad:=@PySem.wpAny_pure
def Gae:=@List.getElem?_eq_some_iff
def Gaf:=@List.length_map
def Gag:=@if_neg
def Gah:=@PySem.Heap.get?_push_of_some
def Gai:=@if_pos
def Gaj:=@List.mem_cons_of_mem
def Gak:=@List.getElem?_map
def Gal:=@PyProof.Rows.wpS_bind
def Gam:=@Option.map_eq_some_iff
def Gan:=@List.size_toArray
def Gao:=@List.mem_cons_self
def Gap:=@List.map_cons
def Gaq:=@PyProof.Rows.wpS_pure
def Gar:=@Nat.le_refl
def Gas:=@PySem.Heap.lt_size
def Gat:=@List.all_eq_true
def Gau:=@Bool.and_eq_true
def Gav:=@Bool.false_ne_true
def Gaw:=@Bool.false_eq_true
def Gax:=@List.mem_append
def Gay:=@List.mem_cons
def Gaz:=@PySem.Heap.get?_push_size
def GaA:=@List.length_append
def GaB:=@List.append_assoc
def GaC:=@List.length_cons
def GaD:=@List.getElem_mem
def GaE:=@of_decide_eq_true
def GaF:=@List.mem_map
def GaG:=@Int.eq_ofNat_of_zero_le
def GaH:=@PySem.PassesOwn.never
def GaI:=@Nat.ne_of_lt
def GaJ:=@List.map_congr_left
def GaK:=@List.mem_of_getElem?
def GaL:=@Int.toNat_natCast
def GaM:=@List.getElem?_append_right
def GaN:=@decide_eq_true
def GaO:=@List.map_map
def GaP:=@List.map_append
def GaQ:=@List.getElem?_set_self
def GaR:=@if_false
def GaS:=@decide_eq_false
def GaT:=@Nat.lt_of_lt_of_le
def GaU:=@List.set_cons_succ
def GaV:=@List.set_cons_zero
def GaW:=@PySem.Heap.get?_update_other
def GaX:=@List.getElem?_append_left
def GaY:=@Ne.symm
def GaZ:=@List.getElem?_take_of_lt
def Gba:=@PySem.wpAny_newObj_type
def Gbb:=@List.mem_append_right
def Gbc:=@List.take_append_drop
def Gbd:=@Bool.or_eq_true
def Gbe:=@List.lookup_cons
def Gbf:=@PyProof.Rows.wpS_forRange
def Gbg:=@Array.getElem?_eq_getElem
def Gbh:=@List.getElem?_drop
def Gbi:=@if_true
def Gbj:=@PySem.wpAny_call_entry
def Gbk:=@List.filter_cons
def Gbl:=@PySem.Heap.get?_update_self
def Gbm:=@PySem.wpAny_callSpecial?_slot
def Gbn:=@List.append_nil
def Gbo:=@List.mem_singleton
def Gbp:=@List.mem_of_mem_take
def Gbq:=@List.Perm.append_right
def Gbr:=@List.getElem?_eq_none
def Gbs:=@List.perm_append_comm
def Gbt:=@PySem.W.kia_one
def Gbu:=@PyProof.Rows.wpS_mono
def Gbv:=@List.mem_of_mem_drop
def Gbw:=@Nat.lt_irrefl
def Gbx:=@Nat.le_trans
def Gby:=@PySem.wpAny_field
def Gbz:=@List.take_of_length_le
def GbA:=@PySem.Heap.SameBut.update
def GbB:=@List.find?_cons
def GbC:=@List.drop_eq_getElem_cons
def GbD:=@PySem.F.slot_dict_itemiterator_next
def GbE:=@List.pairwise_cons
def GbF:=@List.all_map
def GbG:=@List.mem_flatMap
def GbH:=@Nat.zero_le
def GbI:=@List.all_cons
def GbJ:=@List.mem_range
def GbK:=@PySem.F.slot_dict_keyiterator_next
def GbL:=@List.drop_zero
def GbM:=@PySem.wpAny_truthy_bool
def GbN:=@List.foldl_cons
def GbO:=@Array.length_toList
def GbP:=@PySem.sizeLine_eq
def GbQ:=@PySem.wpAny_holding
def GbR:=@PySem.wpAny_rule
def GbS:=@PyProof.Rows.wpS_modify
def GbT:=@List.drop_length
def GbU:=@List.mem_reverse
def GbV:=@PySem.wpAny_setField_rec
def GbW:=@List.mem_iff_getElem?
def GbX:=@List.drop_drop
def GbY:=@List.Perm.append_left
def GbZ:=@Int.le_refl
def Gca:=@List.mem_filter
def Gcb:=@PySem.wpAny_mono
def Gcc:=@Nat.ne_of_gt
def Gce:=@List.length_nil
def Gcf:=@PySem.wpAny_typeNameOfWhole_itemiter
def Gcg:=@PySem.wpAny_dictEntries
def Gch:=@List.nodup_append
def Gci:=@List.flatMap_cons
def Gcj:=@PySem.wpAny_typeNameOfWhole_keyiter
def Gck:=@List.pairwise_singleton
def Gcl:=@List.length_drop
def Gcm:=@List.getElem_map
def Gcn:=@PySem.F.plain_max_loop
def Gco:=@PyProof.Rows.callWith_type1
def Gcp:=@Array.getD_eq_getD_getElem?
def Gcq:=@PySem.wpAny_passesOwn
def Gcr:=@List.nodup_cons
def Gcs:=@List.cons.injEq
def Gct:=@Option.map_some
def Gcu:=@PySem.F.slot_tuple_iterator_next
def Gcv:=@Option.some.injEq
def Gcw:=@List.mem_append_left
def Gcx:=@List.pairwise_iff_getElem
def Gcy:=@PySem.wpAny_typeNameOf_itemiter
def Gcz:=@List.map_id
def GcA:=@List.take_take
def GcB:=@Array.toList_inj
def GcC:=@List.not_mem_nil
def GcD:=@PySem.wpAny_typeNameOf_keyiter
def GcE:=@PyProof.Rows.slot_tuple_getitem
def GcF:=@List.getElem?_replicate
def GcG:=@PySem.F.plainAttrs_list
def GcH:=@PySem.Calls.spliced_cons
def GcI:=@PySem.AutoSeq1.wpAny_loadPart'
def GcJ:=@PySem.wpAny_updateSeq
def GcK:=@PySem.wpAny_dictEpoch
def GcL:=@Nat.min_eq_left
def GcM:=@List.filter_append
def GcN:=@PySem.Calls.callWith_builtin
def GcO:=@PySem.wpAny_seqItems
def GcP:=@PyProof.Rows.wpS_get
def GcQ:=@List.drop_take
def GcR:=@List.length_filter_le
def GcS:=@List.length_take
def GcT:=@beq_iff_eq
def GcU:=@PySem.wpAny_attempt
def GcV:=@Function.comp_apply
def GcW:=@List.length_set
def GcX:=@PySem.codeAny_builtin
def GcY:=@PySem.wpAny_Call_Name_kw
def GcZ:=@PySem.tupleKind_room_in1
def Gda:=@Nat.lt_of_le_of_lt
def Gdb:=@PySem.wpAny_pyIter_tuple
def Gdc:=@PySem.Obj.data_mapFields
def Gdd:=@Nat.zero_add
def Gde:=@PySem.wpAny_setField
def Gdf:=@PySem.wpAny_tryCatch
def Gdg:=@PySem.F.slot_dict_itemiterator_iter
def Gdh:=@Int.mul_nonneg
def Gdi:=@PySem.F.plainAttrs_dict
def Gdj:=@List.getElem?_cons_succ
def Gdk:=@List.ext_getElem?
def Gdl:=@Nat.lt_succ_of_lt
def Gdm:=@PySem.wpAny_pyIter_enum
def Gdn:=@PySem.atKey_none_of_get
def Gdo:=@List.pairwise_map
def Gdp:=@Nat.le_succ
def Gdq:=@PySem.wpAny_letGo
def Gdr:=@PySem.wpAny_isOneOf_itemiter
def Gds:=@List.findIdx?_eq_some_iff_getElem
def Gdt:=@List.any_cons
def Gdu:=@List.Perm.map
def Gdv:=@PySem.plainId_quiet
def Gdw:=@Bool.not_true
def Gdx:=@List.take_succ_eq_append_getElem
def Gdy:=@PySem.wpAny_isInstance
def Gdz:=@List.length_replicate
def GdA:=@PySem.F.slot_dict_get
def GdB:=@PySem.wpAny_notOrdered_dict
def GdC:=@Nat.le_of_lt
def GdD:=@PySem.wpAny_execs_nil
def GdE:=@PySem.Calls.evalArgs_plain
def GdF:=@List.map_nil
def GdG:=@PySem.Around.under_plainId
def GdH:=@List.filterMap_cons
def GdI:=@List.getElem_of_mem
def GdJ:=@Bool.and_false
def GdK:=@PySem.Heap.size_push
def GdL:=@PySem.wpAny_fieldsOf
def GdM:=@Int.emod_lt_of_pos
def GdN:=@List.map_drop
def GdO:=@Nat.add_assoc
def GdP:=@List.foldl_append
def GdQ:=@List.getElem?_set
def GdR:=@Array.toList_push
def GdS:=@List.findIdx?_map
def GdT:=@Nat.min_self
def GdU:=@Nat.succ_mul
namespace L2
open PySem PySem.Spec PyProof.Rows
noncomputable abbrev Key:=Sum Int Str
noncomputable def tJ:Key→Value→Bool
 | .inl k,v=>Value.isInt k v
 | .inr x,v=>Value.isStrOf x v
noncomputable def NN(w:World):Key→Int
 | .inl k=>hashInt k
 | .inr x=>hashStr w x
theorem cL:∀{k:Key} {v:Value},tJ k v=true→(∃i t,k=Sum.inl i∧v=Value.int i t)∨(∃x t,k=Sum.inr x∧v=Value.str x t)
 | .inl i,v,h=>by
  obtain⟨t,e⟩:=Value.isInt_shape (k:=i) (v:=v) h;exact .inl ⟨i,t,rfl,e⟩
 | .inr x,v,h=>by
  obtain⟨t,e⟩:=Value.isStrOf_shape (x:=x) (v:=v) h;exact .inr ⟨x,t,rfl,e⟩
theorem Cz(i:Int)(t:Tok):tJ (.inl i) (.int i t)=true:=by simp[tJ,Value.isInt]
theorem CA(x:Str)(t:Tok):tJ (.inr x) (.str x t)=true:=by simp[tJ,Value.isStrOf]
theorem Jf(a b:Int):decide ((Sum.inl a:Key)=Sum.inl b)=(a==b):=by
 by_cases e:a=b
 ·subst e;simp
 ·have h:¬(Sum.inl a:Key)=Sum.inl b:=λq=>e (Sum.inl.inj q);rw[GaS h];exact(beq_eq_false_iff_ne.mpr e).symm
theorem Jg(a b:Str):decide ((Sum.inr a:Key)=Sum.inr b)=decide (a=b):=by
 by_cases e:a=b
 ·subst e;simp
 ·have h:¬(Sum.inr a:Key)=Sum.inr b:=λq=>e (Sum.inr.inj q);rw[GaS h,GaS e]
theorem Jh(a:Int)(b:Str):decide ((Sum.inl a:Key)=Sum.inr b)=false:=GaS (λq=>nomatch q)
theorem Ji(a:Str)(b:Int):decide ((Sum.inr a:Key)=Sum.inl b)=false:=GaS (λq=>nomatch q)
noncomputable def cC(prog:Program)(w:World):PySem.KeyKind prog w Key where
 is:=tJ
 hash:=NN w
 inj:=λv a b ha hb=>by
  rcases cL ha with⟨i,t,rfl,rfl⟩| ⟨x,t,rfl,rfl⟩
  ·rcases cL hb with⟨j,u,rfl,e⟩| ⟨y,u,rfl,e⟩
   ·injection e with e1 _;rw[e1]
   ·exact nomatch e
  ·rcases cL hb with⟨j,u,rfl,e⟩| ⟨y,u,rfl,e⟩
   ·exact nomatch e
   ·injection e with e1 _;rw[e1]
 byValue:=λk v h=>by
  rcases cL h with⟨i,t,rfl,rfl⟩| ⟨x,t,rfl,rfl⟩<;>rfl
 pyHash:=λhv h=>by
  rcases cL hv with⟨i,t,rfl,rfl⟩| ⟨x,t,rfl,rfl⟩
  ·exact wpAny_pyHash_int h
  ·exact wpAny_pyHash_str h
 eqBool:=λhu hv h=>by
  rcases cL hu with⟨i,t,rfl,rfl⟩| ⟨x,t,rfl,rfl⟩
  ·rcases cL hv with⟨j,u,rfl,rfl⟩| ⟨y,u,rfl,rfl⟩
   ·rw[Jf] at h;exact wpAny_eqBool_int h
   ·rw[Jh] at h;exact SeqAt.EqAt.int_str i t y u _ _ _ _ h
  ·rcases cL hv with⟨j,u,rfl,rfl⟩| ⟨y,u,rfl,rfl⟩
   ·rw[Ji] at h;exact SeqAt.EqAt.str_int x t j u _ _ _ _ h
   ·rw[Jg] at h;exact wpAny_eqBool_str h
 «strs» :=λk x t v h=>by
  rcases cL h with⟨i,u,rfl,e⟩| ⟨y,u,rfl,e⟩
  ·exact nomatch e
  ·injection e with e1 _
   subst e1;cases v<;>rfl
theorem vT(prog:Program)(w:World)(i:Int)(t:Tok):(cC prog w).is (.inl i) (.int i t)=true:=Cz i t
theorem vU(prog:Program)(w:World)(x:Str)(t:Tok):(cC prog w).is (.inr x) (.str x t)=true:=CA x t
inductive V where
 |non|bl (b:Bool)|int (i:Int)|str (x:Str)|byt (b:Array UInt8)|flt (b:UInt64)|ref (a:Addr)|ty (n:String)
 deriving DecidableEq
def RelV:V→Value→Prop
 | .non,u=>u=Value.none
 | .bl b,u=>u=Value.bool b
 | .int i,u=>∃t,u=Value.int i t
 | .str x,u=>∃t,u=Value.str x t
 | .byt b,u=>∃t,u=Value.bytes b t
 | .flt b,u=>∃t,u=Value.float b t
 | .ref a,u=>u=Value.ref a
 | .ty n,u=>u=Value.type n
abbrev Vals:List V→List Value→Prop:=Paired RelV
theorem Vals.length{xs:List V}{us:List Value}(r:Vals xs us):xs.length=us.length:=Paired.length r
theorem Vals.get:∀{xs:List V} {us:List Value} {i:Nat} {x:V},Vals xs us→xs[i]? =some x→∃u,us[i]? =some u∧RelV x u
 |_,_,_,_,.nil,e=>by simp at e
 |_,_,0,_,.cons r _,e=>by simp at e;subst e;exact⟨_,rfl,r⟩
 |_,_,i+1,x,.cons _ t,e=>by
  obtain⟨u,h1,h2⟩:=Vals.get (i:=i) (x:=x) t (by simpa using e);exact⟨u,by simpa using h1,h2⟩
theorem Vals.set{x:V}{u:Value}(r:RelV x u):∀{xs:List V} {us:List Value} (i:Nat),Vals xs us→Vals (xs.set i x) (us.set i u)
 |_,_,_,.nil=> .nil
 |_,_,0,.cons _ t=> .cons r t
 |_,_,i+1,.cons q t=> .cons q (Vals.set r i t)
theorem Vals.append:∀{xs ys:List V} {us ws:List Value},Vals xs us→Vals ys ws→Vals (xs++ys) (us++ws)
 |_,_,_,_,.nil,s=>s
 |_,_,_,_,.cons r t,s=> .cons r (Vals.append t s)
theorem Vals.take:∀{xs:List V} {us:List Value} (n:Nat),Vals xs us→Vals (xs.take n) (us.take n)
 |_,_,0,_=> .nil
 |_,_,_+1,.nil=> .nil
 |_,_,n+1,.cons r t=> .cons r (Vals.take n t)
theorem Vals.drop:∀{xs:List V} {us:List Value} (n:Nat),Vals xs us→Vals (xs.drop n) (us.drop n)
 |_,_,0,r=>r
 |_,_,_+1,.nil=> .nil
 |_,_,n+1,.cons _ t=>Vals.drop n t
def oZ:Option V→Option Value→Prop
 |some v,some u=>RelV v u
 |none,none=>True
 |_,_=>False
def KV{κ:Type}:List (κ×V)→List (κ×Value)→Prop:=Paired λ(p:κ×V) (q:κ×Value)=>p.1=q.1∧RelV p.2 q.2
noncomputable def kV:Key→V
 | .inl i=> .int i
 | .inr x=> .str x
inductive HO where
 |lst (xs:List V)
 |tup (xs:List V)
 |dK (kvs:List (Key×V))|dT (kvs:List (List Key×V))
 |set (S:Int→Bool) (n:Nat)
 |ins (C dx:Addr) (fs:List (Str×V))
 |own (x:Addr)
 |xd (fs:List (Str×V))
 |met (f x:Addr)
 |rng (lo hi:Int)
 |frz (o:Obj) (u:HO)
 |tbl (ps:Array Value)
 |ext (φ:Heap→Prop)
noncomputable abbrev Hp:=Addr→Option HO
noncomputable def upd(H:Hp)(a:Addr)(o:HO):Hp:=λb=>if b=a then some o else H b
theorem aM{H:Hp}{a:Addr}{o:HO}:upd H a o a=some o:=by unfold upd;rw[Gai rfl]
theorem ay{H:Hp}{a b:Addr}{o:HO}(h:b≠a):upd H a o b=H b:=by unfold upd;rw[Gag h]
theorem Bw{H:Hp}{a b:Addr}{o u:HO}(h:H a=some o)(h' :H b=some u)(d:o≠u):a≠b:=by
 intro e;subst e;rw[h] at h';exact d (Option.some.inj h')
theorem dQ{H:Hp}{a b:Addr}{o:HO}(h:H a=some o)(h' :H b=none):a≠b:=by
 intro e;subst e;rw[h] at h';cases h'
section
variable(P:Program)(w:World)
def cz(H:Hp)(h:Heap)(a:Addr):HO→Prop
 | .lst xs=>xs.length≤sizeLine∧∃(its:List Value) (n:Nat),Vals xs its∧h.get? a=some {cls:= .type "list",data:= .seq its.toArray n}
 | .tup xs=>xs.length≤sizeLine∧∃its:List Value,Vals xs its∧IsTup h a its.toArray
 | .dK kvs=>kvs.length≤sizeLine∧(a==sysModules)=false∧∃vs,KV kvs vs∧h.DictOf (cC P w) a vs
 | .dT kvs=>kvs.length≤sizeLine∧(a==sysModules)=false∧∃xs:List (List Key×Addr×Value),
   Paired (λ(p:List Key×V) (q:List Key×Addr×Value)=>p.1=q.1∧H q.2.1=some (.tup (p.1.map kV))∧RelV p.2 q.2.2) kvs xs∧
   ∃o es ep,h.get? a=some o∧o.ExactDict∧o.data= .dict es ep∧es.toList=xs.map (entryOfKey (tupleKind (cC P w)))∧(xs.map (·.1)).Nodup
 | .set S n=>h.SetOf (intKind P w) a S n
 | .ins C dx fs=>H dx=some (.own a)∧fs.length≤1000∧dx≠a∧h.get? a=some (PySem.W.instObj C dx)∧
   ∃mA,h.Ns1 dx mA∧(∀f,oZ (fs.lookup f) (mA f))∧PySem.Within mA (fs.map (·.1))
 | .own _=>∃o,h.get? a=some o
 | .xd fs=>∃mA,h.Ns1 a mA∧∀f,oZ (fs.lookup f) (mA f)
 | .rng lo hi=>∃t u v,h.get? a=some {cls:= .type "range",data:= .fields #[.int lo t,.int hi u,.int 1 v]}
 | .frz o u=>h.get? a=some o∧cz H h a u
 | .tbl ps=>h.get? a=some {cls:= .none,data:= .fields ps}
 | .met f x=>h.get? a=some (PySem.W.methodObj (.ref f) (.ref x))
 | .ext φ=>φ h∧(∃o,h.get? a=some o)∧∀h1 h2:Heap,φ h1→(∀o,h1.get? a=some o→h2.get? a=some o)→φ h2
def HOk(H:Hp)(h:Heap):Prop:=∀a o,H a=some o→cz P w H h a o
end
section
variable{P:Program}{w:World}{H H' :Hp}{h h' :Heap}{a:Addr}{o:HO}
theorem cz.lt(x:cz P w H h a o):a<h.objs.size:=by
 cases o with
 |lst xs=>obtain⟨_,_,_,_,e⟩:=x;exact Gas e
 |tup xs=>obtain⟨_,_,_,p⟩:=x;exact p.lt
 |dK kvs=>obtain⟨_,_,_,_,o,_,_,e,_⟩:=x;exact Gas e
 |dT kvs=>obtain⟨_,_,_,_,o,_,_,e,_⟩:=x;exact Gas e
 |set S n=>obtain⟨o,_,_,_,e,_⟩:=x;exact Gas e
 |ins C dx fs=>obtain⟨_,_,_,e,_⟩:=x;exact Gas e
 |own y=>obtain⟨_,e⟩:=x;exact Gas e
 |xd fs=>obtain⟨_,⟨_,_,_,e,_⟩,_⟩:=x;exact Gas e
 |rng lo hi=>obtain⟨_,_,_,e⟩:=x;exact Gas e
 |frz ob u=>obtain⟨e,_⟩:=x;exact Gas e
 |tbl ps=>exact Gas (show h.get? a=some _ from x)
 |met f y=>exact Gas (show h.get? a=some _ from x)
 |ext φ=>obtain⟨_,⟨_,e⟩,_⟩:=x;exact Gas e
theorem Paired.Jj{α β:Type}{F G:α→β→Prop}:∀{l₁:List α} {l₂:List β},Paired F l₁ l₂→(∀a b,F a b→G a b)→Paired G l₁ l₂
 |_,_,.nil,_=> .nil
 |_,_,.cons r t,f=> .cons (f _ _ r) (Paired.Jj t f)
theorem cz.dN(x:cz P w H h a o)(k:∀b u,(b=a∨H b=some (.own a))→h.get? b=some u→h'.get? b=some u)
  (ho:∀b,H b=some (.own a)→H' b=some (.own a))(ht:∀b xs,H b=some (.tup xs)→H' b=some (.tup xs)):cz P w H' h' a o:=by
 induction o with
 |lst xs=>obtain⟨z,its,n,r,e⟩:=x;exact⟨z,its,n,r,k _ _ (.inl rfl) e⟩
 |tup xs=>obtain⟨z,its,r,ob,e,c⟩:=x;exact⟨z,its,r,ob,k _ _ (.inl rfl) e,c⟩
 |dK kvs=>obtain⟨z,y,vs,r,ob,es,ep,e,c⟩:=x;exact⟨z,y,vs,r,ob,es,ep,k _ _ (.inl rfl) e,c⟩
 |dT kvs=>
  obtain⟨z,y,xs,r,ob,es,ep,e,c⟩:=x;exact⟨z,y,xs,Paired.Jj r λp q z=> ⟨z.1,ht _ _ z.2.1,z.2.2⟩,ob,es,ep,k _ _ (.inl rfl) e,c⟩
 |set S n=>obtain⟨ob,es,ep,t,e,c⟩:=x;exact⟨ob,es,ep,t,k _ _ (.inl rfl) e,c⟩
 |ins C dx fs=>
  obtain⟨d,z,ne,e,mA,⟨od,es,ep,e2,c⟩,r⟩:=x;exact⟨ho _ d,z,ne,k _ _ (.inl rfl) e,mA,⟨od,es,ep,k _ _ (.inr d) e2,c⟩,r⟩
 |own y=>obtain⟨ob,e⟩:=x;exact⟨ob,k _ _ (.inl rfl) e⟩
 |xd fs=>obtain⟨mA,⟨od,es,ep,e,c⟩,r⟩:=x;exact⟨mA,⟨od,es,ep,k _ _ (.inl rfl) e,c⟩,r⟩
 |rng lo hi=>obtain⟨t,u,v,e⟩:=x;exact⟨t,u,v,k _ _ (.inl rfl) e⟩
 |frz ob u ih=>obtain⟨e,q⟩:=x;exact⟨k _ _ (.inl rfl) e,ih q⟩
 |tbl ps=>
  have e:h.get? a=some {cls:= .none,data:= .fields ps}:=x;show h'.get? a=some {cls:= .none,data:= .fields ps};exact k a _ (.inl rfl) e
 |met f y=>
  have e:h.get? a=some (PySem.W.methodObj (.ref f) (.ref y)):=x;show h'.get? a=some (PySem.W.methodObj (.ref f) (.ref y));exact k a _ (.inl rfl) e
 |ext φ=>obtain⟨p,⟨o,e⟩,st⟩:=x;exact⟨st _ _ p λo q=>k _ _ (.inl rfl) q,⟨o,k _ _ (.inl rfl) e⟩,st⟩
theorem HOk.lt(x:HOk P w H h)(e:H a=some o):a<h.objs.size:=(x a o e).lt
theorem HOk.fresh(x:HOk P w H h)(e:h.objs.size≤a):H a=none:=by
 cases q:H a with
 |none=>rfl
 |some u=>exact absurd (GaT (x.lt q) e) (Gbw _)
theorem HOk.kept(x:HOk P w H h)(k:∀b u,h.get? b=some u→h'.get? b=some u):HOk P w H h' :=λa o e=>
 (x a o e).dN (λb u _ q=>k b u q) (λ_ q=>q) λ_ _ q=>q
theorem HOk.laid(x:HOk P w H h)(k:∀b u,h.get? b=some u→h'.get? b=some u)(hp:h.objs.size≤a)(new:cz P w (upd H a o) h' a o):HOk P w (upd H a o) h' :=λb u e=>by
 have hn:=x.fresh hp;by_cases hb:b=a
 ·subst hb;rw[aM] at e;cases e;exact new
 ·rw[ay hb] at e;exact(x b u e).dN (λc v _ q=>k c v q) (λc q=>by rw[ay (dQ q hn)];exact q) λc xs q=>by rw[ay (dQ q hn)];exact q
end
def Rd(H:Hp)(a:Addr)(u:HO):Prop:=H a=some u∨∃o,H a=some (.frz o u)
theorem Rd.of{H:Hp}{a:Addr}{u:HO}(h:H a=some u):Rd H a u:= .inl h
theorem Rd.ok{P:Program}{w:World}{H:Hp}{h:Heap}{a:Addr}{u:HO}(r:Rd H a u)(x:HOk P w H h):cz P w H h a u:=by
 rcases r with r| ⟨o,r⟩
 ·exact x a u r
 ·obtain⟨_,q⟩:=x a _ r;exact q
def Mut:Option HO→Prop
 |some (.lst _)=>True
 |some (.dK _)=>True
 |some (.dT _)=>True
 |some (.set _ _)=>True
 |some (.ins _ _ _)=>True
 |some (.ext _)=>True
 |_=>False
section
variable{P:Program}{w:World}{H:Hp}{h h' :Heap}{x e:Addr}{o' :HO}
theorem HOk.write(ok:HOk P w H h)(mu:Mut (H x))(he:e=x∨H e=some (.own x))(k:∀b u,b≠e→h.get? b=some u→h'.get? b=some u)(heo:∃u,h'.get? e=some u)
  (new:cz P w (upd H x o') h' x o'):HOk P w (upd H x o') h' :=λb u q=>by
 have nown:∀c y,H c=some (.own y)→c≠x:=λc y r z=>by subst z;rw[r] at mu;exact mu
 have ntup:∀c xs,H c=some (.tup xs)→c≠x:=λc xs r z=>by subst z;rw[r] at mu;exact mu
 by_cases hb:b=x
 ·subst hb;rw[aM] at q;cases q;exact new
 ·rw[ay hb] at q;by_cases hbe:b=e
  ·have q' :H b=some (.own x):=by
    rcases he with z|z
    ·exact absurd (hbe.trans z) hb
    ·rw[hbe];exact z
   rw[q] at q';cases q'
   obtain⟨v,hv⟩:=heo;exact⟨v,by rw[hbe];exact hv⟩
  ·refine(ok b u q).dN (λc v hc r=>k c v ?_ r) (λc r=>by rw[ay (nown c b r)];exact r) λc xs r=>by rw[ay (ntup c xs r)];exact r
   rcases hc with rfl|hc
   ·exact hbe
   ·rintro rfl;rcases he with z|z
    ·exact nown c b hc z
    ·rw[hc] at z;cases z;exact hb rfl
end
structure Un(fs ex:List Addr)(H H' :Hp)(h h' :Heap):Prop where
 keep:∀b o,h.get? b=some o→H b=none→b∉fs→b∉ex→h'.get? b=some o
 slot:∀b o,h.get? b=some o→H b=none→b∈fs→b∉ex→∃sl,h'.get? b=some {o with slots:=sl}
 free:∀b o,h.get? b=some o→H b=none→b∉ex→H' b=none
 there:∀b o,h.get? b=some o→b∉ex→∃o',h'.get? b=some o'
 pQ:∀b xs,H b=some (.tup xs)→H' b=some (.tup xs)
 nQ:∀b o u,H b=some (.frz o u)→H' b=some (.frz o u)
 pR:∀b ps,H b=some (.tbl ps)→∃more,H' b=some (.tbl (ps++more))
section
variable{fs fs' ex ex' :List Addr}{H H1 H2:Hp}{h h1 h2 h' :Heap}{a x e:Addr}{o:HO}
theorem Un.any(u:Un fs ex H H1 h h1){b:Addr}{ob:Obj}(q:h.get? b=some ob)(n:H b=none)(hx:b∉ex):∃sl,h1.get? b=some {ob with slots:=sl}:=by
 by_cases hb:b∈fs
 ·exact u.slot b ob q n hb hx
 ·exact⟨ob.slots,u.keep b ob q n hb hx⟩
theorem Un.trans(a:Un fs ex H H1 h h1)(b:Un fs ex H1 H2 h1 h2):Un fs ex H H2 h h2 where
 keep:=λc ob q n hc hx=>b.keep c ob (a.keep c ob q n hc hx) (a.free c ob q n hx) hc hx
 slot:=λc ob q n hc hx=>by
  obtain⟨sl,e1⟩:=a.slot c ob q n hc hx;obtain⟨sl',e2⟩:=b.slot c _ e1 (a.free c ob q n hx) hc hx;exact⟨sl',e2⟩
 free:=λc ob q n hx=>by
  obtain⟨o',e1⟩:=a.there c ob q hx;exact b.free c o' e1 (a.free c ob q n hx) hx
 there:=λc ob q hx=>by
  obtain⟨o',e1⟩:=a.there c ob q hx;exact b.there c o' e1 hx
 pQ:=λc xs q=>b.pQ c xs (a.pQ c xs q)
 nQ:=λc ob xs q=>b.nQ c ob xs (a.nQ c ob xs q)
 pR:=λc ps q=>by
  obtain⟨m1,e1⟩:=a.pR c ps q;obtain⟨m2,e2⟩:=b.pR c _ e1;exact⟨m1++m2,by rw[e2,Array.append_assoc]⟩
theorem Un.kept(k:∀b u,h.get? b=some u→h'.get? b=some u):Un fs ex H H h h' :=
 ⟨λb ob q _ _ _=>k b ob q,λb ob q _ _ _=> ⟨ob.slots,k b ob q⟩,λ_ _ _ n _=>n,λb ob q _=> ⟨ob,k b ob q⟩,λ_ _ q=>q,λ_ _ _ q=>q,λ_ ps q=> ⟨#[],by rw[q];simp⟩⟩
theorem Un.refl:Un fs ex H H h h:=Un.kept λ_ _ q=>q
theorem Un.laid(k:∀b u,h.get? b=some u→h'.get? b=some u)(hp:h.objs.size≤a)(hn:H a=none):Un fs ex H (upd H a o) h h' where
 keep:=λb u q _ _ _=>k b u q
 slot:=λb u q _ _ _=> ⟨u.slots,k b u q⟩
 free:=λb u q n _=>by rw[ay (GaI (GaT (Gas q) hp))];exact n
 there:=λb u q _=> ⟨u,k b u q⟩
 pQ:=λb xs q=>by rw[ay (dQ q hn)];exact q
 nQ:=λb u xs q=>by rw[ay (dQ q hn)];exact q
 pR:=λb ps q=> ⟨#[],by rw[ay (dQ q hn),q];simp⟩
theorem Un.write(mu:Mut (H x))(he:e=x∨H e=some (.own x))(k:∀b u,b≠e→h.get? b=some u→h'.get? b=some u)(heo:∃u,h'.get? e=some u):Un fs ex H (upd H x o) h h' :=by
 have hx:∀b,H b=none→b≠x:=λb n z=>by subst z;rw[n] at mu;exact mu
 have hb:∀b,H b=none→b≠e:=λb n z=>by
  subst z;rcases he with r|r
  ·exact hx b n r
  ·rw[n] at r;cases r
 have hm:∀b u,H b=some u→¬Mut (some u)→b≠x:=λb u q nm z=>by subst z;rw[q] at mu;exact nm mu
 refine⟨λb u q n _ _=>k b u (hb b n) q,λb u q n _ _=> ⟨u.slots,k b u (hb b n) q⟩,λb u q n _=>by rw[ay (hx b n)];exact n,λb u q _=> ?_,
  λb xs q=>by rw[ay (hm b _ q λz=>z)];exact q,λb u xs q=>by rw[ay (hm b _ q λz=>z)];exact q,λb ps q=> ⟨#[],by rw[ay (hm b _ q λz=>z),q];simp⟩⟩
 by_cases hbe:b=e
 ·subst hbe;exact heo
 ·exact⟨u,k b u hbe q⟩
theorem Un.mono(u:Un fs ex H H1 h h1)(hs:∀b∈fs,b∈fs')(hx:∀b∈ex,b∈ex'):Un fs' ex' H H1 h h1:=
 ⟨λb ob q n hb he=>u.keep b ob q n (λz=>hb (hs b z)) λz=>he (hx b z),λ_ _ q n _ he=>u.any q n λz=>he (hx _ z),λb ob q n he=>u.free b ob q n λz=>he (hx b z),λb ob q he=>u.there b ob q λz=>he (hx b z),u.pQ,u.nQ,u.pR⟩
end
noncomputable def trk(h:Heap)(H:Hp):List Addr:=(List.range h.objs.size).filter λa=>(H a).isSome
noncomputable def uN(h:Heap)(H:Hp):Heap:=PySem.W.hideAll h (trk h H)
theorem CB(h:Heap)(H:Hp):(uN h H).objs.size=h.objs.size:=PySem.W.hideAll_size _ _
theorem Ee{h:Heap}{H:Hp}{b:Addr}{o:Obj}(e:h.get? b=some o)(n:H b=none):(uN h H).get? b=some o:=
 PySem.W.hideAll_get _ e λhm=>by
  have q:(H b).isSome=true:=(Gca.mp hm).2;rw[n] at q;simp at q
theorem GJ{h:Heap}{H:Hp}{b:Addr}{o:Obj}(e:(uN h H).get? b=some o):h.get? b=some o∧H b=none:=by
 have e' :h.get? b=some o:=PySem.W.of_hideAll (trk h H) e;refine⟨e', ?_⟩;cases q:H b with
 |none=>rfl
 |some x=>
  have hm:b∈trk h H:=Gca.mpr ⟨GbJ.mpr (Gas e'),by simp[q]⟩;have z:(uN h H).get? b=none:=PySem.W.hideAll_none (trk h H) hm;rw[z] at e;cases e
noncomputable def GK(g h:Heap)(L:Addr):List (Addr×Obj):=(List.range h.objs.size).filterMap λa=>if a=L∨(g.get? a).isSome=true then none else(h.get? a).map λo=>(a,o)
noncomputable def rest(g h:Heap)(L d:Addr):List (Addr×Obj):=(GK g h L).filter λp=>decide (p.1≠d)
structure Mod(K:PySem.W.Frag)(mg:Str→Option Value)(base:Heap):Prop where
 kin:K.In base
 glob:base.Ns mainGlobals mg
 blt:∃mb,base.Ns builtinsNs mb∧∀x:Str,x≠"__name__"→mb x=bootBuiltins x
 nolimit:base.NoLimit
structure Cx where
 prog:Program
 w:World
 K:PySem.W.Frag
 mg:Str→Option Value
 base:Heap
 A:Around
 N:List Str
 s₀:Shared
 H₀:Hp
 env:Env
 outer:List Env
 stack:List Env
 ex:List Addr
 fn:Str→Bool
 calm:Bool
 pn:List (Addr×Obj)
 xe:Value→Shared→Prop
noncomputable def frs(l:List Env):List Addr:=l.filterMap (·.frame)
noncomputable abbrev Cx.fs (X:Cx):List Addr:=frs X.outer
def Vis(sc:Scope)(x:Str):Prop:=sc.names.lookup x=some .local∨sc.names.lookup x=some .cell∨sc.names.lookup x=some .free
def Loc(sc:Scope)(x:Str):Prop:=sc.names.lookup x=some .local∨sc.names.lookup x=some .cell
def Look(env:Env)(h:Heap)(m:Str→Option Value)(x:Str)(u:Value):Prop:=
 (env.kindOf x=some .local∧m x=some u)∨((env.kindOf x=some .cell∨env.kindOf x=some .free)∧∃c,env.cells.lookup x=some c∧h.IsCell c (some u))
structure Cx.Ok(X:Cx):Prop where
 mod:Mod X.K X.mg X.base
 kind:X.env.scope.kind= .function
 glob:X.env.globals=mainGlobals
 blt:X.env.builtins=builtinsNs
 above:X.s₀.heap.objs.size≤X.env.locals
 inj:∀x y c,X.env.cells.lookup x=some c→X.env.cells.lookup y=some c→x=y
 has:∀x,(X.env.kindOf x=some .cell∨X.env.kindOf x=some .free)→∃c,X.env.cells.lookup x=some c
 cab:∀x c,X.fn x=true→X.env.cells.lookup x=some c→X.s₀.heap.objs.size≤c
 hd:X.calm=true→X.A.handled=none
 frames:X.A.frames=some X.stack
 stk:X.stack=X.outer∨(X.stack=X.env::X.outer∧X.env.frame=some X.env.locals)
 exf:∀b∈X.ex,b≠X.env.locals∧∀x c,X.env.cells.lookup x=some c→c≠b
 bs:∀b o,X.base.get? b=some o→X.s₀.heap.get? b=some o∧X.H₀ b=none
 bsz:X.base.objs.size≤X.s₀.heap.objs.size
 GH:∀b o,X.base.get? b=some o→b∉X.ex
 GI:∀b∈X.ex,b∉X.fs
 qD:X.s₀.heap.FunFrames X.base X.outer
 frf:∀b∈X.fs,X.H₀ b=none
structure Inv(X:Cx)(pins:List (Addr×Obj))(σ:List (Option V))(H:Hp)(s:Shared):Prop where
 ok:X.Ok
 os:s.os=X.s₀.os
 bare:AllBare s.gens
 base:Un X.fs X.ex X.H₀ H X.s₀.heap s.heap
 loc:∃m,s.heap.Ns X.env.locals m∧∀(i:Nat) (x:Str) (v:V),X.N[i]? =some x→σ[i]? =some (some v)→Vis X.env.scope x→∃u,RelV v u∧Look X.env s.heap m x u
 cell:∀x c,X.env.cells.lookup x=some c→∃v,s.heap.IsCell c v
 free:H X.env.locals=none
 kz:∀x c,X.env.cells.lookup x=some c→H c=none
 pin:∀p∈X.pn++pins,s.heap.get? p.1=some p.2∧H p.1=none∧p.1≠X.env.locals∧p.1∉X.fs∧∀v,p.2.data≠ .cell v
 hok:HOk X.prog X.w H s.heap
 len:σ.length=X.N.length
section
variable{X:Cx}{pins:List (Addr×Obj)}{σ:List (Option V)}{H H' :Hp}{s:Shared}{h' :Heap}
theorem Cx.Ok.NO(ok:X.Ok){b:Addr}{o:Obj}(e:X.base.get? b=some o):b∉X.fs:=λhb=>by
 have:=(ok.qD.mem hb).1;rw[e] at this;cases this
theorem Inv.bs(I:Inv X pins σ H s):∀b o,X.base.get? b=some o→s.heap.get? b=some o∧H b=none:=λb o e=>
 ⟨I.base.keep b o (I.ok.bs b o e).1 (I.ok.bs b o e).2 (I.ok.NO e) (I.ok.GH b o e),I.base.free b o (I.ok.bs b o e).1 (I.ok.bs b o e).2 (I.ok.GH b o e)⟩
theorem Inv.bk(I:Inv X pins σ H s):∀b o,X.base.get? b=some o→s.heap.get? b=some o:=λb o e=>(I.bs b o e).1
theorem Inv.mod(I:Inv X pins σ H s):Mod X.K X.mg X.base:=I.ok.mod
theorem Inv.kIn(I:Inv X pins σ H s):X.K.In s.heap:=I.ok.mod.kin.keeps I.bk
theorem Inv.nolimit(I:Inv X pins σ H s):s.heap.NoLimit:=I.ok.mod.nolimit.keeps I.bk
theorem Inv.fr(I:Inv X pins σ H s):∃m,Fr X.base X.env.locals s.heap m:=
 let⟨m,hn,_⟩:=I.loc
 ⟨m,hn,I.bk,Gbx I.ok.bsz I.ok.above⟩
theorem Inv.lt(I:Inv X pins σ H s):X.env.locals<s.heap.objs.size:=let⟨_,hn,_⟩:=I.loc;hn.lt
theorem Inv.sz(I:Inv X pins σ H s):X.s₀.heap.objs.size≤s.heap.objs.size:=Gbx I.ok.above (GdC I.lt)
theorem Inv.NP(I:Inv X pins σ H s){a:Addr}(h:s.heap.objs.size≤a):a∉X.fs:=λhb=>by
 obtain⟨_,o,ho,_⟩:=I.ok.qD.mem hb;exact absurd (GaT (Gas ho) (Gbx I.sz h)) (Gbw _)
theorem Inv.cne(I:Inv X pins σ H s):∀x c,X.env.cells.lookup x=some c→c≠X.env.locals:=λx c e z=>by
 obtain⟨v,o,ho,hd⟩:=I.cell x c e;obtain⟨m,⟨o',es,ep,ho',hd',_⟩,_⟩:=I.loc;rw[z,ho'] at ho;cases ho;rw[hd'] at hd;cases hd
theorem Inv.qD(I:Inv X pins σ H s):s.heap.FunFrames X.base X.outer:=by
 have all:∀(l:List Env),(∀b∈frs l,b∈X.fs)→X.s₀.heap.FunFrames X.base l→s.heap.FunFrames X.base l:=by
  intro l;induction l with
  |nil=>intro _ _;trivial
  |cons env r ih=>
   intro hs hl;obtain⟨hk,⟨L,o,hf,hn,ho,hd⟩,hr⟩:=hl;have hL:L∈X.fs:=hs L (by unfold frs;rw[GdH,hf];exact Gao);obtain⟨sl,e⟩:=I.base.slot L o ho (I.ok.frf L hL) hL λz=>I.ok.GI L z hL;exact⟨hk,⟨L,_,hf,hn,e,hd⟩,ih (λb hb=>hs b (by unfold frs;rw[GdH,hf];exact Gaj _ hb)) hr⟩
 exact all X.outer (λ_ hb=>hb) I.ok.qD
theorem Inv.stack(I:Inv X pins σ H s):s.heap.FunFrames X.base X.stack:=by
 rcases I.ok.stk with e| ⟨e,hf⟩
 ·rw[e];exact I.qD
 ·rw[e];obtain⟨m,hn,_⟩:=I.loc;refine .cons (by rw[I.ok.kind];decide) hf hn ?_ I.qD;exact Heap.get?_none_of_le (Gbx I.ok.bsz I.ok.above)
theorem Inv.AD(I:Inv X pins σ H s):∀b∈frs X.stack,b∈X.env.locals::X.fs:=λb hb=>by
 rcases I.ok.stk with e| ⟨e,hf⟩
 ·rw[e] at hb;exact Gaj _ hb
 ·rw[e] at hb;unfold frs at hb;rw[GdH,hf] at hb;exact hb
theorem Inv.Bx(I:Inv X pins σ H s):∀b∈frs X.stack,H b=none:=λb hb=>by
 rcases Gay.mp (I.AD b hb) with e|hb
 ·rw[e];exact I.free
 ·obtain⟨_,o,ho,_⟩:=I.ok.qD.mem hb;exact I.base.free b o ho (I.ok.frf b hb) λz=>I.ok.GI b z hb
theorem Inv.step{g' :Array GenState}{t' :Nat}{d' :Drawn}{ch:List Addr}(I:Inv X pins σ H s)
  (hch:∀b∈ch,(b∈X.ex∨X.s₀.heap.objs.size≤b)∧b≠X.env.locals∧(∀x c,X.env.cells.lookup x=some c→c≠b)∧∀p∈X.pn++pins,p.1≠b)
  (keep:∀b o,b≠X.env.locals→b∉X.fs→b∉ch→s.heap.get? b=some o→H b=none→h'.get? b=some o)
  (slot:∀b o,b≠X.env.locals→b∈X.fs→b∉ch→s.heap.get? b=some o→H b=none→∃sl,h'.get? b=some {o with slots:=sl})(free:∀b o,b∉ch→s.heap.get? b=some o→H b=none→H' b=none)
  (there:∀b o,b∉ch→s.heap.get? b=some o→∃o',h'.get? b=some o')
  (pQ:∀b xs,H b=some (.tup xs)→H' b=some (.tup xs))(nQ:∀b o u,H b=some (.frz o u)→H' b=some (.frz o u))(pR:∀b ps,H b=some (.tbl ps)→∃more,H' b=some (.tbl (ps++more)))
  (ns:∀m,s.heap.Ns X.env.locals m→h'.Ns X.env.locals m)(hok:HOk X.prog X.w H' h')(hg:AllBare g'):
  Inv X pins σ H' {s with heap:=h',gens:=g',drawn:=d',toks:=t' }:=by
 have neL:∀b o,X.s₀.heap.get? b=some o→b≠X.env.locals:=λb o e=>GaI (GaT (Gas e) I.ok.above);have neC:∀b o,X.s₀.heap.get? b=some o→b∉X.ex→b∉ch:=λb o e hx hb=>by
  rcases(hch b hb).1 with z|z
  ·exact hx z
  ·exact absurd (GaT (Gas e) z) (Gbw _)
 have cellK:∀x c,X.env.cells.lookup x=some c→∀v,s.heap.IsCell c v→h'.IsCell c v:=λx c e v ⟨o,ho,hd⟩=>by
  have nch:c∉ch:=λz=>(hch c z).2.2.1 x c e rfl;by_cases hc:c∈X.fs
  ·obtain⟨sl,q⟩:=slot c o (I.cne x c e) hc nch ho (I.kz x c e);exact⟨_,q,hd⟩
  ·exact⟨o,keep c o (I.cne x c e) hc nch ho (I.kz x c e),hd⟩
 refine⟨I.ok,I.os,hg,⟨λb o e n hb hx=> ?_,λb o e n hb hx=> ?_,λb o e n hx=> ?_,λb o e hx=> ?_,λb xs e=>pQ b xs (I.base.pQ b xs e),λb o xs e=>nQ b o xs (I.base.nQ b o xs e),λb ps e=> ?_⟩, ?_,λx c e=> ?_, ?_,λx c e=> ?_,λp hp=> ?_,hok,I.len⟩
 ·exact keep b o (neL b o e) hb (neC b o e hx) (I.base.keep b o e n hb hx) (I.base.free b o e n hx)
 ·obtain⟨sl,e1⟩:=I.base.slot b o e n hb hx;obtain⟨sl',e2⟩:=slot b _ (neL b o e) hb (neC b o e hx) e1 (I.base.free b o e n hx);exact⟨sl',e2⟩
 ·obtain⟨o',e1⟩:=I.base.there b o e hx;exact free b o' (neC b o e hx) e1 (I.base.free b o e n hx)
 ·obtain⟨o',e1⟩:=I.base.there b o e hx;exact there b o' (neC b o e hx) e1
 ·obtain⟨m1,e1⟩:=I.base.pR b ps e;obtain⟨m2,e2⟩:=pR b _ e1;exact⟨m1++m2,by rw[e2,Array.append_assoc]⟩
 ·obtain⟨m,hn,hl⟩:=I.loc;refine⟨m,ns m hn,λi x v e1 e2 e3=> ?_⟩;obtain⟨u,r,l⟩:=hl i x v e1 e2 e3;refine⟨u,r, ?_⟩;rcases l with l| ⟨k,c,e,z⟩
  ·exact .inl l
  ·exact .inr ⟨k,c,e,cellK x c e _ z⟩
 ·obtain⟨v,z⟩:=I.cell x c e;exact⟨v,cellK x c e v z⟩
 ·obtain⟨m,⟨o,_,_,ho,_⟩,_⟩:=I.loc;exact free _ o (λz=>(hch _ z).2.1 rfl) ho I.free
 ·obtain⟨v,o,ho,hd⟩:=I.cell x c e;exact free c o (λz=>(hch c z).2.2.1 x c e rfl) ho (I.kz x c e)
 ·obtain⟨e,n,ne,nf,d⟩:=I.pin p hp;have nch:p.1∉ch:=λz=>(hch p.1 z).2.2.2 p hp rfl;exact⟨keep p.1 p.2 ne nf nch e n,free p.1 p.2 nch e n,ne,nf,d⟩
theorem Inv.un{t' :Nat}(I:Inv X pins σ H s)(u:Un X.fs [] H H' s.heap h')(hok:HOk X.prog X.w H' h'):Inv X pins σ H' {s with heap:=h',toks:=t' }:=by
 obtain⟨m,⟨o,es,ep,ho,r⟩,_⟩:=id I.loc;obtain⟨sl,hL⟩:=u.any ho I.free (by simp);exact I.step (g' :=s.gens) (d' :=s.drawn) (ch:=[]) (λ_ z=>nomatch z) (λb o _ hb _ e n=>u.keep b o e n hb (by simp)) (λb o _ hb _ e n=>u.slot b o e n hb (by simp)) (λb o _ e n=>u.free b o e n (by simp)) (λb o _ e=>u.there b o e (by simp)) u.pQ u.nQ u.pR (λm' hm=>by
  obtain⟨o',es',ep',ho',r'⟩:=hm;rw[ho] at ho';cases ho'
  exact⟨_,es',ep',hL,r'⟩) hok I.bare
theorem Inv.call{g' :Array GenState}{t' :Nat}{d' :Drawn}{ch:List Addr}(I:Inv X pins σ H s)(u:Un (frs X.stack) ch H H' s.heap h')(hok:HOk X.prog X.w H' h')(hg:AllBare g')
  (hch:∀b∈ch,(b∈X.ex∨X.s₀.heap.objs.size≤b)∧b≠X.env.locals∧(∀x c,X.env.cells.lookup x=some c→c≠b)∧∀p∈X.pn++pins,p.1≠b):
  Inv X pins σ H' {s with heap:=h',gens:=g',drawn:=d',toks:=t' }:=by
 obtain⟨m,⟨o,es,ep,ho,r⟩,_⟩:=id I.loc;obtain⟨sl,hL⟩:=u.any ho I.free λz=>(hch _ z).2.1 rfl;exact I.step (ch:=ch) hch (λb o hL hb hc e n=>u.keep b o e n (λz=>(Gay.mp (I.AD b z)).elim hL hb) hc) (λb o _ _ hc e n=>u.any e n hc) (λb o hc e n=>u.free b o e n hc) (λb o hc e=>u.there b o e hc) u.pQ u.nQ u.pR (λm' hm=>by
  obtain⟨o',es',ep',ho',r'⟩:=hm;rw[ho] at ho';cases ho'
  exact⟨_,es',ep',hL,r'⟩) hok hg
theorem Inv.turned{t' :Nat}{it:Addr}(I:Inv X pins σ H s)(k:∀b o,b≠it→s.heap.get? b=some o→h'.get? b=some o)(hn:H it=none)(hL:it≠X.env.locals)
  (h1:it∈X.ex∨X.s₀.heap.objs.size≤it)(h2:∀x c,X.env.cells.lookup x=some c→c≠it)(h3:∀p∈X.pn++pins,p.1≠it):Inv X pins σ H {s with heap:=h',toks:=t' }:=by
 have nit:∀b u,H b=some u→b≠it:=λb u e z=>by rw[z,hn] at e;cases e
 refine I.step (g' :=s.gens) (d' :=s.drawn) (ch:=[it]) (λb hb=> ?_) (λb o _ _ hc e _=>k b o (λz=>hc (by simp[z])) e) (λb o _ _ hc e _=> ⟨o.slots,k b o (λz=>hc (by simp[z])) e⟩) (λ_ _ _ _ n=>n)
  (λb o hc e=> ⟨o,k b o (λz=>hc (by simp[z])) e⟩) (λ_ _ e=>e) (λ_ _ _ e=>e) (λb ps e=> ⟨#[],by rw[e];simp⟩) (λm hm=> ?_) (λb u e=> ?_) I.bare
 ·have e:b=it:=by simpa using hb
  subst e;exact⟨h1,hL,h2,h3⟩
 ·obtain⟨o,es,ep,ho,r⟩:=hm;exact⟨o,es,ep,k _ o (GaY hL) ho,r⟩
 ·refine(I.hok b u e).dN (λc v hc q=>k c v ?_ q) (λ_ q=>q) λ_ _ q=>q;rcases hc with z|z
  ·rw[z];exact nit b u e
  ·exact nit c _ z
theorem Inv.tok(I:Inv X pins σ H s)(t:Nat):Inv X pins σ H {s with toks:=t}:=I.un (h' :=s.heap) (t' :=t) Un.refl I.hok
theorem Inv.kept{t' :Nat}(I:Inv X pins σ H s)(k:∀b u,s.heap.get? b=some u→h'.get? b=some u):Inv X pins σ H {s with heap:=h',toks:=t' }:=I.un (Un.kept k) (I.hok.kept k)
theorem Inv.laid{a:Addr}{o:HO}{t' :Nat}(I:Inv X pins σ H s)(k:∀b u,s.heap.get? b=some u→h'.get? b=some u)(hp:s.heap.objs.size≤a)(new:cz X.prog X.w (upd H a o) h' a o):
  Inv X pins σ (upd H a o) {s with heap:=h',toks:=t' }:=I.un (Un.laid k hp (I.hok.fresh hp)) (I.hok.laid k hp new)
theorem Inv.write{x e:Addr}{o:HO}{t' :Nat}(I:Inv X pins σ H s)(mu:Mut (H x))(he:e=x∨H e=some (.own x))(k:∀b u,b≠e→s.heap.get? b=some u→h'.get? b=some u)(heo:∃u,h'.get? e=some u)
  (new:cz X.prog X.w (upd H x o) h' x o):Inv X pins σ (upd H x o) {s with heap:=h',toks:=t' }:=I.un (Un.write mu he k heo) (I.hok.write mu he k heo new)
theorem Inv.By{pins' :List (Addr×Obj)}(I:Inv X pins σ H s)(h:∀p∈pins',s.heap.get? p.1=some p.2∧H p.1=none∧p.1≠X.env.locals∧p.1∉X.fs∧∀v,p.2.data≠ .cell v):Inv X pins' σ H s:=
 ⟨I.ok,I.os,I.bare,I.base,I.loc,I.cell,I.free,I.kz,λp hp=>(Gax.mp hp).elim (λz=>I.pin p (Gcw _ z)) (h p),I.hok,I.len⟩
theorem vV{N:List Str}(hN:N.Nodup){i j:Nat}{x:Str}(a:N[i]? =some x)(b:N[j]? =some x):i=j:=by
 obtain⟨h1,e1⟩:=Gae.mp a;obtain⟨h2,e2⟩:=Gae.mp b;exact(List.getElem_inj hN).mp (e1.trans e2.symm)
theorem CC{M:Model}{A:Around}{E:Value→Shared→Prop}{i:Nat}{x:Str}{v:V}{u:Value}{Q:Unit→Shared→Prop}(I:Inv X pins σ H s)(hN:X.N.Nodup)(hi:X.N[i]? =some x)(hx:Loc X.env.scope x)(r:RelV v u)
  (h:∀s',Inv X pins (σ.set i (some v)) H s' →(∃a,Heap.SameBut a s.heap s'.heap∧(a=X.env.locals∨X.env.cells.lookup x=some a))→Q () s')(hf:X.fn x=true∨X.env.scope.names.lookup x=some .local:=by first|exact .inl rfl|exact .inr rfl|assumption):wpAny M A (storeName X.env x u) Q E s:=by
 obtain⟨m,hn,hl⟩:=id I.loc;have hcls:(X.env.scope.kind== .class||(X.env.scope.kind== .module&&X.env.locals !=X.env.globals))=false:=by rw[I.ok.kind];rfl
 have hiσ:i<σ.length:=by rw[I.len];exact(Gae.mp hi).1
 have cne:=I.cne;have tracked:∀{a:Addr} {h' :Heap},(∃o,s.heap.get? a=some o∧H a=none)→Heap.SameBut a s.heap h' →HOk X.prog X.w H h' :=λ{a h'} ha hs b ob e=>by
  obtain⟨_,_,hfree⟩:=ha;refine(I.hok b ob e).dN (λc w' hc q=>(hs.2 c ?_).trans q) (λ_ q=>q) λ_ _ q=>q;rintro rfl;rcases hc with rfl|hc
  ·rw[hfree] at e;cases e
  ·rw[hfree] at hc;cases hc
 rcases hx with hk|hk
 ·refine wpAny_storeName_local hk hn (λh' hn' hs=> ?_) hcls;obtain⟨oL,_,_,hoL,_⟩:=id hn;refine h _ ⟨I.ok,I.os,I.bare,⟨λb o e n hb hx=> ?_,λb o e n hb hx=> ?_,I.base.free,λb o e hx=> ?_,I.base.pQ,I.base.nQ,I.base.pR⟩,⟨_,hn',λj y v' e1 e2 e3=> ?_⟩,λy c e=> ?_,I.free,I.kz,λp hp=> ?_,tracked ⟨oL,hoL,I.free⟩ hs,by simpa using I.len⟩ ⟨_,hs,.inl rfl⟩
  ·exact(hs.2 b (GaI (GaT (Gas e) I.ok.above))).trans (I.base.keep b o e n hb hx)
  ·obtain⟨sl,e1⟩:=I.base.slot b o e n hb hx;exact⟨sl,(hs.2 b (GaI (GaT (Gas e) I.ok.above))).trans e1⟩
  ·obtain⟨o',e1⟩:=I.base.there b o e hx;exact⟨o',(hs.2 b (GaI (GaT (Gas e) I.ok.above))).trans e1⟩
  ·by_cases hj:j=i
   ·subst hj;rw[hi] at e1;cases e1
    rw[GaQ hiσ] at e2;cases e2;exact⟨u,r,.inl ⟨hk,by simp⟩⟩
   ·rw[Gac (GaY hj)] at e2;obtain⟨u',r',q⟩:=hl j y v' e1 e2 e3;refine⟨u',r', ?_⟩;rcases q with⟨k,e⟩| ⟨k,c,e,z⟩
    ·refine .inl ⟨k, ?_⟩;have:y≠x:=λe=>hj (vV hN e1 (e▸hi));simp[this,e]
    ·exact .inr ⟨k,c,e,z.sameBut hs (cne y c e)⟩
  ·obtain⟨w',z⟩:=I.cell y c e;exact⟨w',z.sameBut hs (cne y c e)⟩
  ·obtain⟨e,n,ne,nf,d⟩:=I.pin p hp;exact⟨(hs.2 p.1 ne).trans e,n,ne,nf,d⟩
 ·have hfn:X.fn x=true:=by
   rcases hf with z|z
   ·exact z
   ·rw[z] at hk;cases hk
  obtain⟨c,hc⟩:=I.ok.has x (.inl hk);obtain⟨w',z⟩:=I.cell x c hc;refine wpAny_storeName_cell I.ok.kind hk hc z (λh' hc' hs=> ?_);obtain⟨oc,hoc,hocd⟩:=id z;refine h {s with heap:=h' } ⟨I.ok,I.os,I.bare,⟨λb o e n hb hx=> ?_,λb o e n hb hx=> ?_,I.base.free,λb o e hx=> ?_,I.base.pQ,I.base.nQ,I.base.pR⟩,⟨m,hn.sameBut hs (GaY (cne x c hc)),λj y v' e1 e2 e3=> ?_⟩,λy c' e=> ?_,I.free,I.kz,λp hp=> ?_,tracked ⟨oc,hoc,I.kz x c hc⟩ hs,by simpa using I.len⟩ ⟨c,hs,.inr hc⟩
  ·exact(hs.2 b (GaI (GaT (Gas e) (I.ok.cab x c hfn hc)))).trans (I.base.keep b o e n hb hx)
  ·obtain⟨sl,e1⟩:=I.base.slot b o e n hb hx;exact⟨sl,(hs.2 b (GaI (GaT (Gas e) (I.ok.cab x c hfn hc)))).trans e1⟩
  ·obtain⟨o',e1⟩:=I.base.there b o e hx;exact⟨o',(hs.2 b (GaI (GaT (Gas e) (I.ok.cab x c hfn hc)))).trans e1⟩
  ·by_cases hj:j=i
   ·subst hj;rw[hi] at e1;cases e1
    rw[GaQ hiσ] at e2;cases e2;exact⟨u,r,.inr ⟨.inl hk,c,hc,hc'⟩⟩
   ·rw[Gac (GaY hj)] at e2;obtain⟨u',r',q⟩:=hl j y v' e1 e2 e3;refine⟨u',r', ?_⟩;rcases q with q| ⟨k,c',e,z'⟩
    ·exact .inl q
    ·refine .inr ⟨k,c',e,z'.sameBut hs ?_⟩;rintro rfl;exact hj (vV hN e1 (I.ok.inj _ _ _ e hc▸hi))
  ·by_cases hcc:c' =c
   ·subst hcc;exact⟨_,hc'⟩
   ·obtain⟨w2,z2⟩:=I.cell y c' e;exact⟨w2,z2.sameBut hs hcc⟩
  ·obtain⟨e,n,ne,nf,d⟩:=I.pin p hp;refine⟨(hs.2 p.1 ?_).trans e,n,ne,nf,d⟩;intro q;rw[q,hoc] at e;have q' :oc=p.2:=Option.some.inj e;exact d w' (by rw[←q'];exact hocd)
theorem vW{M:Model}{A:Around}{E:Value→Shared→Prop}{i:Nat}{x:Str}{v:V}{u:Value}{Q:Unit→Shared→Prop}(I:Inv X pins σ H s)(hN:X.N.Nodup)(hi:X.N[i]? =some x)(hx:Loc X.env.scope x)(r:RelV v u)
  (h:∀s',Inv X pins (σ.set i (some v)) H s' →Q () s')(hf:X.fn x=true∨X.env.scope.names.lookup x=some .local:=by first|exact .inl rfl|exact .inr rfl|assumption):wpAny M A (storeName X.env x u) Q E s:=
 CC I hN hi hx r (λs' I' _=>h s' I') hf
theorem Inv.IV{s' :Shared}{ch:List Addr}(I:Inv X pins σ H s)(ho:s'.os=s.os)(u:Un (frs X.stack) ch H H' s.heap s'.heap)(hok:HOk X.prog X.w H' s'.heap)(hg:AllBare s'.gens)
  (hch:∀b∈ch,(b∈X.ex∨X.s₀.heap.objs.size≤b)∧b≠X.env.locals∧(∀x c,X.env.cells.lookup x=some c→c≠b)∧∀p∈X.pn++pins,p.1≠b):Inv X pins σ H' s' :=by
 obtain⟨h',g',d',t',o'⟩:=s';have e:o' =s.os:=ho;subst e;exact I.call (g' :=g') (t' :=t') (d' :=d') u hok hg hch
end
abbrev XK:=Value→Option Addr→Hp→Prop
noncomputable abbrev St:=List (Option V)
abbrev VK:=V→Hp→Prop
abbrev TE:=St→Hp→VK→Prop
abbrev TT:=St→Hp→(Bool→Hp→Prop)→Prop
abbrev TA:=St→Hp→(List V→Hp→Prop)→Prop
structure Ends where
 nx:St→Hp→Prop
 rt:VK
 bk:St→Hp→Prop:=λ_ _=>False
 ct:St→Hp→Prop:=λ_ _=>False
abbrev TS:=Ends→St→Hp→Prop
def EP(X:Cx)(pins:List (Addr×Obj))(σ:St)(Q:VK)(u:Value)(s' :Shared):Prop:=∃v H',Inv X pins σ H' s' ∧RelV v u∧Q v H'
def TP(X:Cx)(pins:List (Addr×Obj))(σ:St)(Q:Bool→Hp→Prop)(b:Bool)(s' :Shared):Prop:=∃H',Inv X pins σ H' s' ∧Q b H'
def AP(X:Cx)(pins:List (Addr×Obj))(σ:St)(Q:List V→Hp→Prop)(us:List Value)(s' :Shared):Prop:=∃vs H',Inv X pins σ H' s' ∧Vals vs us∧Q vs H'
def SP(X:Cx)(pins:List (Addr×Obj))(D:Ends)(f:Flow)(s' :Shared):Prop:=
 match f with
 | .next=>∃σ' H',Inv X pins σ' H' s' ∧D.nx σ' H'
 | .brk=>∃σ' H',Inv X pins σ' H' s' ∧D.bk σ' H'
 | .cont=>∃σ' H',Inv X pins σ' H' s' ∧D.ct σ' H'
 | .ret u=>∃v σ' H',Inv X pins σ' H' s' ∧RelV v u∧D.rt v H'
def PE(X:Cx)(e:Expr)(t:TE):Prop:=
 ∀(pins:List (Addr×Obj)) (s:Shared) (σ:St) (H:Hp) (Q:VK),Inv X pins σ H s→t σ H Q→wpAny (model X.prog X.w) X.A (eval e X.env) (EP X pins σ Q) X.xe s
def PT(X:Cx)(e:Expr)(t:TT):Prop:=
 ∀(pins:List (Addr×Obj)) (s:Shared) (σ:St) (H:Hp) (Q:Bool→Hp→Prop),Inv X pins σ H s→t σ H Q→wpAny (model X.prog X.w) X.A (isTrue e X.env (eval e X.env)) (TP X pins σ Q) X.xe s
def PW(X:Cx)(e:Expr)(t:TT):Prop:=
 ∀(whole:Sem Value) (pins:List (Addr×Obj)) (s:Shared) (σ:St) (H:Hp) (Q:Bool→Hp→Prop),Inv X pins σ H s→t σ H Q→wpAny (model X.prog X.w) X.A (isTrue e X.env whole) (TP X pins σ Q) X.xe s
theorem PW.pt{X:Cx}{e:Expr}{t:TT}(h:PW X e t):PT X e t:=h _
def PA(X:Cx)(es:List Expr)(t:TA):Prop:=
 ∀(pos:Pos) (pins:List (Addr×Obj)) (s:Shared) (σ:St) (H:Hp) (Q:List V→Hp→Prop),Inv X pins σ H s→t σ H Q→wpAny (model X.prog X.w) X.A (spliced (backTo pos (starEach es X.env))) (AP X pins σ Q) X.xe s
def PS(X:Cx)(st:Stmt)(t:TS):Prop:=
 ∀(pins:List (Addr×Obj)) (s:Shared) (σ:St) (H:Hp) (D:Ends),Inv X pins σ H s→t D σ H→wpAny (model X.prog X.w) X.A (exec st X.env) (SP X pins D) X.xe s
def PSs(X:Cx)(st:List Stmt)(t:TS):Prop:=
 ∀(pins:List (Addr×Obj)) (s:Shared) (σ:St) (H:Hp) (D:Ends),Inv X pins σ H s→t D σ H→wpAny (model X.prog X.w) X.A (execs st X.env) (SP X pins D) X.xe s
theorem thn{α:Type}{t:Sem α}{Q Q' :α→Shared→Prop}{M:Model}{A:Around}{E:Value→Shared→Prop}{s:Shared}(h:wpAny M A t Q E s)(hQ:∀a s,Q a s→Q' a s):wpAny M A t Q' E s:=Gcb h hQ λ_ _ x=>x
section
variable{X:Cx}
noncomputable def Lw(i:Nat):TE:=λσ H Q=>∃v,σ[i]? =some (some v)∧Q v H
noncomputable def tC(v:V):TE:=λ_ H Q=>Q v H
theorem lB{i:Nat}{x:Str}{pos:Pos}(hN:X.N[i]? =some x)(hv:Vis X.env.scope x)(hd:(x==("__debug__":Str))=false:=by decide)(hcd:(x==("__classdict__":Str))=false:=by decide):PE X (.Name x pos) (Lw i):=by
 intro pins s σ H Q I h;obtain⟨v,e,h⟩:=h;obtain⟨m,hn,hl⟩:=I.loc;obtain⟨u,r,l⟩:=hl i x v hN e hv;have fin:EP X pins σ Q u s:=⟨v,H,I,r,h⟩
 rcases l with⟨hk,hm⟩| ⟨hk,c,hc,hcell⟩
 ·exact wpAny_Name (wpAny_loadName_local I.ok.kind hk hn hm fin) hd
 ·rcases hk with hk|hk
  ·exact wpAny_Name (wpAny_loadName_cell I.ok.kind hk hc hcell fin) hd
  ·exact wpAny_Name (wpAny_loadName_free I.ok.kind hk hc hcell fin hcd) hd
theorem Ef{i j pos}:PE X (.Constant (.int i) j pos) (tC (.int i)):=λ_ _ _ H _ I h=>wpAny_Constant_int ⟨.int i,H,I.tok _,⟨_,rfl⟩,h⟩
theorem Lx{b j pos}:PE X (.Constant (.bool b) j pos) (tC (.bl b)):=λ_ _ _ H _ I h=>Constant_bool ⟨.bl b,H,I,rfl,h⟩
theorem Jk{j pos}:PE X (.Constant .none j pos) (tC .non):=λ_ _ _ H _ I h=>Constant_none ⟨.non,H,I,rfl,h⟩
theorem Jl{x j pos}:PE X (.Constant (.str x) j pos) (tC (.str x)):=λ_ _ _ H _ I h=>Calls.Constant_str ⟨.str x,H,I.tok _,⟨_,rfl⟩,h⟩
def Gl(X:Cx)(x:Str):Prop:=X.env.kindOf x=some .globalImplicit
theorem GL{E:Value→Shared→Prop}{pins:List (Addr×Obj)}{s:Shared}{σ:St}{H:Hp}{x:Str}{u:Value}{pos:Pos}{Q:Value→Shared→Prop}(I:Inv X pins σ H s)(hg:Gl X x)(hm:X.mg x=some u)(h:Q u s)
  (hd:(x==("__debug__":Str))=false:=by decide):wpAny (model X.prog X.w) X.A (eval (.Name x pos) X.env) Q E s:=
 Calls.Name_function_global I.ok.kind hg (Calls.loadGlobal_global (by rw[I.ok.glob];exact I.mod.glob.keeps I.bk) hm h) hd
theorem nB{E:Value→Shared→Prop}{pins:List (Addr×Obj)}{s:Shared}{σ:St}{H:Hp}{x:Str}{u:Value}{pos:Pos}{Q:Value→Shared→Prop}(I:Inv X pins σ H s)(hg:Gl X x)(hm:X.mg x=none)(hv:bootBuiltins x=some u)(h:Q u s)
  (hn:x≠"__name__":=by decide)(hd:(x==("__debug__":Str))=false:=by decide):wpAny (model X.prog X.w) X.A (eval (.Name x pos) X.env) Q E s:=by
 obtain⟨mb,h1,h2⟩:=I.mod.blt;exact Calls.Name_function_global I.ok.kind hg (Calls.loadGlobal_builtin (by rw[I.ok.glob];exact I.mod.glob.keeps I.bk) hm (by rw[I.ok.blt];exact h1.keeps I.bk) ((h2 x hn).trans hv) h) hd
theorem GN{x:Str}{v:V}{u:Value}{pos:Pos}(hg:Gl X x)(hm:X.mg x=none)(hv:bootBuiltins x=some u)(r:RelV v u)(hn:x≠"__name__":=by decide)(hd:(x==("__debug__":Str))=false:=by decide):PE X (.Name x pos) (tC v):=
 λ_ _ _ H _ I h=>nB I hg hm hv ⟨v,H,I,r,h⟩ hn hd
variable{a b:Expr}{ta tb:TE}{pos:Pos}
noncomputable def tB(t:TE):TT:=λσ H Q=>t σ H λx H1=>∃c,x= .bl c∧Q c H1
theorem Jm{e:Expr}{t:TE}(h:PE X e t)(he:∀whole,isTrue e X.env whole=(do let v←whole;standAt e.pos;holding [v] (truthy v)):=by intro _;rfl):PT X e (tB t):=by
 intro pins s σ H Q I hw;refine isTrue_plain (thn (h pins s σ H _ I hw) λv s1 ⟨x,H1,I1,r1,q1⟩=> ?_) (he _);obtain⟨d,rfl,q⟩:=q1;cases r1;exact GbM ⟨H1,I1,q⟩
variable{tA tB' :TT}{rest:List Expr}
noncomputable def NQ(t u:TT):TT:=λσ H Q=>t σ H λc H1=>if c=true then u σ H1 Q else Q false H1
noncomputable def tOr(t u:TT):TT:=λσ H Q=>t σ H λc H1=>if c=true then Q true H1 else u σ H1 Q
noncomputable def NR(t:TT):TT:=λσ H Q=>t σ H λc H1=>Q (!c) H1
theorem GO(ha:PT X a tA):PW X (.BoolOp .And [a] pos) tA:=by
 intro wh pins s σ H Q I h;refine isTrue_and (thn (ha pins s σ H Q I h) λc s1 e=> ?_);cases c with
 |true=>exact isTrue_and_nil e
 |false=>exact e
theorem Jn(ha:PT X a tA):PW X (.BoolOp .Or [a] pos) tA:=by
 intro wh pins s σ H Q I h;refine isTrue_or (thn (ha pins s σ H Q I h) λc s1 e=> ?_);cases c with
 |false=>exact isTrue_or_nil e
 |true=>exact e
theorem Jo(ha:PT X a tA)(hb:PW X (.BoolOp .And (b::rest) pos) tB'):PW X (.BoolOp .And (a::b::rest) pos) (NQ tA tB'):=by
 intro wh pins s σ H Q I h;refine isTrue_and (thn (ha pins s σ H _ I h) λc s1 ⟨H1,I1,q1⟩=> ?_);cases c with
 |true=>exact hb wh pins s1 σ H1 Q I1 q1
 |false=>exact⟨H1,I1,q1⟩
theorem Ly(ha:PT X a tA)(hb:PW X (.BoolOp .Or (b::rest) pos) tB'):PW X (.BoolOp .Or (a::b::rest) pos) (tOr tA tB'):=by
 intro wh pins s σ H Q I h;refine isTrue_or (thn (ha pins s σ H _ I h) λc s1 ⟨H1,I1,q1⟩=> ?_);cases c with
 |true=>exact⟨H1,I1,q1⟩
 |false=>exact hb wh pins s1 σ H1 Q I1 q1
theorem Jp(ha:PT X a tA):PT X (.UnaryOp .Not a pos) (NR tA):=by
 intro pins s σ H Q I h;exact isTrue_not (ha pins s σ H (λc H1=>Q (!c) H1) I h)
noncomputable def Lz(ta tb:TE):TE:=λσ H Q=>ta σ H λx H1=>∃c,x= .bl c∧if c=true then tb σ H1 Q else Q (.bl false) H1
noncomputable def LA(ta:TE):TE:=λσ H Q=>ta σ H λx H1=>∃c,x= .bl c∧Q (.bl (!c)) H1
theorem Jq{op}{t:TE}(h:PE X a t):PE X (.BoolOp op [a] pos) t:=λpins s σ H Q I hw=>BoolOp_one (h pins s σ H Q I hw)
theorem Jr(ha:PE X a ta)(hb:PE X (.BoolOp .And (b::rest) pos) tb):PE X (.BoolOp .And (a::b::rest) pos) (Lz ta tb):=by
 intro pins s σ H Q I h;refine BoolOp_and (thn (ha pins s σ H _ I h) λv s1 ⟨x,H1,I1,r1,q1⟩=> ?_);obtain⟨c,rfl,q1⟩:=q1;cases r1;refine GbM ?_;cases c with
 |true=>exact hb pins s1 σ H1 Q I1 q1
 |false=>exact⟨.bl false,H1,I1,rfl,q1⟩
theorem Js(ha:PE X a ta):PE X (.UnaryOp .Not a pos) (LA ta):=by
 intro pins s σ H Q I h;refine UnaryOp_ (thn (ha pins s σ H _ I h) λv s1 ⟨x,H1,I1,r1,q1⟩=> ?_);obtain⟨c,rfl,q1⟩:=q1;cases r1;exact not_of (GbM ⟨.bl (!c),H1,I1,rfl,q1⟩)
noncomputable def tIf(t:TT)(ta tb:TE):TE:=λσ H Q=>t σ H λc H1=>if c=true then ta σ H1 Q else tb σ H1 Q
theorem Eg{c:Expr}(hc:PT X c tA)(ha:PE X a ta)(hb:PE X b tb):PE X (.IfExp c a b pos) (tIf tA ta tb):=by
 intro pins s σ H Q I h;refine wpAny_IfExp (thn (hc pins s σ H _ I h) λd s1 ⟨H1,I1,q1⟩=> ?_);cases d with
 |true=>exact ha pins s1 σ H1 Q I1 q1
 |false=>exact hb pins s1 σ H1 Q I1 q1
end
def SqL(K:PySem.W.Frag)(H:Hp)(a:Addr)(xs:List V):Prop:=
 Rd H a (.lst xs)∨
  ∃(o:Obj) (its:Array Value) (n:Nat),K.lookup a=some o∧o.cls= .type "list"∧o.dict=none∧o.data= .seq its n∧its.size≤sizeLine∧Vals xs its.toList
def SqT(K:PySem.W.Frag)(H:Hp)(a:Addr)(xs:List V):Prop:=
 Rd H a (.tup xs)∨
  ∃(o:Obj) (its:Array Value) (n:Nat),K.lookup a=some o∧o.cls= .type "tuple"∧o.data= .seq its n∧its.size≤sizeLine∧Vals xs its.toList
noncomputable def NS:Value→Option V
 | .none=>some .non
 | .bool b=>some (.bl b)
 | .int i _=>some (.int i)
 | .str x _=>some (.str x)
 | .bytes b _=>some (.byt b)
 | .float b _=>some (.flt b)
 | .ref a=>some (.ref a)
 | .type n=>some (.ty n)
 |_=>none
theorem RelV.abs{x:V}{u:Value}(r:RelV x u):NS u=some x:=by
 cases x with
 |non=>cases r;rfl
 |bl _=>cases r;rfl
 |int _=>obtain⟨t,rfl⟩:=r;rfl
 |str _=>obtain⟨t,rfl⟩:=r;rfl
 |byt _=>obtain⟨t,rfl⟩:=r;rfl
 |flt _=>obtain⟨t,rfl⟩:=r;rfl
 |ref _=>cases r;rfl
 |ty _=>cases r;rfl
theorem RelV.inj{x y:V}{u:Value}(r:RelV x u)(q:RelV y u):x=y:=Option.some.inj (r.abs.symm.trans q.abs)
theorem Vals.inj:∀{xs ys:List V} {us:List Value},Vals xs us→Vals ys us→xs=ys
 |_,_,_,.nil,.nil=>rfl
 |_,_,_,.cons r t,.cons r' t' =>by rw[r.inj r',Vals.inj t t']
section
variable{X:Cx}{pins:List (Addr×Obj)}{σ:St}{H:Hp}{s:Shared}{a:Addr}{xs ys:List V}
theorem SqL.of{K:PySem.W.Frag}(h:H a=some (.lst xs)):SqL K H a xs:= .inl (.inl h)
theorem SqT.of{K:PySem.W.Frag}(h:H a=some (.tup xs)):SqT K H a xs:= .inl (.inl h)
theorem Inv.list(I:Inv X pins σ H s)(h:SqL X.K H a xs):∃its:List Value,Vals xs its∧PlainL s.heap a its.toArray∧xs.length≤sizeLine:=by
 rcases h with h| ⟨o,its,n,hk,hc,hd,hs,hz,r⟩
 ·obtain⟨z,its,n,r,e⟩:=h.ok I.hok;exact⟨its,r,⟨_,n,e,rfl,rfl,rfl⟩,z⟩
 ·refine⟨its.toList,r,⟨o,n,I.kIn a o hk,hc,hd,by simpa using hs⟩, ?_⟩;have e:=r.length;simp only[GbO] at e;omega
theorem Inv.tuple(I:Inv X pins σ H s)(h:SqT X.K H a xs):∃its:List Value,Vals xs its∧IsTup s.heap a its.toArray∧xs.length≤sizeLine:=by
 rcases h with h| ⟨o,its,n,hk,hc,hs,hz,r⟩
 ·obtain⟨z,its,r,p⟩:=h.ok I.hok;exact⟨its,r,p,z⟩
 ·refine⟨its.toList,r,⟨o,I.kIn a o hk,hc,n,by simpa using hs⟩, ?_⟩;have e:=r.length;simp only[GbO] at e;omega
theorem Inv.vX(I:Inv X pins σ H s)(h:SqL X.K H a xs)(h' :SqL X.K H a ys):xs=ys:=by
 obtain⟨its,r,⟨o,n,e,_,_,d⟩,_⟩:=I.list h;obtain⟨its',r',⟨o',n',e',_,_,d'⟩,_⟩:=I.list h';rw[e] at e';cases e'
 rw[d] at d';injection d' with d1 _
 have:its=its' :=by simpa using congrArg Array.toList d1
 subst this;exact r.inj r'
theorem Inv.tK(I:Inv X pins σ H s)(h:SqT X.K H a xs)(h' :SqT X.K H a ys):xs=ys:=by
 obtain⟨its,r,⟨o,e,_,n,d⟩,_⟩:=I.tuple h;obtain⟨its',r',⟨o',e',_,n',d'⟩,_⟩:=I.tuple h';rw[e] at e';cases e'
 rw[d] at d';injection d' with d1 _
 have:its=its' :=by simpa using congrArg Array.toList d1
 subst this;exact r.inj r'
end
noncomputable abbrev Cx.qE (X:Cx) (E:Value→Shared→Prop):Cx:={X with xe:=E}
noncomputable abbrev Cx.nox (X:Cx):Cx:=X.qE λ_ _=>False
theorem Cx.Ok.qE{X:Cx}(ok:X.Ok)(E:Value→Shared→Prop):(X.qE E).Ok:=
 ⟨ok.mod,ok.kind,ok.glob,ok.blt,ok.above,ok.inj,ok.has,ok.cab,ok.hd,ok.frames,ok.stk,ok.exf,ok.bs,ok.bsz,ok.GH,ok.GI,ok.qD,ok.frf⟩
theorem Cx.Ok.jU{X:Cx}{E:Value→Shared→Prop}(ok:(X.qE E).Ok):X.Ok:=
 ⟨ok.mod,ok.kind,ok.glob,ok.blt,ok.above,ok.inj,ok.has,ok.cab,ok.hd,ok.frames,ok.stk,ok.exf,ok.bs,ok.bsz,ok.GH,ok.GI,ok.qD,ok.frf⟩
section
variable{X:Cx}{pins:List (Addr×Obj)}{σ:St}{H:Hp}{s:Shared}{E:Value→Shared→Prop}
theorem Inv.qE(I:Inv X pins σ H s)(E:Value→Shared→Prop):Inv (X.qE E) pins σ H s:=⟨I.ok.qE E,I.os,I.bare,I.base,I.loc,I.cell,I.free,I.kz,I.pin,I.hok,I.len⟩
theorem Inv.jU(I:Inv (X.qE E) pins σ H s):Inv X pins σ H s:=⟨I.ok.jU,I.os,I.bare,I.base,I.loc,I.cell,I.free,I.kz,I.pin,I.hok,I.len⟩
theorem SP.jU{D:Ends}{f:Flow}{s' :Shared}(h:SP (X.qE E) pins D f s'):SP X pins D f s' :=by
 cases f with
 |next=>obtain⟨σ',H',I,q⟩:=h;exact⟨σ',H',I.jU,q⟩
 |brk=>obtain⟨σ',H',I,q⟩:=h;exact⟨σ',H',I.jU,q⟩
 |cont=>obtain⟨σ',H',I,q⟩:=h;exact⟨σ',H',I.jU,q⟩
 |ret u=>obtain⟨v,σ',H',I,r,q⟩:=h;exact⟨v,σ',H',I.jU,r,q⟩
theorem PE.nox{e:Expr}{t:TE}(h:PE X.nox e t):PE X e t:=λpins s σ H Q I hw=>
 Gcb (h pins s σ H Q (I.qE _) hw) (λ_ _ ⟨v,H',I',r,q⟩=> ⟨v,H',I'.jU,r,q⟩) λ_ _ z=>False.elim z
theorem PT.nox{e:Expr}{t:TT}(h:PT X.nox e t):PT X e t:=λpins s σ H Q I hw=>
 Gcb (h pins s σ H Q (I.qE _) hw) (λ_ _ ⟨H',I',q⟩=> ⟨H',I'.jU,q⟩) λ_ _ z=>False.elim z
theorem PSs.nox{st:List Stmt}{t:TS}(h:PSs X.nox st t):PSs X st t:=λpins s σ H D I hw=>
 Gcb (h pins s σ H D (I.qE _) hw) (λ_ _ q=>q.jU) λ_ _ z=>False.elim z
end
section
variable{X:Cx}{st:Stmt}{rest:List Stmt}{t u:TS}{e:Expr}{te:TE}{pos:Pos}
noncomputable def LB:TS:=λD σ H=>D.nx σ H
noncomputable def NT(t u:TS):TS:=λD σ H=>t {D with nx:=u D} σ H
theorem GP:PSs X [] LB:=λ_ _ σ H _ I h=>GdD ⟨σ,H,I,h⟩
theorem nR(h1:PS X st t)(h2:PSs X rest u):PSs X (st::rest) (NT t u):=by
 intro pins s σ H D I h;refine wpAny_execs_cons (thn (h1 pins s σ H {D with nx:=u D} I h) λf s1 q=> ?_);cases f with
 |next=>
  obtain⟨σ',H',I',q⟩:=q;exact h2 pins s1 σ' H' D I' q
 |ret v=>exact q
 |brk=>exact q
 |cont=>exact q
theorem uO(h1:PS X st t):PSs X [st] t:=by
 intro pins s σ H D I h;refine wpAny_execs_cons (thn (h1 pins s σ H D I h) λf s1 q=> ?_);cases f with
 |next=>exact GdD q
 |ret v=>exact q
 |brk=>exact q
 |cont=>exact q
noncomputable def Jt:TS:=λD σ H=>D.bk σ H
theorem Eh:PS X (.Break pos) Jt:=λ_ _ σ H _ I h=>wpAny_Break ⟨σ,H,I,h⟩
theorem Inv.quiet{pins:List (Addr×Obj)}{σ:St}{H:Hp}{s:Shared}(I:Inv X pins σ H s):interactive X.env=false:=by simp[interactive,I.ok.kind]
noncomputable def LC(te:TE):TS:=λD σ H=>te σ H λ_ H1=>D.nx σ H1
theorem qL(he:PE X e te)(hs:swapsWith e none pos.line X.env=pure false:=by rfl):PS X (.Expr e pos) (LC te):=by
 intro pins s σ H D I h;exact wpAny_Expr_any (thn (he pins s σ H _ I h) λv s1 ⟨x,H1,I1,r1,q1⟩=> ⟨σ,H1,I1,q1⟩) I.quiet hs
noncomputable def NU(te:TE):TS:=λD σ H=>te σ H D.rt
theorem Ej(he:PE X e te):PS X (.Return (some e) pos) (NU te):=by
 intro pins s σ H D I h;exact wpAny_Return_some (thn (he pins s σ H _ I h) λv s1 ⟨x,H1,I1,r1,q1⟩=> ⟨x,σ,H1,I1,r1,q1⟩)
noncomputable def NV(c:TT)(t u:TS):TS:=λD σ H=>c σ H λb H1=>if b=true then t D σ H1 else u D σ H1
theorem LD{c:Expr}{a b:List Stmt}{tc:TT}(hc:PT X c tc)(ha:PSs X a t)(hb:PSs X b u):PS X (.If c a b pos) (NV tc t u):=by
 intro pins s σ H D I h;refine wpAny_If (thn (hc pins s σ H _ I h) λd s1 ⟨H1,I1,q1⟩=> ?_);cases d with
 |true=>exact ha pins s1 σ H1 D I1 q1
 |false=>exact hb pins s1 σ H1 D I1 q1
end
abbrev TG:=V→St→Hp→(St→Hp→Prop)→Prop
abbrev TGs:=List V→St→Hp→(St→Hp→Prop)→Prop
def PG(X:Cx)(target:Expr)(t:TG):Prop:=
 ∀(pins:List (Addr×Obj)) (s:Shared) (σ:St) (H:Hp) (v:V) (u:Value) (Q:St→Hp→Prop),Inv X pins σ H s→RelV v u→t v σ H Q→
  wpAny (model X.prog X.w) X.A (assign target X.env u) (λ_ s' =>∃σ' H',Inv X pins σ' H' s' ∧Q σ' H') X.xe s
def PGs(X:Cx)(ts:List Expr)(t:TGs):Prop:=
 ∀(pins:List (Addr×Obj)) (s:Shared) (σ:St) (H:Hp) (vs:List V) (us:List Value) (Q:St→Hp→Prop),Inv X pins σ H s→Vals vs us→t vs σ H Q→
  wpAny (model X.prog X.w) X.A (assignInOrder ((assignEach ts X.env).map (·.2)) us) (λ_ s' =>∃σ' H',Inv X pins σ' H' s' ∧Q σ' H') X.xe s
abbrev NW:=V→V→V→Hp→(Hp→Prop)→Prop
def LF(X:Cx)(t:NW):Prop:=
 ∀(pins:List (Addr×Obj)) (s:Shared) (σ:St) (H:Hp) (o i v:V) (ov iv u:Value) (Q:Hp→Prop),Inv X pins σ H s→RelV o ov→RelV i iv→RelV v u→t o i v H Q→
  wpAny (model X.prog X.w) X.A (setItem ov iv u) (λ_ s' =>∃H',Inv X pins σ H' s' ∧Q H') X.xe s
section
variable{X:Cx}{pos:Pos}
noncomputable def IW(i:Nat):TG:=λv σ H Q=>Q (σ.set i (some v)) H
theorem Bz{i:Nat}{x:Str}(hN:X.N.Nodup)(hi:X.N[i]? =some x)(hx:Loc X.env.scope x)(hf:X.fn x=true∨X.env.scope.names.lookup x=some .local:=by first|exact .inl rfl|exact .inr rfl|assumption):PG X (.Name x pos) (IW i):=by
 intro pins s σ H v u Q I r h;exact wpAny_assign_Name (vW I hN hi hx r (λs' I' => ⟨_,H,I',h⟩) hf)
noncomputable def NX:TGs:=λvs σ H Q=>vs=[]∧Q σ H
noncomputable def LH(t:TG)(u:TGs):TGs:=λvs σ H Q=>∃v r,vs=v::r∧t v σ H λσ' H' =>u r σ' H' Q
theorem GQ:PGs X [] NX:=by
 intro pins s σ H vs us Q I r h;obtain⟨e,h⟩:=h;subst e;cases r;exact assignInOrder_nil ⟨σ,H,I,h⟩
theorem Ek{e:Expr}{es:List Expr}{t:TG}{u:TGs}(h1:PG X e t)(h2:PGs X es u)
  (hs:(assignEach (e::es) X.env).map (·.2)=assign e X.env::(assignEach es X.env).map (·.2):=by rfl):PGs X (e::es) (LH t u):=by
 intro pins s σ H vs us Q I r h;obtain⟨v,vr,e1,h⟩:=h;subst e1;cases r with
 |cons r rr=>
  rw[hs];refine assignInOrder_cons (thn (h1 pins s σ H _ _ _ I r h) λ_ s1 ⟨σ1,H1,I1,q1⟩=> ?_);exact h2 pins s1 σ1 H1 _ _ Q I1 rr q1
noncomputable def NY(K:PySem.W.Frag)(n:Nat)(t:TGs):TG:=λv σ H Q=>∃a xs,v= .ref a∧SqT K H a xs∧xs.length=n∧t xs σ H Q
theorem Ju{es:List Expr}{k:Nat}{t:TGs}{n:Nat}(hc:X.calm=true)(h:PGs X es t)
  (hn:(assignEach es X.env).length=n:=by rfl)(hst:(assignEach es X.env).findIdx? (·.1)=none:=by rfl):PG X (.Tuple es k pos) (NY X.K n t):=by
 intro pins s σ H v u Q I r hw;obtain⟨a,xs,e1,hq,hl,hw⟩:=hw;subst e1;cases r;obtain⟨its,rv,ht,hz⟩:=I.tuple hq;refine assign_Tuple_tuple (I.ok.hd hc) ht (by simp[hn,←hl,rv.length]) hst λh' hx=> ?_;have I1:Inv X pins σ H {s with heap:=h' }:=I.kept (t' :=s.toks) λb o e=>hx b o (GaI (Gas e)) e;exact h pins _ σ H xs _ Q I1 (by simpa using rv) hw
noncomputable def NZ(te:TE)(g:TG):TS:=λD σ H=>te σ H λx H1=>g x σ H1 D.nx
theorem AE{i:Nat}{x:Str}{e:Expr}{te:TE}{pos' :Pos}(hN:X.N.Nodup)(hi:X.N[i]? =some x)(hx:Loc X.env.scope x)(he:PE X e te)(hs:swapsWith e (some (.Name x pos')) pos.line X.env=pure false:=by rfl)(hf:X.fn x=true∨X.env.scope.names.lookup x=some .local:=by first|exact .inl rfl|exact .inr rfl|assumption):
  PS X (.Assign [.Name x pos'] e pos) (NZ te (IW i)):=by
 intro pins s σ H D I h;refine wpAny_Assign_Name (thn (he pins s σ H _ I h) λv s1 ⟨y,H1,I1,r1,q1⟩=> ?_) hs;exact vW I1 hN hi hx r1 (λs2 I2=> ⟨_,H1,I2,q1⟩) hf
end
section
variable{X:Cx}{pos:Pos}
noncomputable def Jv(c:TT)(tb:TS):TS:=λD σ H=>∃W:Nat→St→Hp→Prop,(∃m,W m σ H)∧∀m σ H,W m σ H→
 c σ H λb H1=>if b=true then∃N:St→Hp→Prop,(∀σ' H',N σ' H' →∃m',m' <m∧W m' σ' H')∧tb {D with nx:=N,ct:=N,bk:=D.nx} σ H1 else D.nx σ H1
theorem El{c:Expr}{body:List Stmt}{tc:TT}{tb:TS}(hp:PassesOwn (model X.prog X.w) X.A X.env X.xe)(hc:PT X c tc)(hb:PSs X body tb):PS X (.While c body [] pos) (Jv tc tb):=by
 intro pins s σ H D I h;obtain⟨W,⟨m0,w0⟩,turn⟩:=h;refine wpAny_While (codeAny_whileLoop (λn s' =>∃σ' H',Inv X pins σ' H' s' ∧W n σ' H') ?_ m0 ⟨σ,H,I,w0⟩);rintro n s1 ⟨σ1,H1,I1,w1⟩;refine Gcq hp (thn (hc pins s1 σ1 H1 _ I1 (turn n σ1 H1 w1)) λb s2 ⟨H2,I2,q2⟩=> ?_);cases b with
 |true=>
  obtain⟨N,hN,q2⟩:=q2;rw[Gai rfl];refine Gcq hp (thn (hb pins s2 σ1 H2 _ I2 q2) λf s3 q3=> ?_);cases f with
  |next=>
   obtain⟨σ3,H3,I3,n3⟩:=q3;obtain⟨m',hm,w3⟩:=hN σ3 H3 n3;exact⟨m',hm,σ3,H3,I3,w3⟩
  |cont=>
   obtain⟨σ3,H3,I3,n3⟩:=q3;obtain⟨m',hm,w3⟩:=hN σ3 H3 n3;exact⟨m',hm,σ3,H3,I3,w3⟩
  |brk=>exact q3
  |ret v=>exact q3
 |false=>
  rw[Gag Gav];exact GdD ⟨σ1,H2,I2,q2⟩
end
structure It where
 go:Nat→Hp→Prop
 yld:Nat→Hp→V→Hp→Prop
 stop:Nat→Hp→Prop
def nC(X:Cx)(pins:List (Addr×Obj))(H:Hp)(b:Addr):Prop:=
 H b=none∧b≠X.env.locals∧b∉X.fs∧(b∈X.ex∨X.s₀.heap.objs.size≤b)∧(∀x c,X.env.cells.lookup x=some c→c≠b)∧∀p∈X.pn++pins,p.1≠b
theorem Inv.CD{X:Cx}{pins:List (Addr×Obj)}{σ:St}{H H' :Hp}{s:Shared}{b:Addr}(I:Inv X pins σ H s)(hb:s.heap.objs.size≤b)(hn:H' b=none):nC X pins H' b:=by
 refine⟨hn,Gcc (GaT I.lt hb),I.NP hb,.inr (Gbx I.sz hb),λx c e z=> ?_,λp hp z=> ?_⟩
 ·obtain⟨v,q⟩:=I.cell x c e;exact absurd (GaT q.lt (by rw[z];exact hb)) (Gbw _)
 ·exact absurd (GaT (Gas (I.pin p hp).1) (by rw[z];exact hb)) (Gbw _)
structure Turn(P:Program)(w:World)(K:PySem.W.Frag)(tg:Expr)(J:It)(fp:List Addr)(it:Addr)(tn:Nat→Heap→Prop):Prop where
 mem:it∈fp
 obj:∀i h,tn i h→∀b∈fp,∃o,h.get? b=some o∧∀v,o.data≠ .cell v
 keep:∀i h h',tn i h→(∀b∈fp,∀o,h.get? b=some o→h'.get? b=some o)→tn i h'
 item:∀(X:Cx),X.prog=P→X.w=w→X.K=K→X.calm=true→∀(i:Nat) (pins:List (Addr×Obj)) (s:Shared) (σ:St) (H:Hp) (E:Value→Shared→Prop),Inv X pins σ H s→(∀b∈fp,nC X pins H b)→tn i s.heap→J.go i H→
  wpAny (model P w) X.A (pyNext (.ref it)) (λr s1=>∃u,r=some u∧
   wpAny (model P w) X.A (letOwnedTupleGo tg (.ref it) u) (λ_ s2=>∃x H',Inv X pins σ H' s2∧RelV x u∧J.yld i H x H' ∧tn (i+1) s2.heap∧∀b∈fp,H' b=none) E s1) E s
 done:∀(X:Cx),X.prog=P→X.w=w→X.K=K→X.calm=true→∀(i:Nat) (pins:List (Addr×Obj)) (s:Shared) (σ:St) (H:Hp) (E:Value→Shared→Prop),Inv X pins σ H s→(∀b∈fp,nC X pins H b)→tn i s.heap→J.stop i H→
  wpAny (model P w) X.A (pyNext (.ref it)) (λr s1=>r=none∧Inv X pins σ H s1) E s
 self:∀(A:Around) (i:Nat) (s:Shared) (Q:Value→Shared→Prop) (E:Value→Shared→Prop),tn i s.heap→Q (.ref it) s→wpAny (model P w) A (pyIter (.ref it)) Q E s
abbrev TI:=St→Hp→(It→Hp→Prop)→Prop
def PIE(X:Cx)(pins:List (Addr×Obj))(σ:St)(tg:Expr)(R:It→Hp→Prop)(itv:Value)(s2:Shared):Prop:=
 ∃(it:Addr) (fp:List Addr) (tn:Nat→Heap→Prop) (J:It) (H' :Hp),itv= .ref it∧Inv X pins σ H' s2∧Turn X.prog X.w X.K tg J fp it tn∧tn 0 s2.heap∧(∀b∈fp,nC X pins H' b)∧R J H'
def PI(X:Cx)(tg iter:Expr)(wi:TI):Prop:=
 ∀(pins:List (Addr×Obj)) (s:Shared) (σ:St) (H:Hp) (R:It→Hp→Prop),Inv X pins σ H s→wi σ H R→
  wpAny (model X.prog X.w) X.A (eval iter X.env) (λv s1=>wpAny (model X.prog X.w) X.A (pyIter v) (PIE X pins σ tg R) X.xe s1) X.xe s
theorem Em{M:Model}{A:Around}{E:Value→Shared→Prop}{s:Shared}{tg:Expr}{it:Addr}{u:Value}{o:Obj}{n:String}{vs:Array Value}{Q:Unit→Shared→Prop}(ho:s.heap.get? it=some o)(hc:o.cls= .type n)(hd:o.data= .fields vs)
  (hn:["enumerate","zip","dict_itemiterator","dict_reverseitemiterator","odict_iterator","itertools.zip_longest","itertools.pairwise"].contains n=false)(hQ:Q () s):wpAny M A (letOwnedTupleGo tg (.ref it) u) Q E s:=by
 unfold letOwnedTupleGo;cases tg<;>first
  |exact Gad hQ
  |(cases u<;>first
    |exact Gad hQ
    |(refine Gaa (wpAny_load ho ?_)
      rw[hc,hd];show wpAny M A (if(["enumerate","zip","dict_itemiterator","dict_reverseitemiterator","odict_iterator","itertools.zip_longest","itertools.pairwise"].contains n&&vs[0]? ==some (rawInt _))=true then _ else _) Q E s;rw[Gag (by intro h;rw[hn,Bool.false_and] at h;cases h)];exact Gad hQ))
noncomputable def Itl(K:PySem.W.Frag)(a:Addr):It:=
 ⟨λi H=>∃xs x,SqL K H a xs∧xs[i]? =some x,λi H x H' =>H' =H∧∀xs,SqL K H a xs→xs[i]? =some x,λi H=>∃xs,SqL K H a xs∧xs.length≤i⟩
noncomputable def Itt(K:PySem.W.Frag)(a:Addr):It:=
 ⟨λi H=>∃xs x,SqT K H a xs∧xs[i]? =some x,λi H x H' =>H' =H∧∀xs,SqT K H a xs→xs[i]? =some x,λi H=>∃xs,SqT K H a xs∧xs.length≤i⟩
noncomputable def Itr(lo:Int)(n:Nat):It:=⟨λi _=>i<n,λi H x H' =>H' =H∧x= .int (lo+i),λi _=>n≤i⟩
theorem CF{P:Program}{w:World}{K:PySem.W.Frag}{tg:Expr}(a it:Addr):Turn P w K tg (Itl K a) [it] it (λi h=>h.IsListIter it a i) where
 mem:=by simp
 obj:=λi h st b hb=>by
  have e:b=it:=by simpa using hb
  subst e;obtain⟨o,e,c,d⟩:=st;exact⟨o,e,λv z=>by rw[d] at z;cases z⟩
 keep:=λi h h' st k=>st.at λo e=>k it (by simp) o e
 item:=by
  intro X hP hw hK hc i pins s σ H E I hf st hg;subst hP hw hK;obtain⟨xs,x,hq,hx⟩:=hg;obtain⟨its,rv,p,hz⟩:=I.list hq;obtain⟨u,hu,ru⟩:=rv.get hx;obtain⟨f0,f1,f2,f3,f4,f5⟩:=hf it (by simp);refine wpAny_pyNext_list_item st p.isList (x:=u) (by simpa using hu) λh' st' sb=> ?_;have I1:Inv X pins σ H {s with heap:=h' }:=I.turned (t' :=s.toks) (λb o hb e=>(sb.2 b hb).trans e) f0 f1 f3 f4 f5;obtain⟨o,e,c,d⟩:=id st';exact⟨u,rfl,Em (s:={s with heap:=h' }) e c d (by decide) ⟨x,H,I1,ru,⟨rfl,λys hy=>by rw[I.vX hy hq];exact hx⟩,st',λb hb=>(hf b hb).1⟩⟩
 done:=by
  intro X hP hw hK hc i pins s σ H E I hf st hg;subst hP hw hK;obtain⟨xs,hq,hx⟩:=hg;obtain⟨its,rv,p,hz⟩:=I.list hq;obtain⟨f0,f1,f2,f3,f4,f5⟩:=hf it (by simp);have hl:=rv.length;exact wpAny_pyNext_list_end (I.ok.hd hc) st p.isList (by simp;omega) λh' eb=> ⟨rfl,I.turned (t' :=s.toks) (λb o hb e=>eb b o hb e) f0 f1 f3 f4 f5⟩
 self:=λ_ _ _ _ _ st h=>wpAny_pyIter_listiter st h
theorem AF{P:Program}{w:World}{K:PySem.W.Frag}{tg:Expr}(a it:Addr):Turn P w K tg (Itt K a) [it] it (λi h=>h.IsTupleIter it a i) where
 mem:=by simp
 obj:=λi h st b hb=>by
  have e:b=it:=by simpa using hb
  subst e;obtain⟨o,e,c,d⟩:=st;exact⟨o,e,λv z=>by rw[d] at z;cases z⟩
 keep:=λi h h' st k=>st.at λo e=>k it (by simp) o e
 item:=by
  intro X hP hw hK hc i pins s σ H E I hf st hg;subst hP hw hK;obtain⟨xs,x,hq,hx⟩:=hg;obtain⟨its,rv,p,hz⟩:=I.tuple hq;obtain⟨u,hu,ru⟩:=rv.get hx;obtain⟨f0,f1,f2,f3,f4,f5⟩:=hf it (by simp);refine wpAny_pyNext_tuple_item st (show s.heap.IsTuple a its.toArray from p) (x:=u) (by simpa using hu) λh' st' sb=> ?_;have I1:Inv X pins σ H {s with heap:=h' }:=I.turned (t' :=s.toks) (λb o hb e=>(sb.2 b hb).trans e) f0 f1 f3 f4 f5;obtain⟨o,e,c,d⟩:=id st';exact⟨u,rfl,Em (s:={s with heap:=h' }) e c d (by decide) ⟨x,H,I1,ru,⟨rfl,λys hy=>by rw[I.tK hy hq];exact hx⟩,st',λb hb=>(hf b hb).1⟩⟩
 done:=by
  intro X hP hw hK hc i pins s σ H E I hf st hg;subst hP hw hK;obtain⟨xs,hq,hx⟩:=hg;obtain⟨its,rv,p,hz⟩:=I.tuple hq;obtain⟨f0,f1,f2,f3,f4,f5⟩:=hf it (by simp);have hl:=rv.length;exact wpAny_pyNext_tuple_end (I.ok.hd hc) st (show s.heap.IsTuple a its.toArray from p) (by simp;omega) λh' eb=> ⟨rfl,I.turned (t' :=s.toks) (λb o hb e=>eb b o hb e) f0 f1 f3 f4 f5⟩
 self:=λ_ _ _ _ _ st h=>wpAny_pyIter_tupleiter st h
theorem AG{P:Program}{w:World}{K:PySem.W.Frag}{tg:Expr}(it:Addr)(lo:Int)(n:Nat):Turn P w K tg (Itr lo n) [it] it (λi h=>IsRangeIter h it (lo+(i:Nat)*1) ((n:Int)-(i:Nat)) 1) where
 mem:=by simp
 obj:=λi h st b hb=>by
  have e:b=it:=by simpa using hb
  subst e;exact⟨_,st,λv z=>by
   have z' :Data.fields _=Data.cell v:=z;cases z'⟩
 keep:=λi h h' st k=>k it (by simp) _ st
 item:=by
  intro X hP hw hK hc i pins s σ H E I hf st hg;subst hP hw hK;obtain⟨f0,f1,f2,f3,f4,f5⟩:=hf it (by simp);have W:=Walks.range (prog:=X.prog) (w:=X.w) (I.ok.hd hc) it lo 1 n;refine W.item i s _ _ hg st λv h' tk hv st' kk=> ?_;obtain⟨t,rfl⟩:=hv;have I1:Inv X pins σ H {s with heap:=h',toks:=tk}:=I.turned (λb o hb e=>kk b o (by simpa using hb) e) f0 f1 f3 f4 f5;refine⟨_,rfl,Em (s:={s with heap:=h',toks:=tk}) (n:="range_iterator") st' rfl rfl (by decide) ⟨.int (lo+i),H,I1,⟨t, ?_⟩,⟨rfl,rfl⟩,st',λb hb=>(hf b hb).1⟩⟩;rw[Int.mul_one]
 done:=by
  intro X hP hw hK hc i pins s σ H E I hf st hg;subst hP hw hK;obtain⟨f0,f1,f2,f3,f4,f5⟩:=hf it (by simp);exact wpAny_pyNext_range_end (I.ok.hd hc) st (by have:n≤i:=hg;omega) λh' eb=> ⟨rfl,I.turned (t' :=s.toks) (λb o hb e=>eb b o hb e) f0 f1 f3 f4 f5⟩
 self:=λ_ _ _ _ _ st h=>wpAny_pyIter_rangeiter st h
section
variable{X:Cx}{tg:Expr}
theorem lC{pins:List (Addr×Obj)}{σ:St}{H:Hp}{s:Shared}{R:It→Hp→Prop}{E:Value→Shared→Prop}{lo hi:Int}{t u v:Tok}{tk:Nat}(I:Inv X pins σ H s)(h1: -(2^62)≤lo)(h2:lo<2^62)(h3: -(2^62)≤hi)(h4:hi<2^62)
  (q:R (Itr lo (hi -lo).toNat) H):wpAny (model X.prog X.w) X.A (pyIter (.ref s.heap.objs.size)) (PIE X pins σ tg R) E {s with heap:=s.heap.push {cls:= .type "range",data:= .fields #[.int lo t,.int hi u,.int 1 v]},toks:=tk}:=by
 refine wpAny_pyIter_range (IsRange.new ..) (small_one h1 h2 h3 h4) ?_;have I1:Inv X pins σ H {s with heap:=s.heap.push {cls:= .type "range",data:= .fields #[.int lo t,.int hi u,.int 1 v]},toks:=tk}:=I.kept λb o e=>Gah _ e;refine⟨(s.heap.push {cls:= .type "range",data:= .fields #[.int lo t,.int hi u,.int 1 v]}).objs.size,[(s.heap.push {cls:= .type "range",data:= .fields #[.int lo t,.int hi u,.int 1 v]}).objs.size],_,_,H,rfl,
  I1.kept (t' :=tk) λb o e=>Gah _ e,AG _ lo (hi -lo).toNat, ?_,λb hb=> ?_,q⟩
 ·have e1:lo+((0:Nat):Int)*1=lo:=by simp
  have e2:(((hi -lo).toNat:Nat):Int)-((0:Nat):Int)=Builtin.Range.rangeSize lo hi 1:=by rw[rangeSize_one];split<;>omega
  show IsRangeIter _ _ (lo+((0:Nat):Int)*1) ((((hi -lo).toNat:Nat):Int)-((0:Nat):Int)) 1;rw[e1,e2];exact Gaz _ rfl
 ·have e:b=(s.heap.push {cls:= .type "range",data:= .fields #[.int lo t,.int hi u,.int 1 v]}).objs.size:=by simpa using hb
  subst e;exact I1.CD (Gar _) (I1.hok.fresh (Gar _))
noncomputable def LI(ta:TA):TI:=λσ H R=>ta σ H λvs H1=>∃j:Int,vs=[.int j]∧-(2^62)≤j∧j<2^62∧R (Itr 0 j.toNat) H1
noncomputable def LJ(ta:TA):TI:=λσ H R=>ta σ H λvs H1=>∃i j:Int,vs=[.int i,.int j]∧(-(2^62)≤i∧i<2^62∧-(2^62)≤j∧j<2^62)∧R (Itr i (j -i).toNat) H1
theorem CG{a:Expr}{ta:TA}{p pos:Pos}(hg:Gl X "range")(hm:X.mg "range"=none)(ha:PA X [a] ta)(hs:starEach [a] X.env=[(false,eval a X.env)]:=by rfl):PI X tg (.Call (.Name "range" p) [a] [] pos) (LI ta):=by
 intro pins s σ H R I h;refine Call_ (nB I hg hm boot_range (Gco (thn (ha pos pins s σ H _ I h) λus s1 ⟨vs,H1,I1,r1,q1⟩=> ?_) hs rfl));obtain⟨j,e,q1,q2,q⟩:=q1;subst e;cases r1 with
 |cons r rr=>
  cases rr;obtain⟨t,rfl⟩:=r;exact call_range_1 (lC I1 (by omega) (by omega) q1 q2 (by simpa using q))
theorem CH{a b:Expr}{ta:TA}{p pos:Pos}(hg:Gl X "range")(hm:X.mg "range"=none)(ha:PA X [a,b] ta)(hs:starEach [a,b] X.env=[(false,eval a X.env),(false,eval b X.env)]:=by rfl)(hs2:starEach [b] X.env=[(false,eval b X.env)]:=by rfl):
  PI X tg (.Call (.Name "range" p) [a,b] [] pos) (LJ ta):=by
 intro pins s σ H R I h;refine Call_ (nB I hg hm boot_range (Gco (thn (ha pos pins s σ H _ I h) λus s1 ⟨vs,H1,I1,r1,q1⟩=> ?_) (by rw[hs,hs2]) (by rw[hs2];rfl)));obtain⟨i,j,e,⟨q1,q2,q3,q4⟩,q⟩:=q1;subst e;cases r1 with
 |cons r rr=>
  cases rr with
  |cons r' rr=>
   cases rr;obtain⟨t,rfl⟩:=r;obtain⟨t',rfl⟩:=r';exact call_range_2 (lC I1 q1 q2 q3 q4 q)
noncomputable def O0(wi:TI)(g:TG)(tb:TS):TS:=λD σ H=>wi σ H λJ H1=>∃W:Nat→Nat→St→Hp→Prop,(∃m,W 0 m σ H1)∧∀i m σ H,W i m σ H→
 (J.stop i H∧D.nx σ H)∨(J.go i H∧∃N:St→Hp→Prop,(∀σ' H',N σ' H' →∃m',m' <m∧W (i+1) m' σ' H')∧∀x H',J.yld i H x H' →g x σ H' λσ2 H2=>tb {D with nx:=N,ct:=N,bk:=D.nx} σ2 H2)
noncomputable def qW(fp:List Addr)(h:Heap):List (Addr×Obj):=fp.filterMap λb=>(h.get? b).map λo=>(b,o)
theorem kA{fp:List Addr}{h:Heap}{b:Addr}{o:Obj}(hb:b∈fp)(e:h.get? b=some o):(b,o)∈qW fp h:=List.mem_filterMap.mpr ⟨b,hb,by rw[e];rfl⟩
theorem CI{fp:List Addr}{h:Heap}{p:Addr×Obj}(hp:p∈qW fp h):p.1∈fp∧h.get? p.1=some p.2:=by
 obtain⟨b,hb,e⟩:=List.mem_filterMap.mp hp;cases q:h.get? b with
 |none=>rw[q] at e;cases e
 |some o=>
  rw[q] at e;have e' :(b,o)=p:=Option.some.inj e;subst e';exact⟨hb,q⟩
theorem Inv.pinned{pins:List (Addr×Obj)}{σ:St}{H:Hp}{s:Shared}{fp:List Addr}(I:Inv X pins σ H s)(hf:∀b∈fp,nC X pins H b)(ho:∀b∈fp,∃o,s.heap.get? b=some o∧∀v,o.data≠ .cell v):Inv X (pins++qW fp s.heap) σ H s:=
 I.By λp hp=>(Gax.mp hp).elim (λz=>I.pin p (Gbb _ z)) λz=>by
  obtain⟨hb,e⟩:=CI z;obtain⟨f0,f1,f2,_⟩:=hf p.1 hb;obtain⟨o,e',d⟩:=ho p.1 hb;rw[e] at e';cases e'
  exact⟨e,f0,f1,f2,d⟩
theorem Inv.nS{pins pl:List (Addr×Obj)}{σ:St}{H:Hp}{s:Shared}(I:Inv X (pins++pl) σ H s):Inv X pins σ H s:=I.By λp hp=>I.pin p (Gbb _ (Gcw _ hp))
theorem En{iter:Expr}{body:List Stmt}{wi:TI}{g:TG}{tb:TS}{pos:Pos}(hp:PassesOwn (model X.prog X.w) X.A X.env X.xe)(hc:X.calm=true)(hi:PI X tg iter wi)(hg:PG X tg g)(hb:PSs X body tb)
  (hs:∀x,foldedSetIterable iter X.env x=pure x:=by intro _;rfl):PS X (.For tg iter body [] pos) (O0 wi g tb):=by
 intro pins s σ H D I h;refine wpAny_For (thn (hi pins s σ H _ I h) λv s1 h1=>thn h1 λitv s2 h2=> ?_) hs;obtain⟨it,fp,tn,J,H2,e,I2,T,st2,f2,W,⟨m0,w0⟩,turn⟩:=h2;subst e;have stat:∀{H' :Hp},(∀b∈fp,H' b=none)→∀b∈fp,nC X pins H' b:=λhn b hb=> ⟨hn b hb,(f2 b hb).2⟩;refine codeAny_forLoop_any (λn s' =>∃i σ' H',Inv X pins σ' H' s' ∧tn i s'.heap∧(∀b∈fp,H' b=none)∧W i n σ' H') ?_ m0 ⟨0,σ,H2,I2,st2,λb hb=>(f2 b hb).1,w0⟩;rintro n s3 ⟨i,σ3,H3,I3,st3,fr3,w3⟩;rcases turn i n σ3 H3 w3 with⟨stop,qn⟩| ⟨go,N,hN,step⟩
 ·refine Gcq hp (thn (T.done X rfl rfl rfl hc i pins s3 σ3 H3 X.xe I3 (stat fr3) st3 stop) λr s4 ⟨hr,I4⟩=> ?_);subst hr;exact GdD ⟨σ3,H3,I4,qn⟩
 ·refine Gcq hp (thn (T.item X rfl rfl rfl hc i pins s3 σ3 H3 X.xe I3 (stat fr3) st3 go) λr s4 ⟨u,hr,h4⟩=> ?_);subst hr;refine Gcq hp (thn h4 λ_ s5 ⟨x,H5,I5,r5,y5,st5,fr5⟩=> ?_);have I5' :=I5.pinned (stat fr5) (T.obj _ _ st5);refine Gcq hp (thn (hg _ s5 σ3 H5 x u _ I5' r5 (step x H5 y5)) λ_ s6 ⟨σ6,H6,I6,q6⟩=> ?_);refine Gcq hp (thn (hb _ s6 σ6 H6 _ I6 q6) λf s7 q7=> ?_);have again:∀{σ7:St} {H7:Hp},Inv X (pins++qW fp s5.heap) σ7 H7 s7→N σ7 H7→∃m,m<n∧∃i σ' H',Inv X pins σ' H' s7∧tn i s7.heap∧(∀b∈fp,H' b=none)∧W i m σ' H' :=λ{σ7 H7} I7 n7=>by
   obtain⟨m',hm,w7⟩:=hN σ7 H7 n7;refine⟨m',hm,i+1,σ7,H7,I7.nS,T.keep _ _ _ st5 λb hb o e=>(I7.pin (b,o) (Gbb _ (Gbb _ (kA hb e)))).1,λb hb=> ?_,w7⟩;obtain⟨o,e,d⟩:=T.obj _ _ st5 b hb;exact(I7.pin (b,o) (Gbb _ (Gbb _ (kA hb e)))).2.1
  cases f with
  |next=>obtain⟨σ7,H7,I7,n7⟩:=q7;exact again I7 n7
  |cont=>obtain⟨σ7,H7,I7,n7⟩:=q7;exact again I7 n7
  |brk=>obtain⟨σ7,H7,I7,q7⟩:=q7;exact⟨σ7,H7,I7.nS,q7⟩
  |ret v=>obtain⟨x7,σ7,H7,I7,r7,q7⟩:=q7;exact⟨x7,σ7,H7,I7.nS,r7,q7⟩
end
abbrev R2:=V→V→Hp→VK→Prop
def OpR(X:Cx)(f:Value→Value→Sem Value)(r:R2):Prop:=
 ∀(pins:List (Addr×Obj)) (s:Shared) (σ:St) (H:Hp) (x y:V) (v u:Value) (Q:VK),Inv X pins σ H s→RelV x v→RelV y u→r x y H Q→
  wpAny (model X.prog X.w) X.A (f v u) (EP X pins σ Q) X.xe s
def UnR(X:Cx)(f:Value→Sem Value)(r:V→Hp→VK→Prop):Prop:=
 ∀(pins:List (Addr×Obj)) (s:Shared) (σ:St) (H:Hp) (x:V) (v:Value) (Q:VK),Inv X pins σ H s→RelV x v→r x H Q→
  wpAny (model X.prog X.w) X.A (f v) (EP X pins σ Q) X.xe s
def gX(X:Cx)(f:Value)(r:List V→Hp→VK→Prop):Prop:=
 ∀(pins:List (Addr×Obj)) (s:Shared) (σ:St) (H:Hp) (xs:List V) (us:List Value) (Q:VK),Inv X pins σ H s→Vals xs us→r xs H Q→
  wpAny (model X.prog X.w) X.A (call f us) (EP X pins σ Q) X.xe s
noncomputable def tOp(r:R2)(ta tb:TE):TE:=λσ H Q=>ta σ H λx H1=>tb σ H1 λy H2=>r x y H2 Q
noncomputable def tUn(r:V→Hp→VK→Prop)(ta:TE):TE:=λσ H Q=>ta σ H λx H1=>r x H1 Q
noncomputable def rI(C:Int→Int→Prop)(g:Int→Int→V):R2:=λx y H Q=>∃i j,x= .int i∧y= .int j∧C i j∧Q (g i j) H
noncomputable def rI0(g:Int→Int→V):R2:=λx y H Q=>∃i j,x= .int i∧y= .int j∧Q (g i j) H
def rU(g:Int→V):V→Hp→VK→Prop:=λx H Q=>∃i,x= .int i∧Q (g i) H
section
variable{X:Cx}{a b c:Expr}{ta tb tc:TE}{pos:Pos}
theorem Jw(ha:PE X a ta)(hb:PE X b tb){pins:List (Addr×Obj)}{s:Shared}{σ:St}{H:Hp}{R:V→V→Hp→Prop}(I:Inv X pins σ H s)
  (h:ta σ H λx H1=>tb σ H1 λy H2=>R x y H2){Q:Value→Shared→Prop}{f:Value→Value→Sem Value}
  (hf:∀v u s2 x y H2,Inv X pins σ H2 s2→RelV x v→RelV y u→R x y H2→wpAny (model X.prog X.w) X.A (f v u) Q X.xe s2):
  wpAny (model X.prog X.w) X.A (eval a X.env) (λv s₁=>wpAny (model X.prog X.w) X.A (eval b X.env) (λu s₂=>wpAny (model X.prog X.w) X.A (f v u) Q X.xe s₂) X.xe s₁) X.xe s:=by
 refine thn (ha pins s σ H _ I h) λv s1 ⟨x,H1,I1,r1,q1⟩=> ?_;refine thn (hb pins s1 σ H1 _ I1 q1) λu s2 ⟨y,H2,I2,r2,q2⟩=> ?_;exact hf v u s2 x y H2 I2 r1 r2 q2
theorem LK{op:Operator}{r:R2}(ho:OpR X (binaryOp op) r)(ha:PE X a ta)(hb:PE X b tb):PE X (.BinOp a op b pos) (tOp r ta tb):=by
 intro pins s σ H Q I h;exact wpAny_BinOp (Jw ha hb I h λv u s2 x y H2 I2 rx ry q=>ho pins s2 σ H2 x y v u Q I2 rx ry q)
theorem LL{op:UnaryOp}{r:V→Hp→VK→Prop}(ho:UnR X (unaryOp op) r)(ha:PE X a ta):PE X (.UnaryOp op a pos) (tUn r ta):=by
 intro pins s σ H Q I h;exact UnaryOp_ (thn (ha pins s σ H _ I h) λv s1 ⟨x,H1,I1,r1,q1⟩=>ho pins s1 σ H1 x v Q I1 r1 q1)
theorem opI{f:Value→Value→Sem Value}{C:Int→Int→Prop}{g:Int→Int→Int}
  (rule:∀(i j:Int) (t u:Tok) (s:Shared) (Q:Value→Shared→Prop) (E:Value→Shared→Prop),C i j→Q (.int (g i j) s.toks) {s with toks:=s.toks+1}→wpAny (model X.prog X.w) X.A (f (.int i t) (.int j u)) Q E s):
  OpR X f (rI C λi j=> .int (g i j)):=by
 intro pins s σ H x y v u Q I rx ry h;obtain⟨i,j,rfl,rfl,hc,q⟩:=h;obtain⟨t,rfl⟩:=rx;obtain⟨t',rfl⟩:=ry;exact rule i j t t' s _ _ hc ⟨.int (g i j),H,I.tok _,⟨_,rfl⟩,q⟩
theorem LM{f:Value→Value→Sem Value}{g:Int→Int→Int}
  (rule:∀(i j:Int) (t u:Tok) (s:Shared) (Q:Value→Shared→Prop) (E:Value→Shared→Prop),Q (.int (g i j) s.toks) {s with toks:=s.toks+1}→wpAny (model X.prog X.w) X.A (f (.int i t) (.int j u)) Q E s):
  OpR X f (rI0 λi j=> .int (g i j)):=by
 intro pins s σ H x y v u Q I rx ry h;obtain⟨i,j,rfl,rfl,q⟩:=h;obtain⟨t,rfl⟩:=rx;obtain⟨t',rfl⟩:=ry;exact rule i j t t' s _ _ ⟨.int (g i j),H,I.tok _,⟨_,rfl⟩,q⟩
theorem GR{f:Value→Value→Sem Value}{g:Int→Int→Bool}
  (rule:∀(i j:Int) (t u:Tok) (s:Shared) (Q:Value→Shared→Prop) (E:Value→Shared→Prop),Q (.bool (g i j)) s→wpAny (model X.prog X.w) X.A (f (.int i t) (.int j u)) Q E s):
  OpR X f (rI0 λi j=> .bl (g i j)):=by
 intro pins s σ H x y v u Q I rx ry h;obtain⟨i,j,rfl,rfl,q⟩:=h;obtain⟨t,rfl⟩:=rx;obtain⟨t',rfl⟩:=ry;exact rule i j t t' s _ _ ⟨.bl (g i j),H,I,rfl,q⟩
def LN(i j:Int):Prop:=0<j∧j<1073741824
def LP(i j:Int):Prop:=0≤j∧j≤1000000∧i.natAbs<2^64
def GU(i j:Int):Prop:=(-(2^64)<i∧i<2^64)∨(-(2^64)<j∧j<2^64)
theorem GU.ok{i j:Int}(h:GU i j):IntMulOk i j:=by
 rcases h with⟨h1,h2⟩| ⟨h1,h2⟩
 ·exact .of_left (intBits_le_64 h1 h2)
 ·exact .of_right (intBits_le_64 h1 h2)
theorem Jx:OpR X (binaryOp .Add) (rI0 λi j=> .int (i+j)):=LM λ_ _ _ _ _ _ _ q=>add_int q
theorem Jy:OpR X (binaryOp .Sub) (rI0 λi j=> .int (i -j)):=LM λ_ _ _ _ _ _ _ q=>sub_int q
theorem Jz:OpR X (binaryOp .Mult) (rI GU λi j=> .int (i*j)):=opI λ_ _ _ _ _ _ _ hc q=>mul_int q hc.ok
theorem GV:OpR X (binaryOp .FloorDiv) (rI LN λi j=> .int (i/j)):=opI λi j _ _ _ _ _ hc q=>by
 have h1:(0:Int)<j:=hc.1;have h2:j<1073741824:=hc.2;exact floordiv_int (by omega) (by rw[Int.fdiv_eq_ediv_of_nonneg i (by omega)];exact q) (.inl (PyProof.noPylong_small (by omega)))
theorem JA:OpR X (binaryOp .Mod) (rI (λ_ j=>0<j) λi j=> .int (i%j)):=opI λi j _ _ _ _ _ hc q=>by
 have h1:(0:Int)<j:=hc;exact mod_int' (by omega) (by rw[Int.fmod_eq_emod_of_nonneg i (by omega)];exact q)
theorem JB:OpR X (binaryOp .Pow) (rI LP λi j=> .int (i^j.toNat)):=opI λ_ _ _ _ _ _ _ hc q=>pow_int_small hc.1 hc.2.1 hc.2.2 q
theorem unI{f:Value→Sem Value}{g:Int→Int}
  (rule:∀(i:Int) (t:Tok) (s:Shared) (Q:Value→Shared→Prop) (E:Value→Shared→Prop),Q (.int (g i) s.toks) {s with toks:=s.toks+1}→wpAny (model X.prog X.w) X.A (f (.int i t)) Q E s):
  UnR X f (rU λi=> .int (g i)):=by
 intro pins s σ H x v Q I rx h;obtain⟨i,rfl,q⟩:=h;obtain⟨t,rfl⟩:=rx;exact rule i t s _ _ ⟨.int (g i),H,I.tok _,⟨_,rfl⟩,q⟩
theorem JC:UnR X (unaryOp .USub) (rU λi=> .int (-i)):=unI λ_ _ _ _ _ q=>neg_int q
end
section
variable{X:Cx}{a b c:Expr}{ta tb tc:TE}{pos:Pos}
theorem Eo{pins:List (Addr×Obj)}{σ:St}{H:Hp}{s:Shared}{Q:VK}{k k' :Bool}(I:Inv X pins σ H s)(q:Q (.bl k) H)(e:k=k'):EP X pins σ Q (.bool k') s:=by
 subst e;exact⟨.bl k,H,I,rfl,q⟩
theorem pS:OpR X (compareOp .Lt) (rI0 λi j=> .bl (decide (i<j))):=GR λ_ _ _ _ _ _ _ q=>lt_int q
theorem vY:OpR X (compareOp .LtE) (rI0 λi j=> .bl (decide (i≤j))):=GR λ_ _ _ _ _ _ _ q=>le_int q
theorem mP:OpR X (compareOp .Gt) (rI0 λi j=> .bl (decide (j<i))):=GR λ_ _ _ _ _ _ _ q=>gt_int q
theorem LQ:OpR X (compareOp .GtE) (rI0 λi j=> .bl (decide (j≤i))):=GR λ_ _ _ _ _ _ _ q=>ge_int q
theorem uP:OpR X (compareOp .Is) (λx y H Q=>y= .non∧Q (.bl (decide (x= .non))) H):=by
 intro pins s σ H x y v u Q I rx ry h;obtain⟨rfl,q⟩:=h;cases ry;refine is_none_gen (Eo I q ?_);cases x<;>first
  |(cases rx;rfl)
  |(obtain⟨t,rfl⟩:=rx;rfl)
theorem qM:OpR X (compareOp .IsNot) (λx y H Q=>y= .non∧Q (.bl (!decide (x= .non))) H):=by
 intro pins s σ H x y v u Q I rx ry h;obtain⟨rfl,q⟩:=h;cases ry;refine isnot_none_gen (Eo I q ?_);cases x<;>first
  |(cases rx;rfl)
  |(obtain⟨t,rfl⟩:=rx;rfl)
theorem OpR.or{f:Value→Value→Sem Value}{r r' :R2}(h:OpR X f r)(h' :OpR X f r'):OpR X f (λx y H Q=>r x y H Q∨r' x y H Q):=by
 intro pins s σ H x y v u Q I rx ry q;rcases q with q|q
 ·exact h pins s σ H x y v u Q I rx ry q
 ·exact h' pins s σ H x y v u Q I rx ry q
theorem aK(b:Expr){op:CmpOp}(h:op≠ .In:=by decide)(h2:op≠ .NotIn:=by decide):behindInMarks op b=false:=by
 have e1:(op==CmpOp.In)=false:=by cases op<;>first|rfl|exact absurd rfl h
 have e2:(op==CmpOp.NotIn)=false:=by cases op<;>first|rfl|exact absurd rfl h2
 cases b<;>simp[behindInMarks,e1,e2]
theorem GW{op:CmpOp}{r:R2}(ho:OpR X (compareOp op) r)(ha:PE X a ta)(hb:PE X b tb)(hm:behindInMarks op b=false):PE X (.Compare a [op] [b] pos) (tOp r ta tb):=by
 intro pins s σ H Q I h;exact wpAny_Compare1 (Jw ha hb I h λv u s2 x y H2 I2 rx ry q=>ho pins s2 σ H2 x y v u Q I2 rx ry q) hm
noncomputable def IY(t:TE):TT:=λσ H Q=>t σ H λx H' =>∃k,x= .bl k∧Q k H'
theorem GX{op:CmpOp}{r:R2}(ho:OpR X (compareOp op) r)(ha:PE X a ta)(hb:PE X b tb)(hm:behindInMarks op b=false):PT X (.Compare a [op] [b] pos) (IY (tOp r ta tb)):=by
 intro pins s σ H Q I h;refine wpAny_isTrue_Compare1 (thn (ha pins s σ H _ I h) λv s1 ⟨x,H1,I1,r1,q1⟩=>thn (hb pins s1 σ H1 _ I1 q1) λu s2 ⟨y,H2,I2,r2,q2⟩=>
  thn (ho pins s2 σ H2 x y v u _ I2 r1 r2 q2) λc s3 ⟨z,H3,I3,r3,k,e,q3⟩=> ?_) hm
 subst e;cases r3;exact GbM ⟨H3,I3,q3⟩
noncomputable def JD(r r' :R2)(ta tb tc:TE):TE:=λσ H Q=>ta σ H λx H1=>tb σ H1 λy H2=>r x y H2 λz H3=>∃k,z= .bl k∧
 (if k=true then tc σ H3 λw' H4=>r' y w' H4 Q else Q (.bl false) H3)
theorem Ep{op op' :CmpOp}{r r' :R2}(ho:OpR X (compareOp op) r)(ho' :OpR X (compareOp op') r')(ha:PE X a ta)(hb:PE X b tb)(hc:PE X c tc)
  (hm:lastMarks [op,op'] [b,c]=false:=by with_unfolding_all rfl):PT X (.Compare a [op,op'] [b,c] pos) (IY (JD r r' ta tb tc)):=by
 intro pins s σ H Q I h;refine isTrue_chain (thn (ha pins s σ H _ I h) λv s1 ⟨x,H1,I1,r1,q1⟩=>test_link (thn (hb pins s1 σ H1 _ I1 q1) λu s2 ⟨y,H2,I2,r2,q2⟩=>
  thn (ho pins s2 σ H2 x y v u _ I2 r1 r2 q2) λd s3 ⟨z,H3,I3,r3,k,e,q3⟩=> ?_)) hm
 subst e;cases r3;refine GbM ?_;cases k with
 |false=>
  obtain⟨k',e',q'⟩:=q3;cases e';exact ite_ff ⟨H3,I3,q'⟩
 |true=>
  refine ite_tt (test_last (thn (hc pins s3 σ H3 _ I3 q3) λw' s4 ⟨z',H4,I4,r4,q4⟩=>thn (ho' pins s4 σ H4 y z' u w' _ I4 r2 r4 q4) λd' s5 ⟨z2,H5,I5,r5,k2,e2,q5⟩=> ?_));subst e2;cases r5;exact GbM ⟨H5,I5,q5⟩
theorem qX:(sizeLine:Nat)<2^63:=by rw[GbP];decide
theorem AH:OpR X (binaryOp .Add) (λx y H Q=>∃i j,x= .str i∧y= .str j∧i.length+j.length≤sizeLine∧Q (.str (i++j)) H):=by
 intro pins s σ H x y v u Q I rx ry h;obtain⟨i,j,rfl,rfl,hz,q⟩:=h;obtain⟨t,rfl⟩:=rx;obtain⟨t',rfl⟩:=ry;exact add_str (λt' tk=> ⟨.str (i++j),H,I.tok _,⟨_,rfl⟩,q⟩) hz
theorem vals1{x:V}{us:List Value}(r:Vals [x] us):∃u,us=[u]∧RelV x u:=by
 cases r with
 |cons r1 r2=>cases r2;exact⟨_,rfl,r1⟩
theorem vals2{x y:V}{us:List Value}(r:Vals [x,y] us):∃u w',us=[u,w']∧RelV x u∧RelV y w' :=by
 cases r with
 |cons r1 r2=>
  cases r2 with
  |cons r3 r4=>cases r4;exact⟨_,_,rfl,r1,r3⟩
theorem CJ(hc:X.calm=true):gX X (.builtin "max") (λxs H Q=>∃i j,xs=[.int i,.int j]∧Q (.int (if j>i then j else i)) H):=by
 intro pins s σ H xs us Q I r h;obtain⟨i,j,rfl,q⟩:=h;obtain⟨u,w',rfl,⟨t,rfl⟩,⟨t',rfl⟩⟩:=vals2 r;refine max_two_ints (I.ok.hd hc) λh' tk k=> ⟨_,H,I.kept k, ?_,q⟩;by_cases hj:j>i
 ·rw[Gai hj,Gai hj];exact⟨_,rfl⟩
 ·rw[Gag hj,Gag hj];exact⟨_,rfl⟩
theorem tL(hc:X.calm=true):gX X (.builtin "min") (λxs H Q=>∃i j,xs=[.int i,.int j]∧Q (.int (if j<i then j else i)) H):=by
 intro pins s σ H xs us Q I r h;obtain⟨i,j,rfl,q⟩:=h;obtain⟨u,w',rfl,⟨t,rfl⟩,⟨t',rfl⟩⟩:=vals2 r;refine min_two_ints (I.ok.hd hc) λh' tk k=> ⟨_,H,I.kept k, ?_,q⟩;by_cases hj:j<i
 ·rw[Gai hj,Gai hj];exact⟨_,rfl⟩
 ·rw[Gag hj,Gag hj];exact⟨_,rfl⟩
def LR(K:PySem.W.Frag)(x:V)(H:Hp)(n:Nat):Prop:=
 match x with
 | .str y=>y.length≤sizeLine∧n=y.length
 | .byt y=>y.size≤sizeLine∧n=y.size
 | .ref p=>(∃xs,SqL K H p xs∧n=xs.length)∨∃xs,SqT K H p xs∧n=xs.length
 |_=>False
theorem cM:gX X (.builtin "len") (λxs H Q=>∃x n,xs=[x]∧LR X.K x H n∧Q (.int n) H):=by
 intro pins s σ H xs us Q I r h;obtain⟨x,n,rfl,e,q⟩:=h;obtain⟨u,rfl,rx⟩:=vals1 r;have hl:=qX;have hs:sizeLine=16777216:=GbP;cases x with
 |str y=>
  obtain⟨t,rfl⟩:=rx;obtain⟨hy,e'⟩:y.length≤sizeLine∧n=y.length:=e;subst e';exact len_str (by omega) ⟨.int _,H,I.tok _,⟨_,rfl⟩,q⟩
 |byt y=>
  obtain⟨t,rfl⟩:=rx;obtain⟨hy,e'⟩:y.size≤sizeLine∧n=y.size:=e;subst e';exact PySem.W.len_bytes (by omega) ⟨.int _,H,I.tok _,⟨_,rfl⟩,q⟩
 |ref p=>
  cases rx;have e' :(∃xs,SqL X.K H p xs∧n=xs.length)∨∃xs,SqT X.K H p xs∧n=xs.length:=e;rcases e' with⟨xs,hx,e'⟩| ⟨xs,hx,e'⟩
  ·subst e';obtain⟨its,r',pl,hz⟩:=I.list hx;have hlen:=r'.length;exact Calls.call_len_list pl.isList (by simp only[Gan];omega) ⟨.int xs.length,H,I.tok _,⟨_,by simp only[Gan];rw[hlen]⟩,q⟩
  ·subst e';obtain⟨its,r',pl,hz⟩:=I.tuple hx;have hlen:=r'.length;exact len_tuple pl (by simp only[Gan];omega) ⟨.int xs.length,H,I.tok _,⟨_,by simp only[Gan];rw[hlen]⟩,q⟩
 |_=>exact(show False from e).elim
end
structure JE(h:Heap)(x dx C:Addr)(mA:Str→Option Value):Prop where
 obj:h.get? x=some (PySem.W.instObj C dx)
 ns:h.Ns1 dx mA
 ne:dx≠x
theorem CK{h:Heap}{dx:Addr}{mA:Str→Option Value}(n:h.Ns1 dx mA):∃od,h.get? dx=some od∧∀name,PySem.W.lookIn name od=some (mA name):=by
 obtain⟨o,es,ep,ho,hd,hk,_,hm⟩:=n;refine⟨o,ho,λname=> ?_⟩;have e:=hm name;unfold nsFind findBy at e;rw[←Array.find?_toList] at e;unfold PySem.W.lookIn;rw[hd];dsimp only;split
 ·rename_i y q;rw[q] at e;exact congrArg some e
 ·rename_i q;rw[q] at e;have a:es.toList.any (·.refKey)=false:=by
   rw[List.any_eq_false];intro y hy;obtain⟨z,t,hkey⟩:=hk y (Array.mem_toList_iff.mp hy);simp[DictEntry.refKey,hkey]
  have a' :¬es.toList.any (·.refKey)=true:=by rw[a];exact Gav
  rw[Gag a'];exact congrArg some e
theorem JE.look{h:Heap}{x dx C:Addr}{mA:Str→Option Value}(I:JE h x dx C mA):∃od,PySem.W.InstAt h x (PySem.W.instObj C dx) C (some od)∧∀name,PySem.W.lookIn name od=some (mA name):=
 let⟨od,ho,hl⟩:=CK I.ns
 ⟨od,⟨I.obj,rfl,rfl,ho⟩,hl⟩
theorem oZ.some_of{v:V}{o:Option Value}(r:oZ (some v) o):∃u,o=some u∧RelV v u:=by
 cases o with
 |none=>exact(show False from r).elim
 |some u=>exact⟨u,rfl,r⟩
section
variable{P:Program}{w:World}{H H' :Hp}{h h' :Heap}{a C dx:Addr}{fs fs' :List (Str×V)}
theorem GY(hok:HOk P w H h)(e:H a=some (.ins C dx fs)):∃mA,JE h a dx C mA∧(∀f,oZ (fs.lookup f) (mA f))∧PySem.Within mA (fs.map (·.1))∧fs.length≤1000∧H dx=some (.own a):=by
 obtain⟨d,z,ne,ob,mA,n,r,q⟩:=(show cz P w H h a (.ins C dx fs) from hok a _ e)
 exact⟨mA,⟨ob,n,ne⟩,r,q,z,d⟩
end
structure Cls(K:PySem.W.Frag)(C:Addr):Prop where
 pg:PySem.W.plainGet K C Str.empty=true
 hd:PySem.W.hasDictIn K C=true
 po:PySem.W.plainOver K C=true
 sa:PySem.W.findIn K (.ref C) "__setattr__"=some (some (.builtin "object.__setattr__"))
theorem Cls.get{K:PySem.W.Frag}{C:Addr}(c:Cls K C)(f:Str):PySem.W.plainGet K C f=true:=c.pg
section
variable{X:Cx}{pins:List (Addr×Obj)}{σ:St}{H:Hp}{s:Shared}{A:Around}{E:Value→Shared→Prop}{Q:Value→Shared→Prop}{c:Value}{b:Bool}
inductive nD(K:PySem.W.Frag)(H:Hp):V→Value→Prop where
 |non:nD K H .non (.type "NoneType")
 |bl (x:Bool):nD K H (.bl x) (.type "bool")
 |int (i:Int):nD K H (.int i) (.type "int")
 |str (x:Str):nD K H (.str x) (.type "str")
 |flt (x:UInt64):nD K H (.flt x) (.type "float")
 |lst {a:Addr} {xs:List V} (e:H a=some (.lst xs)):nD K H (.ref a) (.type "list")
 |frz {a:Addr} {o:Obj} {xs:List V} (e:H a=some (.frz o (.lst xs))):nD K H (.ref a) (.type "list")
 |tup {a:Addr} {xs:List V} (e:H a=some (.tup xs)):nD K H (.ref a) (.type "tuple")
 |dK {a:Addr} {kvs:List (Key×V)} (e:H a=some (.dK kvs)):nD K H (.ref a) (.type "dict")
 |dT {a:Addr} {kvs:List (List Key×V)} (e:H a=some (.dT kvs)):nD K H (.ref a) (.type "dict")
 |ins {a C dx:Addr} {fs:List (Str×V)} (e:H a=some (.ins C dx fs)) (cl:Cls K C) (ha:PySem.W.findIn K (.ref C) "__class__"=some (some (.builtin "object.__class__")))
   (hn:PySem.W.specialIn K (.builtin "object.__class__") "__get__"=some (some (.builtin "getset_descriptor.__get__"))) (htk:PySem.W.takesIn K (.builtin "object.__class__")=some true)
   (hm:PySem.W.mroIn K C (.type "object")=some true):nD K H (.ref a) (.ref C)
theorem CL{x:V}{u t:Value}(I:Inv X pins σ H s)(rx:RelV x u)(ty:nD X.K H x t)(e:PySem.W.kitOne X.K t c=some b)(h:∀tk,Q (.bool b) {s with toks:=tk}):
  wpAny (model X.prog X.w) A (call (.builtin "isinstance") [u,c]) Q E s:=by
 cases ty with
 |non=>cases(show u=Value.none from rx);exact Gbt PySem.W.kitx_none I.kIn True.intro e (λz=>nomatch z) h
 |bl y=>cases(show u=Value.bool y from rx);exact Gbt PySem.W.kitx_bool I.kIn True.intro e (λz=>nomatch z) h
 |int i=>obtain⟨t,q⟩:=(show∃t,u=Value.int i t from rx);cases q;exact Gbt PySem.W.kitx_int I.kIn True.intro e (λz=>nomatch z) h
 |str y=>obtain⟨t,q⟩:=(show∃t,u=Value.str y t from rx);cases q;exact Gbt PySem.W.kitx_str I.kIn True.intro e (λz=>nomatch z) h
 |flt y=>obtain⟨t,q⟩:=(show∃t,u=Value.float y t from rx);cases q;exact Gbt PySem.W.kitx_float I.kIn True.intro e (λz=>nomatch z) h
 | @lst a xs ea=>
  cases(show u=Value.ref a from rx);obtain⟨_,_,n,_,h1⟩:=(show cz X.prog X.w H s.heap a (.lst xs) from I.hok a _ ea)
  exact Gbt PySem.W.kitx_list I.kIn ⟨_,h1,rfl⟩ e (λz=>nomatch z) h
 | @frz a ob xs ea=>
  cases(show u=Value.ref a from rx);obtain⟨_,_,_,n,_,h1⟩:=(show cz X.prog X.w H s.heap a (.frz ob (.lst xs)) from I.hok a _ ea)
  exact Gbt PySem.W.kitx_list I.kIn ⟨_,h1,rfl⟩ e (λz=>nomatch z) h
 | @tup a xs ea=>
  cases(show u=Value.ref a from rx);obtain⟨_,_,_,p⟩:=(show cz X.prog X.w H s.heap a (.tup xs) from I.hok a _ ea)
  obtain⟨o,h1,h2,_⟩:=p;exact Gbt PySem.W.kitx_tuple I.kIn ⟨o,h1,h2⟩ e (λz=>nomatch z) h
 | @dK a kvs ea=>
  cases(show u=Value.ref a from rx);obtain⟨_,_,vs,_,p⟩:=(show cz X.prog X.w H s.heap a (.dK kvs) from I.hok a _ ea)
  obtain⟨o,es,ep,h1,h2,_⟩:=p;exact Gbt PySem.W.kitx_dict I.kIn ⟨o,h1,h2.1⟩ e (λz=>nomatch z) h
 | @dT a kvs ea=>
  cases(show u=Value.ref a from rx);obtain⟨_,_,xs,_,o,es,ep,h1,h2,_⟩:=(show cz X.prog X.w H s.heap a (.dT kvs) from I.hok a _ ea)
  exact Gbt PySem.W.kitx_dict I.kIn ⟨o,h1,h2.1⟩ e (λz=>nomatch z) h
 | @ins a C dx fs ea cl ha hn htk hm=>
  cases(show u=Value.ref a from rx);obtain⟨mA,O,_⟩:=GY I.hok ea;obtain⟨od,J,_⟩:=O.look;exact Gbt (PySem.W.kitx_own (cl.get _) cl.hd ha hn htk hm) I.kIn J e (λz=>nomatch z) h
end
structure iq(k:Nat)(A:Around):Prop where
 hd:A.handled=none
 dp:A.depth+3*k+5<recursionLimit
 un:A.units+16*k+200<cLine
theorem iq.mono{j k:Nat}{A:Around}(r:iq k A)(h:j≤k):iq j A:=⟨r.hd,by have:=r.dp;omega,by have:=r.un;omega⟩
theorem iq.deeper{k:Nat}{A:Around}(r:iq (k+1) A)(env:Env):iq k (A.deeper env):=
 ⟨r.hd,by have:=r.dp;show A.depth+1+3*k+5<_;omega,by have:=r.un;show A.units+3+16*k+200<_;omega⟩
theorem AI{A:Around}{C:Addr}{us:List Value}{kw:List (Str×Value)}:(A.under (.builtin "type.__call__" ⟨.ref C::us,kw⟩)).depth=A.depth+1:=by
 first|rfl|simp[Around.under,Code.weight,Code.isCreation,Code.isGuard,Code.isCaller,Code.frames,Code.isFrame,guardIds]
theorem AJ{A:Around}{C:Addr}{us:List Value}{kw:List (Str×Value)}:(A.under (.builtin "type.__call__" ⟨.ref C::us,kw⟩)).units=A.units+1:=by
 first|rfl|simp[Around.under,Code.cUnits,Code.frames,Code.isFrame]
theorem iq.make{k:Nat}{A:Around}(r:iq (k+1) A)(C:Addr)(us:List Value)(kw:List (Str×Value)):iq k (A.under (.builtin "type.__call__" ⟨.ref C::us,kw⟩)):=
 ⟨r.hd,by have:=r.dp;rw[AI];omega,by have:=r.un;rw[AJ];omega⟩
theorem iq.depth{k:Nat}{A:Around}(r:iq k A):A.depth<recursionLimit:=by have:=r.dp;omega
theorem iq.units{k:Nat}{A:Around}(r:iq k A):A.units+64<cLine:=by have:=r.un;omega
noncomputable def O1:TA:=λ_ H Q=>Q [] H
noncomputable def LU(ta:TE)(tr:TA):TA:=λσ H Q=>ta σ H λx H1=>tr σ H1 λxs H2=>Q (x::xs) H2
section
variable{X:Cx}{e:Expr}{es:List Expr}{te:TE}{t:TA}{pos:Pos}
theorem AK:PA X [] O1:=λ_ _ _ _ H Q I h=>Calls.spliced_nil ⟨[],H,I,.nil,h⟩
theorem uQ(ha:PE X e te)(hr:PA X es t)(hs:starEach (e::es) X.env=(false,eval e X.env)::starEach es X.env:=by rfl):PA X (e::es) (LU te t):=by
 intro pos pins s σ H Q I h;rw[hs];show wpAny _ _ (spliced ((false,eval e X.env)::backTo pos (starEach es X.env))) _ _ s;refine GcH (thn (ha pins s σ H _ I h) λu s1 ⟨x,H1,I1,r1,q1⟩=> ?_);exact thn (hr pos pins s1 σ H1 _ I1 q1) λus s2 ⟨xs,H2,I2,r2,q2⟩=> ⟨x::xs,H2,I2,.cons r1 r2,q2⟩
noncomputable def O2(t:TA):TE:=λσ H Q=>t σ H λxs H1=>xs.length≤sizeLine∧∀p,H1 p=none→Q (.ref p) (upd H1 p (.tup xs))
noncomputable def O3(t:TA):TE:=λσ H Q=>t σ H λxs H1=>xs.length≤sizeLine∧∀p,H1 p=none→Q (.ref p) (upd H1 p (.lst xs))
theorem JF{x1}(h:PA X es t):PE X (.Tuple es x1 pos) (O2 t):=by
 intro pins s σ H Q I hq;refine wpAny_Tuple_spliced (thn (h pos pins s σ H _ I hq) λus s1 ⟨xs,H1,I1,r,z,q⟩=> ⟨by rw[←r.length];exact z, ?_⟩);have hf:H1 s1.heap.objs.size=none:=I1.hok.fresh (Gar _);refine⟨.ref s1.heap.objs.size,upd H1 s1.heap.objs.size (.tup xs),I1.laid (t' :=s1.toks) (λb u e=>Gah _ e) (Gar _) ?_,rfl,q _ hf⟩;exact⟨z,us,r,⟨_,Gaz _ rfl,rfl,_,rfl⟩⟩
theorem Er(h:PA X es t):PE X (.List es pos) (O3 t):=by
 intro pins s σ H Q I hq;refine wpAny_List_spliced (thn (h pos pins s σ H _ I hq) λus s1 ⟨xs,H1,I1,r,z,q⟩=> ⟨by rw[←r.length];exact z, ?_⟩);have hf:H1 s1.heap.objs.size=none:=I1.hok.fresh (Gar _);refine⟨.ref s1.heap.objs.size,upd H1 s1.heap.objs.size (.lst xs),I1.laid (t' :=s1.toks) (λb u e=>Gah _ e) (Gar _) ?_,rfl,q _ hf⟩;exact⟨z,us,0,r,Gaz _ rfl⟩
end
abbrev Sp:=List V→Hp→VK→XK→Prop
abbrev CXT:=List Env→Hp→Shared→XK→Value→Shared→Prop
structure AL(P:Program)(w:World)(K:PySem.W.Frag)(mg:Str→Option Value)(base:Heap)(A:Around)(outer:List Env)(s:Shared)(H:Hp):Prop where
 frames:A.frames=some outer
 mod:Mod K mg base
 bs:∀b o,base.get? b=some o→s.heap.get? b=some o∧H b=none
 bsz:base.objs.size≤s.heap.objs.size
 qD:s.heap.FunFrames base outer
 frf:∀b∈frs outer,H b=none
 hok:HOk P w H s.heap
 bare:AllBare s.gens
def CE(outer:List Env)(P:Program)(w:World)(H:Hp)(s:Shared)(Q:VK)(u:Value)(s' :Shared):Prop:=
 ∃v H',s'.os=s.os∧AllBare s'.gens∧Un (frs outer) [] H H' s.heap s'.heap∧HOk P w H' s'.heap∧RelV v u∧Q v H'
def CR(CX:CXT)(outer:List Env)(P:Program)(w:World)(H:Hp)(s:Shared)(Q:VK)(E:XK)(r:Result)(s' :Shared):Prop:=
 match r with
 | .ok (.ret u)=>CE outer P w H s Q u s'
 | .ok _=>False
 | .error e=>CX outer H s E e s'
structure cw(P:Program)(w:World)(K:PySem.W.Frag)(mg:Str→Option Value)(base:Heap)(CX:CXT)(k:Nat)(f:Addr)(fd:FuncData)(ps:List Str)(sp:Sp):Prop where
 len:∀vs H Q E,sp vs H Q E→vs.length=ps.length
 run:∀(A:Around) (outer:List Env) (s:Shared) (H:Hp) (args:Args) (us:List Value) (vs:List V) (Q:VK) (E:XK),iq k A→AL P w K mg base A outer s H→BindsTo s fd args (ps.zip us)→Vals vs us→sp vs H Q E→
  codeAny (model P w) A (.call (.ref f) args) (CR CX outer P w H s Q E) s
theorem cw.mono{P:Program}{w:World}{K:PySem.W.Frag}{mg:Str→Option Value}{base:Heap}{CX:CXT}{j k:Nat}{f:Addr}{fd:FuncData}{ps:List Str}{sp:Sp}(F:cw P w K mg base CX j f fd ps sp)(h:j≤k):
  cw P w K mg base CX k f fd ps sp:=⟨F.len,λA outer s H args us vs Q E hr=>F.run A outer s H args us vs Q E (hr.mono h)⟩
theorem cw.imp{P:Program}{w:World}{K:PySem.W.Frag}{mg:Str→Option Value}{base:Heap}{CX:CXT}{k:Nat}{f:Addr}{fd:FuncData}{ps:List Str}{sp sp' :Sp}(F:cw P w K mg base CX k f fd ps sp)
  (h:∀vs H Q E,sp' vs H Q E→sp vs H Q E):cw P w K mg base CX k f fd ps sp' :=
 ⟨λvs H Q E q=>F.len vs H Q E (h _ _ _ _ q),λA outer s H args us vs Q E hr he hb hv hs=>F.run A outer s H args us vs Q E hr he hb hv (h _ _ _ _ hs)⟩
theorem AL.make{P:Program}{w:World}{K:PySem.W.Frag}{mg:Str→Option Value}{base:Heap}{A:Around}{outer:List Env}{s:Shared}{H:Hp}(e:AL P w K mg base A outer s H)(C:Addr)(us:List Value)(kw:List (Str×Value)):
  AL P w K mg base (A.under (.builtin "type.__call__" ⟨.ref C::us,kw⟩)) outer s H:=⟨by first|exact e.frames|(simpa[Around.under,Code.envs,Code.isFrame,pushEnvs] using e.frames),e.mod,e.bs,e.bsz,e.qD,e.frf,e.hok,e.bare⟩
section
variable{X:Cx}{pins:List (Addr×Obj)}{σ:St}{H:Hp}{s s' :Shared}
theorem Inv.O4(I:Inv X pins σ H s):AL X.prog X.w X.K X.mg X.base X.A X.stack s H:=
 ⟨I.ok.frames,I.ok.mod,I.bs,Gbx I.ok.bsz I.sz,I.stack,I.Bx,I.hok,I.bare⟩
theorem Inv.after{Q:VK}{u:Value}(I:Inv X pins σ H s)(h:CE X.stack X.prog X.w H s Q u s'):EP X pins σ Q u s' :=by
 obtain⟨v,H',os,bare,un,hok,r,q⟩:=h;obtain⟨hh,g,d,t,os'⟩:=s';obtain rfl:os' =s.os:=os;exact⟨v,H',I.call (h' :=hh) (g' :=g) (d' :=d) (t' :=t) (ch:=[]) un hok bare (λb z=>absurd z (by simp)),r,q⟩
end
noncomputable def LV(sp:Sp)(dvs:List V)(E:XK)(t:TA):TE:=λσ H Q=>t σ H λvs H1=>sp (vs++dvs) H1 Q E
def Binds(K:PySem.W.Frag)(fd:FuncData)(ps:List Str)(ds:List Value):Prop:=
 ∀(s:Shared) (us:List Value),K.In s.heap→(us++ds).length=ps.length→BindsTo s fd ⟨us,[]⟩ (ps.zip (us++ds))
theorem Binds.all{K:PySem.W.Frag}{fd:FuncData}{ps:List Str}(h:∀us:List Value,us.length=ps.length→bindArgs fd ⟨us,[]⟩=pure (ps.zip us)):Binds K fd ps []:=λs us _ hl=>by
 rw[Gbn] at hl⊢;exact .of_eq (h us hl)
def Passes(CX:CXT)(X:Cx)(E:XK):Prop:=∀(pins:List (Addr×Obj)) (σ:St) (H:Hp) (s:Shared) (e:Value) (s' :Shared),Inv X pins σ H s→CX X.stack H s E e s' →X.xe e s'
section
variable{X:Cx}{CX:CXT}{k:Nat}{f C:Addr}{fd:FuncData}{ps:List Str}{sp:Sp}{dvs:List V}{ds:List Value}{E:XK}{x m:Str}{p pos apos:Pos}{e o:Expr}{es:List Expr}{ta:TE}{t:TA}
theorem JG{pins:List (Addr×Obj)}{σ:St}{H:Hp}{s:Shared}{Q:VK}{us:List Value}{vs:List V}(F:cw X.prog X.w X.K X.mg X.base CX k f fd ps sp)(hr:iq k X.A)(hb:Binds X.K fd ps ds)(hd:Vals dvs ds)(hx:Passes CX X E)
  (I:Inv X pins σ H s)(r:Vals vs us)(h:sp (vs++dvs) H Q E):wpAny (model X.prog X.w) X.A (call (.ref f) us) (EP X pins σ Q) X.xe s:=by
 have r2:Vals (vs++dvs) (us++ds):=r.append hd;have hl:(us++ds).length=ps.length:=by rw[←r2.length];exact F.len _ _ _ _ h
 refine wpAny_call (codeAny_mono (F.run X.A X.stack s H ⟨us,[]⟩ (us++ds) (vs++dvs) Q E hr I.O4 (hb s us I.kIn hl) r2 h) λr s' hq=> ?_);cases r with
 |error e=>exact hx pins σ H s e s' I hq
 |ok fl=>
  cases fl with
  |ret u=>exact I.after hq
  |next=>exact False.elim hq
  |brk=>exact False.elim hq
  |cont=>exact False.elim hq
theorem GZ(F:cw X.prog X.w X.K X.mg X.base CX k f fd ps sp)(hr:iq k X.A)(hg:Gl X x)(hm:X.mg x=some (.ref f))(hk:PySem.W.keepIn X.K (.ref f)=true)(hb:Binds X.K fd ps ds)(hd:Vals dvs ds)(hx:Passes CX X E)
  (ha:PA X (e::es) t)(hdb:(x==("__debug__":Str))=false:=by decide)(he:starEach (e::es) X.env=(false,eval e X.env)::starEach es X.env:=by rfl)(hpl:(backTo pos (starEach es X.env)).any (·.1)=false:=by rfl):
  PE X (.Call (.Name x p) (e::es) [] pos) (LV sp dvs E t):=by
 intro pins s σ H Q I h;refine GcY (GL I hg hm ?_ hdb);refine PySem.W.callWith_K (h₀:=X.base) I.ok.mod.kin hk (thn (ha pos pins s σ H _ I h) λus s1 ⟨vs,H1,I1,r,q⟩=> ⟨I1.kIn, ?_⟩) he hpl;exact JG F hr hb hd hx I1 r q
end
structure aW(N P:List Str)(sc:Scope):Prop where
 kind:sc.kind= .function
 co:sc.isCoroutine=false
 gen:sc.isGenerator=false
 nd:N.Nodup
 pre:N.take P.length=P
 par:∀x∈P,sc.names.lookup x=some .local∨sc.names.lookup x=some .cell
 La:∀y∈sc.names,y.2≠ .free
theorem tN{kindOf:Str→Option NameKind}{x:Str}:∀{binds:List (Str×Value)} {m:Str→Option Value},(∀v,(x,v)∉binds)→bindL kindOf binds m x=m x
 |[],_,_=>rfl
 |(n,v)::r,m,h=>by
  unfold bindL;rw[tN λw hw=>h w (Gaj _ hw)];split
  ·have:x≠n:=by rintro rfl;exact h v Gao
   simp[this]
  ·rfl
theorem tP{kindOf:Str→Option NameKind}{x:Str}:∀{binds:List (Str×Value)} {m:Str→Option Value},(∀v,(x,v)∉binds)→bindC kindOf binds m x=m x
 |[],_,_=>rfl
 |(n,v)::r,m,h=>by
  unfold bindC;rw[tP λw hw=>h w (Gaj _ hw)];split
  ·rfl
  ·have:x≠n:=by rintro rfl;exact h v Gao
   simp[this]
theorem tQ{kindOf:Str→Option NameKind}{x:Str}{v:Value}:∀{P:List Str} {vs:List Value} {i:Nat} {m:Str→Option Value},P.Nodup→P[i]? =some x→vs[i]? =some v→kindOf x=some .local→
  bindL kindOf (P.zip vs) m x=some v
 |[],_,_,_,_,h,_,_=>by simp at h
 |_::_,[],_,_,_,_,h,_=>by simp at h
 |p::P,w::vs,0,m,nd,h1,h2,hk=>by
  simp at h1 h2;subst h1;subst h2
  show bindL kindOf ((p,w)::P.zip vs) m p=_;unfold bindL;rw[tN λv hv=>(Gcr.mp nd).1 (List.of_mem_zip hv).1,Gai hk];simp
 |p::P,w::vs,i+1,m,nd,h1,h2,hk=>by
  show bindL kindOf ((p,w)::P.zip vs) m x=_;unfold bindL;exact tQ (i:=i) (Gcr.mp nd).2 (by simpa using h1) (by simpa using h2) hk
theorem tR{kindOf:Str→Option NameKind}{x:Str}{v:Value}:∀{P:List Str} {vs:List Value} {i:Nat} {m:Str→Option Value},P.Nodup→P[i]? =some x→vs[i]? =some v→kindOf x≠some .local→
  bindC kindOf (P.zip vs) m x=some v
 |[],_,_,_,_,h,_,_=>by simp at h
 |_::_,[],_,_,_,_,h,_=>by simp at h
 |p::P,w::vs,0,m,nd,h1,h2,hk=>by
  simp at h1 h2;subst h1;subst h2
  show bindC kindOf ((p,w)::P.zip vs) m p=_;unfold bindC;rw[tP λv hv=>(Gcr.mp nd).1 (List.of_mem_zip hv).1,Gag hk];simp
 |p::P,w::vs,i+1,m,nd,h1,h2,hk=>by
  show bindC kindOf ((p,w)::P.zip vs) m x=_;unfold bindC;exact tR (i:=i) (Gcr.mp nd).2 (by simpa using h1) (by simpa using h2) hk
noncomputable def start(N:List Str)(vs:List V):St:=vs.map some++List.replicate (N.length -vs.length) none
noncomputable def AM(CX:CXT)(P:Program)(w:World)(K:PySem.W.Frag)(mg:Str→Option Value)(base:Heap)(N:List Str)(qual:Str)(scope:Scope)(f:Addr)(cd:Value)(A:Around)(outer:List Env)(s:Shared)(H:Hp)(E:XK):Cx where
 prog:=P
 w:=w
 K:=K
 mg:=mg
 base:=base
 A:=A.deeper (envOfC qual scope s.heap.objs.size f cd)
 N:=N
 s₀:=s
 H₀:=H
 env:=envOfC qual scope s.heap.objs.size f cd
 outer:=outer
 stack:=envOfC qual scope s.heap.objs.size f cd::outer
 ex:=[]
 calm:=true
 fn:=λ_=>true
 pn:=[]
 xe:=λe s' =>wpAny (model P w) (A.deeper (envOfC qual scope s.heap.objs.size f cd)) (leaving (envOfC qual scope s.heap.objs.size f cd) e) (λ_ s'' =>CX outer H s E e s'') (λe' s'' =>CX outer H s E e' s'') s'
theorem vZ{sc:Scope}{n:Nat}{x:Str}(h:sc.names.lookup x=some .cell):∃c,(cellsFrom n sc.names []).lookup x=some c:=by
 have q:=PySem.W.cellsFrom_some sc.names n [] (.inl h);exact Option.isSome_iff_exists.mp q
theorem CM{CX:CXT}{P:Program}{w:World}{K:PySem.W.Frag}{mg:Str→Option Value}{base:Heap}{N ps:List Str}{qual:Str}{scope:Scope}{f:Addr}{cd:Value}{A:Around}{outer:List Env}{s s1:Shared}{H:Hp}{E:XK}{us:List Value}{vs:List V}
  (S:aW N ps scope)(hd:A.handled=none)(e0:AL P w K mg base A outer s H)(hl:vs.length=ps.length)(r:Vals vs us)
  (x:InCallC s s.heap.objs.size (bindL (envOfC qual scope s.heap.objs.size f cd).kindOf (ps.zip us) λ_=>none) (cellsFrom (s.heap.objs.size+1) scope.names []) (bindC (envOfC qual scope s.heap.objs.size f cd).kindOf (ps.zip us) λ_=>none) s1):
  Inv (AM CX P w K mg base N qual scope f cd A outer s H E) [] (start N vs) H s1:=by
 have hpl:ps.length≤N.length:=by have:=congrArg List.length S.pre;rw[GcS] at this;omega
 obtain⟨h1,tk,rfl,hk⟩:=x.done;have noA:∀b:Addr,b∉(AM CX P w K mg base N qual scope f cd A outer s H E).ex:=λb z=>absurd (show b∈([]:List Addr) from z) (by simp);refine⟨⟨e0.mod,S.kind,rfl,rfl,Gar _,λy z c h1 h2=> ?_,λy hy=> ?_,λy c _ h=> ?_,λ_=>hd,Around.frames_deeper e0.frames,.inr ⟨rfl,rfl⟩,λb z=>absurd z (noA b),e0.bs,e0.bsz,λb _ _=>noA b,λb z=>absurd z (noA b),e0.qD,e0.frf⟩,
  rfl,e0.bare,Un.kept hk,⟨_,x.toInCall.ns,λi y v h1 h2 h3=> ?_⟩,λy c h=> ⟨_,x.cell y c h⟩,e0.hok.fresh (Gar _),λy c h=> ?_,λp hp=>absurd (show p∈([]:List (Addr×Obj)) from hp) (by simp),e0.hok.kept hk, ?_⟩
 ·exact name_of_addr x.apart (PySem.mem_of_lookup h1) (PySem.mem_of_lookup h2)
 ·have hy:scope.names.lookup y=some .cell∨scope.names.lookup y=some .free:=hy;rcases hy with hy|hy
  ·exact vZ hy
  ·exact absurd rfl (S.La _ (PySem.mem_of_lookup hy))
 ·exact GdC (x.above y c (PySem.mem_of_lookup h))
 ·have hi:i<vs.length:=by
   unfold start at h2;by_cases hi:i<vs.length
   ·exact hi
   ·rw[GaM (by simpa using hi)] at h2;rw[GcF] at h2;split at h2<;>cases h2
  have ha:vs[i]? =some v:=by
   unfold start at h2;rw[GaX (by simpa using hi),Gak] at h2;cases e:vs[i]? with
   |none=>rw[e] at h2;cases h2
   |some a=>rw[e] at h2;cases h2;rfl
  obtain⟨u,hu,rv⟩:=r.get ha;have hp:ps[i]? =some y:=by
   rw[←S.pre,GaZ (by omega)];exact h1
  have ndP:ps.Nodup:=by rw[←S.pre];exact S.nd.sublist (List.take_sublist _ _)
  refine⟨u,rv, ?_⟩;rcases S.par y (GaK hp) with k|k
  ·exact .inl ⟨k,tQ ndP hp hu k⟩
  ·obtain⟨c,e⟩:=vZ (n:=s.heap.objs.size+1) k;refine .inr ⟨.inl k,c,e, ?_⟩;have q:=x.cell y c e;rw[tR ndP hp hu (by show scope.names.lookup y≠_;rw[k];decide)] at q;exact q
 ·exact e0.hok.fresh (GdC (x.above y c (PySem.mem_of_lookup h)))
 ·unfold start;show _=N.length;rw[GaA,Gaf,Gdz];omega
theorem LW{CX:CXT}{P:Program}{w:World}{K:PySem.W.Frag}{mg:Str→Option Value}{base:Heap}{k:Nat}{f:Addr}{name qual:Str}{params:Arguments}{body:List Stmt}{scope:Scope}{dV kV doc pm cdv ct oc:Value}{an od:Option Addr}
  {osl:Array (Option Value)}{N ps:List Str}{sp:Sp}(lk:K.lookup f=some ⟨oc,od,.func (PySem.W.fnOf name qual params body scope dV kV doc pm an cdv ct),osl⟩)(hcd:PySem.W.codeIn K cdv qual=true)(S:aW N ps scope)
  (len:∀vs H Q E,sp vs H Q E→vs.length=ps.length)
  (hbody:∀(A:Around) (outer:List Env) (s:Shared) (H:Hp) (vs:List V) (Q:VK) (E:XK),iq k (A.deeper (envOfC qual scope s.heap.objs.size f cdv))→sp vs H Q E→
   ∃t,PSs (AM CX P w K mg base N qual scope f cdv A outer s H E) body t∧t {nx:=λ_ H' =>Q .non H',rt:=Q} (start N vs) H):
  cw P w K mg base CX (k+1) f (PySem.W.fnOf name qual params body scope dV kV doc pm an cdv ct) ps sp:=by
 refine⟨len,λA outer s H args us vs Q E hr e0 hb r hsp=> ?_⟩;have hl:=len _ _ _ _ hsp;have KX:K.In s.heap:=e0.mod.kin.keeps λb o e=>(e0.bs b o e).1;have lim:s.heap.NoLimit:=e0.mod.nolimit.keeps λb o e=>(e0.bs b o e).1;have hkind:∀y∈ps.zip us,scope.names.lookup y.1=some .local∨(scope.names.lookup y.1=some .cell∧((cellsFrom (s.heap.objs.size+1) scope.names []).lookup y.1).isSome=true):=λ⟨n,v⟩ hy=>by
  rcases S.par n (List.of_mem_zip hy).1 with q|q
  ·exact .inl q
  ·exact .inr ⟨q,PySem.W.cellsFrom_some _ _ _ (.inl q)⟩
 refine codeAny_call_function hr.depth (KX _ _ lk) rfl S.co S.gen rfl (PySem.W.codeRec_of KX hcd) (hb _ _ _ _ ?_);refine wpAny_newFunctionEnv_cells S.kind hkind λenv he s1 x=> ?_;subst he;refine⟨lim.keeps x.toInCall.keep,codeAny_func ?_⟩;obtain⟨t,ht,hq⟩:=hbody A outer s H vs Q E (hr.deeper _) hsp;have I:Inv (AM CX P w K mg base N qual scope f cdv A outer s H E) [] (start N vs) H s1:=CM S hr.hd e0 hl r x;refine Gcb (ht [] s1 (start N vs) H _ I hq) (λfl s' hs=> ?_) λe s' hs=>hs;have fin:∀{σ' :St} {H' :Hp} {v:V} {u:Value},Inv (AM CX P w K mg base N qual scope f cdv A outer s H E) [] σ' H' s' →RelV v u→Q v H' →CE outer P w H s Q u s' :=
  λ{σ' H' v u} J rv q=> ⟨v,H',J.os,J.bare,J.base,J.hok,rv,q⟩
 cases fl with
 |ret u=>
  obtain⟨v,σ',H',J,rv,q⟩:=hs;exact fin J rv q
 |next=>
  obtain⟨σ',H',J,q⟩:=hs;exact fin (v:=V.non) (u:=Value.none) J rfl q
 |brk=>
  obtain⟨_,_,_,q⟩:=hs;exact False.elim q
 |cont=>
  obtain⟨_,_,_,q⟩:=hs;exact False.elim q
section
variable{X:Cx}{x:Str}{p pos:Pos}{e:Expr}{es:List Expr}{t:TA}{id T:String}{r:List V→Hp→VK→Prop}
noncomputable def tCB(r:List V→Hp→VK→Prop)(t:TA):TE:=λσ H Q=>t σ H λvs H1=>r vs H1 Q
theorem w6(hc:gX X (.builtin id) r)(hg:Gl X x)(hm:X.mg x=none)(hv:bootBuiltins x=some (.builtin id))(ha:PA X (e::es) t)(hn:x≠"__name__":=by decide)(hdb:(x==("__debug__":Str))=false:=by decide)
  (he:starEach (e::es) X.env=(false,eval e X.env)::starEach es X.env:=by rfl)(hpl:(backTo pos (starEach es X.env)).any (·.1)=false:=by rfl):PE X (.Call (.Name x p) (e::es) [] pos) (tCB r t):=by
 intro pins s σ H Q I h;refine GcY (nB I hg hm hv ?_ hn hdb);exact PyProof.Rows.callWith_builtin1 (thn (ha pos pins s σ H _ I h) λus s1 ⟨vs,H1,I1,r1,q1⟩=>hc pins s1 σ H1 vs us Q I1 r1 q1) he hpl
theorem CN(hc:gX X (.type T) r)(hg:Gl X x)(hm:X.mg x=none)(hv:bootBuiltins x=some (.type T))(ha:PA X (e::es) t)(hn:x≠"__name__":=by decide)(hdb:(x==("__debug__":Str))=false:=by decide)
  (he:starEach (e::es) X.env=(false,eval e X.env)::starEach es X.env:=by rfl)(hpl:(backTo pos (starEach es X.env)).any (·.1)=false:=by rfl):PE X (.Call (.Name x p) (e::es) [] pos) (tCB r t):=by
 intro pins s σ H Q I h;refine GcY (nB I hg hm hv ?_ hn hdb);exact Gco (thn (ha pos pins s σ H _ I h) λus s1 ⟨vs,H1,I1,r1,q1⟩=>hc pins s1 σ H1 vs us Q I1 r1 q1) he hpl
end
end L2
namespace HT
open PySem PyProof.Rows
section
open PySem.SeqAt
open PySem.AutoSeq1 (wpAny_loadPart')
open PySem.MeetsSeq PySem.MeetsSeq2 PySem.MeetsSeq3
end
section
variable{prog:Program}{w:World}{A:Around}{E:Value→Shared→Prop}{s:Shared}
theorem H0{t b:Addr}{vs ws:List Value}{Q:Value→Shared→Prop}(ht:IsTup s.heap t vs.toArray)(hb:IsTup s.heap b ws.toArray)(hv:vs≠[])
  (h1:ws=[]→Q (.ref t) s)(h2:ws≠[]→Q (.ref s.heap.objs.size) {s with heap:=s.heap.push {cls:= .type "tuple",data:= .seq (vs++ws).toArray}})
  (hsz:vs.length+ws.length≤sizeLine):wpAny (model prog w) A (binaryOp .Add (.ref t) (.ref b)) Q E s:=by
 obtain⟨⟨cls,dd,data,sl⟩,ho,hc,n,hd⟩:=id ht;obtain⟨⟨cls2,dd2,data2,sl2⟩,ho2,hc2,n2,hd2⟩:=id hb;simp only at hc hd hc2 hd2;subst hc hd hc2 hd2;have e:vs.toArray++ws.toArray=(vs++ws).toArray:=by simp
 by_cases hw:ws=[]
 ·exact concat_meets ⟨_,ho,rfl⟩ ⟨_,ho2,rfl⟩ noFill_tuple_add seq_tuple_add PySem.F.slot_tuple_add PySem.F.entry_tuple_add (PySem.F.args_tuple_add_2 _ _)
   (tuple_addW1 t b vs.toArray ws.toArray n n2 dd dd2 sl sl2 (by simpa using hv) (by simp[hw])) ⟨ho,ho2,h1 hw⟩
 ·refine concat_meets ⟨_,ho,rfl⟩ ⟨_,ho2,rfl⟩ noFill_tuple_add seq_tuple_add PySem.F.slot_tuple_add PySem.F.entry_tuple_add (PySem.F.args_tuple_add_2 _ _)
   (tuple_addW2 t b vs.toArray ws.toArray n n2 dd dd2 sl sl2 (by simpa using hv) (by simpa using hw) (by rw[Gan,Gan];exact hsz)) ⟨ho,ho2, ?_⟩
  rw[e];exact h2 hw
noncomputable def sIx(n d:Nat):Option Int→Nat
 |none=>d
 |some v=>if v<0 then(v+(n:Int)).toNat else min v.toNat n
theorem JH(n d:Nat)(hd:d≤n)(o:Option Int):sIx n d o≤n:=by
 cases o with
 |none=>exact hd
 |some v=>
  show(if v<0 then(v+(n:Int)).toNat else min v.toNat n)≤n;by_cases hv:v<0
  ·rw[Gai hv];omega
  ·rw[Gag hv];exact Nat.min_le_right _ _
theorem BA(v:Int)(n d:Nat):(if v<0 then max (v+(n:Int)) 0 else min v (n:Int))=((sIx n d (some v):Nat):Int):=by
 show(if v<0 then max (v+(n:Int)) 0 else min v (n:Int))=(((if v<0 then(v+(n:Int)).toNat else min v.toNat n):Nat):Int);by_cases hv:v<0
 ·simp only[Gai hv];omega
 ·simp only[Gag hv];omega
theorem AN(lo hi:Option Int)(n:Nat):Builtin.Slice.sliceAdjust lo hi 1 (n:Int)=(((sIx n 0 lo:Nat):Int),((sIx n n hi:Nat):Int)):=by
 have h1:¬((1:Int)<0):=by omega
 unfold Builtin.Slice.sliceAdjust;simp only[h1,GaR];refine Prod.ext ?_ ?_
 ·cases lo with
  |none=>rfl
  |some v=>exact BA v n 0
 ·cases hi with
  |none=>rfl
  |some v=>exact BA v n n
theorem AO(i j:Nat):Builtin.Slice.slicePlaces (i:Int) (j:Int) 1=j -i:=by
 unfold Builtin.Slice.slicePlaces;have h1:(1:Int)>0:=by omega
 simp only[h1,Gbi,Int.ediv_one];split<;>omega
theorem qY{v:Value}{o:Option Int}{Q:Option Int→Shared→Prop}(p:IsPart v o)(h:Q o s):wpAny (model prog w) A (Builtin.Slice.slicePartIndex v) Q E s:=by
 cases p with
 |none=>exact slicePart_none h
 |int i t=>exact slicePart_int h
theorem p7{sl:Addr}{vl vu:Value}{lo hi:Option Int}{n:Nat}{Q:Int×Int×Nat→Shared→Prop}(hs:s.heap.IsSliceOf sl vl vu .none)(pl:IsPart vl lo)(pu:IsPart vu hi)
  (h:Q (((sIx n 0 lo:Nat):Int),1,sIx n n hi -sIx n 0 lo) s):wpAny (model prog w) A (Builtin.Slice.sliceApplied (.ref sl) (pure (n:Int))) Q E s:=by
 obtain⟨os,hos,hcs,hds⟩:=id hs;unfold Builtin.Slice.sliceApplied Builtin.Slice.sliceFields;refine Gaa (Gaa (Gby hos hds (x:=vl) rfl (Gaa (Gby hos hds (x:=vu) rfl (Gaa (Gby hos hds (x:= .none) rfl (Gad ?_)))))));refine Gaa (slicePart_none ?_);show wpAny _ _ (if((1:Int)==0)=true then _ else _) _ _ s;rw[Gag (by decide)];refine Gaa (qY pl (Gaa (qY pu (Gaa (Gad ?_)))));show wpAny _ _ (match Builtin.Slice.sliceAdjust lo hi 1 (n:Int) with|(lo,hi)=>pure (lo,(1:Int),Builtin.Slice.slicePlaces lo hi 1)) _ _ s;rw[AN lo hi n];show wpAny _ _ (pure (((sIx n 0 lo:Nat):Int),(1:Int),Builtin.Slice.slicePlaces ((sIx n 0 lo:Nat):Int) ((sIx n n hi:Nat):Int) 1)) _ _ s;rw[AO];exact Gad h
theorem Es(xs:Array Value)(i k:Nat):((List.range k).filterMap λ(m:Nat)=>xs[((i:Int)+(m:Int)*1).toNat]?).toArray=((xs.toList.drop i).take k).toArray:=by
 have e:(λ(m:Nat)=>xs[((i:Int)+(m:Int)*1).toNat]?)=λm=>xs[i+m]? :=by
  funext m
  have:((i:Int)+(m:Int)*1).toNat=i+m:=by omega
  rw[this]
 rw[e];have:=pick_run xs i k;rw[List.filterMap_map] at this;have e2:((λx=>xs[x]?)∘λx=>i+x)=λm=>xs[i+m]? :=rfl;rw[e2] at this;rw[this]
theorem nT{t sl:Addr}{items:Array Value}{vl vu:Value}{lo hi:Option Int}{Q:Value→Shared→Prop}(ht:IsTup s.heap t items)(hs:s.heap.IsSliceOf sl vl vu .none)(pl:IsPart vl lo)(pu:IsPart vu hi)
  (hw:¬(sIx items.size 0 lo=0∧sIx items.size items.size hi=items.size))
  (h:Q (.ref s.heap.objs.size) {s with heap:=s.heap.push {cls:= .type "tuple",data:= .seq ((items.toList.drop (sIx items.size 0 lo)).take (sIx items.size items.size hi -sIx items.size 0 lo)).toArray}})
  (hsz:items.size≤sizeLine):wpAny (model prog w) A (getItem (.ref t) (.ref sl)) Q E s:=by
 have htake:sizeOk (.seq ((items.toList.drop (sIx items.size 0 lo)).take (sIx items.size items.size hi -sIx items.size 0 lo)).toArray):=by
  show((items.toList.drop (sIx items.size 0 lo)).take (sIx items.size items.size hi -sIx items.size 0 lo)).toArray.size≤sizeLine;rw[Gan,GcS,Gcl,GbO];omega
 have hj:sIx items.size items.size hi≤items.size:=JH _ _ (Gar _) hi;obtain⟨os,hos,hcs,hds⟩:=id hs;have hTs:s.TypeIs (.ref sl) "slice":=⟨os,hos,hcs⟩
 unfold getItem
 try with_reducible refine GbQ ?_
 first|refine Gaa (Gad ?_)|skip
 refine Gaa (wpAny_sequenceKey ht.typeIs (by decide) ?_);refine Gaa (Gbm (name:=Str.ofString "__getitem__") ht.typeIs GcE
  (Gbj GcE ht.typeIs entry_tuple_getitem ?_ (args_tuple_getitem _ _)))
 show wpAny _ _ (Builtin.Tuple.tupleItemsOf (.ref t)>>=_) _ _ s;refine Gaa (tupleItemsOf_ ht ?_);refine Gaa (wpAny_typeOf hTs ?_);rw[Gai (by decide)];refine Gaa (p7 hs pl pu ?_);have hno:¬((((sIx items.size 0 lo:Nat):Int)==0&&(1:Int)==1&&(sIx items.size items.size hi -sIx items.size 0 lo)==items.size)=true):=by
  intro q;rw[Gau,Gau] at q;have q1:((sIx items.size 0 lo:Nat):Int)=0:=eq_of_beq q.1.1;have q2:sIx items.size items.size hi -sIx items.size 0 lo=items.size:=eq_of_beq q.2;exact hw ⟨by omega,by omega⟩
 show wpAny _ _ (if(((sIx items.size 0 lo:Nat):Int)==0&&(1:Int)==1&&(sIx items.size items.size hi -sIx items.size 0 lo)==items.size)=true then _ else _) _ _ s;rw[Gag hno,Es]
 first
  |exact Gaa (m:=Builtin.Tuple.tupleExact _) (Gba (Gad ⟨_,rfl,Gad h⟩) htake)
  |exact Gaa (m:=Builtin.Tuple.tupleExact _) (Gba (Gaa (Gad (Gad ⟨_,rfl,Gad h⟩))) htake)
  |exact Gaa (Gaa (m:=Builtin.Tuple.tupleExact _) (Gba (Gad (Gad ⟨_,rfl,Gad h⟩)) htake))
  |exact Gaa (Gaa (m:=Builtin.Tuple.tupleExact _) (Gba (Gad ⟨_,rfl,Gad h⟩) htake))
end
end HT
namespace L2
open PySem PySem.Spec PyProof.Rows
abbrev TO:=St→Hp→(Option Int→Hp→Prop)→Prop
def PO(X:Cx)(e:Option Expr)(t:TO):Prop:=
 ∀(pins:List (Addr×Obj)) (s:Shared) (σ:St) (H:Hp) (Q:Option Int→Hp→Prop),Inv X pins σ H s→t σ H Q→
  wpAny (model X.prog X.w) X.A (evalPart e X.env) (λu s' =>∃o H',Inv X pins σ H' s' ∧IsPart u o∧Q o H') X.xe s
noncomputable def Ha:TO:=λ_ H Q=>Q none H
noncomputable def LX(t:TE):TO:=λσ H Q=>t σ H λx H1=>∃i,x= .int i∧Q (some i) H1
section
variable{X:Cx}{e:Expr}{te:TE}{lo hi:Option Expr}{tl th:TO}{pos p2:Pos}
theorem Hb:PO X none Ha:=by
 intro pins s σ H Q I h;rw[evalPart_none];exact Gad ⟨none,H,I,.none,h⟩
theorem Hc(h:PE X e te):PO X (some e) (LX te):=by
 intro pins s σ H Q I hw;rw[evalPart_some];refine thn (h pins s σ H _ I hw) λu s1 ⟨x,H1,I1,r1,q1⟩=> ?_;obtain⟨i,rfl,q⟩:=q1;obtain⟨t,rfl⟩:=r1;exact⟨some i,H1,I1,.int i t,q⟩
def SlR(X:Cx)(r:V→Option Int→Option Int→Hp→VK→Prop):Prop:=
 ∀(pins:List (Addr×Obj)) (s:Shared) (σ:St) (H:Hp) (x:V) (v vl vu:Value) (lo hi:Option Int) (sl:Addr) (Q:VK),Inv X pins σ H s→RelV x v→s.heap.IsSliceOf sl vl vu .none→IsPart vl lo→IsPart vu hi→r x lo hi H Q→
  ∃T id,typeLookup (.type T) "__getitem__"=pure (some (.builtin id))∧s.TypeIs v T∧wpAny (model X.prog X.w) X.A (getItem v (.ref sl)) (EP X pins σ Q) X.xe s
theorem SlR.or{r r' :V→Option Int→Option Int→Hp→VK→Prop}(h:SlR X r)(h' :SlR X r'):SlR X (λx lo hi H Q=>r x lo hi H Q∨r' x lo hi H Q):=by
 intro pins s σ H x v vl vu lo hi sl Q I rx hs pl pu q;rcases q with q|q
 ·exact h pins s σ H x v vl vu lo hi sl Q I rx hs pl pu q
 ·exact h' pins s σ H x v vl vu lo hi sl Q I rx hs pl pu q
noncomputable def tSl(r:V→Option Int→Option Int→Hp→VK→Prop)(te:TE)(tl th:TO):TE:=λσ H Q=>te σ H λx H1=>tl σ H1 λl H2=>th σ H2 λu H3=>r x l u H3 Q
theorem Et{r:V→Option Int→Option Int→Hp→VK→Prop}(hr:SlR X r)(he:PE X e te)(hl:PO X lo tl)(hu:PO X hi th):PE X (.Subscript e (.Slice lo hi none p2) pos) (tSl r te tl th):=by
 intro pins s σ H Q I h;refine Subscript_ (thn (he pins s σ H _ I h) λv s1 ⟨x,H1,I1,r1,q1⟩=> ?_);refine wpAny_Slice (thn (hl pins s1 σ H1 _ I1 q1) λvl s2 ⟨l,H2,I2,pl,q2⟩=>thn (hu pins s2 σ H2 _ I2 q2) λvu s3 ⟨u,H3,I3,pu,q3⟩=> ?_);rw[evalPart_none];refine Gad ?_;have I4:Inv X pins σ H3 {s3 with heap:=s3.heap.push {cls:= .type "slice",data:= .fields #[vl,vu,.none]}}:=I3.kept (t' :=s3.toks) λb ob q=>Gah _ q;obtain⟨T,id,hT,ht,hg⟩:=hr pins {s3 with heap:=s3.heap.push {cls:= .type "slice",data:= .fields #[vl,vu,.none]}} σ H3 x v vl vu l u s3.heap.objs.size Q I4 r1 (Heap.IsSliceOf.new ..) pl pu q3;show wpAny (model X.prog X.w) X.A (subscriptTail e (.Slice lo hi none p2) v (.ref s3.heap.objs.size)) (EP X pins σ Q) X.xe {s3 with heap:=s3.heap.push {cls:= .type "slice",data:= .fields #[vl,vu,.none]}};exact tail_any (ops:=[.ref s3.heap.objs.size,v]) ht hT hg (by with_unfolding_all rfl)
noncomputable def w9(xs:List V)(lo hi:Option Int):List V:=(xs.drop (HT.sIx xs.length 0 lo)).take (HT.sIx xs.length xs.length hi -HT.sIx xs.length 0 lo)
theorem pT(xs:List V)(lo hi:Option Int):(w9 xs lo hi).length≤xs.length:=by
 unfold w9;rw[GcS,Gcl];omega
def O5(K:PySem.W.Frag):V→Option Int→Option Int→Hp→VK→Prop:=λx lo hi H Q=>∃a xs,x= .ref a∧SqT K H a xs∧
 ¬(HT.sIx xs.length 0 lo=0∧HT.sIx xs.length xs.length hi=xs.length)∧∀p,H p=none→Q (.ref p) (upd H p (.tup (w9 xs lo hi)))
theorem JI:SlR X (O5 X.K):=by
 intro pins s σ H x v vl vu lo hi sl Q I rx hs pl pu h;obtain⟨a,xs,rfl,hx,hw,q⟩:=h;cases rx;obtain⟨its,r,ht,hz⟩:=I.tuple hx;have hlen:its.toArray.size=xs.length:=by rw[Gan];exact r.length.symm
 refine⟨"tuple",_,GcE.lookup,ht.typeIs, ?_⟩;refine HT.nT ht hs pl pu (by rw[hlen];exact hw) ?_ (by rw[hlen];exact hz);rw[hlen];refine⟨.ref s.heap.objs.size,_,I.laid (t' :=s.toks) (o:= .tup (w9 xs lo hi)) (λb ob q=>Gah _ q) (Gar _) ?_,rfl,q _ (I.hok.fresh (Gar _))⟩;exact⟨Gbx (pT xs lo hi) hz,_,(r.drop (HT.sIx xs.length 0 lo)).take (HT.sIx xs.length xs.length hi -HT.sIx xs.length 0 lo),IsTup.new _ _⟩
noncomputable def IZ(K:PySem.W.Frag):R2:=λx y H Q=>∃a b xs ys,x= .ref a∧y= .ref b∧SqT K H a xs∧SqT K H b ys∧xs≠[]∧xs.length+ys.length≤sizeLine∧
 (ys=[]→Q (.ref a) H)∧(ys≠[]→∀p,H p=none→Q (.ref p) (upd H p (.tup (xs++ys))))
theorem Vals.cV{xs:List V}{us:List Value}(r:Vals xs us):us=[]↔xs=[]:=by
 cases r with
 |nil=>simp
 |cons _ _=>simp
theorem He:OpR X (binaryOp .Add) (IZ X.K):=by
 intro pins s σ H x y v u Q I rx ry h;obtain⟨a,b,xs,ys,rfl,rfl,ha,hb,hx,hz,q1,q2⟩:=h;cases rx;cases ry;obtain⟨its,r1,p1,_⟩:=I.tuple ha;obtain⟨its2,r2,p2,_⟩:=I.tuple hb;refine HT.H0 p1 p2 (λz=>hx (r1.cV.mp z)) (λz=> ⟨.ref a,H,I,rfl,q1 (r2.cV.mp z)⟩) (λz=> ?_) (by rw[←r1.length,←r2.length];exact hz);refine⟨.ref s.heap.objs.size,_,I.laid (t' :=s.toks) (o:= .tup (xs++ys)) (λb ob q=>Gah _ q) (Gar _) ?_,rfl,q2 (λw=>z (r2.cV.mpr w)) _ (I.hok.fresh (Gar _))⟩;exact⟨by rw[GaA];exact hz,_,r1.append r2,IsTup.new _ _⟩
end
noncomputable def ixN(n:Nat)(i:Int):Option Nat:=if 0≤i then(if i<n then some i.toNat else none) else if -(n:Int)≤i then some (i+n).toNat else none
noncomputable def atI{α:Type}(xs:List α)(i:Int):Option α:=(ixN xs.length i).bind λj=>xs[j]?
theorem BB{n:Nat}{i:Int}{j:Nat}(h:ixN n i=some j):seqIndex? i n=some j∧j<n∧-(n:Int)≤i∧i<n:=by
 unfold ixN at h;by_cases h0:0≤i
 ·rw[Gai h0] at h;by_cases h1:i<n
  ·rw[Gai h1] at h;have e:i.toNat=j:=Option.some.inj h;exact⟨by rw[seqIndex_of h0 h1,e],by omega,by omega,h1⟩
  ·rw[Gag h1] at h;cases h
 ·rw[Gag h0] at h;by_cases h1: -(n:Int)≤i
  ·rw[Gai h1] at h;have e:(i+n).toNat=j:=Option.some.inj h;exact⟨by rw[seqIndex_neg (by omega) h1,e],by omega,h1,by omega⟩
  ·rw[Gag h1] at h;cases h
theorem uR{α:Type}{xs:List α}{i:Int}{v:α}(h:atI xs i=some v):∃j,seqIndex? i xs.length=some j∧xs[j]? =some v∧j<xs.length∧-(xs.length:Int)≤i∧i<xs.length:=by
 unfold atI at h;cases e:ixN xs.length i with
 |none=>rw[e] at h;cases h
 |some j=>
  rw[e] at h;obtain⟨h1,h2,h3,h4⟩:=BB e;exact⟨j,h1,h,h2,h3,h4⟩
def BC(b:Expr):Prop:=∀o i,subscripted b false o i=operate [o,i] (getItem o i)
def IxR(X:Cx)(r:R2):Prop:=
 ∀(value slice:Expr) (pins:List (Addr×Obj)) (s:Shared) (σ:St) (H:Hp) (x y:V) (v u:Value) (Q:VK),Inv X pins σ H s→RelV x v→RelV y u→r x y H Q→
  subscripted slice false v u=operate [v,u] (getItem v u)→wpAny (model X.prog X.w) X.A (subscriptTail value slice v u) (EP X pins σ Q) X.xe s
def MtR(X:Cx)(id:String)(r:V→List V→Hp→VK→Prop):Prop:=
 ∀(pins:List (Addr×Obj)) (s:Shared) (σ:St) (H:Hp) (x:V) (xs:List V) (v:Value) (us:List Value) (Q:VK),Inv X pins σ H s→RelV x v→Vals xs us→r x xs H Q→
  wpAny (model X.prog X.w) X.A (call (.builtin id) (v::us)) (EP X pins σ Q) X.xe s
section
variable{X:Cx}{a b:Expr}{ta tb:TE}{pos:Pos}
theorem IxR.or{r r' :R2}(h:IxR X r)(h' :IxR X r'):IxR X (λx y H Q=>r x y H Q∨r' x y H Q):=by
 intro value slice pins s σ H x y v u Q I rx ry q hs;rcases q with q|q
 ·exact h value slice pins s σ H x y v u Q I rx ry q hs
 ·exact h' value slice pins s σ H x y v u Q I rx ry q hs
theorem MtR.or{id:String}{r r' :V→List V→Hp→VK→Prop}(h:MtR X id r)(h' :MtR X id r'):MtR X id (λx xs H Q=>r x xs H Q∨r' x xs H Q):=by
 intro pins s σ H x xs v us Q I rx rs q;rcases q with q|q
 ·exact h pins s σ H x xs v us Q I rx rs q
 ·exact h' pins s σ H x xs v us Q I rx rs q
theorem LY{r:R2}(hr:IxR X r)(ha:PE X a ta)(hb:PE X b tb)(hs:BC b):PE X (.Subscript a b pos) (tOp r ta tb):=by
 intro pins s σ H Q I h;exact Subscript_ (Jw ha hb I h λv u s2 x y H2 I2 rx ry q=>hr a b pins s2 σ H2 x y v u Q I2 rx ry q (hs _ _))
noncomputable def LZ(K:PySem.W.Frag):R2:=λx y H Q=>∃p xs i v,x= .ref p∧y= .int i∧SqL K H p xs∧atI xs i=some v∧Q v H
noncomputable def M0(K:PySem.W.Frag):R2:=λx y H Q=>∃p xs i v,x= .ref p∧y= .int i∧SqT K H p xs∧atI xs i=some v∧Q v H
noncomputable def M1:R2:=λx y H Q=>∃z i c,x= .str z∧y= .int i∧z.length≤sizeLine∧atI z.cps.toList i=some c∧Q (.str ⟨#[c]⟩) H
theorem Hg:IxR X (LZ X.K):=by
 intro value slice pins s σ H x y v u Q I rx ry h hs;obtain⟨p,xs,i,z,rfl,rfl,hq,he,q⟩:=h;cases rx;obtain⟨t,rfl⟩:=ry;obtain⟨its,r,pl,hz⟩:=I.list hq;obtain⟨j,h1,h2,h3,h4,h5⟩:=uR he;obtain⟨w,ew,rw'⟩:=r.get h2;have hl:=r.length;have hn:=qX;have fin:EP X pins σ Q w s:=⟨z,H,I,rw',q⟩
 by_cases h0:0≤i
 ·have hj:i.toNat=j:=by
   rw[seqIndex_of h0 h5] at h1;exact Option.some.inj h1
  exact item_listR pl.isList h0 (by omega) (by rw[hj];simpa using ew) fin hs
 ·have hj:(i+(its.toArray.size:Int)).toNat=j:=by
   rw[seqIndex_neg (by omega) h4] at h1;rw[Gan,←hl];exact Option.some.inj h1
  exact subscriptTail_builtinR (x:=w) pl.isList.typeIs slot_list_getitem.lookup
   (wpAny_getItem_list_neg (Q:=λr s' =>r=w∧EP X pins σ Q r s') pl.isList (by omega) (by rw[Gan]<;>omega) (by omega) (by rw[hj];simpa using ew) ⟨rfl,fin⟩) hs
theorem JJ:IxR X (M0 X.K):=by
 intro value slice pins s σ H x y v u Q I rx ry h hs;obtain⟨p,xs,i,z,rfl,rfl,hq,he,q⟩:=h;cases rx;obtain⟨t,rfl⟩:=ry;obtain⟨its,r,pl,hz⟩:=I.tuple hq;obtain⟨j,h1,h2,h3,h4,h5⟩:=uR he;obtain⟨w,ew,rw'⟩:=r.get h2;have hl:=r.length;have hn:=qX;have fin:EP X pins σ Q w s:=⟨z,H,I,rw',q⟩
 exact subscriptTail_builtinR (x:=w) pl.typeIs slot_tuple_getitem.lookup
  (getItem_tuple (j:=j) (Q:=λr s' =>r=w∧EP X pins σ Q r s') pl (by omega) (by omega) (by rw[Gan,←hl];exact h1) (by simpa using ew) ⟨rfl,fin⟩) hs
theorem JK:IxR X M1:=by
 intro value slice pins s σ H x y v u Q I rx ry h hs;obtain⟨z,i,c,rfl,rfl,hz,he,q⟩:=h;obtain⟨t,rfl⟩:=rx;obtain⟨t',rfl⟩:=ry;obtain⟨j,h1,h2,h3,h4,h5⟩:=uR he;have hl:z.cps.toList.length=z.length:=by simp[Str.length]
 rw[hl] at h1 h4 h5;have hn:=qX;exact tail_any (typeIs_str s z t) slot_str_getitem.lookup (getItem_str (c:=c) (by
  have e1:decide (i< -(2^63:Int))=false:=GaS (by omega);have e2:decide (i≥2^63)=false:=GaS (by omega);rw[e1,e2,Bool.or_false]) (by rw[h1];simpa using h2) ⟨.str ⟨#[c]⟩,H,I.tok _,⟨_,rfl⟩,q⟩) hs
noncomputable def rIx(K:PySem.W.Frag):R2:=λx y H Q=>LZ K x y H Q∨M0 K x y H Q∨M1 x y H Q
theorem JL:IxR X (rIx X.K):=Hg.or (JJ.or JK)
theorem AQ(its:List Value)(n j:Nat)(u:Value):Obj.mapSeq (·.setIfInBounds j u) {cls:= .type "list",data:= .seq its.toArray n}={cls:= .type "list",data:= .seq (its.set j u).toArray n}:=by
 simp[Obj.mapSeq]
theorem Inv.lst{pins:List (Addr×Obj)}{σ:St}{H:Hp}{s:Shared}{p:Addr}{xs:List V}(I:Inv X pins σ H s)(h:H p=some (.lst xs)):
  ∃(its:List Value) (n:Nat),Vals xs its∧s.heap.get? p=some {cls:= .type "list",data:= .seq its.toArray n}∧xs.length≤sizeLine:=by
 obtain⟨z,its,n,r,e⟩:=I.hok p _ h;exact⟨its,n,r,e,z⟩
theorem Inv.JM{pins:List (Addr×Obj)}{σ:St}{H:Hp}{s:Shared}{p:Addr}{xs ys:List V}{its its' :List Value}{n n' :Nat}{f:Obj→Obj}(I:Inv X pins σ H s)(h:H p=some (.lst xs))
  (ho:s.heap.get? p=some {cls:= .type "list",data:= .seq its.toArray n})(hf:f {cls:= .type "list",data:= .seq its.toArray n}={cls:= .type "list",data:= .seq its'.toArray n' })(r:Vals ys its')(hz:ys.length≤sizeLine)(t:Nat):
  Inv X pins σ (upd H p (.lst ys)) {s with heap:=s.heap.update p f,toks:=t}:=by
 have e:(s.heap.update p f).get? p=some {cls:= .type "list",data:= .seq its'.toArray n' }:=by
  rw[Gbl f ho (by rw[hf]<;>rfl),hf]
 refine I.write (x:=p) (e:=p) (by rw[h];trivial) (.inl rfl) (λb u hb q=>(GaW _ _ (GaY hb)).trans q) ⟨_,e⟩ ?_;exact⟨hz,its',n',r,e⟩
def J1:V→V→V→Hp→(Hp→Prop)→Prop:=λo i v H Q=>∃p xs k j,o= .ref p∧i= .int k∧H p=some (.lst xs)∧ixN xs.length k=some j∧Q (upd H p (.lst (xs.set j v)))
theorem set_list:LF X J1:=by
 intro pins s σ H o i v ov iv u Q I ro ri rv h;obtain⟨p,xs,k,j,rfl,rfl,hp,hj,q⟩:=h;cases ro;obtain⟨t,rfl⟩:=ri;obtain⟨its,n,r,ho,hz⟩:=I.lst hp;obtain⟨h1,h2,h3,h4⟩:=BB hj;have hl:=r.length;have hn:=qX;have I' :Inv X pins σ (upd H p (.lst (xs.set j v))) {s with heap:=s.heap.update p (Obj.mapSeq (·.setIfInBounds j u))}:=
  I.JM hp ho (AQ its n j u) (r.set rv j) (by rw[GcW];exact hz) s.toks
 by_cases h0:0≤k
 ·have hk:k.toNat=j:=by
   rw[seqIndex_of h0 h4] at h1;exact Option.some.inj h1
  exact PySem.W.ki_setAt ho h0 (by omega) (by rw[Gan,←hl];exact h4) (by rw[hk];exact⟨_,I',q⟩)
 ·have hk:(k+(its.toArray.size:Int)).toNat=j:=by
   rw[seqIndex_neg (by omega) h3] at h1;rw[Gan,←hl];exact Option.some.inj h1
  exact PySem.W.ki_setBack ho (by omega) (by rw[Gan,←hl];exact h3) (by omega) (by rw[hk];exact⟨_,I',q⟩)
theorem uS(lo hi:Option Int)(n:Nat):(sliceBounds lo hi none n).1=((HT.sIx n 0 lo:Nat):Int)∧(sliceBounds lo hi none n).2.1=((HT.sIx n n hi:Nat):Int)∧(sliceBounds lo hi none n).2.2=1:=by
 refine⟨?_, ?_,rfl⟩
 ·cases lo with
  |none=>simp[sliceBounds,HT.sIx]
  |some i=>
   simp only[sliceBounds,HT.sIx,Option.getD_none,show(1:Int)>0 by decide,Gbi];by_cases h:i<0
   ·simp only[h,Gbi]<;>omega
   ·simp only[h,GaR]<;>omega
 ·cases hi with
  |none=>simp[sliceBounds,HT.sIx]
  |some i=>
   simp only[sliceBounds,HT.sIx,Option.getD_none,show(1:Int)>0 by decide,Gbi];by_cases h:i<0
   ·simp only[h,Gbi]<;>omega
   ·simp only[h,GaR]<;>omega
theorem sY(its:List Value)(lo hi:Option Int):slicePick its.toArray lo hi none=((its.drop (HT.sIx its.length 0 lo)).take (HT.sIx its.length its.length hi -HT.sIx its.length 0 lo)).toArray:=by
 obtain⟨h1,h2,h3⟩:=uS lo hi its.toArray.size;unfold slicePick;rw[h1,h2,h3];simp only[sliceRange_one,pick_run,Gan]<;>rfl
def O6(K:PySem.W.Frag):V→Option Int→Option Int→Hp→VK→Prop:=λx lo hi H Q=>∃a xs,x= .ref a∧SqL K H a xs∧∀p,H p=none→Q (.ref p) (upd H p (.lst (w9 xs lo hi)))
theorem Hh:SlR X (O6 X.K):=by
 intro pins s σ H x v vl vu lo hi sl Q I rx hs pl pu h;obtain⟨a,xs,rfl,hx,q⟩:=h;cases rx;obtain⟨its,r,ht,hz⟩:=I.list hx;have hlen:=r.length;refine⟨"list",_,slot_list_getitem.lookup,ht.isList.typeIs, ?_⟩;refine wpAny_getItem_list_slice ht.isList hs pl pu .none (by simp) ?_ (by rw[Gan]<;>omega);rw[sY,←hlen];refine⟨.ref s.heap.objs.size,_,I.laid (t' :=s.toks) (o:= .lst (w9 xs lo hi)) (λb ob q=>Gah _ q) (Gar _) ?_,rfl,q _ (I.hok.fresh (Gar _))⟩;exact⟨Gbx (pT xs lo hi) hz,_,0,(r.drop (HT.sIx xs.length 0 lo)).take (HT.sIx xs.length xs.length hi -HT.sIx xs.length 0 lo),Gaz _ rfl⟩
noncomputable def tU:V→Bool
 | .non=>true
 | .bl _=>true
 | .int _=>true
 | .str _=>true
 |_=>false
noncomputable def eqV:V→V→Bool
 | .non,.non=>true
 | .bl a,.bl b=>a==b
 | .bl a,.int b=>(if a then 1 else 0)==b
 | .int a,.bl b=>a==(if b then 1 else 0)
 | .int a,.int b=>a==b
 | .str a,.str b=>a==b
 |_,_=>false
theorem JN{A:Around}{s:Shared}{y x:V}{u v:Value}(ry:RelV y u)(rx:RelV x v)(fy:tU y=true)(fx:tU x=true):SeqAt.EqAt A s u v (eqV y x):=by
 cases y with
 |non=>
  cases ry;cases x with
  |non=>cases rx;exact SeqAt.EqAt.same _
  |bl b=>cases rx;exact SeqAt.EqAt.none_bool b
  |int b=>obtain⟨t,rfl⟩:=rx;exact SeqAt.EqAt.none_int b t
  |str b=>obtain⟨t,rfl⟩:=rx;exact SeqAt.EqAt.none_str b t
  |_=>exact absurd (show false=true from fx) Gav
 |bl a=>
  cases ry;cases x with
  |non=>cases rx;exact SeqAt.EqAt.bool_none a
  |bl b=>cases rx;exact SeqAt.EqAt.bool_bool a b
  |int b=>obtain⟨t,rfl⟩:=rx;exact SeqAt.EqAt.bool_int a b t
  |str b=>obtain⟨t,rfl⟩:=rx;exact SeqAt.EqAt.bool_str a b t
  |_=>exact absurd (show false=true from fx) Gav
 |int a=>
  obtain⟨t',rfl⟩:=ry;cases x with
  |non=>cases rx;exact SeqAt.EqAt.int_none a t'
  |bl b=>cases rx;exact SeqAt.EqAt.int_bool a t' b
  |int b=>obtain⟨t,rfl⟩:=rx;exact SeqAt.EqAt.int_int a t' b t
  |str b=>obtain⟨t,rfl⟩:=rx;exact SeqAt.EqAt.int_str a t' b t
  |_=>exact absurd (show false=true from fx) Gav
 |str a=>
  obtain⟨t',rfl⟩:=ry;cases x with
  |non=>cases rx;exact SeqAt.EqAt.str_none a t'
  |bl b=>cases rx;exact SeqAt.EqAt.str_bool a t' b
  |int b=>obtain⟨t,rfl⟩:=rx;exact SeqAt.EqAt.str_int a t' b t
  |str b=>obtain⟨t,rfl⟩:=rx;exact SeqAt.EqAt.str_str a t' b t
  |_=>exact absurd (show false=true from fx) Gav
 |_=>exact absurd (show false=true from fy) Gav
theorem gX.or{f:Value}{r r' :List V→Hp→VK→Prop}(h:gX X f r)(h' :gX X f r'):gX X f (λxs H Q=>r xs H Q∨r' xs H Q):=by
 intro pins s σ H xs us Q I rs q;rcases q with q|q
 ·exact h pins s σ H xs us Q I rs q
 ·exact h' pins s σ H xs us Q I rs q
theorem cQ:gX X (.type "tuple") (λxs H Q=>∃p ys,xs=[.ref p]∧((SqL X.K H p ys∧∀l,H l=none→Q (.ref l) (upd H l (.tup ys)))∨(SqT X.K H p ys∧Q (.ref p) H))):=by
 intro pins s σ H xs us Q I r h;obtain⟨p,ys,rfl,h⟩:=h;obtain⟨u,rfl,rx⟩:=vals1 r;cases rx;rcases h with⟨hq,q⟩| ⟨hq,q⟩
 ·obtain⟨its,r',pl,hz⟩:=I.list hq;have hlen:=r'.length;refine call_tuple_list pl.isList (λh' kp=> ?_) (by simp only[Gan]<;>omega);have I1:Inv X pins σ H {s with heap:=h' }:=I.kept (t' :=s.toks) kp;have I2:Inv X pins σ (upd H h'.objs.size (.tup ys)) {s with heap:=h'.push {cls:= .type "tuple",data:= .seq its.toArray}}:=
   I1.laid (t' :=s.toks) (λb o e=>Gah _ e) (Gar _) (show cz X.prog X.w _ _ _ (.tup ys) from⟨hz,its,r',IsTup.new _ _⟩)
  exact⟨.ref h'.objs.size,_,I2,rfl,q _ (I1.hok.fresh (Gar _))⟩
 ·obtain⟨its,r',pl,hz⟩:=I.tuple hq;exact call_tuple_same pl ⟨.ref p,H,I,rfl,q⟩
def tyV(K:PySem.W.Frag)(T:String)(x:V)(H:Hp):Prop:=match x with
 | .str _=>T="str"
 | .int _=>T="int"
 | .ref p=>(T="list"∧∃xs,SqL K H p xs)∨(T="tuple"∧∃o,K.lookup p=some o∧o.cls= .type "tuple"∧o.dict=none)∨
   (T="dict"∧((∃kvs,H p=some (.dK kvs))∨∃kvs,H p=some (.dT kvs)))∨(T="set"∧∃S n,H p=some (.set S n))
 |_=>False
theorem JO{pins:List (Addr×Obj)}{σ:St}{H:Hp}{s:Shared}{T:String}{x:V}{v:Value}(I:Inv X pins σ H s)(r:RelV x v)(ty:tyV X.K T x H):
  s.TypeIs v T∧∀a,v= .ref a→∃ob,s.heap.get? a=some ob∧ob.dict=none:=by
 cases x with
 |str z=>
  obtain⟨t,rfl⟩:=r;cases(show T="str" from ty);exact⟨typeIs_str s z t,λ_ e=>nomatch e⟩
 |int i=>
  obtain⟨t,rfl⟩:=r;cases(show T="int" from ty);exact⟨typeIs_int s i t,λ_ e=>nomatch e⟩
 |ref p=>
  cases r;rcases ty with⟨rfl,xs,hq⟩| ⟨rfl,o,hk,hc,hd⟩| ⟨rfl,hk⟩| ⟨rfl,S,n,hk⟩
  ·obtain⟨its,_,pl,_⟩:=I.list hq;refine⟨pl.isList.typeIs,λa e=> ?_⟩;cases e;obtain⟨o,n,e,c,hd,_⟩:=pl;exact⟨o,e,hd⟩
  ·refine⟨⟨o,I.kIn p o hk,hc⟩,λa e=> ?_⟩;cases e;exact⟨o,I.kIn _ o hk,hd⟩
  ·have z:∃o,s.heap.get? p=some o∧o.ExactDict:=by
    rcases hk with⟨kvs,hk⟩| ⟨kvs,hk⟩
    ·obtain⟨_,_,_,_,o,_,_,e,ex,_⟩:=I.hok p _ hk;exact⟨o,e,ex⟩
    ·obtain⟨_,_,_,_,o,_,_,e,ex,_⟩:=I.hok p _ hk;exact⟨o,e,ex⟩
   obtain⟨o,e,ex⟩:=z;refine⟨⟨o,e,ex.1⟩,λa e2=> ?_⟩;cases e2;exact⟨o,e,ex.2.1⟩
  ·obtain⟨o,_,_,_,e,ex,_⟩:=I.hok p _ hk;refine⟨⟨o,e,ex.1⟩,λa e2=> ?_⟩;cases e2;exact⟨o,e,ex.2.1⟩
 |_=>exact False.elim ty
noncomputable def tBM(K:PySem.W.Frag)(T:String)(r:V→List V→Hp→VK→Prop)(to:TE)(t:TA):TE:=λσ H Q=>to σ H λx H1=>tyV K T x H1∧t σ H1 λxs H2=>r x xs H2 Q
variable{o e:Expr}{es:List Expr}{to:TE}{t:TA}{name:Str}{apos cpos:Pos}{T id:String}{r:V→List V→Hp→VK→Prop}
theorem BD(pa:PlainAttrs T)(slot:Slot T name id)(hty:typeOf (.builtin id)=pure (.type "method_descriptor"))(hm:MtR X id r)(ho:PE X o to)(ha:PA X (e::es) t)
  (hbase:attributeBase o name X.env (eval o X.env)=eval o X.env:=by rfl)
  (hfew:((backTo cpos (starEach (e::es) X.env)).all (λx=> !x.1)&&(backToKw cpos (keywordEach [] X.env)).all (λx=>x.1.isSome)
   &&decide ((e::es).length+([]:List Keyword).length+(if([]:List Keyword).isEmpty then 0 else 1)<30))=true:=by rfl)
  (hline:(apos.endLine==cpos.line)=true:=by rfl)(hs:starEach (e::es) X.env=(false,eval e X.env)::starEach es X.env:=by rfl)(hplain:(backTo cpos (starEach es X.env)).any (·.1)=false:=by rfl):
  PE X (.Call (.Attribute o name apos) (e::es) [] cpos) (tBM X.K T r to t):=by
 intro pins s σ H Q I h;refine wpAny_Call_method_late hbase hfew hline rfl (thn (ho pins s σ H _ I h) λv s1 ⟨x,H1,I1,r1,ty,q1⟩=> ?_);obtain⟨h1,h2⟩:=JO I1 r1 ty;refine⟨T,id,pa,slot,hty,h1,h2, ?_⟩;have hA:=ha cpos pins s1 σ H1 _ I1 q1;rw[hs] at hA⊢;refine GcN (by show(false||(backTo cpos (starEach es X.env)).any (·.1))=false;rw[hplain]<;>rfl) (GdE ?_);exact thn hA λus s2 ⟨vs,H2,I2,r2,q2⟩=>hm pins s2 σ H2 x vs v us Q I2 r1 r2 q2
end
def MtM(X:Cx)(id:String)(r:V→List V→Hp→VK→Prop):Prop:=
 ∀(pins:List (Addr×Obj)) (s:Shared) (σ:St) (H:Hp) (x:V) (xs:List V) (v:Value) (us:List Value) (Q:VK),Inv X pins σ H s→RelV x v→Vals xs us→r x xs H Q→
  wpAny (model X.prog X.w) X.A (call (.builtin id) (v::us)) (EP X pins σ Q) X.xe s
theorem Vals.one:∀{x:V} {us:List Value},Vals [x] us→∃u,us=[u]∧RelV x u
 |_,_,.cons r .nil=> ⟨_,rfl,r⟩
theorem Vals.zero:∀{us:List Value},Vals [] us→us=[]
 |_,.nil=>rfl
theorem Vals.reverse{xs:List V}{us:List Value}(h:Vals xs us):Vals xs.reverse us.reverse:=by
 induction h with
 |nil=>exact .nil
 |cons r t ih=>rw[List.reverse_cons,List.reverse_cons];exact Vals.append ih (.cons r .nil)
theorem Vals.rep{xs:List V}{us:List Value}(h:Vals xs us):∀k:Nat,Vals (List.replicate k xs).flatten (List.replicate k us).flatten
 |0=> .nil
 |k+1=>by
  rw[List.replicate_succ,List.replicate_succ,List.flatten_cons,List.flatten_cons];exact Vals.append h (Vals.rep h k)
section
variable{X:Cx}{pins:List (Addr×Obj)}{σ:St}{H:Hp}{s:Shared}{l b:Addr}{xs ys zs:List V}
theorem Inv.JP{its its' :List Value}{n:Nat}{f:Array Value→Array Value}{t' :Nat}(I:Inv X pins σ H s)(hH:H l=some (.lst xs))
  (e:s.heap.get? l=some {cls:= .type "list",data:= .seq its.toArray n})(hf:f its.toArray=its'.toArray)(hv:Vals ys its')(hz:ys.length≤sizeLine):
  Inv X pins σ (upd H l (.lst ys)) {s with heap:=s.heap.update l (Obj.mapSeq f),toks:=t' }:=by
 have q:=PySem.IsL.update e f;rw[hf] at q;refine I.write (x:=l) (e:=l) (by rw[hH];exact trivial) (.inl rfl) (λb' u hb hu=>(GaW s.heap (Obj.mapSeq f) (GaY hb)).trans hu) ⟨_,q⟩ ?_;exact⟨hz,its',_,hv,q⟩
theorem Inv.O7{its:List Value}{t' :Nat}(I:Inv X pins σ H s)(hv:Vals ys its)(hz:ys.length≤sizeLine):
  Inv X pins σ (upd H s.heap.objs.size (.lst ys)) {s with heap:=s.heap.push {cls:= .type "list",data:= .seq its.toArray},toks:=t' }:=
 I.laid (λ_ _ q=>Gah _ q) (Gar _) ⟨hz,its,0,hv,Gaz _ rfl⟩
theorem Inv.fresh(I:Inv X pins σ H s):H s.heap.objs.size=none:=I.hok.fresh (Gar _)
theorem Inv.Hj(I:Inv X pins σ H s)(hH:H l=some (.lst xs)):xs.length≤sizeLine∧∃(its:List Value) (n:Nat),Vals xs its∧xs.length=its.length∧s.heap.get? l=some {cls:= .type "list",data:= .seq its.toArray n}:=by
 obtain⟨z,its,n,r,e⟩:=I.hok l _ hH;exact⟨z,its,n,r,r.length,e⟩
theorem Eu{n:Nat}(h:n≤sizeLine):Builtin.List.listTooLong n=false:=by
 unfold Builtin.List.listTooLong;exact GaS (by omega)
end
section
variable{X:Cx}
def BE:V→List V→Hp→VK→Prop:=λx vs H Q=>∃l xs y,x= .ref l∧vs=[y]∧H l=some (.lst xs)∧xs.length<sizeLine∧Q .non (upd H l (.lst (xs++[y])))
theorem p8:MtM X "list.append" BE:=by
 intro pins s σ H x vs v us Q I rx rv h;obtain⟨l,xs,y,rfl,rfl,hH,hz,q⟩:=h;cases rx;obtain⟨u,rfl,ru⟩:=rv.one;obtain⟨z,its,n,r,hl,e⟩:=I.Hj hH;refine call_meets F.slot_list_append ⟨_,e,rfl⟩ F.entry_list_append (F.args_list_append_2 _ _) (PySem.list_append l its.toArray n u (by rw[Gan];omega)) ⟨e, ?_⟩;refine⟨.non,_,I.JP (its' :=its++[u]) hH e (by simp) (r.append (.cons ru .nil)) ?_,rfl,q⟩;rw[GaA,List.length_singleton];omega
def Hk:V→List V→Hp→VK→Prop:=λx vs H Q=>∃l b xs zs,x= .ref l∧vs=[.ref b]∧H l=some (.lst xs)∧H b=some (.lst zs)∧xs.length+zs.length≤sizeLine∧Q .non (upd H l (.lst (xs++zs)))
theorem CO:MtM X "list.extend" Hk:=by
 intro pins s σ H x vs v us Q I rx rv h;obtain⟨l,b,xs,zs,rfl,rfl,hH,hB,hz,q⟩:=h;cases rx;obtain⟨u,rfl,ru⟩:=rv.one;cases ru;obtain⟨z,its,n,r,hl,e⟩:=I.Hj hH;obtain⟨z2,its2,n2,r2,hl2,e2⟩:=I.Hj hB;have hsz:its.toArray.size+its2.toArray.size≤sizeLine:=by rw[Gan,Gan];omega
 have hlong:¬(!its.toArray.isEmpty&&Builtin.List.listTooLong (its.toArray.size+its2.toArray.size))=true:=by
  rw[Eu hsz,GdJ];exact Gav
 refine call_meets F.slot_list_extend ⟨_,e,rfl⟩ F.entry_list_extend (F.args_list_extend_2 _ _)
  (AutoSeq1.list_extend_list_list_0 l its.toArray n b its2.toArray n2 hlong (by rw[Gan];omega) (by omega)) ⟨e,e2, ?_⟩
 refine⟨.non,_,I.JP (its' :=its++its2) hH e (by simp) (r.append r2) ?_,rfl,q⟩;rw[GaA];omega
end
section
variable{κ:Type} [DecidableEq κ]
noncomputable def gY(kvs:List (κ×V))(k:κ):Option V:=(kvs.find? λkv=>decide (kv.1=k)).map (·.2)
noncomputable def putK(kvs:List (κ×V))(k:κ)(v:V):List (κ×V):=
 if(kvs.any λkv=>decide (kv.1=k))=true then kvs.map (λkv=>if kv.1=k then(kv.1,v) else kv) else kvs++[(k,v)]
noncomputable def J3(kvs:List (κ×V))(k:κ):List (κ×V):=kvs.filter λkv=>decide (kv.1≠k)
theorem lD{p:κ×V}{r:List (κ×V)}{k:κ}(e:p.1=k):gY (p::r) k=some p.2:=by simp[gY,GbB,e]
theorem j8{p:κ×V}{r:List (κ×V)}{k:κ}(e:¬p.1=k):gY (p::r) k=gY r k:=by simp[gY,GbB,e]
theorem qZ(k:κ):∀kvs:List (κ×V),(kvs.any λkv=>decide (kv.1=k))=(gY kvs k).isSome
 |[]=>rfl
 |p::r=>by
  rw[Gdt];by_cases e:p.1=k
  ·simp only[lD e,GaN e,Bool.true_or,Option.isSome_some]
  ·rw[j8 e,GaS e,Bool.false_or];exact qZ k r
theorem lE(kvs:List (κ×V))(k:κ)(v:V):(putK kvs k v).length≤kvs.length+1:=by
 unfold putK;split
 ·rw[Gaf];omega
 ·rw[GaA,GaC,Gce];omega
theorem Ew{kvs:List (κ×V)}{k:κ}(v:V)(h:gY kvs k=none):putK kvs k v=kvs++[(k,v)]:=by
 unfold putK;rw[qZ,h];exact Gag (by decide)
theorem oZ.CP{o:Option V}{u:Option Value}(r:oZ o u):o.isSome=u.isSome:=by
 cases o with
 |none=>cases u with
  |none=>rfl
  |some _=>exact(show False from r).elim
 |some _=>cases u with
  |none=>exact(show False from r).elim
  |some _=>rfl
theorem oZ.getD{o:Option V}{u:Option Value}{d:V}{d' :Value}(r:oZ o u)(rd:RelV d d'):RelV (o.getD d) (u.getD d'):=by
 cases o with
 |none=>cases u with
  |none=>exact rd
  |some _=>exact(show False from r).elim
 |some _=>cases u with
  |none=>exact(show False from r).elim
  |some _=>exact r
theorem KV.val{kvs:List (κ×V)}{vs:List (κ×Value)}(r:KV kvs vs)(k:κ):oZ (gY kvs k) (valueAt vs k):=by
 unfold KV at r;induction r with
 |nil=>exact True.intro
 | @cons p q ps qs h t ih=>
  obtain⟨h1,h2⟩:=h;by_cases e:p.1=k
  ·have e' :q.1=k:=h1.symm.trans e;have b:valueAt (q::qs) k=some q.2:=by simp[valueAt,GbB,e']
   rw[lD e,b];exact h2
  ·have e' :¬q.1=k:=λz=>e (h1.trans z);have b:valueAt (q::qs) k=valueAt qs k:=by simp[valueAt,GbB,e']
   rw[j8 e,b];exact ih
theorem KV.any{kvs:List (κ×V)}{vs:List (κ×Value)}(r:KV kvs vs)(k:κ):(kvs.any λkv=>decide (kv.1=k))=vs.any λkv=>decide (kv.1=k):=by
 unfold KV at r;induction r with
 |nil=>rfl
 |cons h t ih=>rw[Gdt,Gdt,ih,h.1]
theorem KV.JQ{kvs:List (κ×V)}{vs:List (κ×Value)}(r:KV kvs vs)(k:κ){y:V}{u:Value}(ry:RelV y u):
  KV (kvs.map λkv=>if kv.1=k then(kv.1,y) else kv) (vs.map λkv=>if kv.1=k then(kv.1,u) else kv):=by
 unfold KV at r⊢;induction r with
 |nil=>exact .nil
 | @cons p q ps qs h t ih=>
  rw[Gap,Gap];refine .cons ?_ ih;obtain⟨h1,h2⟩:=h;by_cases e:p.1=k
  ·rw[Gai e,Gai (h1.symm.trans e)];exact⟨h1,ry⟩
  ·rw[Gag e,Gag (λz=>e (h1.trans z))];exact⟨h1,h2⟩
theorem KV.put{kvs:List (κ×V)}{vs:List (κ×Value)}(r:KV kvs vs)(k:κ){y:V}{u:Value}(ry:RelV y u):KV (putK kvs k y) (stored vs k u):=by
 unfold putK stored;rw[r.any k];by_cases e:(vs.any λkv=>decide (kv.1=k))=true
 ·rw[Gai e,Gai e];exact r.JQ k ry
 ·rw[Gag e,Gag e];exact Paired.snoc r ⟨rfl,ry⟩
theorem KV.drop{kvs:List (κ×V)}{vs:List (κ×Value)}(r:KV kvs vs)(k:κ):KV (J3 kvs k) (without vs k):=by
 unfold KV at r⊢;unfold J3 without;induction r with
 |nil=>exact .nil
 | @cons p q ps qs h t ih=>
  obtain⟨h1,h2⟩:=h;rw[Gbk,Gbk];by_cases e:p.1=k
  ·have a:¬decide (p.1≠k)=true:=by simp[e]
   have b:¬decide (q.1≠k)=true:=by simp[h1.symm.trans e]
   rw[Gag a,Gag b];exact ih
  ·have e' :¬q.1=k:=λz=>e (h1.trans z);have a:decide (p.1≠k)=true:=by simp[e]
   have b:decide (q.1≠k)=true:=by simp[e']
   rw[Gai a,Gai b];exact .cons ⟨h1,h2⟩ ih
theorem KV.keys{kvs:List (κ×V)}{vs:List (κ×Value)}(r:KV kvs vs):kvs.map (·.1)=vs.map (·.1):=by
 unfold KV at r;induction r with
 |nil=>rfl
 |cons h t ih=>rw[Gap,Gap,ih,h.1]
theorem KV.length{kvs:List (κ×V)}{vs:List (κ×Value)}(r:KV kvs vs):kvs.length=vs.length:=Paired.length r
end
theorem BF{P:Program}{w:World}{k:Key}{u:Value}(r:RelV (kV k) u):(cC P w).is k u=true:=by
 cases k with
 |inl i=>obtain⟨t,e⟩:=(show∃t,u=Value.int i t from r);subst e;exact vT P w i t
 |inr x=>obtain⟨t,e⟩:=(show∃t,u=Value.str x t from r);subst e;exact vU P w x t
theorem tV{P:Program}{w:World}:∀{ks:List Key} {us:List Value},Vals (ks.map kV) us→ItemsAre (cC P w) ks us
 |[],_,r=>by rw[GdF] at r;cases r;exact .nil
 |k::ks,_,r=>by
  rw[Gap] at r;cases r with
  |cons h t=>exact .cons (BF h) (tV t)
abbrev KT(H:Hp):List (List Key×V)→List (List Key×Addr×Value)→Prop:=Paired λp q=>p.1=q.1∧H q.2.1=some (.tup (p.1.map kV))∧RelV p.2 q.2.2
theorem KT.val{H:Hp}{kvs:List (List Key×V)}{xs:List (List Key×Addr×Value)}(r:KT H kvs xs)(k:List Key):oZ (gY kvs k) ((atKey xs k).map (·.2)):=by
 induction r with
 |nil=>exact True.intro
 | @cons p q ps qs h t ih=>
  obtain⟨h1,_,h2⟩:=h;by_cases e:p.1=k
  ·have e' :q.1=k:=h1.symm.trans e;have b:atKey (q::qs) k=some q.2:=by simp[atKey,GbB,e']
   rw[lD e,b];exact h2
  ·have e' :¬q.1=k:=λz=>e (h1.trans z);have b:atKey (q::qs) k=atKey qs k:=by simp[atKey,GbB,e']
   rw[j8 e,b];exact ih
theorem KT.JQ{H:Hp}{kvs:List (List Key×V)}{xs:List (List Key×Addr×Value)}(r:KT H kvs xs)(k:List Key){y:V}{u:Value}(ry:RelV y u):
  KT H (kvs.map λkv=>if kv.1=k then(kv.1,y) else kv) (xs.map (putAt k u)):=by
 induction r with
 |nil=>exact .nil
 | @cons p q ps qs h t ih=>
  rw[Gap,Gap];refine .cons ?_ ih;obtain⟨h1,h2,h3⟩:=h;unfold putAt;by_cases e:p.1=k
  ·rw[Gai e,Gai (h1.symm.trans e)];exact⟨h1,h2,ry⟩
  ·rw[Gag e,Gag (λz=>e (h1.trans z))];exact⟨h1,h2,h3⟩
theorem KT.put{H:Hp}{kvs:List (List Key×V)}{xs:List (List Key×Addr×Value)}(r:KT H kvs xs)(k:List Key){b:Addr}{y:V}{u:Value}(hb:H b=some (.tup (k.map kV)))(ry:RelV y u):
  KT H (putK kvs k y) (storedH xs k b u):=by
 have e:(kvs.any λkv=>decide (kv.1=k))=(atKey xs k).isSome:=by
  rw[qZ,(r.val k).CP,Option.isSome_map]
 unfold putK storedH;rw[e];by_cases q:(atKey xs k).isSome=true
 ·rw[Gai q,Gai q];exact r.JQ k ry
 ·rw[Gag q,Gag q];exact Paired.snoc r ⟨rfl,hb,ry⟩
theorem KT.keeps{H H' :Hp}{kvs:List (List Key×V)}{xs:List (List Key×Addr×Value)}(r:KT H kvs xs)(ht:∀b ys,H b=some (.tup ys)→H' b=some (.tup ys)):KT H' kvs xs:=
 Paired.Jj r λ_ _ z=> ⟨z.1,ht _ _ z.2.1,z.2.2⟩
section
variable{P:Program}{w:World}{H:Hp}{h:Heap}{a:Addr}
theorem J4{u:HO}(ok:HOk P w H h)(e:Rd H a u):cz P w H h a u:=e.ok ok
theorem tW{kvs:List (Key×V)}(ok:HOk P w H h)(e:Rd H a (.dK kvs)):kvs.length≤sizeLine∧(a==sysModules)=false∧∃vs,KV kvs vs∧h.DictOf (cC P w) a vs:=
 show cz P w H h a (.dK kvs) from J4 ok e
theorem M3{kvs:List (Key×V)}(ok:HOk P w H h)(e:H a=some (.dK kvs)):kvs.length≤sizeLine∧(a==sysModules)=false∧∃vs,KV kvs vs∧h.DictOf (cC P w) a vs:=tW ok (.inl e)
theorem nE{ks:List Key}(ok:HOk P w H h)(e:H a=some (.tup (ks.map kV))):(tupleKind (cC P w)).is h ks a:=by
 obtain⟨_,its,r,o,h1,h2,n,h3⟩:=(show cz P w H h a (.tup (ks.map kV)) from ok a _ e)
 exact⟨o,its.toArray,n,h1,h2,h3,by simpa using tV r⟩
theorem wa{kvs:List (List Key×V)}(ok:HOk P w H h)(e:Rd H a (.dT kvs)):kvs.length≤sizeLine∧(a==sysModules)=false∧
  ∃xs,KT H kvs xs∧h.DictOfH (tupleKind (cC P w)) a xs:=by
 obtain⟨z,y,xs,r,o,es,ep,h1,h2,h3,h4,h5⟩:=(show cz P w H h a (.dT kvs) from J4 ok e)
 refine⟨z,y,xs,r,o,es,ep,h1,h2,h3,h4,λx hx=> ?_,h5⟩;have all:∀{l:List (List Key×V)} {m:List (List Key×Addr×Value)},KT H l m→∀x∈m,(tupleKind (cC P w)).is h x.1 x.2.1:=by
  intro l m q;induction q with
  |nil=>intro x hx;exact nomatch hx
  | @cons p q ps qs hq t ih=>
   intro x hx;rcases Gay.mp hx with e|hx
   ·subst e;exact nE ok (by rw[←hq.1];exact hq.2.1)
   ·exact ih x hx
 exact all r x hx
theorem BG{kvs:List (List Key×V)}(ok:HOk P w H h)(e:H a=some (.dT kvs)):kvs.length≤sizeLine∧(a==sysModules)=false∧
  ∃xs,KT H kvs xs∧h.DictOfH (tupleKind (cC P w)) a xs:=wa ok (.inl e)
end
def qF(H:Hp)(a:Addr)(y:V)(r:Option V):Prop:=
 (∃kvs k,Rd H a (.dK kvs)∧y=kV k∧r=gY kvs k)∨∃kvs k b,Rd H a (.dT kvs)∧y= .ref b∧H b=some (.tup (k.map kV))∧r=gY kvs k
def wc(H:Hp)(a:Addr)(y v:V)(H' :Hp):Prop:=
 (∃kvs k,H a=some (.dK kvs)∧y=kV k∧kvs.length<sizeLine∧H' =upd H a (.dK (putK kvs k v)))∨
 ∃kvs k b,H a=some (.dT kvs)∧y= .ref b∧H b=some (.tup (k.map kV))∧kvs.length<sizeLine∧H' =upd H a (.dT (putK kvs k v))
theorem qF.k{H:Hp}{a:Addr}{kvs:List (Key×V)}{k:Key}(e:H a=some (.dK kvs)):qF H a (kV k) (gY kvs k):= .inl ⟨kvs,k,.inl e,rfl,rfl⟩
theorem qF.t{H:Hp}{a b:Addr}{kvs:List (List Key×V)}{k:List Key}(e:H a=some (.dT kvs))(eb:H b=some (.tup (k.map kV))):qF H a (.ref b) (gY kvs k):= .inr ⟨kvs,k,b,.inl e,rfl,eb,rfl⟩
theorem wc.k{H:Hp}{a:Addr}{kvs:List (Key×V)}{k:Key}{v:V}(e:H a=some (.dK kvs))(hl:kvs.length<sizeLine):wc H a (kV k) v (upd H a (.dK (putK kvs k v))):= .inl ⟨kvs,k,e,rfl,hl,rfl⟩
theorem wc.t{H:Hp}{a b:Addr}{kvs:List (List Key×V)}{k:List Key}{v:V}(e:H a=some (.dT kvs))(eb:H b=some (.tup (k.map kV)))(hl:kvs.length<sizeLine):
  wc H a (.ref b) v (upd H a (.dT (putK kvs k v))):= .inr ⟨kvs,k,b,e,rfl,eb,hl,rfl⟩
section
variable{X:Cx}{pins:List (Addr×Obj)}{σ:St}{H:Hp}{s:Shared}{a:Addr}{y v:V}{u r:Value}{o:Option V}{A:Around}{E:Value→Shared→Prop}
theorem Inv.big(I:Inv X pins σ H s):sysModules<s.heap.objs.size:=by
 have h:mainGlobals<s.heap.objs.size:=(I.mod.glob.keeps I.bk).lt;exact Nat.lt_trans (by decide) h
theorem CQ{Q:Value→Shared→Prop}(hu:A.units+1<cLine)(I:Inv X pins σ H s)(g:qF H a y (some v))(ry:RelV y u)(h:∀w' s',Inv X pins σ H s' →RelV v w' →Q w' s'):
  wpAny (model X.prog X.w) A (getItem (.ref a) u) Q E s:=by
 rcases g with⟨kvs,k,e,ey,l⟩| ⟨kvs,k,b,e,ey,eb,l⟩
 ·subst ey;obtain⟨z,hd,vs,rel,dd⟩:=tW I.hok e;obtain⟨w',hw,rw'⟩:=oZ.some_of (v:=v) (o:=valueAt vs k) (by rw[l];exact rel.val k);exact wpAny_getItem_of (BF ry) dd.mapOf hw (h w' _ (I.tok _) rw')
 ·subst ey;cases(show u=Value.ref b from ry);obtain⟨z,hd,xs,rel,dd⟩:=wa I.hok e;obtain⟨w',hw,rw'⟩:=oZ.some_of (v:=v) (o:=(atKey xs k).map (·.2)) (by rw[l];exact rel.val k);obtain⟨p,hp,hp2⟩:=Gam.mp hw;refine wpAny_getItem_heap (GcZ hu) (nE I.hok eb) dd hp ?_;rw[hp2];exact h w' _ (I.tok _) rw'
theorem qN{h' :Heap}{t' :Nat}{ob:HO}(I:Inv X pins σ H s)(mu:Mut (H a))(hs:Heap.SameBut a s.heap h')(he:∃q,h'.get? a=some q)(new:cz X.prog X.w (upd H a ob) h' a ob):
  Inv X pins σ (upd H a ob) {s with heap:=h',toks:=t' }:=
 I.write (x:=a) (e:=a) mu (.inl rfl) (λb q hb z=>(hs.2 b hb).trans z) he new
theorem JR{P:Program}{w:World}{H' :Hp}{h' :Heap}{kvs:List (Key×V)}{vs:List (Key×Value)}(z:kvs.length≤sizeLine)(hd:(a==sysModules)=false)(rel:KV kvs vs)(dd:h'.DictOf (cC P w) a vs):
  cz P w H' h' a (.dK kvs):=⟨z,hd,vs,rel,dd⟩
theorem CT{H' :Hp}{Q:Unit→Shared→Prop}(hu:A.units+1<cLine)(I:Inv X pins σ H s)(g:wc H a y v H')(ry:RelV y u)(rv:RelV v r)(h:∀s',Inv X pins σ H' s' →Q () s'):
  wpAny (model X.prog X.w) A (setItem (.ref a) u r) Q E s:=by
 rcases g with⟨kvs,k,e,ey,l,eH⟩| ⟨kvs,k,b,e,ey,eb,l,eH⟩
 ·subst ey eH;obtain⟨z,hd,vs,rel,dd⟩:=M3 I.hok e;have hz:vs.length≤sizeLine:=by rw[←rel.length];exact z
  have hl:(putK kvs k v).length≤sizeLine:=by have:=lE kvs k v;omega
  refine wpAny_setItem_pairs (hsz:=hz) (BF ry) dd λh' dd' hs=>h _ ?_;have he:∃q,h'.get? a=some q:=let⟨q,_,_,hq,_⟩:=dd';⟨q,hq⟩
  exact qN I (by rw[e];exact True.intro) hs he (JR hl hd (rel.put k rv) dd')
 ·subst ey eH;cases(show u=Value.ref b from ry);obtain⟨z,hd,xs,rel,dd⟩:=BG I.hok e;have hz:xs.length≤sizeLine:=by rw[←Paired.length rel];exact z
  have hl:(putK kvs k v).length≤sizeLine:=by have:=lE kvs k v;omega
  refine wpAny_setItem_heap (hsz:=hz) (GcZ hu) (nE I.hok eb) dd λh' dd' hs=>h _ ?_;obtain⟨q,es,ep,hq,h2,h3,h4,_,h5⟩:=dd';refine qN I (by rw[e];exact True.intro) hs ⟨q,hq⟩ ⟨hl,hd,_,(rel.put k eb rv).keeps λc ys ec=> ?_,q,es,ep,hq,h2,h3,h4,h5⟩;rw[ay (Bw ec e (λz=>nomatch z))];exact ec
end
section
variable{X:Cx}{pins:List (Addr×Obj)}{σ:St}{H:Hp}{s:Shared}{a:Addr}{kvs:List (Key×V)}{k:Key}{u:Value}{A:Around}{E:Value→Shared→Prop}
theorem M4{Q:Value→Shared→Prop}(I:Inv X pins σ H s)(e:Rd H a (.dK kvs))(h:∀t s',Inv X pins σ H s' →Q (.int kvs.length t) s'):wpAny (model X.prog X.w) A (call (.builtin "len") [.ref a]) Q E s:=by
 obtain⟨z,hd,vs,rel,dd⟩:=tW I.hok e;refine call_len_dict hd dd (by rw[←rel.length];rw[GbP] at z;omega) ?_;rw[←rel.length];exact h _ _ (I.tok _)
end
theorem we{X:Cx}{pins:List (Addr×Obj)}{σ:St}{H:Hp}{s:Shared}{a:Addr}{y:V}{o:Option V}(I:Inv X pins σ H s)(g:qF H a y o):s.TypeIs (.ref a) "dict":=by
 rcases g with⟨kvs,k,e,_,_⟩| ⟨kvs,k,b,e,_,_,_⟩
 ·obtain⟨_,_,vs,_,dd⟩:=tW I.hok e;exact dd.typeIs
 ·obtain⟨_,_,xs,_,dd⟩:=wa I.hok e;exact dd.typeIs
theorem Ex{P:Program}{w:World}{H:Hp}(h:Heap)(hb:sysModules<h.objs.size):cz P w H (h.push {cls:= .type "dict",data:= .dict #[]}) h.objs.size (.dT []):=
 ⟨GbH _,beq_eq_false_iff_ne.mpr (GaY (GaI hb)),[],.nil,_,#[],0,Gaz _ rfl,⟨rfl,rfl,rfl⟩,rfl,rfl,List.nodup_nil⟩
noncomputable def JS:TE:=λ_ H Q=>∀p,H p=none→Q (.ref p) (upd H p (.dT []))
section
variable{X:Cx}{pos:Pos}
theorem wg:PE X (.Dict [] [] pos) JS:=λpins s σ H Q I h=>
 wpAny_Dict_empty ⟨.ref s.heap.objs.size,_,I.laid (a:=s.heap.objs.size) (o:= .dT []) (t' :=s.toks) (λ_ _ q=>Gah _ q) (Gar _) (Ex s.heap I.big),rfl,h _ (I.hok.fresh (Gar _))⟩
end
structure M2(X:Cx)(o:Expr)(m:Str)(apos:Pos)(e f:Expr)(cpos:Pos):Prop where
 base:attributeBase o m X.env (eval o X.env)=eval o X.env
 few:((backTo cpos (starEach [e,f] X.env)).all (λx=> !x.1)&&(backToKw cpos (keywordEach [] X.env)).all (λx=>x.1.isSome)
  &&decide (([e,f]:List Expr).length+([]:List Keyword).length+(if([]:List Keyword).isEmpty then 0 else 1)<30))=true
 line:(apos.endLine==cpos.line)=true
 trees:backTo cpos (starEach [e,f] X.env)=[(false,eval e X.env),(false,eval f X.env)]
def IsD(H:Hp)(a:Addr):Prop:=(∃kvs,Rd H a (.dK kvs))∨∃kvs,Rd H a (.dT kvs)
theorem AR{X:Cx}{pins:List (Addr×Obj)}{σ:St}{H:Hp}{s:Shared}{a:Addr}(I:Inv X pins σ H s)(d:IsD H a):
  s.TypeIs (.ref a) "dict"∧(∀b,Value.ref a= .ref b→∃ob,s.heap.get? b=some ob∧ob.dict=none)∧(a==sysModules)=false:=by
 rcases d with⟨kvs,e⟩| ⟨kvs,e⟩
 ·obtain⟨_,hd,vs,_,dd⟩:=tW I.hok e;refine⟨dd.typeIs,λb q=> ?_,hd⟩;cases q;obtain⟨ob,_,_,h1,h2,_⟩:=dd;exact⟨ob,h1,h2.2.1⟩
 ·obtain⟨_,hd,xs,_,dd⟩:=wa I.hok e;refine⟨dd.typeIs,λb q=> ?_,hd⟩;cases q;obtain⟨ob,_,_,h1,h2,_⟩:=dd;exact⟨ob,h1,h2.2.1⟩
section
variable{X:Cx}{pins:List (Addr×Obj)}{σ:St}{H:Hp}{s:Shared}{a:Addr}{y d:V}{u r:Value}{o:Option V}{A:Around}{E:Value→Shared→Prop}
theorem JT{Q:Value→Shared→Prop}(hu:A.units+1<cLine)(I:Inv X pins σ H s)(g:qF H a y o)(ry:RelV y u)(rd:RelV d r)(h:∀w' s',Inv X pins σ H s' →RelV (o.getD d) w' →Q w' s'):
  wpAny (model X.prog X.w) A (call (.builtin "dict.get") [.ref a,u,r]) Q E s:=by
 rcases g with⟨kvs,k,e,ey,l⟩| ⟨kvs,k,b,e,ey,eb,l⟩
 ·subst ey;obtain⟨z,hd,vs,rel,dd⟩:=tW I.hok e;refine call_meetsIn GdA dd.typeIs PySem.F.entry_dict_get (PySem.F.args_dict_get_3 _ _ _) (meets_dict_get_default (cC X.prog X.w) a (BF ry) hd r) ⟨_,dd.mapOf,h _ _ (I.tok _) ?_⟩;rw[l];exact(rel.val k).getD rd
 ·subst ey;cases(show u=Value.ref b from ry);obtain⟨z,hd,xs,rel,dd⟩:=wa I.hok e;refine call_meetsIn GdA dd.typeIs PySem.F.entry_dict_get (PySem.F.args_dict_get_3 _ _ _) (meetsH_dict_get_default (tupleKind (cC X.prog X.w)) a b hd r) ⟨GcZ hu,k,xs,nE I.hok eb,dd,h _ _ (I.tok _) ?_⟩;rw[l];exact(rel.val k).getD rd
end
noncomputable def JU(td ty tx:TE):TE:=λσ H Q=>td σ H λx H1=>∃a,x= .ref a∧IsD H1 a∧ty σ H1 λy H2=>tx σ H2 λz H3=>∃o,qF H3 a y o∧Q (o.getD z) H3
section
variable{X:Cx}{o e f:Expr}{apos cpos:Pos}{td ty tx:TE}
theorem Ey(hu:X.A.units+1<cLine)(ho:PE X o td)(he:PE X e ty)(hf:PE X f tx)(m:M2 X o "get" apos e f cpos):PE X (.Call (.Attribute o "get" apos) [e,f] [] cpos) (JU td ty tx):=by
 intro pins s σ H Q I h;refine wpAny_Call_method m.base m.few m.line Gdi GdA PySem.F.type_dict_get (thn (ho pins s σ H _ I h) λu s1 ⟨x,H1,I1,rx,a,ex,d,q1⟩=> ?_);subst ex;obtain rfl:u=Value.ref a:=rx;obtain⟨t1,t2,_⟩:=AR I1 d;refine⟨t1,t2, ?_⟩;rw[m.trees];refine GcN rfl (GdE (GcH (thn (he pins s1 σ H1 _ I1 q1) λiv s2 ⟨y,H2,I2,ry,q2⟩=>
  GcH (thn (hf pins s2 σ H2 _ I2 q2) λfv s3 ⟨z,H3,I3,rz,ov,g,q3⟩=>Calls.spliced_nil ?_))))
 exact JT hu I3 g ry rz λw' s4 I4 rw' => ⟨_,H3,I4,rw',q3⟩
end
end L2
namespace Att
open PySem PySem.W PySem.Calls PyProof.Rows
theorem qG{P:Params}{h:Heap}:∀(ns:List Int) (vs:List Value),WellAll P h vs (ns.map WData.int)→IntsAre vs ns:=by
 intro ns;induction ns with
 |nil=>
  intro vs w;rw[GdF] at w;cases w;exact .nil
 |cons n ns ih=>
  intro vs w;rw[Gap] at w;cases w with
  |cons a b=>
   cases a;exact .cons _ _ (ih _ b)
theorem CU{l:OpenLaw}{n:Nat}(hn:l.most=some n){P:Params}{h:Heap}{args:List WData}{vals:List Value}
  (hpre:l.row.toRowW.claim.pre args=true)(hwl:WellAll P h vals args):
  ∃a vs ns,vals=[Value.ref a]∧args=[WData.list (ns.map WData.int)]∧h.get? a=some {cls:= .type "list",data:= .seq vs.toArray}∧IntsAre vs ns∧ns.length≤n:=by
 have hsh:WShape.hasAll [] args [.list .int]=true:=(pre_splitW hpre).1;have hc:l.pre.holds [] {args:=args}=true:=(pre_splitW hpre).2;obtain⟨d,r,rfl,h1,h2⟩:=hasAllW_cons hsh;obtain rfl:=hasAllW_nil h2;obtain⟨xs,rfl,h3⟩:=hasW_list h1;obtain⟨ns,rfl⟩:=items_int h3;have hlen:ns.length≤n:=by
  unfold OpenLaw.pre at hc;have h4:(WTm.not (.lt (.lit (.int (n:Int))) (.len (.arg 0)))).holds [] {args:=[.list (ns.map .int)]}=true:=by
   have h4:=(holds_andW hc).1;rw[hn] at h4;exact h4
  have h5:=condW_of h4 (w_not (w_lt w_lit (w_len_list (w_arg rfl))));rw[Gaf] at h5;refine Nat.le_of_not_lt λq=> ?_;have q' :(n:Int)<((ns.length:Nat):Int):=by omega
  first
   |(rw[GaN q'] at h5;exact absurd h5 (by decide))
   |(simp at h5;omega)
 cases hwl with
 |cons w1 w2=>
  cases w2;cases w1 with
  |list ho hall=>exact⟨_,_,ns,rfl,rfl,ho,qG ns _ hall,hlen⟩
theorem CV(l:OpenLaw)(args:List WData):l.row.toRowW.claim.post args (.bool true) args=true:=
 postW_of (r:=l.row.toRowW) (X:=(true==true))
  (show WShape.has [] (.bool true) .bool=true by first|rfl|decide|simp[WShape.has,WShape.arms,WShape.armsAll])
  (show(WTm.eq .res (.lit (.bool true))).value [] {args:=args,res:=some (.bool true),after:=args}=some (.bool (true==true)) from w_eq_bool (w_res rfl) w_lit) rfl
theorem wj{l:OpenLaw}{n:Nat}{q:Program}{loose:List Str}{XP:(Str→Option Value)→Heap→Prop}{YP:World→Heap→Prop}{d:DefRec}
  (hn:l.most=some n)(hdf:d.params.defaults=[])
  (call:∀(w:World) (s₀ s₁:Shared) (mg mb:Str→Option Value) (fa:Addr) (o:Obj) (pm cd doc:Value) (a:Addr) (vs:List Value) (ns:List Int),
   Ground q loose [] XP w s₀ mg mb s₁.heap→YP w s₁.heap→
   s₁.heap.get? fa=some o→o.data= .func (docDef d.name d.params d.body d.scope pm cd doc)→s₁.heap.CodeRec cd d.name→mg d.name=some (.ref fa)→
   s₁.heap.get? a=some {cls:= .type "list",data:= .seq vs.toArray}→IntsAre vs ns→ns.length≤n→s₁.gens=#[]→
   codeAny (model l.prog w) callerA (.call (.ref fa) ⟨[.ref a],[]⟩) (λr s' =>r= .ok (.ret (.bool true))∧OldK s₁.heap s'.heap∧s'.os=s₁.os∧AllBare s'.gens) s₁):
  WalkO q loose XP YP l.row.toRowW d [] (λf vs=>PySem.call f vs):=by
 intro w s₀ s₁ mg mb G Y fa o pm cd doc dV kV ho hd hcd hD hmg hg args vals as hpre hlay hrd hwl hlo;obtain rfl:dV= .none:=Dflts.none hD hdf;obtain rfl:kV= .none:=Dflts.noKw hD;obtain⟨a,vs,ns,rfl,rfl,hobj,hints,hlen⟩:=CU hn hpre hwl;refine enter_call (codeAny_mono (call w s₀ s₁ mg mb fa o pm cd doc a vs ns G Y ho (fd_plain hd) hcd hmg hobj hints hlen hg) λr s' hq=> ?_);obtain⟨rfl,h2,h3,h4⟩:=hq;exact⟨.inl ⟨.bool true,.bool true,[],rfl,λ_=>rfl,.bool true,CV l _,λ_=> ⟨List.Pairwise.nil,λ_ hm=>(nomatch hm)⟩⟩,h2,h3,h4⟩
end Att
namespace L2
open PySem PySem.Spec PyProof.Rows
theorem mC:∀{vs:List Value} {ns:List Int},IntsAre vs ns→Vals (ns.map V.int) vs
 |_,_,.nil=> .nil
 |_,_,.cons n t h=> .cons ⟨t,rfl⟩ (mC h)
def Hl(H:Hp):Prop:=∀b,H b=none∨∃o xs,H b=some (.frz o (.lst xs))
theorem Ez{P:Program}{w:World}{K:PySem.W.Frag}{mg mb:Str→Option Value}{CX:CXT}{k:Nat}{fa a:Addr}{fd:FuncData}{x:Str}{sp:Sp}{s₁:Shared}{vs:List Value}{ns:List Int}
  (KX:K.In s₁.heap)(hns:s₁.heap.Ns mainGlobals mg)(hb:s₁.heap.Ns builtinsNs mb)(hbb:∀x:Str,x≠"__name__"→mb x=bootBuiltins x)(hlim:s₁.heap.NoLimit)(hg:s₁.gens=#[])
  (ha:s₁.heap.get? a=some {cls:= .type "list",data:= .seq vs.toArray})(hi:IntsAre vs ns)(hl:ns.length≤sizeLine)(hr:iq k callerA)
  (F:∀base:Heap,K.In base→base.Ns mainGlobals mg→cw P w K mg base CX k fa fd [x] sp)(hbind:∀(s:Shared) (u:Value),BindsTo s fd ⟨[u],[]⟩ [(x,u)])
  (hsp:∀H:Hp,Hl H→SqL K H a (ns.map V.int)→sp [.ref a] H (λv _=>v= .bl true) λ_ _ _=>False)
  (hCX:∀H e s',CX [] H s₁ (λ_ _ _=>False) e s' →False):
  codeAny (model P w) callerA (.call (.ref fa) ⟨[.ref a],[]⟩) (λr s' =>r= .ok (.ret (.bool true))∧OldK s₁.heap s'.heap∧s'.os=s₁.os∧AllBare s'.gens) s₁:=by
 have rv:=mC hi;have lenV:=hi.length;have core:∀H:Hp,Hl H→SqL K H a (ns.map V.int)→HOk P w H s₁.heap→(∀b,H b≠none→b=a)→(H a≠none→K.lookup a=none)→
   codeAny (model P w) callerA (.call (.ref fa) ⟨[.ref a],[]⟩) (λr s' =>r= .ok (.ret (.bool true))∧OldK s₁.heap s'.heap∧s'.os=s₁.os∧AllBare s'.gens) s₁:=by
  intro H hO hS hok hA hK;have base_of:∀{b:Addr} {o:Obj},s₁.heap.get? b=some o→H b=none→(uN s₁.heap H).get? b=some o:=λe n=>Ee e n;have noA:∀{b:Addr} {o:Obj} {es:Array DictEntry} {ep:Nat},s₁.heap.get? b=some o→o.data= .dict es ep→H b=none:=λ{b o es ep} e d=>by
   cases q:H b with
   |none=>rfl
   |some u=>
    have e' :b=a:=hA b (by rw[q];simp);subst e';rw[ha] at e;cases e
    have d' :Data.seq vs.toArray _=Data.dict es ep:=d;cases d'
  have nsK:∀{b:Addr} {m:Str→Option Value},s₁.heap.Ns b m→(uN s₁.heap H).Ns b m:=λ{b m} ⟨o,es,ep,e,d,r⟩=> ⟨o,es,ep,base_of e (noA e d),d,r⟩;have hKb:K.In (uN s₁.heap H):=λb o e=>base_of (KX b o e) (by
   cases q:H b with
   |none=>rfl
   |some u=>
    have e' :b=a:=hA b (by rw[q];simp);subst e';rw[hK (by rw[q];simp)] at e;cases e)
  have hM:Mod K mg (uN s₁.heap H):=⟨hKb,nsK hns,⟨mb,nsK hb,hbb⟩,let⟨mc,h1,h2⟩:=hlim;⟨mc,nsK h1,h2⟩⟩
  have e0:AL P w K mg (uN s₁.heap H) callerA [] s₁ H:=⟨rfl,hM,λb o e=>GJ e,Nat.le_of_eq (CB _ _),trivial,λb hb=>absurd (show b∈([]:List Addr) from hb) (by simp),hok,.of_eq hg⟩
  refine codeAny_mono ((F _ hKb (nsK hns)).run callerA [] s₁ H ⟨[.ref a],[]⟩ [.ref a] [.ref a] _ _ hr e0 (hbind s₁ (.ref a)) (.cons rfl .nil) (hsp H hO hS)) λr s' h=> ?_;cases r with
  |error e=>exact(hCX H e s' h).elim
  |ok fl=>
   cases fl with
   |next=>exact False.elim h
   |brk=>exact False.elim h
   |cont=>exact False.elim h
   |ret u=>
    obtain⟨v,H',os,bare,un,hok',r',q⟩:=h;have q' :v= .bl true:=q;subst q';obtain rfl:u=Value.bool true:=r';refine⟨rfl,OldK.of_keep λb o e=> ?_,os,bare⟩;cases q:H b with
    |none=>exact un.keep b o e q (by intro z;exact absurd (show b∈([]:List Addr) from z) (by simp)) (by simp)
    |some u=>
     rcases hO b with z| ⟨ob,xs,z⟩
     ·rw[q] at z;cases z
     ·have z2:=un.nQ b ob _ z;obtain⟨e1,_⟩:=hok b _ z;obtain⟨e2,_⟩:=hok' b _ z2;rw[e] at e1;cases e1
      exact e2
 cases hk:K.lookup a with
 |some o=>
  have e:=KX a o hk;rw[ha] at e;cases e;refine core (λ_=>none) (λ_=> .inl rfl) (.inr ⟨_,vs.toArray,_,hk,rfl,rfl,rfl,by rw[Gan,lenV];exact hl,by simpa using rv⟩) (λb u z=>by have z' :(none:Option HO)=some u:=z;cases z') (λb z=>absurd rfl z) λz=>absurd rfl z
 |none=>
  refine core (λb=>if b=a then some (.frz {cls:= .type "list",data:= .seq vs.toArray} (.lst (ns.map V.int))) else none) (λb=> ?_) (.inl (.inr ⟨{cls:= .type "list",data:= .seq vs.toArray},Gai rfl⟩)) (λb u z=> ?_) (λb z=> ?_) λ_=>hk
  ·by_cases hb:b=a
   ·exact .inr ⟨_,_,Gai hb⟩
   ·exact .inl (Gag hb)
  ·by_cases hb:b=a
   ·have z' :=(Gai hb).symm.trans z;cases z';subst hb;exact⟨ha,by rw[Gaf];exact hl,vs,_,rv,ha⟩
   ·have z' :=(Gag hb).symm.trans z;cases z'
  ·by_cases hb:b=a
   ·exact hb
   ·exact absurd (Gag hb) z
theorem Hm{l:PySem.W.OpenLaw}{n k:Nat}{q:Program}{loose:List Str}{XP:(Str→Option Value)→Heap→Prop}{YP:World→Heap→Prop}{d:DefRec}{K:Params→PySem.W.Frag}{CX:World→CXT}{sp:World→Sp}{x:Str}
  (hn:l.most=some n)(hn2:n≤sizeLine)(hdf:d.params.defaults=[])(hr:iq k callerA)
  (hY:∀(w:World) (h:Heap),YP w h→(K w.params).In h)
  (F:∀(w:World) (mg:Str→Option Value) (fa:Addr) (h:Heap),(K w.params).In h→h.Ns mainGlobals mg→mg d.name=some (.ref fa)→
   ∃fd:FuncData,(∀(s:Shared) (u:Value),BindsTo s fd ⟨[u],[]⟩ [(x,u)])∧
    ∀base:Heap,(K w.params).In base→base.Ns mainGlobals mg→cw l.prog w (K w.params) mg base (CX w) k fa fd [x] (sp w))
  (hsp:∀(w:World) (H:Hp) (a:Addr) (ns:List Int),ns.length≤n→Hl H→SqL (K w.params) H a (ns.map V.int)→sp w [.ref a] H (λv _=>v= .bl true) λ_ _ _=>False)
  (hCX:∀(w:World) (H:Hp) (s:Shared) (e:Value) (s' :Shared),CX w [] H s (λ_ _ _=>False) e s' →False):
  PySem.W.WalkO q loose XP YP l.row.toRowW d [] (λf vs=>PySem.call f vs):=by
 refine Att.wj hn hdf λw s₀ s₁ mg mb fa o pm cd doc a vs ns G Y ho hd hcd hmg hobj hints hlen hg=> ?_;have KX:=hY w _ Y;obtain⟨fd,hb,hF⟩:=F w mg fa _ KX G.T.g hmg;exact Ez KX G.T.g G.T.b G.T.builtins G.T.nolimit hg hobj hints (Gbx hlen hn2) hr hF hb (λH hO hS=>hsp w H a ns hlen hO hS) λH e s' =>hCX w H s₁ e s'
noncomputable def mD(s:Stmt):Arguments:=match s with
 | .FunctionDef _ a _ _ _ _ _ _ _ _=>a
 |_=>{posonlyargs:=[],args:=[],vararg:=none,kwonlyargs:=[],kw_defaults:=[],kwarg:=none,defaults:=[]}
noncomputable def jA(s:Stmt):List Stmt:=match s with
 | .FunctionDef _ _ b _ _ _ _ _ _ _=>b
 |_=>[]
noncomputable def aJ(s:Stmt):Scope:=match s with
 | .FunctionDef _ _ _ _ _ _ sc _ _ _=>sc
 |_=>{kind:= .function,names:=[],isGenerator:=false,isCoroutine:=false}
noncomputable abbrev CX0:CXT:=λ_ _ _ _ _ _=>False
noncomputable abbrev E0:XK:=λ_ _ _=>False
theorem M5{X:Cx}:Passes CX0 X E0:=λ_ _ _ _ _ _ _ h=>h.elim
structure Fun(K:PySem.W.Frag)(x qual:Str)(st:Stmt)(f:Addr)(fd:FuncData):Prop where
 ex:∃(oc:Value) (od:Option Addr) (kV doc pm:Value) (an:Option Addr) (cdv ct:Value) (osl:Array (Option Value)),
  fd=PySem.W.fnOf x qual (mD st) (jA st) (aJ st) .none kV doc pm an cdv ct∧K.lookup f=some ⟨oc,od,.func fd,osl⟩∧PySem.W.codeIn K cdv qual=true
 kp:PySem.W.keepIn K (.ref f)=true
section
variable{P:Program}{w:World}{K:PySem.W.Frag}{mg:Str→Option Value}{base:Heap}
theorem Fun.ok{x qual:Str}{st:Stmt}{f:Addr}{fd:FuncData}{N ps:List Str}{k:Nat}{sp:Sp}(F:Fun K x qual st f fd)(S:aW N ps (aJ st))(len:∀vs H Q E,sp vs H Q E→vs.length=ps.length)
  (hbody:∀(cdv:Value) (A:Around) (outer:List Env) (s:Shared) (H:Hp) (vs:List V) (Q:VK) (E:XK),iq k (A.deeper (envOfC qual (aJ st) s.heap.objs.size f cdv))→sp vs H Q E→
   ∃t,PSs (AM CX0 P w K mg base N qual (aJ st) f cdv A outer s H E).nox (jA st) t∧t {nx:=λ_ H' =>Q .non H',rt:=Q} (start N vs) H):cw P w K mg base CX0 (k+1) f fd ps sp:=by
 obtain⟨oc,od,kV,doc,pm,an,cdv,ct,osl,rfl,lk,hcd⟩:=F.ex;refine LW lk hcd S len λA outer s H vs Q E hr hsp=> ?_;obtain⟨t,h,q⟩:=hbody cdv A outer s H vs Q E hr hsp;exact⟨t,h.nox,q⟩
theorem JV{x qual:Str}{st:Stmt}{f:Addr}{oc:Value}{od an:Option Addr}{osl:Array (Option Value)}{kV doc pm cdv ct:Value}(l:K.lookup f=some ⟨oc,od,.func (PySem.W.fnOf x qual (mD st) (jA st) (aJ st) .none kV doc pm an cdv ct),osl⟩)
  (c:PySem.W.codeIn K cdv qual=true)(k:PySem.W.keepIn K (.ref f)=true):Fun K x qual st f (PySem.W.fnOf x qual (mD st) (jA st) (aJ st) .none kV doc pm an cdv ct):=⟨⟨oc,od,kV,doc,pm,an,cdv,ct,osl,rfl,l,c⟩,k⟩
end
theorem cN{A:Around}{k:Nat}(hr:iq k A):A.units+1<cLine:=Gda (Nat.add_le_add_left (by decide:1≤64) _) hr.units
def cj(H H' :Hp):Prop:=∀b o,H b=some o→H' b=some o
theorem cj.refl(H:Hp):cj H H:=λ_ _ h=>h
theorem cj.trans{H H1 H2:Hp}(a:cj H H1)(b:cj H1 H2):cj H H2:=λc o h=>b c o (a c o h)
theorem cj.free{H H' :Hp}(e:cj H H'){l:Addr}(h:H' l=Option.none):H l=Option.none:=by
 cases q:H l with
 |none=>rfl
 |some o=>
  rw[e l o q] at h;cases h
end L2
namespace DL
open PySem
noncomputable abbrev Key:=Sum Int Str
inductive D where
 |non
 |bl (b:Bool)
 |int (i:Int)
 |str (x:Str)
 |tup (ds:List D)
 |lst (ds:List D)
 |dK (kvs:List (Key×D))
 |dT (kvs:List (List Key×D))
 |scr (ns:List Int)
 deriving Inhabited
mutual
@[simp] noncomputable def D.imm:D→Bool
 | .non=>true
 | .bl _=>true
 | .int _=>true
 | .str _=>true
 | .tup ds=>aQ ds
 | .lst _=>false
 | .dK _=>false
 | .dT _=>false
 | .scr _=>true
@[simp] noncomputable def aQ:List D→Bool
 |[]=>true
 |d::ds=>d.imm&&aQ ds
end
noncomputable def D.nU:D→Bool
 | .lst ds=>aQ ds
 | .dK kvs=>aQ (kvs.map (·.2))
 | .dT kvs=>aQ (kvs.map (·.2))
 |d=>d.imm
noncomputable def D.top:D→Bool
 | .lst _=>true
 | .dK _=>true
 | .dT _=>true
 |_=>false
noncomputable def ai:Nat:=16777216
inductive Slot where
 |sh (d:D)
 |own (d:D)
 |lok (d:D)
 |bor (d:D)
noncomputable abbrev Env:=List (Option Slot)
inductive Cls where
 |c|tn|to|tb
 deriving DecidableEq
structure RV where
 k:Cls
 d:D
noncomputable abbrev DE:=Env→Option RV
noncomputable abbrev DT:=Env→Option Bool
noncomputable abbrev DA:=Env→Option (List RV)
noncomputable abbrev DG:=D→Env→Option Env
inductive Out where
 |nx (e:Env)
 |ret (d:D)
 |bk (e:Env)
 |ct (e:Env)
noncomputable abbrev DS:=Env→Option Out
noncomputable def kB(d:D):RV:=⟨if d.top then .tn else .c,d⟩
noncomputable def RV.free(r:RV):Bool:=match r.k with
 | .c=>true
 | .tn=>true
 |_=>false
@[simp] noncomputable def vE(i:Nat):DE:=λenv=>match env[i]? with
 |some (some (.sh d))=>some ⟨.c,d⟩
 |some (some (.own d))=>some ⟨.to,d⟩
 |some (some (.lok d))=>some ⟨.tb,d⟩
 |some (some (.bor d))=>some ⟨.tb,d⟩
 |_=>none
@[simp] noncomputable def kE(d:D):DE:=λ_=>some ⟨.c,d⟩
@[simp] noncomputable def opE(o:D→D→Option RV)(f g:DE):DE:=λenv=>(f env).bind λx=>(g env).bind λy=>o x.d y.d
@[simp] noncomputable def unE(o:D→Option RV)(f:DE):DE:=λenv=>(f env).bind λx=>o x.d
noncomputable def aT:D→D→Option RV
 | .int i,.int j=>some ⟨.c,.int (i+j)⟩
 | .str x,.str y=>if x.length+y.length≤ai then some ⟨.c,.str (x++y)⟩ else none
 | .tup x,.tup y=>if x.length+y.length≤ai∧0<x.length then some ⟨.c,.tup (x++y)⟩ else none
 | .lst x,.lst y=>if x.length+y.length≤ai then some ⟨.tn,.lst (x++y)⟩ else none
 |_,_=>none
noncomputable def k5:D→D→Option RV
 | .int i,.int j=>some ⟨.c,.int (i -j)⟩
 |_,_=>none
noncomputable def cf(i j:Int):Bool:=decide (i.natAbs<18446744073709551616)||decide (j.natAbs<18446744073709551616)
noncomputable def dE:D→D→Option RV
 | .int i,.int j=>if cf i j then some ⟨.c,.int (i*j)⟩ else none
 |_,_=>none
noncomputable def lF:D→D→Option RV
 | .int i,.int j=>if 0<j∧j<1073741824 then some ⟨.c,.int (i/j)⟩ else none
 |_,_=>none
noncomputable def r6:D→D→Option RV
 | .int i,.int j=>if 0<j then some ⟨.c,.int (i%j)⟩ else none
 |_,_=>none
noncomputable def p9:D→D→Option RV
 | .int i,.int j=>if 0≤j∧j≤1000∧i.natAbs<1000000 then some ⟨.c,.int (i^j.toNat)⟩ else none
 |_,_=>none
noncomputable def CW:D→Option RV
 | .int i=>some ⟨.c,.int (-i)⟩
 |_=>none
@[simp] noncomputable def aA:Nat→D→Bool
 |_,.non=>true
 |_,.bl _=>true
 |_,.int _=>true
 |_,.str _=>true
 |n+1,.tup ds=>ds.all (aA n)
 |n+1,.lst ds=>ds.all (aA n)
 |_,_=>false
@[simp] noncomputable def D.plain(d:D):Bool:=aA 20 d
mutual
@[simp] noncomputable def eqD:D→D→Bool
 | .non,.non=>true
 | .bl a,.bl b=>a==b
 | .bl a,.int b=>(if a then 1 else 0)==b
 | .int a,.bl b=>a==(if b then 1 else 0)
 | .int a,.int b=>a==b
 | .str a,.str b=>a==b
 | .tup a,.tup b=>lG a b
 | .lst a,.lst b=>lG a b
 |_,_=>false
@[simp] noncomputable def lG:List D→List D→Bool
 |[],[]=>true
 |a::as,b::bs=>eqD a b&&lG as bs
 |_,_=>false
end
noncomputable def eqB(x y:D):Option Bool:=if x.plain&&y.plain then some (eqD x y) else none
noncomputable def neB(x y:D):Option Bool:=if x.plain&&y.plain then some (!eqD x y) else none
noncomputable def cE:D→Bool
 | .non=>true
 |_=>false
noncomputable def nV(x y:D):Option Bool:=if cE y then some (cE x) else none
noncomputable def iE(x y:D):Option Bool:=if cE y then some (!cE x) else none
noncomputable def ltB:D→D→Option Bool
 | .int i,.int j=>some (decide (i<j))
 |_,_=>none
noncomputable def leB:D→D→Option Bool
 | .int i,.int j=>some (decide (i≤j))
 |_,_=>none
noncomputable def gtB:D→D→Option Bool
 | .int i,.int j=>some (decide (j<i))
 |_,_=>none
noncomputable def geB:D→D→Option Bool
 | .int i,.int j=>some (decide (j≤i))
 |_,_=>none
@[simp] noncomputable def aZ(o:D→D→Option Bool)(f g:DE):DT:=λenv=>(f env).bind λx=>(g env).bind λy=>o x.d y.d
@[simp] noncomputable def bE(t:DT):DE:=λenv=>(t env).map λb=> ⟨.c,.bl b⟩
@[simp] noncomputable def wk(f:DE):DT:=λenv=>(f env).bind λx=>match x.d with
 | .bl b=>some b
 |_=>none
@[simp] noncomputable def jy(t u:DT):DT:=λenv=>(t env).bind λb=>if b then u env else some false
@[simp] noncomputable def orT(t u:DT):DT:=λenv=>(t env).bind λb=>if b then some true else u env
@[simp] noncomputable def uT(t:DT):DT:=λenv=>(t env).map (!·)
@[simp] noncomputable def EA(o p:D→D→Option Bool)(f g h:DE):DT:=λenv=>(f env).bind λx=>(g env).bind λy=>(o x.d y.d).bind λb=>if b then(h env).bind λz=>p y.d z.d else some false
@[simp] noncomputable def ifE(t:DT)(f g:DE):DE:=λenv=>(t env).bind λb=>if b then f env else g env
noncomputable def atD{α:Type}(xs:List α)(i:Int):Option α:=if 0≤i then xs[i.toNat]? else if -(xs.length:Int)≤i then xs[(i+xs.length).toNat]? else none
noncomputable def keyOf:D→Option Key
 | .int i=>some (.inl i)
 | .str x=>some (.inr x)
 |_=>none
@[simp] noncomputable def keysOf:List D→Option (List Key)
 |[]=>some []
 |d::ds=>(keyOf d).bind λk=>(keysOf ds).map (k:: ·)
section
variable{κ:Type} [DecidableEq κ]
noncomputable def look(kvs:List (κ×D))(k:κ):Option D:=(kvs.find? λkv=>decide (kv.1=k)).map (·.2)
noncomputable def put(kvs:List (κ×D))(k:κ)(v:D):List (κ×D):=
 if(kvs.any λkv=>decide (kv.1=k))=true then kvs.map (λkv=>if kv.1=k then(kv.1,v) else kv) else kvs++[(k,v)]
end
noncomputable def ixD:D→D→Option D
 | .lst xs,.int i=>atD xs i
 | .tup xs,.int i=>atD xs i
 | .str x,.int i=>if x.length≤ai then(atD x.cps.toList i).map λc=> .str ⟨#[c]⟩ else none
 | .dK kvs,k=>(keyOf k).bind λk=>look kvs k
 | .dT kvs,.tup ds=>(keysOf ds).bind λk=>look kvs k
 | .scr ns,.int i=>(atD ns i).map .int
 |_,_=>none
@[simp] noncomputable def ixE(f g:DE):DE:=λenv=>(f env).bind λx=>(g env).bind λy=>(ixD x.d y.d).map λd=> ⟨.c,d⟩
@[simp] noncomputable def aq:DA:=λ_=>some []
@[simp] noncomputable def a5(f:DE)(r:DA):DA:=λenv=>(f env).bind λx=>(r env).bind λxs=>some (x::xs)
@[simp] noncomputable def bM(a:DA):DE:=λenv=>(a env).bind λrs=>if rs.all (·.free)&&decide (rs.length≤ai) then some ⟨.c,.tup (rs.map (·.d))⟩ else none
@[simp] noncomputable def gE(a:DA):DE:=λenv=>(a env).bind λrs=>if rs.all (·.free)&&decide (rs.length≤ai) then some ⟨.tn,.lst (rs.map (·.d))⟩ else none
@[simp] noncomputable def aH(sp:List D→Option D)(a:DA):DE:=λenv=>(a env).bind λrs=>(sp (rs.map (·.d))).map kB
@[simp] noncomputable def dP(o:List D→Option RV)(a:DA):DE:=λenv=>(a env).bind λrs=>o (rs.map (·.d))
noncomputable def cO:List D→Option RV
 |[.lst xs]=>some ⟨.c,.int xs.length⟩
 |[.tup xs]=>some ⟨.c,.int xs.length⟩
 |[.str x]=>if x.length≤ai then some ⟨.c,.int x.length⟩ else none
 |[.dK kvs]=>some ⟨.c,.int kvs.length⟩
 |[.scr ns]=>some ⟨.c,.int ns.length⟩
 |_=>none
noncomputable def nW:List D→Option RV
 |[.int i,.int j]=>some ⟨.c,.int (if j<i then j else i)⟩
 |_=>none
noncomputable def tX:List D→Option RV
 |[.int i,.int j]=>some ⟨.c,.int (if j>i then j else i)⟩
 |_=>none
noncomputable def j9:List D→Option RV
 |[.lst xs]=>some ⟨.c,.tup xs⟩
 |[.tup xs]=>some ⟨.c,.tup xs⟩
 |_=>none
@[simp] noncomputable def uU:List D→Option (List Bool)
 |[]=>some []
 | .bl b::ds=>(uU ds).map (b:: ·)
 |_=>none
@[simp] noncomputable def BH:List D→Option (List Int)
 |[]=>some []
 | .int i::ds=>(BH ds).map (i:: ·)
 |_=>none
noncomputable def mQ:D→Option (List D)
 | .lst xs=>some xs
 | .tup xs=>some xs
 | .scr ns=>some (ns.map .int)
 |_=>none
noncomputable def one(o:List D→Option RV):List D→Option RV
 |[d]=>(mQ d).bind o
 |_=>none
noncomputable def anyS:List D→Option RV:=one λds=>(uU ds).map λbs=> ⟨.c,.bl (bs.any id)⟩
noncomputable def AS(i:Int)(ns:List Int):Int:=ns.foldl (λa b=>if b>a then b else a) i
noncomputable def k6(T:String):D→Bool
 | .non=>T=="NoneType"
 | .bl _=>T=="bool"||T=="int"
 | .int _=>T=="int"
 | .str _=>T=="str"
 | .tup _=>T=="tuple"
 | .lst _=>T=="list"
 | .dK _=>T=="dict"
 | .dT _=>T=="dict"
 | .scr _=>T=="list"
noncomputable def lH:D→Bool
 | .scr _=>true
 |_=>false
@[simp] noncomputable def CY(T:String)(f:DE):DT:=λenv=>(f env).bind λx=>if lH x.d then none else some (k6 T x.d)
noncomputable def sIx(n d:Nat):Option Int→Nat
 |none=>d
 |some v=>if v<0 then(v+(n:Int)).toNat else min v.toNat n
noncomputable def cutD{α:Type}(xs:List α)(lo hi:Option Int):List α:=(xs.drop (sIx xs.length 0 lo)).take (sIx xs.length xs.length hi -sIx xs.length 0 lo)
noncomputable abbrev DO:=Env→Option (Option Int)
@[simp] noncomputable def noO:DO:=λ_=>some none
@[simp] noncomputable def fW(f:DE):DO:=λenv=>(f env).bind λx=>match x.d with
 | .int i=>some (some i)
 |_=>none
noncomputable def slD(lo hi:Option Int):D→Option RV
 | .lst xs=>some ⟨.tn,.lst (cutD xs lo hi)⟩
 | .tup xs=>if sIx xs.length 0 lo=0∧sIx xs.length xs.length hi=xs.length then none else some ⟨.c,.tup (cutD xs lo hi)⟩
 | .scr ns=>some ⟨.tn,.lst (cutD (ns.map .int) lo hi)⟩
 |_=>none
@[simp] noncomputable def slE(f:DE)(lo hi:DO):DE:=λenv=>(f env).bind λx=>(lo env).bind λl=>(hi env).bind λh=>slD l h x.d
@[simp] noncomputable def gN(i:Nat):DG:=λd env=>some (env.set i (some (.sh d)))
@[simp] noncomputable def gNs:List Nat→List D→Env→Option Env
 |[],[],env=>some env
 |i::is,d::ds,env=>gNs is ds (env.set i (some (.sh d)))
 |_,_,_=>none
@[simp] noncomputable def gT(is:List Nat):DG:=λd env=>match d with
 | .tup ds=>gNs is ds env
 |_=>none
@[simp] noncomputable def bf:DS:=λenv=>some (.nx env)
@[simp] noncomputable def bkS:DS:=λenv=>some (.bk env)
@[simp] noncomputable def aG(f g:DS):DS:=λenv=>(f env).bind λo=>match o with
 | .nx e=>g e
 |o=>some o
noncomputable def stored(i:Nat)(r:RV)(env:Env):Option Env:=match r.k with
 | .c=>some (env.set i (some (.sh r.d)))
 | .tn=>some (env.set i (some (.own r.d)))
 |_=>none
@[simp] noncomputable def aR(i:Nat)(f:DE):DS:=λenv=>(f env).bind λr=>(stored i r env).map .nx
noncomputable def wm(r:RV):Bool:=match r.k with
 | .c=>r.d.imm
 | .tn=>r.d.nU
 | .to=>r.d.nU
 | .tb=>false
@[simp] noncomputable def retS(f:DE):DS:=λenv=>(f env).bind λr=>if wm r then some (.ret r.d) else none
@[simp] noncomputable def ifS(t:DT)(f g:DS):DS:=λenv=>(t env).bind λb=>if b then f env else g env
@[simp] noncomputable def forL(g:DG)(body:DS):List D→Env→Option Out
 |[],env=>some (.nx env)
 |d::ds,env=>(g d env).bind λe=>(body e).bind λo=>match o with
  | .nx e=>forL g body ds e
  | .ct e=>forL g body ds e
  | .bk e=>some (.nx e)
  | .ret d=>some (.ret d)
noncomputable abbrev DI:=Env→Option (List D)
@[simp] noncomputable def bT(l:Option Nat)(env:Env):Env:=match l with
 |none=>env
 |some i=>match env[i]? with
  |some (some (.own d))=>env.set i (some (.lok d))
  |_=>env
@[simp] noncomputable def r9(l:Option Nat)(env:Env):Bool:=match l with
 |none=>false
 |some i=>match env[i]? with
  |some (some (.own _))=>true
  |_=>false
@[simp] noncomputable def ja(l:Option Nat)(env:Env):Env:=match l with
 |none=>env
 |some i=>match env[i]? with
  |some (some (.lok d))=>env.set i (some (.own d))
  |_=>env
noncomputable def freed(l:Option Nat)(b:Bool):Out→Out
 | .nx e=> .nx (if b then ja l e else e)
 |o=>o
@[simp] noncomputable def gZ(l:Option Nat)(src:DI)(g:DG)(body:DS):DS:=λenv=>(src (bT l env)).bind λds=>(forL g body ds (bT l env)).map (freed l (r9 l env))
noncomputable def iz(t:DT)(body:DS):Nat→Env→Option Out
 |0,_=>none
 |n+1,env=>(t env).bind λb=>if b then(body env).bind λo=>match o with
   | .nx e=>iz t body n e
   | .ct e=>iz t body n e
   | .bk e=>some (.nx e)
   | .ret d=>some (.ret d)
  else some (.nx env)
noncomputable def uV(t:DT)(body:DS):DS:=iz t body 100000
@[simp] noncomputable def lu(f:DE):DI:=λenv=>(f env).bind λr=>if r.k= .to then none else match r.d with
 | .lst xs=>some xs
 | .tup xs=>some xs
 | .scr ns=>some (ns.map .int)
 |_=>none
noncomputable def bx(lo:Int)(n:Nat):List D:=(List.range n).map λ(k:Nat)=> .int (lo+(k:Int))
noncomputable def bV(i:Int):Bool:=decide (-4611686018427387904≤i)&&decide (i<4611686018427387904)
@[simp] noncomputable def iI(f:DE):DI:=λenv=>(f env).bind λr=>match r.d with
 | .int j=>if bV j then some (bx 0 j.toNat) else none
 |_=>none
@[simp] noncomputable def BI(f g:DE):DI:=λenv=>(f env).bind λx=>(g env).bind λy=>match x.d,y.d with
 | .int i,.int j=>if bV i&&bV j then some (bx i (j -i).toNat) else none
 |_,_=>none
@[simp] noncomputable def ownAt(i:Nat)(env:Env):Option D:=match env[i]? with
 |some (some (.own d))=>some d
 |_=>none
@[simp] noncomputable def mL(i:Nat)(f:DE):DS:=λenv=>(f env).bind λr=>(ownAt i env).bind λd=>match d with
 | .lst xs=>if r.free&&decide (xs.length<ai) then some (.nx (env.set i (some (.own (.lst (xs++[r.d])))))) else none
 |_=>none
@[simp] noncomputable def M6(i:Nat)(f:DE):DS:=λenv=>(f env).bind λr=>(ownAt i env).bind λd=>match d,r.d with
 | .lst xs,.lst ys=>if(r.k== .tn)&&decide (xs.length+ys.length≤ai) then some (.nx (env.set i (some (.own (.lst (xs++ys)))))) else none
 |_,_=>none
noncomputable def putD(d k v:D):Option D:=match d with
 | .dK kvs=>if kvs.length<ai then(keyOf k).map λk=> .dK (put kvs k v) else none
 | .dT kvs=>match k with
  | .tup ks=>if kvs.length<ai then(keysOf ks).map λk=> .dT (put kvs k v) else none
  |_=>none
 | .lst xs=>match k with
  | .int j=>if 0≤j∧j<xs.length then some (.lst (xs.set j.toNat v)) else if j<0∧-(xs.length:Int)≤j then some (.lst (xs.set (j+xs.length).toNat v)) else none
  |_=>none
 |_=>none
@[simp] noncomputable def pb:DE:=λ_=>some ⟨.tn,.dT []⟩
@[simp] noncomputable def sZ(i:Nat)(k v:DE):DS:=λenv=>(v env).bind λx=>(k env).bind λy=>(ownAt i env).bind λd=>if x.free then(putD d y.d x.d).map λd=> .nx (env.set i (some (.own d))) else none
noncomputable def fX:Option Slot→Option Slot
 |some (.sh d)=>some (.sh d)
 |some (.own d)=>some (.bor d)
 |some (.lok d)=>some (.bor d)
 |some (.bor d)=>some (.bor d)
 |none=>none
noncomputable def compEnv(n:Nat)(aO:List Nat)(env:Env):Env:=List.replicate n none++aO.map λi=>fX (env[i]?.getD none)
@[simp] noncomputable def cF(g:DG)(t:DT)(f:DE):List D→Env→Option (List D)
 |[],_=>some []
 |d::ds,env=>(g d env).bind λe=>(t e).bind λb=>if b then(f e).bind λr=>if r.free then(cF g t f ds e).map (r.d:: ·) else none else cF g t f ds e
@[simp] noncomputable def rf(l:Option Nat)(n:Nat)(aO:List Nat)(src:DI)(g:DG)(t:DT)(f:DE):DE:=λenv=>(src (bT l env)).bind λds=>if ds.length≤ai then(cF g t f ds (compEnv n aO env)).map λrs=> ⟨.tn,.lst rs⟩ else none
@[simp] noncomputable def jb:DT:=λ_=>some true
@[simp] noncomputable def bz(n:Nat)(ds:List D):Env:=ds.map (λd=>some (.sh d))++List.replicate (n -ds.length) none
@[simp] noncomputable def dR(n np:Nat)(body:DS):List D→Option D:=λds=>if ds.length=np then(body (bz n ds)).bind λo=>match o with
  | .ret d=>some d
  | .nx _=>some .non
  |_=>none
 else none
@[simp] theorem Hn{a b:String}:Str.ofString a=Str.ofString b↔a=b:=by
 constructor
 ·intro h;rw[Str.ofString_eq_toList,Str.ofString_eq_toList] at h;have h1:a.toList.map Char.toNat=b.toList.map Char.toNat:=by
   injection h with h
   exact GcB.mpr h|>λz=>by simpa using z
  have h2:a.toList=b.toList:=by
   have inj:∀(x y:List Char),x.map Char.toNat=y.map Char.toNat→x=y:=by
    intro x;induction x with
    |nil=>intro y e;cases y with
     |nil=>rfl
     |cons=>simp at e
    |cons c x ih=>intro y e;cases y with
     |nil=>simp at e
     |cons c' y=>
      simp only[Gap,Gcs] at e;rw[ih y e.2,Char.toNat_inj.mp e.1]
   exact inj _ _ h1
  exact String.toList_inj.mp h2
 ·rintro rfl;rfl
section
variable{i j:Int}{x y:Str}{ds es:List D}{d:D}{env:Env}{n:Nat}
@[simp] theorem M7:aT (.int i) (.int j)=some ⟨.c,.int (i+j)⟩:=rfl
@[simp] theorem M8:aT (.str x) (.str y)=if x.length+y.length≤ai then some ⟨.c,.str (x++y)⟩ else none:=rfl
@[simp] theorem M9:aT (.tup ds) (.tup es)=if ds.length+es.length≤ai∧0<ds.length then some ⟨.c,.tup (ds++es)⟩ else none:=rfl
@[simp] theorem Ma:aT (.lst ds) (.lst es)=if ds.length+es.length≤ai then some ⟨.tn,.lst (ds++es)⟩ else none:=rfl
@[simp] theorem Mb:k5 (.int i) (.int j)=some ⟨.c,.int (i -j)⟩:=rfl
@[simp] theorem Mc:dE (.int i) (.int j)=if cf i j then some ⟨.c,.int (i*j)⟩ else none:=rfl
@[simp] theorem Lb:lF (.int i) (.int j)=if 0<j∧j<1073741824 then some ⟨.c,.int (i/j)⟩ else none:=rfl
@[simp] theorem Md:r6 (.int i) (.int j)=if 0<j then some ⟨.c,.int (i%j)⟩ else none:=rfl
@[simp] theorem Me:p9 (.int i) (.int j)=if 0≤j∧j≤1000∧i.natAbs<1000000 then some ⟨.c,.int (i^j.toNat)⟩ else none:=rfl
@[simp] theorem Mf:CW (.int i)=some ⟨.c,.int (-i)⟩:=rfl
@[simp] theorem Nm:ltB (.int i) (.int j)=some (decide (i<j)):=rfl
@[simp] theorem Np:leB (.int i) (.int j)=some (decide (i≤j)):=rfl
@[simp] theorem Nq:gtB (.int i) (.int j)=some (decide (j<i)):=rfl
@[simp] theorem Nr:geB (.int i) (.int j)=some (decide (j≤i)):=rfl
@[simp] theorem Nt:eqB (.int i) (.int j)=some (i==j):=rfl
@[simp] theorem Nu:eqB (.str x) (.str y)=some (x==y):=rfl
@[simp] theorem O8:eqB .non (.int j)=some false:=rfl
@[simp] theorem O9:eqB (.int j) .non=some false:=rfl
@[simp] theorem Oa:eqB .non .non=some true:=rfl
@[simp] theorem Nv:neB (.int i) (.int j)=some (!(i==j)):=rfl
@[simp] theorem Nw:neB (.str x) (.str y)=some (!(x==y)):=rfl
@[simp] theorem Ob:neB .non (.int j)=some true:=rfl
@[simp] theorem Oc:neB (.int j) .non=some true:=rfl
@[simp] theorem Od:neB .non .non=some false:=rfl
@[simp] theorem Lc:cE .non=true:=rfl
@[simp] theorem Ld:cE (.int i)=false:=rfl
@[simp] theorem Le:cE (.str x)=false:=rfl
@[simp] theorem Mg{b:Bool}:cE (.bl b)=false:=rfl
@[simp] theorem Lf:cE (.tup ds)=false:=rfl
@[simp] theorem Lg:cE (.lst ds)=false:=rfl
@[simp] theorem Mh:nV d .non=some (cE d):=rfl
@[simp] theorem Lh:iE d .non=some (!cE d):=rfl
@[simp] theorem nX:cO [.lst ds]=some ⟨.c,.int ds.length⟩:=rfl
@[simp] theorem fY:cO [.tup ds]=some ⟨.c,.int ds.length⟩:=rfl
@[simp] theorem Mi:cO [.str x]=if x.length≤ai then some ⟨.c,.int x.length⟩ else none:=rfl
@[simp] theorem EB{ns:List Int}:cO [.scr ns]=some ⟨.c,.int ns.length⟩:=rfl
@[simp] theorem Nx{kvs:List (Key×D)}:cO [.dK kvs]=some ⟨.c,.int kvs.length⟩:=rfl
@[simp] theorem Li:nW [.int i,.int j]=some ⟨.c,.int (if j<i then j else i)⟩:=rfl
@[simp] theorem Lj:tX [.int i,.int j]=some ⟨.c,.int (if j>i then j else i)⟩:=rfl
@[simp] theorem JW:j9 [.lst ds]=some ⟨.c,.tup ds⟩:=rfl
@[simp] theorem JX:j9 [.tup ds]=some ⟨.c,.tup ds⟩:=rfl
@[simp] theorem Mj{T:String}:k6 T .non=(T=="NoneType"):=rfl
@[simp] theorem Ny{T:String}{b:Bool}:k6 T (.bl b)=(T=="bool"||T=="int"):=rfl
@[simp] theorem Mk{T:String}:k6 T (.int i)=(T=="int"):=rfl
@[simp] theorem Ml{T:String}:k6 T (.str x)=(T=="str"):=rfl
@[simp] theorem Mm{T:String}:k6 T (.tup ds)=(T=="tuple"):=rfl
@[simp] theorem Mn{T:String}:k6 T (.lst ds)=(T=="list"):=rfl
@[simp] theorem Lk:lH .non=false:=rfl
@[simp] theorem Mo{b:Bool}:lH (.bl b)=false:=rfl
@[simp] theorem Ll:lH (.int i)=false:=rfl
@[simp] theorem Lm:lH (.str x)=false:=rfl
@[simp] theorem Ln:lH (.tup ds)=false:=rfl
@[simp] theorem Lo:lH (.lst ds)=false:=rfl
@[simp] theorem Nz{lo hi:Option Int}:slD lo hi (.lst ds)=some ⟨.tn,.lst (cutD ds lo hi)⟩:=rfl
@[simp] theorem NA{lo hi:Option Int}:slD lo hi (.tup ds)=if sIx ds.length 0 lo=0∧sIx ds.length ds.length hi=ds.length then none else some ⟨.c,.tup (cutD ds lo hi)⟩:=rfl
@[simp] theorem NB{lo hi:Option Int}{ns:List Int}:slD lo hi (.scr ns)=some ⟨.tn,.lst (cutD (ns.map .int) lo hi)⟩:=rfl
@[simp] theorem Mp:stored n ⟨.c,d⟩ env=some (env.set n (some (.sh d))):=rfl
@[simp] theorem Lp:stored n ⟨.tn,d⟩ env=some (env.set n (some (.own d))):=rfl
@[simp] theorem NC:wm ⟨.c,d⟩=d.imm:=rfl
@[simp] theorem Mq:wm ⟨.tn,d⟩=d.nU:=rfl
@[simp] theorem Mr:wm ⟨.to,d⟩=d.nU:=rfl
@[simp] theorem Lq:(D.lst ds).nU=aQ ds:=rfl
@[simp] theorem Ms{kvs:List (List Key×D)}:(D.dT kvs).nU=aQ (kvs.map (·.2)):=rfl
@[simp] theorem Mt{kvs:List (Key×D)}:(D.dK kvs).nU=aQ (kvs.map (·.2)):=rfl
@[simp] theorem Mu:kB .non=⟨.c,.non⟩:=rfl
@[simp] theorem ND{b:Bool}:kB (.bl b)=⟨.c,.bl b⟩:=rfl
@[simp] theorem Mv:kB (.int i)=⟨.c,.int i⟩:=rfl
@[simp] theorem Mw:kB (.str x)=⟨.c,.str x⟩:=rfl
@[simp] theorem Mx:kB (.tup ds)=⟨.c,.tup ds⟩:=rfl
@[simp] theorem My:kB (.lst ds)=⟨.tn,.lst ds⟩:=rfl
@[simp] theorem NF{kvs:List (List Key×D)}:kB (.dT kvs)=⟨.tn,.dT kvs⟩:=rfl
@[simp] theorem NG{kvs:List (Key×D)}:kB (.dK kvs)=⟨.tn,.dK kvs⟩:=rfl
@[simp] theorem Oe:RV.free ⟨.c,d⟩=true:=rfl
@[simp] theorem NH:RV.free ⟨.tn,d⟩=true:=rfl
@[simp] theorem Mz{l:Option Nat}{b:Bool}:freed l b (.nx env)= .nx (if b then ja l env else env):=rfl
@[simp] theorem Lr{l:Option Nat}{b:Bool}:freed l b (.ret d)= .ret d:=rfl
@[simp] theorem Ls:keyOf (.int i)=some (.inl i):=rfl
@[simp] theorem Lu:keyOf (.str x)=some (.inr x):=rfl
@[simp] theorem NI:ixD (.lst ds) (.int i)=atD ds i:=rfl
@[simp] theorem NJ:ixD (.tup ds) (.int i)=atD ds i:=rfl
@[simp] theorem NK{ns:List Int}:ixD (.scr ns) (.int i)=(atD ns i).map .int:=rfl
@[simp] theorem NL:ixD (.str x) (.int i)=if x.length≤ai then(atD x.cps.toList i).map λc=> .str ⟨#[c]⟩ else none:=rfl
@[simp] theorem Of{kvs:List (List Key×D)}:ixD (.dT kvs) (.tup ds)=(keysOf ds).bind λk=>look kvs k:=rfl
theorem cW{α:Type}{xs:List α}{k:Nat}:atD xs (k:Int)=xs[k]? :=by
 unfold atD;rw[Gai (by omega)];simp
@[simp] theorem Oq{α:Type}{xs:List α}:atD xs 0=xs[0]? :=rfl
@[simp] theorem Ot{α:Type}{xs:List α}:atD xs 1=xs[1]? :=rfl
@[simp] theorem Ou{α:Type}{xs:List α}:atD xs 2=xs[2]? :=rfl
@[simp] theorem Ov{α:Type}{xs:List α}:atD xs 3=xs[3]? :=rfl
@[simp] theorem Ox{α:Type}{xs:List α}:atD xs 4=xs[4]? :=rfl
@[simp] theorem Oy{α:Type}{xs:List α}:atD xs 5=xs[5]? :=rfl
end
open PySem
noncomputable def b8:D→List Int
 | .non=>[0]
 | .int i=>[1,i]
 | .str x=>2::x.cps.toList.map Int.ofNat
 |_=>[3]
noncomputable def fZ{α:Type} [DecidableEq α](lt:α→α→Bool):List α→List α→Bool
 |[],[]=>false
 |[],_::_=>true
 |_::_,[]=>false
 |a::as,b::bs=>if a=b then fZ lt as bs else lt a b
noncomputable def ltI(a b:Int):Bool:=decide (a<b)
noncomputable def ltC:List (List Int)→List (List Int)→Bool:=fZ (fZ ltI)
noncomputable def code:D→List (List Int)
 | .tup ds=>ds.map b8
 |d=>[b8 d]
noncomputable def CZ(d:D):List D→List D
 |[]=>[d]
 |e::es=>if ltC (code d) (code e) then d::e::es else e::CZ d es
noncomputable def cT:List D→List D
 |[]=>[]
 |d::ds=>CZ d (cT ds)
noncomputable def tyD:D→Nat
 | .non=>0
 | .int _=>1
 | .str _=>2
 |_=>3
noncomputable def mM(d:D):Bool:=tyD d !=3
noncomputable def mR:List D→List D→Bool
 |a::as,b::bs=>if b8 a=b8 b then mR as bs else(tyD a==tyD b&&(tyD a==1||tyD a==2))
 |_,_=>true
noncomputable def D0:D→Bool
 | .int _=>true
 |_=>false
noncomputable def mN(t:Nat):D→Bool
 | .tup (f::r)=>tyD f==t&&r.all mM
 |_=>false
noncomputable def wq:D→D→Bool
 | .tup a,.tup b=>mR a b
 |_,_=>false
noncomputable def keysOk(ds:List D):Bool:=ds.all D0||((ds.all (mN 1)||ds.all (mN 2))&&ds.all λx=>ds.all λy=>wq x y)
noncomputable def sortedS:List D→Option RV:=one λds=>if decide (ds.length<64)&&keysOk ds then some ⟨.tn,.lst (cT ds)⟩ else none
structure uW{α:Type}(lt:α→α→Bool):Prop where
 irr:∀a,lt a a=false
 tr:∀a b c,lt a b=true→lt b c=true→lt a c=true
 tot:∀a b,lt a b=false→lt b a=false→a=b
theorem Og:uW ltI:=⟨λa=>by simp[ltI],λa b c h1 h2=>by simp[ltI] at*;omega,λa b h1 h2=>by simp[ltI] at*;omega⟩
section
variable{α:Type} [DecidableEq α]{lt:α→α→Bool}
theorem uW.lex(L:uW lt):uW (fZ lt):=by
 refine⟨λa=> ?_,λa=> ?_,λa=> ?_⟩
 ·induction a with
  |nil=>rfl
  |cons x xs ih=>simp[fZ,ih]
 ·induction a with
  |nil=>
   intro b c h1 h2;cases c with
   |nil=>cases b<;>simp[fZ] at h1 h2
   |cons z zs=>rfl
  |cons x xs ih=>
   intro b c h1 h2;cases b with
   |nil=>simp[fZ] at h1
   |cons y ys=>
    cases c with
    |nil=>simp[fZ] at h2
    |cons z zs=>
     unfold fZ at h1 h2⊢;by_cases e1:x=y
     ·subst e1;rw[Gai rfl] at h1;by_cases e2:x=z
      ·subst e2;rw[Gai rfl] at h2⊢;exact ih ys zs h1 h2
      ·rw[Gag e2] at h2⊢;exact h2
     ·rw[Gag e1] at h1;by_cases e2:y=z
      ·subst e2;rw[Gag e1];exact h1
      ·rw[Gag e2] at h2;by_cases e3:x=z
       ·subst e3;have:=L.tr x y x h1 h2;rw[L.irr] at this;cases this
       ·rw[Gag e3];exact L.tr x y z h1 h2
 ·induction a with
  |nil=>
   intro b h1 h2;cases b with
   |nil=>rfl
   |cons y ys=>simp[fZ] at h1
  |cons x xs ih=>
   intro b h1 h2;cases b with
   |nil=>simp[fZ] at h2
   |cons y ys=>
    unfold fZ at h1 h2;by_cases e:x=y
    ·subst e;rw[Gai rfl] at h1 h2;rw[ih ys h1 h2]
    ·rw[Gag e] at h1;rw[Gag (GaY e)] at h2;exact absurd (L.tot x y h1 h2) e
theorem uW.nt(L:uW lt){k x y:α}(h1:lt k y=true)(h2:lt x y=false):lt k x=true:=by
 cases h:lt y x with
 |true=>exact L.tr k y x h1 h
 |false=>rw[L.tot x y h2 h];exact h1
theorem uW.Oh(L:uW lt){x y:α}(h:lt x y=true):lt y x=false:=by
 cases q:lt y x with
 |false=>rfl
 |true=>have:=L.tr x y x h q;rw[L.irr] at this;cases this
end
theorem D1:uW ltC:=Og.lex.lex
noncomputable def rank(cs:List (List (List Int)))(i:Nat):Int:=((cs.filter λc=>ltC c (cs[i]?.getD [])).length:Nat)
theorem nF{α:Type}{p q:α→Bool}:∀{l:List α},(∀x∈l,p x=true→q x=true)→(l.filter p).length≤(l.filter q).length
 |[],_=>Gar _
 |x::l,h=>by
  have ih:=nF (l:=l) λy hy=>h y (Gaj _ hy);have hx:=h x Gao;cases hp:p x with
  |false=>
   rw[Gbk,hp];simp only[Gaw,GaR];refine Gbx ih ?_;rw[Gbk];split
   ·rw[GaC];omega
   ·exact Gar _
  |true=>rw[Gbk,Gbk,hp,hx hp];simp;exact ih
theorem mS{α:Type}{p q:α→Bool}:∀{l:List α} {z:α},z∈l→p z=false→q z=true→(∀x∈l,p x=true→q x=true)→(l.filter p).length<(l.filter q).length
 |[],z,hz,_,_,_=>by cases hz
 |x::l,z,hz,h1,h2,h=>by
  rcases Gay.mp hz with e|hz
  ·subst e;have:=nF (l:=l) (p:=p) (q:=q) λy hy=>h y (Gaj _ hy);rw[Gbk,Gbk,h1,h2];simp;omega
  ·have ih:=mS hz h1 h2 λy hy=>h y (Gaj _ hy);have hx:=h x Gao;cases hp:p x with
   |false=>
    rw[Gbk,hp];simp only[Gaw,GaR];rw[Gbk];split
    ·rw[GaC];omega
    ·exact ih
   |true=>rw[Gbk,Gbk,hp,hx hp];simp;exact ih
theorem BJ{cs:List (List (List Int))}{i j:Nat}(hi:i<cs.length)(hj:j<cs.length):decide (rank cs i<rank cs j)=ltC cs[i] cs[j]:=by
 unfold rank;rw[Gab hi,Gab hj];simp only[Option.getD_some];cases h:ltC cs[i] cs[j] with
 |true=>
  refine GaN (Int.ofNat_lt.mpr ?_);exact mS (z:=cs[i]) (GaD hi) (D1.irr _) h λc _ hc=>D1.tr _ _ _ hc h
 |false=>
  refine GaS (Int.not_lt.mpr (Int.ofNat_le.mpr ?_));exact nF λc _ hc=>D1.nt hc h
def fL(ds:List D):Prop:=ds.Pairwise λa b=>ltC (code b) (code a)=false
theorem pf(d:D):∀es:List D,(CZ d es).Perm (d::es)
 |[]=>List.Perm.refl _
 |e::es=>by
  unfold CZ;split
  ·exact List.Perm.refl _
  ·exact((pf d es).cons e).trans (List.Perm.swap d e es)
theorem fN:∀ds:List D,(cT ds).Perm ds
 |[]=>List.Perm.refl _
 |d::ds=>(pf d _).trans ((fN ds).cons d)
theorem pU(d:D):∀{es:List D},fL es→fL (CZ d es)
 |[],_=>Gck _ _
 |e::es,h=>by
  have h' :=GbE.mp h;unfold CZ;split
  ·rename_i c;refine GbE.mpr ⟨λb hb=> ?_,h⟩;rcases Gay.mp hb with q|q
   ·subst q;exact D1.Oh c
   ·cases z:ltC (code b) (code d) with
    |false=>rfl
    |true=>have:=D1.tr _ _ _ z c;rw[h'.1 b q] at this;cases this
  ·rename_i c;refine GbE.mpr ⟨λb hb=> ?_,pU d h'.2⟩;rcases Gay.mp ((pf d es).mem_iff.mp hb) with q|q
   ·subst q;simpa using c
   ·exact h'.1 b q
theorem g8:∀ds:List D,fL (cT ds)
 |[]=>List.Pairwise.nil
 |d::ds=>pU d (g8 ds)
theorem jV:∀{xs ys:List D},xs.Perm ys→fL xs→fL ys→(∀a∈xs,∀b∈xs,code a=code b→a=b)→xs=ys
 |[],ys,hp,_,_,_=>(List.nil_perm.mp hp).symm
 |x::xs,ys,hp,hx,hy,hi=>by
  cases ys with
  |nil=>exact absurd (List.perm_nil.mp hp) (by simp)
  |cons y ys=>
   have px:=GbE.mp hx;have py:=GbE.mp hy;have e:x=y:=by
    have mx:x∈y::ys:=hp.mem_iff.mp Gao;have my:y∈x::xs:=hp.mem_iff.mpr Gao;rcases Gay.mp mx with q|q
    ·exact q
    ·rcases Gay.mp my with r|r
     ·exact r.symm
     ·exact hi x Gao y my (D1.tot _ _ (py.1 x q) (px.1 y r)).symm.symm
   subst e;rw[jV (List.perm_cons x|>.mp hp) px.2 py.2 λa ha b hb=>hi a (Gaj _ ha) b (Gaj _ hb)]
open PySem
@[simp] noncomputable def fA:Nat→List D→List D
 |_,[]=>[]
 |i,x::xs=> .tup [.int i,x]::fA (i+1) xs
@[simp] noncomputable def BK(f:DE):DI:=λenv=>(f env).bind λr=>if r.k= .to then none else match r.d with
 | .lst xs=>some (fA 0 xs)
 | .tup xs=>some (fA 0 xs)
 |_=>none
theorem k7:∀(i:Nat) (xs:List D),(fA i xs).length=xs.length
 |_,[]=>rfl
 |i,x::xs=>by simp[k7 (i+1) xs]
theorem k8:∀(k:Nat) (xs:List D) (i:Nat),(fA k xs)[i]? =(xs[i]?).map λx=> .tup [.int ((k+i:Nat)),x]
 |_,[],i=>by simp
 |k,x::xs,i=>by
  cases i with
  |zero=>simp
  |succ i=>
   simp only[fA,Gdj];rw[k8 (k+1) xs i,show k+1+i=k+(i+1) by omega]
open PySem
open PySem
noncomputable def gD{α:Type}(xs:List α)(i:Int)(y:α):List α:=xs.take (if i<0 then(i+(xs.length:Int)).toNat else min i.toNat xs.length)++y::xs.drop (if i<0 then(i+(xs.length:Int)).toNat else min i.toNat xs.length)
theorem tY{α:Type}(xs:List α)(i:Int)(y:α):(gD xs i y).length=xs.length+1:=by
 unfold gD;rw[GaA,GaC,GcS,Gcl];omega
theorem AU{α:Type}(xs:List α)(i:Int)(y:α):(gD xs i y).Perm (y::xs):=by
 unfold gD;refine List.perm_middle.trans ?_;rw[Gbc]
@[simp] noncomputable def MA(i:Nat)(k v:DE):DS:=λenv=>(k env).bind λx=>(v env).bind λr=>(ownAt i env).bind λd=>match d,x.d with
 | .lst xs,.int j=>if r.free&&(decide (xs.length<ai)&&bV j) then some (.nx (env.set i (some (.own (.lst (gD xs j r.d)))))) else none
 |_,_=>none
open PySem
noncomputable def mmD(best:Int→List Int→Int)(dv:D)(d:D):Option RV:=(mQ d).bind λds=>(BH ds).map λns=>match ns with
 |[]=> ⟨.c,dv⟩
 |n::ns=> ⟨.c,.int (best n ns)⟩
@[simp] noncomputable def mmE(best:Int→List Int→Int)(dv:D)(f:DE):DE:=λenv=>(f env).bind λr=>mmD best dv r.d
open PySem
noncomputable def isInt:D→Bool
 | .int _=>true
 |_=>false
noncomputable def unI:D→Int
 | .int i=>i
 |_=>0
noncomputable def D2:Key→D
 | .inl i=> .int i
 | .inr x=> .str x
noncomputable def tZ(kvs:List (List Key×D)):List D:=kvs.map λp=> .tup (p.1.map D2)
noncomputable def BL:List D→Option RV
 |[.dT kvs]=>some ⟨.tn,.lst (tZ kvs)⟩
 |_=>none
open PySem
noncomputable def D3:D→D→Option (Option D)
 | .dK kvs,k=>(keyOf k).map λk=>look kvs k
 | .dT kvs,.tup ks=>(keysOf ks).map λk=>look kvs k
 |_,_=>none
@[simp] noncomputable def Ho(o k d:DE):DE:=λenv=>(o env).bind λx=>(k env).bind λy=>(d env).bind λr=>if r.k= .c then(D3 x.d y.d).map λv=> ⟨.c,v.getD r.d⟩ else none
@[simp] theorem NM{kvs:List (List Key×D)}{ks:List D}:D3 (.dT kvs) (.tup ks)=(keysOf ks).map λk=>look kvs k:=rfl
open PySem
open PySem
noncomputable def bN(kvs:List (List Key×D)):List D:=kvs.map λp=> .tup [.tup (p.1.map D2),p.2]
@[simp] noncomputable def EC(vw:List (List Key×D)→List D)(f:DE):DI:=λenv=>(f env).bind λr=>if r.k= .tn then match r.d with
 | .dT kvs=>some (vw kvs)
 |_=>none
 else none
@[simp] noncomputable def MB(i:Nat)(env:Env):Bool:=(List.range env.length).all λj=>j==i||match env[j]? with
 |some (some (.bor _))=>false
 |_=>true
@[simp] noncomputable def dictAt(i:Nat)(env:Env):Option (List (List Key×D)):=match env[i]? with
 |some (some (.own (.dT kvs)))=>some kvs
 |some (some (.lok (.dT kvs)))=>some kvs
 |some (some (.bor (.dT kvs)))=>if MB i env then some kvs else none
 |_=>none
@[simp] noncomputable def ph(vw:List (List Key×D)→List D)(i n:Nat)(aO:List Nat)(g:DG)(t:DT)(f:DE):DE:=λenv=>(dictAt i env).bind λkvs=>
 if(vw kvs).length≤ai then(cF g t f (vw kvs) (compEnv n aO (env.set i none))).map λrs=> ⟨.tn,.lst rs⟩ else none
open PySem
open PySem
open PySem
open PySem
open PySem
noncomputable abbrev DN:=Env→List (List D)→Option (Env×List (List D))
@[simp] noncomputable def BM(env:Env):Bool:=env.all λz=>match z with
 |some (.bor _)=>false
 |_=>true
open PySem
noncomputable def g9:List D→Option RV:=one λds=>if decide (ds.length<1000000)&&keysOk ds then some ⟨.tn,.lst (cT ds)⟩ else none
open PySem
noncomputable def dd1(ks:List Int)(k:Int):List Int:=if k∈ks then ks else ks++[k]
noncomputable def ddF(ns:List Int):List Int:=ns.foldl dd1 []
open PySem
noncomputable abbrev Rws:=List (List Key×D)
noncomputable abbrev DM:=Env→Rws→Option (Env×Rws)
@[simp] noncomputable def MC(f g:DM):DM:=λenv rows=>(f env rows).bind λq=>g q.1 q.2
@[simp] noncomputable def setM(j:Nat)(f:DE):DM:=λenv rows=>(f env).bind λr=>match r.k with
 | .c=>some (env.set j (some (.sh r.d)),rows)
 |_=>none
noncomputable def ED(kvs:Rws)(k:List Key)(d:D):Option Rws:=if kvs.length<ai then match kvs.findIdx? (λp=>decide (p.1=k)) with
 |some j=>match kvs[j]? with
  |some (_,.lst ds)=>if ds.length<ai then some (kvs.set j (k,.lst (ds++[d]))) else none
  |_=>none
 |none=>some (kvs++[(k,.lst [d])])
 else none
@[simp] noncomputable def MD(k f:DE):DM:=λenv rows=>(k env).bind λy=>(f env).bind λr=>match y.d with
 | .tup ks=>if r.d.imm&&BM env then(keysOf ks).bind λk=>(ED rows k r.d).map λrows' =>(env,rows') else none
 |_=>none
@[simp] noncomputable def nY(j:Nat)(f:DM):List D→DM
 |[],env,rows=>some (env,rows)
 |d::ds,env,rows=>(f (env.set j (some (.sh d))) rows).bind λq=>nY j f ds q.1 q.2
@[simp] noncomputable def J5(j:Nat)(e:DE)(f:DM):DM:=λenv rows=>(e env).bind λr=>match r.d with
 | .tup xs=>if aQ xs then nY j f xs env rows else none
 |_=>none
@[simp] noncomputable def EF(i:Nat)(f:DM):DS:=λenv=>(f (env.set i none) []).bind λq=>some (.ret (.dT q.2))
open PySem PySem.Spec PyProof.Rows L2
noncomputable abbrev aE:=PySem.W.Frag
noncomputable abbrev St:=L2.St
def isT:HO→Prop
 | .tup _=>True
 | .frz _ _=>True
 |_=>False
def Kl(K:aE)(a:Addr)(xs:List V):Prop:=∃(o:Obj) (its:Array Value) (n:Nat),K.lookup a=some o∧o.cls= .type "list"∧o.dict=none∧o.data= .seq its n∧its.size≤sizeLine∧Vals xs its.toList
def Scr(K:aE)(H:Hp)(a:Addr)(ns:List Int):Prop:=(∃o,H a=some (.frz o (.lst (ns.map V.int))))∨Kl K a (ns.map V.int)
inductive Rep (K:aE) (F:Addr→Prop) (H:Hp):D→V→Prop where
 |non:Rep K F H .non .non
 |bl (b:Bool):Rep K F H (.bl b) (.bl b)
 |int (i:Int):Rep K F H (.int i) (.int i)
 |str (x:Str):Rep K F H (.str x) (.str x)
 |tup {a:Addr} {vs:List V} {ds:List D} (h:H a=some (.tup vs)) (l:ds.length=vs.length) (r:∀(i:Nat) d v,ds[i]? =some d→vs[i]? =some v→Rep K F H d v):Rep K F H (.tup ds) (.ref a)
 |lst {a:Addr} {vs:List V} {ds:List D} (f:F a) (h:Rd H a (.lst vs)) (l:ds.length=vs.length) (r:∀(i:Nat) d v,ds[i]? =some d→vs[i]? =some v→Rep K F H d v):Rep K F H (.lst ds) (.ref a)
 |scr {a:Addr} {ns:List Int} (h:Scr K H a ns):Rep K F H (.scr ns) (.ref a)
 |dK {a:Addr} {ws:List (Key×V)} {kvs:List (Key×D)} (f:F a) (h:H a=some (.dK ws)) (l:kvs.map (·.1)=ws.map (·.1)) (r:∀(i:Nat) p q,kvs[i]? =some p→ws[i]? =some q→Rep K F H p.2 q.2):Rep K F H (.dK kvs) (.ref a)
 |dT {a:Addr} {ws:List (List Key×V)} {kvs:List (List Key×D)} (f:F a) (h:H a=some (.dT ws)) (l:kvs.map (·.1)=ws.map (·.1)) (r:∀(i:Nat) p q,kvs[i]? =some p→ws[i]? =some q→Rep K F H p.2 q.2):Rep K F H (.dT kvs) (.ref a)
def b4(K:aE)(F:Addr→Prop)(H:Hp)(ds:List D)(vs:List V):Prop:=ds.length=vs.length∧∀(i:Nat) d v,ds[i]? =some d→vs[i]? =some v→Rep K F H d v
def bc{κ:Type}(K:aE)(F:Addr→Prop)(H:Hp)(kvs:List (κ×D))(ws:List (κ×V)):Prop:=kvs.map (·.1)=ws.map (·.1)∧∀(i:Nat) p q,kvs[i]? =some p→ws[i]? =some q→Rep K F H p.2 q.2
inductive Inn (K:aE) (F:Addr→Prop) (H:Hp):D→V→Prop where
 |non:Inn K F H .non .non
 |bl (b:Bool):Inn K F H (.bl b) (.bl b)
 |int (i:Int):Inn K F H (.int i) (.int i)
 |str (x:Str):Inn K F H (.str x) (.str x)
 |tup {a:Addr} {vs:List V} {ds:List D} (h:H a=some (.tup vs)) (r:b4 K F H ds vs):Inn K F H (.tup ds) (.ref a)
 |lst {a:Addr} {vs:List V} {ds:List D} (h:Rd H a (.lst vs)) (r:b4 K F H ds vs):Inn K F H (.lst ds) (.ref a)
 |scr {a:Addr} {ns:List Int} (h:Scr K H a ns):Inn K F H (.scr ns) (.ref a)
 |dK {a:Addr} {ws:List (Key×V)} {kvs:List (Key×D)} (h:H a=some (.dK ws)) (r:bc K F H kvs ws):Inn K F H (.dK kvs) (.ref a)
 |dT {a:Addr} {ws:List (List Key×V)} {kvs:List (List Key×D)} (h:H a=some (.dT ws)) (r:bc K F H kvs ws):Inn K F H (.dT kvs) (.ref a)
section
variable{K:aE}{F F' :Addr→Prop}{H H' :Hp}{d:D}{v:V}{ds:List D}{vs:List V}
theorem Rep.inn(h:Rep K F H d v):Inn K F H d v:=by
 cases h with
 |non=>exact .non
 |bl b=>exact .bl b
 |int i=>exact .int i
 |str x=>exact .str x
 |tup h l r=>exact .tup h ⟨l,r⟩
 |lst f h l r=>exact .lst h ⟨l,r⟩
 |scr h=>exact .scr h
 |dK f h l r=>exact .dK h ⟨l,r⟩
 |dT f h l r=>exact .dT h ⟨l,r⟩
theorem Inn.rep(h:Inn K F H d v)(hf:∀a,v= .ref a→d.top=true→F a):Rep K F H d v:=by
 cases h with
 |non=>exact .non
 |bl b=>exact .bl b
 |int i=>exact .int i
 |str x=>exact .str x
 |tup h r=>exact .tup h r.1 r.2
 |lst h r=>exact .lst (hf _ rfl rfl) h r.1 r.2
 |scr h=>exact .scr h
 |dK h r=>exact .dK (hf _ rfl rfl) h r.1 r.2
 |dT h r=>exact .dT (hf _ rfl rfl) h r.1 r.2
def jc(F:Addr→Prop)(H H' :Hp):Prop:=∀b o,H b=some o→(F b∨isT o)→H' b=some o
theorem jc.of_same(h:cj H H'):jc F H H' :=λb o e _=>h b o e
theorem jc.tup{a:Addr}(s:jc F H H')(h:H a=some (.tup vs)):H' a=some (.tup vs):=s _ _ h (.inr trivial)
theorem jc.scr{a:Addr}{ns:List Int}(s:jc F H H')(h:Scr K H a ns):Scr K H' a ns:=by
 rcases h with⟨o,h⟩|h
 ·exact .inl ⟨o,s _ _ h (.inr trivial)⟩
 ·exact .inr h
theorem jc.rd{a:Addr}{u:HO}(s:jc F H H')(f:F a)(h:Rd H a u):Rd H' a u:=by
 rcases h with h| ⟨o,h⟩
 ·exact .inl (s _ _ h (.inl f))
 ·exact .inr ⟨o,s _ _ h (.inl f)⟩
theorem Rd.there{a:Addr}{u:HO}(h:Rd H a u):H a≠none:=by
 rcases h with h| ⟨o,h⟩<;>rw[h]<;>simp
theorem Rep.gen(s:jc F H H')(hF:∀b,F b→H b≠none→F' b)(h:Rep K F H d v):Rep K F' H' d v:=by
 induction h with
 |non=>exact .non
 |bl b=>exact .bl b
 |int i=>exact .int i
 |str x=>exact .str x
 |tup h l r ih=>exact .tup (s.tup h) l ih
 |lst f h l r ih=>exact .lst (hF _ f (Rd.there h)) (s.rd f h) l ih
 |scr h=>exact .scr (s.scr h)
 |dK f h l r ih=>exact .dK (hF _ f (by rw[h];simp)) (s _ _ h (.inl f)) l ih
 |dT f h l r ih=>exact .dT (hF _ f (by rw[h];simp)) (s _ _ h (.inl f)) l ih
theorem Rep.same(s:cj H H')(h:Rep K F H d v):Rep K F H' d v:=h.gen (.of_same s) λ_ f _=>f
theorem Rep.imp(hF:∀b,F b→F' b)(h:Rep K F H d v):Rep K F' H d v:=h.gen (.of_same λ_ _ e=>e) λb f _=>hF b f
theorem b4.gen(s:jc F H H')(hF:∀b,F b→H b≠none→F' b)(h:b4 K F H ds vs):b4 K F' H' ds vs:=⟨h.1,λi d v e1 e2=>(h.2 i d v e1 e2).gen s hF⟩
theorem bc.gen{κ:Type}{kvs:List (κ×D)}{ws:List (κ×V)}(s:jc F H H')(hF:∀b,F b→H b≠none→F' b)(h:bc K F H kvs ws):bc K F' H' kvs ws:=⟨h.1,λi p q e1 e2=>(h.2 i p q e1 e2).gen s hF⟩
theorem Inn.gen(s:jc F H H')(hF:∀b,F b→H b≠none→F' b)(ht:∀a,v= .ref a→d.top=true→∀o,H a=some o→H' a=some o)(h:Inn K F H d v):Inn K F' H' d v:=by
 have rd:∀{a:Addr} {u:HO},(∀o,H a=some o→H' a=some o)→Rd H a u→Rd H' a u:=λk h=>by
  rcases h with h| ⟨o,h⟩
  ·exact .inl (k _ h)
  ·exact .inr ⟨o,k _ h⟩
 cases h with
 |non=>exact .non
 |bl b=>exact .bl b
 |int i=>exact .int i
 |str x=>exact .str x
 |tup h r=>exact .tup (s.tup h) (r.gen s hF)
 |lst h r=>exact .lst (rd (ht _ rfl rfl) h) (r.gen s hF)
 |scr h=>exact .scr (s.scr h)
 |dK h r=>exact .dK (ht _ rfl rfl _ h) (r.gen s hF)
 |dT h r=>exact .dT (ht _ rfl rfl _ h) (r.gen s hF)
theorem Inn.same(s:cj H H')(h:Inn K F H d v):Inn K F H' d v:=h.gen (.of_same s) (λ_ f _=>f) λ_ _ _ o e=>s _ o e
theorem Inn.imp(hF:∀b,F b→F' b)(h:Inn K F H d v):Inn K F' H d v:=h.gen (.of_same λ_ _ e=>e) (λb f _=>hF b f) λ_ _ _ _ e=>e
theorem Inn.any(h:Inn K F H d v):Rep K (λ_=>True) H d v:=(h.imp (F' :=λ_=>True) λ_ _=>trivial).rep λ_ _ _=>trivial
theorem qO{ds:List D}(h:aQ ds=true):∀(i:Nat) d,ds[i]? =some d→d.imm=true:=by
 induction ds with
 |nil=>intro i d e;simp at e
 |cons x xs ih=>
  unfold aQ at h;rw[Gau] at h;intro i d e;cases i with
  |zero=>simp at e;subst e;exact h.1
  |succ i=>exact ih h.2 i d (by simpa using e)
theorem Rep.imm(h:Rep K F H d v)(hd:d.imm=true):Rep K F' H d v:=by
 induction h with
 |non=>exact .non
 |bl b=>exact .bl b
 |int i=>exact .int i
 |str x=>exact .str x
 |tup h l r ih=>
  unfold D.imm at hd;exact .tup h l λi d v e1 e2=>ih i d v e1 e2 (qO hd i d e1)
 |lst f h l r ih=>simp[D.imm] at hd
 |scr h=>exact .scr h
 |dK f h l r ih=>simp[D.imm] at hd
 |dT f h l r ih=>simp[D.imm] at hd
theorem Inn.imm(h:Inn K F H d v)(hd:d.imm=true):Rep K F' H d v:=by
 refine Rep.imm (h.rep λa _ ht=> ?_) hd;cases d<;>simp[D.top] at ht<;>simp[D.imm] at hd
theorem b4.nil:b4 K F H [] []:=⟨rfl,λi d v e=>by simp at e⟩
theorem b4.cV(h:b4 K F H [] vs):vs=[]:=List.eq_nil_of_length_eq_zero h.1.symm
theorem b4.cons(h:Rep K F H d v)(r:b4 K F H ds vs):b4 K F H (d::ds) (v::vs):=by
 refine⟨by simp[r.1],λi x u e1 e2=> ?_⟩;cases i with
 |zero=>simp at e1 e2;subst e1;subst e2;exact h
 |succ i=>exact r.2 i x u (by simpa using e1) (by simpa using e2)
theorem b4.cons_inv(h:b4 K F H (d::ds) vs):∃v r,vs=v::r∧Rep K F H d v∧b4 K F H ds r:=by
 cases vs with
 |nil=>exact absurd h.1 (by simp)
 |cons v r=>exact⟨v,r,rfl,h.2 0 d v rfl rfl,by simpa using h.1,λi x u e1 e2=>h.2 (i+1) x u (by simpa using e1) (by simpa using e2)⟩
theorem b4.append:∀{ds es:List D} {vs us:List V},b4 K F H ds vs→b4 K F H es us→b4 K F H (ds++es) (vs++us)
 |[],es,vs,us,h,r=>by rw[h.cV];exact r
 |d::ds,es,vs,us,h,r=>by
  obtain⟨v,w,rfl,h1,h2⟩:=h.cons_inv;exact .cons h1 (h2.append r)
theorem b4.take(n:Nat)(h:b4 K F H ds vs):b4 K F H (ds.take n) (vs.take n):=by
 refine⟨by simp[h.1],λi x u e1 e2=> ?_⟩;by_cases hi:i<n
 ·rw[GaZ hi] at e1 e2;exact h.2 i x u e1 e2
 ·rw[Gbr (by simp;omega)] at e1;cases e1
theorem b4.drop(n:Nat)(h:b4 K F H ds vs):b4 K F H (ds.drop n) (vs.drop n):=by
 refine⟨by simp[h.1],λi x u e1 e2=> ?_⟩;rw[Gbh] at e1 e2;exact h.2 _ x u e1 e2
theorem b4.reverse(h:b4 K F H ds vs):b4 K F H ds.reverse vs.reverse:=by
 refine⟨by simp[h.1],λi x u e1 e2=> ?_⟩;have hi:i<ds.length:=by have:=(Gae.mp e1).1;simpa using this
 rw[List.getElem?_reverse hi] at e1;rw[List.getElem?_reverse (by rw[←h.1];exact hi),←h.1] at e2;exact h.2 _ x u e1 e2
theorem b4.set(h:b4 K F H ds vs)(r:Rep K F H d v)(i:Nat):b4 K F H (ds.set i d) (vs.set i v):=by
 refine⟨by simp[h.1],λj x u e1 e2=> ?_⟩;by_cases hj:i=j
 ·subst hj;have hi:i<ds.length:=by have:=(Gae.mp e1).1;simpa using this
  rw[GaQ hi] at e1;rw[GaQ (by rw[←h.1];exact hi)] at e2;cases e1;cases e2;exact r
 ·rw[Gac hj] at e1 e2;exact h.2 j x u e1 e2
theorem b4.get{i:Nat}(h:b4 K F H ds vs)(e:ds[i]? =some d):∃v,vs[i]? =some v∧Rep K F H d v:=by
 have hi:=(Gae.mp e).1;have hi' :i<vs.length:=by rw[←h.1];exact hi
 exact⟨vs[i],by simp[hi'],h.2 i d _ e (by simp[hi'])⟩
theorem b4.imm(h:b4 K F H ds vs)(hd:aQ ds=true):b4 K F' H ds vs:=⟨h.1,λi d v e1 e2=>(h.2 i d v e1 e2).imm (qO hd i d e1)⟩
end
def bB:Option (Option Slot)→Prop
 |some (some (.own _))=>True
 |some (some (.lok _))=>True
 |some (some (.bor _))=>True
 |_=>False
def wx:Option (Option Slot)→Prop
 |some (some (.own _))=>True
 |some (some (.lok _))=>True
 |_=>False
def isO:Option (Option Slot)→Prop
 |some (some (.own _))=>True
 |_=>False
def uX:Option (Option Slot)→Prop
 |some (some (.lok _))=>True
 |some (some (.bor _))=>True
 |_=>False
theorem u0{x:Option (Option Slot)}(h:bB x):isO x∨uX x:=by
 match x,h with
 |some (some (.own _)),_=>exact .inl trivial
 |some (some (.lok _)),_=>exact .inr trivial
 |some (some (.bor _)),_=>exact .inr trivial
theorem uX.top{x:Option (Option Slot)}(h:uX x):bB x:=by
 match x,h with
 |some (some (.lok _)),_=>trivial
 |some (some (.bor _)),_=>trivial
theorem isO.ol{x:Option (Option Slot)}(h:isO x):wx x:=by
 match x,h with
 |some (some (.own _)),_=>trivial
theorem wx.top{x:Option (Option Slot)}(h:wx x):bB x:=by
 match x,h with
 |some (some (.own _)),_=>trivial
 |some (some (.lok _)),_=>trivial
def Cln(Bad:Addr→Prop)(env:Env)(σ:St)(a:Addr):Prop:=¬Bad a∧∀i:Nat,bB env[i]? →σ[i]? ≠some (some (V.ref a))
def isW:HO→Prop
 | .lst _=>True
 | .dK _=>True
 | .dT _=>True
 |_=>False
def Wr(H:Hp)(a:Addr):Prop:=∃o,H a=some o∧isW o
def Ow(env:Env)(σ:St)(a:Addr):Prop:=∃i:Nat,isO env[i]? ∧σ[i]? =some (some (.ref a))
structure aI(K:aE)(H₀:Hp)(Bad:Addr→Prop)(env:Env)(σ:St)(H:Hp):Prop where
 same:cj H₀ H
 len:env.length=σ.length
 bad:∀a,Bad a→H a≠none
 sh:∀(i:Nat) d,env[i]? =some (some (.sh d))→∃v,σ[i]? =some (some v)∧Rep K (Cln Bad env σ) H d v
 ow:∀(i:Nat) d,(env[i]? =some (some (.own d))∨env[i]? =some (some (.lok d)))→∃a,σ[i]? =some (some (.ref a))∧H₀ a=none∧¬Bad a∧Wr H a∧d.top=true∧Inn K (Cln Bad env σ) H d (.ref a)
 bo:∀(i:Nat) d,env[i]? =some (some (.bor d))→∃a,σ[i]? =some (some (.ref a))∧Wr H a∧d.top=true∧Inn K (Cln Bad env σ) H d (.ref a)
 dj:∀(i j:Nat) a,wx env[i]? →bB env[j]? →σ[i]? =some (some (.ref a))→σ[j]? =some (some (.ref a))→i=j
structure Stp(env:Env)(σ:St)(H:Hp)(env' :Env)(σ' :St)(H' :Hp):Prop where
 keep:∀b o,H b=some o→¬Ow env σ b→H' b=some o
 ow:∀b,Ow env' σ' b→Ow env σ b∨H b=none
 lk:∀i:Nat,uX env'[i]? →env'[i]? =env[i]? ∧σ'[i]? =σ[i]?
theorem Stp.refl{env:Env}{σ:St}{H:Hp}:Stp env σ H env σ H:=⟨λ_ _ e _=>e,λ_ h=> .inl h,λ_ _=> ⟨rfl,rfl⟩⟩
theorem Stp.of_same{env:Env}{σ:St}{H H' :Hp}(s:cj H H'):Stp env σ H env σ H' :=⟨λb o e _=>s b o e,λ_ h=> .inl h,λ_ _=> ⟨rfl,rfl⟩⟩
theorem Stp.trans{e1 e2 e3:Env}{s1 s2 s3:St}{H1 H2 H3:Hp}(a:Stp e1 s1 H1 e2 s2 H2)(b:Stp e2 s2 H2 e3 s3 H3):Stp e1 s1 H1 e3 s3 H3:=by
 refine⟨λc o e n=>b.keep c o (a.keep c o e n) λh=> ?_,λc h=> ?_,λi h=> ?_⟩
 ·rcases a.ow c h with q|q
  ·exact n q
  ·rw[e] at q;cases q
 ·rcases b.ow c h with q|q
  ·exact a.ow c q
  ·by_cases z:Ow e1 s1 c
   ·exact .inl z
   ·right
    cases e:H1 c with
    |none=>rfl
    |some o=>rw[a.keep c o e z] at q;cases q
 ·obtain⟨h1,h2⟩:=b.lk i h;rw[h1] at h;obtain⟨h3,h4⟩:=a.lk i h;exact⟨h1.trans h3,h2.trans h4⟩
section
variable{K:aE}{H₀ H H' H1:Hp}{Bad:Addr→Prop}{env env' :Env}{σ σ' :St}{d:D}{v:V}{a:Addr}{i:Nat}
theorem Wr.same(s:cj H H')(w:Wr H a):Wr H' a:=let⟨o,h1,h2⟩:=w;⟨o,s a o h1,h2⟩
theorem Wr.there(w:Wr H a):H a≠none:=let⟨o,h1,_⟩:=w;by rw[h1];simp
theorem aI.mono(E:aI K H₀ Bad env σ H)(s:cj H H'):aI K H₀ Bad env σ H' where
 same:=E.same.trans s
 len:=E.len
 bad:=λa h e=>E.bad a h (s.free e)
 sh:=λi d e=>let⟨v,h1,h2⟩:=E.sh i d e;⟨v,h1,h2.same s⟩
 ow:=λi d e=>let⟨a,h1,h2,h3,h4,h5,h6⟩:=E.ow i d e;⟨a,h1,h2,h3,h4.same s,h5,h6.same s⟩
 bo:=λi d e=>let⟨a,h1,h2,h3,h4⟩:=E.bo i d e;⟨a,h1,h2.same s,h3,h4.same s⟩
 dj:=E.dj
theorem aI.ME(E:aI K H₀ Bad env σ H)(h:bB env[i]?):∃d a,d.top=true∧σ[i]? =some (some (.ref a))∧Wr H a∧Inn K (Cln Bad env σ) H d (.ref a):=by
 match e:env[i]?,h with
 |some (some (.own d)),_=>obtain⟨a,h1,_,_,h4,h5,h6⟩:=E.ow i d (.inl e);exact⟨d,a,h5,h1,h4,h6⟩
 |some (some (.lok d)),_=>obtain⟨a,h1,_,_,h4,h5,h6⟩:=E.ow i d (.inr e);exact⟨d,a,h5,h1,h4,h6⟩
 |some (some (.bor d)),_=>obtain⟨a,h1,h4,h5,h6⟩:=E.bo i d e;exact⟨d,a,h5,h1,h4,h6⟩
theorem aI.J6(E:aI K H₀ Bad env σ H)(h:bB env[i]?)(e:σ[i]? =some (some (.ref a))):Wr H a:=by
 obtain⟨d,b,h1,h2,h3,h4⟩:=E.ME h;rw[e] at h2;cases h2
 exact h3
theorem aI.nZ(E:aI K H₀ Bad env σ H)(h:bB env[i]?)(e:σ[i]? =some (some (.ref a))):H a≠none:=(E.J6 h e).there
theorem aI.uY(E:aI K H₀ Bad env σ H)(h:H a=none):Cln Bad env σ a:=⟨λb=>E.bad a b h,λi t e=>E.nZ t e h⟩
def jW(K:aE)(H₀:Hp)(Bad:Addr→Prop)(env:Env)(σ:St)(H H' :Hp)(r:RV)(v:V):Prop:=
 match r.k with
 | .c=>Rep K (Cln Bad env σ) H' r.d v
 | .tn=>∃a,v= .ref a∧H a=none∧Wr H' a∧r.d.top=true∧Inn K (λb=>Cln Bad env σ b∧b≠a) H' r.d v
 | .to=>∃a,v= .ref a∧H₀ a=none∧Wr H' a∧r.d.top=true∧Inn K (Cln Bad env σ) H' r.d v
 | .tb=>Inn K (Cln Bad env σ) H' r.d v∧∀a,v= .ref a→r.d.top=true→¬Ow env σ a
theorem jW.inn{r:RV}(h:jW K H₀ Bad env σ H H' r v):Inn K (Cln Bad env σ) H' r.d v:=by
 obtain⟨k,d⟩:=r;cases k with
 |c=>exact Rep.inn h
 |tn=>obtain⟨_,_,_,_,_,h⟩:=h;exact h.imp λ_ z=>z.1
 |to=>obtain⟨_,_,_,_,_,h⟩:=h;exact h
 |tb=>exact h.1
theorem jW.rep{r:RV}(h:jW K H₀ Bad env σ H H' r v)(E:aI K H₀ Bad env σ H)(hf:r.free=true):Rep K (Cln Bad env σ) H' r.d v:=by
 obtain⟨k,d⟩:=r;cases k with
 |c=>exact h
 |tn=>
  obtain⟨a,e,h1,_,_,h2⟩:=h;exact(h2.imp λ_ z=>z.1).rep λb eb _=>by rw[e] at eb;cases eb;exact E.uY h1
 |to=>simp[RV.free] at hf
 |tb=>simp[RV.free] at hf
theorem jW.same{r:RV}{H2:Hp}(h:jW K H₀ Bad env σ H H' r v)(s:cj H' H2):jW K H₀ Bad env σ H H2 r v:=by
 obtain⟨k,d⟩:=r;cases k with
 |c=>exact Rep.same s h
 |tn=>obtain⟨a,e,h1,w,t,h2⟩:=h;subst e;exact⟨a,rfl,h1,w.same s,t,h2.same s⟩
 |to=>obtain⟨a,e,h1,w,t,h2⟩:=h;subst e;exact⟨a,rfl,h1,w.same s,t,h2.same s⟩
 |tb=>exact⟨h.1.same s,h.2⟩
theorem jW.from{r:RV}(s:cj H H1)(h:jW K H₀ Bad env σ H1 H' r v):jW K H₀ Bad env σ H H' r v:=by
 obtain⟨k,d⟩:=r;cases k with
 |c=>exact h
 |tn=>obtain⟨a,e,h1,w,t,h2⟩:=h;exact⟨a,e,s.free h1,w,t,h2⟩
 |to=>exact h
 |tb=>exact h
def u3(K:aE)(H₀ H' :Hp)(d:D)(v:V):Prop:=
 (d.top=true→∃a,v= .ref a∧H₀ a=none∧Wr H' a)∧Inn K (λb=>H₀ b=none∧v≠ .ref b) H' d v
theorem u3.rv(E:aI K H₀ Bad env σ H)(h:u3 K H H' d v):jW K H₀ Bad env σ H H' (kB d) v:=by
 obtain⟨h1,h2⟩:=h;unfold kB;by_cases t:d.top=true
 ·rw[Gai t];obtain⟨a,e,n,w⟩:=h1 t;subst e;exact⟨a,rfl,n,w,t,h2.imp λb z=> ⟨E.uY z.1,λq=>z.2 (by rw[q])⟩⟩
 ·rw[Gag t];exact(h2.imp λb z=>E.uY z.1).rep λ_ _ z=>absurd z t
end
open PySem PySem.Spec PyProof.Rows L2
noncomputable def tE(X:Cx)(f:DE):TE:=λσ H Q=>∃H₀ Bad env r,aI X.K H₀ Bad env σ H∧f env=some r∧∀v H',cj H H' →jW X.K H₀ Bad env σ H H' r v→Q v H'
noncomputable def tT(X:Cx)(t:DT):TT:=λσ H Q=>∃H₀ Bad env b,aI X.K H₀ Bad env σ H∧t env=some b∧∀H',cj H H' →Q b H'
noncomputable def tA(X:Cx)(a:DA):TA:=λσ H Q=>∃H₀ Bad env rs,aI X.K H₀ Bad env σ H∧a env=some rs∧∀vs H',cj H H' →Paired (jW X.K H₀ Bad env σ H H') rs vs→Q vs H'
def MF(X:Cx)(H₀:Hp)(Bad:Addr→Prop)(env:Env)(σ:St)(H:Hp)(E:Ends):Out→Prop
 | .nx e=>∀σ' H',aI X.K H₀ Bad e σ' H' →Stp env σ H e σ' H' →E.nx σ' H'
 | .bk e=>∀σ' H',aI X.K H₀ Bad e σ' H' →Stp env σ H e σ' H' →E.bk σ' H'
 | .ct e=>∀σ' H',aI X.K H₀ Bad e σ' H' →Stp env σ H e σ' H' →E.ct σ' H'
 | .ret d=>∀v H',cj H₀ H' →u3 X.K H₀ H' d v→E.rt v H'
noncomputable def tS(X:Cx)(f:DS):TS:=λE σ H=>∃H₀ Bad env o,aI X.K H₀ Bad env σ H∧f env=some o∧MF X H₀ Bad env σ H E o
noncomputable def tG(X:Cx)(g:DG):TG:=λv σ H Q=>∃H₀ Bad env d env',aI X.K H₀ Bad env σ H∧g d env=some env' ∧Rep X.K (Cln Bad env σ) H d v∧∀σ' H',aI X.K H₀ Bad env' σ' H' →Stp env σ H env' σ' H' →Q σ' H'
abbrev PEd(X:Cx)(e:Expr)(f:DE):Prop:=PE X e (tE X f)
abbrev PTd(X:Cx)(e:Expr)(t:DT):Prop:=PT X e (tT X t)
abbrev PWd(X:Cx)(e:Expr)(t:DT):Prop:=PW X e (tT X t)
abbrev PAd(X:Cx)(es:List Expr)(a:DA):Prop:=PA X es (tA X a)
abbrev PSd(X:Cx)(st:Stmt)(f:DS):Prop:=PS X st (tS X f)
abbrev lA(X:Cx)(st:List Stmt)(f:DS):Prop:=PSs X st (tS X f)
abbrev PGd(X:Cx)(e:Expr)(g:DG):Prop:=PG X e (tG X g)
section
variable{X:Cx}{e a b c:Expr}{f g h:DE}{t u:DT}{pos:Pos}
theorem _root_.L2.PE.aU{t t' :TE}(h:PE X e t')(i:∀σ H Q,t σ H Q→t' σ H Q):PE X e t:=λpins s σ H Q I q=>h pins s σ H Q I (i σ H Q q)
theorem _root_.L2.PT.aU{t t' :TT}(h:PT X e t')(i:∀σ H Q,t σ H Q→t' σ H Q):PT X e t:=λpins s σ H Q I q=>h pins s σ H Q I (i σ H Q q)
theorem _root_.L2.PW.aU{t t' :TT}(h:PW X e t')(i:∀σ H Q,t σ H Q→t' σ H Q):PW X e t:=λwh pins s σ H Q I q=>h wh pins s σ H Q I (i σ H Q q)
theorem _root_.L2.PA.aU{es:List Expr}{t t' :TA}(h:PA X es t')(i:∀σ H Q,t σ H Q→t' σ H Q):PA X es t:=λpos pins s σ H Q I q=>h pos pins s σ H Q I (i σ H Q q)
theorem _root_.L2.PS.aU{st:Stmt}{t t' :TS}(h:PS X st t')(i:∀D σ H,t D σ H→t' D σ H):PS X st t:=λpins s σ H D I q=>h pins s σ H D I (i D σ H q)
theorem _root_.L2.PSs.aU{st:List Stmt}{t t' :TS}(h:PSs X st t')(i:∀D σ H,t D σ H→t' D σ H):PSs X st t:=λpins s σ H D I q=>h pins s σ H D I (i D σ H q)
theorem _root_.L2.PG.aU{t t' :TG}(h:PG X e t')(i:∀v σ H Q,t v σ H Q→t' v σ H Q):PG X e t:=λpins s σ H v u Q I r q=>h pins s σ H v u Q I r (i v σ H Q q)
theorem cg{H:Hp}:cj H H:=λ_ _ e=>e
theorem bind_some{α β:Type}{o:Option α}{k:α→Option β}{y:β}(h:o.bind k=some y):∃x,o=some x∧k x=some y:=Option.bind_eq_some_iff.mp h
theorem dw(i:Nat){x:Str}(hN:X.N[i]? =some x:=by rfl)(hv:Vis X.env.scope x:=by first|exact Or.inl rfl|exact Or.inr (Or.inl rfl)|exact Or.inr (Or.inr rfl))(hd:(x==("__debug__":Str))=false:=by decide)
  (hcd:(x==("__classdict__":Str))=false:=by decide):PEd X (.Name x pos) (vE i):=by
 refine(lB hN hv hd hcd).aU ?_;rintro σ H Q ⟨H₀,Bad,env,r,E,e,k⟩;unfold vE at e
 match q:env[i]?,e with
 |some (some (.sh d)),e=>
  cases e;obtain⟨v,h1,h2⟩:=E.sh i d q;exact⟨v,h1,k v H cg h2⟩
 |some (some (.own d)),e=>
  cases e;obtain⟨a,h1,h2,h3,h4,h5,h6⟩:=E.ow i d (.inl q);exact⟨_,h1,k _ H cg ⟨a,rfl,h2,h4,h5,h6⟩⟩
 |some (some (.lok d)),e=>
  cases e;obtain⟨a,h1,h2,h3,h4,h5,h6⟩:=E.ow i d (.inr q);refine⟨_,h1,k _ H cg ⟨h6,λb eb _ ⟨j,ho,hj⟩=> ?_⟩⟩;cases eb;have:=E.dj j i a ho.ol (by rw[q];trivial) hj h1;subst this;rw[q] at ho;exact ho
 |some (some (.bor d)),e=>
  cases e;obtain⟨a,h1,h4,h5,h6⟩:=E.bo i d q;refine⟨_,h1,k _ H cg ⟨h6,λb eb _ ⟨j,ho,hj⟩=> ?_⟩⟩;cases eb;have:=E.dj j i a ho.ol (by rw[q];trivial) hj h1;subst this;rw[q] at ho;exact ho
theorem a6{i:Int}{j:Nat}:PEd X (.Constant (.int i) j pos) (kE (.int i)):=Ef.aU λσ H Q ⟨_,_,_,_,_,e,k⟩=>by cases e;exact k _ H cg (.int i)
theorem u4{b:Bool}{j:Nat}:PEd X (.Constant (.bool b) j pos) (kE (.bl b)):=Lx.aU λσ H Q ⟨_,_,_,_,_,e,k⟩=>by cases e;exact k _ H cg (.bl b)
theorem fO{j:Nat}:PEd X (.Constant .none j pos) (kE .non):=Jk.aU λσ H Q ⟨_,_,_,_,_,e,k⟩=>by cases e;exact k _ H cg .non
theorem bq{x:Str}{j:Nat}:PEd X (.Constant (.str x) j pos) (kE (.str x)):=Jl.aU λσ H Q ⟨_,_,_,_,_,e,k⟩=>by cases e;exact k _ H cg (.str x)
def RvN(K:aE)(F:Addr→Prop)(H H' :Hp)(r:RV)(v:V):Prop:=
 match r.k with
 | .c=>Rep K F H' r.d v
 | .tn=>∃a,v= .ref a∧H a=none∧Wr H' a∧r.d.top=true∧Inn K (λb=>F b∧b≠a) H' r.d v
 |_=>False
theorem RvN.ok{K:aE}{H₀ H H1 H' :Hp}{Bad:Addr→Prop}{env:Env}{σ:St}{r:RV}{v:V}(h:RvN K (Cln Bad env σ) H1 H' r v)(s:cj H H1):jW K H₀ Bad env σ H H' r v:=by
 obtain⟨k,d⟩:=r;cases k with
 |c=>exact h
 |tn=>obtain⟨a,e,h1,w,t,h2⟩:=h;exact⟨a,e,s.free h1,w,t,h2⟩
 |to=>exact(show False from h).elim
 |tb=>exact(show False from h).elim
def OpD(X:Cx)(o:D→D→Option RV)(r:R2):Prop:=∀(F:Addr→Prop) (H:Hp) (dx dy:D) (x y:V) (rv:RV) (Q:VK),Inn X.K F H dx x→Inn X.K F H dy y→o dx dy=some rv→
 (∀v H',cj H H' →RvN X.K F H H' rv v→Q v H')→r x y H Q
theorem u5{op:Operator}{o:D→D→Option RV}{r:R2}(ho:OpR X (binaryOp op) r)(hd:OpD X o r)(ha:PEd X a f)(hb:PEd X b g):PEd X (.BinOp a op b pos) (opE o f g):=by
 refine(LK ho ha hb).aU ?_;rintro σ H Q ⟨H₀,Bad,env,rv,E,e,k⟩;obtain⟨x,hx,e⟩:=bind_some e;obtain⟨y,hy,e⟩:=bind_some e;exact⟨H₀,Bad,env,x,E,hx,λvx H1 s1 R1=> ⟨H₀,Bad,env,y,E.mono s1,hy,λvy H2 s2 R2=>hd _ H2 x.d y.d vx vy rv Q (R1.inn.same s2) R2.inn e λv H3 s3 R3=>
  k v H3 (s1.trans (s2.trans s3)) (R3.ok (s1.trans s2))⟩⟩
theorem JY{o:D→D→Option RV}{gi:Int→Int→Int}(h:∀dx dy rv,o dx dy=some rv→∃i j,dx= .int i∧dy= .int j∧rv=⟨.c,.int (gi i j)⟩):OpD X o (rI0 λi j=> .int (gi i j)):=by
 intro F H dx dy x y rv Q ix iy e k;obtain⟨i,j,rfl,rfl,rfl⟩:=h dx dy rv e;cases ix;cases iy
 exact⟨i,j,rfl,rfl,k _ H cg (.int _)⟩
theorem BN{o:D→D→Option RV}{C:Int→Int→Prop}{gi:Int→Int→Int}(h:∀dx dy rv,o dx dy=some rv→∃i j,dx= .int i∧dy= .int j∧C i j∧rv=⟨.c,.int (gi i j)⟩):OpD X o (rI C λi j=> .int (gi i j)):=by
 intro F H dx dy x y rv Q ix iy e k;obtain⟨i,j,rfl,rfl,hc,rfl⟩:=h dx dy rv e;cases ix;cases iy
 exact⟨i,j,rfl,rfl,hc,k _ H cg (.int _)⟩
theorem Hq:OpD X k5 (rI0 λi j=> .int (i -j)):=JY λdx dy rv e=>by
 unfold k5 at e;split at e
 ·cases e;exact⟨_,_,rfl,rfl,rfl⟩
 ·cases e
theorem Hr:OpD X dE (rI GU λi j=> .int (i*j)):=BN λdx dy rv e=>by
 unfold dE at e;split at e
 ·split at e
  ·rename_i i j q;cases e;refine⟨i,j,rfl,rfl, ?_,rfl⟩;unfold cf at q;rw[Gbd] at q;rcases q with q|q
   ·left;have:=GaE q;omega
   ·right;have:=GaE q;omega
  ·cases e
 ·cases e
theorem EG:OpD X lF (rI LN λi j=> .int (i/j)):=BN λdx dy rv e=>by
 unfold lF at e;split at e
 ·split at e
  ·rename_i i j q;cases e;exact⟨i,j,rfl,rfl,q,rfl⟩
  ·cases e
 ·cases e
theorem Hs:OpD X r6 (rI (λ_ j=>0<j) λi j=> .int (i%j)):=BN λdx dy rv e=>by
 unfold r6 at e;split at e
 ·split at e
  ·rename_i i j q;cases e;exact⟨i,j,rfl,rfl,q,rfl⟩
  ·cases e
 ·cases e
theorem Ht:OpD X p9 (rI LP λi j=> .int (i^j.toNat)):=BN λdx dy rv e=>by
 unfold p9 at e;split at e
 ·split at e
  ·rename_i i j q;cases e;exact⟨i,j,rfl,rfl,⟨q.1,by omega,by omega⟩,rfl⟩
  ·cases e
 ·cases e
noncomputable def J7:R2:=λx y H Q=>∃l b xs zs,x= .ref l∧y= .ref b∧Rd H l (.lst xs)∧Rd H b (.lst zs)∧xs.length+zs.length≤sizeLine∧∀p,H p=none→Q (.ref p) (upd H p (.lst (xs++zs)))
theorem Hu:OpR X (binaryOp .Add) J7:=by
 intro pins s σ H x y v u Q I rx ry h;obtain⟨l,b,xs,zs,rfl,rfl,hH,hB,hz,q⟩:=h;cases rx;cases ry;obtain⟨z,its,n,r,e⟩:=(show cz X.prog X.w H s.heap l (.lst xs) from hH.ok I.hok)
 obtain⟨z2,its2,n2,r2,e2⟩:=(show cz X.prog X.w H s.heap b (.lst zs) from hB.ok I.hok)
 have hl:=r.length;have hl2:=r2.length;refine PySem.P.add_list e e2 ?_ (by rw[Gan,Gan];omega);have ea:its.toArray++its2.toArray=(its++its2).toArray:=by simp
 rw[ea];exact⟨.ref _,_,I.O7 (t' :=s.toks) (r.append r2) (by rw[GaA];omega),rfl,q _ I.fresh⟩
theorem size_eq:ai=sizeLine:=by rw[GbP];rfl
theorem bG{H:Hp}{p:Addr}{o:HO}(n:H p=none):cj H (upd H p o):=λb u e=>by rw[ay (dQ e n)];exact e
theorem fP{K:aE}{F:Addr→Prop}{H:Hp}{p:Addr}{ds:List D}{vs:List V}(n:H p=none)(r:b4 K F H ds vs):Rep K F (upd H p (.tup vs)) (.tup ds) (.ref p):=by
 have r2:=r.gen (F' :=F) (.of_same (bG (o:= .tup vs) n)) λ_ f _=>f;exact .tup aM r2.1 r2.2
theorem gF{K:aE}{F:Addr→Prop}{H:Hp}{p:Addr}{ds:List D}{vs:List V}(n:H p=none)(r:b4 K F H ds vs):Inn K (λb=>F b∧b≠p) (upd H p (.lst vs)) (.lst ds) (.ref p):=
 .lst (.inl aM) (r.gen (F' :=λb=>F b∧b≠p) (.of_same (bG (o:= .lst vs) n)) λb f hb=> ⟨f,λz=>hb (z▸n)⟩)
theorem pj{H:Hp}{p:Addr}{xs:List V}:Wr (upd H p (.lst xs)) p:=⟨_,aM,trivial⟩
noncomputable def J8(K:aE):R2:=λx y H Q=>rI0 (λi j=> .int (i+j)) x y H Q∨(∃i j,x= .str i∧y= .str j∧i.length+j.length≤sizeLine∧Q (.str (i++j)) H)∨J7 x y H Q∨IZ K x y H Q
theorem Hv:OpR X (binaryOp .Add) (J8 X.K):=Jx.or (AH.or (Hu.or He))
theorem b4.ne{K:aE}{F:Addr→Prop}{H:Hp}{ds:List D}{vs:List V}(r:b4 K F H ds vs):vs=[]↔ds=[]:=by
 constructor
 ·intro z;subst z;exact List.eq_nil_of_length_eq_zero r.1
 ·intro z;subst z;exact r.cV
theorem Hw:OpD X aT (J8 X.K):=by
 intro F H dx dy x y rv Q ix iy e k;unfold aT at e;split at e
 ·cases e;cases ix;cases iy
  exact .inl ⟨_,_,rfl,rfl,k _ H cg (.int _)⟩
 ·split at e
  ·rename_i q;cases e;cases ix;cases iy
   exact .inr (.inl ⟨_,_,rfl,rfl,by rw[←size_eq];exact q,k _ H cg (.str _)⟩)
  ·cases e
 ·split at e
  ·rename_i xs ys q;cases e;cases ix with
   |tup hx rx=>
    cases iy with
    |tup hy ry=>
     refine .inr (.inr (.inr ⟨_,_,_,_,rfl,rfl,SqT.of hx,SqT.of hy, ?_, ?_, ?_, ?_⟩))
     ·intro z;have:=rx.ne.mp z;subst this;exact absurd q.2 (by simp)
     ·rw[←rx.1,←ry.1,←size_eq];exact q.1
     ·intro z;have:=ry.ne.mp z;subst this;refine k _ H cg ?_;rw[Gbn];exact .tup hx rx.1 rx.2
     ·intro z p n;exact k _ _ (bG n) (fP n (rx.append ry))
  ·cases e
 ·split at e
  ·rename_i xs ys q;cases e;cases ix with
   |lst hx rx=>
    cases iy with
    |lst hy ry=>
     refine .inr (.inr (.inl ⟨_,_,_,_,rfl,rfl,hx,hy,by rw[←rx.1,←ry.1,←size_eq];exact q,λp n=> ?_⟩));exact k _ _ (bG n) ⟨p,rfl,n,pj,rfl,gF n (rx.append ry)⟩
  ·cases e
 ·cases e
def UnD(X:Cx)(o:D→Option RV)(r:V→Hp→VK→Prop):Prop:=∀(F:Addr→Prop) (H:Hp) (dx:D) (x:V) (rv:RV) (Q:VK),Inn X.K F H dx x→o dx=some rv→(∀v H',cj H H' →RvN X.K F H H' rv v→Q v H')→r x H Q
theorem MG{op:UnaryOp}{o:D→Option RV}{r:V→Hp→VK→Prop}(ho:UnR X (unaryOp op) r)(hd:UnD X o r)(ha:PEd X a f):PEd X (.UnaryOp op a pos) (unE o f):=by
 refine(LL ho ha).aU ?_;rintro σ H Q ⟨H₀,Bad,env,rv,E,e,k⟩;obtain⟨x,hx,e⟩:=bind_some e;exact⟨H₀,Bad,env,x,E,hx,λvx H1 s1 R1=>hd _ H1 x.d vx rv Q R1.inn e λv H3 s3 R3=>k v H3 (s1.trans s3) (R3.ok s1)⟩
theorem Hx:UnD X CW (rU λi=> .int (-i)):=by
 intro F H dx x rv Q ix e k;unfold CW at e;split at e
 ·cases e;cases ix;exact⟨_,rfl,k _ H cg (.int _)⟩
 ·cases e
theorem aD(ha:PEd X a f)(hb:PEd X b g):PEd X (.BinOp a .Add b pos) (opE aT f g):=u5 Hv Hw ha hb
theorem jd(ha:PEd X a f)(hb:PEd X b g):PEd X (.BinOp a .Sub b pos) (opE k5 f g):=u5 Jy Hq ha hb
theorem bC(ha:PEd X a f)(hb:PEd X b g):PEd X (.BinOp a .Mult b pos) (opE dE f g):=u5 Jz Hr ha hb
theorem kC(ha:PEd X a f)(hb:PEd X b g):PEd X (.BinOp a .FloorDiv b pos) (opE lF f g):=u5 GV EG ha hb
theorem nG(ha:PEd X a f)(hb:PEd X b g):PEd X (.BinOp a .Mod b pos) (opE r6 f g):=u5 JA Hs ha hb
theorem lI(ha:PEd X a f)(hb:PEd X b g):PEd X (.BinOp a .Pow b pos) (opE p9 f g):=u5 JB Ht ha hb
theorem EH(ha:PEd X a f):PEd X (.UnaryOp .USub a pos) (unE CW f):=MG JC Hx ha
def OpB(X:Cx)(o:D→D→Option Bool)(r:R2):Prop:=∀(F:Addr→Prop) (H:Hp) (dx dy:D) (x y:V) (b:Bool) (Q:VK),Inn X.K F H dx x→Inn X.K F H dy y→o dx dy=some b→Q (.bl b) H→r x y H Q
theorem aN{op:CmpOp}{o:D→D→Option Bool}{r:R2}(ho:OpR X (compareOp op) r)(hd:OpB X o r)(ha:PEd X a f)(hb:PEd X b g)(hm:behindInMarks op b=false):PTd X (.Compare a [op] [b] pos) (aZ o f g):=by
 refine(GX ho ha hb hm).aU ?_;rintro σ H Q ⟨H₀,Bad,env,bb,E,e,k⟩;obtain⟨x,hx,e⟩:=bind_some e;obtain⟨y,hy,e⟩:=bind_some e;exact⟨H₀,Bad,env,x,E,hx,λvx H1 s1 R1=> ⟨H₀,Bad,env,y,E.mono s1,hy,λvy H2 s2 R2=>hd _ H2 x.d y.d vx vy bb _ (R1.inn.same s2) R2.inn e ⟨bb,rfl,k H2 (s1.trans s2)⟩⟩⟩
theorem uZ{op:CmpOp}{o:D→D→Option Bool}{r:R2}(ho:OpR X (compareOp op) r)(hd:OpB X o r)(ha:PEd X a f)(hb:PEd X b g)(hm:behindInMarks op b=false):PEd X (.Compare a [op] [b] pos) (bE (aZ o f g)):=by
 refine(GW ho ha hb hm).aU ?_;rintro σ H Q ⟨H₀,Bad,env,rv,E,e,k⟩;obtain⟨bb,e',rfl⟩:=Gam.mp e;clear e;have e:=e';clear e';obtain⟨x,hx,e⟩:=bind_some e;obtain⟨y,hy,e⟩:=bind_some e;exact⟨H₀,Bad,env,x,E,hx,λvx H1 s1 R1=> ⟨H₀,Bad,env,y,E.mono s1,hy,λvy H2 s2 R2=>hd _ H2 x.d y.d vx vy bb _ (R1.inn.same s2) R2.inn e (k _ H2 (s1.trans s2) (.bl bb))⟩⟩
theorem BO{o:D→D→Option Bool}{gb:Int→Int→Bool}(h:∀dx dy b,o dx dy=some b→∃i j,dx= .int i∧dy= .int j∧b=gb i j):OpB X o (rI0 λi j=> .bl (gb i j)):=by
 intro F H dx dy x y b Q ix iy e q;obtain⟨i,j,rfl,rfl,rfl⟩:=h dx dy b e;cases ix;cases iy
 exact⟨i,j,rfl,rfl,q⟩
theorem lJ:OpB X ltB (rI0 λi j=> .bl (decide (i<j))):=BO λdx dy b e=>by
 unfold ltB at e;split at e<;>cases e;exact⟨_,_,rfl,rfl,rfl⟩
theorem rh:OpB X leB (rI0 λi j=> .bl (decide (i≤j))):=BO λdx dy b e=>by
 unfold leB at e;split at e<;>cases e;exact⟨_,_,rfl,rfl,rfl⟩
theorem jX:OpB X gtB (rI0 λi j=> .bl (decide (j<i))):=BO λdx dy b e=>by
 unfold gtB at e;split at e<;>cases e;exact⟨_,_,rfl,rfl,rfl⟩
theorem JZ:OpB X geB (rI0 λi j=> .bl (decide (j≤i))):=BO λdx dy b e=>by
 unfold geB at e;split at e<;>cases e;exact⟨_,_,rfl,rfl,rfl⟩
theorem u6{K:aE}{F:Addr→Prop}{H:Hp}{d:D}{x:V}(h:Inn K F H d x):decide (x= .non)=cE d:=by
 cases h<;>simp[cE]
theorem qP:OpB X nV (λx y H Q=>y= .non∧Q (.bl (decide (x= .non))) H):=by
 intro F H dx dy x y b Q ix iy e q;simp only[nV,iE] at e;split at e
 ·rename_i h;cases e;cases iy<;>simp[cE] at h
  exact⟨rfl,by rw[u6 ix];exact q⟩
 ·cases e
theorem o4:OpB X iE (λx y H Q=>y= .non∧Q (.bl (!decide (x= .non))) H):=by
 intro F H dx dy x y b Q ix iy e q;simp only[nV,iE] at e;split at e
 ·rename_i h;cases e;cases iy<;>simp[cE] at h
  exact⟨rfl,by rw[u6 ix];exact q⟩
 ·cases e
theorem nH(h:PEd X e f)(he:∀whole,isTrue e X.env whole=(do let v←whole;standAt e.pos;holding [v] (truthy v)):=by intro _;rfl):PTd X e (wk f):=by
 refine(Jm h he).aU ?_;rintro σ H Q ⟨H₀,Bad,env,bb,E,e,k⟩;obtain⟨x,hx,e⟩:=bind_some e;split at e
 ·rename_i b hb;cases e;refine⟨H₀,Bad,env,x,E,hx,λvx H1 s1 R1=> ⟨bb, ?_,k H1 s1⟩⟩;have i:=R1.inn;rw[hb] at i;cases i;rfl
 ·cases e
theorem gc(ha:PTd X a t):PWd X (.BoolOp .And [a] pos) t:=GO ha
theorem rm(ha:PTd X a t):PWd X (.BoolOp .Or [a] pos) t:=Jn ha
theorem iA{rest:List Expr}(ha:PTd X a t)(hb:PWd X (.BoolOp .And (b::rest) pos) u):PWd X (.BoolOp .And (a::b::rest) pos) (jy t u):=by
 refine(Jo ha hb).aU ?_;rintro σ H Q ⟨H₀,Bad,env,bb,E,e,k⟩;obtain⟨x,hx,e⟩:=bind_some e;refine⟨H₀,Bad,env,x,E,hx,λH1 s1=> ?_⟩;cases x with
 |true=>rw[Gai rfl];rw[Gai rfl] at e;exact⟨H₀,Bad,env,bb,E.mono s1,e,λH2 s2=>k H2 (s1.trans s2)⟩
 |false=>rw[Gag Gav];rw[Gag Gav] at e;cases e;exact k H1 s1
theorem u7{rest:List Expr}(ha:PTd X a t)(hb:PWd X (.BoolOp .Or (b::rest) pos) u):PWd X (.BoolOp .Or (a::b::rest) pos) (orT t u):=by
 refine(Ly ha hb).aU ?_;rintro σ H Q ⟨H₀,Bad,env,bb,E,e,k⟩;obtain⟨x,hx,e⟩:=bind_some e;refine⟨H₀,Bad,env,x,E,hx,λH1 s1=> ?_⟩;cases x with
 |false=>rw[Gag Gav];rw[Gag Gav] at e;exact⟨H₀,Bad,env,bb,E.mono s1,e,λH2 s2=>k H2 (s1.trans s2)⟩
 |true=>rw[Gai rfl];rw[Gai rfl] at e;cases e;exact k H1 s1
theorem pk(ha:PTd X a t):PTd X (.UnaryOp .Not a pos) (uT t):=by
 refine(Jp ha).aU ?_;rintro σ H Q ⟨H₀,Bad,env,bb,E,e,k⟩;obtain⟨x,hx,rfl⟩:=Gam.mp e;exact⟨H₀,Bad,env,x,E,hx,λH1 s1=>k H1 s1⟩
theorem K0{op:BoolOp}(ha:PEd X a (bE t)):PEd X (.BoolOp op [a] pos) (bE t):=Jq ha
theorem K1{rest:List Expr}(ha:PEd X a (bE t))(hb:PEd X (.BoolOp .And (b::rest) pos) (bE u)):PEd X (.BoolOp .And (a::b::rest) pos) (bE (jy t u)):=by
 refine(Jr ha hb).aU ?_;rintro σ H Q ⟨H₀,Bad,env,rv,E,e,k⟩;obtain⟨bb,e',rfl⟩:=Gam.mp e;clear e;have e:=e';clear e';obtain⟨x,hx,e⟩:=bind_some e;refine⟨H₀,Bad,env,⟨.c,.bl x⟩,E,by unfold bE;rw[hx];rfl,λv H1 s1 R=> ?_⟩;have R' :Inn X.K (Cln Bad env σ) H1 (.bl x) v:=R.inn;cases R';refine⟨x,rfl, ?_⟩;cases x with
 |true=>rw[Gai rfl];rw[Gai rfl] at e;exact⟨H₀,Bad,env,⟨.c,.bl bb⟩,E.mono s1,by unfold bE;rw[e];rfl,λv2 H2 s2 R2=>k v2 H2 (s1.trans s2) (R2.from s1)⟩
 |false=>rw[Gag Gav];rw[Gag Gav] at e;cases e;exact k _ H1 s1 (.bl false)
theorem K2(ha:PEd X a (bE t)):PEd X (.UnaryOp .Not a pos) (bE (uT t)):=by
 refine(Js ha).aU ?_;rintro σ H Q ⟨H₀,Bad,env,rv,E,e,k⟩;obtain⟨bb,e',rfl⟩:=Gam.mp e;clear e;have e:=e';clear e';obtain⟨x,hx,rfl⟩:=Gam.mp e;refine⟨H₀,Bad,env,⟨.c,.bl x⟩,E,by unfold bE;rw[hx];rfl,λv H1 s1 R=> ?_⟩;have R' :Inn X.K (Cln Bad env σ) H1 (.bl x) v:=R.inn;cases R';exact⟨x,rfl,k _ H1 s1 (.bl _)⟩
theorem EI(hc:PTd X c t)(ha:PEd X a f)(hb:PEd X b g):PEd X (.IfExp c a b pos) (ifE t f g):=by
 refine(Eg hc ha hb).aU ?_;rintro σ H Q ⟨H₀,Bad,env,rv,E,e,k⟩;obtain⟨x,hx,e⟩:=bind_some e;refine⟨H₀,Bad,env,x,E,hx,λH1 s1=> ?_⟩;cases x with
 |true=>rw[Gai rfl];rw[Gai rfl] at e;exact⟨H₀,Bad,env,rv,E.mono s1,e,λv H2 s2 R=>k v H2 (s1.trans s2) (R.from s1)⟩
 |false=>rw[Gag Gav];rw[Gag Gav] at e;exact⟨H₀,Bad,env,rv,E.mono s1,e,λv H2 s2 R=>k v H2 (s1.trans s2) (R.from s1)⟩
theorem EJ{op op' :CmpOp}{o p:D→D→Option Bool}{r r' :R2}(ho:OpR X (compareOp op) r)(hd:OpB X o r)(ho' :OpR X (compareOp op') r')(hd' :OpB X p r')(ha:PEd X a f)(hb:PEd X b g)(hc:PEd X c h)
  (hm:lastMarks [op,op'] [b,c]=false:=by with_unfolding_all rfl):PTd X (.Compare a [op,op'] [b,c] pos) (EA o p f g h):=by
 refine(Ep ho ho' ha hb hc hm).aU ?_;rintro σ H Q ⟨H₀,Bad,env,bb,E,e,k⟩;obtain⟨x,hx,e⟩:=bind_some e;obtain⟨y,hy,e⟩:=bind_some e;obtain⟨b1,h1,e⟩:=bind_some e;refine⟨H₀,Bad,env,x,E,hx,λvx H1 s1 R1=> ⟨H₀,Bad,env,y,E.mono s1,hy,λvy H2 s2 R2=>hd _ H2 x.d y.d vx vy b1 _ (R1.inn.same s2) R2.inn h1 ⟨b1,rfl, ?_⟩⟩⟩;cases b1 with
 |true=>
  rw[Gai rfl];rw[Gai rfl] at e
  obtain⟨z,hz,e⟩:=bind_some e;exact⟨H₀,Bad,env,z,(E.mono s1).mono s2,hz,λvz H3 s3 R3=>hd' _ H3 y.d z.d vy vz bb _ (R2.inn.same s3) R3.inn e ⟨bb,rfl,k H3 (s1.trans (s2.trans s3))⟩⟩
 |false=>
  rw[Gag Gav];rw[Gag Gav] at e;cases e
  exact⟨false,rfl,k H2 (s1.trans s2)⟩
end
open PySem PySem.Spec PyProof.Rows L2
section
variable{X:Cx}{e a b c:Expr}{f g h:DE}{t u:DT}{pos:Pos}
theorem Scr.sq{K:aE}{H:Hp}{a:Addr}{ns:List Int}(h:Scr K H a ns):SqL K H a (ns.map V.int):=by
 rcases h with⟨o,h⟩|h
 ·exact .inl (.inr ⟨o,h⟩)
 ·exact .inr h
theorem EK{K:aE}{F:Addr→Prop}{H:Hp}{ds:List D}{vs:List V}{i:Int}{d:D}(r:b4 K F H ds vs)(e:atD ds i=some d):∃v,atI vs i=some v∧Rep K F H d v:=by
 unfold atD at e;unfold atI ixN;rw[←r.1];split at e
 ·rename_i h0;obtain⟨v,h1,h2⟩:=r.get e;have hi:=(Gae.mp e).1;refine⟨v, ?_,h2⟩;rw[Gai h0,Gai (by omega)];exact h1
 ·rename_i h0;split at e
  ·rename_i h1;obtain⟨v,h2,h3⟩:=r.get e;refine⟨v, ?_,h3⟩;rw[Gag h0,Gai h1];exact h2
  ·cases e
noncomputable def MH:R2:=λx y H Q=>∃a v,x= .ref a∧qF H a y (some v)∧Q v H
theorem Hy(hu:X.A.units+1<cLine):IxR X MH:=by
 intro value slice pins s σ H x y v u Q I rx ry h hs;obtain⟨a,z,rfl,g,q⟩:=h;cases rx;exact tail_any (we I g) PySem.F.slot_dict_getitem.lookup (CQ hu I g ry λw' s3 I3 rw' => ⟨z,H,I3,rw',q⟩) hs
noncomputable def Oi(K:aE):R2:=λx y H Q=>rIx K x y H Q∨MH x y H Q
theorem Hz(hu:X.A.units+1<cLine):IxR X (Oi X.K):=JL.or (Hy hu)
theorem o5{κ:Type} [DecidableEq κ]{K:aE}{F:Addr→Prop}{H:Hp}:∀{kvs:List (κ×D)} {ws:List (κ×V)} {k:κ} {d:D},bc K F H kvs ws→look kvs k=some d→∃v,gY ws k=some v∧Rep K F H d v
 |[],ws,k,d,_,e=>by simp[look] at e
 |p::kvs,[],k,d,r,_=>absurd r.1 (by simp)
 |p::kvs,q::ws,k,d,r,e=>by
  have h1:p.1=q.1∧kvs.map (·.1)=ws.map (·.1):=by have:=r.1;simpa using this
  have r2:bc K F H kvs ws:=⟨h1.2,λi x y e1 e2=>r.2 (i+1) x y (by simpa using e1) (by simpa using e2)⟩
  by_cases z:p.1=k
  ·have e' :look (p::kvs) k=some p.2:=by simp[look,GbB,z]
   rw[e'] at e;cases e
   exact⟨q.2,lD (h1.1.symm.trans z),r.2 0 p q rfl rfl⟩
  ·have e' :look (p::kvs) k=look kvs k:=by simp[look,GbB,z]
   rw[e'] at e;obtain⟨v,h3,h4⟩:=o5 r2 e;exact⟨v,by rw[j8 (λw=>z (h1.1.trans w))];exact h3,h4⟩
theorem u9{κ:Type} [DecidableEq κ]{K:aE}{F:Addr→Prop}{H:Hp}:∀{kvs:List (κ×D)} {ws:List (κ×V)} {k:κ},bc K F H kvs ws→look kvs k=none→gY ws k=none
 |[],[],k,_,_=>rfl
 |[],q::ws,k,r,_=>absurd r.1 (by simp)
 |p::kvs,[],k,r,_=>absurd r.1 (by simp)
 |p::kvs,q::ws,k,r,e=>by
  have h1:p.1=q.1∧kvs.map (·.1)=ws.map (·.1):=by have:=r.1;simpa using this
  have r2:bc K F H kvs ws:=⟨h1.2,λi x y e1 e2=>r.2 (i+1) x y (by simpa using e1) (by simpa using e2)⟩
  by_cases z:p.1=k
  ·have e' :look (p::kvs) k=some p.2:=by simp[look,GbB,z]
   rw[e'] at e;cases e
  ·have e' :look (p::kvs) k=look kvs k:=by simp[look,GbB,z]
   rw[e'] at e;rw[j8 (λw=>z (h1.1.trans w))];exact u9 r2 e
theorem pq{K:aE}{F:Addr→Prop}{H:Hp}{d:D}{x:V}{k:Key}(i:Inn K F H d x)(e:keyOf d=some k):x=kV k:=by
 unfold keyOf at e;split at e<;>cases e<;>cases i<;>rfl
theorem jB{K:aE}{F:Addr→Prop}{H:Hp}:∀{ds:List D} {vs:List V} {ks:List Key},b4 K F H ds vs→keysOf ds=some ks→vs=ks.map kV
 |[],vs,ks,r,e=>by cases e;rw[r.cV];rfl
 |d::ds,vs,ks,r,e=>by
  obtain⟨v,w,rfl,h1,h2⟩:=r.cons_inv;unfold keysOf at e;obtain⟨k,hk,e⟩:=bind_some e;obtain⟨ks',hks,rfl⟩:=Gam.mp e;rw[pq h1.inn hk,jB h2 hks]
  rfl
theorem va{K:aE}{F:Addr→Prop}{H:Hp}{d k:D}{x y:V}(ix:Inn K F H d x)(iy:Inn K F H k y):
  (∀kvs key,d= .dK kvs→keyOf k=some key→∃a ws,x= .ref a∧bc K F H kvs ws∧qF H a y (gY ws key))∧
  (∀kvs ks key,d= .dT kvs→k= .tup ks→keysOf ks=some key→∃a ws,x= .ref a∧bc K F H kvs ws∧qF H a y (gY ws key)):=by
 refine⟨λkvs key ed ek=> ?_,λkvs ks key ed ek e=> ?_⟩
 ·subst ed;cases ix with
  |dK h r=>exact⟨_,_,rfl,r,.inl ⟨_,key,.inl h,pq iy ek,rfl⟩⟩
 ·subst ed ek;cases ix with
  |dT h r=>
   cases iy with
   |tup hy ry=>exact⟨_,_,rfl,r,.inr ⟨_,key,_,.inl h,rfl,by rw[←jB ry e];exact hy,rfl⟩⟩
theorem ah(hu:X.A.units+1<cLine)(ha:PEd X a f)(hb:PEd X b g)(hs:BC b:=by exactλ_ _=>rfl):PEd X (.Subscript a b pos) (ixE f g):=by
 refine(LY (Hz hu) ha hb hs).aU ?_;rintro σ H Q ⟨H₀,Bad,env,rv,E,e,k⟩;obtain⟨x,hx,e⟩:=bind_some e;obtain⟨y,hy,e⟩:=bind_some e;obtain⟨d,e',rfl⟩:=Gam.mp e;clear e;have e:=e';clear e';refine⟨H₀,Bad,env,x,E,hx,λvx H1 s1 R1=> ⟨H₀,Bad,env,y,E.mono s1,hy,λvy H2 s2 R2=> ?_⟩⟩;have ix:=R1.inn.same s2;have iy:=R2.inn;have fin:∀v,Rep X.K (Cln Bad env σ) H2 d v→Q v H2:=λv r=>k v H2 (s1.trans s2) r;generalize x.d=dx at ix e;generalize y.d=dy at iy e;unfold ixD at e;split at e
 ·cases iy;cases ix with
  |lst h r=>
   obtain⟨v,h1,h2⟩:=EK r e;exact .inl (.inl ⟨_,_,_,v,rfl,rfl,.inl h,h1,fin v h2⟩)
 ·cases iy;cases ix with
  |tup h r=>
   obtain⟨v,h1,h2⟩:=EK r e;exact .inl (.inr (.inl ⟨_,_,_,v,rfl,rfl,SqT.of h,h1,fin v h2⟩))
 ·split at e
  ·rename_i hz;obtain⟨ch,e',rfl⟩:=Gam.mp e;clear e;have e:=e';clear e';cases iy;cases ix
   refine .inl (.inr (.inr ⟨_,_,ch,rfl,rfl,by rw[←size_eq];exact hz, ?_,fin _ (.str _)⟩));unfold atD at e;unfold atI ixN;split at e
   ·rename_i h0;have hi:=(Gae.mp e).1;rw[Gai h0,Gai (by omega)];exact e
   ·rename_i h0;split at e
    ·rename_i h1;rw[Gag h0,Gai h1];exact e
    ·cases e
  ·cases e
 ·obtain⟨key,hk,e⟩:=bind_some e;obtain⟨p,ws,rfl,r,dg⟩:=(va ix iy).1 _ key rfl hk;obtain⟨v,h1,h2⟩:=o5 r e;rw[h1] at dg;exact .inr ⟨p,v,rfl,dg,fin v h2⟩
 ·obtain⟨key,hk,e⟩:=bind_some e;obtain⟨p,ws,rfl,r,dg⟩:=(va ix iy).2 _ _ key rfl rfl hk;obtain⟨v,h1,h2⟩:=o5 r e;rw[h1] at dg;exact .inr ⟨p,v,rfl,dg,fin v h2⟩
 ·obtain⟨n,e',rfl⟩:=Gam.mp e;clear e;have e:=e';clear e';cases iy;cases ix with
  |scr h=>
   refine .inl (.inl ⟨_,_,_,.int n,rfl,rfl,h.sq, ?_,fin _ (.int n)⟩);unfold atD at e;unfold atI ixN;rw[Gaf];split at e
   ·rename_i h0;have hi:=(Gae.mp e).1;rw[Gai h0,Gai (by omega)];show(List.map V.int _)[_]? =_;rw[Gak,e];rfl
   ·rename_i h0;split at e
    ·rename_i h1;rw[Gag h0,Gai h1];show(List.map V.int _)[_]? =_;rw[Gak,e];rfl
    ·cases e
 ·cases e
theorem aa:PAd X [] aq:=by
 refine AK.aU ?_;rintro σ H Q ⟨H₀,Bad,env,rs,E,e,k⟩;cases e;exact k [] H cg .nil
theorem pV{K:aE}{H₀ H H1 H' :Hp}{Bad:Addr→Prop}{env:Env}{σ:St}(s:cj H H1):∀{rs:List RV} {vs:List V},Paired (jW K H₀ Bad env σ H1 H') rs vs→Paired (jW K H₀ Bad env σ H H') rs vs
 |_,_,.nil=> .nil
 |_,_,.cons h t=> .cons (h.from s) (pV s t)
theorem a4{es:List Expr}{r:DA}(ha:PEd X e f)(hr:PAd X es r)(hs:starEach (e::es) X.env=(false,eval e X.env)::starEach es X.env:=by rfl):PAd X (e::es) (a5 f r):=by
 refine(uQ ha hr hs).aU ?_;rintro σ H Q ⟨H₀,Bad,env,rs,E,e,k⟩;obtain⟨x,hx,e⟩:=bind_some e;obtain⟨xs,hxs,e⟩:=bind_some e;cases e;exact⟨H₀,Bad,env,x,E,hx,λvx H1 s1 R1=> ⟨H₀,Bad,env,xs,E.mono s1,hxs,λvs H2 s2 Rs=>k _ H2 (s1.trans s2) (.cons (R1.same s2) (pV s1 Rs))⟩⟩
theorem pv{K:aE}{H₀ H H' :Hp}{Bad:Addr→Prop}{env:Env}{σ:St}(E:aI K H₀ Bad env σ H):∀{rs:List RV} {vs:List V},Paired (jW K H₀ Bad env σ H H') rs vs→rs.all (·.free)=true→b4 K (Cln Bad env σ) H' (rs.map (·.d)) vs
 |_,_,.nil,_=>b4.nil
 |r::rs,v::vs,.cons h t,f=>by
  rw[GbI,Gau] at f;exact b4.cons (h.rep E f.1) (pv E t f.2)
theorem b9{es:List Expr}{r:DA}{j:Nat}(ha:PAd X es r):PEd X (.Tuple es j pos) (bM r):=by
 refine(JF ha).aU ?_;rintro σ H Q ⟨H₀,Bad,env,rv,E,e,k⟩;obtain⟨rs,hr,e⟩:=bind_some e;split at e
 ·rename_i q;rw[Gau] at q;cases e;refine⟨H₀,Bad,env,rs,E,hr,λvs H1 s1 Rs=> ?_⟩;have rep:=pv E Rs q.1;refine⟨by rw[←rep.1,Gaf,←size_eq];exact GaE q.2,λp n=> ?_⟩;exact k _ _ (s1.trans (bG n)) (fP n rep)
 ·cases e
theorem c9{es:List Expr}{r:DA}(ha:PAd X es r):PEd X (.List es pos) (gE r):=by
 refine(Er ha).aU ?_;rintro σ H Q ⟨H₀,Bad,env,rv,E,e,k⟩;obtain⟨rs,hr,e⟩:=bind_some e;split at e
 ·rename_i q;rw[Gau] at q;cases e;refine⟨H₀,Bad,env,rs,E,hr,λvs H1 s1 Rs=> ?_⟩;have rep:=pv E Rs q.1;refine⟨by rw[←rep.1,Gaf,←size_eq];exact GaE q.2,λp n=> ?_⟩;exact k _ _ (s1.trans (bG n)) ⟨p,rfl,s1.free n,pj,rfl,gF n rep⟩
 ·cases e
noncomputable def spD(K:aE)(np:Nat)(sp:List D→Option D):Sp:=λvs H Q _=>∃ds d,ds.length=np∧b4 K (λ_=>True) H ds vs∧sp ds=some d∧∀v H',cj H H' →u3 K H H' d v→Q v H'
theorem uc{K:aE}{H₀ H H' :Hp}{Bad:Addr→Prop}{env:Env}{σ:St}:∀{rs:List RV} {vs:List V},Paired (jW K H₀ Bad env σ H H') rs vs→b4 K (λ_=>True) H' (rs.map (·.d)) vs
 |_,_,.nil=>b4.nil
 |r::rs,v::vs,.cons h t=>b4.cons h.inn.any (uc t)
theorem HA{CX:CXT}{k:Nat}{fa:Addr}{fd:FuncData}{ps:List Str}{np:Nat}{sp:List D→Option D}{x:Str}{p:Pos}{es:List Expr}{r:DA}{E:XK}(F:cw X.prog X.w X.K X.mg X.base CX k fa fd ps (spD X.K np sp))(hr:iq k X.A)(hg:Gl X x)
  (hm:X.mg x=some (.ref fa))(hk:PySem.W.keepIn X.K (.ref fa)=true)(hb:Binds X.K fd ps [])(hx:Passes CX X E)(ha:PAd X (e::es) r)(hl:∀env rs,r env=some rs→rs.length=np)
  (hdb:(x==("__debug__":Str))=false:=by decide)(he:starEach (e::es) X.env=(false,eval e X.env)::starEach es X.env:=by rfl)(hpl:(backTo pos (starEach es X.env)).any (·.1)=false:=by rfl):
  PEd X (.Call (.Name x p) (e::es) [] pos) (aH sp r):=by
 refine(GZ (dvs:=[]) F hr hg hm hk hb .nil hx ha hdb he hpl).aU ?_;rintro σ H Q ⟨H₀,Bad,env,rv,E,e,k⟩;obtain⟨rs,hrs,e⟩:=bind_some e;obtain⟨d,hd,rfl⟩:=Gam.mp e;refine⟨H₀,Bad,env,rs,E,hrs,λvs H1 s1 Rs=> ⟨rs.map (·.d),d,by rw[Gaf];exact hl env rs hrs, ?_,hd,λv H2 s2 R2=>k v H2 (s1.trans s2) ((R2.rv (E.mono s1)).from s1)⟩⟩;rw[Gbn];exact uc Rs
def CallD(X:Cx)(o:List D→Option RV)(r:List V→Hp→VK→Prop):Prop:=∀(F:Addr→Prop) (H:Hp) (ds:List D) (vs:List V) (rv:RV) (Q:VK),Paired (Inn X.K F H) ds vs→o ds=some rv→(∀v H',cj H H' →RvN X.K F H H' rv v→Q v H')→r vs H Q
theorem nI{K:aE}{H₀ H H' :Hp}{Bad:Addr→Prop}{env:Env}{σ:St}:∀{rs:List RV} {vs:List V},Paired (jW K H₀ Bad env σ H H') rs vs→Paired (Inn K (Cln Bad env σ) H') (rs.map (·.d)) vs
 |_,_,.nil=> .nil
 |_,_,.cons h t=> .cons h.inn (nI t)
theorem ck{id:String}{o:List D→Option RV}{r:List V→Hp→VK→Prop}{x:Str}{p:Pos}{es:List Expr}{ra:DA}(hc:gX X (.builtin id) r)(hd:CallD X o r)(hg:Gl X x)(hm:X.mg x=none)(hv:bootBuiltins x=some (.builtin id))(ha:PAd X (e::es) ra)
  (hn:x≠"__name__":=by decide)(hdb:(x==("__debug__":Str))=false:=by decide)(he:starEach (e::es) X.env=(false,eval e X.env)::starEach es X.env:=by rfl)(hpl:(backTo pos (starEach es X.env)).any (·.1)=false:=by rfl):
  PEd X (.Call (.Name x p) (e::es) [] pos) (dP o ra):=by
 refine(w6 hc hg hm hv ha hn hdb he hpl).aU ?_;rintro σ H Q ⟨H₀,Bad,env,rv,E,e,k⟩;obtain⟨rs,hrs,e⟩:=bind_some e;exact⟨H₀,Bad,env,rs,E,hrs,λvs H1 s1 Rs=>hd _ H1 _ vs rv Q (nI Rs) e λv H2 s2 R2=>k v H2 (s1.trans s2) (R2.ok s1)⟩
theorem i4{T:String}{o:List D→Option RV}{r:List V→Hp→VK→Prop}{x:Str}{p:Pos}{es:List Expr}{ra:DA}(hc:gX X (.type T) r)(hd:CallD X o r)(hg:Gl X x)(hm:X.mg x=none)(hv:bootBuiltins x=some (.type T))(ha:PAd X (e::es) ra)
  (hn:x≠"__name__":=by decide)(hdb:(x==("__debug__":Str))=false:=by decide)(he:starEach (e::es) X.env=(false,eval e X.env)::starEach es X.env:=by rfl)(hpl:(backTo pos (starEach es X.env)).any (·.1)=false:=by rfl):
  PEd X (.Call (.Name x p) (e::es) [] pos) (dP o ra):=by
 refine(CN hc hg hm hv ha hn hdb he hpl).aU ?_;rintro σ H Q ⟨H₀,Bad,env,rv,E,e,k⟩;obtain⟨rs,hrs,e⟩:=bind_some e;exact⟨H₀,Bad,env,rs,E,hrs,λvs H1 s1 Rs=>hd _ H1 _ vs rv Q (nI Rs) e λv H2 s2 R2=>k v H2 (s1.trans s2) (R2.ok s1)⟩
theorem gK{R:D→V→Prop}{d:D}{vs:List V}(h:Paired R [d] vs):∃v,vs=[v]∧R d v:=by
 cases h with
 |cons h t=>cases t;exact⟨_,rfl,h⟩
theorem BP{R:D→V→Prop}{d d2:D}{vs:List V}(h:Paired R [d,d2] vs):∃v w,vs=[v,w]∧R d v∧R d2 w:=by
 cases h with
 |cons h t=>cases t with
  |cons h2 t=>cases t;exact⟨_,_,rfl,h,h2⟩
theorem bW:gX X (.builtin "len") (λxs H Q=>∃a kvs,xs=[.ref a]∧Rd H a (.dK kvs)∧Q (.int kvs.length) H):=by
 intro pins s σ H xs us Q I r h;obtain⟨a,kvs,rfl,e,q⟩:=h;obtain⟨u,rfl,rx⟩:=vals1 r;cases rx;exact M4 I e λt s' I' => ⟨.int kvs.length,H,I',⟨t,rfl⟩,q⟩
theorem bX:CallD X cO (λxs H Q=>(∃x n,xs=[x]∧LR X.K x H n∧Q (.int n) H)∨(∃a kvs,xs=[.ref a]∧Rd H a (.dK kvs)∧Q (.int kvs.length) H)):=by
 intro F H ds vs rv Q ps e k;unfold cO at e;split at e
 ·cases e;obtain⟨v,rfl,i⟩:=gK ps;cases i with
  |lst h r=>exact .inl ⟨_,_,rfl,.inl ⟨_,.inl h,r.1⟩,k _ H cg (.int _)⟩
 ·cases e;obtain⟨v,rfl,i⟩:=gK ps;cases i with
  |tup h r=>exact .inl ⟨_,_,rfl,.inr ⟨_,SqT.of h,r.1⟩,k _ H cg (.int _)⟩
 ·split at e
  ·rename_i q;cases e;obtain⟨v,rfl,i⟩:=gK ps;cases i;exact .inl ⟨_,_,rfl,⟨by rw[←size_eq];exact q,rfl⟩,k _ H cg (.int _)⟩
  ·cases e
 ·cases e;obtain⟨v,rfl,i⟩:=gK ps;cases i with
  |dK h r=>
   have hl:=congrArg List.length r.1;rw[Gaf,Gaf] at hl;exact .inr ⟨_,_,rfl,.inl h,by rw[←hl];exact k _ H cg (.int _)⟩
 ·cases e;obtain⟨v,rfl,i⟩:=gK ps;cases i with
  |scr h=>exact .inl ⟨_,_,rfl,.inl ⟨_,h.sq,by simp⟩,k _ H cg (.int _)⟩
 ·cases e
theorem rn:CallD X nW (λxs H Q=>∃i j,xs=[.int i,.int j]∧Q (.int (if j<i then j else i)) H):=by
 intro F H ds vs rv Q ps e k;unfold nW at e;split at e
 ·cases e;obtain⟨v,w,rfl,i1,i2⟩:=BP ps;cases i1;cases i2
  exact⟨_,_,rfl,k _ H cg (.int _)⟩
 ·cases e
theorem AV:CallD X tX (λxs H Q=>∃i j,xs=[.int i,.int j]∧Q (.int (if j>i then j else i)) H):=by
 intro F H ds vs rv Q ps e k;unfold tX at e;split at e
 ·cases e;obtain⟨v,w,rfl,i1,i2⟩:=BP ps;cases i1;cases i2
  exact⟨_,_,rfl,k _ H cg (.int _)⟩
 ·cases e
theorem dS:CallD X j9 (λxs H Q=>∃p ys,xs=[.ref p]∧((SqL X.K H p ys∧∀l,H l=none→Q (.ref l) (upd H l (.tup ys)))∨(SqT X.K H p ys∧Q (.ref p) H))):=by
 intro F H ds vs rv Q ps e k;unfold j9 at e;split at e
 ·cases e;obtain⟨v,rfl,i⟩:=gK ps;cases i with
  |lst h r=>
   refine⟨_,_,rfl,.inl ⟨.inl h,λl n=> ?_⟩⟩;exact k _ _ (bG n) (fP n r)
 ·cases e;obtain⟨v,rfl,i⟩:=gK ps;cases i with
  |tup h r=>exact⟨_,_,rfl,.inr ⟨SqT.of h,k _ H cg (.tup h r.1 r.2)⟩⟩
 ·cases e
end
open PySem PySem.Spec PyProof.Rows L2
section
variable{K:aE}{H₀ H H' :Hp}{Bad:Addr→Prop}{env env' :Env}{σ σ' :St}{d:D}{v:V}{a:Addr}{i:Nat}
theorem get_set{α:Type}{l:List α}{i j:Nat}{x y:α}(e:(l.set i x)[j]? =some y):(i=j∧y=x)∨(i≠j∧l[j]? =some y):=by
 by_cases h:i=j
 ·subst h;have hi:i<l.length:=by have:=(Gae.mp e).1;simpa using this
  rw[GaQ hi] at e;cases e;exact .inl ⟨rfl,rfl⟩
 ·rw[Gac h] at e;exact .inr ⟨h,e⟩
theorem set_same{α:Type}{l:List α}{i:Nat}{x:α}(e:l[i]? =some x):l.set i x=l:=by
 apply Gdk;intro j;by_cases h:i=j
 ·subst h;rw[GaQ (Gae.mp e).1,e]
 ·rw[Gac h]
theorem cD{α:Type}{l:List α}{i:Nat}{x:α}(h:i<l.length):(l.set i x)[i]? =some x:=GaQ h
theorem gG{j:Nat}(h:bB (env.set i (some (.sh d)))[j]?):i≠j∧bB env[j]? :=by
 by_cases q:i=j
 ·subst q;by_cases z:i<env.length
  ·rw[cD z] at h;exact h.elim
  ·rw[Gbr (by simpa using Nat.le_of_not_lt z)] at h;exact h.elim
 ·rw[Gac q] at h;exact⟨q,h⟩
theorem aI.lK(E:aI K H₀ Bad env σ H)(r:Rep K (Cln Bad env σ) H d v):aI K H₀ Bad (env.set i (some (.sh d))) (σ.set i (some v)) H:=by
 have cln:∀b,Cln Bad env σ b→Cln Bad (env.set i (some (.sh d))) (σ.set i (some v)) b:=λb ⟨h1,h2⟩=> ⟨h1,λj t e=>by
  obtain⟨q,t⟩:=gG t;rw[Gac q] at e;exact h2 j t e⟩
 refine⟨E.same,by simp[E.len],E.bad,λj dj e=> ?_,λj dj e=> ?_,λj dj e=> ?_,λj k b t1 t2 e1 e2=> ?_⟩
 ·rcases get_set e with⟨q,e⟩| ⟨q,e⟩
  ·cases e;subst q;have hi:i<env.length:=by have:=(Gae.mp e);simpa using this.1
   exact⟨v,cD (by rw[←E.len];exact hi),r.imp cln⟩
  ·obtain⟨w,h1,h2⟩:=E.sh j dj e;exact⟨w,by rw[Gac q];exact h1,h2.imp cln⟩
 ·have e' :i≠j∧(env[j]? =some (some (.own dj))∨env[j]? =some (some (.lok dj))):=by
   rcases e with e|e
   ·rcases get_set e with⟨q,e⟩| ⟨q,e⟩
    ·cases e
    ·exact⟨q,.inl e⟩
   ·rcases get_set e with⟨q,e⟩| ⟨q,e⟩
    ·cases e
    ·exact⟨q,.inr e⟩
  obtain⟨b,h1,h2,h3,h4,h5,h6⟩:=E.ow j dj e'.2;exact⟨b,by rw[Gac e'.1];exact h1,h2,h3,h4,h5,h6.imp cln⟩
 ·rcases get_set e with⟨q,e⟩| ⟨q,e⟩
  ·cases e
  ·obtain⟨b,h1,hw,h2,h3⟩:=E.bo j dj e;exact⟨b,by rw[Gac q];exact h1,hw,h2,h3.imp cln⟩
 ·obtain⟨q1,t1'⟩:=gG t1.top;obtain⟨q2,t2⟩:=gG t2;rw[Gac q1] at e1 t1;rw[Gac q2] at e2;exact E.dj j k b t1 t2 e1 e2
theorem Stp.lK:Stp env σ H (env.set i (some (.sh d))) (σ.set i (some v)) H:=⟨λ_ _ e _=>e,λb ⟨j,h,e⟩=>by
 have h' :bB (env.set i (some (.sh d)))[j]? :=h.ol.top;obtain⟨q,_⟩:=gG h';rw[Gac q] at h e;exact .inl ⟨j,h,e⟩,λj h=>by
 obtain⟨q,_⟩:=gG h.top;rw[Gac q,Gac q];exact⟨rfl,rfl⟩⟩
theorem jC{j:Nat}(h:bB (env.set i (some (.own d)))[j]?)(hi:i<env.length):i=j∨(i≠j∧bB env[j]?):=by
 by_cases q:i=j
 ·exact .inl q
 ·rw[Gac q] at h;exact .inr ⟨q,h⟩
theorem aI.EM(E:aI K H₀ Bad env σ H)(hi:i<env.length)(n0:H₀ a=none)(nb:¬Bad a)(w:Wr H' a)(t:d.top=true)(s:cj H₀ H')(bd:∀b,Bad b→H' b≠none)
  (ne:∀j b,j≠i→bB env[j]? →σ[j]? =some (some (.ref b))→b≠a∧H' b=H b)
  (inn:Inn K (Cln Bad (env.set i (some (.own d))) (σ.set i (some (.ref a)))) H' d (.ref a))
  (cln:∀b,Cln Bad env σ b→H b≠none→Cln Bad (env.set i (some (.own d))) (σ.set i (some (.ref a))) b)
  (dN:jc (Cln Bad env σ) H H'):
  aI K H₀ Bad (env.set i (some (.own d))) (σ.set i (some (.ref a))) H' :=by
 have keep:∀{j:Nat} {b:Addr} {dj:D},j≠i→bB env[j]? →σ[j]? =some (some (.ref b))→Inn K (Cln Bad env σ) H dj (.ref b)→Inn K (Cln Bad (env.set i (some (.own d))) (σ.set i (some (.ref a)))) H' dj (.ref b):=λ{j b dj} hj tj ej h=>
  h.gen dN cln λb' eb _ o e=>by cases eb;rw[(ne j b hj tj ej).2];exact e
 refine⟨s,by simp[E.len],bd,λj dj e=> ?_,λj dj e=> ?_,λj dj e=> ?_,λj k b t1 t2 e1 e2=> ?_⟩
 ·rcases get_set e with⟨q,e⟩| ⟨q,e⟩
  ·cases e
  ·obtain⟨u,h1,h2⟩:=E.sh j dj e;exact⟨u,by rw[Gac q];exact h1,h2.gen dN cln⟩
 ·have e' :(i=j∧dj=d)∨(i≠j∧(env[j]? =some (some (.own dj))∨env[j]? =some (some (.lok dj)))):=by
   rcases e with e|e
   ·rcases get_set e with⟨q,e⟩| ⟨q,e⟩
    ·cases e;exact .inl ⟨q,rfl⟩
    ·exact .inr ⟨q,.inl e⟩
   ·rcases get_set e with⟨q,e⟩| ⟨q,e⟩
    ·cases e
    ·exact .inr ⟨q,.inr e⟩
  rcases e' with⟨q,rfl⟩| ⟨q,e'⟩
  ·subst q;exact⟨a,cD (by rw[←E.len];exact hi),n0,nb,w,t,inn⟩
  ·obtain⟨b,h1,h2,h3,h4,h5,h6⟩:=E.ow j dj e';have tj:bB env[j]? :=by rcases e' with e' |e' <;>rw[e']<;>trivial
   refine⟨b,by rw[Gac q];exact h1,h2,h3, ?_,h5,keep (GaY q) tj h1 h6⟩;unfold Wr;rw[(ne j b (GaY q) tj h1).2];exact h4
 ·rcases get_set e with⟨q,e⟩| ⟨q,e⟩
  ·cases e
  ·obtain⟨b,h1,hw,h2,h3⟩:=E.bo j dj e;have tj:bB env[j]? :=by rw[e];trivial
   refine⟨b,by rw[Gac q];exact h1, ?_,h2,keep (GaY q) tj h1 h3⟩;unfold Wr;rw[(ne j b (GaY q) tj h1).2];exact hw
 ·rcases jC t1.top hi with q1| ⟨q1,t1'⟩
  ·rcases jC t2 hi with q2| ⟨q2,t2'⟩
   ·rw[←q1,←q2]
   ·subst q1;rw[cD (by rw[←E.len];exact hi)] at e1;cases e1;rw[Gac q2] at e2;exact absurd rfl (ne k a (GaY q2) t2' e2).1
  ·rcases jC t2 hi with q2| ⟨q2,t2'⟩
   ·subst q2;rw[cD (by rw[←E.len];exact hi)] at e2;cases e2;rw[Gac q1] at e1;exact absurd rfl (ne j a (GaY q1) t1' e1).1
   ·rw[Gac q1] at e1 t1;rw[Gac q2] at e2;exact E.dj j k b t1 t2' e1 e2
theorem wz(hi:i<env.length)(hs:env.length=σ.length){b:Addr}(h:Cln Bad env σ b)(hb:b≠a):Cln Bad (env.set i (some (.own d))) (σ.set i (some (.ref a))) b:=⟨h.1,λj t e=>by
 rcases jC t hi with q| ⟨q,t⟩
 ·subst q;rw[cD (by rw[←hs];exact hi)] at e;cases e;exact hb rfl
 ·rw[Gac q] at e;exact h.2 j t e⟩
theorem aI.AW(E:aI K H₀ Bad env σ H)(s:cj H H')(hi:i<env.length)(n:H a=none)(w:Wr H' a)(t:d.top=true)(hin:Inn K (λb=>Cln Bad env σ b∧b≠a) H' d (.ref a)):
  aI K H₀ Bad (env.set i (some (.own d))) (σ.set i (some (.ref a))) H' :=by
 have cln:∀b,Cln Bad env σ b→b≠a→Cln Bad (env.set i (some (.own d))) (σ.set i (some (.ref a))) b:=λb h hb=>wz hi E.len h hb;have cln' :∀b,Cln Bad env σ b→H b≠none→Cln Bad (env.set i (some (.own d))) (σ.set i (some (.ref a))) b:=λb h hb=>cln b h λz=>hb (z▸n);refine E.EM (H' :=H') hi (E.same.free n) (λb=>E.bad a b n) w t (E.same.trans s) (λb h e=>E.bad b h (s.free e)) (λj b hj tj ej=> ?_) (hin.imp λb h=>cln b h.1 h.2) cln' (.of_same s);have hb:=E.nZ tj ej;refine⟨λz=>hb (z▸n), ?_⟩;cases q:H b with
 |none=>exact absurd q hb
 |some o=>exact s b o q
theorem Stp.AW(s:cj H H')(hi:i<env.length)(hs:env.length=σ.length)(n:H a=none):Stp env σ H (env.set i (some (.own d))) (σ.set i (some (.ref a))) H' :=⟨λb o e _=>s b o e,λb ⟨j,h,e⟩=>by
 by_cases q:i=j
 ·subst q;rw[cD (by rw[←hs];exact hi)] at e;cases e;exact .inr n
 ·rw[Gac q] at h e;exact .inl ⟨j,h,e⟩,λj h=>by
 by_cases q:i=j
 ·subst q;rw[cD hi] at h;exact h.elim
 ·rw[Gac q,Gac q];exact⟨rfl,rfl⟩⟩
theorem aI.change{d' :D}{o:HO}(E:aI K H₀ Bad env σ H)(e:env[i]? =some (some (.own d)))(ea:σ[i]? =some (some (.ref a)))(wo:isW o)(t:d'.top=true)
  (inn:Inn K (Cln Bad env σ) (upd H a o) d' (.ref a)):aI K H₀ Bad (env.set i (some (.own d'))) σ (upd H a o)∧Stp env σ H (env.set i (some (.own d'))) σ (upd H a o):=by
 have hi:i<env.length:=(Gae.mp e).1;obtain⟨a',h1,h2,h3,h4,h5,h6⟩:=E.ow i d (.inl e);rw[ea] at h1;cases h1
 have hσ:σ.set i (some (.ref a))=σ:=set_same ea;have tops:∀j,bB (env.set i (some (.own d')))[j]? ↔bB env[j]? :=λj=>by
  by_cases q:i=j
  ·subst q;rw[cD hi,e];exact⟨λ_=>trivial,λ_=>trivial⟩
  ·rw[Gac q]
 have clnE:∀b,Cln Bad env σ b→Cln Bad (env.set i (some (.own d'))) σ b:=λb h=> ⟨h.1,λj tj ej=>h.2 j ((tops j).mp tj) ej⟩;have ca:∀b,Cln Bad env σ b→b≠a:=λb h z=>by subst z;exact h.2 i (by rw[e];trivial) ea
 have dN:jc (Cln Bad env σ) H (upd H a o):=λb x hb q=>by
  have:b≠a:=by
   rintro rfl;rcases q with q|q
   ·exact ca b q rfl
   ·obtain⟨y,hy,wy⟩:=h4;rw[hb] at hy;cases hy
    cases x<;>simp[isT] at q<;>exact wy
  rw[ay this];exact hb
 have keepA:∀b x,H b=some x→b≠a→(upd H a o) b=some x:=λb x hb hn=>by rw[ay hn];exact hb
 refine⟨?_,⟨λb x hb n=>keepA b x hb λz=>n ⟨i,by rw[e];trivial,by rw[z];exact ea⟩,λb ⟨j,h,ej⟩=> .inl ?_,λj h=> ?_⟩⟩
 ·have:=E.EM (H' :=upd H a o) (a:=a) (d:=d') hi h2 h3 ⟨o,aM,wo⟩ t (λb x hb=>keepA b x (E.same b x hb) λz=>by rw[z,h2] at hb;cases hb)
   (λb hb z=>by
    by_cases q:b=a
    ·subst q;rw[aM] at z;cases z
    ·rw[ay q] at z;exact E.bad b hb z)
   (λj b hj tj ej=>by
    have:b≠a:=by rintro rfl;exact hj (E.dj i j b (by rw[e];trivial) tj ea ej).symm
    exact⟨this,by rw[ay this]⟩)
   (by rw[hσ];exact inn.imp clnE) (λb h _=>by rw[hσ];exact clnE b h) dN
  rw[hσ] at this;exact this
 ·by_cases q:i=j
  ·subst q;exact⟨i,by rw[e];trivial,ej⟩
  ·rw[Gac q] at h;exact⟨j,h,ej⟩
 ·by_cases q:i=j
  ·subst q;rw[cD hi] at h;exact h.elim
  ·rw[Gac q];exact⟨rfl,rfl⟩
end
open PySem PySem.Spec PyProof.Rows L2
section
variable{X:Cx}{e a b c:Expr}{f g h:DE}{t u:DT}{pos:Pos}{st:Stmt}{rest:List Stmt}{s1 s2:DS}
theorem b5:lA X [] bf:=by
 refine GP.aU ?_;rintro D σ H ⟨H₀,Bad,env,o,E,e,k⟩;cases e;exact k σ H E .refl
theorem ae(h1:PSd X st s1)(h2:lA X rest s2):lA X (st::rest) (aG s1 s2):=by
 refine(nR h1 h2).aU ?_;rintro D σ H ⟨H₀,Bad,env,o,E,e,k⟩;obtain⟨o1,h1,e⟩:=bind_some e;refine⟨H₀,Bad,env,o1,E,h1, ?_⟩;cases o1 with
 |nx e1=>
  intro σ1 H1 E1 p1;refine⟨H₀,Bad,e1,o,E1,e, ?_⟩;cases o with
  |nx e2=>exactλσ2 H2 E2 p2=>k σ2 H2 E2 (p1.trans p2)
  |bk e2=>exactλσ2 H2 E2 p2=>k σ2 H2 E2 (p1.trans p2)
  |ct e2=>exactλσ2 H2 E2 p2=>k σ2 H2 E2 (p1.trans p2)
  |ret d=>exact k
 |bk e1=>cases e;exact k
 |ct e1=>cases e;exact k
 |ret d=>cases e;exact k
theorem aw(h1:PSd X st s1):lA X [st] s1:=uO h1
theorem EO:PSd X (.Break pos) bkS:=by
 refine Eh.aU ?_;rintro D σ H ⟨H₀,Bad,env,o,E,e,k⟩;cases e;exact k σ H E .refl
theorem HB{K:aE}{F:Addr→Prop}{H₀ H' :Hp}{d:D}{v:V}(i:Inn K F H' d v)(hd:d.imm=true):u3 K H₀ H' d v:=by
 refine⟨λt=> ?_,(i.imm hd).inn⟩;cases d<;>simp[D.top] at t<;>simp[D.imm] at hd
theorem MI{κ:Type}{K:aE}{F F' :Addr→Prop}{H:Hp}{kvs:List (κ×D)}{ws:List (κ×V)}(r:bc K F H kvs ws)(h:aQ (kvs.map (·.2))=true):bc K F' H kvs ws:=
 ⟨r.1,λi p q e1 e2=>(r.2 i p q e1 e2).imm (qO h i p.2 (by rw[Gak,e1];rfl))⟩
theorem BQ{K:aE}{F:Addr→Prop}{H₀ H' :Hp}{d:D}{a:Addr}(i:Inn K F H' d (.ref a))(hd:d.nU=true)(n:H₀ a=none)(w:Wr H' a):u3 K H₀ H' d (.ref a):=by
 refine⟨λ_=> ⟨a,rfl,n,w⟩, ?_⟩;cases i with
 |tup h r=>exact(Inn.imm (.tup h r) (by exact hd)).inn
 |scr h=>exact .scr h
 |lst h r=>exact .lst h (r.imm hd)
 |dK h r=>exact .dK h (MI r hd)
 |dT h r=>exact .dT h (MI r hd)
theorem aV(he:PEd X e f):PSd X (.Return (some e) pos) (retS f):=by
 refine(Ej he).aU ?_;rintro D σ H ⟨H₀,Bad,env,o,E,e,k⟩;obtain⟨r,hr,e⟩:=bind_some e;split at e
 ·rename_i ok;cases e;refine⟨H₀,Bad,env,r,E,hr,λv H1 s1 R=>k v H1 (E.same.trans s1) ?_⟩;obtain⟨kd,d⟩:=r;cases kd with
  |c=>exact HB R.inn ok
  |tn=>
   have ii:=R.inn;obtain⟨a,rfl,n,w,t,i⟩:=R;exact BQ ii ok (E.same.free n) w
  |to=>
   have ii:=R.inn;obtain⟨a,rfl,n,w,t,i⟩:=R;exact BQ ii ok n w
  |tb=>exact absurd (show false=true from ok) Gav
 ·cases e
theorem bD{xs ys:List Stmt}(hc:PTd X c t)(ha:lA X xs s1)(hb:lA X ys s2):PSd X (.If c xs ys pos) (ifS t s1 s2):=by
 refine(LD hc ha hb).aU ?_;rintro D σ H ⟨H₀,Bad,env,o,E,e,k⟩;obtain⟨x,hx,e⟩:=bind_some e;refine⟨H₀,Bad,env,x,E,hx,λH1 s1=> ?_⟩;have st:Stp env σ H env σ H1:= .of_same s1;have fin:∀{s:DS},s env=some o→tS X s D σ H1:=λ{s} e=> ⟨H₀,Bad,env,o,E.mono s1,e,by
  cases o with
  |nx e2=>exactλσ2 H2 E2 p2=>k σ2 H2 E2 (st.trans p2)
  |bk e2=>exactλσ2 H2 E2 p2=>k σ2 H2 E2 (st.trans p2)
  |ct e2=>exactλσ2 H2 E2 p2=>k σ2 H2 E2 (st.trans p2)
  |ret d=>exact k⟩
 dsimp only;cases x with
 |true=>rw[Gai rfl];rw[Gai rfl] at e;exact fin e
 |false=>rw[Gag Gav];rw[Gag Gav] at e;exact fin e
theorem ER{X:Cx}{Bad:Addr→Prop}{env:Env}{σ:St}{H:Hp}{i:Nat}{x:Str}(E:aI X.K H₀ Bad env σ H)(hl:σ.length=X.N.length)(hi:X.N[i]? =some x):i<env.length:=by
 rw[E.len,hl];exact(Gae.mp hi).1
theorem ax{i:Nat}{x:Str}{pos' :Pos}(hN:X.N.Nodup)(hi:X.N[i]? =some x)(hx:Loc X.env.scope x)(he:PEd X e f)(hs:swapsWith e (some (.Name x pos')) pos.line X.env=pure false:=by rfl)
  (hf:X.fn x=true∨X.env.scope.names.lookup x=some .local:=by first|exact .inl rfl|exact .inr rfl|assumption):PSd X (.Assign [.Name x pos'] e pos) (aR i f):=by
 intro pins s σ H D I hw;have hl:=I.len;refine(AE hN hi hx he hs hf) pins s σ H D I ?_;obtain⟨H₀,Bad,env,o,E,e,k⟩:=hw;obtain⟨r,hr,e⟩:=bind_some e;obtain⟨e',hst,rfl⟩:=Gam.mp e;have hie:i<env.length:=ER E hl hi;refine⟨H₀,Bad,env,r,E,hr,λv H1 s1 R=> ?_⟩;have st:Stp env σ H env σ H1:= .of_same s1;obtain⟨kd,d⟩:=r;unfold stored at hst;cases kd with
 |c=>
  cases hst;exact k _ H1 ((E.mono s1).lK R) (st.trans .lK)
 |tn=>
  cases hst;obtain⟨a,rfl,n,w,t,i⟩:=R;exact k _ H1 (E.AW s1 hie n w t i) (.AW s1 hie E.len n)
 |to=>cases hst
 |tb=>cases hst
def D4(K:aE)(F N:Addr→Prop)(J:It)(ds:List D)(H1:Hp):Prop:=
 ∀Hi:Hp,(∀b o,H1 b=some o→N b→Hi b=some o)→(∀(i:Nat) d,ds[i]? =some d→J.go i Hi∧∀x H2,J.yld i Hi x H2→cj Hi H2∧Rep K F H2 d x)∧J.stop ds.length Hi
noncomputable def tI(X:Cx)(src:DI):TI:=λσ H R=>∃H₀ Bad env ds,aI X.K H₀ Bad env σ H∧src env=some ds∧∀J H',cj H H' →D4 X.K (λb=>Cln Bad env σ b∧H' b≠none) (λb=>¬Ow env σ b) J ds H' →R J H'
abbrev PId(X:Cx)(tg iter:Expr)(src:DI):Prop:=PI X tg iter (tI X src)
theorem _root_.L2.PI.aU{tg iter:Expr}{w w' :TI}(h:PI X tg iter w')(i:∀σ H R,w σ H R→w' σ H R):PI X tg iter w:=λpins s σ H R I q=>h pins s σ H R I (i σ H R q)
theorem aI.lock{K:aE}{H₀:Hp}{Bad:Addr→Prop}{env:Env}{σ:St}{H:Hp}(E:aI K H₀ Bad env σ H)(l:Option Nat):aI K H₀ Bad (bT l env) σ H∧(∀b,Ow (bT l env) σ b→Ow env σ b)∧∀i:Nat,bB (bT l env)[i]? ↔bB env[i]? :=by
 cases l with
 |none=>exact⟨E,λ_ h=>h,λ_=>Iff.rfl⟩
 |some j=>
  unfold bT;dsimp only;split
  ·rename_i d q;have hj:j<env.length:=(Gae.mp q).1;have tops:∀i,bB (env.set j (some (.lok d)))[i]? ↔bB env[i]? :=λi=>by
    by_cases z:j=i
    ·subst z;rw[cD hj,q];exact⟨λ_=>trivial,λ_=>trivial⟩
    ·rw[Gac z]
   have cln:∀b,Cln Bad env σ b→Cln Bad (env.set j (some (.lok d))) σ b:=λb h=> ⟨h.1,λi t e=>h.2 i ((tops i).mp t) e⟩;refine⟨⟨E.same,by simpa using E.len,E.bad,λi di e=> ?_,λi di e=> ?_,λi di e=> ?_,λi k b t1 t2 e1 e2=> ?_⟩,λb ⟨i,h,e⟩=> ?_,tops⟩
   ·rcases get_set e with⟨z,e⟩| ⟨z,e⟩
    ·cases e
    ·obtain⟨v,h1,h2⟩:=E.sh i di e;exact⟨v,h1,h2.imp cln⟩
   ·have e' :env[i]? =some (some (.own di))∨env[i]? =some (some (.lok di)):=by
     rcases e with e|e
     ·rcases get_set e with⟨z,e⟩| ⟨z,e⟩
      ·cases e
      ·exact .inl e
     ·rcases get_set e with⟨z,e⟩| ⟨z,e⟩
      ·cases e;subst z;exact .inl q
      ·exact .inr e
    obtain⟨b,h1,h2,h3,h4,h5,h6⟩:=E.ow i di e';exact⟨b,h1,h2,h3,h4,h5,h6.imp cln⟩
   ·rcases get_set e with⟨z,e⟩| ⟨z,e⟩
    ·cases e
    ·obtain⟨b,h1,hw,h2,h3⟩:=E.bo i di e;exact⟨b,h1,hw,h2,h3.imp cln⟩
   ·have t1' :wx env[i]? :=by
     by_cases z:j=i
     ·subst z;rw[q];trivial
     ·rw[Gac z] at t1;exact t1
    exact E.dj i k b t1' ((tops k).mp t2) e1 e2
   ·by_cases z:j=i
    ·subst z;rw[cD hj] at h;exact h.elim
    ·rw[Gac z] at h;exact⟨i,h,e⟩
  ·exact⟨E,λ_ h=>h,λ_=>Iff.rfl⟩
theorem aI.free{K:aE}{H₀:Hp}{Bad:Addr→Prop}{env:Env}{σ:St}{H:Hp}(E:aI K H₀ Bad env σ H)(l:Option Nat):aI K H₀ Bad (ja l env) σ H:=by
 cases l with
 |none=>exact E
 |some j=>
  unfold ja;dsimp only;split
  ·rename_i d q;have hj:j<env.length:=(Gae.mp q).1;have tops:∀i,bB (env.set j (some (.own d)))[i]? ↔bB env[i]? :=λi=>by
    by_cases z:j=i
    ·subst z;rw[cD hj,q];exact⟨λ_=>trivial,λ_=>trivial⟩
    ·rw[Gac z]
   have cln:∀b,Cln Bad env σ b→Cln Bad (env.set j (some (.own d))) σ b:=λb h=> ⟨h.1,λi t e=>h.2 i ((tops i).mp t) e⟩;refine⟨E.same,by simpa using E.len,E.bad,λi di e=> ?_,λi di e=> ?_,λi di e=> ?_,λi k b t1 t2 e1 e2=> ?_⟩
   ·rcases get_set e with⟨z,e⟩| ⟨z,e⟩
    ·cases e
    ·obtain⟨v,h1,h2⟩:=E.sh i di e;exact⟨v,h1,h2.imp cln⟩
   ·have e' :env[i]? =some (some (.own di))∨env[i]? =some (some (.lok di)):=by
     rcases e with e|e
     ·rcases get_set e with⟨z,e⟩| ⟨z,e⟩
      ·cases e;subst z;exact .inr q
      ·exact .inl e
     ·rcases get_set e with⟨z,e⟩| ⟨z,e⟩
      ·cases e
      ·exact .inr e
    obtain⟨b,h1,h2,h3,h4,h5,h6⟩:=E.ow i di e';exact⟨b,h1,h2,h3,h4,h5,h6.imp cln⟩
   ·rcases get_set e with⟨z,e⟩| ⟨z,e⟩
    ·cases e
    ·obtain⟨b,h1,hw,h2,h3⟩:=E.bo i di e;exact⟨b,h1,hw,h2,h3.imp cln⟩
   ·have t1' :wx env[i]? :=by
     by_cases z:j=i
     ·subst z;rw[q];trivial
     ·rw[Gac z] at t1;exact t1
    exact E.dj i k b t1' ((tops k).mp t2) e1 e2
  ·exact E
end
open PySem PySem.Spec PyProof.Rows L2
section
variable{X:Cx}{e a b c:Expr}{f g h:DE}{t u:DT}{pos:Pos}{st:Stmt}{rest:List Stmt}{s1 s2:DS}
theorem wA{env:Env}{l:Option Nat}{i:Nat}(h:∀j,l=some j→j≠i):(bT l env)[i]? =env[i]? :=by
 unfold bT;split
 ·rfl
 ·rename_i j;split
  ·rw[Gac (h j rfl)]
  ·rfl
theorem Stp.loop{env envN:Env}{σ σN:St}{H HN:Hp}{l:Option Nat}(p:Stp (bT l env) σ H envN σN HN)(lo:∀b,Ow (bT l env) σ b→Ow env σ b):Stp env σ H (if r9 l env then ja l envN else envN) σN HN:=by
 have same:r9 l env=false→bT l env=env:=λh=>by
  unfold r9 at h;unfold bT;split at h
  ·rfl
  ·split at h
   ·cases h
   ·rfl
 cases ho:r9 l env with
 |false=>
  rw[Gag Gav];rw[same ho] at p;exact p
 |true=>
  rw[Gai rfl];unfold r9 at ho;split at ho
  ·cases ho
  ·rename_i j;split at ho
   ·rename_i d q;have hj:j<env.length:=(Gae.mp q).1;have lockj:(bT (some j) env)[j]? =some (some (.lok d)):=by unfold bT;simp only[q];exact cD hj
    have other:∀i,j≠i→(bT (some j) env)[i]? =env[i]? :=λi hi=>wA λk e=>by cases e;exact hi
    refine⟨λb o e n=>p.keep b o e λz=>n (lo b z),λb ⟨i,h,e⟩=> ?_,λi h=> ?_⟩
    ·by_cases z:j=i
     ·subst z;unfold ja at h;dsimp only at h;split at h
      ·rename_i d' q';obtain⟨h1,h2⟩:=p.lk j (by rw[q'];trivial);rw[h2] at e;exact .inl ⟨j,by rw[q];trivial,e⟩
      ·rcases p.ow b ⟨j,h,e⟩ with w|w
       ·exact .inl (lo b w)
       ·exact .inr w
     ·have h' :isO envN[i]? :=by
       unfold ja at h;dsimp only at h;split at h
       ·rw[Gac z] at h;exact h
       ·exact h
      rcases p.ow b ⟨i,h',e⟩ with w|w
      ·exact .inl (lo b w)
      ·exact .inr w
    ·by_cases z:j=i
     ·subst z;unfold ja at h⊢;dsimp only at h⊢;split at h
      ·rename_i d' q';have hj' :j<envN.length:=(Gae.mp q').1;rw[cD hj'] at h;exact h.elim
      ·rename_i q';obtain⟨h1,_⟩:=p.lk j h;rw[lockj] at h1;exact absurd h1 (q' d)
     ·have hN:(ja (some j) envN)[i]? =envN[i]? :=by
       unfold ja;dsimp only;split
       ·rw[Gac z]
       ·rfl
      rw[hN] at h⊢;obtain⟨h1,h2⟩:=p.lk i h;rw[other i z] at h1;exact⟨h1,h2⟩
   ·cases ho
theorem ud{Bad:Addr→Prop}{env env' :Env}{σ σ' :St}{H H' :Hp}(p:Stp env σ H env' σ' H'){b:Addr}(h:Cln Bad env σ b)(hb:H b≠none):Cln Bad env' σ' b:=⟨h.1,λi t e=>by
 rcases u0 t with o|o
 ·rcases p.ow b ⟨i,o,e⟩ with⟨j,w,ej⟩|w
  ·exact h.2 j w.ol.top ej
  ·exact hb w
 ·obtain⟨h1,h2⟩:=p.lk i o;rw[h1] at t;rw[h2] at e;exact h.2 i t e⟩
theorem cn{tg iter:Expr}{body:List Stmt}{l:Option Nat}{src:DI}{gd:DG}{sb:DS}(hp:PassesOwn (model X.prog X.w) X.A X.env X.xe)(hc:X.calm=true)(hi:PId X tg iter src)(hg:PGd X tg gd)(hb:lA X body sb)
  (hs:∀x,foldedSetIterable iter X.env x=pure x:=by intro _;rfl):PSd X (.For tg iter body [] pos) (gZ l src gd sb):=by
 refine(En hp hc hi hg hb hs).aU ?_;rintro D σ H ⟨H₀,Bad,env,o,E,e,k⟩;obtain⟨ds,hds,e⟩:=bind_some e;obtain⟨o1,ho1,rfl⟩:=Gam.mp e;obtain⟨EL,lo,_⟩:=E.lock l;refine⟨H₀,Bad,bT l env,ds,EL,hds,λJ H1 sH it=> ?_⟩;have E1:=EL.mono sH;have st1:Stp env σ H env σ H1:= .of_same sH;have nxOk:∀envN σN HN,o1= .nx envN→aI X.K H₀ Bad envN σN HN→Stp (bT l env) σ H1 envN σN HN→D.nx σN HN:=λenvN σN HN eo EN pN=>by
  subst eo;refine k σN HN ?_ (st1.trans (pN.loop lo));show aI X.K H₀ Bad (if r9 l env then ja l envN else envN) σN HN;split
  ·exact EN.free l
  ·exact EN
 refine⟨λi m σ' H' =>m=ds.length -i∧i≤ds.length∧∃envi,aI X.K H₀ Bad envi σ' H' ∧Stp (bT l env) σ H1 envi σ' H' ∧forL gd sb (ds.drop i) envi=some o1,
  ⟨ds.length,by simp,GbH _,_,E1,.refl,by simpa using ho1⟩, ?_⟩
 rintro i m σ' H' ⟨rfl,hle,envi,Ei,pi,ei⟩;obtain⟨items,stop⟩:=it H' λb o hb n=>pi.keep b o hb n;by_cases hlt:i<ds.length
 ·obtain⟨go,yld⟩:=items i ds[i] (by simp[hlt]);refine .inr ⟨go,λσ2 H2=>(ds.length -(i+1))=ds.length -(i+1)∧i+1≤ds.length∧∃envi,aI X.K H₀ Bad envi σ2 H2∧Stp (bT l env) σ H1 envi σ2 H2∧forL gd sb (ds.drop (i+1)) envi=some o1,λσ2 H2 q=> ⟨_,by omega,q⟩,λx H2 y=> ?_⟩;obtain⟨s2,rep⟩:=yld x H2 y;have hd:ds.drop i=ds[i]::ds.drop (i+1):=GbC hlt;rw[hd] at ei;unfold forL at ei;obtain⟨e2,hg2,ei⟩:=bind_some ei;obtain⟨o2,hb2,ei⟩:=bind_some ei;refine⟨H₀,Bad,envi,ds[i],e2,Ei.mono s2,hg2,rep.imp λb q=>ud pi q.1 q.2,λσ3 H3 E3 p3=> ?_⟩;have p3' :Stp (bT l env) σ H1 e2 σ3 H3:=(pi.trans (.of_same s2)).trans p3;refine⟨H₀,Bad,e2,o2,E3,hb2, ?_⟩;cases o2 with
  |nx e4=>exactλσ4 H4 E4 p4=> ⟨rfl,hlt,e4,E4,p3'.trans p4,ei⟩
  |ct e4=>exactλσ4 H4 E4 p4=> ⟨rfl,hlt,e4,E4,p3'.trans p4,ei⟩
  |bk e4=>
   cases ei
   exactλσ4 H4 E4 p4=>nxOk e4 σ4 H4 rfl E4 (p3'.trans p4)
  |ret d=>
   cases ei;exact k
 ·have hi:i=ds.length:=by omega
  subst hi;rw[GbT] at ei;cases ei;exact .inl ⟨stop,nxOk envi σ' H' rfl Ei pi⟩
theorem ES{body:List Stmt}{sb:DS}(hp:PassesOwn (model X.prog X.w) X.A X.env X.xe)(hc:PTd X c t)(hb:lA X body sb):PSd X (.While c body [] pos) (uV t sb):=by
 refine(El hp hc hb).aU ?_;rintro D σ H ⟨H₀,Bad,env,o,E,e,k⟩;refine⟨λm σ' H' =>∃envi,aI X.K H₀ Bad envi σ' H' ∧Stp env σ H envi σ' H' ∧iz t sb m envi=some o,⟨100000,env,E,.refl,e⟩, ?_⟩;rintro m σ' H' ⟨envi,Ei,pi,ei⟩;cases m with
 |zero=>cases ei
 |succ m=>
  unfold iz at ei;obtain⟨bb,hbb,ei⟩:=bind_some ei;refine⟨H₀,Bad,envi,bb,Ei,hbb,λH1 s1=> ?_⟩;have pi1:Stp env σ H envi σ' H1:=pi.trans (.of_same s1);dsimp only;cases bb with
  |true=>
   rw[Gai rfl];rw[Gai rfl] at ei;obtain⟨o2,hb2,ei⟩:=bind_some ei;refine⟨λσ2 H2=>∃envi,aI X.K H₀ Bad envi σ2 H2∧Stp env σ H envi σ2 H2∧iz t sb m envi=some o,λσ2 H2 q=> ⟨m,by omega,q⟩,H₀,Bad,envi,o2,Ei.mono s1,hb2, ?_⟩;cases o2 with
   |nx e4=>exactλσ4 H4 E4 p4=> ⟨e4,E4,pi1.trans p4,ei⟩
   |ct e4=>exactλσ4 H4 E4 p4=> ⟨e4,E4,pi1.trans p4,ei⟩
   |bk e4=>cases ei;exactλσ4 H4 E4 p4=>k σ4 H4 E4 (pi1.trans p4)
   |ret d=>cases ei;exact k
  |false=>
   rw[Gag Gav];rw[Gag Gav] at ei;cases ei;exact k σ' H1 (Ei.mono s1) pi1
theorem aI.fQ{K:aE}{H₀:Hp}{Bad:Addr→Prop}{env:Env}{σ:St}{H:Hp}(E:aI K H₀ Bad env σ H){b:Addr}{o:HO}(h:Ow env σ b)(hb:H b=some o):¬isT o:=by
 intro q;obtain⟨i,h1,h2⟩:=h;obtain⟨y,hy,wy⟩:=E.J6 h1.ol.top h2;rw[hb] at hy;cases hy
 cases o<;>simp[isT] at q<;>exact wy
theorem aI.mE{K:aE}{H₀:Hp}{Bad:Addr→Prop}{env:Env}{σ:St}{H Hi:Hp}{d:D}{v:V}(E:aI K H₀ Bad env σ H)(keep:∀b o,H b=some o→¬Ow env σ b→Hi b=some o)(r:Rep K (Cln Bad env σ) H d v):
  Rep K (λb=>Cln Bad env σ b∧H b≠none) Hi d v:=
 r.gen (λb o hb q=>keep b o hb (by
  rcases q with q|q
  ·exactλ⟨i,h1,h2⟩=>q.2 i h1.ol.top h2
  ·exactλw=>E.fQ w hb q)) λb q hb=> ⟨q,hb⟩
noncomputable def Oj(K:aE)(tl:TE):TI:=λσ H R=>tl σ H λx H1=>∃a,x= .ref a∧(((∃xs,SqL K H1 a xs)∧R (Itl K a) H1)∨((∃xs,SqT K H1 a xs)∧R (Itt K a) H1))
theorem ET{tg l:Expr}{tl:TE}(hl:PE X l tl):PI X tg l (Oj X.K tl):=by
 intro pins s σ H R I h;refine thn (hl pins s σ H _ I h) λv s1 ⟨x,H1,I1,r1,q1⟩=> ?_;obtain⟨a,e,q1⟩:=q1;subst e;cases r1;have fp:∀b∈[s1.heap.objs.size],nC X pins H1 b:=λb hb=>by
  have e:b=s1.heap.objs.size:=by simpa using hb
  subst e;exact I1.CD (Gar _) (I1.hok.fresh (Gar _))
 rcases q1 with⟨⟨xs,hq⟩,q⟩| ⟨⟨xs,hq⟩,q⟩
 ·obtain⟨its,rv,p,hz⟩:=I1.list hq;refine wpAny_pyIter_list p.isList ?_;exact⟨s1.heap.objs.size,[s1.heap.objs.size],_,_,H1,rfl,I1.kept (t' :=s1.toks) λb o e=>Gah _ e,CF a _,⟨_,Gaz _ rfl,rfl,rfl⟩,fp,q⟩
 ·obtain⟨its,rv,p,hz⟩:=I1.tuple hq;refine Gdb (show s1.heap.IsTuple a its.toArray from p) ?_;exact⟨s1.heap.objs.size,[s1.heap.objs.size],_,_,H1,rfl,I1.kept (t' :=s1.toks) λb o e=>Gah _ e,AF a _,⟨_,Gaz _ rfl,rfl,rfl⟩,fp,q⟩
theorem BR{Bad:Addr→Prop}{env:Env}{σ:St}{H H1:Hp}{kd:Cls}{d:D}{v:V}(E:aI X.K H₀ Bad env σ H)(ht:d.top=true)(hk:kd≠ .to)(Rv:jW X.K H₀ Bad env σ H H1 ⟨kd,d⟩ v):∀a,v= .ref a→¬Ow env σ a:=λa ea=>by
 cases kd with
 |c=>
  have Rv' :Rep X.K (Cln Bad env σ) H1 d v:=Rv;have fin:∀b,Cln Bad env σ b→¬Ow env σ b:=λb f ⟨i,h1,h2⟩=>f.2 i h1.ol.top h2;cases Rv' with
  |tup h l r=>simp[D.top] at ht
  |lst f h l r=>cases ea;exact fin _ f
  |dK f h l r=>cases ea;exact fin _ f
  |dT f h l r=>cases ea;exact fin _ f
  |non=>cases ea
  |bl b=>cases ea
  |int i=>cases ea
  |str x=>cases ea
  |scr h=>simp[D.top] at ht
 |tn=>
  obtain⟨a',e',n,_⟩:=Rv;rw[e'] at ea;cases ea
  exactλ⟨i,h1,h2⟩=>E.nZ h1.ol.top h2 n
 |to=>exact absurd rfl hk
 |tb=>exact Rv.2 a ea ht
theorem fu{tg:Expr}(he:PEd X e f):PId X tg e (lu f):=by
 refine(ET he).aU ?_;rintro σ H R ⟨H₀,Bad,env,ds,E,hf,k⟩;obtain⟨⟨kd,d⟩,hr,hf⟩:=bind_some hf;split at hf
 ·cases hf
 rename_i hk;refine⟨H₀,Bad,env,_,E,hr,λv H1 s1 Rv=> ?_⟩;have ii:=Rv.inn;have E1:=E.mono s1;split at hf
 ·rename_i xs hd;cases hf;have hd' :d= .lst ds:=hd;subst hd';have hno:=BR E rfl hk Rv;cases ii with
  | @lst la lv _ h r=>
   refine⟨_,rfl,.inl ⟨⟨_,.inl h⟩,k _ H1 s1 λHi keep=> ?_⟩⟩;have hh:Rd Hi la (.lst lv):=by
    rcases h with h| ⟨o,h⟩
    ·exact .inl (keep _ _ h (hno _ rfl))
    ·exact .inr ⟨o,keep _ _ h (hno _ rfl)⟩
   refine⟨λi d hd=> ?_,⟨_,.inl hh,by rw[r.1];exact Gar _⟩⟩;obtain⟨x,h1,h2⟩:=r.get hd;refine⟨⟨_,x,.inl hh,h1⟩,λy H2 ⟨e2,e3⟩=> ?_⟩;subst e2;refine⟨cg, ?_⟩;have:=e3 _ (.inl hh);rw[h1] at this;cases this
   exact E1.mE keep h2
 ·rename_i xs hd;cases hf;have hd' :d= .tup ds:=hd;subst hd';cases ii with
  | @tup la lv _ h r=>
   refine⟨_,rfl,.inr ⟨⟨_,SqT.of h⟩,k _ H1 s1 λHi keep=> ?_⟩⟩;have hh:Hi la=some (.tup lv):=keep _ _ h λw=>E1.fQ w h trivial;refine⟨λi d hd=> ?_,⟨_,SqT.of hh,by rw[r.1];exact Gar _⟩⟩;obtain⟨x,h1,h2⟩:=r.get hd;refine⟨⟨_,x,SqT.of hh,h1⟩,λy H2 ⟨e2,e3⟩=> ?_⟩;subst e2;refine⟨cg, ?_⟩;have:=e3 _ (SqT.of hh);rw[h1] at this;cases this
   exact E1.mE keep h2
 ·rename_i ns hd;cases hf;have hd' :d= .scr ns:=hd;subst hd';cases ii with
  | @scr la _ h=>
   refine⟨_,rfl,.inl ⟨⟨_,h.sq⟩,k _ H1 s1 λHi keep=> ?_⟩⟩;have hh:Scr X.K Hi la ns:=by
    rcases h with⟨o,h⟩|h
    ·exact .inl ⟨o,keep _ _ h λw=>E1.fQ w h trivial⟩
    ·exact .inr h
   refine⟨λi d hd=> ?_,⟨_,hh.sq,by simp⟩⟩;rw[Gak] at hd;cases q:ns[i]? with
   |none=>rw[q] at hd;cases hd
   |some n=>
    rw[q] at hd;cases hd
    refine⟨⟨_,.int n,hh.sq,by rw[Gak,q];rfl⟩,λy H2 ⟨e2,e3⟩=> ?_⟩;subst e2;have:=e3 _ hh.sq;rw[Gak,q] at this;cases this
    exact⟨cg,.int n⟩
 ·cases hf
theorem lC{lo:Int}{n:Nat}{F N:Addr→Prop}{H1:Hp}:D4 X.K F N (Itr lo n) (bx lo n) H1:=λHi _=>by
 refine⟨λi d hd=> ?_,by show n≤(bx lo n).length;simp[bx]⟩;have hi:i<n:=by have:=(Gae.mp hd).1;simpa[bx] using this
 refine⟨hi,λx H2 ⟨e1,e2⟩=> ?_⟩;subst e1 e2;have:d= .int (lo+(i:Int)):=by
  unfold bx at hd;rw[Gak,List.getElem?_range hi] at hd;cases hd;rfl
 subst this;exact⟨cg,.int _⟩
theorem fR{i:Int}(h:bV i=true): -(2^62)≤i∧i<2^62:=by
 unfold bV at h;rw[Gau] at h;have h1:=GaE h.1;have h2:=GaE h.2;omega
theorem fT{tg:Expr}{p:Pos}(hg:Gl X "range")(hm:X.mg "range"=none)(he:PEd X e f)(hs:starEach [e] X.env=[(false,eval e X.env)]:=by rfl):PId X tg (.Call (.Name "range" p) [e] [] pos) (iI f):=by
 refine(CG hg hm (a4 he aa hs) hs).aU ?_;rintro σ H R ⟨H₀,Bad,env,ds,E,hf,k⟩;obtain⟨r,hr,hf⟩:=bind_some hf;split at hf
 ·rename_i j hd;split at hf
  ·rename_i hz;cases hf;refine⟨H₀,Bad,env,[r],E,by unfold a5 aq;rw[hr];rfl,λvs H1 s1 Rs=> ?_⟩;cases Rs with
   |cons R1 t=>
    cases t;have i:=R1.inn;rw[hd] at i;cases i;exact⟨j,rfl,(fR hz).1,(fR hz).2,k _ H1 s1 lC⟩
  ·cases hf
 ·cases hf
theorem D5{tg:Expr}{p:Pos}(hg:Gl X "range")(hm:X.mg "range"=none)(ha:PEd X a f)(hb:PEd X b g)(hs:starEach [a,b] X.env=[(false,eval a X.env),(false,eval b X.env)]:=by rfl)(hs2:starEach [b] X.env=[(false,eval b X.env)]:=by rfl):
  PId X tg (.Call (.Name "range" p) [a,b] [] pos) (BI f g):=by
 refine(CH hg hm (a4 ha (a4 hb aa hs2) (by rw[hs,hs2])) hs hs2).aU ?_;rintro σ H R ⟨H₀,Bad,env,ds,E,hf,k⟩;obtain⟨r,hr,hf⟩:=bind_some hf;obtain⟨r',hr',hf⟩:=bind_some hf;split at hf
 ·rename_i i j hd hd';split at hf
  ·rename_i hz;rw[Gau] at hz;cases hf;refine⟨H₀,Bad,env,[r,r'],E,by simp only[a5,aq,hr,hr'];rfl,λvs H1 s1 Rs=> ?_⟩;cases Rs with
   |cons R1 t=>
    cases t with
    |cons R2 t=>
     cases t;have i1:=R1.inn;rw[hd] at i1;cases i1;have i2:=R2.inn;rw[hd'] at i2;cases i2;exact⟨i,j,rfl,⟨(fR hz.1).1,(fR hz.1).2,(fR hz.2).1,(fR hz.2).2⟩,k _ H1 s1 lC⟩
  ·cases hf
 ·cases hf
theorem aP{i:Nat}{x:Str}(hN:X.N.Nodup)(hi:X.N[i]? =some x)(hx:Loc X.env.scope x)(hf:X.fn x=true∨X.env.scope.names.lookup x=some .local:=by first|exact .inl rfl|exact .inr rfl|assumption):PGd X (.Name x pos) (gN i):=by
 refine(Bz hN hi hx hf).aU ?_;rintro v σ H Q ⟨H₀,Bad,env,d,env',E,hg,r,k⟩;cases hg;exact k _ H (E.lK r) .lK
noncomputable def tGs(X:Cx)(is:List Nat):TGs:=λvs σ H Q=>∃H₀ Bad env ds env',aI X.K H₀ Bad env σ H∧gNs is ds env=some env' ∧b4 X.K (λb=>Cln Bad env σ b∧H b≠none) H ds vs∧∀σ' H',aI X.K H₀ Bad env' σ' H' →Stp env σ H env' σ' H' →Q σ' H'
theorem _root_.L2.PGs.aU{es:List Expr}{t t' :TGs}(h:PGs X es t')(i:∀v σ H Q,t v σ H Q→t' v σ H Q):PGs X es t:=λpins s σ H v u Q I r q=>h pins s σ H v u Q I r (i v σ H Q q)
theorem iJ:PGs X [] (tGs X []):=by
 refine GQ.aU ?_;rintro vs σ H Q ⟨H₀,Bad,env,ds,env',E,hg,r,k⟩;cases ds with
 |nil=>cases hg;exact⟨r.cV,k σ H E .refl⟩
 |cons d ds=>cases hg
theorem bF{es:List Expr}{i:Nat}{is:List Nat}(h1:PGd X e (gN i))(h2:PGs X es (tGs X is))(hs:(assignEach (e::es) X.env).map (·.2)=assign e X.env::(assignEach es X.env).map (·.2):=by rfl):PGs X (e::es) (tGs X (i::is)):=by
 refine(Ek h1 h2 hs).aU ?_;rintro vs σ H Q ⟨H₀,Bad,env,ds,env',E,hg,r,k⟩;cases ds with
 |nil=>cases hg
 |cons d ds=>
  obtain⟨v,vr,rfl,r1,r2⟩:=r.cons_inv;refine⟨v,vr,rfl,H₀,Bad,env,d,_,E,rfl,r1.imp λ_ q=>q.1,λσ1 H1 E1 p1=> ?_⟩;refine⟨H₀,Bad,_,ds,env',E1,hg,r2.gen (λb o hb q=>p1.keep b o hb (by
   rcases q with q|q
   ·exactλ⟨j,w1,w2⟩=>q.1.2 j w1.ol.top w2
   ·exactλw=>E.fQ w hb q)) (λb q hb=> ⟨ud p1 q.1 hb, ?_⟩),λσ2 H2 E2 p2=>k σ2 H2 E2 (p1.trans p2)⟩
  cases o:H b with
  |none=>exact absurd o hb
  |some x=>rw[p1.keep b x o λ⟨j,w1,w2⟩=>q.1.2 j w1.ol.top w2];simp
theorem BS:∀{is:List Nat} {ds:List D} {env env' :Env},gNs is ds env=some env' →ds.length=is.length
 |[],[],_,_,_=>rfl
 |[],_::_,_,_,h=>by cases h
 |_::_,[],_,_,h=>by cases h
 |i::is,d::ds,env,env',h=>by
  have:=BS (is:=is) (ds:=ds) h;simp[this]
theorem kD{es:List Expr}{j n:Nat}{is:List Nat}(hc:X.calm=true)(h:PGs X es (tGs X is))(hn:(assignEach es X.env).length=n:=by rfl)(hst:(assignEach es X.env).findIdx? (·.1)=none:=by rfl)(hl:is.length=n:=by rfl):PGd X (.Tuple es j pos) (gT is):=by
 refine(Ju hc h hn hst).aU ?_;rintro v σ H Q ⟨H₀,Bad,env,d,env',E,hg,r,k⟩;unfold gT at hg;split at hg
 ·rename_i ds;cases r with
  |tup h l r=>
   refine⟨_,_,rfl,SqT.of h,by rw[←l,BS hg,hl],H₀,Bad,env,ds,env',E,hg,⟨l,λi d v e1 e2=>(r i d v e1 e2).gen (.of_same cg) λb q hb=> ⟨q,hb⟩⟩,k⟩
 ·cases hg
end
open PySem PySem.Spec PyProof.Rows L2
section
variable{X:Cx}{e a b c:Expr}{f g h:DE}{t u:DT}{pos:Pos}{st:Stmt}{rest:List Stmt}{s1 s2:DS}
theorem o6{i:Nat}{env:Env}{d:D}(h:ownAt i env=some d):env[i]? =some (some (.own d)):=by
 unfold ownAt at h;split at h
 ·rename_i d' q;cases h;exact q
 ·cases h
theorem o7{K:aE}{F:Addr→Prop}{H:Hp}{ds:List D}{a:Addr}(w:Wr H a)(i:Inn K F H (.lst ds) (.ref a)):∃vs,H a=some (.lst vs)∧b4 K F H ds vs:=by
 cases i with
 |lst h r=>
  rcases h with h| ⟨o,h⟩
  ·exact⟨_,h,r⟩
  ·obtain⟨y,hy,wy⟩:=w;rw[h] at hy;cases hy;exact wy.elim
theorem bY{i:Nat}{x:Str}{px apos cpos:Pos}(hN:X.N[i]? =some x)(hv:Vis X.env.scope x)(he:PEd X e f)(hd:(x==("__debug__":Str))=false:=by decide)(hcd:(x==("__classdict__":Str))=false:=by decide)
  (hs1:starEach [e] X.env=[(false,eval e X.env)]:=by rfl)
  (hbase:attributeBase (.Name x px) "append" X.env (eval (.Name x px) X.env)=eval (.Name x px) X.env:=by rfl)
  (hfew:((backTo cpos (starEach [e] X.env)).all (λx=> !x.1)&&(backToKw cpos (keywordEach [] X.env)).all (λx=>x.1.isSome)
   &&decide (([e]:List Expr).length+([]:List Keyword).length+(if([]:List Keyword).isEmpty then 0 else 1)<30))=true:=by rfl)
  (hline:(apos.endLine==cpos.line)=true:=by rfl)(hs:swapsWith (.Call (.Attribute (.Name x px) "append" apos) [e] [] cpos) none pos.line X.env=pure false:=by rfl):
  PSd X (.Expr (.Call (.Attribute (.Name x px) "append" apos) [e] [] cpos) pos) (mL i f):=by
 refine(qL (BD GcG PySem.F.slot_list_append PySem.F.type_list_append p8 (lB hN hv hd hcd) (a4 he aa hs1) hbase hfew hline hs1 rfl) hs).aU ?_;rintro D σ H ⟨H₀,Bad,env,o,E,e,k⟩;obtain⟨r,hr,e⟩:=bind_some e;obtain⟨d,hd,e⟩:=bind_some e;have q:=o6 hd;split at e
 ·rename_i xs;split at e
  ·rename_i z;rw[Gau] at z;cases e;obtain⟨a,h1,h2,h3,h4,h5,h6⟩:=E.ow i _ (.inl q);obtain⟨vs,hH,rp⟩:=o7 h4 h6;refine⟨_,h1,.inl ⟨rfl,vs,.inl (.inl hH)⟩,H₀,Bad,env,[r],E,by unfold a5 aq;rw[hr];rfl,λws H2 s2 Rs=> ?_⟩;cases Rs with
   | @cons _ v _ _ R1 tl=>
    cases tl;have hH2:=s2 _ _ hH;refine⟨a,vs,v,rfl,rfl,hH2,by rw[←rp.1,←size_eq];exact GaE z.2, ?_⟩;have E2:=E.mono s2;have rep1:=R1.rep E z.1;have rp2:b4 X.K (Cln Bad env σ) H2 (xs++[r.d]) (vs++[v]):=(rp.gen (.of_same s2) λ_ f _=>f).append (.cons rep1 .nil);obtain⟨E3,p3⟩:=E2.change (d' := .lst (xs++[r.d])) (o:= .lst (vs++[v])) q h1 trivial rfl (.lst (.inl aM) (rp2.gen (λb o hb w=>by
     have:b≠a:=by
      rintro rfl;rcases w with w|w
      ·exact w.2 i (by rw[q];trivial) h1
      ·rw[hH2] at hb;cases hb;exact w
     rw[ay this];exact hb) λ_ f _=>f))
    exact k σ _ E3 ((Stp.of_same s2).trans p3)
  ·cases e
 ·cases e
theorem D6{i:Nat}{x:Str}{px apos cpos:Pos}(hN:X.N[i]? =some x)(hv:Vis X.env.scope x)(he:PEd X e f)(hd:(x==("__debug__":Str))=false:=by decide)(hcd:(x==("__classdict__":Str))=false:=by decide)
  (hs1:starEach [e] X.env=[(false,eval e X.env)]:=by rfl)
  (hbase:attributeBase (.Name x px) "extend" X.env (eval (.Name x px) X.env)=eval (.Name x px) X.env:=by rfl)
  (hfew:((backTo cpos (starEach [e] X.env)).all (λx=> !x.1)&&(backToKw cpos (keywordEach [] X.env)).all (λx=>x.1.isSome)
   &&decide (([e]:List Expr).length+([]:List Keyword).length+(if([]:List Keyword).isEmpty then 0 else 1)<30))=true:=by rfl)
  (hline:(apos.endLine==cpos.line)=true:=by rfl)(hs:swapsWith (.Call (.Attribute (.Name x px) "extend" apos) [e] [] cpos) none pos.line X.env=pure false:=by rfl):
  PSd X (.Expr (.Call (.Attribute (.Name x px) "extend" apos) [e] [] cpos) pos) (M6 i f):=by
 refine(qL (BD GcG PySem.F.slot_list_extend PySem.F.type_list_extend CO (lB hN hv hd hcd) (a4 he aa hs1) hbase hfew hline hs1 rfl) hs).aU ?_;rintro D σ H ⟨H₀,Bad,env,o,E,e,k⟩;obtain⟨⟨kd,rd⟩,hr,e⟩:=bind_some e;obtain⟨d,hd,e⟩:=bind_some e;have q:=o6 hd;split at e
 ·rename_i xs ys hrd;have hrd' :rd= .lst ys:=hrd;subst hrd';split at e
  ·rename_i z;rw[Gau] at z;cases e;have hk:kd= .tn:=by have:=z.1;simpa using this
   subst hk;obtain⟨a,h1,h2,h3,h4,h5,h6⟩:=E.ow i _ (.inl q);obtain⟨vs,hH,rp⟩:=o7 h4 h6;refine⟨_,h1,.inl ⟨rfl,vs,.inl (.inl hH)⟩,H₀,Bad,env,[⟨.tn,.lst ys⟩],E,by unfold a5 aq;rw[hr];rfl,λws H2 s2 Rs=> ?_⟩;cases Rs with
   | @cons _ v _ _ R1 tl=>
    cases tl;obtain⟨b,rfl,nb,wb,_,ib⟩:=R1;obtain⟨us,hB,ru⟩:=o7 wb ib;have hH2:=s2 _ _ hH;refine⟨a,b,vs,us,rfl,rfl,hH2,hB,by rw[←rp.1,←ru.1,←size_eq];exact GaE z.2, ?_⟩;have E2:=E.mono s2;have rp2:b4 X.K (Cln Bad env σ) H2 (xs++ys) (vs++us):=(rp.gen (.of_same s2) λ_ f _=>f).append (ru.gen (.of_same cg) λ_ f _=>f.1);obtain⟨E3,p3⟩:=E2.change (d' := .lst (xs++ys)) (o:= .lst (vs++us)) q h1 trivial rfl (.lst (.inl aM) (rp2.gen (λb o hb w=>by
     have:b≠a:=by
      rintro rfl;rcases w with w|w
      ·exact w.2 i (by rw[q];trivial) h1
      ·rw[hH2] at hb;cases hb;exact w
     rw[ay this];exact hb) λ_ f _=>f))
    exact k σ _ E3 ((Stp.of_same s2).trans p3)
  ·cases e
 ·cases e
def Ol(K:aE):List V→Hp→VK→Prop:=λxs H Q=>∃x T t b,xs=[x,.ty T]∧nD K H x (.type t)∧PySem.W.kitOne K (.type t) (.type T)=some b∧Q (.bl b) H
theorem EU:gX X (.builtin "isinstance") (Ol X.K):=by
 intro pins s σ H xs us Q I r h;obtain⟨x,T,t,bb,rfl,ty,hk,q⟩:=h;obtain⟨u,w',rfl,r1,r2⟩:=vals2 r;cases r2;exact CL I r1 ty hk λtk=> ⟨.bl bb,H,I.tok _,rfl,q⟩
def ue(K:aE)(T:String):Prop:=∀t∈["NoneType","bool","int","str","tuple","list","dict"],PySem.W.kitOne K (.type t) (.type T)=some (T==t||(t=="bool"&&T=="int"))
theorem HC{K:aE}{F:Addr→Prop}{H:Hp}{d:D}{x:V}(i:Inn K F H d x)(hs:lH d=false):∃t∈["NoneType","bool","int","str","tuple","list","dict"],nD K H x (.type t)∧∀S,k6 S d=(S==t||(t=="bool"&&S=="int")):=by
 have rdl:∀{a:Addr} {vs:List V},Rd H a (.lst vs)→nD K H (.ref a) (.type "list"):=λh=>by
  rcases h with h| ⟨o,h⟩
  ·exact .lst h
  ·exact .frz h
 cases i with
 |non=>exact⟨"NoneType",by simp,.non,λS=>by simp[k6]⟩
 |bl b=>exact⟨"bool",by simp,.bl b,λS=>by simp[k6]⟩
 |int i=>exact⟨"int",by simp,.int i,λS=>by simp[k6]⟩
 |str x=>exact⟨"str",by simp,.str x,λS=>by simp[k6]⟩
 |tup h r=>exact⟨"tuple",by simp,.tup h,λS=>by simp[k6]⟩
 |lst h r=>exact⟨"list",by simp,rdl h,λS=>by simp[k6]⟩
 |dK h r=>exact⟨"dict",by simp,.dK h,λS=>by simp[k6]⟩
 |dT h r=>exact⟨"dict",by simp,.dT h,λS=>by simp[k6]⟩
 |scr h=>cases hs
theorem rq{T:String}{x:Str}{p p2:Pos}(kit:ue X.K T)(he:PEd X e f)(hg:Gl X "isinstance")(hm:X.mg "isinstance"=none)(hg2:Gl X x)(hm2:X.mg x=none)(hv2:bootBuiltins x=some (.type T))(hn2:x≠"__name__":=by decide)(hd2:(x==("__debug__":Str))=false:=by decide)
  (hs1:starEach [e,.Name x p2] X.env=(false,eval e X.env)::starEach [.Name x p2] X.env:=by rfl)(hs2:starEach [.Name x p2] X.env=(false,eval (.Name x p2) X.env)::starEach [] X.env:=by rfl)(hpl:(backTo pos (starEach [.Name x p2] X.env)).any (·.1)=false:=by rfl):
  PEd X (.Call (.Name "isinstance" p) [e,.Name x p2] [] pos) (bE (CY T f)):=by
 have ht:PE X (.Name x p2) (tC (.ty T)):=GN hg2 hm2 hv2 rfl hn2 hd2;refine(w6 EU hg hm (by decide+kernel) (uQ he (uQ ht AK hs2) hs1) (by decide) (by decide) hs1 hpl).aU ?_;rintro σ H Q ⟨H₀,Bad,env,rv,E,e,k⟩;obtain⟨bb,e',rfl⟩:=Gam.mp e;clear e;have e:=e';clear e';obtain⟨r,hr,e⟩:=bind_some e;split at e
 ·cases e
 ·rename_i hs;cases e;refine⟨H₀,Bad,env,r,E,hr,λv H1 s1 R=> ?_⟩;obtain⟨t,ht,ty,hb⟩:=HC R.inn (by simpa using hs);exact⟨v,T,t,_,rfl,ty,kit t ht,by rw[←hb T];exact k _ H1 s1 (.bl _)⟩
theorem au:∀env rs,aq env=some rs→rs.length=0:=λenv rs h=>by cases h;rfl
theorem a7{r:DA}{n:Nat}(h:∀env rs,r env=some rs→rs.length=n):∀env rs,a5 f r env=some rs→rs.length=n+1:=λenv rs e=>by
 obtain⟨x,_,e⟩:=bind_some e;obtain⟨xs,hx,e⟩:=bind_some e;cases e;rw[GaC,h env xs hx]
theorem aI.start{K:aE}{H:Hp}{N:List Str}{ds:List D}{vs:List V}(hl:ds.length≤N.length)(r:b4 K (λ_=>True) H ds vs):aI K H (λ_=>False) (bz N.length ds) (start N vs) H:=by
 have nt:∀i:Nat,¬bB (bz N.length ds)[i]? :=λi h=>by
  unfold bz at h;by_cases hi:i<ds.length
  ·rw[GaX (by simpa using hi),Gak] at h;cases q:ds[i]? with
   |none=>rw[q] at h;exact h
   |some d=>rw[q] at h;exact h
  ·rw[GaM (by simpa using hi),GcF] at h;split at h<;>exact h
 have no:∀{i:Nat} {s:Slot},(bz N.length ds)[i]? =some (some s)→bB (some (some s))→False:=λ{i s} e h=>nt i (by rw[e];exact h);refine⟨λ_ _ e=>e,by simp[bz,L2.start,r.1],λ_ h=>h.elim,λi d e=> ?_,λi d e=> ?_,λi d e=> ?_,λi j a t _ _ _=>(nt i t.top).elim⟩
 ·unfold bz at e;by_cases hi:i<ds.length
  ·rw[GaX (by simpa using hi),Gak] at e;cases q:ds[i]? with
   |none=>rw[q] at e;cases e
   |some d' =>
    rw[q] at e;have e' :d' =d:=by simpa using e
    subst e';obtain⟨v,h1,h2⟩:=r.get q;refine⟨v, ?_,h2.imp λb _=> ⟨λz=>z,λj t=>(nt j t).elim⟩⟩;unfold L2.start;rw[GaX (by rw[Gaf,←r.1];exact hi),Gak,h1];rfl
  ·rw[GaM (by simpa using hi),GcF] at e;split at e<;>cases e
 ·rcases e with e|e
  ·exact(no e trivial).elim
  ·exact(no e trivial).elim
 ·exact(no e trivial).elim
theorem cA{P:Program}{w:World}{K:aE}{mg:Str→Option Value}{base:Heap}{x qual:Str}{sd:Stmt}{fa:Addr}{fd:FuncData}{N ps:List Str}{k np:Nat}{body:DS}(F:Fun K x qual sd fa fd)(S:aW N ps (aJ sd))(hnp:ps.length=np)
  (hbody:∀(cdv:Value) (A:Around) (outer:List PySem.Env) (s:Shared) (H:Hp) (E:XK),iq k (A.deeper (envOfC qual (aJ sd) s.heap.objs.size fa cdv))→
   lA (AM CX0 P w K mg base N qual (aJ sd) fa cdv A outer s H E).nox (jA sd) body):cw P w K mg base CX0 (k+1) fa fd ps (spD K np (dR N.length np body)):=by
 refine F.ok S (λvs H Q E h=> ?_) λcdv A outer s H vs Q E hr h=> ⟨_,hbody cdv A outer s H E hr, ?_⟩
 ·obtain⟨ds,d,h1,h2,_⟩:=h;rw[←h2.1,h1,hnp]
 ·obtain⟨ds,d,h1,h2,h3,k⟩:=h;unfold dR at h3;rw[Gai h1] at h3;obtain⟨o,ho,h3⟩:=bind_some h3;have hl:ds.length≤N.length:=by
   have:=congrArg List.length S.pre;rw[GcS] at this;omega
  refine⟨H,λ_=>False,bz N.length ds,o,aI.start hl h2,ho, ?_⟩;cases o with
  |ret d' =>cases h3;exactλv H' s' R=>k v H' s' R
  |nx e=>cases h3;exactλσ' H' E' p' =>k .non H' E'.same ⟨λt=>(by cases t),.non⟩
  |bk e=>cases h3
  |ct e=>cases h3
theorem K3{K:aE}{H:Hp}{a:Addr}{ns:List Int}{sp:List D→Option D}{E:XK}(hO:Hl H)(hS:SqL K H a (ns.map V.int))(h:sp [.scr ns]=some (.bl true)):spD K 1 sp [.ref a] H (λv _=>v= .bl true) E:=by
 refine⟨[.scr ns],.bl true,rfl,b4.cons (.scr ?_) .nil,h,λv H' _ R=> ?_⟩
 ·rcases hS with(z|z)|z
  ·rcases hO a with q| ⟨o,xs,q⟩<;>rw[z] at q<;>cases q
  ·exact .inl z
  ·exact .inr z
 ·have i:=R.2;cases i;rfl
end
open PySem PySem.Spec PyProof.Rows L2
theorem plain_all{n:Nat}{ds:List D}(h:ds.all (aA n)=true){i:Nat}{d:D}(e:ds[i]? =some d):aA n d=true:=Gat.mp h d (GaK e)
theorem wB:∀(n:Nat) (d:D),aA n d=true→eqD d d=true:=by
 intro n;induction n with
 |zero=>intro d h;cases d<;>simp[aA] at h<;>simp[eqD]
 |succ n ih=>
  have all:∀ds:List D,ds.all (aA n)=true→lG ds ds=true:=by
   intro ds;induction ds with
   |nil=>intro _;rfl
   |cons d ds ih2=>
    intro h;rw[GbI,Gau] at h;simp[lG,ih d h.1,ih2 h.2]
  intro d h;cases d<;>simp only[aA] at h<;>first
   |(simp[eqD];done)
   |(simp only[eqD];exact all _ h)
   |cases h
theorem lL:∀{ds es:List D},ds.length≠es.length→lG ds es=false
 |[],[],h=>absurd rfl h
 |[],_::_,_=>rfl
 |_::_,[],_=>rfl
 |d::ds,e::es,h=>by
  unfold lG;rw[lL (by simpa using h),GdJ]
theorem je:∀{ds es:List D},ds.length=es.length→(List.range ds.length).all (λj=>eqD (ds.getD j .non) (es.getD j .non))=lG ds es
 |[],[],_=>rfl
 |[],_::_,h=>by simp at h
 |_::_,[],h=>by simp at h
 |d::ds,e::es,h=>by
  have ih:=je (ds:=ds) (es:=es) (by simpa using h);unfold lG;rw[GaC,List.range_succ_eq_map,GbI,GbF,←ih]
  rfl
section
variable{X:Cx}{pins:List (Addr×Obj)}{σ:St}{H:Hp}{s:Shared}
theorem BU{K:aE}{F G:Addr→Prop}:∀(n:Nat) {d d' :D} {v:V},aA n d=true→aA n d' =true→Rep K F H d v→Rep K G H d' v→d=d' :=by
 intro n;induction n with
 |zero=>intro d d' v h1 h2 r1 r2;cases r1<;>simp[aA] at h1<;>cases r2<;>simp[aA] at h2<;>rfl
 |succ n ih=>
  have all:∀{ds es:List D} {vs:List V},ds.all (aA n)=true→es.all (aA n)=true→ds.length=vs.length→es.length=vs.length→(∀(i:Nat) d v,ds[i]? =some d→vs[i]? =some v→Rep K F H d v)→(∀(i:Nat) d v,es[i]? =some d→vs[i]? =some v→Rep K G H d v)→ds=es:=by
   intro ds es vs p1 p2 l1 l2 r1 r2;apply Gdk;intro i;by_cases hi:i<vs.length
   ·have e1:ds[i]? =some ds[i]:=by simp[l1,hi]
    have e2:es[i]? =some es[i]:=by simp[l2,hi]
    have e3:vs[i]? =some vs[i]:=by simp[hi]
    rw[e1,e2,ih (plain_all p1 e1) (plain_all p2 e2) (r1 i _ _ e1 e3) (r2 i _ _ e2 e3)]
   ·rw[Gbr (by omega),Gbr (by omega)]
  intro d d' v h1 h2 r1 r2;cases r1 with
  |non=>cases r2;rfl
  |bl b=>cases r2;rfl
  |int i=>cases r2;rfl
  |str x=>cases r2;rfl
  |scr h=>simp[aA] at h1
  |dK f h l r=>simp[aA] at h1
  |dT f h l r=>simp[aA] at h1
  |tup h l r=>
   cases r2 with
   |tup h' l' r' =>
    rw[h] at h';cases h'
    rw[all (by simpa[aA] using h1) (by simpa[aA] using h2) l l' r r']
   |lst f h' l' r' =>rcases h' with h' | ⟨o,h'⟩<;>rw[h] at h' <;>cases h'
   |scr h' =>simp[aA] at h2
   |dK f h' l r=>simp[aA] at h2
   |dT f h' l r=>simp[aA] at h2
  |lst f h l r=>
   cases r2 with
   |tup h' l' r' =>rcases h with h| ⟨o,h⟩<;>rw[h] at h' <;>cases h'
   |lst f' h' l' r' =>
    have:∀{xs ys:List V} {a:Addr},Rd H a (.lst xs)→Rd H a (.lst ys)→xs=ys:=λz1 z2=>by
     rcases z1 with z1| ⟨o,z1⟩<;>rcases z2 with z2| ⟨o',z2⟩<;>rw[z1] at z2<;>cases z2<;>rfl
    cases this h h';rw[all (by simpa[aA] using h1) (by simpa[aA] using h2) l l' r r']
   |scr h' =>simp[aA] at h2
   |dK f h' l r=>simp[aA] at h2
   |dT f h' l r=>simp[aA] at h2
theorem item_at{ds:List D}{vs:List V}{its:List Value}{K:aE}{F:Addr→Prop}(l:ds.length=vs.length)(r:∀(i:Nat) d v,ds[i]? =some d→vs[i]? =some v→Rep K F H d v)(rv:Vals vs its){j:Nat}(h:j<its.toArray.size):
  ∃d v,ds[j]? =some d∧ds.getD j .non=d∧Rep K F H d v∧RelV v its.toArray[j]:=by
 have hj:j<its.length:=by simpa using h
 have hv:j<vs.length:=by rw[rv.length];exact hj
 have hd:j<ds.length:=by rw[l];exact hv
 obtain⟨u,e1,e2⟩:=rv.get (i:=j) (x:=vs[j]) (by simp[hv]);refine⟨ds[j],vs[j],by simp[hd],by simp[hd],r j _ _ (by simp[hd]) (by simp[hv]), ?_⟩;have:its.toArray[j]=u:=by
  have:=e1;simp[hj] at this
  simpa using this
 rw[this];exact e2
theorem in1_units{A:Around}{n:Nat}(h:A.units+(n+1)<cLine):A.in1.units+n<cLine:=by
 show A.units+1+n<_;omega
theorem wC(I:Inv X pins σ H s){F G:Addr→Prop}:∀(n:Nat) {dx dy:D} {x y:V} {v u:Value} {A:Around},aA n dx=true→aA n dy=true→Rep X.K F H dx x→Rep X.K G H dy y→RelV x v→RelV y u→A.units+n<cLine→SeqAt.EqAt A s v u (eqD dx dy):=by
 have flat:∀{dx dy:D} {x y:V} {v u:Value} {A:Around},Rep X.K F H dx x→Rep X.K G H dy y→RelV x v→RelV y u→tU x=true→tU y=true→SeqAt.EqAt A s v u (eqD dx dy):=by
  intro dx dy x y v u A r1 r2 rv ru fx fy;have e:eqD dx dy=eqV x y:=by
   cases r1<;>cases r2<;>first|rfl|(simp[tU] at fx)|(simp[tU] at fy)
  rw[e];exact JN rv ru fx fy
 intro n;induction n with
 |zero=>
  intro dx dy x y v u A p1 p2 r1 r2 rv ru hu;refine flat r1 r2 rv ru ?_ ?_
  ·cases r1<;>first|rfl|(simp[aA] at p1)
  ·cases r2<;>first|rfl|(simp[aA] at p2)
 |succ n ih=>
  intro dx dy x y v u A p1 p2 r1 r2 rv ru hu;have hu0:A.units<cLine:=by omega
  cases r1 with
  |scr h=>simp[aA] at p1
  |dK f h l r=>simp[aA] at p1
  |dT f h l r=>simp[aA] at p1
  | @tup a vs1 ds1 h l r=>
   cases rv;obtain⟨its,rvs,ht,_⟩:=I.tuple (SqT.of h);cases r2 with
   |scr h' =>simp[aA] at p2
   |dK f h' l r=>simp[aA] at p2
   |dT f h' l r=>simp[aA] at p2
   |non=>cases ru;exact SeqAt.EqAt.tuple_none ht hu0
   |bl b=>cases ru;exact SeqAt.EqAt.tuple_bool b ht hu0
   |int i=>obtain⟨t,rfl⟩:=ru;exact SeqAt.EqAt.tuple_int i t ht hu0
   |str z=>obtain⟨t,rfl⟩:=ru;exact SeqAt.EqAt.tuple_str z t ht hu0
   |lst f' h' l' r' =>
    cases ru;obtain⟨its2,rvs2,pl,_⟩:=I.list (.inl h');exact SeqAt.EqAt.tuple_list ht pl.isList hu0
   | @tup b vs2 ds2 h' l' r' =>
    cases ru;by_cases hab:a=b
    ·subst hab;have:=BU (n+1) p1 p2 (Rep.tup h l r) (Rep.tup h' l' r');rw[←this,wB _ _ p1];exact SeqAt.EqAt.same _
    ·obtain⟨its2,rvs2,ht2,_⟩:=I.tuple (SqT.of h');have hs1:its.toArray.size=ds1.length:=by rw[Gan,←rvs.length,l]
     have hs2:its2.toArray.size=ds2.length:=by rw[Gan,←rvs2.length,l']
     have key:=SeqAt.RcAt.tuples (e:=λj=>eqD (ds1.getD j .non) (ds2.getD j .non)) ht ht2 hu0 λj h1 h2=>by
      obtain⟨d1,v1,q1,q2,q3,q4⟩:=item_at l r rvs h1;obtain⟨d2,v2,w1,w2,w3,w4⟩:=item_at l' r' rvs2 h2;rw[q2,w2];exact ih (plain_all (by simpa[aA] using p1) q1) (plain_all (by simpa[aA] using p2) w1) q3 w3 q4 w4 (in1_units hu)
     refine SeqAt.EqAt.of_refs hab ?_;show SeqAt.RcAt A s (.ref a) (.ref b) (lG ds1 ds2);rw[hs1,hs2] at key;by_cases hl:ds1.length=ds2.length
     ·rw[←hl,GdT,je hl] at key
      simpa using key
     ·rw[lL hl];have:(ds1.length==ds2.length)=false:=by simpa using hl
      rw[this,GdJ] at key;exact key
  | @lst a vs1 ds1 f h l r=>
   cases rv;obtain⟨its,rvs,pl,_⟩:=I.list (.inl h);have ht:=pl.isList;cases r2 with
   |scr h' =>simp[aA] at p2
   |dK f h' l r=>simp[aA] at p2
   |dT f h' l r=>simp[aA] at p2
   |non=>cases ru;exact SeqAt.EqAt.list_none ht hu0
   |bl b=>cases ru;exact SeqAt.EqAt.list_bool b ht hu0
   |int i=>obtain⟨t,rfl⟩:=ru;exact SeqAt.EqAt.list_int i t ht hu0
   |str z=>obtain⟨t,rfl⟩:=ru;exact SeqAt.EqAt.list_str z t ht hu0
   |tup h' l' r' =>
    cases ru;obtain⟨its2,rvs2,ht2,_⟩:=I.tuple (SqT.of h');exact SeqAt.EqAt.list_tuple ht ht2 hu0
   | @lst b vs2 ds2 f' h' l' r' =>
    cases ru;by_cases hab:a=b
    ·subst hab;have:=BU (n+1) p1 p2 (Rep.lst f h l r) (Rep.lst f' h' l' r');rw[←this,wB _ _ p1];exact SeqAt.EqAt.same _
    ·obtain⟨its2,rvs2,pl2,_⟩:=I.list (.inl h');have ht2:=pl2.isList;have hs1:its.toArray.size=ds1.length:=by rw[Gan,←rvs.length,l]
     have hs2:its2.toArray.size=ds2.length:=by rw[Gan,←rvs2.length,l']
     refine SeqAt.EqAt.of_refs hab ?_;show SeqAt.RcAt A s (.ref a) (.ref b) (lG ds1 ds2);by_cases hl:ds1.length=ds2.length
     ·have key:=SeqAt.RcAt.lists (e:=λj=>eqD (ds1.getD j .non) (ds2.getD j .non)) ht ht2 (by rw[hs1,hs2,hl]) hu0 λj h1 h2=>by
       obtain⟨d1,v1,q1,q2,q3,q4⟩:=item_at l r rvs h1;obtain⟨d2,v2,w1,w2,w3,w4⟩:=item_at l' r' rvs2 h2;rw[q2,w2];exact ih (plain_all (by simpa[aA] using p1) q1) (plain_all (by simpa[aA] using p2) w1) q3 w3 q4 w4 (in1_units hu)
      rw[hs1,je hl] at key;exact key
     ·rw[lL hl];exact SeqAt.RcAt.lists_lengths ht ht2 (by rw[hs1,hs2];simpa using hl) hu0
  |non=>
   cases rv;cases r2 with
   |scr h' =>simp[aA] at p2
   |dK f h' l r=>simp[aA] at p2
   |dT f h' l r=>simp[aA] at p2
   |tup h' l' r' =>cases ru;obtain⟨its2,rvs2,ht2,_⟩:=I.tuple (SqT.of h');exact SeqAt.EqAt.none_tuple ht2 hu0
   |lst f' h' l' r' =>cases ru;obtain⟨its2,rvs2,pl2,_⟩:=I.list (.inl h');exact SeqAt.EqAt.none_list pl2.isList hu0
   |_=>exact flat .non (by first|exact .non|exact .bl _|exact .int _|exact .str _) rfl ru rfl rfl
  |bl b=>
   cases r2 with
   |scr h' =>simp[aA] at p2
   |dK f h' l r=>simp[aA] at p2
   |dT f h' l r=>simp[aA] at p2
   |tup h' l' r' =>cases rv;cases ru;obtain⟨its2,rvs2,ht2,_⟩:=I.tuple (SqT.of h');exact SeqAt.EqAt.bool_tuple b ht2 hu0
   |lst f' h' l' r' =>cases rv;cases ru;obtain⟨its2,rvs2,pl2,_⟩:=I.list (.inl h');exact SeqAt.EqAt.bool_list b pl2.isList hu0
   |_=>exact flat (.bl b) (by first|exact .non|exact .bl _|exact .int _|exact .str _) rv ru rfl rfl
  |int i=>
   cases r2 with
   |scr h' =>simp[aA] at p2
   |dK f h' l r=>simp[aA] at p2
   |dT f h' l r=>simp[aA] at p2
   |tup h' l' r' =>obtain⟨t,rfl⟩:=rv;cases ru;obtain⟨its2,rvs2,ht2,_⟩:=I.tuple (SqT.of h');exact SeqAt.EqAt.int_tuple i t ht2 hu0
   |lst f' h' l' r' =>obtain⟨t,rfl⟩:=rv;cases ru;obtain⟨its2,rvs2,pl2,_⟩:=I.list (.inl h');exact SeqAt.EqAt.int_list i t pl2.isList hu0
   |_=>exact flat (.int i) (by first|exact .non|exact .bl _|exact .int _|exact .str _) rv ru rfl rfl
  |str z=>
   cases r2 with
   |scr h' =>simp[aA] at p2
   |dK f h' l r=>simp[aA] at p2
   |dT f h' l r=>simp[aA] at p2
   |tup h' l' r' =>obtain⟨t,rfl⟩:=rv;cases ru;obtain⟨its2,rvs2,ht2,_⟩:=I.tuple (SqT.of h');exact SeqAt.EqAt.str_tuple z t ht2 hu0
   |lst f' h' l' r' =>obtain⟨t,rfl⟩:=rv;cases ru;obtain⟨its2,rvs2,pl2,_⟩:=I.list (.inl h');exact SeqAt.EqAt.str_list z t pl2.isList hu0
   |_=>exact flat (.str z) (by first|exact .non|exact .bl _|exact .int _|exact .str _) rv ru rfl rfl
theorem wD(I:Inv X pins σ H s){F G:Addr→Prop}{n:Nat}{dx dy:D}{x y:V}{v u:Value}{A:Around}(p1:aA n dx=true)(p2:aA n dy=true)(r1:Rep X.K F H dx x)(r2:Rep X.K G H dy y)(rv:RelV x v)(ru:RelV y u)(hu:A.units+n<cLine):
  SeqAt.RcAt A s v u (eqD dx dy)∧SeqAt.RcNeAt A s v u (!eqD dx dy):=by
 have hu0:A.units<cLine:=by omega
 have tupAt:∀{a:Addr} {vs:List V},H a=some (.tup vs)→∃its:List Value,s.heap.IsTuple a its.toArray:=λh=>let⟨its,_,ht,_⟩:=I.tuple (SqT.of h);⟨its,ht⟩
 have lstAt:∀{a:Addr} {vs:List V},Rd H a (.lst vs)→∃its:List Value,s.heap.IsList a its.toArray:=λh=>let⟨its,_,pl,_⟩:=I.list (.inl h);⟨its,pl.isList⟩
 cases r1 with
 |scr h=>cases n<;>simp[aA] at p1
 |dK f h l r=>cases n<;>simp[aA] at p1
 |dT f h l r=>cases n<;>simp[aA] at p1
 |non=>
  cases rv;cases r2 with
  |scr h' =>cases n<;>simp[aA] at p2
  |dK f h' l r=>cases n<;>simp[aA] at p2
  |dT f h' l r=>cases n<;>simp[aA] at p2
  |non=>cases ru;exact⟨.none_none,.none_none⟩
  |bl b=>cases ru;exact⟨.none_bool b,.none_bool b⟩
  |int i=>obtain⟨t,rfl⟩:=ru;exact⟨.none_int i t,.none_int i t⟩
  |str z=>obtain⟨t,rfl⟩:=ru;exact⟨.none_str z t,.none_str z t⟩
  |tup h' l' r' =>cases ru;obtain⟨its,ht⟩:=tupAt h';exact⟨.none_tuple ht hu0,.none_tuple ht hu0⟩
  |lst f' h' l' r' =>cases ru;obtain⟨its,ht⟩:=lstAt h';exact⟨.none_list ht hu0,.none_list ht hu0⟩
 |bl b=>
  cases rv;cases r2 with
  |scr h' =>cases n<;>simp[aA] at p2
  |dK f h' l r=>cases n<;>simp[aA] at p2
  |dT f h' l r=>cases n<;>simp[aA] at p2
  |non=>cases ru;exact⟨.bool_none b,.bool_none b⟩
  |bl b' =>cases ru;exact⟨.bool_bool b b',.bool_bool b b'⟩
  |int i=>obtain⟨t,rfl⟩:=ru;exact⟨.bool_int b i t,.bool_int b i t⟩
  |str z=>obtain⟨t,rfl⟩:=ru;exact⟨.bool_str b z t,.bool_str b z t⟩
  |tup h' l' r' =>cases ru;obtain⟨its,ht⟩:=tupAt h';exact⟨.bool_tuple b ht hu0,.bool_tuple b ht hu0⟩
  |lst f' h' l' r' =>cases ru;obtain⟨its,ht⟩:=lstAt h';exact⟨.bool_list b ht hu0,.bool_list b ht hu0⟩
 |int i=>
  obtain⟨t,rfl⟩:=rv;cases r2 with
  |scr h' =>cases n<;>simp[aA] at p2
  |dK f h' l r=>cases n<;>simp[aA] at p2
  |dT f h' l r=>cases n<;>simp[aA] at p2
  |non=>cases ru;exact⟨.int_none i t,.int_none i t⟩
  |bl b' =>cases ru;exact⟨.int_bool i t b',.int_bool i t b'⟩
  |int j=>obtain⟨t',rfl⟩:=ru;exact⟨.int_int i t j t',.int_int i t j t'⟩
  |str z=>obtain⟨t',rfl⟩:=ru;exact⟨.int_str i t z t',.int_str i t z t'⟩
  |tup h' l' r' =>cases ru;obtain⟨its,ht⟩:=tupAt h';exact⟨.int_tuple i t ht hu0,.int_tuple i t ht hu0⟩
  |lst f' h' l' r' =>cases ru;obtain⟨its,ht⟩:=lstAt h';exact⟨.int_list i t ht hu0,.int_list i t ht hu0⟩
 |str z=>
  obtain⟨t,rfl⟩:=rv;cases r2 with
  |scr h' =>cases n<;>simp[aA] at p2
  |dK f h' l r=>cases n<;>simp[aA] at p2
  |dT f h' l r=>cases n<;>simp[aA] at p2
  |non=>cases ru;exact⟨.str_none z t,.str_none z t⟩
  |bl b' =>cases ru;exact⟨.str_bool z t b',.str_bool z t b'⟩
  |int j=>obtain⟨t',rfl⟩:=ru;exact⟨.str_int z t j t',.str_int z t j t'⟩
  |str z' =>obtain⟨t',rfl⟩:=ru;exact⟨.str_str z t z' t',.str_str z t z' t'⟩
  |tup h' l' r' =>cases ru;obtain⟨its,ht⟩:=tupAt h';exact⟨.str_tuple z t ht hu0,.str_tuple z t ht hu0⟩
  |lst f' h' l' r' =>cases ru;obtain⟨its,ht⟩:=lstAt h';exact⟨.str_list z t ht hu0,.str_list z t ht hu0⟩
 | @tup a vs1 ds1 h l r=>
  cases n with
  |zero=>simp[aA] at p1
  |succ n=>
   cases rv;obtain⟨its,rvs,ht,_⟩:=I.tuple (SqT.of h);cases r2 with
   |scr h' =>simp[aA] at p2
   |dK f h' l r=>simp[aA] at p2
   |dT f h' l r=>simp[aA] at p2
   |non=>cases ru;exact⟨.tuple_none ht hu0,.tuple_none ht hu0⟩
   |bl b=>cases ru;exact⟨.tuple_bool b ht hu0,.tuple_bool b ht hu0⟩
   |int i=>obtain⟨t,rfl⟩:=ru;exact⟨.tuple_int i t ht hu0,.tuple_int i t ht hu0⟩
   |str z=>obtain⟨t,rfl⟩:=ru;exact⟨.tuple_str z t ht hu0,.tuple_str z t ht hu0⟩
   |lst f' h' l' r' =>cases ru;obtain⟨its2,ht2⟩:=lstAt h';exact⟨.tuple_list ht ht2 hu0,.tuple_list ht ht2 hu0⟩
   | @tup b vs2 ds2 h' l' r' =>
    cases ru;obtain⟨its2,rvs2,ht2,_⟩:=I.tuple (SqT.of h');have hs1:its.toArray.size=ds1.length:=by rw[Gan,←rvs.length,l]
    have hs2:its2.toArray.size=ds2.length:=by rw[Gan,←rvs2.length,l']
    have items:∀j (h1:j<its.toArray.size) (h2:j<its2.toArray.size),SeqAt.EqAt A.in1 s its.toArray[j] its2.toArray[j] ((λj=>eqD (ds1.getD j .non) (ds2.getD j .non)) j):=λj h1 h2=>by
     obtain⟨d1,v1,q1,q2,q3,q4⟩:=item_at l r rvs h1;obtain⟨d2,v2,w1,w2,w3,w4⟩:=item_at l' r' rvs2 h2;dsimp only;rw[q2,w2];exact wC I n (plain_all (by simpa[aA] using p1) q1) (plain_all (by simpa[aA] using p2) w1) q3 w3 q4 w4 (in1_units hu)
    have k1:=SeqAt.RcAt.tuples ht ht2 hu0 items;have k2:=SeqAt.RcNeAt.tuples ht ht2 hu0 items;have e:((List.range (min its.toArray.size its2.toArray.size)).all (λj=>eqD (ds1.getD j .non) (ds2.getD j .non))&&its.toArray.size==its2.toArray.size)=lG ds1 ds2:=by
     rw[hs1,hs2];by_cases hl:ds1.length=ds2.length
     ·rw[←hl,GdT,je hl];simp
     ·rw[lL hl];have:(ds1.length==ds2.length)=false:=by simpa using hl
      rw[this,GdJ]
    rw[e] at k1 k2;exact⟨k1,k2⟩
 | @lst a vs1 ds1 f h l r=>
  cases n with
  |zero=>simp[aA] at p1
  |succ n=>
   cases rv;obtain⟨its,rvs,pl,_⟩:=I.list (.inl h);have ht:=pl.isList;cases r2 with
   |scr h' =>simp[aA] at p2
   |dK f h' l r=>simp[aA] at p2
   |dT f h' l r=>simp[aA] at p2
   |non=>cases ru;exact⟨.list_none ht hu0,.list_none ht hu0⟩
   |bl b=>cases ru;exact⟨.list_bool b ht hu0,.list_bool b ht hu0⟩
   |int i=>obtain⟨t,rfl⟩:=ru;exact⟨.list_int i t ht hu0,.list_int i t ht hu0⟩
   |str z=>obtain⟨t,rfl⟩:=ru;exact⟨.list_str z t ht hu0,.list_str z t ht hu0⟩
   |tup h' l' r' =>cases ru;obtain⟨its2,ht2⟩:=tupAt h';exact⟨.list_tuple ht ht2 hu0,.list_tuple ht ht2 hu0⟩
   | @lst b vs2 ds2 f' h' l' r' =>
    cases ru;obtain⟨its2,rvs2,pl2,_⟩:=I.list (.inl h');have ht2:=pl2.isList;have hs1:its.toArray.size=ds1.length:=by rw[Gan,←rvs.length,l]
    have hs2:its2.toArray.size=ds2.length:=by rw[Gan,←rvs2.length,l']
    have items:∀j (h1:j<its.toArray.size) (h2:j<its2.toArray.size),SeqAt.EqAt A.in1 s its.toArray[j] its2.toArray[j] ((λj=>eqD (ds1.getD j .non) (ds2.getD j .non)) j):=λj h1 h2=>by
     obtain⟨d1,v1,q1,q2,q3,q4⟩:=item_at l r rvs h1;obtain⟨d2,v2,w1,w2,w3,w4⟩:=item_at l' r' rvs2 h2;dsimp only;rw[q2,w2];exact wC I n (plain_all (by simpa[aA] using p1) q1) (plain_all (by simpa[aA] using p2) w1) q3 w3 q4 w4 (in1_units hu)
    show SeqAt.RcAt A s (.ref a) (.ref b) (lG ds1 ds2)∧SeqAt.RcNeAt A s (.ref a) (.ref b) (!lG ds1 ds2);by_cases hl:ds1.length=ds2.length
    ·have k1:=SeqAt.RcAt.lists ht ht2 (by rw[hs1,hs2,hl]) hu0 items;have k2:=SeqAt.RcNeAt.lists ht ht2 (by rw[hs1,hs2,hl]) hu0 items;rw[hs1,je hl] at k1 k2;exact⟨k1,k2⟩
    ·rw[lL hl];exact⟨SeqAt.RcAt.lists_lengths ht ht2 (by rw[hs1,hs2];simpa using hl) hu0,SeqAt.RcNeAt.lists_lengths ht ht2 (by rw[hs1,hs2];simpa using hl) hu0⟩
end
section
variable{X:Cx}
noncomputable def HE(K:aE)(neg:Bool):R2:=λx y H Q=>∃F dx dy,Inn K F H dx x∧Inn K F H dy y∧dx.plain=true∧dy.plain=true∧Q (.bl (if neg then !eqD dx dy else eqD dx dy)) H
theorem bO(hu:X.A.units+20<cLine):OpR X (compareOp .Eq) (HE X.K false):=by
 intro pins s σ H x y v u Q I rx ry h;obtain⟨F,dx,dy,i1,i2,p1,p2,q⟩:=h;exact(wD I (n:=20) p1 p2 i1.any i2.any rx ry hu).1 X.prog X.w _ _ ⟨.bl (eqD dx dy),H,I,rfl,q⟩
theorem EV(hu:X.A.units+20<cLine):OpR X (compareOp .NotEq) (HE X.K true):=by
 intro pins s σ H x y v u Q I rx ry h;obtain⟨F,dx,dy,i1,i2,p1,p2,q⟩:=h;exact(wD I (n:=20) p1 p2 i1.any i2.any rx ry hu).2 X.prog X.w _ _ ⟨.bl (!eqD dx dy),H,I,rfl,q⟩
theorem bP:OpB X eqB (HE X.K false):=by
 intro F H dx dy x y b Q ix iy e q;unfold eqB at e;split at e
 ·rename_i z;rw[Gau] at z;cases e;exact⟨F,dx,dy,ix,iy,z.1,z.2,q⟩
 ·cases e
theorem EW:OpB X neB (HE X.K true):=by
 intro F H dx dy x y b Q ix iy e q;unfold neB at e;split at e
 ·rename_i z;rw[Gau] at z;cases e;exact⟨F,dx,dy,ix,iy,z.1,z.2,q⟩
 ·cases e
theorem bQ{A:Around}{k:Nat}(hr:iq k A):A.units+20<cLine:=Gda (Nat.add_le_add_left (by decide:20≤64) _) hr.units
theorem gf:bootBuiltins "len"=some (.builtin "len"):=by decide+kernel
theorem EX:bootBuiltins "min"=some (.builtin "min"):=by decide+kernel
theorem EY:bootBuiltins "max"=some (.builtin "max"):=by decide+kernel
theorem K4:bootBuiltins "any"=some (.builtin "any"):=by decide+kernel
theorem j4:bootBuiltins "sorted"=some (.builtin "sorted"):=by decide+kernel
theorem K5:bootBuiltins "int"=some (.type "int"):=by decide+kernel
theorem HF:bootBuiltins "bool"=some (.type "bool"):=by decide+kernel
theorem K6:bootBuiltins "str"=some (.type "str"):=by decide+kernel
theorem i5:bootBuiltins "tuple"=some (.type "tuple"):=by decide+kernel
theorem BV:bootBuiltins "list"=some (.type "list"):=by decide+kernel
theorem vc:bootBuiltins "enumerate"=some (.type "enumerate"):=by decide+kernel
theorem HG{K:aE}:ue K "int":=by
 intro t ht;simp only[Gay,GcC,or_false] at ht;rcases ht with rfl|rfl|rfl|rfl|rfl|rfl|rfl<;>rfl
theorem HH{K:aE}:ue K "str":=by
 intro t ht;simp only[Gay,GcC,or_false] at ht;rcases ht with rfl|rfl|rfl|rfl|rfl|rfl|rfl<;>rfl
theorem kit_tuple{K:aE}:ue K "tuple":=by
 intro t ht;simp only[Gay,GcC,or_false] at ht;rcases ht with rfl|rfl|rfl|rfl|rfl|rfl|rfl<;>rfl
theorem EZ{K:aE}:ue K "list":=by
 intro t ht;simp only[Gay,GcC,or_false] at ht;rcases ht with rfl|rfl|rfl|rfl|rfl|rfl|rfl<;>rfl
theorem F4{K:aE}:ue K "bool":=by
 intro t ht;simp only[Gay,GcC,or_false] at ht;rcases ht with rfl|rfl|rfl|rfl|rfl|rfl|rfl<;>rfl
end
open PySem PySem.Spec PyProof.Rows L2
section
variable{X:Cx}{sts:List Stmt}{f:DS}
theorem a8(i:Nat)(x:Str)(k:(∀pos,PEd X (.Name x pos) (vE i))→lA X sts f)(hN:X.N[i]? =some x:=by rfl)(hv:Vis X.env.scope x:=by first|exact Or.inl rfl|exact Or.inr (Or.inl rfl)|exact Or.inr (Or.inr rfl))(hd:(x==("__debug__":Str))=false:=by decide)
  (hcd:(x==("__classdict__":Str))=false:=by decide):lA X sts f:=k λ_=>dw i hN hv hd hcd
theorem af(i:Nat)(x:Str)(k:Loc X.env.scope x→lA X sts f)(hx:Loc X.env.scope x:=by first|exact Or.inl rfl|exact Or.inr rfl):lA X sts f:=k hx
theorem f7(i:Nat)(x:Str)(k:Vis X.env.scope x→lA X sts f)(hv:Vis X.env.scope x:=by first|exact Or.inl rfl|exact Or.inr (Or.inl rfl)|exact Or.inr (Or.inr rfl)):lA X sts f:=k hv
theorem aC(x:Str)(k:Gl X x→lA X sts f)(hg:Gl X x:=by rfl):lA X sts f:=k hg
end
open PySem PySem.Spec PyProof.Rows L2
theorem nJ{env:PySem.Env}:∀(names:List (Str×NameKind)),(∀y∈names,y.2= .free→∃c,env.cells.lookup y.1=some c)→∀(cs:List (Str×Addr)),(∀n c,cs.lookup n=some c→env.cells.lookup n=some c)→
  ∃cl:List (Str×Addr),(forIn names cs λx r=>(do
    if(x.2==NameKind.free)=true then pure (ForInStep.yield ((x.1,←cellOf env x.1)::r)) else pure (ForInStep.yield r):Sem (ForInStep (List (Str×Addr)))))=pure cl∧
   (∀n c,cl.lookup n=some c→env.cells.lookup n=some c)∧(∀y∈names,y.2= .free→∃c,cl.lookup y.1=some c)∧∀n c,cs.lookup n=some c→∃c',cl.lookup n=some c'
 |[],_,cs,h=>by
  refine⟨cs,rfl,h, ?_,λn c e=> ⟨c,e⟩⟩;intro y hy;cases hy
 |(x,k)::names,hf,cs,h=>by
  by_cases hk:k= .free
  ·subst hk;obtain⟨c,hc⟩:=hf (x,.free) Gao rfl;have hcell:cellOf env x=pure c:=by unfold cellOf;rw[hc]<;>rfl
   obtain⟨cl,h1,h2,h3,h4⟩:=nJ names (λy hy=>hf y (Gaj _ hy)) ((x,c)::cs) (λn c' e=>by
    by_cases z:n=x
    ·subst z;simp[Gbe] at e;subst e;exact hc
    ·have z' :(n==x)=false:=by simpa using z
     simp[Gbe,z'] at e;exact h n c' e)
   refine⟨cl, ?_,h2,λy hy hyf=> ?_,λn c' e=> ?_⟩
   ·rw[List.forIn_cons];simp only[hcell];exact h1
   ·rcases Gay.mp hy with rfl|hy
    ·exact h4 x c (by simp[Gbe])
    ·exact h3 y hy hyf
   ·by_cases z:n=x
    ·subst z;exact h4 n c (by simp[Gbe])
    ·have z' :(n==x)=false:=by simpa using z
     exact h4 n c' (by simp[Gbe,z',e])
  ·have hk' :(k==NameKind.free)=false:=by simpa using hk
   obtain⟨cl,h1,h2,h3,h4⟩:=nJ names (λy hy=>hf y (Gaj _ hy)) cs h;refine⟨cl, ?_,h2,λy hy hyf=> ?_,h4⟩
   ·rw[List.forIn_cons];simp only[hk'];exact h1
   ·rcases Gay.mp hy with rfl|hy
    ·exact absurd hyf hk
    ·exact h3 y hy hyf
theorem mT{env:PySem.Env}{scope:Scope}(hf:∀y∈scope.names,y.2= .free→∃c,env.cells.lookup y.1=some c):
  ∃cl:List (Str×Addr),closureFor scope env=pure cl∧(∀n c,cl.lookup n=some c→env.cells.lookup n=some c)∧∀y∈scope.names,y.2= .free→∃c,cl.lookup y.1=some c:=by
 obtain⟨cl,h1,h2,h3,_⟩:=nJ scope.names hf [] (λn c e=>by simp at e);refine⟨cl, ?_,h2,h3⟩;unfold closureFor;exact(congrArg (λm=>m>>=pure) h1).trans (by rfl)
theorem mem_of_lookup{x:Str}{k:NameKind}:∀{l:List (Str×NameKind)},l.lookup x=some k→(x,k)∈l
 |[],h=>by simp at h
 |(n,k')::r,h=>by
  rw[Gbe] at h;cases hx:x==n with
  |true=>rw[hx] at h;cases h;rw[GcT] at hx;subst hx;exact Gao
  |false=>rw[hx] at h;exact Gaj _ (mem_of_lookup h)
theorem nK{env:PySem.Env}{x:Str}:∀{names:List (Str×NameKind)},(∀y∈names,y.2≠ .cell)→((names.map λ(n,k)=>if(k==NameKind.free&&env.scope.kind== .function&&env.kindOf n==some .cell) then(n,NameKind.cell) else(n,k)).lookup x=some .cell∨
   (names.map λ(n,k)=>if(k==NameKind.free&&env.scope.kind== .function&&env.kindOf n==some .cell) then(n,NameKind.cell) else(n,k)).lookup x=some .free)→(x,NameKind.free)∈names
 |[],_,h=>by simp at h
 |(n,k)::r,hc,h=>by
  have hk:k≠ .cell:=hc (n,k) Gao;rw[Gap] at h;dsimp only at h;split at h
  ·rename_i q;have q1:k= .free:=by
    rw[Gau,Gau] at q
    simpa using q.1.1
   subst q1;rw[Gbe] at h;cases hx:x==n with
   |true=>rw[GcT] at hx;subst hx;exact Gao
   |false=>rw[hx] at h;exact Gaj _ (nK (λy hy=>hc y (Gaj _ hy)) h)
  ·rw[Gbe] at h;cases hx:x==n with
   |true=>
    rw[hx] at h;rw[GcT] at hx;subst hx
    rcases h with h|h
    ·cases h;exact absurd rfl hk
    ·cases h;exact Gao
   |false=>rw[hx] at h;exact Gaj _ (nK (λy hy=>hc y (Gaj _ hy)) h)
theorem iK{env:PySem.Env}{x:Str}:∀{names:List (Str×NameKind)},names.lookup x=some .free→((names.map λ(n,k)=>if(k==NameKind.free&&env.scope.kind== .function&&env.kindOf n==some .cell) then(n,NameKind.cell) else(n,k)).lookup x=some .cell∨
   (names.map λ(n,k)=>if(k==NameKind.free&&env.scope.kind== .function&&env.kindOf n==some .cell) then(n,NameKind.cell) else(n,k)).lookup x=some .free)
 |[],h=>by simp at h
 |(n,k)::r,h=>by
  rw[Gbe] at h;rw[Gap];dsimp only;cases hx:x==n with
  |true=>
   rw[hx] at h;cases h
   split
   ·left;rw[Gbe,hx]
   ·right;rw[Gbe,hx]
  |false=>
   rw[hx] at h;split
   ·rw[Gbe,hx];exact iK h
   ·rw[Gbe,hx];exact iK h
noncomputable def blk(X:Cx)(scope:Scope)(cl:List (Str×Addr))(C:Addr)(N:List Str)(s:Shared)(H:Hp)(ex:List Addr):Cx:=
 {X with N:=N,s₀:=s,H₀:=H,env:=compEnvC scope cl C X.env,outer:=X.stack,ex:=ex,fn:=λ_=>false,pn:=[],xe:=λ_ _=>False}
noncomputable def MJ:Option NameKind→Bool
 |some .cell=>true
 |some .free=>true
 |_=>false
structure kF(X:Cx)(scope:Scope)(N:List Str)(n:Nat)(aO:List Nat):Prop where
 cell:(scope.names.all λy=>y.2 != .cell)=true
 kind:scope.kind= .function
 names:(scope.names.all λy=>y.2 != .local||scope.names.lookup y.1==some .local)=true
 free:(scope.names.all λy=>y.2 != .free||MJ (X.env.kindOf y.1))=true
 cap:N.drop n=aO.map λi=>(X.N[i]?).getD ("":Str)
 le:n≤N.length
 lt:(aO.all λi=>decide (i<X.N.length))=true
 fr:((N.drop n).all λx=>scope.names.lookup x==some .free)=true
def qQ(X:Cx)(ifs:List Expr)(tt:TT):Prop:=∀(pins:List (Addr×Obj)) (s:Shared) (σ:St) (H:Hp) (Q:Bool→Hp→Prop),Inv X pins σ H s→tt σ H Q→
 wpAny (model X.prog X.w) X.A (forIn ifs true λc r=>if r=true then do let ok←isTrue c X.env (eval c X.env);pure (ForInStep.yield ok) else pure (ForInStep.yield r)) (TP X pins σ Q) X.xe s
theorem j5{X:Cx}:qQ X [] (tT X jb):=λpins s σ H Q I ⟨_,_,_,_,_,e,k⟩=>by
 cases e;exact wpAny_tests_nil ⟨H,I,k H cg⟩
theorem uf{X:Cx}{c:Expr}{t:DT}(h:PTd X c t):qQ X [c] (tT X t):=λpins s σ H Q I q=>wpAny_tests_one (h pins s σ H Q I q)
theorem qR{aO:List Nat}{n j:Nat}{α:Type}{f:Nat→Option α}{y:α}(h:(List.replicate n (none:Option α)++aO.map f)[j]? =some (some y)):∃i,aO[j -n]? =some i∧n≤j∧f i=some y:=by
 by_cases hj:j<n
 ·rw[GaX (by simpa using hj),GcF] at h;rw[Gai hj] at h;cases h
 ·rw[GaM (by simp;omega),Gdz,Gak] at h;cases q:aO[j -n]? with
  |none=>rw[q] at h;cases h
  |some i=>rw[q] at h;simp only[Gct,Gcv] at h;exact⟨i,rfl,by omega,h⟩
theorem F5{aO:List Nat}{n j i:Nat}{α:Type}{f:Nat→Option α}(h1:aO[j -n]? =some i)(h2:n≤j):(List.replicate n (none:Option α)++aO.map f)[j]? =some (f i):=by
 rw[GaM (by simp;omega),Gdz,Gak,h1];rfl
noncomputable def lM(n:Nat)(aO:List Nat)(σ:St):St:=List.replicate n none++aO.map λi=>σ[i]?.getD none
def mU(Bad:Addr→Prop)(env:Env)(σ:St)(p:Addr):Addr→Prop:=λa=>a=p∨¬Cln Bad env σ a
theorem getD_some{α:Type}{o:Option (Option α)}{y:α}(h:o.getD none=some y):o=some (some y):=by
 cases o with
 |none=>cases h
 |some z=>simp only[Option.getD_some] at h;rw[h]
theorem wF{aO:List Nat}{n j:Nat}{env:Env}{sl:Slot}(e:(compEnv n aO env)[j]? =some (some sl)):∃i,aO[j -n]? =some i∧n≤j∧fX (env[i]?.getD none)=some sl:=qR e
theorem BW{aO:List Nat}{n j:Nat}{env:Env}{σ:St}{a:Addr}(t:bB (compEnv n aO env)[j]?)(e:(lM n aO σ)[j]? =some (some (.ref a))):∃i:Nat,bB env[i]? ∧σ[i]? =some (some (.ref a)):=by
 cases q:(compEnv n aO env)[j]? with
 |none=>rw[q] at t;exact t.elim
 |some z=>
  cases z with
  |none=>rw[q] at t;exact t.elim
  |some sl=>
   obtain⟨i,e1,e2,e3⟩:=wF q;obtain⟨i',e1',_,e3'⟩:=qR e;rw[e1] at e1';cases e1'
   refine⟨i, ?_,getD_some e3'⟩;rw[q] at t;cases r:env[i]? with
   |none=>rw[r] at e3;cases e3
   |some z=>cases z with
    |none=>rw[r] at e3;cases e3
    |some z=>
     rw[r] at e3;cases z with
     |sh d=>cases e3;exact t.elim
     |own d=>trivial
     |lok d=>trivial
     |bor d=>trivial
theorem HI{aO:List Nat}{n j:Nat}{env:Env}:¬isO (compEnv n aO env)[j]? :=λt=>by
 match q:(compEnv n aO env)[j]?,t with
 |some (some (.own d)),_=>
  obtain⟨i,_,_,e3⟩:=wF q;cases q:env[i]?.getD none with
  |none=>rw[q] at e3;cases e3
  |some z=>rw[q] at e3;cases z<;>cases e3
theorem aI.block{K:aE}{H₀:Hp}{Bad:Addr→Prop}{env:Env}{σ:St}{H:Hp}(E:aI K H₀ Bad env σ H)(n:Nat)(aO:List Nat){p:Addr}(hp:H p=none):
  aI K H (mU Bad env σ p) (compEnv n aO env) (lM n aO σ) (upd H p (.lst [])):=by
 have sm:cj H (upd H p (.lst [])):=bG hp;have slot:∀(j:Nat) (sl:Slot),(compEnv n aO env)[j]? =some (some sl)→∃i,aO[j -n]? =some i∧n≤j∧fX (env[i]?.getD none)=some sl:=λj sl e=>qR e;have noO:∀(j:Nat) d,(compEnv n aO env)[j]? ≠some (some (.own d))∧(compEnv n aO env)[j]? ≠some (some (.lok d)):=λj d=>by
  constructor<;>
  ·intro e;obtain⟨i,_,_,e3⟩:=slot j _ e;cases q:env[i]?.getD none with
   |none=>rw[q] at e3;cases e3
   |some z=>rw[q] at e3;cases z<;>cases e3
 have topAd:∀(j:Nat) a,bB (compEnv n aO env)[j]? →(lM n aO σ)[j]? =some (some (.ref a))→∃i:Nat,bB env[i]? ∧σ[i]? =some (some (.ref a)):=λj a t e=>BW t e;have cln:∀b,Cln Bad env σ b→H b≠none→Cln (mU Bad env σ p) (compEnv n aO env) (lM n aO σ) b:=λb h hb=>by
  refine⟨λz=> ?_,λj t e=> ?_⟩
  ·rcases z with z|z
   ·subst z;exact hb hp
   ·exact z h
  ·obtain⟨i,t',e'⟩:=topAd j b t e;exact h.2 i t' e'
 refine⟨sm, ?_, ?_, ?_, ?_, ?_, ?_⟩
 ·simp[compEnv,lM]
 ·intro a ha;rcases ha with ha|ha
  ·subst ha;rw[aM];simp
  ·intro z;refine ha ⟨λb=>E.bad a b (sm.free z),λi t e=>E.nZ t e (sm.free z)⟩
 ·intro j d e;obtain⟨i,e1,e2,e3⟩:=slot j _ e;have q:env[i]? =some (some (.sh d)):=by
   cases r:env[i]? with
   |none=>rw[r] at e3;cases e3
   |some z=>cases z with
    |none=>rw[r] at e3;cases e3
    |some z=>rw[r] at e3;cases z<;>cases e3;rfl
  obtain⟨v,h1,h2⟩:=E.sh i d q;refine⟨v, ?_,h2.gen (.of_same sm) cln⟩;unfold lM;rw[F5 e1 e2,h1];rfl
 ·intro j d e;rcases e with e|e
  ·exact absurd e (noO j d).1
  ·exact absurd e (noO j d).2
 ·intro j d e;obtain⟨i,e1,e2,e3⟩:=slot j _ e;have q:bB env[i]? ∧(env[i]? =some (some (.own d))∨env[i]? =some (some (.lok d))∨env[i]? =some (some (.bor d))):=by
   cases r:env[i]? with
   |none=>rw[r] at e3;cases e3
   |some z=>cases z with
    |none=>rw[r] at e3;cases e3
    |some z=>
     rw[r] at e3;cases z with
     |sh d=>cases e3
     |own d=>cases e3;exact⟨trivial,.inl rfl⟩
     |lok d=>cases e3;exact⟨trivial,.inr (.inl rfl)⟩
     |bor d=>cases e3;exact⟨trivial,.inr (.inr rfl)⟩
  have fact:∃a,σ[i]? =some (some (.ref a))∧Wr H a∧d.top=true∧Inn K (Cln Bad env σ) H d (.ref a):=by
   rcases q.2 with q|q|q
   ·obtain⟨a,h1,_,_,h4,h5,h6⟩:=E.ow i d (.inl q);exact⟨a,h1,h4,h5,h6⟩
   ·obtain⟨a,h1,_,_,h4,h5,h6⟩:=E.ow i d (.inr q);exact⟨a,h1,h4,h5,h6⟩
   ·exact E.bo i d q
  obtain⟨a,h1,h4,h5,h6⟩:=fact;refine⟨a, ?_,h4.same sm,h5,h6.gen (.of_same sm) cln λ_ _ _ o e=>sm _ o e⟩;unfold lM;rw[F5 e1 e2,h1];rfl
 ·intro j k a t;exfalso;cases q:(compEnv n aO env)[j]? with
  |none=>rw[q] at t;exact t
  |some z=>cases z with
   |none=>rw[q] at t;exact t
   |some z=>cases z with
    |sh d=>rw[q] at t;exact t
    |own d=>exact(noO j d).1 q
    |lok d=>exact(noO j d).2 q
    |bor d=>rw[q] at t;exact t
theorem aI.grow{K:aE}{H₀:Hp}{Bad:Addr→Prop}{env:Env}{σ:St}{H:Hp}{p:Addr}{vs us:List V}(E:aI K H₀ Bad env σ H)(hb:Bad p)(h0:H₀ p=none)(hp:H p=some (.lst vs))(hl:∀i:Nat,uX env[i]? →σ[i]? ≠some (some (.ref p))):aI K H₀ Bad env σ (upd H p (.lst us)):=by
 have dN:jc (Cln Bad env σ) H (upd H p (.lst us)):=λb o e q=>by
  refine(ay ?_).trans e;rintro rfl;rcases q with q|q
  ·exact q.1 hb
  ·rw[hp] at e;cases e;exact q
 have wr:∀{a},Wr H a→Wr (upd H p (.lst us)) a:=λ{a} ⟨o,h1,h2⟩=>by
  by_cases z:a=p
  ·subst z;exact⟨_,aM,trivial⟩
  ·exact⟨o,(ay z).trans h1,h2⟩
 refine⟨λb o e=>(ay λz=>by subst z;rw[h0] at e;cases e).trans (E.same b o e),E.len,λa ha=> ?_,λi d e=> ?_,λi d e=> ?_,λi d e=> ?_,E.dj⟩
 ·by_cases z:a=p
  ·subst z;rw[aM];simp
  ·rw[ay z];exact E.bad a ha
 ·obtain⟨v,h1,h2⟩:=E.sh i d e;exact⟨v,h1,h2.gen dN λ_ f _=>f⟩
 ·obtain⟨a,h1,h2,h3,h4,h5,h6⟩:=E.ow i d e;refine⟨a,h1,h2,h3,wr h4,h5,h6.gen dN (λ_ f _=>f) λb eb _ o q=> ?_⟩;cases eb;exact(ay (λz:a=p=>h3 (by rw[z];exact hb))).trans q
 ·obtain⟨a,h1,h4,h5,h6⟩:=E.bo i d e;refine⟨a,h1,wr h4,h5,h6.gen dN (λ_ f _=>f) λb eb _ o q=> ?_⟩;cases eb;exact(ay (λz:a=p=>hl i (by rw[e];trivial) (by rw[←z];exact h1))).trans q
open PySem PySem.Spec PyProof.Rows L2
theorem ex7{a b c d e f g:Type}{P:a→b→c→d→e→f→g→Prop}{G:Prop}(h:∀x1 x2 x3 x4 x5 x6 x7,P x1 x2 x3 x4 x5 x6 x7→G):(∃x1 x2 x3 x4 x5 x6 x7,P x1 x2 x3 x4 x5 x6 x7)→G:=λ⟨x1,x2,x3,x4,x5,x6,x7,q⟩=>h x1 x2 x3 x4 x5 x6 x7 q
structure CoI(X:Cx)(scope:Scope)(cl:List (Str×Addr))(C:Addr)(N:List Str)(s:Shared)(H:Hp)(fp:List Addr)(tn:Nat→Heap→Prop)(Bad:Addr→Prop)(env:Env)(σ:St)(p:Addr)(gd:DG)(t:DT)(f:DE)(ds rs:List D)(m:Nat)(s' :Shared)(i:Nat)(σi:St)(Hi:Hp)(envi:Env)(vs:List V)(done rest:List D):Prop where
 em:m=ds.length -i
 hi:i≤ds.length
 Ii:Inv (blk X scope cl C N s H fp) [] σi Hi s'
 sti:tn i s'.heap
 fri:∀b∈fp,Hi b=none
 Ei:aI X.K H (mU Bad env σ p) envi σi Hi
 hpi:Hi p=some (.lst vs)
 ri:b4 X.K (λb=>Cln Bad env σ b∧b≠p) Hi done vs
 owi:∀j:Nat,¬isO envi[j]?
 lbi:∀(j:Nat) a,uX envi[j]? →σi[j]? =some (some (.ref a))→¬Cln Bad env σ a
 dl:done.length≤i
 ci:cF gd t f (ds.drop i) envi=some rest
 eqi:done++rest=rs
section
variable{X:Cx}{pos:Pos}
theorem jf{env:PySem.Env}{scope:Scope}{x:Str}(h:scope.names.lookup x=some .local):(relabel scope env).names.lookup x=some .local:=lookup_relabel_local h
theorem bK{scope:Scope}{cl:List (Str×Addr)}{C:Addr}{N:List Str}{s:Shared}{H:Hp}{ex:List Addr}{x:Str}(h:scope.names.lookup x=some .local):Vis (blk X scope cl C N s H ex).env.scope x:= .inl (jf h)
theorem cY{scope:Scope}{cl:List (Str×Addr)}{C:Addr}{N:List Str}{s:Shared}{H:Hp}{ex:List Addr}{x:Str}(h:scope.names.lookup x=some .local):Loc (blk X scope cl C N s H ex).env.scope x:= .inl (jf h)
theorem wG{scope:Scope}{cl:List (Str×Addr)}{C:Addr}{N:List Str}{s:Shared}{H:Hp}{ex:List Addr}{x:Str}(h:scope.names.lookup x=some .free):Vis (blk X scope cl C N s H ex).env.scope x:= .inr (iK h)
theorem D7{scope:Scope}{cl:List (Str×Addr)}{N:List Str}{n:Nat}{aO:List Nat}{pins:List (Addr×Obj)}{σ:St}{H:Hp}{s:Shared}{fp:List Addr}{h₁:Heap}{tk:Nat}{C:Addr}(S:kF X scope N n aO)(I:Inv X pins σ H s)
  (hcl:∀x c,cl.lookup x=some c→X.env.cells.lookup x=some c)(hfr:∀y∈scope.names,y.2= .free→∃c,cl.lookup y.1=some c)(hf:∀b∈fp,nC X pins H b)(hfo:∀b∈fp,b<s.heap.objs.size)
  (hC:s.heap.objs.size+1=C)(hns:h₁.Ns C λ_=>none)(old:∀b o,s.heap.get? b=some o→h₁.get? b=some o)(hacc:h₁.get? s.heap.objs.size=some {cls:= .type "list",data:= .seq ([]:List Value).toArray}):
  Inv (blk X scope cl C N s H fp) [] (lM n aO σ) (upd H s.heap.objs.size (.lst [])) {s with heap:=h₁,toks:=tk}:=by
 have hpn:=I.fresh;have hCn:H C=none:=I.hok.fresh (by omega);have hne:C≠s.heap.objs.size:=λz=>by rw[z] at hC;exact Nat.succ_ne_self _ hC
 have hcell:∀y∈scope.names,y.2≠ .cell:=λy hy z=>by
  have:=Gat.mp S.cell y hy;rw[z] at this;simp at this
 have cells:∀x c,cl.lookup x=some c→∃v,s.heap.IsCell c v:=λx c e=>I.cell x c (hcl x c e);have cNe:∀x c,cl.lookup x=some c→c≠s.heap.objs.size:=λx c e z=>by
  obtain⟨v,q⟩:=cells x c e;exact absurd q.lt (by rw[z];exact Gbw _)
 refine⟨⟨I.ok.mod,S.kind,I.ok.glob,I.ok.blt,by show s.heap.objs.size≤C;omega,λx y c e1 e2=>I.ok.inj x y c (hcl x c e1) (hcl y c e2),λx hx=> ?_,λx c e=>(by cases e),I.ok.hd,I.ok.frames,.inl rfl,λb hb=> ⟨?_,λx c e=>(hf b hb).2.2.2.2.1 x c (hcl x c e)⟩,
  I.bs,Gbx I.ok.bsz I.sz,λb o e hb=> ?_,λb hb hs=> ?_,I.stack,I.Bx⟩,rfl,I.bare,Un.laid old (Gar _) hpn,⟨_,hns,λj x v e1 e2 e3=> ?_⟩,λx c e=> ?_,(ay hne).trans hCn,λx c e=>(ay (cNe x c e)).trans (I.kz x c (hcl x c e)),λp hp=> ?_, ?_, ?_⟩
 ·obtain⟨c,hc⟩:=hfr (x,.free) (nK hcell hx) rfl;exact⟨c,hc⟩
 ·intro z;have:=hfo b hb;have z' :b=C:=z;rw[z',←hC] at this;exact Gbw _ (Nat.lt_of_succ_lt this)
 ·rcases(hf b hb).2.2.2.1 with z|z
  ·exact I.ok.GH b o e z
  ·exact absurd (GaT (Gas e) (Gbx I.ok.bsz z)) (Gbw _)
 ·have hs' :b∈frs X.stack:=hs;rcases Gay.mp (I.AD b hs') with z|z
  ·exact(hf b hb).2.1 z
  ·exact(hf b hb).2.2.1 z
 ·
  obtain⟨i,f1,f2,f3⟩:=qR e2;have f3' :=getD_some f3;have e1' :N[j]? =some x:=e1;have hd:(N.drop n)[j -n]? =some x:=by rw[Gbh];rw[show n+(j -n)=j by omega];exact e1'
  have hxf:scope.names.lookup x=some .free:=by
   have:=Gat.mp S.fr x (GaK hd)
   simpa using this
  rw[S.cap,Gak,f1] at hd;have hi:i<X.N.length:=GaE (Gat.mp S.lt i (GaK f1));have hXN:X.N[i]? =some x:=by
   simp only[Gct,Gcv] at hd;rw[Gab hi] at hd⊢
   simpa using hd
  have hk:MJ (X.env.kindOf x)=true:=by
   have:=Gat.mp S.free (x,.free) (mem_of_lookup hxf)
   simpa using this
  have hk' :X.env.kindOf x=some .cell∨X.env.kindOf x=some .free:=by
   cases q:X.env.kindOf x with
   |none=>rw[q] at hk;cases hk
   |some z=>rw[q] at hk;cases z<;>first|(cases hk;done)|exact .inl rfl|exact .inr rfl
  obtain⟨m,hm,look⟩:=I.loc;have hv:Vis X.env.scope x:= .inr hk';obtain⟨u,ru,l⟩:=look i x v hXN f3' hv;refine⟨u,ru,.inr ⟨?_, ?_⟩⟩
  ·exact iK hxf
  ·rcases l with⟨l,_⟩| ⟨_,c,hc,o,ho,hdt⟩
   ·rcases hk' with z|z<;>rw[l] at z<;>cases z
   ·obtain⟨c',hc'⟩:=hfr (x,.free) (mem_of_lookup hxf) rfl;have:=hcl x c' hc';rw[hc] at this;cases this
    exact⟨c,hc',o,old _ _ ho,hdt⟩
 ·obtain⟨v,o,ho,hdt⟩:=cells x c e;exact⟨v,o,old _ _ ho,hdt⟩
 ·cases hp
 ·exact I.hok.laid old (Gar _) ⟨GbH _,[],0,.nil,hacc⟩
 ·show(lM n aO σ).length=N.length;have:=congrArg List.length S.cap;rw[Gcl,Gaf] at this;have:=S.le;simp[lM];omega
theorem HJ{scope:Scope}{cl:List (Str×Addr)}{N:List Str}{C:Addr}{pins pins' :List (Addr×Obj)}{σ σ' :St}{H H' :Hp}{s s' :Shared}{fp:List Addr}(I:Inv X pins σ H s)(hf:∀b∈fp,nC X pins H b)
  (I' :Inv (blk X scope cl C N s H fp) pins' σ' H' s'):Inv X pins σ H' s' :=
 I.IV I'.os I'.base I'.hok I'.bare λb hb=> ⟨(hf b hb).2.2.2.1,(hf b hb).2.1,(hf b hb).2.2.2.2.1,(hf b hb).2.2.2.2.2⟩
def MK(K:aE)(H H' :Hp)(F:Addr→Prop)(p:Addr)(rs:List D):Prop:=cj H H' ∧H p=none∧∃vs,H' p=some (.lst vs)∧b4 K (λb=>F b∧b≠p) H' rs vs
def ug(gd:DG):Prop:=∀d e e',gd d e=some e' →(∀j:Nat,¬isO e[j]?)→∀j:Nat,¬isO e'[j]?
theorem BX{e:Env}{i:Nat}{d:D}(h:∀j:Nat,¬isO e[j]?):∀j:Nat,¬isO (e.set i (some (.sh d)))[j]? :=λj z=>by
 by_cases q:i=j
 ·subst q;by_cases hl:i<e.length
  ·rw[GaQ hl] at z;exact z
  ·rw[Gbr (by simp;omega)] at z;exact z
 ·rw[Gac q] at z;exact h j z
theorem lN{i:Nat}:ug (gN i):=λd e e' h n=>by cases h;exact BX n
theorem uh:∀(is:List Nat) (ds:List D) (e e' :Env),gNs is ds e=some e' →(∀j:Nat,¬isO e[j]?)→∀j:Nat,¬isO e'[j]?
 |[],[],e,e',h,n=>by cases h;exact n
 |i::is,d::ds,e,e',h,n=>uh is ds _ e' h (BX n)
 |[],_::_,_,_,h,_=>by cases h
 |_::_,[],_,_,h,_=>by cases h
theorem rA{is:List Nat}:ug (gT is):=λd e e' h n=>by
 unfold gT at h;split at h
 ·exact uh is _ e e' h n
 ·cases h
theorem ui{scope:Scope}{cl:List (Str×Addr)}{N:List Str}{n:Nat}{aO:List Nat}{pins:List (Addr×Obj)}{σ:St}{H H₀:Hp}{s:Shared}{fp:List Addr}{it:Addr}{tn:Nat→Heap→Prop}{J:It}{tg iter elt:Expr}{ifs:List Expr}{E:Value→Shared→Prop}
  {gd:DG}{t:DT}{f:DE}{ds rs:List D}{Bad:Addr→Prop}{env:Env}{RR:Value→Addr→Result→Shared→Prop}(hc:X.calm=true)(S:kF X scope N n aO)(I:Inv X pins σ H s)
  (hcl:∀x c,cl.lookup x=some c→X.env.cells.lookup x=some c)(hfr:∀y∈scope.names,y.2= .free→∃c,cl.lookup y.1=some c)(hf:∀b∈fp,nC X pins H b)(T:Turn X.prog X.w X.K tg J fp it tn)(st:tn 0 s.heap)
  (hg:∀C s' H',PGd (blk X scope cl C N s' H' fp) tg gd)(ht:∀C s' H',qQ (blk X scope cl C N s' H' fp) ifs (tT X t))(he:∀C s' H',PEd (blk X scope cl C N s' H' fp) elt f)
  (EE:aI X.K H₀ Bad env σ H)(io:D4 X.K (λb=>Cln Bad env σ b∧H b≠none) (λb=>¬Ow env σ b) J ds H)(hgo:ug gd)(hz:ds.length≤ai)(hl:cF gd t f ds (compEnv n aO env)=some rs)
  (hRR:∀p C s' H' m,Inv X pins σ H' s' →s'.heap.Ns C m→s.heap.objs.size≤C→nC X pins H' C→MK X.K H H' (Cln Bad env σ) p rs→RR (.ref p) C (.ok .next) s'):
  wpAny (model X.prog X.w) X.A (newList []) (λacc s₃=>wpAny (model X.prog X.w) X.A (newFunctionEnv scope X.env.globals cl [] X.env.qual none .none (some X.env)) (λcenv s₄=>
   codeAny (model X.prog X.w) X.A (.compStart (.ListComp elt [⟨tg,iter,ifs,0⟩] scope pos) 0 (.ref it) acc {cenv with scope:=relabel scope X.env}) (RR acc cenv.locals) s₄) E s₃) E s:=by
 have hcell:∀y∈scope.names,y.2≠ .cell:=λy hy z=>by
  have:=Gat.mp S.cell y hy;rw[z] at this;simp at this
 refine Gba (wpAny_newFunctionEnv hcell (by intro y hy;simp at hy) (λh₁ hns₁ hsb₁=> ?_) S.kind);dsimp only at hns₁ hsb₁⊢;generalize hH2:s.heap.push {cls:= .type "list",dict:=none,data:= .seq ([]:List Value).toArray}=H2 at hns₁ hsb₁⊢;have hC:s.heap.objs.size+1=H2.objs.size:=by rw[←hH2,GdK]
 have hDC:s.heap.objs.size≠H2.objs.size:=by rw[←hC];exact GaI (Nat.lt_succ_self _)
 have hCle:s.heap.objs.size≤H2.objs.size:=by rw[←hC];exact Gdp _
 have old:∀b o,s.heap.get? b=some o→h₁.get? b=some o:=λb o e=>hsb₁.extBut b o (by rw[←hC];exact GaI (Gdl (Gas e))) (Gah _ (hH2▸Gah _ e));have hacc:h₁.get? s.heap.objs.size=some {cls:= .type "list",data:= .seq ([]:List Value).toArray}:=hsb₁.extBut _ _ hDC (Gah _ (hH2▸Gaz _ rfl));have hfo:∀b∈fp,b<s.heap.objs.size:=λb hb=>by obtain⟨o,e,_⟩:=T.obj 0 _ st b hb;exact Gas e
 have st₁:tn 0 h₁:=T.keep 0 _ _ st λb _ o e=>old b o e;have hpn:=I.fresh;generalize hC' :H2.objs.size=C at*;have I1:Inv (blk X scope cl C N s H fp) [] (lM n aO σ) (upd H s.heap.objs.size (.lst [])) {s with heap:=h₁,toks:=s.toks+([]:List (Str×Value)).length}:=D7 S I hcl hfr hf hfo hC (by
  have z:(λx:Str=>([]:List (Str×Value)).reverse.lookup x)=λ_=>none:=by funext x;rfl
  rw[z] at hns₁;exact hns₁) old hacc
 have E1:=EE.block n aO hpn;generalize hp:s.heap.objs.size=p at*;have loop:codeAny (model X.prog X.w) X.A (.compLoop (.ListComp elt [⟨tg,iter,ifs,0⟩] scope pos) 0 (.ref it) (.ref p) (compEnvC scope cl C X.env)) (RR (.ref p) C) {s with heap:=h₁,toks:=s.toks+([]:List (Str×Value)).length}:=by
  refine codeAny_loop rfl (λm s' =>∃i σi Hi envi vs done rest,CoI X scope cl C N s H fp tn Bad env σ p gd t f ds rs m s' i σi Hi envi vs done rest) ?_ ds.length ?_
  ·refineλm s' =>ex7 λi σi Hi envi vs done rest J0=> ?_
   have e0:=J0.em;subst e0;have hi:=J0.hi;have Ii:=J0.Ii;have sti:=J0.sti;have fri:=J0.fri;have Ei:=J0.Ei;have hpi:=J0.hpi;have ri:=J0.ri;have owi:=J0.owi;have lbi:=J0.lbi;have dl:=J0.dl;have ci:=J0.ci;have eqi:=J0.eqi;have hfi:∀{H' :Hp},(∀b∈fp,H' b=none)→∀b∈fp,nC (blk X scope cl C N s H fp) [] H' b:=λhn b hb=>by
    refine⟨hn b hb,(Ii.ok.exf b hb).1,Ii.ok.GI b hb,.inl hb,(Ii.ok.exf b hb).2,λq hq=>(by cases hq)⟩
   have keepAll:∀b o,H b=some o→Hi b=some o:=Ei.same;obtain⟨items,stop⟩:=io Hi λb o hb _=>keepAll b o hb;show wpAny _ X.A ((compTurn (.ListComp elt [⟨tg,iter,ifs,0⟩] scope pos) 0 (.ref it) (.ref p) (compEnvC scope cl C X.env)).onRaise (λx=>do noteFrame x (compEnvC scope cl C X.env);theTreesLotGoes x)) _ _ s';refine wpAny_noted ?_;rw[compTurn_list];refine Gaa (wpAny_standAt (Gaa ?_));by_cases hlt:i<ds.length
   ·obtain⟨go,yld⟩:=items i ds[i] (by simp[hlt]);refine thn (T.item (blk X scope cl C N s H fp) rfl rfl rfl hc i [] s' σi Hi _ Ii (hfi fri) sti go) λr s4 ⟨u,hr,h4⟩=> ?_;subst hr;refine Gaa (thn h4 λ_ s5 ⟨x,H5,I5,r5,y5,st5,fr5⟩=> ?_);obtain⟨s2,rep⟩:=yld x H5 y5;have I5' :=I5.pinned (hfi fr5) (T.obj _ _ st5);have hd:ds.drop i=ds[i]::ds.drop (i+1):=GbC hlt;rw[hd] at ci;unfold cF at ci;obtain⟨e2,hg2,ci⟩:=bind_some ci;obtain⟨bb,ht2,ci⟩:=bind_some ci;have clnIn:∀b,Cln Bad env σ b∧H b≠none→Cln (mU Bad env σ p) envi σi b:=λb ⟨q1,q2⟩=>by
     refine⟨λz=>z.elim (λz=>q2 (by rw[z];exact hpn)) λz=>z q1,λj tj ej=> ?_⟩;rcases u0 tj with o|o
     ·exact owi j o
     ·exact lbi j b o ej q1
    refine Gaa (thn (Gcb (hg C s H _ s5 σi H5 x u (λσ6 H6=>aI X.K H (mU Bad env σ p) e2 σ6 H6∧Stp envi σi H5 e2 σ6 H6) I5' r5 ⟨H,mU Bad env σ p,envi,ds[i],e2,Ei.mono s2,hg2,rep.imp clnIn,λσ' H' E' p' => ⟨E',p'⟩⟩) (λ_ _ q=>q) λ_ _ q=>q.elim) λ_ s6 ⟨σ6,H6,I6,E6,p6⟩=> ?_);have noO6:=hgo _ _ _ hg2 owi;have s56:cj H5 H6:=λb o e=>p6.keep b o e λ⟨j,z,_⟩=>owi j z;have lb6:∀(j:Nat) a,uX e2[j]? →σ6[j]? =some (some (.ref a))→¬Cln Bad env σ a:=λj a z ej=>by
     obtain⟨q1,q2⟩:=p6.lk j z;rw[q1] at z;rw[q2] at ej
     exact lbi j a z ej
    have again:∀{H7:Hp} {s7:Shared} {vs' :List V} {done' rest' :List D},Inv (blk X scope cl C N s H fp) ([]++qW fp s5.heap) σ6 H7 s7→aI X.K H (mU Bad env σ p) e2 σ6 H7→H7 p=some (.lst vs')→b4 X.K (λb=>Cln Bad env σ b∧b≠p) H7 done' vs' →
      done'.length≤i+1→cF gd t f (ds.drop (i+1)) e2=some rest' →done' ++rest' =rs→
      ∃m,m<ds.length -i∧∃i σi Hi envi vs done rest,CoI X scope cl C N s H fp tn Bad env σ p gd t f ds rs m s7 i σi Hi envi vs done rest:=by
     intro H7 s7 vs' done' rest' I7 E7 hp7 r7 dl7 c7 q7;refine⟨ds.length -(i+1),by omega,i+1,σ6,H7,e2,vs',done',rest',⟨rfl,hlt,I7.nS,T.keep _ _ _ st5 λb hb o e=>(I7.pin (b,o) (Gbb _ (Gbb _ (kA hb e)))).1,λb hb=> ?_,E7,hp7,r7,noO6,lb6,dl7,c7,q7⟩⟩;obtain⟨o,e,d⟩:=T.obj _ _ st5 b hb;exact(I7.pin (b,o) (Gbb _ (Gbb _ (kA hb e)))).2.1
    refine Gaa (thn (Gcb (ht C s H _ s6 σ6 H6 (λb' H7=>b' =bb∧cj H6 H7) I6 ⟨H,mU Bad env σ p,e2,bb,E6,ht2,λH' s' => ⟨rfl,s'⟩⟩) (λ_ _ q=>q) λ_ _ q=>q.elim) λok s7 ⟨H7,I7,hok,s67⟩=> ?_);subst hok;have sAll:cj Hi H7:=s2.trans (s56.trans s67);have E7:=E6.mono s67;have hp7:H7 p=some (.lst vs):=sAll _ _ hpi;have r7:=ri.gen (F' :=λb=>Cln Bad env σ b∧b≠p) (.of_same sAll) λ_ q _=>q;cases ok with
    |false=>
     rw[Gag Gav] at ci;exact Gad ⟨rfl,again I7 E7 hp7 r7 (Nat.le_succ_of_le dl) ci eqi⟩
    |true=>
     rw[Gai rfl] at ci;obtain⟨r,hr,ci⟩:=bind_some ci;split at ci
     ·rename_i hfree;obtain⟨rest',c8,rfl⟩:=Gam.mp ci;refine Gaa (Gaa (thn (Gcb (he C s H _ s7 σ6 H7 (λv H8=>cj H7 H8∧jW X.K H (mU Bad env σ p) e2 σ6 H7 H8 r v) I7 ⟨H,mU Bad env σ p,e2,r,E7,hr,λv H' s' R=> ⟨s',R⟩⟩) (λ_ _ q=>q) λ_ _ q=>q.elim) λy s8 ⟨v,H8,I8,ry,s78,R⟩=> ?_));have E8:=E7.mono s78;have hp8:H8 p=some (.lst vs):=s78 _ _ hp7;have r8:=(r7.gen (F' :=λb=>Cln Bad env σ b∧b≠p) (.of_same s78) λ_ q _=>q)
      have vr:Rep X.K (λb=>Cln Bad env σ b∧b≠p) H8 r.d v:=(R.rep E7 hfree).imp λb q=> ⟨Classical.byContradiction λz=>q.1 (.inr z),λz=>q.1 (.inl z)⟩;have hlen:vs.length<sizeLine:=by
       rw[←size_eq,←ri.1];omega
      refine Gaa (thn (Gcb (p8 (X:=blk X scope cl C N s H fp) _ s8 σ6 H8 (.ref p) [v] (.ref p) [y] (λ_ H9=>H9=upd H8 p (.lst (vs++[v]))) I8 rfl (.cons ry .nil) ⟨p,vs,v,rfl,rfl,hp8,hlen,rfl⟩) (λ_ _ q=>q) λ_ _ q=>q.elim) λ_ s9 ⟨_,H9,I9,_,h9⟩=> ?_);subst h9;have lbp:∀j:Nat,uX e2[j]? →σ6[j]? ≠some (some (.ref p)):=λj z ej=>lb6 j p z ej (EE.uY hpn);have dN:jc (λb=>Cln Bad env σ b∧b≠p) H8 (upd H8 p (.lst (vs++[v]))):=λb o e q=>by
       refine(ay ?_).trans e;rintro rfl;rcases q with q|q
       ·exact q.2 rfl
       ·rw[hp8] at e;cases e;exact q
      refine Gad (Gad ⟨rfl,again I9 (E8.grow (.inl rfl) hpn hp8 lbp) aM ((r8.append (b4.cons vr .nil)).gen dN λ_ q _=>q) (by simp;omega) c8 ?_⟩);rw[←eqi,GaB];rfl
     ·cases ci
   ·have hi' :i=ds.length:=by omega
    subst hi';rw[GbT] at ci;cases ci;rw[Gbn] at eqi;subst eqi;refine thn (T.done (blk X scope cl C N s H fp) rfl rfl rfl hc ds.length [] s' σi Hi _ Ii (hfi fri) sti stop) λr s4 ⟨hr,I4⟩=> ?_;subst hr;obtain⟨m,hm,_⟩:=I4.loc;have IX:=HJ I hf I4;exact Gad (hRR p C s4 Hi m IX hm hCle ⟨I4.free,(I.CD (by rw[hp];exact hCle) (I.hok.fresh (by rw[hp];exact hCle))).2⟩ ⟨keepAll,hpn,vs,hpi,ri⟩)
  ·exact⟨0,_,_,_,[],[],rs,⟨by simp,GbH _,I1,st₁,λb hb=>(ay (by rintro rfl;exact Gbw _ (hfo _ hb))).trans (hf b hb).1,E1,aM,b4.nil,λj=>HI,λj a z e=>by
    obtain⟨i,t1,t2⟩:=BW z.top e
    exactλq=>q.2 i t1 t2,Gar _,by simpa using hl,rfl⟩⟩
 exact codeAny_compStart_list loop (T.self X.A 0 _ _ _ st₁ loop)
end
open PySem PySem.Spec PyProof.Rows L2
section
variable{X:Cx}{pos:Pos}
theorem vd{n:Nat}{aO:List Nat}{l:Option Nat}{env:Env}:compEnv n aO (bT l env)=compEnv n aO env:=by
 cases l with
 |none=>rfl
 |some j=>
  unfold bT;dsimp only;split
  ·rename_i d q;unfold compEnv;congr 1;apply GaJ;intro i _;by_cases z:j=i
   ·subst z;rw[GaQ (Gae.mp q).1,q];rfl
   ·rw[Gac z]
  ·rfl
theorem kF.cells{scope:Scope}{N:List Str}{n:Nat}{aO:List Nat}{pins:List (Addr×Obj)}{σ:St}{H:Hp}{s:Shared}(S:kF X scope N n aO)(I:Inv X pins σ H s):∀y∈scope.names,y.2= .free→∃c,X.env.cells.lookup y.1=some c:=λy hy hf=>by
 have hk:=Gat.mp S.free y hy;rw[hf] at hk;simp only[bne_self_eq_false,Bool.false_or] at hk;refine I.ok.has y.1 ?_;cases q:X.env.kindOf y.1 with
 |none=>rw[q] at hk;cases hk
 |some z=>rw[q] at hk;cases z<;>first|(cases hk;done)|exact .inl rfl|exact .inr rfl
theorem kF.F6{scope:Scope}{N:List Str}{n:Nat}{aO:List Nat}(S:kF X scope N n aO):∀y∈scope.names,y.2= .local→scope.names.lookup y.1=some .local:=λy hy hl=>by
 have:=Gat.mp S.names y hy;rw[hl] at this
 simpa using this
structure Blk(X:Cx)(scope:Scope)(N:List Str)(tg elt:Expr)(ifs:List Expr)(gd:DG)(t:DT)(f:DE):Prop where
 g:∀cl C s H ex,PGd (blk X scope cl C N s H ex) tg gd
 t:∀cl C s H ex,qQ (blk X scope cl C N s H ex) ifs (tT X t)
 e:∀cl C s H ex,PEd (blk X scope cl C N s H ex) elt f
theorem _root_.L2.Inv.J9{pins:List (Addr×Obj)}{σ:St}{H:Hp}{s:Shared}{C:Addr}{h' :Heap}(I:Inv X pins σ H s)(F:nC X pins H C)(hs:Heap.SameBut C s.heap h'):Inv X pins σ H {s with heap:=h' }:=
 I.turned (t' :=s.toks) (λb o hb e=>(hs.2 b hb).trans e) F.1 F.2.1 F.2.2.2.1 F.2.2.2.2.1 F.2.2.2.2.2
theorem o8{tg iter elt:Expr}{ifs:List Expr}{scope:Scope}{N:List Str}{n:Nat}{aO:List Nat}{l:Option Nat}{src:DI}{gd:DG}{t:DT}{f:DE}(hc:X.calm=true)(S:kF X scope N n aO)(hi:PId X tg iter src)(hgo:ug gd)(B:Blk X scope N tg elt ifs gd t f)
  (hs:∀x,foldedSetIterable iter X.env x=pure x:=by intro _;rfl):PEd X (.ListComp elt [⟨tg,iter,ifs,0⟩] scope pos) (rf l n aO src gd t f):=by
 intro pins s σ H Q I hw;obtain⟨H₀,Bad,env,r,E,e,k⟩:=hw;unfold rf at e;obtain⟨ds,hds,e⟩:=bind_some e;split at e
 ·rename_i hz;obtain⟨rs,hrs,rfl⟩:=Gam.mp e;obtain⟨EL,lo,tops⟩:=E.lock l;obtain⟨cl,h1,h2,h3⟩:=mT (S.cells I);rw[eval_ListComp];refine wpAny_comprehension_free (use:=none) rfl hs h1 S.kind S.F6 ?_;refine thn (hi pins s σ H (λJ H' =>cj H H' ∧D4 X.K (λb=>Cln Bad (bT l env) σ b∧H' b≠none) (λb=>¬Ow (bT l env) σ b) J ds H') I ⟨H₀,Bad,bT l env,ds,EL,hds,λJ H' s' io=> ⟨s',io⟩⟩) λv s1 q1=>thn q1 λitv s2 q2=> ?_;obtain⟨it,fp,tn,J,H2,e,I2,T,st2,f2,sH,io⟩:=q2;subst e;refine ui (RR:=λacc C=>compPost (model X.prog X.w) X.A X.xe none (EP X pins σ Q) acc C) hc S I2 h2 h3 f2 T st2 (λC s' H' =>B.g cl C s' H' fp) (λC s' H' =>B.t cl C s' H' fp) (λC s' H' =>B.e cl C s' H' fp) (EL.mono sH) io hgo hz (by rw[vd];exact hrs) ?_;intro p C s' H' m IX hm hC hF G;refine⟨m,hm,λh' hs' => ⟨.ref p,H',IX.J9 hF hs',rfl, ?_⟩⟩;obtain⟨g1,g2,vs,g3,g4⟩:=G;exact k _ H' (sH.trans g1) ⟨p,rfl,sH.free g2,⟨_,g3,trivial⟩,rfl,.lst (.inl g3) (g4.gen (.of_same cg) λb q _=> ⟨⟨q.1.1,λi ti ei=>q.1.2 i ((tops i).mpr ti) ei⟩,q.2⟩)⟩
 ·cases e
end
open PySem PySem.Spec PyProof.Rows L2
section
variable{X:Cx}{scope:Scope}{cl:List (Str×Addr)}{C:Addr}{N:List Str}{s:Shared}{H:Hp}{ex:List Addr}{x:Str}
theorem jg(h:N.Nodup):(blk X scope cl C N s H ex).N.Nodup:=h
theorem jh(h:scope.names.lookup x=some .local):(blk X scope cl C N s H ex).fn x=true∨(blk X scope cl C N s H ex).env.scope.names.lookup x=some .local:= .inr (jf h)
end
open PySem PySem.Spec PyProof.Rows L2
section
variable{X:Cx}{e a b c:Expr}{f g h:DE}{pos:Pos}
noncomputable def tO(X:Cx)(o:DO):TO:=λσ H Q=>∃H₀ Bad env i,aI X.K H₀ Bad env σ H∧o env=some i∧∀H',cj H H' →Q i H'
theorem _root_.L2.PO.aU{e:Option Expr}{t t' :TO}(h:PO X e t')(i:∀σ H Q,t σ H Q→t' σ H Q):PO X e t:=λpins s σ H Q I q=>h pins s σ H Q I (i σ H Q q)
theorem uj:PO X none (tO X noO):=Hb.aU λσ H Q ⟨_,_,_,_,_,e,k⟩=>by cases e;exact k H cg
theorem j6(he:PEd X e f):PO X (some e) (tO X (fW f)):=by
 refine(Hc he).aU ?_;rintro σ H Q ⟨H₀,Bad,env,o,E,ho,k⟩;obtain⟨r,hr,ho⟩:=bind_some ho;split at ho
 ·rename_i i hd;cases ho;refine⟨H₀,Bad,env,r,E,hr,λv H1 s1 R=> ?_⟩;have q:=R.inn;rw[hd] at q;cases q;exact⟨i,rfl,k H1 s1⟩
 ·cases ho
theorem ve(n d:Nat)(o:Option Int):HT.sIx n d o=sIx n d o:=by
 cases o<;>rfl
theorem rC{K:aE}{F:Addr→Prop}{H:Hp}{ds:List D}{vs:List V}{lo hi:Option Int}(r:b4 K F H ds vs):b4 K F H (cutD ds lo hi) (w9 vs lo hi):=by
 unfold cutD w9;rw[ve,ve,←r.1];exact(r.drop _).take _
theorem wH{K:aE}{F:Addr→Prop}{H:Hp}:∀{ns:List Int},b4 K F H (ns.map .int) (ns.map V.int)
 |[]=> .nil
 |n::ns=> .cons (.int n) wH
theorem o9{lo hi:Option Expr}{l u:DO}{p2:Pos}(he:PEd X e f)(hl:PO X lo (tO X l))(hu:PO X hi (tO X u)):PEd X (.Subscript e (.Slice lo hi none p2) pos) (slE f l u):=by
 refine(Et (Hh.or JI) he hl hu).aU ?_;rintro σ H Q ⟨H₀,Bad,env,rv,E,hf,k⟩;obtain⟨r,hr,hf⟩:=bind_some hf;obtain⟨lv,hlv,hf⟩:=bind_some hf;obtain⟨uv,huv,hf⟩:=bind_some hf;refine⟨H₀,Bad,env,r,E,hr,λv H1 s1 R=> ⟨H₀,Bad,env,lv,E.mono s1,hlv,λH2 s2=> ⟨H₀,Bad,env,uv,(E.mono s1).mono s2,huv,λH3 s3=> ?_⟩⟩⟩;have i3:=(R.inn.same s2).same s3;have s13:=s1.trans (s2.trans s3);unfold slD at hf;split at hf
 ·rename_i xs hd;cases hf;rw[hd] at i3;cases i3 with
  |lst hh rr=>exact .inl ⟨_,_,rfl,.inl hh,λp n=>k _ _ (s13.trans (bG n)) ⟨p,rfl,s13.free n,pj,rfl,gF n (rC rr)⟩⟩
 ·rename_i xs hd;split at hf
  ·cases hf
  ·rename_i hw;cases hf;rw[hd] at i3;cases i3 with
   |tup hh rr=>exact .inr ⟨_,_,rfl,SqT.of hh,by rw[ve,ve,←rr.1];exact hw,λp n=>k _ _ (s13.trans (bG n)) (fP n (rC rr))⟩
 ·rename_i ns hd;cases hf;rw[hd] at i3;cases i3 with
  |scr hh=>exact .inl ⟨_,_,rfl,hh.sq,λp n=>k _ _ (s13.trans (bG n)) ⟨p,rfl,s13.free n,pj,rfl,gF n (rC wH)⟩⟩
 ·cases hf
theorem wI{pins:List (Addr×Obj)}{σ:St}{H:Hp}{s:Shared}{p:Addr}{ys:List V}{Q:Value→Shared→Prop}{E:Value→Shared→Prop}(hc:X.calm=true)(I:Inv X pins σ H s)(h:SqL X.K H p ys∨SqT X.K H p ys)
  (k:∀(It:Addr) fp wr P St (s₂:Shared),Walks X.prog X.w X.A.in1 It fp wr ys.length P St→St 0 s₂.heap→(∀b∈fp,b<s₂.heap.objs.size)→(∀(i:Nat) v,P i v→∃y,ys[i]? =some y∧RelV y v)→
   (∀h' tk,(∀b o,b∉wr→s₂.heap.get? b=some o→h'.get? b=some o)→Inv X pins σ H {s₂ with heap:=h',toks:=tk})→Q (.ref It) s₂):wpAny (model X.prog X.w) X.A.in1 (pyIter (.ref p)) Q E s:=by
 have hh:X.A.in1.handled=none:=I.ok.hd hc;have kept:∀{oi:Obj} {h' :Heap} {tk:Nat},(∀b o,b∉[s.heap.objs.size]→(s.heap.push oi).get? b=some o→h'.get? b=some o)→Inv X pins σ H {s with heap:=h',toks:=tk}:=λ{oi h' tk} hk=>
  I.kept λb o e=>hk b o (by simp only[Gbo];exact GaI (Gas e)) (Gah _ e)
 have get:∀{its:List Value},Vals ys its→∀(i:Nat) v,its.toArray[i]? =some v→∃y,ys[i]? =some y∧RelV y v:=λ{its} r i v e=>by
  have e' :its[i]? =some v:=by simpa using e
  obtain⟨hi,_⟩:=Gae.mp e';have hi' :i<ys.length:=by rw[r.length];exact hi
  obtain⟨u,hu,ru⟩:=r.get (x:=ys[i]) (i:=i) (by simp[hi']);rw[e'] at hu;cases hu
  exact⟨ys[i],by simp[hi'],ru⟩
 have lts:∀{oi:Obj},p<s.heap.objs.size→∀b∈[s.heap.objs.size,p],b<(s.heap.push oi).objs.size:=λ{oi} hp b hb=>by
  rw[GdK];rcases Gay.mp hb with rfl|hb
  ·exact Nat.lt_succ_self _
  ·rcases Gay.mp hb with rfl|hb
   ·exact Gdl hp
   ·cases hb
 rcases h with hq|hq
 ·obtain⟨its,rv,pl,hz⟩:=I.list hq;have hlt:p<s.heap.objs.size:=by obtain⟨_,e,_⟩:=pl.isList;exact Gas e
  have W:=Walks.list (prog:=X.prog) (w:=X.w) hh s.heap.objs.size p (GaI hlt) its.toArray;have hsz:its.toArray.size=ys.length:=by rw[Gan,rv.length]
  rw[hsz] at W;exact wpAny_pyIter_list pl.isList (k _ _ _ _ _ _ W ⟨⟨_,Gaz _ rfl,rfl,rfl⟩,pl.isList.push _⟩ (lts hlt) (get rv) λh' tk hk=>kept hk)
 ·obtain⟨its,rv,pl,hz⟩:=I.tuple hq;have pl' :s.heap.IsTuple p its.toArray:=pl;have hlt:p<s.heap.objs.size:=by obtain⟨_,e,_⟩:=pl';exact Gas e
  have W:=Walks.tuple (prog:=X.prog) (w:=X.w) hh s.heap.objs.size p (GaI hlt) its.toArray;have hsz:its.toArray.size=ys.length:=by rw[Gan,rv.length]
  rw[hsz] at W;exact Gdb pl' (k _ _ _ _ _ _ W ⟨⟨_,Gaz _ rfl,rfl,rfl⟩,pl'.at λo e=>Gah _ e⟩ (lts hlt) (get rv) λh' tk hk=>kept hk)
theorem range_any(bs:List Bool):(List.range bs.length).any (λi=>bs[i]?.getD false)=bs.any id:=by
 rw[Bool.eq_iff_iff];simp only[List.any_eq_true,GbJ,id];constructor
 ·rintro⟨i,hi,h⟩;rw[Gab hi] at h;exact⟨bs[i],GaD hi,h⟩
 ·rintro⟨b,hb,h⟩;obtain⟨i,hi,rfl⟩:=GdI hb;exact⟨i,hi,by rw[Gab hi];exact h⟩
theorem wJ{A:Around}{P:Nat→Value→Prop}{bs:List Bool}(hP:∀(i:Nat) v,P i v→∃y,(bs.map V.bl)[i]? =some y∧RelV y v):TruthOf X.prog X.w A P (λi=>bs[i]?.getD false):=by
 intro i v s Q E p q;obtain⟨y,hy,r⟩:=hP i v p;rw[Gak] at hy;cases hb:bs[i]? with
 |none=>rw[hb] at hy;cases hy
 |some b=>
  rw[hb] at hy;cases hy
  cases r;refine GbM ?_;have q' :Q (bs[i]?.getD false) s:=q;rw[hb] at q';exact q'
theorem D8(hc:X.calm=true):gX X (.builtin "any") (λxs H Q=>∃(p:Addr) (bs:List Bool),xs=[.ref p]∧(SqL X.K H p (bs.map V.bl)∨SqT X.K H p (bs.map V.bl))∧Q (.bl (bs.any id)) H):=by
 intro pins s σ H xs us Q I rv h;obtain⟨p,bs,rfl,hq,q⟩:=h;obtain⟨u,rfl,ru⟩:=rv.one;cases ru;refine call_any_walk (wI hc I hq λIt fp wr P St s₂ W st lt hP kept=> ⟨It,fp,wr,_,P,St,_,rfl,W,st,wJ hP,λh' tk hk=> ?_⟩);rw[Gaf,range_any];exact⟨.bl (bs.any id),H,kept h' tk hk,rfl,q⟩
noncomputable def vf(ns:List Int)(i:Nat):Int:=ns[i]?.getD 0
theorem wK{P:Nat→Value→Prop}{ns:List Int}(hP:∀(i:Nat) v,P i v→∃y,(ns.map V.int)[i]? =some y∧RelV y v):∀i v,P i v→∃t,v= .int (vf ns i) t:=by
 intro i v p;obtain⟨y,hy,r⟩:=hP i v p;rw[Gak] at hy;cases hb:ns[i]? with
 |none=>rw[hb] at hy;cases hy
 |some n=>
  rw[hb] at hy;cases hy
  obtain⟨t,rfl⟩:=r;exact⟨t,by unfold vf;rw[hb];rfl⟩
theorem D9{f:Int→Int→Int}{i:Int}{ns:List Int}{k:Nat}(hk:k<ns.length):(ns.take (k+1)).foldl f i=f ((ns.take k).foldl f i) (ns[k]):=by
 rw[Gdx hk,GdP];rfl
theorem F7{n:Int}{ns:List Int}:∀k,k≤ns.length→vf (n::ns) (argBest (λi j=>decide (vf (n::ns) i>vf (n::ns) j)) k)=(ns.take k).foldl (λa b=>if b>a then b else a) n
 |0,_=>by simp[argBest,vf]
 |k+1,hk=>by
  have ih:= @F7 n ns k (by omega);rw[D9 (by omega),argBest];have e:vf (n::ns) (k+1)=ns[k]:=by simp[vf,show k<ns.length by omega]
  rw[ih,e];simp only[decide_eq_true_eq];split
  ·exact e
  ·exact ih
theorem wL{K:aE}{F:Addr→Prop}{H:Hp}:∀{ds:List D} {vs:List V} {bs:List Bool},b4 K F H ds vs→uU ds=some bs→vs=bs.map V.bl
 |[],vs,bs,r,e=>by cases e;exact r.cV
 |d::ds,vs,bs,r,e=>by
  obtain⟨v,w,rfl,h1,h2⟩:=r.cons_inv;cases d<;>try (cases e;done)
  obtain⟨bs',e',rfl⟩:=Gam.mp e;cases h1;rw[wL h2 e'];rfl
theorem BY{K:aE}{F:Addr→Prop}{H:Hp}:∀{ds:List D} {vs:List V} {bs:List Int},b4 K F H ds vs→BH ds=some bs→vs=bs.map V.int
 |[],vs,bs,r,e=>by cases e;exact r.cV
 |d::ds,vs,bs,r,e=>by
  obtain⟨v,w,rfl,h1,h2⟩:=r.cons_inv;cases d<;>try (cases e;done)
  obtain⟨bs',e',rfl⟩:=Gam.mp e;cases h1;rw[BY h2 e'];rfl
theorem AX{K:aE}{F:Addr→Prop}{H:Hp}{d:D}{v:V}{ds:List D}(i:Inn K F H d v)(e:mQ d=some ds):∃p vs,v= .ref p∧(SqL K H p vs∨SqT K H p vs)∧b4 K F H ds vs:=by
 unfold mQ at e;split at e
 ·cases e;cases i with
  |lst h r=>exact⟨_,_,rfl,.inl (.inl h),r⟩
 ·cases e;cases i with
  |tup h r=>exact⟨_,_,rfl,.inr (SqT.of h),r⟩
 ·rename_i ns;cases e;cases i with
  |scr h=>
   refine⟨_,_,rfl,.inl h.sq,by simp,λi d v e1 e2=> ?_⟩;rw[Gak] at e1 e2;cases q:ns[i]? with
   |none=>rw[q] at e1;cases e1
   |some n=>rw[q] at e1 e2;cases e1;cases e2;exact .int n
 ·cases e
theorem AY{o:List D→Option RV}{ds:List D}{rv:RV}(h:one o ds=some rv):∃d xs,ds=[d]∧mQ d=some xs∧o xs=some rv:=by
 unfold one at h;split at h
 ·obtain⟨xs,h1,h2⟩:=bind_some h;exact⟨_,xs,rfl,h1,h2⟩
 ·cases h
theorem Dc:CallD X anyS (λxs H Q=>∃(p:Addr) (bs:List Bool),xs=[.ref p]∧(SqL X.K H p (bs.map V.bl)∨SqT X.K H p (bs.map V.bl))∧Q (.bl (bs.any id)) H):=by
 intro F H ds vs rv Q ps e k;obtain⟨d,xs,rfl,h1,h2⟩:=AY e;obtain⟨bs,hb,rfl⟩:=Gam.mp h2;obtain⟨v,rfl,i⟩:=gK ps;obtain⟨p,vs,rfl,hs,r⟩:=AX i h1;rw[wL r hb] at hs;exact⟨p,bs,rfl,hs,k _ H cg (.bl _)⟩
end
open PySem PySem.Spec PyProof.Rows L2
section
variable{X:Cx}{e a b c:Expr}{f g h:DE}{pos:Pos}
theorem bc.cons{κ:Type}{K:aE}{F:Addr→Prop}{H:Hp}{kvs:List (κ×D)}{ws:List (κ×V)}{k:κ}{d:D}{v:V}(h:Rep K F H d v)(r:bc K F H kvs ws):bc K F H ((k,d)::kvs) ((k,v)::ws):=by
 refine⟨by simp[r.1],λi x u e1 e2=> ?_⟩;cases i with
 |zero=>simp at e1 e2;subst e1;subst e2;exact h
 |succ i=>exact r.2 i x u (by simpa using e1) (by simpa using e2)
theorem bc.cons_inv{κ:Type}{K:aE}{F:Addr→Prop}{H:Hp}{kvs:List (κ×D)}{ws:List (κ×V)}{k:κ}{d:D}(h:bc K F H ((k,d)::kvs) ws):∃v r,ws=(k,v)::r∧Rep K F H d v∧bc K F H kvs r:=by
 cases ws with
 |nil=>exact absurd h.1 (by simp)
 |cons q r=>
  obtain⟨k',v⟩:=q;have h1:k=k' ∧kvs.map (·.1)=r.map (·.1):=by have:=h.1;simpa using this
  obtain⟨rfl,h2⟩:=h1;exact⟨v,r,rfl,h.2 0 (k,d) (k,v) rfl rfl,h2,λi x y e1 e2=>h.2 (i+1) x y (by simpa using e1) (by simpa using e2)⟩
theorem bc.nil{κ:Type}{K:aE}{F:Addr→Prop}{H:Hp}:bc K F H ([]:List (κ×D)) []:=⟨rfl,λi p q e=>by simp at e⟩
theorem bc.cV{κ:Type}{K:aE}{F:Addr→Prop}{H:Hp}{ws:List (κ×V)}(h:bc K F H [] ws):ws=[]:=by
 cases ws with
 |nil=>rfl
 |cons q r=>exact absurd h.1 (by simp)
theorem bc.len{κ:Type}{K:aE}{F:Addr→Prop}{H:Hp}{kvs:List (κ×D)}{ws:List (κ×V)}(h:bc K F H kvs ws):kvs.length=ws.length:=by
 have:=congrArg List.length h.1
 simpa using this
theorem bc.over{κ:Type} [DecidableEq κ]{K:aE}{F:Addr→Prop}{H:Hp}{k:κ}{d:D}{v:V}(hv:Rep K F H d v):∀{kvs:List (κ×D)} {ws:List (κ×V)},bc K F H kvs ws→
  bc K F H (kvs.map λkv=>if kv.1=k then(kv.1,d) else kv) (ws.map λkv=>if kv.1=k then(kv.1,v) else kv)
 |[],ws,r=>by rw[r.cV];exact .nil
 |(k',d')::kvs,ws,r=>by
  obtain⟨v',w,rfl,h1,h2⟩:=r.cons_inv;rw[Gap,Gap];dsimp only;split
  ·exact .cons hv (bc.over hv h2)
  ·exact .cons h1 (bc.over hv h2)
theorem bc.snoc{κ:Type}{K:aE}{F:Addr→Prop}{H:Hp}{k:κ}{d:D}{v:V}(hv:Rep K F H d v):∀{kvs:List (κ×D)} {ws:List (κ×V)},bc K F H kvs ws→bc K F H (kvs++[(k,d)]) (ws++[(k,v)])
 |[],ws,r=>by rw[r.cV];exact .cons hv .nil
 |(k',d')::kvs,ws,r=>by
  obtain⟨v',w,rfl,h1,h2⟩:=r.cons_inv;exact .cons h1 (bc.snoc hv h2)
theorem bc.any{κ:Type} [DecidableEq κ]{K:aE}{F:Addr→Prop}{H:Hp}{k:κ}:∀{kvs:List (κ×D)} {ws:List (κ×V)},bc K F H kvs ws→(kvs.any λkv=>decide (kv.1=k))=(ws.any λkv=>decide (kv.1=k))
 |[],ws,r=>by rw[r.cV];rfl
 |(k',d')::kvs,ws,r=>by
  obtain⟨v',w,rfl,h1,h2⟩:=r.cons_inv;rw[Gdt,Gdt,bc.any h2]
theorem bc.put{κ:Type} [DecidableEq κ]{K:aE}{F:Addr→Prop}{H:Hp}{kvs:List (κ×D)}{ws:List (κ×V)}{k:κ}{d:D}{v:V}(r:bc K F H kvs ws)(hv:Rep K F H d v):bc K F H (put kvs k d) (putK ws k v):=by
 unfold DL.put putK;rw[r.any];split
 ·exact r.over hv
 ·exact r.snoc hv
theorem K7{K:aE}{F:Addr→Prop}{H:Hp}{kvs:List (Key×D)}{a:Addr}(i:Inn K F H (.dK kvs) (.ref a)):∃ws,H a=some (.dK ws)∧bc K F H kvs ws:=by
 cases i with
 |dK h r=>exact⟨_,h,r⟩
theorem K8{K:aE}{F:Addr→Prop}{H:Hp}{kvs:List (List Key×D)}{a:Addr}(i:Inn K F H (.dT kvs) (.ref a)):∃ws,H a=some (.dT ws)∧bc K F H kvs ws:=by
 cases i with
 |dT h r=>exact⟨_,h,r⟩
def Ja:V→V→V→Hp→(Hp→Prop)→Prop:=λo i v H Q=>J1 o i v H Q∨∃a H4,o= .ref a∧wc H a i v H4∧Q H4
theorem HK(hu:X.A.units+1<cLine):LF X Ja:=by
 intro pins s σ H o i v ov iv u Q I ro ri rv h;rcases h with h| ⟨a,H4,rfl,g,q⟩
 ·exact set_list pins s σ H o i v ov iv u Q I ro ri rv h
 ·cases ro;exact CT hu I g ri rv λs4 I4=> ⟨H4,I4,q⟩
noncomputable def Om(td ty tv:TE):TS:=λD σ H=>tv σ H λv H1=>td σ H1 λx H2=>ty σ H2 λy H3=>Ja x y v H3 λH4=>D.nx σ H4
theorem K9{o i value:Expr}{td ty tv:TE}{pos' :Pos}(hu:X.A.units+1<cLine)(ho:PE X o td)(hi:PE X i ty)(hv:PE X value tv)(hs:swapsWith value (some (.Subscript o i pos')) pos.line X.env=pure false):PS X (.Assign [.Subscript o i pos'] value pos) (Om td ty tv):=by
 intro pins s σ H D I h;refine wpAny_Assign_Subscript (thn (hv pins s σ H _ I h) λr s1 ⟨v,H1,I1,rv,q1⟩=>thn (ho pins s1 σ H1 _ I1 q1) λu s2 ⟨x,H2,I2,rx,q2⟩=>thn (hi pins s2 σ H2 _ I2 q2) λiv s3 ⟨y,H3,I3,ry,q3⟩=> ?_) hs;exact thn (HK hu pins s3 σ H3 x y v u iv r _ I3 rx ry rv q3) λ_ s4 ⟨H4,I4,q4⟩=> ⟨σ,H4,I4,q4⟩
theorem oe{Bad:Addr→Prop}{env:Env}{σ:St}{H:Hp}{i:Nat}{a:Addr}{d:D}{o o' :HO}(q:env[i]? =some (some (.own d)))(h1:σ[i]? =some (some (.ref a)))(hH:H a=some o')(hw:isW o'):jc (Cln Bad env σ) H (upd H a o):=λb x hb w=>by
 have:b≠a:=by
  rintro rfl;rcases w with w|w
  ·exact w.2 i (by rw[q];trivial) h1
  ·rw[hH] at hb;cases hb
   cases o' <;>simp[isT] at w<;>exact hw
 rw[ay this];exact hb
theorem nL{i:Nat}{x:Str}{px pos' :Pos}{k value:Expr}{fk fv:DE}(hu:X.A.units+1<cLine)(hN:X.N[i]? =some x)(hv:Vis X.env.scope x)(hk:PEd X k fk)(he:PEd X value fv)(hd:(x==("__debug__":Str))=false:=by decide)(hcd:(x==("__classdict__":Str))=false:=by decide)
  (hs:swapsWith value (some (.Subscript (.Name x px) k pos')) pos.line X.env=pure false:=by rfl):PSd X (.Assign [.Subscript (.Name x px) k pos'] value pos) (sZ i fk fv):=by
 refine(K9 hu (lB hN hv hd hcd) hk he hs).aU ?_;rintro D σ H ⟨H₀,Bad,env,o,E,e,kk⟩;obtain⟨r,hr,e⟩:=bind_some e;obtain⟨y,hy,e⟩:=bind_some e;obtain⟨d,hd,e⟩:=bind_some e;have q:=o6 hd;split at e
 ·rename_i hfree;obtain⟨d',hp,rfl⟩:=Gam.mp e;refine⟨H₀,Bad,env,r,E,hr,λv H1 s1 R=> ?_⟩;have E1:=E.mono s1;obtain⟨a,h1,h2,h3,h4,h5,h6⟩:=E1.ow i _ (.inl q);refine⟨_,h1,H₀,Bad,env,y,E1,hy,λvy H3 s3 Ry=> ?_⟩;have E3:=E1.mono s3;have rep:=(R.rep E hfree).same s3;have i6:=h6.same s3;have iy:=Ry.inn;have fin:∀(o' :HO) (o'' :HO),H3 a=some o'' →isW o'' →isW o' →d'.top=true→Inn X.K (Cln Bad env σ) (upd H3 a o') d' (.ref a)→D.nx σ (upd H3 a o'):=λo' o'' hH hw hw' ht inn=>by
   obtain⟨E4,p4⟩:=E3.change (d' :=d') (o:=o') q h1 hw' ht inn;exact kk σ _ E4 (((Stp.of_same s1).trans (.of_same s3)).trans p4)
  unfold putD at hp;split at hp
  ·rename_i kvs;split at hp
   ·rename_i hz;obtain⟨key,hkey,rfl⟩:=Gam.mp hp;obtain⟨ws,hH,rp⟩:=K7 i6;have hy' :=pq iy hkey;subst hy';refine .inr ⟨a,_,rfl,wc.k hH (by rw[←rp.len,←size_eq];exact hz),fin _ _ hH trivial trivial rfl ?_⟩;exact .dK aM ((rp.put rep).gen (oe q h1 hH trivial) λ_ f _=>f)
   ·cases hp
  ·rename_i kvs;split at hp
   ·rename_i ks hks;split at hp
    ·rename_i hz;obtain⟨key,hkey,rfl⟩:=Gam.mp hp;obtain⟨ws,hH,rp⟩:=K8 i6;rw[hks] at iy;cases iy with
     |tup hb rb=>
      have:=jB rb hkey;subst this;refine .inr ⟨a,_,rfl,wc.t hH hb (by rw[←rp.len,←size_eq];exact hz),fin _ _ hH trivial trivial rfl ?_⟩;exact .dT aM ((rp.put rep).gen (oe q h1 hH trivial) λ_ f _=>f)
    ·cases hp
   ·cases hp
  ·rename_i xs;split at hp
   ·rename_i j hj;rw[hj] at iy;cases iy;obtain⟨vs,hH,rp⟩:=o7 (h4.same s3) i6;split at hp
    ·rename_i hb;cases hp;refine .inl ⟨a,vs,j,j.toNat,rfl,rfl,hH, ?_,fin _ _ hH trivial trivial rfl ?_⟩
     ·unfold ixN;rw[Gai hb.1,Gai (by rw[←rp.1];exact hb.2)]
     ·exact .lst (.inl aM) ((rp.set rep j.toNat).gen (oe q h1 hH trivial) λ_ f _=>f)
    ·split at hp
     ·rename_i hb;cases hp;refine .inl ⟨a,vs,j,(j+xs.length).toNat,rfl,rfl,hH, ?_,fin _ _ hH trivial trivial rfl ?_⟩
      ·unfold ixN;rw[Gag (by omega),Gai (by rw[←rp.1];omega),rp.1]
      ·exact .lst (.inl aM) ((rp.set rep _).gen (oe q h1 hH trivial) λ_ f _=>f)
     ·cases hp
   ·cases hp
  ·cases hp
 ·cases e
theorem lP:PEd X (.Dict [] [] pos) pb:=wg.aU λσ H Q ⟨_,_,_,_,E,e,k⟩ p n=>by
 cases e;exact k _ _ (bG n) ⟨p,rfl,n,⟨_,aM,trivial⟩,rfl,.dT aM .nil⟩
end
open PySem PySem.Spec PyProof.Rows L2
open PySem.W (KasT kas_rev kas_asc kas_desc kas_tail3 kas_descPart kas_count kas_place kas_bin kas_sort)
section
variable{rk:Nat→Int}{N:Nat}
def Ord(N:Nat)(p:Array Nat):Prop:=p.toList.Perm (List.range N)
theorem Ord.size{p:Array Nat}(h:Ord N p):p.size=N:=by
 have:=List.Perm.length_eq h
 simpa using this
theorem Ord.lt{p:Array Nat}(h:Ord N p){i:Nat}(hN:0<N):p.getD i 0<N:=by
 by_cases hi:i<p.size
 ·have e:p.getD i 0=p[i]:=by simp[Array.getD,hi]
  rw[e];have m:p[i]∈p.toList:=by simp
  exact GbJ.mp (h.mem_iff.mp m)
 ·have e:p.getD i 0=0:=by simp[Array.getD,hi]
  rw[e];exact hN
noncomputable def Ka(rk:Nat→Int)(p:Array Nat)(i:Nat):Int:=rk (p.getD i 0)
def Up(rk:Nat→Int)(p:Array Nat)(k:Nat):Prop:=∀u v,u≤v→v<k→Ka rk p u≤Ka rk p v
end
open PySem PySem.Spec PyProof.Rows L2
open PySem.W (KatLex KatTups kas_sort kas_ask kat_kind kat_lt kat_one kat_run kat_snds BoolBack kat_lt_int)
def FlV:D→Value→Prop
 | .non,v=>v= .none
 | .int i,v=>∃t,v= .int i t
 | .str x,v=>∃t,v= .str x t
 |_,_=>False
def og(h:Heap):D→Value→Prop
 | .int i,v=>∃t,v= .int i t
 | .tup fs,v=>∃a o n us,v= .ref a∧h.get? a=some o∧o.cls= .type "tuple"∧o.data= .seq (List.toArray us) n∧Paired FlV fs us
 |_,_=>False
theorem og.keep{h h' :Heap}{d:D}{v:Value}(k:og h d v)(e:∀b o,h.get? b=some o→h'.get? b=some o):og h' d v:=by
 cases d with
 |int i=>exact k
 |tup fs=>obtain⟨a,o,n,us,h1,h2,h3⟩:=k;exact⟨a,o,n,us,h1,e _ _ h2,h3⟩
 |_=>exact k
theorem pW{α β:Type}{R S:α→β→Prop}(h:∀a b,R a b→S a b):∀{xs:List α} {ys:List β},Paired R xs ys→Paired S xs ys
 |_,_,.nil=> .nil
 |_,_,.cons p t=> .cons (h _ _ p) (pW h t)
theorem HL{xs ys:List Nat}(h:xs.map Int.ofNat=ys.map Int.ofNat):xs=ys:=by
 induction xs generalizing ys with
 |nil=>cases ys with
  |nil=>rfl
  |cons=>simp at h
 |cons x xs ih=>cases ys with
  |nil=>simp at h
  |cons y ys=>
   simp only[Gap,Gcs] at h;rw[ih h.2,Int.ofNat_inj.mp h.1]
theorem HM{x y:Str}(h:x.cps.toList=y.cps.toList):x=y:=by
 cases x;cases y
 simp only at h;rw[GcB.mp h]
theorem pw{a b:D}(ha:mM a=true)(hb:mM b=true)(h:b8 a=b8 b):a=b:=by
 cases a<;>cases b<;>simp[mM,tyD] at ha hb<;>simp[b8] at h
 ·rfl
 ·rw[h]
 ·have:=HM (HL h);rw[this]
theorem uk:∀{as bs:List D},as.all mM=true→bs.all mM=true→as.map b8=bs.map b8→as=bs
 |[],[],_,_,_=>rfl
 |[],_::_,_,_,h=>by simp at h
 |_::_,[],_,_,h=>by simp at h
 |a::as,b::bs,ha,hb,h=>by
  rw[GbI,Gau] at ha hb;simp only[Gap,Gcs] at h;rw[pw ha.1 hb.1 h.1,uk ha.2 hb.2 h.2]
theorem Kb{a:D}{t:Nat}(h:(tyD a==t)=true)(ht:t≠3):mM a=true:=by
 unfold mM;rw[GcT] at h;rw[h]
 simpa using ht
theorem mF{t:Nat}{d:D}(ht:t≠3)(h:mN t d=true):∃f r,d= .tup (f::r)∧tyD f=t∧(f::r).all mM=true:=by
 unfold mN at h;split at h
 ·rename_i f r;rw[Gau] at h;refine⟨f,r,rfl,GcT.mp h.1, ?_⟩;rw[GbI,Gau];exact⟨Kb h.1 ht,h.2⟩
 ·cases h
theorem k9{d:D}(h:D0 d=true):∃i,d= .int i:=by
 unfold D0 at h;split at h
 ·exact⟨_,rfl⟩
 ·cases h
theorem F8{ds:List D}(h:keysOk ds=true):∀a∈ds,∀b∈ds,code a=code b→a=b:=by
 intro a ha b hb e;unfold keysOk at h;rw[Gbd,Gau,Gbd] at h;have tup:∀t,t≠3→ds.all (mN t)=true→a=b:=λt ht hk=>by
  obtain⟨f,r,rfl,_,q1⟩:=mF ht (Gat.mp hk a ha);obtain⟨f',r',rfl,_,q2⟩:=mF ht (Gat.mp hk b hb);rw[uk q1 q2 e]
 rcases h with h| ⟨h|h,_⟩
 ·obtain⟨i,rfl⟩:=k9 (Gat.mp h a ha);obtain⟨j,rfl⟩:=k9 (Gat.mp h b hb);simp[code,b8] at e;rw[e]
 ·exact tup 1 (by decide) h
 ·exact tup 2 (by decide) h
theorem BZ{i j:Int}:fZ ltI (b8 (.int i)) (b8 (.int j))=decide (i<j):=by
 unfold b8;simp only[fZ,Gbi];by_cases e:i=j
 ·subst e;simp
 ·rw[Gag e];rfl
theorem C0:∀(xs ys:List Nat),fZ ltI (xs.map Int.ofNat) (ys.map Int.ofNat)=decide (xs<ys)
 |[],[]=>by simp[fZ]
 |[],y::ys=>by simp[fZ]
 |x::xs,[]=>by simp[fZ]
 |x::xs,y::ys=>by
  simp only[Gap,fZ];by_cases e:x=y
  ·subst e;rw[Gai rfl,C0 xs ys];simp[List.cons_lt_cons_iff]
  ·rw[Gag (λz:Int.ofNat x=Int.ofNat y=>e (Int.ofNat_inj.mp z))];have:(x::xs<y::ys)↔x<y:=by rw[List.cons_lt_cons_iff];simp[e]
   unfold ltI;simp[this]
theorem HP{x y:Str}:fZ ltI (b8 (.str x)) (b8 (.str y))=decide (x.cps.toList<y.cps.toList):=by
 unfold b8;simp only[fZ,Gbi];exact C0 _ _
section
variable{prog:Program}{w:World}{A:Around}{E:Value→Shared→Prop}{s:Shared}
theorem ML{a b:D}{u v:Value}{Q:Bool→Shared→Prop}(ha:FlV a u)(hb:FlV b v)(ht:tyD a=tyD b)(h:Q (decide (b8 a=b8 b)) s):wpAny (model prog w) A (eqBool u v) Q E s:=by
 cases a<;>cases b<;>simp[tyD] at ht<;>try exact ha.elim
 ·cases ha;cases hb
  unfold eqBool;refine GbQ ?_;simp only[b8,decide_true] at h;rw[Gai (by rfl)];exact Gaa (GbR (Gad h))
 ·obtain⟨t,rfl⟩:=ha;obtain⟨t',rfl⟩:=hb;refine wpAny_eqBool_int ?_;rename_i i j;have e:decide (b8 (.int i)=b8 (.int j))=(i==j):=by
   simp only[b8];by_cases q:i=j
   ·subst q;simp
   ·simp[q]
  rw[e] at h;exact h
 ·obtain⟨t,rfl⟩:=ha;obtain⟨t',rfl⟩:=hb;refine eqBool_str ?_;rename_i i j;have e:decide (b8 (.str i)=b8 (.str j))=(i==j):=by
   by_cases q:i=j
   ·subst q;simp
   ·have:¬b8 (.str i)=b8 (.str j):=λz=>q (by
     have:=pw (a:= .str i) (b:= .str j) rfl rfl z;cases this;rfl)
    simp[q,this]
  rw[e] at h;exact h
theorem MM{a b:D}{u v:Value}{one:Bool}{Q:Bool→Shared→Prop}(ha:FlV a u)(hb:FlV b v)(ht:tyD a=tyD b)(hk:tyD a=1∨tyD a=2)(h:Q (fZ ltI (b8 a) (b8 b)) s):wpAny (model prog w) A (oneLt' one u v) Q E s:=by
 cases a<;>cases b<;>simp[tyD] at ht hk
 ·obtain⟨t,rfl⟩:=ha;obtain⟨t',rfl⟩:=hb;rw[BZ] at h;cases one with
  |true=>exact oneLt_int h
  |false=>exact kat_one _ _ (PyProof.Rows.lt_int h)
 ·obtain⟨t,rfl⟩:=ha;obtain⟨t',rfl⟩:=hb;rw[HP] at h;cases one with
  |true=>exact oneLt_str h
  |false=>exact kat_one _ _ (PyProof.Rows.lt_str h)
theorem F9{b fin:Bool}{Q:Bool→Shared→Prop}:∀{as bs:List D} {us vs:List Value} (i:Nat),Paired FlV as us→Paired FlV bs vs→mR as bs=true→fin=decide (as.length<bs.length)→Q (ltC (as.map b8) (bs.map b8)) s→KatLex prog w A b fin Q (us.zip vs) i s
 |[],[],_,_,i,.nil,.nil,_,hf,h=>by
  have h' :Q fin s:=by rw[hf];exact h
  exact h'
 |[],_::_,_,_,i,.nil,.cons _ _,_,hf,h=>by
  have h' :Q fin s:=by rw[hf,GaN (by simp)];exact h
  exact h'
 |_::_,[],_,_,i,.cons _ _,.nil,_,hf,h=>by
  have h' :Q fin s:=by rw[hf,GaS (by simp)];exact h
  exact h'
 |a::as,c::cs,_,_,i,.cons (b:=u) ha ta,.cons (b:=v) hb tb,hc,hf,h=>by
  unfold mR at hc;have h0:ltC ((a::as).map b8) ((c::cs).map b8)=if b8 a=b8 c then ltC (as.map b8) (cs.map b8) else fZ ltI (b8 a) (b8 c):=rfl
  rw[h0] at h;have ht:tyD a=tyD c:=by
   split at hc
   ·rename_i e;cases a<;>cases c<;>simp[b8] at e<;>first|rfl|exact ha.elim|exact hb.elim
   ·rw[Gau] at hc;exact GcT.mp hc.1
  show wpAny _ _ (eqBool u v) _ _ s;refine ML ha hb ht ?_;by_cases e:b8 a=b8 c
  ·rw[GaN e,Gai rfl];rw[Gai e] at h hc;exact F9 (i+1) ta tb hc (by rw[hf];simp) h
  ·rw[GaS e,Gag Gav];rw[Gag e] at h hc;rw[Gau,Gbd] at hc;exact MM ha hb ht (hc.2.imp GcT.mp GcT.mp) h
theorem Fb{ds:List D}{vs:List Value}{κ:SortKind}(hK:Paired (og s.heap) ds vs)(hok:keysOk ds=true)(hκ:(ds.all D0=true∧κ=oneType')∨((ds.all (mN 1)||ds.all (mN 2))=true∧(ds.all λx=>ds.all λy=>wq x y)=true∧κ=tuples' true)):
  ∀i j C,i<ds.length→j<ds.length→C (decide (rank (ds.map code) i<rank (ds.map code) j)) s→kas_ask prog w A κ vs i j C s:=by
 intro i j C hi hj h;have hl:=hK.length;rw[BJ (by simpa using hi) (by simpa using hj)] at h;simp only[Gcm] at h;unfold kas_ask;have gi:vs.getD i Value.none=vs[i]:=by simp[←hl,hi]
 have gj:vs.getD j Value.none=vs[j]:=by simp[←hl,hj]
 rw[gi,gj];have at_:∀{ds:List D} {vs:List Value},Paired (og s.heap) ds vs→∀(i:Nat) (h1:i<ds.length) (h2:i<vs.length),og s.heap ds[i] vs[i]:=by
  intro ds vs hK;induction hK with
  |nil=>intro i h1;simp at h1
  |cons h t ih=>
   intro i h1 h2;cases i with
   |zero=>exact h
   |succ i=>exact ih i (by simpa using h1) (by simpa using h2)
 have ki:=at_ hK i hi (by omega);have kj:=at_ hK j hj (by omega);rcases hκ with⟨a1,rfl⟩| ⟨a1,a2,rfl⟩
 ·obtain⟨x,hx⟩:=k9 (Gat.mp a1 ds[i] (GaD hi));obtain⟨y,hy⟩:=k9 (Gat.mp a1 ds[j] (GaD hj));rw[hx] at ki h;rw[hy] at kj h;obtain⟨t,ei⟩:=ki;obtain⟨t',ej⟩:=kj;rw[ei,ej];refine kat_lt_int ?_;have e:ltC (code (.int x)) (code (.int y))=decide (x<y):=by
   show fZ (fZ ltI) [b8 (.int x)] [b8 (.int y)]=_;unfold fZ;split
   ·rename_i z;have:=pw (a:= .int x) (b:= .int y) rfl rfl z;cases this;simp[fZ]
   ·exact BZ
  rw[e] at h;exact h
 ·have tup:∀d∈ds,∃fs,d= .tup fs:=λd hd=>by
   rw[Gbd] at a1;rcases a1 with a1|a1
   ·obtain⟨f,r,e,_⟩:=mF (by decide) (Gat.mp a1 d hd);exact⟨_,e⟩
   ·obtain⟨f,r,e,_⟩:=mF (by decide) (Gat.mp a1 d hd);exact⟨_,e⟩
  have cm:=Gat.mp (Gat.mp a2 ds[i] (GaD hi)) ds[j] (GaD hj);obtain⟨xs,hx⟩:=tup ds[i] (GaD hi);obtain⟨ys,hy⟩:=tup ds[j] (GaD hj);rw[hx] at ki h cm;rw[hy] at kj h cm;obtain⟨a,o,n,us,ei,h1,h2,h3,h4⟩:=ki;obtain⟨a',o',n',us',ej,h1',h2',h3',h4'⟩:=kj;rw[ei,ej];refine kat_lt h1 h3 h1' h3' ?_;exact F9 0 h4 h4' cm (by rw[Gan,Gan,h4.length,h4'.length]) h
theorem pz{t:Nat}(ht:t≠3):∀{ds:List D} {vs:List Value},Paired (og s.heap) ds vs→ds.all (mN t)=true→∃fs:List Value,∃gs:List D,KatTups s.heap vs fs∧Paired FlV gs fs∧(∀g∈gs,tyD g=t)∧fs.length=vs.length
 |[],_,.nil,_=> ⟨[],[],trivial,.nil,(by intro g hg;cases hg),rfl⟩
 |d::ds,_,.cons h tl,hk=>by
  rw[GbI,Gau] at hk;obtain⟨fs,gs,h1,h2,h3,h4⟩:=pz ht tl hk.2;obtain⟨f,r,rfl,q1,q2⟩:=mF ht hk.1;obtain⟨a,o,n,us,rfl,g1,g2,g3,g4⟩:=h;cases g4 with
  |cons p t=>
   refine⟨_::fs,f::gs,KatTups.cons g1 g2 g3 (by simp) h1,.cons p h2,λg hg=> ?_,by simp[h4]⟩;rcases Gay.mp hg with e|e
   ·subst e;exact q1
   ·exact h3 g e
theorem C1{M:Model}{h:Heap}{d:D}{v:Value}{t:Nat}(hd:FlV d v)(ht:tyD d=t):(t=1→PySem.W.Looks M h (typeOf v) (.type "int"))∧(t=2→PySem.W.Looks M h (typeOf v) (.type "str")):=by
 subst ht;cases d<;>simp[tyD]<;>try exact hd.elim
 ·obtain⟨u,rfl⟩:=hd;exact PySem.W.Looks.of_pure rfl
 ·obtain⟨u,rfl⟩:=hd;exact PySem.W.Looks.of_pure rfl
theorem Dd{ds:List D}{vs:List Value}{Q:SortKind→Shared→Prop}(hK:Paired (og s.heap) ds vs)(hok:keysOk ds=true)(h2:2≤ds.length)
  (h:∀κ,((ds.all D0=true∧κ=oneType')∨((ds.all (mN 1)||ds.all (mN 2))=true∧(ds.all λx=>ds.all λy=>wq x y)=true∧κ=tuples' true))→Q κ s):wpAny (model prog w) A (keyKind' vs.toArray) Q E s:=by
 have hl:=hK.length;unfold keysOk at hok;rw[Gbd,Gau] at hok;rcases hok with hok| ⟨hok,hc⟩
 ·have ia:∀{ds:List D} {vs:List Value},Paired (og s.heap) ds vs→ds.all D0=true→∃ns,IntsAre vs ns:=by
   intro ds vs hK;induction hK with
   |nil=>intro _;exact⟨[],.nil⟩
   |cons p t ih=>
    intro hk;rw[GbI,Gau] at hk;obtain⟨ns,q⟩:=ih hk.2;obtain⟨i,rfl⟩:=k9 hk.1;obtain⟨u,rfl⟩:=p;exact⟨i::ns,.cons i u q⟩
  obtain⟨ns,q⟩:=ia hK hok
  match vs,hl,q with
  |[],e,_=>rw[Gce] at e;omega
  |[_],e,_=>rw[List.length_singleton] at e;omega
  |v1::v2::vr,_,q=>
   rw[keyKind_ints q];exact Gad (h _ (.inl ⟨hok,rfl⟩))
 ·have hok' :=hok;rw[Gbd] at hok';rcases hok' with a1|a1
  ·obtain⟨fs,gs,q1,q2,q3,q4⟩:=pz (s:=s) (by decide) hK a1;refine kat_kind (T:= .type "int") q1 (by rw[q4,←hl];omega) (λv hv=> ?_) (by rfl) (h _ (.inr ⟨hok,hc,rfl⟩));obtain⟨g,hg,hgv⟩:∃g∈gs,FlV g v:=by
    clear q1 q3 q4;induction q2 with
    |nil=>cases hv
    |cons p t ih=>
     rcases Gay.mp hv with e|e
     ·subst e;exact⟨_,Gao,p⟩
     ·obtain⟨g,h1,h2⟩:=ih e;exact⟨g,Gaj _ h1,h2⟩
   exact(C1 hgv (q3 g hg)).1 rfl
  ·obtain⟨fs,gs,q1,q2,q3,q4⟩:=pz (s:=s) (by decide) hK a1;refine kat_kind (T:= .type "str") q1 (by rw[q4,←hl];omega) (λv hv=> ?_) (by rfl) (h _ (.inr ⟨hok,hc,rfl⟩));obtain⟨g,hg,hgv⟩:∃g∈gs,FlV g v:=by
    clear q1 q3 q4;induction q2 with
    |nil=>cases hv
    |cons p t ih=>
     rcases Gay.mp hv with e|e
     ·subst e;exact⟨_,Gao,p⟩
     ·obtain⟨g,h1,h2⟩:=ih e;exact⟨g,Gaj _ h1,h2⟩
   exact(C1 hgv (q3 g hg)).2 rfl
theorem wM{l:Addr}{o:Obj}{vs:List Value}{n:Nat}{T:String}{Q:List Value→Shared→Prop}(ho:s.heap.get? l=some o)(hc:o.cls= .type T)(hT:T="list"∨T="tuple")(hd:o.data= .seq vs.toArray n)
  (h:Q vs {s with heap:=(s.heap.push (seqObj "list" #[] 0)).update s.heap.objs.size (Obj.mapSeq (· ++vs.toArray))})(hsz:vs.length≤sizeLine):wpAny (model prog w) A (collect (.ref l)) Q E s:=by
 unfold collect;refine Gaa (wpAny_runValue (GcX entry_proto_collect' ?_));show wpAny _ _ (newList []>>=λl0=>again (.builtin "list.__iadd__" ⟨[l0,.ref l],[]⟩)) _ _ s;refine Gaa (wpAny_newList (Gad ⟨Code.quiet_builtin _ (by decide+kernel),GcX entry_list_iadd' ?_⟩));show wpAny _ _ (Builtin.List.listExtendWith (.ref s.heap.objs.size) (.ref l) (.ref s.heap.objs.size)) _ _ {s with heap:=s.heap.push (seqObj "list" #[] 0)};unfold Builtin.List.listExtendWith;have hol:(s.heap.push (seqObj "list" #[] 0)).get? l=some o:=Gah _ ho;refine Gaa (wpAny_typeOf (T:=T) ⟨o,hol,hc⟩ ?_);rw[Gai (by rcases hT with rfl|rfl<;>simp<;>first|(left;right;rfl)|(right;rfl)|rfl)];refine Gaa (listItems_at hol hd ?_);refine Gaa (listItems_at (xs:=#[]) (n:=0) (Gaz _ rfl) rfl ?_);rw[Gag (by simp)];refine Gaa (listUpdate_at (xs:=#[]) (n:=0) (Gaz _ rfl) rfl ?_ (GbH _) (by simp only[Array.size_append,Gan,Gce];omega));refine Gad ?_;show wpAny (model prog w) A (load s.heap.objs.size>>=λo=>match o.data with
   | .seq xs _=>pure xs.toList
   |_=>unsupported "internal:collect") Q E {s with heap:=(s.heap.push (seqObj "list" #[] 0)).update s.heap.objs.size (Obj.mapSeq (· ++vs.toArray))}
 refine Gaa (wpAny_load (get?_update_seq (Gaz _ rfl) _) ?_);have e:((#[]:Array Value)++vs.toArray).toList=vs:=by simp
 show wpAny _ _ (pure ((#[]:Array Value)++vs.toArray).toList) Q E _;rw[e];exact Gad h
end
section
variable{X:Cx}
theorem MN{K:aE}{F:Addr→Prop}{H:Hp}{d:D}{v:V}{u:Value}(r:Rep K F H d v)(hf:mM d=true)(ru:RelV v u):FlV d u:=by
 cases r<;>simp[mM,tyD] at hf
 ·cases ru;rfl
 ·exact ru
 ·exact ru
theorem Fc{K:aE}{F:Addr→Prop}{H:Hp}:∀{ds:List D} {vs:List V} {us:List Value},b4 K F H ds vs→ds.all mM=true→Vals vs us→Paired FlV ds us
 |[],vs,us,r,_,ru=>by
  have:=r.cV;subst this;cases ru;exact .nil
 |d::ds,vs,us,r,hf,ru=>by
  obtain⟨v,w,rfl,h1,h2⟩:=r.cons_inv;rw[GbI,Gau] at hf;cases ru with
  |cons r1 r2=>exact .cons (MN h1 hf.1 r1) (Fc h2 hf.2 r2)
noncomputable def isKey(d:D):Bool:=match d with
 | .int _=>true
 | .tup fs=>fs.all mM
 |_=>false
theorem nE{pins:List (Addr×Obj)}{σ:St}{F:Addr→Prop}{H:Hp}{s:Shared}{d:D}{v:V}{u:Value}(I:Inv X pins σ H s)(r:Rep X.K F H d v)(hk:isKey d=true)(ru:RelV v u):og s.heap d u:=by
 cases r<;>simp[isKey] at hk
 ·exact ru
 ·rename_i a vs fs h l r;cases ru;obtain⟨its,rv,⟨o,h1,h2,n,h3⟩,_⟩:=I.tuple (SqT.of h);exact⟨a,o,n,its,rfl,h1,h2,h3,Fc ⟨l,r⟩ (Gat.mpr hk) rv⟩
theorem C2{pins:List (Addr×Obj)}{σ:St}{F:Addr→Prop}{H:Hp}{s:Shared}(I:Inv X pins σ H s):∀{ds:List D} {vs:List V} {us:List Value},b4 X.K F H ds vs→ds.all isKey=true→Vals vs us→Paired (og s.heap) ds us
 |[],vs,us,r,_,ru=>by
  have:=r.cV;subst this;cases ru;exact .nil
 |d::ds,vs,us,r,hf,ru=>by
  obtain⟨v,w,rfl,h1,h2⟩:=r.cons_inv;rw[GbI,Gau] at hf;cases ru with
  |cons r1 r2=>exact .cons (nE I h1 hf.1 r1) (C2 I h2 hf.2 r2)
theorem Fd{ds:List D}(h:keysOk ds=true):ds.all isKey=true:=by
 unfold keysOk at h;rw[Gbd,Gau,Gbd] at h;refine Gat.mpr λd hd=> ?_;have tup:∀t,t≠3→ds.all (mN t)=true→isKey d=true:=λt ht hk=>by
  obtain⟨f,r,rfl,_,q1⟩:=mF ht (Gat.mp hk d hd);exact q1
 rcases h with h| ⟨h|h,_⟩
 ·obtain⟨i,rfl⟩:=k9 (Gat.mp h d hd);rfl
 ·exact tup 1 (by decide) h
 ·exact tup 2 (by decide) h
theorem range_getD{α:Type}{xs:List α}{d:α}:(List.range xs.length).map (λi=>xs.getD i d)=xs:=by
 apply List.ext_getElem
 ·simp
 ·intro i h1 h2;simp[h2]
theorem rD{α:Type}{xs:List α}{d:α}{p:Array Nat}(h:Ord xs.length p):(p.toList.map λi=>xs.getD i d).Perm xs:=by
 have:=Gdu (λi=>xs.getD i d) h;rw[range_getD] at this;exact this
theorem Fe{n:Nat}{p:Array Nat}(h:Ord n p){i:Nat}(hi:i<p.toList.length):p.toList[i]<n:=GbJ.mp (h.mem_iff.mp (GaD hi))
theorem AZ{ds:List D}{p:Array Nat}(h:Ord ds.length p)(hu:Up (rank (ds.map code)) p ds.length):fL (p.toList.map λi=>ds.getD i .non):=by
 refine Gcx.mpr λi j hi hj hij=> ?_;rw[Gaf] at hi hj;rw[Gcm,Gcm];have bi:=Fe h hi;have bj:=Fe h hj;have hs:=h.size;have hi' :i<p.size:=by simpa using hi
 have hj' :j<p.size:=by simpa using hj
 have u:=hu i j (GdC hij) (by omega);unfold Ka at u;have ei:p.getD i 0=p.toList[i]:=by simp[Array.getD,hi']
 have ej:p.getD j 0=p.toList[j]:=by simp[Array.getD,hj']
 rw[ei,ej] at u;have r:=BJ (cs:=ds.map code) (i:=p.toList[j]) (j:=p.toList[i]) (by simpa using bj) (by simpa using bi);rw[GaS (Int.not_lt.mpr u)] at r;simp only[Gcm] at r;have gd:∀{k:Nat} (hk:k<ds.length),ds.getD k .non=ds[k]:=λ{k} hk=>by simp[hk]
 have gi:=gd bi;have gj:=gd bj;rw[gi,gj];exact r.symm
theorem Ff{K:aE}{F:Addr→Prop}{H:Hp}{ds:List D}{vs:List V}{p:Array Nat}(h:Ord ds.length p)(r:b4 K F H ds vs):b4 K F H (p.toList.map λi=>ds.getD i .non) (p.toList.map λi=>vs.getD i .non):=by
 refine⟨by simp,λi d v e1 e2=> ?_⟩;rw[Gak] at e1 e2;cases q:p.toList[i]? with
 |none=>rw[q] at e1;cases e1
 |some k=>
  rw[q] at e1 e2;have hk:k<ds.length:=GbJ.mp (h.mem_iff.mp (GaK q));have hk2:k<vs.length:=by rw[←r.1];exact hk
  cases e1;cases e2
  exact r.2 k _ _ (by simp[hk]) (by simp[hk2])
theorem Fg{vs:List V}{us:List Value}{p:Array Nat}(h:Ord vs.length p)(r:Vals vs us):Vals (p.toList.map λi=>vs.getD i .non) (p.toList.map λi=>us.getD i Value.none):=by
 have hl:=r.length;have all:∀(l:List Nat),(∀i∈l,i<vs.length)→Vals (l.map λi=>vs.getD i .non) (l.map λi=>us.getD i Value.none):=by
  intro l;induction l with
  |nil=>intro _;exact .nil
  |cons i l ih=>
   intro hm;have hi:=hm i Gao;obtain⟨u,hu,ru⟩:=r.get (x:=vs[i]) (i:=i) (by simp[hi]);refine .cons ?_ (ih λj hj=>hm j (Gaj _ hj));have e1:vs.getD i .non=vs[i]:=by simp[hi]
   have e2:us.getD i Value.none=u:=by simp[hu]
   show RelV (vs.getD i .non) (us.getD i Value.none);rw[e1,e2];exact ru
 exact all _ λi hi=>GbJ.mp (h.mem_iff.mp hi)
end
open PySem PySem.Spec PyProof.Rows L2
section
variable{X:Cx}{e a b c:Expr}{f g h:DE}{pos:Pos}
theorem _root_.L2.Inv.rE{pins:List (Addr×Obj)}{σ:St}{H:Hp}{s s' :Shared}{ch:List Addr}{T:Addr}{o:HO}(I:Inv X pins σ H s)(hf:∀b∈ch,nC X pins H b)(hos:s'.os=s.os)(hg:s'.gens=s.gens)
  (k:∀b u,b∉ch→s.heap.get? b=some u→s'.heap.get? b=some u)(hT:s.heap.objs.size≤T)(new:cz X.prog X.w (upd H T o) s'.heap T o):Inv X pins σ (upd H T o) s' :=by
 have hn:H T=none:=I.hok.fresh hT;have ne:∀{b u},H b=some u→b≠T:=λ{b u} q=>dQ q hn;refine I.IV (ch:=ch) hos ⟨λb ob q _ _ hx=>k b ob hx q,λb ob q _ _ hx=> ⟨ob.slots,k b ob hx q⟩,λb ob q n _=> ?_,λb ob q hx=> ⟨ob,k b ob hx q⟩,λb xs q=> ?_,λb ob u q=> ?_,λb ps q=> ⟨#[], ?_⟩⟩ ?_ (by rw[hg];exact I.bare) λb hb=> ⟨(hf b hb).2.2.2.1,(hf b hb).2.1,(hf b hb).2.2.2.2.1,(hf b hb).2.2.2.2.2⟩
 ·rw[ay (GaI (GaT (Gas q) hT))];exact n
 ·rw[ay (ne q)];exact q
 ·rw[ay (ne q)];exact q
 ·rw[ay (ne q),q];simp
 ·intro b u q;by_cases hb:b=T
  ·subst hb;rw[aM] at q;cases q;exact new
  ·rw[ay hb] at q;have tr:∀{c v},H c=some v→c∉ch:=λ{c v} z hc=>by rw[(hf c hc).1] at z;cases z
   refine(I.hok b u q).dN (λc v hc z=>k c v ?_ z) (λc z=>by rw[ay (ne z)];exact z) λc xs z=>by rw[ay (ne z)];exact z
   rcases hc with hc|hc
   ·rw[hc];exact tr q
   ·exact tr hc
noncomputable def Ite(K:aE)(l:Addr):It:=
 ⟨λi H=>∃xs x,SqL K H l xs∧xs[i]? =some x,λi H x H' =>∃p y,H p=none∧x= .ref p∧H' =upd H p (.tup [.int i,y])∧∀xs,SqL K H l xs→xs[i]? =some y,λi H=>∃xs,SqL K H l xs∧xs.length≤i⟩
theorem De{P:Program}{w:World}{K:aE}{elts:List Expr}{x1}{tp:Pos}(en it l:Addr)(hne:en≠it):Turn P w K (.Tuple elts x1 tp) (Ite K l) [en,it] en (λi h=>(∃old,IsEnum h en it i old)∧h.IsListIter it l i) where
 mem:=by simp
 obj:=λi h st b hb=>by
  obtain⟨⟨old,he⟩,o,e,c,d⟩:=st;rcases Gay.mp hb with z|z
  ·subst z;exact⟨_,he,λv z=>by
    have z' :Data.fields _=Data.cell v:=z;cases z'⟩
  ·have z' :b=it:=by simpa using z
   subst z';exact⟨o,e,λv z=>by rw[d] at z;cases z⟩
 keep:=λi h h' st k=> ⟨let⟨old,he⟩:=st.1;⟨old,k en (by simp) _ he⟩,st.2.at λo e=>k it (by simp) o e⟩
 item:=by
  intro X hP hw hK hc i pins s σ H E I hf st hg;subst hP hw hK;obtain⟨⟨old,he⟩,hit⟩:=st;obtain⟨xs,x,hq,hx⟩:=hg;obtain⟨its,rv,p,hz⟩:=I.list hq;obtain⟨u,hu,ru⟩:=rv.get hx;refine wpAny_pyNext_enum_item he hit p.isList (x:=u) (by simpa using hu) hne λh' ho hit' hT hsz kk=> ⟨_,rfl, ?_⟩;refine wpAny_letOwnedTupleGo_enum (s:={s with heap:=h',toks:=s.toks+1}) ho λh2 he2 sb=> ?_;have hltE:en<s.heap.objs.size:=Gas he;have kept:∀b o,b∉[en,it]→s.heap.get? b=some o→h2.get? b=some o:=λb o hb e=>by
   have b1:b≠en:=λz=>hb (by simp[z]);have b2:b≠it:=λz=>hb (by simp[z]);exact(sb.2 b b1).trans (kk b o b1 b2 e)
  have hT2:h2.get? s.heap.objs.size=some {cls:= .type "tuple",data:= .seq #[.int i s.toks,u]}:=(sb.2 _ (Gcc hltE)).trans hT;have I1:Inv X pins σ (upd H s.heap.objs.size (.tup [.int i,x])) {s with heap:=h2,toks:=s.toks+1}:=I.rE (ch:=[en,it]) hf rfl rfl kept (Gar _) (by
   refine⟨by simp[GbP],[.int i s.toks,u],.cons ⟨_,rfl⟩ (.cons ru .nil),_,hT2,rfl,0,rfl⟩)
  refine⟨.ref s.heap.objs.size,_,I1,rfl,⟨_,x,I.fresh,rfl,rfl,λys hy=>by rw[I.vX hy hq];exact hx⟩,⟨⟨u,by simpa using he2⟩,hit'.at λo e=>(sb.2 it (GaY hne)).trans e⟩,λb hb=> ?_⟩;obtain⟨o,ob,_⟩:∃o,s.heap.get? b=some o∧True:=by
   rcases Gay.mp hb with z|z
   ·subst z;exact⟨_,he,trivial⟩
   ·have z' :b=it:=by simpa using z
    subst z';obtain⟨o,e,_⟩:=hit;exact⟨o,e,trivial⟩
  rw[ay (GaI (Gas ob))];exact(hf b hb).1
 done:=by
  intro X hP hw hK hc i pins s σ H E I hf st hg;subst hP hw hK;obtain⟨⟨old,he⟩,hit⟩:=st;obtain⟨xs,hq,hx⟩:=hg;obtain⟨its,rv,p,hz⟩:=I.list hq;obtain⟨f0,f1,f2,f3,f4,f5⟩:=hf it (by simp);have hl:=rv.length;exact wpAny_pyNext_enum_end (I.ok.hd hc) he hit p.isList (by simp;omega) λh' eb=> ⟨rfl,I.turned (t' :=s.toks) (λb o hb e=>eb b o hb e) f0 f1 f3 f4 f5⟩
 self:=λ_ _ _ _ _ st h=>let⟨old,he⟩:=st.1;Gdm he h
theorem Fh{prog:Program}{w:World}{A:Around}{E:Value→Shared→Prop}{z:Shared}{it t:Addr}{i:Nat}{its:Array Value}{x:Value}{Q:Value→Shared→Prop}(hit:z.heap.IsTupleIter it t i)(ht:z.heap.IsTuple t its)(hx:its[i]? =some x)
  (hQ:∀h',h'.IsTupleIter it t (i+1)→Heap.SameBut it z.heap h' →Q x {z with heap:=h' }):wpAny (model prog w) A (Builtin.SmallTypes.nextOf (.ref it)) Q E z:=by
 obtain⟨o,ho,hc,hd⟩:=id hit;obtain⟨ol,hol,_,nl,hdl⟩:=ht;unfold Builtin.SmallTypes.nextOf;refine Gaa (Gbm (name:=Str.ofString "__next__") hit.typeIs Gcu (Gbj Gcu hit.typeIs F.entry_tuple_iterator_next ?_ (F.args_tuple_iterator_next_1 _)));show wpAny _ _ (field (.ref it) 0>>=_) _ _ z;refine Gaa (Gby ho hd (x:= .ref t) rfl ?_);show wpAny _ _ (if(Value.ref t==Value.none)=true then _ else _) _ _ z;rw[Gag (by simp)];show wpAny _ _ (field (.ref it) 1>>=_) _ _ z;refine Gaa (Gby ho hd (x:= .int i 0) rfl ?_);show wpAny _ _ (seqItems? (.ref t)>>=_) _ _ z;refine Gaa (GcO hol hdl ?_);simp only[GaL,hx];refine Gaa (Gde ho hd (by simp) (Gad ⟨x,rfl,Gad (hQ _ ?_ (GbA ..))⟩));exact⟨_,Gbl _ ho (Obj.isFreed_of_fields (Gdc hd _)),(Obj.cls_mapFields ..).trans hc,by rw[Gdc hd];simp[rawInt]⟩
theorem C3{prog:Program}{w:World}{A:Around}{E:Value→Shared→Prop}{z:Shared}{it t:Addr}{i:Nat}{its:Array Value}{Q:Value→Shared→Prop}(hh:A.handled=none)(hit:z.heap.IsTupleIter it t i)(ht:z.heap.IsTuple t its)(hx:its[i]? =none)
  (hE:∀h' e,Heap.ExtBut it z.heap h' →(∃o,h'.get? e=some o∧o.cls= .type "StopIteration")→E (.ref e) {z with heap:=h' }):wpAny (model prog w) A (Builtin.SmallTypes.nextOf (.ref it)) Q E z:=by
 obtain⟨o,ho,hc,hd⟩:=id hit;obtain⟨ol,hol,_,nl,hdl⟩:=ht;unfold Builtin.SmallTypes.nextOf;refine Gaa (Gbm (name:=Str.ofString "__next__") hit.typeIs Gcu (Gbj Gcu hit.typeIs F.entry_tuple_iterator_next ?_ (F.args_tuple_iterator_next_1 _)));show wpAny _ _ (field (.ref it) 0>>=_) _ _ z;refine Gaa (Gby ho hd (x:= .ref t) rfl ?_);show wpAny _ _ (if(Value.ref t==Value.none)=true then _ else _) _ _ z;rw[Gag (by simp)];show wpAny _ _ (field (.ref it) 1>>=_) _ _ z;refine Gaa (Gby ho hd (x:= .int i 0) rfl ?_);show wpAny _ _ (seqItems? (.ref t)>>=_) _ _ z;refine Gaa (GcO hol hdl ?_);simp only[GaL,hx];refine Gaa (GbR (Gaa (Gde ho hd (by simp) ?_)));show wpAny _ _ (newExc (.type "StopIteration") []>>=_) _ _ _;refine Gaa ?_;simp only[newExc,newTuple];refine Gaa (Gba ?_ (by size_fits));refine Gaa (m:=firstArgMember _ _) (wpAny_of_eq (a:=Value.none) rfl ?_);refine Gba ?_ (by size_fits);simp only[raiseNew];refine Gaa (wpAny_handled ?_);rw[show A.in1.handled=none from hh];refine Gaa (Gad (wpAny_throw (hE _ _ ?_ ⟨_,Gaz _ rfl,rfl⟩)));exact((GbA ..).extBut.push _).push _
theorem Df{prog:Program}{w:World}{A:Around}(hh:A.handled=none)(it l:Addr)(hne:l≠it)(its:Array Value):Draws prog w A it [it,l] its.size (λi v=>its[i]? =some v) (λi h=>h.IsTupleIter it l i∧h.IsTuple l its) where
 live:=λ_ _ st=>let⟨o,ho,_⟩:=st.1;⟨o,ho⟩
 frame:=λ_ _ _ st hk=> ⟨st.1.at λo e=>hk it (by simp) o e,let⟨o,ho,r⟩:=st.2;⟨o,hk l (by simp) _ ho,r⟩⟩
 item:=λi z Q E hi st hQ=>Fh st.1 st.2 (x:=its[i]) (by simp[hi]) λh' hit' hs' =>hQ _ h' z.toks (by simp[hi]) ⟨hit',let⟨o,ho,r⟩:=st.2;⟨o,hs'.extBut _ _ hne ho,r⟩⟩ hs'
 done:=λz Q E st hE=>C3 hh st.1 st.2 (by simp) hE
noncomputable def MO(K:aE)(l:Addr):It:=
 ⟨λi H=>∃xs x,SqT K H l xs∧xs[i]? =some x,λi H x H' =>∃p y,H p=none∧x= .ref p∧H' =upd H p (.tup [.int i,y])∧∀xs,SqT K H l xs→xs[i]? =some y,λi H=>∃xs,SqT K H l xs∧xs.length≤i⟩
theorem B0{P:Program}{w:World}{K:aE}{elts:List Expr}{x1}{tp:Pos}(en it l:Addr)(hne:en≠it)(hle:l≠en)(hli:l≠it):Turn P w K (.Tuple elts x1 tp) (MO K l) [en,it] en (λi h=>(∃old,IsEnum h en it i old)∧h.IsTupleIter it l i) where
 mem:=by simp
 obj:=λi h st b hb=>by
  obtain⟨⟨old,he⟩,o,e,c,d⟩:=st;rcases Gay.mp hb with z|z
  ·subst z;exact⟨_,he,λv z=>by
    have z' :Data.fields _=Data.cell v:=z;cases z'⟩
  ·have z' :b=it:=by simpa using z
   subst z';exact⟨o,e,λv z=>by rw[d] at z;cases z⟩
 keep:=λi h h' st k=> ⟨let⟨old,he⟩:=st.1;⟨old,k en (by simp) _ he⟩,st.2.at λo e=>k it (by simp) o e⟩
 item:=by
  intro X hP hw hK hc i pins s σ H E I hf st hg;subst hP hw hK;obtain⟨⟨old,he⟩,hit⟩:=st;obtain⟨xs,x,hq,hx⟩:=hg;obtain⟨its,rv,p,hz⟩:=I.tuple hq;obtain⟨u,hu,ru⟩:=rv.get hx;have hi:i<its.toArray.size:=by
   have:=(Gae.mp hu).1
   simpa using this
  refine wpAny_pyNext_enum_itemD (Df (A:=X.A.in1) (I.ok.hd hc) it l hli its.toArray) he ⟨hit,p⟩ hi hne (by simp[hne,GaY hle]) λu' h' tk hu' ho hit' hT hsz kk=> ⟨_,rfl, ?_⟩;have hit1:=hit'.1;have eu:u' =u:=by
   have hu2:its.toArray[i]? =some u:=by simpa using hu
   rw[hu2] at hu';cases hu';rfl
  subst eu;refine wpAny_letOwnedTupleGo_enum (s:={s with heap:=h',toks:=tk+1}) ho λh2 he2 sb=> ?_;have hltE:en<s.heap.objs.size:=Gas he;have kept:∀b o,b∉[en,it]→s.heap.get? b=some o→h2.get? b=some o:=λb o hb e=>by
   have b1:b≠en:=λz=>hb (by simp[z]);have b2:b≠it:=λz=>hb (by simp[z]);exact(sb.2 b b1).trans (kk b o b1 b2 e)
  have hT2:h2.get? s.heap.objs.size=some {cls:= .type "tuple",data:= .seq #[.int i tk,u']}:=(sb.2 _ (Gcc hltE)).trans hT;have I1:Inv X pins σ (upd H s.heap.objs.size (.tup [.int i,x])) {s with heap:=h2,toks:=tk+1}:=I.rE (ch:=[en,it]) hf rfl rfl kept (Gar _) (by
   refine⟨by simp[GbP],[.int i tk,u'],.cons ⟨_,rfl⟩ (.cons ru .nil),_,hT2,rfl,0,rfl⟩)
  refine⟨.ref s.heap.objs.size,_,I1,rfl,⟨_,x,I.fresh,rfl,rfl,λys hy=>by rw[I.tK hy hq];exact hx⟩,⟨⟨u',by simpa using he2⟩,hit1.at λo e=>(sb.2 it (GaY hne)).trans e⟩,λb hb=> ?_⟩;obtain⟨o,ob,_⟩:∃o,s.heap.get? b=some o∧True:=by
   rcases Gay.mp hb with z|z
   ·subst z;exact⟨_,he,trivial⟩
   ·have z' :b=it:=by simpa using z
    subst z';obtain⟨o,e,_⟩:=hit;exact⟨o,e,trivial⟩
  rw[ay (GaI (Gas ob))];exact(hf b hb).1
 done:=by
  intro X hP hw hK hc i pins s σ H E I hf st hg;subst hP hw hK;obtain⟨⟨old,he⟩,hit⟩:=st;obtain⟨xs,hq,hx⟩:=hg;obtain⟨its,rv,p,hz⟩:=I.tuple hq;obtain⟨f0,f1,f2,f3,f4,f5⟩:=hf it (by simp);have hl:=rv.length;have hT:s.TypeIs (.ref en) "enumerate":=⟨_,he,rfl⟩
  unfold pyNext;refine Gaa (GcU (Gbm (name:=Str.ofString "__next__") hT F.slot_enumerate_next (Gbj F.slot_enumerate_next hT F.entry_enumerate_next ?_ (F.args_enumerate_next_1 _))));show wpAny _ _ (field (.ref en) 2>>=_) _ _ _;refine Gaa (Gby he rfl (x:= .ref it) rfl ?_);refine Gaa (C3 (A:=X.A.in1) (I.ok.hd hc) hit (show s.heap.IsTuple l its.toArray from p) (by simp;omega) λh' ex he' hx' => ?_);obtain⟨o,ho,hcl⟩:=hx';refine Gaa (Gdy (T:="StopIteration") (b:=true) ⟨o,ho,hcl⟩ isSubtype_stop (Gad ⟨rfl, ?_⟩));exact I.turned (t' :=s.toks) (λb o hb e=>he' b o hb e) f0 f1 f3 f4 f5
 self:=λ_ _ _ _ _ st h=>let⟨old,he⟩:=st.1;Gdm he h
theorem wN(l:Addr)(items:Array Value)(n:Nat)(dct:Option Addr)(sl:Array (Option Value)):
  Meets (Builtin.«enumerate.__new__» ⟨[.type "enumerate",.ref l],[]⟩) (λ_ R s=>s.heap.get? l=some {cls:= .type "tuple",dict:=dct,data:= .seq items n,slots:=sl}∧
   R (.ok (.ret (.ref (s.heap.push {cls:= .type "tuple_iterator",data:= .fields #[.ref l,.int 0 0]}).objs.size)))
    {s with heap:=(s.heap.push {cls:= .type "tuple_iterator",data:= .fields #[.ref l,.int 0 0]}).push {cls:= .type "enumerate",data:= .fields #[.none,.bool false,.ref s.heap.objs.size,rawInt 0,.none,.none]}}):=
 .of_wp λprog w A R s h=>by
  obtain⟨hp,gg,d,tk,os⟩:=s;obtain⟨hl,h⟩:=h
  have hsub:=sub_enumerate;have hL:Heap.IsTuple (Shared.heap ⟨hp,gg,d,tk,os⟩) l items:=⟨_,hl,rfl,n,rfl⟩
  wp_walk using GcI hl
  refine wpAny_stack_any λst=>Gad ?_;split
  ·rename_i c _ _ _ _ _;cases(c==Value.type "enumerate")<;>(wp_walk using GcI hl,Gdb hL)<;>exact⟨_,rfl,h⟩
  ·wp_walk using GcI hl,Gdb hL
   exact⟨_,rfl,h⟩
theorem B1{prog:Program}{w:World}{A:Around}{E:Value→Shared→Prop}{z:Shared}{l:Addr}{items:Array Value}{Q:Value→Shared→Prop}(hL:z.heap.IsTuple l items)
  (h:∀h',IsEnum h' (z.heap.objs.size+1) z.heap.objs.size 0 .none→h'.IsTupleIter z.heap.objs.size l 0→(∀b o,z.heap.get? b=some o→h'.get? b=some o)→Q (.ref (z.heap.objs.size+1)) {z with heap:=h' }):
  wpAny (model prog w) A (call (.type "enumerate") [.ref l]) Q E z:=by
 obtain⟨⟨c,dct,dt,sl⟩,hl,hc,n,hd⟩:=hL;replace hc:c= .type "tuple":=hc;replace hd:dt= .seq items n:=hd;subst hc hd;refine callType_new F.called_enumerate (by decide) (F.typeCall_enumerate_1 _) (F.newCall_enumerate_1 _) (λobj=>F.args_object_init_2 obj _) F.entry_enumerate_new (wN l items n dct sl) ⟨hl, ?_⟩;have hz:(z.heap.push {cls:= .type "tuple_iterator",data:= .fields #[.ref l,.int 0 0]}).objs.size=z.heap.objs.size+1:=GdK ..;show _∧_;rw[hz];have he:IsEnum ((z.heap.push {cls:= .type "tuple_iterator",data:= .fields #[.ref l,.int 0 0]}).push {cls:= .type "enumerate",data:= .fields #[.none,.bool false,.ref z.heap.objs.size,rawInt 0,.none,.none]}) (z.heap.objs.size+1) z.heap.objs.size 0 .none:=by
  have:=Gaz (z.heap.push {cls:= .type "tuple_iterator",data:= .fields #[.ref l,.int 0 0]}) (o:={cls:= .type "enumerate",data:= .fields #[.none,.bool false,.ref z.heap.objs.size,rawInt 0,.none,.none]}) rfl;rw[hz] at this;exact this
 exact⟨⟨_,he,rfl⟩,h _ he ⟨_,Gah _ (Gaz _ rfl),rfl,rfl⟩ λb o x=>Gah _ (Gah _ x)⟩
noncomputable def MP(K:aE)(tl:TA):TI:=λσ H R=>tl σ H λvs H1=>∃l,vs=[.ref l]∧(((∃xs,SqL K H1 l xs)∧R (Ite K l) H1)∨((∃xs,SqT K H1 l xs)∧R (MO K l) H1))
theorem HQ{elts:List Expr}{x1}{tp p:Pos}{ta:TA}(hg:Gl X "enumerate")(hm:X.mg "enumerate"=none)(ha:PA X [a] ta)(hs:starEach [a] X.env=[(false,eval a X.env)]:=by rfl):PI X (.Tuple elts x1 tp) (.Call (.Name "enumerate" p) [a] [] pos) (MP X.K ta):=by
 intro pins s σ H R I h;refine Call_ (nB I hg hm vc (Gco (thn (ha pos pins s σ H _ I h) λus s1 ⟨vs,H1,I1,r1,q1⟩=> ?_) hs rfl));obtain⟨l,e,q1⟩:=q1;subst e;cases r1 with
 |cons r rr=>
  cases rr;cases r;have fps:∀b∈[s1.heap.objs.size+1,s1.heap.objs.size],nC X pins H1 b:=λb hb=>by
   rcases Gay.mp hb with z|z
   ·subst z;exact I1.CD (Gdp _) (I1.hok.fresh (Gdp _))
   ·have z' :b=s1.heap.objs.size:=by simpa using z
    subst z';exact I1.CD (Gar _) (I1.hok.fresh (Gar _))
  rcases q1 with⟨⟨xs,hq⟩,q⟩| ⟨⟨xs,hq⟩,q⟩
  ·obtain⟨its,rv,pl,hz⟩:=I1.list hq;refine call_enumerate_list pl.isList λh' he hit hsz kk=> ?_;refine Gdm (s:={s1 with heap:=h' }) he ?_;exact⟨s1.heap.objs.size+1,[s1.heap.objs.size+1,s1.heap.objs.size],_,_,H1,rfl,I1.kept (t' :=s1.toks) kk,De _ _ l (Nat.succ_ne_self _),⟨⟨.none,he⟩,hit⟩,fps,q⟩
  ·obtain⟨its,rv,pl,hz⟩:=I1.tuple hq;have hlt:l<s1.heap.objs.size:=pl.lt;refine B1 (show s1.heap.IsTuple l its.toArray from pl) λh' he hit kk=> ?_;refine Gdm (s:={s1 with heap:=h' }) he ?_;exact⟨s1.heap.objs.size+1,[s1.heap.objs.size+1,s1.heap.objs.size],_,_,H1,rfl,I1.kept (t' :=s1.toks) kk,B0 _ _ l (Nat.succ_ne_self _) (GaI (Gdl hlt)) (GaI hlt),⟨⟨.none,he⟩,hit⟩,fps,q⟩
theorem vg{elts:List Expr}{x1}{tp p:Pos}(hg:Gl X "enumerate")(hm:X.mg "enumerate"=none)(he:PEd X e f)(hs:starEach [e] X.env=[(false,eval e X.env)]:=by rfl):PId X (.Tuple elts x1 tp) (.Call (.Name "enumerate" p) [e] [] pos) (BK f):=by
 refine(HQ hg hm (a4 he aa hs) hs).aU ?_;rintro σ H R ⟨H₀,Bad,env,ds,E,hf,k⟩;obtain⟨⟨kd,d⟩,hr,hf⟩:=bind_some hf;split at hf
 ·cases hf
 rename_i hk;split at hf
 ·rename_i xs hd;have hd' :d= .lst xs:=hd;subst hd';cases hf;refine⟨H₀,Bad,env,[⟨kd,.lst xs⟩],E,by unfold a5 aq;rw[hr];rfl,λvs H1 s1 Rs=> ?_⟩;cases Rs with
  |cons Rv tl=>
   cases tl;have ii:=Rv.inn;have hno:=BR E rfl hk Rv;have E1:=E.mono s1;cases ii with
   | @lst la lv _ h r=>
    refine⟨_,rfl,.inl ⟨⟨_,.inl h⟩,k _ H1 s1 λHi keep=> ?_⟩⟩;have hh:Rd Hi la (.lst lv):=by
     rcases h with h| ⟨o,h⟩
     ·exact .inl (keep _ _ h (hno _ rfl))
     ·exact .inr ⟨o,keep _ _ h (hno _ rfl)⟩
    refine⟨λi d hd=> ?_,⟨_,.inl hh,by rw[k7,r.1];exact Gar _⟩⟩;rw[k8] at hd;obtain⟨y,hy,rfl⟩:=Gam.mp hd;obtain⟨v,h1,h2⟩:=r.get hy;refine⟨⟨_,v,.inl hh,h1⟩,λz H2 ⟨p,w,hp,ez,eH,ew⟩=> ?_⟩;subst ez eH;have:=ew _ (.inl hh);rw[h1] at this;cases this
    refine⟨bG hp, ?_⟩;have rp:=E1.mE keep h2;rw[show(((0+i:Nat)):Int)=(i:Int) by simp];exact fP hp (.cons (.int _) (.cons rp .nil))
 ·rename_i xs hd;have hd' :d= .tup xs:=hd;subst hd';cases hf;refine⟨H₀,Bad,env,[⟨kd,.tup xs⟩],E,by unfold a5 aq;rw[hr];rfl,λvs H1 s1 Rs=> ?_⟩;cases Rs with
  |cons Rv tl=>
   cases tl;have ii:=Rv.inn;have E1:=E.mono s1;cases ii with
   | @tup la lv _ h r=>
    refine⟨_,rfl,.inr ⟨⟨_,SqT.of h⟩,k _ H1 s1 λHi keep=> ?_⟩⟩;have hh:Hi la=some (.tup lv):=keep _ _ h λw=>E1.fQ w h trivial;refine⟨λi d hd=> ?_,⟨_,SqT.of hh,by rw[k7,r.1];exact Gar _⟩⟩;rw[k8] at hd;obtain⟨y,hy,rfl⟩:=Gam.mp hd;obtain⟨v,h1,h2⟩:=r.get hy;refine⟨⟨_,v,SqT.of hh,h1⟩,λz H2 ⟨p,w,hp,ez,eH,ew⟩=> ?_⟩;subst ez eH;have:=ew _ (SqT.of hh);rw[h1] at this;cases this
    refine⟨bG hp, ?_⟩;have rp:=E1.mE keep h2;rw[show(((0+i:Nat)):Int)=(i:Int) by simp];exact fP hp (.cons (.int _) (.cons rp .nil))
 ·cases hf
end
open PySem PySem.Spec PyProof.Rows L2
open PySem PySem.Spec PyProof.Rows L2
namespace Fr
end Fr
open PySem PySem.Spec PyProof.Rows L2
section
variable{X:Cx}{e a b c:Expr}{f g h:DE}{pos:Pos}
theorem Fj{xs:List V}{its:List Value}(r:Vals xs its){x:V}{u:Value}(hx:RelV x u)(j:Int):Vals (gD xs j x) (PySem.W.kl_ins its j u):=by
 have hl:=r.length;unfold gD PySem.W.kl_ins;rw[hl];have tk:∀{xs:List V} {its:List Value} (r:Vals xs its) (n:Nat),Vals (xs.take n) (its.take n):=by
  intro xs its r;induction r with
  |nil=>intro n;simp;exact .nil
  |cons h t ih=>intro n;cases n with
   |zero=>exact .nil
   |succ n=>exact .cons h (ih n)
 have dr:∀{xs:List V} {its:List Value} (r:Vals xs its) (n:Nat),Vals (xs.drop n) (its.drop n):=by
  intro xs its r;induction r with
  |nil=>intro n;simp;exact .nil
  |cons h t ih=>intro n;cases n with
   |zero=>exact .cons h t
   |succ n=>exact ih n
 exact(tk r _).append (.cons hx (dr r _))
def HR:V→List V→Hp→VK→Prop:=λx vs H Q=>∃l xs j y,x= .ref l∧vs=[.int j,y]∧H l=some (.lst xs)∧xs.length<sizeLine∧-(2^62)≤j∧j<2^62∧Q .non (upd H l (.lst (gD xs j y)))
theorem Dg:MtM X "list.insert" HR:=by
 intro pins z σ H x vs v us Q I rx rv h;obtain⟨l,xs,j,y,rfl,rfl,hH,hz,h1,h2,q⟩:=h;cases rx;cases rv with
 |cons r1 t1=>
  cases t1 with
  |cons r2 t2=>
   cases t2;obtain⟨t,rfl⟩:=r1;rename_i u;obtain⟨_,its,n,r,hl,e⟩:=I.Hj hH;have hfit:Builtin.List.listFitsIndex j=true:=by simp[Builtin.List.listFitsIndex];omega
   refine call_meets F.slot_list_insert ⟨_,e,rfl⟩ F.entry_list_insert (F.args_list_insert_3 _ _ _) (PySem.AutoSeq1.list_insert_list_int_val_1 l its.toArray n j t u (by simp[hfit]) (by rw[Gan];omega)) ⟨e, ?_⟩;refine⟨.non,_,I.JP (its' :=PySem.W.kl_ins its j u) hH e ?_ (Fj r r2 j) ?_,rfl,q⟩
   ·show(its.toArray.extract 0 _).push u++its.toArray.extract _=_;rw[PySem.W.kl_ins_eq];simp only[Gan]
    rfl
   ·rw[tY];omega
theorem Dh{i:Nat}{x:Str}{px apos cpos:Pos}(hN:X.N[i]? =some x)(hv:Vis X.env.scope x)(he:PEd X e f)(ha:PEd X a g)(hd:(x==("__debug__":Str))=false:=by decide)(hcd:(x==("__classdict__":Str))=false:=by decide)
  (hs1:starEach [e,a] X.env=(false,eval e X.env)::starEach [a] X.env:=by rfl)(hs2:starEach [a] X.env=[(false,eval a X.env)]:=by rfl)
  (hbase:attributeBase (.Name x px) "insert" X.env (eval (.Name x px) X.env)=eval (.Name x px) X.env:=by rfl)
  (hfew:((backTo cpos (starEach [e,a] X.env)).all (λx=> !x.1)&&(backToKw cpos (keywordEach [] X.env)).all (λx=>x.1.isSome)
   &&decide (([e,a]:List Expr).length+([]:List Keyword).length+(if([]:List Keyword).isEmpty then 0 else 1)<30))=true:=by rfl)
  (hline:(apos.endLine==cpos.line)=true:=by rfl)(hs:swapsWith (.Call (.Attribute (.Name x px) "insert" apos) [e,a] [] cpos) none pos.line X.env=pure false:=by rfl):
  PSd X (.Expr (.Call (.Attribute (.Name x px) "insert" apos) [e,a] [] cpos) pos) (MA i f g):=by
 refine(qL (BD GcG PySem.F.slot_list_insert PySem.F.type_list_insert Dg (lB hN hv hd hcd) (a4 he (a4 ha aa hs2) hs1) hbase hfew hline hs1 (by rw[hs2];rfl)) hs).aU ?_;rintro D σ H ⟨H₀,Bad,env,o,E,e,k⟩;obtain⟨r,hr,e⟩:=bind_some e;obtain⟨r2,hr2,e⟩:=bind_some e;obtain⟨d,hd,e⟩:=bind_some e;have q:=o6 hd;obtain⟨kd,rd⟩:=r;split at e
 ·rename_i xs j hj;have hj' :rd= .int j:=hj;split at e
  ·rename_i z;rw[Gau,Gau] at z;obtain⟨z1,z2,z3⟩:=z;cases e;subst hj';obtain⟨a,h1,h2,h3,h4,h5,h6⟩:=E.ow i _ (.inl q);obtain⟨vs,hH,rp⟩:=o7 h4 h6;refine⟨_,h1,.inl ⟨rfl,vs,.inl (.inl hH)⟩,H₀,Bad,env,[⟨kd,.int j⟩,r2],E,by unfold a5 aq;rw[hr,hr2];rfl,λws H2 s2 Rs=> ?_⟩;cases Rs with
   | @cons _ v _ _ R1 tl=>
    cases tl with
    | @cons _ v2 _ _ R2 tl=>
    cases tl;have i1:=R1.inn;cases i1;have hH2:=s2 _ _ hH;have sj:=fR z3;refine⟨a,vs,j,v2,rfl,rfl,hH2,by rw[←rp.1,←size_eq];exact GaE z2,sj.1,sj.2, ?_⟩;have E2:=E.mono s2;have rep1:=R2.rep E z1;have rp1:b4 X.K (Cln Bad env σ) H2 xs vs:=rp.gen (.of_same s2) λ_ f _=>f;have rp2:b4 X.K (Cln Bad env σ) H2 (gD xs j r2.d) (gD vs j v2):=by
     unfold gD;rw[←rp1.1];exact(rp1.take _).append (.cons rep1 (rp1.drop _))
    obtain⟨E3,p3⟩:=E2.change (d' := .lst (gD xs j r2.d)) (o:= .lst (gD vs j v2)) q h1 trivial rfl (.lst (.inl aM) (rp2.gen (λb o hb w=>by
     have:b≠a:=by
      rintro rfl;rcases w with w|w
      ·exact w.2 i (by rw[q];trivial) h1
      ·rw[hH2] at hb;cases hb;exact w
     rw[ay this];exact hb) λ_ f _=>f))
    exact k σ _ E3 ((Stp.of_same s2).trans p3)
  ·cases e
 ·cases e
theorem rF{α β:Type}{F:α→β→Prop}:∀{xs:List α} {ys:List β},xs.length=ys.length→(∀(i:Nat) x y,xs[i]? =some x→ys[i]? =some y→F x y)→Paired F xs ys
 |[],[],_,_=> .nil
 |[],_::_,h,_=>by cases h
 |_::_,[],h,_=>by cases h
 |x::xs,y::ys,h,g=> .cons (g 0 x y rfl rfl) (rF (by simpa using h) λi a b ha hb=>g (i+1) a b (by simpa using ha) (by simpa using hb))
theorem rG{K:aE}{F:Addr→Prop}{H:Hp}{α:Type}{dd:α→D}{vv:α→V}(h:∀n,Rep K F H (dd n) (vv n)):∀{l:List α},b4 K F H (l.map dd) (l.map vv)
 |[]=> .nil
 |x::l=> .cons (h x) (rG h)
end
def Kc(prog:Program)(w:World)(A:Around)(op:CmpOp)(G:Shared→Prop)(P:Nat→Value→Prop)(bt:Nat→Nat→Bool):Prop:=
 ∀i j vi vj (z:Shared) (Q:Value→Shared→Prop) (E:Value→Shared→Prop),G z→P i vi→P j vj→Q (.bool (bt i j)) z→wpAny (model prog w) A (richCompare op vi vj) Q E z
section
variable{prog:Program}{w:World}{A:Around}{R:Result→Shared→Prop}{I:Addr}{fp wr:List Addr}{n:Nat}{P:Nat→Value→Prop}{St:Nat→Heap→Prop}{G:Shared→Prop}{kw:List (Str×Value)}
theorem HS{id:String}{b:Builtin}{args:List Value}{kw:List (Str×Value)}{E:Value→Shared→Prop}{z:Shared}{Q:Value→Shared→Prop}(hk:builtinKind id=none)(hp:plainId id=true)(hb:entryFor table id=some b)(ha:argsOk id ⟨args,kw⟩)
  (hc:wpAny (model prog w) A.in1 (b ⟨args,kw⟩) (λfin s' =>match fin with
   | .done f=>(match(Except.ok f:Result) with| .ok (.ret v)=>Q v s' | .ok _=>False| .error e=>E e s')
   | .again c' =>c'.quiet=true∧codeAny (model prog w) A c' (λr s' =>match r with| .ok (.ret v)=>Q v s' | .ok _=>False| .error e=>E e s') s') E z):wpAny (model prog w) A (call (.builtin id) args kw) Q E z:=by
 refine wpAny_call (codeAny_call_builtin hp hb ?_);simp only[checkBuiltinCall,hk];cases hsig:Manifest.signature? id with
 |none=>exact Gad hc
 |some sig=>
  simp only[argsOk,hsig] at ha;have h2:Bind.checkArgs id sig ⟨args,kw⟩=pure ():=ha;show wpAny _ A.in1 (Bind.checkArgs id sig ⟨args,kw⟩) _ _ z;rw[h2];exact Gad hc
theorem Fm(W:Walks prog w A.in1 I fp wr n P St)(bt:Nat→Nat→Bool)(hcmp:Kc prog w A.in1 .Gt G P bt)(B:Addr)(hSf:B∉fp):∀(k j:Nat) (z:Shared) (vb:Value) (c:Nat),n -(j+1)=k→j+1≤n→St (j+1) z.heap→P (argBest bt j) vb→
  (∀h' tk,(∀b o,b∉wr→b≠B→z.heap.get? b=some o→h'.get? b=some o)→G {z with heap:=h',toks:=tk})→z.heap.get? B=some {cls:= .type "list",dict:=none,data:= .seq #[vb,vb] c,slots:=#[]}→
  (∀v h' tk,P (argBest bt (n -1)) v→(∀b o,b∉wr→b≠B→z.heap.get? b=some o→h'.get? b=some o)→R (.ok (.ret v)) {z with heap:=h',toks:=tk})→codeAny (model prog w) A (.builtin "max.loop" ⟨[.ref I,.none,.ref B],kw⟩) R z:=by
 have hBw:B∉wr:=λh=>hSf (W.sub _ h);have hname:(toString "max"++toString ".loop":String)="max.loop":=by decide
 intro k;induction k with
 |zero=>
  intro j z vb c hk hj hst hPb hG hB hR;have hin:j+1=n:=by omega
  refine GcX F.entry_max_loop ?_;rw[GdG Gcn _];show wpAny _ A.in1 (seqItems? (.ref B)>>=_) _ _ z;refine Gaa (GcO hB rfl ?_);show wpAny _ A.in1 (tryCatch (pyNext (.ref I)) _>>=_) _ _ z;refine Gaa (Gdf (W.done z _ _ (hin▸hst) λh' tk hk' => ?_));have hB' :=hk' B _ hBw hB;show wpAny _ A.in1 (updateSeq B (λ_=>#[])>>=_) _ _ _;refine Gaa (GcJ hB' rfl (Gaa (Gdq (Gad ?_))));exact hR vb _ tk (by rw[←hin];exact hPb) λb o hbw hbB e=>(GaW _ _ (GaY hbB)).trans (hk' b o hbw e)
 |succ k ih=>
  intro j z vb c hk hj hst hPb hG hB hR;have hlt:j+1<n:=by omega
  refine GcX F.entry_max_loop ?_;rw[GdG Gcn _];show wpAny _ A.in1 (seqItems? (.ref B)>>=_) _ _ z;refine Gaa (GcO hB rfl ?_);show wpAny _ A.in1 (tryCatch (pyNext (.ref I)) _>>=_) _ _ z;refine Gaa (Gdf (W.item (j+1) z _ _ hlt hst λv h' tk hP hst' hk' => ?_));have hB' :=hk' B _ hBw hB;show wpAny _ A.in1 (tryCatch (holding [v,v] (richCompare .Gt v vb>>=_)) _>>=_) _ _ _;refine Gaa (Gdf (GbQ (Gaa (hcmp (j+1) (argBest bt j) v vb _ _ _ (hG h' tk λb o hbw _ e=>hk' b o hbw e) hP hPb ?_))));refine Gaa (GbQ (GbM ?_));refine Gaa (Gdq (Gad ?_));cases hb:bt (j+1) (argBest bt j) with
  |true=>
   simp only[Gbi];refine Gaa (GcJ hB' rfl (Gaa (Gdq ?_)));rw[hname];refine Gad ⟨Gdv Gcn _,ih (j+1) _ v _ (by omega) hlt (W.frame _ _ _ hst' λb hbf o e=> ?_) (by simp only[argBest,hb,Gbi];exact hP) (λh'' tk'' hk'' => ?_) (Gbl _ hB' rfl) λv' h'' tk'' hP' hk'' => ?_⟩
   ·exact(GaW _ _ (λh:B=b=>hSf (by rw[h];exact hbf))).trans e
   ·exact hG h'' tk'' λb o hbw hbB e=>hk'' b o hbw hbB ((GaW _ _ (GaY hbB)).trans (hk' b o hbw e))
   ·exact hR v' h'' tk'' hP' λb o hbw hbB e=>hk'' b o hbw hbB ((GaW _ _ (GaY hbB)).trans (hk' b o hbw e))
  |false=>
   simp only[Gaw,GaR];refine Gaa (Gdq ?_);rw[hname];refine Gad ⟨Gdv Gcn _,ih (j+1) _ vb c (by omega) hlt hst' (by simp only[argBest,hb,Gaw,GaR];exact hPb) (λh'' tk'' hk'' => ?_) hB' λv' h'' tk'' hP' hk'' => ?_⟩
   ·exact hG h'' tk'' λb o hbw hbB e=>hk'' b o hbw hbB (hk' b o hbw e)
   ·exact hR v' h'' tk'' hP' λb o hbw hbB e=>hk'' b o hbw hbB (hk' b o hbw e)
theorem Di(W:Walks prog w A.in1 I fp wr n P St)(bt:Nat→Nat→Bool)(hcmp:Kc prog w A.in1 .Gt G P bt)(B:Addr)(hSf:B∉fp){z:Shared}{c:Nat}(hst:St 0 z.heap)
  (hG:∀h' tk,(∀b o,b∉wr→b≠B→z.heap.get? b=some o→h'.get? b=some o)→G {z with heap:=h',toks:=tk})(hB:z.heap.get? B=some {cls:= .type "list",dict:=none,data:= .seq #[] c,slots:=#[]})
  (hE:n=0→∃k d r,kw=(k,d)::r∧∀h' tk,(∀b o,b∉wr→b≠B→z.heap.get? b=some o→h'.get? b=some o)→R (.ok (.ret d)) {z with heap:=h',toks:=tk})
  (hR:0<n→∀v h' tk,P (argBest bt (n -1)) v→(∀b o,b∉wr→b≠B→z.heap.get? b=some o→h'.get? b=some o)→R (.ok (.ret v)) {z with heap:=h',toks:=tk}):codeAny (model prog w) A (.builtin "max.loop" ⟨[.ref I,.none,.ref B],kw⟩) R z:=by
 have hBw:B∉wr:=λh=>hSf (W.sub _ h);have hname:(toString "max"++toString ".loop":String)="max.loop":=by decide
 refine GcX F.entry_max_loop ?_;rw[GdG Gcn _];show wpAny _ A.in1 (seqItems? (.ref B)>>=_) _ _ z;refine Gaa (GcO hB rfl ?_);show wpAny _ A.in1 (tryCatch (pyNext (.ref I)) _>>=_) _ _ z;rcases Nat.eq_zero_or_pos n with hn|hn
 ·obtain⟨k,d,r,rfl,hd⟩:=hE hn;refine Gaa (Gdf (W.done z _ _ (hn▸hst) λh' tk hk' => ?_));show wpAny _ A.in1 (rule _>>=_) _ _ _;exact Gaa (GbR (Gad (hd h' tk λb o hbw _ e=>hk' b o hbw e)))
 ·refine Gaa (Gdf (W.item 0 z _ _ hn hst λv h' tk hP hst' hk' => ?_));have hB' :=hk' B _ hBw hB;show wpAny _ A.in1 (updateSeq B (λ_=>#[v,v])>>=_) _ _ _;refine Gaa (GcJ hB' rfl ?_);rw[hname];refine Gad ⟨Gdv Gcn _,Fm W bt hcmp B hSf _ 0 _ v _ rfl hn (W.frame _ _ _ hst' λb hbf o e=> ?_) hP (λh'' tk'' hk'' => ?_) (Gbl _ hB' rfl) λv' h'' tk'' hP' hk'' => ?_⟩
  ·exact(GaW _ _ (λh:B=b=>hSf (by rw[h];exact hbf))).trans e
  ·exact hG h'' tk'' λb o hbw hbB e=>hk'' b o hbw hbB ((GaW _ _ (GaY hbB)).trans (hk' b o hbw e))
  ·exact hR hn v' h'' tk'' hP' λb o hbw hbB e=>hk'' b o hbw hbB ((GaW _ _ (GaY hbB)).trans (hk' b o hbw e))
theorem B2(a d:Value):argsOk "max" ⟨[a],[(Str.ofString "default",d)]⟩:=by unfold argsOk;kernel_rfl
theorem B3{x d:Value}{z:Shared}{E:Value→Shared→Prop}{Q:Value→Shared→Prop}
  (h:wpAny (model prog w) A.in1 (pyIter x) (λit s₂=>∃I fp wr n P St bt G,it= .ref I∧Walks prog w A.in1 I fp wr n P St∧St 0 s₂.heap∧(∀b∈fp,b<s₂.heap.objs.size)∧Kc prog w A.in1 .Gt G P bt∧
   (∀h' tk,(∀b o,b∉wr→s₂.heap.get? b=some o→h'.get? b=some o)→G {s₂ with heap:=h',toks:=tk})∧(n=0→∀h' tk,(∀b o,b∉wr→s₂.heap.get? b=some o→h'.get? b=some o)→Q d {s₂ with heap:=h',toks:=tk})∧
   (0<n→∀v h' tk,P (argBest bt (n -1)) v→(∀b o,b∉wr→s₂.heap.get? b=some o→h'.get? b=some o)→Q v {s₂ with heap:=h',toks:=tk})) E z):
  wpAny (model prog w) A (call (.builtin "max") [x] [(Str.ofString "default",d)]) Q E z:=by
 have hname:(toString "max"++toString ".loop":String)="max.loop":=by decide
 refine HS F.kind_max F.plain_max F.entry_max (B2 _ _) ?_;show wpAny _ A.in1 (Builtin.Builtins.bindParams "max" ["key","default"] 0 ⟨[],[(Str.ofString "default",d)]⟩>>=_) _ _ z;refine Gaa (wpAny_of_eq (show Builtin.Builtins.bindParams "max" ["key","default"] 0 ⟨[],[(Str.ofString "default",d)]⟩=pure [none,some d] from rfl) ?_);refine Gaa (Gad ?_);refine Gaa (Gcb h (λit s₂ h₂=> ?_) λ_ _ e=>e);obtain⟨I,fp,wr,n,P,St,bt,G,rfl,W,hst,hfp,hcmp,hG,hE,hQ⟩:=h₂;refine Gaa (Gba ?_);have hSf:s₂.heap.objs.size∉fp:=λhm=>Gbw _ (hfp _ hm);rw[hname];have lift:∀{h' :Heap},(∀b o,b∉wr→b≠s₂.heap.objs.size→(s₂.heap.push {cls:= .type "list",data:= .seq #[]}).get? b=some o→h'.get? b=some o)→∀b o,b∉wr→s₂.heap.get? b=some o→h'.get? b=some o:=λhk b o hbw e=>hk b o hbw (GaI (Gas e)) (Gah _ e);refine Gad ⟨Gdv Gcn _,Di (G:=G) W bt hcmp s₂.heap.objs.size hSf (W.frame _ _ _ hst λb _ o e=>Gah _ e) (λh' tk hk=>hG h' tk (lift hk)) (Gaz _ rfl) (λhn=> ⟨_,d,[],rfl,λh' tk hk=>hE hn h' tk (lift hk)⟩) λhn v h' tk hP hk=>hQ hn v h' tk hP (lift hk)⟩
end
section
variable{X:Cx}{e a b c:Expr}{f g h:DE}{pos:Pos}
noncomputable def Kd(K:aE)(dv:V)(t:TA):TE:=λσ H Q=>t σ H λvs H1=>∃(p:Addr) (ns:List Int),vs=[.ref p]∧(SqL K H1 p (ns.map V.int)∨SqT K H1 p (ns.map V.int))∧Q (match ns with|[]=>dv|n::ns=> .int (AS n ns)) H1
theorem HU{p pos kp:Pos}{dx:Expr}{dv:V}{t:TA}(hc:X.calm=true)(hg:Gl X "max")(hm:X.mg "max"=none)(ha:PA X [e] t)(hd:PE X dx (tC dv))(hs:starEach [e] X.env=[(false,eval e X.env)]:=by rfl):PE X (.Call (.Name "max" p) [e] [⟨some "default",dx,kp⟩] pos) (Kd X.K dv t):=by
 intro pins z σ H Q I h;refine GcY (nB I hg hm EY ?_);refine PyProof.Rows.callWith_kw (thn (ha pos pins z σ H _ I h) λus s1 ⟨vs,H1,I1,r1,q1⟩=> ?_) (by rw[hs];rfl) (by rw[hs];rfl) rfl rfl;obtain⟨l,ns,e1,hq,q⟩:=q1;subst e1;cases r1 with
 |cons r rr=>
  cases rr;cases r;refine PyProof.Rows.kws_cons (thn (hd pins s1 σ H1 (λv H2=>v=dv∧H2=H1) I1 ⟨rfl,rfl⟩) λdu s2 ⟨v,H2,I2,r2,e2,e3⟩=>PyProof.Rows.kws_nil ?_);subst e2 e3;show wpAny _ _ (call (.builtin "max") [.ref l] [(Str.ofString "default",du)]) _ _ _;refine B3 (wI hc I2 hq λIt fp wr P St s₃ W st lt hP kept=> ⟨It,fp,wr,_,P,St,_,λ_=>True,rfl,W,st,lt,λi j vi vj zz Q' E' _ hi hj hq' =>CmpOf.ints_gt (vf ns) (wK hP) i j vi vj zz Q' E' hi hj hq',λ_ _ _=>trivial,λhn h' tk hk=> ?_,λhn u h' tk hu hk=> ?_⟩)
  ·cases ns with
   |nil=>exact⟨v,H2,kept h' tk hk,r2,q⟩
   |cons n ns=>simp at hn
  ·cases ns with
   |nil=>simp at hn
   |cons n ns=>
    obtain⟨t,rfl⟩:=wK hP _ _ hu;rw[show((n::ns).map V.int).length -1=ns.length by simp,F7 _ (Gar _),List.take_length];exact⟨.int (AS n ns),H2,kept h' tk hk,⟨t,rfl⟩,q⟩
theorem HV{p pos kp:Pos}{dx:Expr}{dd:D}{dv:V}(hc:X.calm=true)(hg:Gl X "max")(hm:X.mg "max"=none)(he:PEd X e f)(hd:PE X dx (tC dv))(hdv:∀K F H,Inn K F H dd dv)(ht:dd.top=false)(hs:starEach [e] X.env=[(false,eval e X.env)]:=by rfl):PEd X (.Call (.Name "max" p) [e] [⟨some "default",dx,kp⟩] pos) (mmE AS dd f):=by
 refine(HU hc hg hm (a4 he aa hs) hd hs).aU ?_;rintro σ H Q ⟨H₀,Bad,env,rv,E,e,k⟩;obtain⟨r,hr,e⟩:=bind_some e;refine⟨H₀,Bad,env,[r],E,by unfold a5 aq;rw[hr];rfl,λvs H1 s1 Rs=> ?_⟩;cases Rs with
 |cons R1 tl=>
  cases tl;unfold mmD at e;obtain⟨ds,h1,e⟩:=bind_some e;obtain⟨ns,h2,e⟩:=Gam.mp e;obtain⟨p,vs,rfl,hq,rr⟩:=AX R1.inn h1;rw[BY rr h2] at hq;refine⟨p,ns,rfl,hq, ?_⟩;subst e;cases ns with
  |nil=>exact k _ _ s1 ((hdv _ _ _).rep λa _ w=>by rw[ht] at w;cases w)
  |cons n ns=>exact k _ _ s1 (.int _)
end
def mO(h:Heap)(d:Addr)(es:Array DictEntry)(ep:Nat):Prop:=∃o,h.get? d=some o∧o.ExactDict∧o.data= .dict es ep
theorem mO.at{h h' :Heap}{d:Addr}{es:Array DictEntry}{ep:Nat}(x:mO h d es ep)(e:∀o,h.get? d=some o→h'.get? d=some o):mO h' d es ep:=let⟨o,ho,r⟩:=x;⟨o,e _ ho,r⟩
section
variable{prog:Program}{w:World}{A:Around}{E:Value→Shared→Prop}{z:Shared}
theorem mO.ty{d:Addr}{es:Array DictEntry}{ep:Nat}(x:mO z.heap d es ep):z.TypeIs (.ref d) "dict":=let⟨o,ho,hc,_⟩:=x;⟨o,ho,hc.1⟩
theorem Fn{d:Addr}{es:Array DictEntry}{ep:Nat}{Q:Value→Shared→Prop}(hd:(d==sysModules)=false)(hm:mO z.heap d es ep)
  (hQ:Q (.ref z.heap.objs.size) {z with heap:=z.heap.push {cls:= .type "dict_keyiterator",data:= .fields #[.ref d,.int 0 0,.int es.size 0,.int ep 0]}}):wpAny (model prog w) A (pyIter (.ref d)) Q E z:=by
 obtain⟨o,ho,hc,hdat⟩:=id hm;have hT:z.TypeIs (.ref d) "dict":=hm.ty;refine wpAny_pyIter_slot hT F.slot_dict_iter (Gbj F.slot_dict_iter hT F.entry_dict_iter ?_ (F.args_dict_iter_1 _));unfold Builtin.«dict.__iter__»;refine Gaa ?_;unfold Builtin.Dict.dictSlotNone;refine Gaa (GdB hT ?_);show wpAny _ _ (pure (Value.ref d)) _ _ z;refine Gad ?_;show wpAny _ _ (Builtin.Dict.showsAll d>>=_) _ _ z;unfold Builtin.Dict.showsAll;rw[Gag (by rw[hd];simp)];refine Gaa (Gad ?_);refine Gaa (Gcg ho hdat ?_);refine Gaa (GcK ho hdat ?_);refine Gaa (Gba (Gad ⟨_,rfl,"dict_keyiterator",_,⟨_,Gaz _ rfl,rfl⟩,GbK.lookup, ?_⟩))
 simpa[rawInt] using hQ
theorem Fo{it d:Addr}{i ep:Nat}{es:Array DictEntry}(hi:i<es.size){Q:Option Value→Shared→Prop}(hit:z.heap.IsKeyIter it d i es.size ep)(hm:mO z.heap d es ep)
  (hQ:∀h',h'.IsKeyIter it d (i+1) es.size ep→Heap.SameBut it z.heap h' →Q (some es[i].key) {z with heap:=h' }):wpAny (model prog w) A (pyNext (.ref it)) Q E z:=by
 obtain⟨o,ho,hc,hd⟩:=id hit;obtain⟨od,hod,hcd,hdd⟩:=id hm;unfold pyNext;refine Gaa (GcU (Gbm (name:=Str.ofString "__next__") hit.typeIs GbK (Gbj GbK hit.typeIs F.entry_dict_keyiterator_next ?_ (F.args_dict_keyiterator_next_1 _))));refine Gaa (Gad ?_);refine Gaa (Gaa ?_)
 first|refine Gaa (Gcj hit.typeIs (Gad ?_))|refine Gaa (GcD hit.typeIs (Gad ?_))
 refine Gaa (GdL ho hd ?_);have hown:Builtin.Dict_items.ownsTuple "dict_keyiterator"=false:=by decide
 simp only[hown,Gaw,GaR];show wpAny _ _ (if(Value.ref d==Value.none)=true then _ else _) _ _ z;rw[Gag (by simp)];refine Gaa (Gad ?_);refine Gaa (Gcg hod hdd ?_);rw[Gag (by simp)];refine Gaa (Gad ?_);refine Gaa (GcK hod hdd ?_);rw[Gag (by simp)];refine Gad ?_;simp only[show¬((i:Int)<0) from by omega,GaR,GaL,Gbg hi];refine Gaa ?_
 first|refine Gaa (Gcj hit.typeIs (Gad ?_))|refine Gaa (GcD hit.typeIs (Gad ?_))
 refine Gaa (wpAny_isOneOf_keyiter hit.typeIs ?_);show wpAny _ _ (setField (.ref it) 1 (rawInt ((i:Int)+1))>>=_) _ _ z;refine Gaa (Gde ho hd (by simp) ?_);have hit' :(z.heap.update it (Obj.mapFields (·.setIfInBounds 1 (rawInt ((i:Int)+1))))).IsKeyIter it d (i+1) es.size ep:=⟨_,Gbl _ ho (Obj.isFreed_of_fields (Gdc hd _)),(Obj.cls_mapFields ..).trans hc,by rw[Gdc hd];simp[rawInt]⟩
 refine Gaa (GbQ ?_);refine Gaa (wpAny_isOneOf_keyiter (s:={z with heap:=z.heap.update it (Obj.mapFields (·.setIfInBounds 1 (rawInt ((i:Int)+1))))}) hit'.typeIs ?_);show wpAny _ _ (pure es[i].key) _ _ _;exact Gad (Gad ⟨_,rfl,Gad (hQ _ hit' (GbA ..))⟩)
theorem HW{it d:Addr}{i ep:Nat}{es:Array DictEntry}(hi:es.size≤i){Q:Option Value→Shared→Prop}(hh:A.handled=none)(hit:z.heap.IsKeyIter it d i es.size ep)(hm:mO z.heap d es ep)
  (hQ:∀h',Heap.ExtBut it z.heap h' →Q none {z with heap:=h' }):wpAny (model prog w) A (pyNext (.ref it)) Q E z:=by
 obtain⟨o,ho,hc,hd⟩:=id hit;obtain⟨od,hod,hcd,hdd⟩:=id hm;unfold pyNext;refine Gaa (GcU (Gbm (name:=Str.ofString "__next__") hit.typeIs GbK (Gbj GbK hit.typeIs F.entry_dict_keyiterator_next ?_ (F.args_dict_keyiterator_next_1 _))));refine Gaa (Gad ?_);refine Gaa (Gaa ?_)
 first|refine Gaa (Gcj hit.typeIs (Gad ?_))|refine Gaa (GcD hit.typeIs (Gad ?_))
 refine Gaa (GdL ho hd ?_);have hown:Builtin.Dict_items.ownsTuple "dict_keyiterator"=false:=by decide
 simp only[hown,Gaw,GaR];show wpAny _ _ (if(Value.ref d==Value.none)=true then _ else _) _ _ z;rw[Gag (by simp)];refine Gaa (Gad ?_);refine Gaa (Gcg hod hdd ?_);rw[Gag (by simp)];refine Gaa (Gad ?_);refine Gaa (GcK hod hdd ?_);rw[Gag (by simp)];refine Gad ?_;simp only[show¬((i:Int)<0) from by omega,GaR,GaL,Array.getElem?_eq_none hi];refine Gaa ?_
 first|refine Gaa (Gcj hit.typeIs (Gad ?_))|refine Gaa (GcD hit.typeIs (Gad ?_))
 show wpAny _ _ (setField (.ref it) 0 .none>>=_) _ _ z;refine Gaa (Gde ho hd (by simp) ?_);show wpAny _ _ (newExc (.type "StopIteration") []>>=_) _ _ _;refine Gaa ?_;simp only[newExc,newTuple];refine Gaa (Gba ?_ (by size_fits));refine Gaa (m:=firstArgMember _ _) (wpAny_of_eq (a:=Value.none) rfl ?_);refine Gba ?_ (by size_fits);simp only[raiseNew];refine Gaa (wpAny_handled ?_);rw[show A.in1.handled=none from hh];refine Gaa (Gad (wpAny_throw ?_));refine Gaa (Gdy (T:="StopIteration") (b:=true) ⟨_,Gaz _ rfl,rfl⟩ isSubtype_stop (Gad (hQ _ ?_)));exact((GbA ..).extBut.push _).push _
theorem Dj(hh:A.handled=none)(I d:Addr)(hne:d≠I)(es:Array DictEntry)(ep:Nat):Walks prog w A I [I,d] [I] es.size (λi v=>∃e,es[i]? =some e∧v=e.key) (λi h=>h.IsKeyIter I d i es.size ep∧mO h d es ep) where
 sub:=λb hb=>by simp at hb;simp[hb]
 frame:=λ_ _ _ st hk=> ⟨st.1.at λo e=>hk I (by simp) o e,st.2.at λo e=>hk d (by simp) o e⟩
 item:=λi z Q E hi st hQ=>Fo hi st.1 st.2 λh' hit' hs' =>hQ _ h' z.toks ⟨_,Gbg hi,rfl⟩ ⟨hit',st.2.at λo e=>hs'.extBut d o hne e⟩ λb o hb e=>hs'.extBut b o (λh=>hb (by simp[h])) e
 done:=λz Q E st hQ=>HW (Gar _) hh st.1 st.2 λh' he' =>hQ h' z.toks λb o hb e=>he' b o (λh=>hb (by simp[h])) e
 self:=λ_ _ _ _ st hQ=>wpAny_pyIter_keyiter st.1 hQ
end
section
variable{prog:Program}{w:World}{A:Around}{E:Value→Shared→Prop}{z:Shared}
theorem Dk{d:Addr}{Q:Bool→Shared→Prop}(hT:z.TypeIs (.ref d) "dict")(h:Q false z):wpAny (model prog w) A (Builtin.List.listLengthHint (.ref d)) Q E z:=by
 unfold Builtin.List.listLengthHint;refine Gaa (wpAny_specialOf hT F.slot_dict_len.lookup ?_);generalize hid:("dict.__len__":String)=id0
 wp_delta
 rw[show splitId id0=some ("dict","__len__") from by subst hid;decide+kernel];subst hid;refine Gaa (Gdy (T:="dict") (b:=true) hT (by rw[isSubtype_type];kernel_rfl) ?_);refine wpAny_ite_split (λhab=>absurd hab (by decide)) (λ_=> ?_);refine wpAny_ite_split (λ_=> ?_) (λhab=>absurd (by decide+kernel) hab);refine Gaa (wpAny_typeOf hT ?_);exact Gad h
theorem B4{R:Result→Shared→Prop}{d:Addr}{es:Array DictEntry}{ep:Nat}(hh:A.handled=none)(hds:(d==sysModules)=false)(hm:mO z.heap d es ep)(hlen:es.size≤sizeLine)(S:Addr)(res:Value)(c₀:Nat)(hS:z.heap.get? S=some {cls:= .type "list",data:= .seq #[] c₀})(hSd:S≠d)
  (hR:∀h' tk acc' c',(∀b o,b≠S→z.heap.get? b=some o→h'.get? b=some o)→h'.get? S=some {cls:= .type "list",dict:=none,data:= .seq acc' c',slots:=#[]}→ItemsOf (λi v=>∃e,es[i]? =some e∧v=e.key) acc' es.size→R (.ok (.ret res)) {z with heap:=h',toks:=tk}):
  wpAny (model prog w) A.in1 (Builtin.List.listExtendWith (.ref S) (.ref d) res) (λfin s' =>match fin with| .done f=>R (.ok f) s' | .again c' =>c'.quiet=true∧codeAny (model prog w) A c' R s') (λe s' =>R (.error e) s') z:=by
 have hSlt:S<z.heap.objs.size:=Gas hS;have hdlt:d<z.heap.objs.size:=let⟨o,ho,_⟩:=hm;Gas ho
 have W:=(Dj (prog:=prog) (w:=w) (A:=A.in1) hh z.heap.objs.size d (GaI hdlt) es ep).toS;have hSf:S∉[z.heap.objs.size,d]:=λhmm=>by
  rcases Gay.mp hmm with e|e
  ·exact Gbw _ (e▸hSlt)
  ·exact hSd (by simpa using e)
 unfold Builtin.List.listExtendWith;refine Gaa (wpAny_typeOf (T:="dict") hm.ty ?_);have h1:Builtin.List.listSameRef (.ref S) (.ref d)=false:=by simp[Builtin.List.listSameRef,hSd]
 have h2:(Value.type "dict"==Value.type "list")=false:=by decide
 have h3:(Value.type "dict"==Value.type "tuple")=false:=by decide
 simp only[h1,h2,h3,Bool.or_false,Gaw,GaR];refine Gaa (Fn hds hm ?_);refine Gaa (GbQ (Dk (let⟨o,ho,hc,_⟩:=hm;⟨o,Gah _ ho,hc.1⟩) ?_));have hS₁:=Gah {cls:= .type "dict_keyiterator",data:= .fields #[.ref d,.int 0 0,.int es.size 0,.int ep 0]} hS;refine wpAny_ite_split (λ_=> ?_) (λhab=>absurd (by decide+kernel) hab);refine Gaa (GbR ?_);refine Gaa ?_;show wpAny _ _ (updateSeq S (·.push .none)>>=λ_=>updateSeq S (·.pop)) _ _ _;refine Gaa (GcJ hS₁ rfl ?_);have hS₂:=Gbl (Obj.mapSeq (·.push Value.none)) hS₁ rfl;refine GcJ (hz:=by seq_fits) hS₂ rfl ?_;have hS₃:=Gbl (Obj.mapSeq (·.pop)) hS₂ rfl;have oth:∀b o,b≠S→(z.heap.push {cls:= .type "dict_keyiterator",data:= .fields #[.ref d,.int 0 0,.int es.size 0,.int ep 0]}).get? b=some o→(((z.heap.push {cls:= .type "dict_keyiterator",data:= .fields #[.ref d,.int 0 0,.int es.size 0,.int ep 0]}).update S (Obj.mapSeq (·.push Value.none))).update S (Obj.mapSeq (·.pop))).get? b=some o:=λb o hb e=>(GaW _ _ (GaY hb)).trans ((GaW _ _ (GaY hb)).trans e);refine Gad ⟨Gdv F.plain_extend_loop _,codeAny_extend_loopS W hlen S hSf res es.size 0 _ #[] _ rfl (GbH _) ?_ hS₃ (ItemsOf.nil _) λs' acc' c' hmv hS' hacc=> ?_⟩
 ·exact⟨⟨_,oth _ _ (GaY (GaI hSlt)) (Gaz _ rfl),rfl,rfl⟩,hm.at λo e=>oth d o (GaY hSd) (Gah _ e)⟩
 ·rw[Moved.eq_with hmv];refine hR s'.heap s'.toks acc' c' (λb o hb e=>hmv.heap b o (λhmem=> ?_) (oth b o hb (Gah _ e))) hS' hacc;rcases Gay.mp hmem with e' |hmem
  ·exact hb e'
  ·exact absurd (Gas e) (by rw[Gbo.mp hmem];exact Gbw _)
theorem t5{Q:Value→Shared→Prop}{d:Addr}{es:Array DictEntry}{ep:Nat}(hh:A.handled=none)(hds:(d==sysModules)=false)(hm:mO z.heap d es ep)(hlen:es.size≤sizeLine)
  (hQ:∀h' tk acc' c',(∀b o,z.heap.get? b=some o→h'.get? b=some o)→h'.get? z.heap.objs.size=some {cls:= .type "list",dict:=none,data:= .seq acc' c',slots:=#[]}→ItemsOf (λi v=>∃e,es[i]? =some e∧v=e.key) acc' es.size→Q (.ref z.heap.objs.size) {z with heap:=h',toks:=tk}):
  wpAny (model prog w) A (call (.type "list") [.ref d]) Q E z:=by
 have hdlt:d<z.heap.objs.size:=let⟨o,ho,_⟩:=hm;Gas ho
 refine callType_codes (Q₁:=λobj s₁=>obj= .ref z.heap.objs.size∧s₁={z with heap:=z.heap.push {cls:= .type "list",data:= .seq #[]}}) F.called_list (F.typeCall_list_1 _) F.entry_list_init (code_list_new _ ⟨rfl,rfl⟩) λobj s₁ h₁=> ?_;obtain⟨rfl,rfl⟩:=h₁;have hS:(z.heap.push {cls:= .type "list",data:= .seq #[]}).get? z.heap.objs.size=some {cls:= .type "list",data:= .seq #[]}:=Gaz _ rfl;refine⟨⟨_,hS,rfl⟩,F.args_list_init_2 _ _, ?_⟩;show wpAny _ A.in1.in1 (do let old←Builtin.List.listItems (.ref z.heap.objs.size);Builtin.List.listUpdate (.ref z.heap.objs.size) (λ_=>#[]);letGo old.toList.reverse;Builtin.List.listExtendWith (.ref z.heap.objs.size) (.ref d) .none) _ _ _;refine Gaa ?_;unfold Builtin.List.listItems;refine Gaa (GcO hS rfl (Gad ?_));show wpAny _ A.in1.in1 (updateSeq z.heap.objs.size (λ_=>#[])>>=λ_=>letGo (#[]:Array Value).toList.reverse>>=λ_=>Builtin.List.listExtendWith (.ref z.heap.objs.size) (.ref d) .none) _ _ _;refine Gaa (GcJ hS rfl ?_);have hS₂:=Gbl (Obj.mapSeq (λ_=>(#[]:Array Value))) hS rfl;have oth:∀b o,b≠z.heap.objs.size→(z.heap.push {cls:= .type "list",data:= .seq #[]}).get? b=some o→((z.heap.push {cls:= .type "list",data:= .seq #[]}).update z.heap.objs.size (Obj.mapSeq (λ_=>(#[]:Array Value)))).get? b=some o:=λb o hb e=>(GaW _ _ (GaY hb)).trans e;refine Gaa (Gdq ?_);refine B4 (A:=A.in1) hh hds (hm.at λo e=>oth d o (GaI hdlt) (Gah _ e)) hlen _ .none _ hS₂ (GaY (GaI hdlt)) λh' tk acc' c' hk hS' hacc=> ?_;exact⟨rfl,hQ h' tk acc' c' (λb o e=>hk b o (GaI (Gas e)) (oth b o (GaI (Gas e)) (Gah _ e))) hS' hacc⟩
end
section
variable{X:Cx}{e a b c:Expr}{f g h:DE}{pos:Pos}
def B5(H:Hp)(kvs:List (List Key×V))(ks:List V):Prop:=ks.length=kvs.length∧∀(i:Nat) p v,kvs[i]? =some p→ks[i]? =some v→∃b,v= .ref b∧H b=some (.tup (p.1.map kV))
theorem Ke{pins:List (Addr×Obj)}{σ:L2.St}{H:Hp}{z:Shared}{d:Addr}{kvs:List (List Key×V)}(I:Inv X pins σ H z)(e:H d=some (.dT kvs)):kvs.length≤sizeLine∧(d==sysModules)=false∧∃(es:Array DictEntry) (ep:Nat) (bs:List Addr),mO z.heap d es ep∧es.size=kvs.length∧bs.length=kvs.length∧
  (∀(i:Nat) p b,kvs[i]? =some p→bs[i]? =some b→H b=some (.tup (p.1.map kV)))∧∀(i:Nat) en b,es[i]? =some en→bs[i]? =some b→en.key= .ref b:=by
 obtain⟨h1,h2,xs,kt,o,es,ep,ho,hx,hd,he,_⟩:=BG I.hok e;have hl:kvs.length=xs.length:=Paired.length kt;have hs:es.size=xs.length:=by rw[←GbO,he,Gaf]
 refine⟨h1,h2,es,ep,xs.map (·.2.1),⟨o,ho,hx,hd⟩,by omega,by simp[hl], ?_, ?_⟩
 ·have all:∀{l:List (List Key×V)} {m:List (List Key×Addr×Value)},KT H l m→∀(i:Nat) p b,l[i]? =some p→(m.map (·.2.1))[i]? =some b→H b=some (.tup (p.1.map kV)):=by
   intro l m q;induction q with
   |nil=>intro i p b h;simp at h
   | @cons p q ps qs hq t ih=>
    intro i p' b h1 h2;cases i with
    |zero=>
     simp at h1 h2;subst h1 h2;exact hq.2.1
    |succ i=>exact ih i p' b (by simpa using h1) (by simpa using h2)
  exact all kt
 ·intro i en b h3 h4;have h5:es.toList[i]? =some en:=by simpa using h3
  rw[he,Gak] at h5;rw[Gak] at h4;cases q:xs[i]? with
  |none=>rw[q] at h4;cases h4
  |some x=>
   rw[q] at h4 h5;cases h4;cases h5
   rfl
theorem vh(hc:X.calm=true):gX X (.type "list") (λxs H Q=>∃a kvs,xs=[.ref a]∧H a=some (.dT kvs)∧∀l ks,H l=none→B5 H kvs ks→Q (.ref l) (upd H l (.lst ks))):=by
 intro pins z σ H xs us Q I r h;obtain⟨d,kvs,rfl,hp,q⟩:=h;obtain⟨u,rfl,rx⟩:=vals1 r;cases rx;obtain⟨h1,h2,es,ep,bs,hr,e1,e2,e3,e4⟩:=Ke I hp;refine t5 (I.ok.hd hc) h2 hr (by omega) λh' tk acc' c' hk hS hacc=> ?_;refine⟨.ref z.heap.objs.size,_,I.laid (a:=z.heap.objs.size) (o:= .lst (bs.map V.ref)) hk (Gar _) ⟨by rw[Gaf];omega,acc'.toList,c', ?_,by simpa using hS⟩,rfl,q _ _ I.fresh ⟨by rw[Gaf,e2],λi p v hp' hv=> ?_⟩⟩
 ·refine rF (by simp[hacc.1,e2,e1]) λi x y hx hy=> ?_;rw[Gak] at hx;obtain⟨b,hb,rfl⟩:=Gam.mp hx;obtain⟨en,h3,rfl⟩:=hacc.2 i y (by simpa using hy);exact e4 i en b h3 hb
 ·rw[Gak] at hv;obtain⟨b,hb,rfl⟩:=Gam.mp hv;exact⟨b,rfl,e3 i p b hp' hb⟩
theorem C4{K:aE}{F:Addr→Prop}{H:Hp}(k:Key):Rep K F H (D2 k) (kV k):=by
 cases k with
 |inl i=>exact .int i
 |inr x=>exact .str x
theorem Dl{K:aE}{F:Addr→Prop}{H:Hp}{kvs:List (List Key×D)}{ws:List (List Key×V)}{ks:List V}(h:kvs.map (·.1)=ws.map (·.1))(hk:B5 H ws ks):b4 K F H (tZ kvs) ks:=by
 have hl:kvs.length=ws.length:=by have:=congrArg List.length h;simpa using this
 refine⟨by unfold tZ;rw[Gaf,hl,hk.1],λi d v e1 e2=> ?_⟩;unfold tZ at e1;rw[Gak] at e1;obtain⟨p,hp,rfl⟩:=Gam.mp e1;have hi:i<ws.length:=by rw[←hl];exact(Gae.mp hp).1
 have hq:ws[i]? =some ws[i]:=Gab hi;have ep:p.1=ws[i].1:=by
  have:=congrArg (λl=>l[i]?) h;simp only[Gak,hp,hq,Gct,Gcv] at this;exact this
 obtain⟨b,rfl,hb⟩:=hk.2 i _ _ hq e2;have rs:b4 K F H (p.1.map D2) (ws[i].1.map kV):=by rw[ep];exact rG λk=>C4 k
 exact .tup hb rs.1 rs.2
theorem wO:CallD X BL (λxs H Q=>∃a kvs,xs=[.ref a]∧H a=some (.dT kvs)∧∀l ks,H l=none→B5 H kvs ks→Q (.ref l) (upd H l (.lst ks))):=by
 intro F H ds vs rv Q ps e k;unfold BL at e;split at e
 ·cases e;obtain⟨v,rfl,i⟩:=gK ps;cases i with
  |dT h r=>
   exact⟨_,_,rfl,h,λl ks hl hk=>k _ _ (bG hl) ⟨l,rfl,hl,pj,rfl,gF hl (Dl r.1 hk)⟩⟩
 ·cases e
end
section
variable{X:Cx}{e a b c:Expr}{f g h:DE}{pos:Pos}
theorem Kf{K:aE}{F:Addr→Prop}{H:Hp}{d:D}{v:V}{k:D}{o:Option D}(i:Inn K F H d v)(e:D3 d k=some o):∃p,v= .ref p∧IsD H p:=by
 unfold D3 at e;split at e
 ·cases i with
  |dK h r=>exact⟨_,rfl,.inl ⟨_,.inl h⟩⟩
 ·cases i with
  |dT h r=>exact⟨_,rfl,.inr ⟨_,.inl h⟩⟩
 ·cases e
theorem Fp{K:aE}{F:Addr→Prop}{H:Hp}{dx dy rd:D}{y vz:V}{p:Addr}{o' :Option D}(ix:Inn K F H dx (.ref p))(iy:Inn K F H dy y)(e:D3 dx dy=some o')(rz:Rep K F H rd vz):∃o,qF H p y o∧Rep K F H (o'.getD rd) (o.getD vz):=by
 obtain⟨g1,g2⟩:=va ix iy;have fin:∀{κ:Type} [DecidableEq κ] {kvs:List (κ×D)} {ws:List (κ×V)} {k:κ},bc K F H kvs ws→Rep K F H ((look kvs k).getD rd) ((gY ws k).getD vz):=λ{κ _ kvs ws k} rp=>by
  cases z:look kvs k with
  |none=>rw[u9 rp z];exact rz
  |some d=>obtain⟨v,h1,h2⟩:=o5 rp z;rw[h1];exact h2
 unfold D3 at e;split at e
 ·obtain⟨k',hk,rfl⟩:=Gam.mp e;obtain⟨q,ws,eq,rp,gg⟩:=g1 _ k' rfl hk;cases eq;exact⟨_,gg,fin rp⟩
 ·obtain⟨k',hk,rfl⟩:=Gam.mp e;obtain⟨q,ws,eq,rp,gg⟩:=g2 _ _ k' rfl rfl hk;cases eq;exact⟨_,gg,fin rp⟩
 ·cases e
theorem C5{apos cpos:Pos}{o:Expr}(hu:X.A.units+1<cLine)(ho:PEd X o f)(he:PEd X a g)(hd:PEd X b h)(m:M2 X o "get" apos a b cpos):PEd X (.Call (.Attribute o "get" apos) [a,b] [] cpos) (Ho f g h):=by
 refine(Ey hu ho he hd m).aU ?_;rintro σ H Q ⟨H₀,Bad,env,rv,E,e,k⟩;obtain⟨x,hx,e⟩:=bind_some e;obtain⟨y,hy,e⟩:=bind_some e;obtain⟨r,hr,e⟩:=bind_some e;split at e
 ·rename_i hc;obtain⟨o',e',rfl⟩:=Gam.mp e;refine⟨H₀,Bad,env,x,E,hx,λvx H1 s1 R1=> ?_⟩;obtain⟨p,rfl,hD⟩:=Kf R1.inn e';refine⟨p,rfl,hD,H₀,Bad,env,y,E.mono s1,hy,λvy H2 s2 R2=> ⟨H₀,Bad,env,r,(E.mono s1).mono s2,hr,λvz H3 s3 R3=> ?_⟩⟩;have rz:Rep X.K (Cln Bad env σ) H3 r.d vz:=R3.rep ((E.mono s1).mono s2) (by unfold RV.free;rw[hc]);obtain⟨ov,gg,rp⟩:=Fp ((R1.inn.same s2).same s3) (R2.inn.same s3) e' rz;exact⟨ov,gg,k _ H3 (s1.trans (s2.trans s3)) rp⟩
 ·cases e
end
section
variable{prog:Program}{w:World}{A:Around}{E:Value→Shared→Prop}{s:Shared}
theorem qH(d:Addr)(hd:(d==sysModules)=false):MeetsIn prog w (Builtin.«dict.items» ⟨[.ref d],[]⟩) (λ_ R s=>s.TypeIs (.ref d) "dict"∧R (.ok (.ret (.ref s.heap.objs.size))) {s with heap:=s.heap.push {cls:= .type "dict_items",data:= .fields #[.ref d]}}):=
 .of_wp λA R s ⟨hm,h⟩=>by
  refine Gaa ?_;unfold Builtin.Dict.noArgs;refine Gaa (GdB hm ?_);show wpAny _ _ (pure d) _ _ s;refine Gad ?_;show wpAny _ _ (Builtin.Dict.showsAll d>>=_) _ _ s;unfold Builtin.Dict.showsAll;rw[Gag (by rw[hd];exact Gav)];refine Gaa (Gad ?_);exact Gaa (Gba (Gad ⟨_,rfl,h⟩))
theorem rH{v d:Addr}{es:Array DictEntry}{ep:Nat}{Q:Value→Shared→Prop}(hv:s.heap.IsItemsView v d)(hm:mO s.heap d es ep)
  (hQ:Q (.ref s.heap.objs.size) {s with heap:=s.heap.push {cls:= .type "dict_itemiterator",data:= .fields #[.none,.bool false,.ref d,.int 0 0,.int es.size 0,.int ep 0,.none,.none]}}):wpAny (model prog w) A (pyIter (.ref v)) Q E s:=by
 obtain⟨ov,hov,hcv,hdv⟩:=id hv;obtain⟨o,ho,hc,hdat⟩:=id hm;refine wpAny_pyIter_slot hv.typeIs F.slot_dict_items_iter (Gbj F.slot_dict_items_iter hv.typeIs F.entry_dict_items_iter ?_ (F.args_dict_items_iter_1 _));unfold Builtin.«dict_items.__iter__»;refine Gaa (Gad ?_);refine Gaa ?_;unfold Builtin.Dict_items.dictOf;refine Gaa (Gby hov hdv (x:= .ref d) rfl (Gad ?_));refine Gaa ?_;unfold Builtin.Dict_items.newIterator;refine Gaa (Gcg ho hdat ?_);refine Gaa (GcK ho hdat ?_);have hown:Builtin.Dict_items.ownsTuple "dict_itemiterator"=true:=by decide
 simp only[hown,Gbi];refine Gba (Gad ⟨_,rfl,"dict_itemiterator",_,⟨_,Gaz _ rfl,rfl⟩,GbD.lookup, ?_⟩)
  (by simp only[sizeOk,Builtin.Dict_items.ownedTupleFields,Gan,GaA,GaC,Gce,GbP];omega)
 simpa[rawInt,Builtin.Dict_items.ownedTupleFields] using hQ
abbrev ItI(h:Heap)(it d:Addr)(i n ep:Nat)(f0 f1 ok ov:Value):Prop:=h.get? it=some {cls:= .type "dict_itemiterator",dict:=none,data:= .fields #[f0,f1,.ref d,.int i 0,.int n 0,.int ep 0,ok,ov],slots:=#[]}
theorem rJ{it d:Addr}{i ep:Nat}{es:Array DictEntry}{f0 f1 ok ov:Value}(hi:i<es.size){Q:Option Value→Shared→Prop}(hit:ItI s.heap it d i es.size ep f0 f1 ok ov)(hm:mO s.heap d es ep)
  (hf:f0= .none∨∃(a:Addr) (oa:Obj) (f:Bool),f0=rawInt a∧f1= .bool f∧s.heap.get? a=some oa∧a≠it)
  (hQ:∀h' g0 g1 ok' ov',ItI h' it d (i+1) es.size ep g0 g1 ok' ov' →((f0= .none∧g0=rawInt s.heap.objs.size∧g1= .bool false)∨(f0≠ .none∧g0=f0∧g1= .bool true))→
   h'.get? s.heap.objs.size=some {cls:= .type "tuple",data:= .seq #[es[i].key,es[i].val]}→h'.objs.size=s.heap.objs.size+1→
   (∀b o,b≠it→s.heap.get? b=some o→h'.get? b=some o)→Q (some (.ref s.heap.objs.size)) {s with heap:=h' }):wpAny (model prog w) A (pyNext (.ref it)) Q E s:=by
 obtain⟨hp,g,dr,tk,os⟩:=s;obtain⟨od,hod,hcd,hdd⟩:=id hm;have hT:Shared.TypeIs ⟨hp,g,dr,tk,os⟩ (.ref it) "dict_itemiterator":=⟨_,hit,rfl⟩
 unfold pyNext;refine Gaa (GcU (Gbm (name:=Str.ofString "__next__") hT GbD
  (Gbj GbD hT F.entry_dict_itemiterator_next ?_ (F.args_dict_itemiterator_next_1 _))))
 refine Gaa (Gad ?_);refine Gaa (Gaa ?_)
 first|refine Gaa (Gcf hT (Gad ?_))|refine Gaa (Gcy hT (Gad ?_))
 refine Gaa (GdL hit rfl ?_);have hown:Builtin.Dict_items.ownsTuple "dict_itemiterator"=true:=by decide
 simp only[hown,Gbi];show wpAny _ _ (if(Value.ref d==Value.none)=true then _ else _) _ _ _;rw[Gag (show¬((Value.ref d==Value.none)=true) from Gav)];refine Gaa (Gad ?_);refine Gaa (Gcg hod hdd ?_);rw[Gag (by simp)];refine Gaa (Gad ?_);refine Gaa (GcK hod hdd ?_);rw[Gag (by simp)];refine Gad ?_;simp only[show¬((i:Int)<0) from by omega,GaR,GaL,Gbg hi];refine Gaa ?_
 first|refine Gaa (Gcf hT (Gad ?_))|refine Gaa (Gcy hT (Gad ?_))
 refine Gaa (Gdr hT ?_);show wpAny _ _ (setField (.ref it) 3 (rawInt ((i:Int)+1))>>=_) _ _ ⟨hp,g,dr,tk,os⟩;refine Gaa (GbV hit (by simp) λh₁ he₁ hs₁=> ?_);replace hs₁:Heap.SameBut it hp h₁:=hs₁;replace he₁:ItI h₁ it d (i+1) es.size ep f0 f1 ok ov:=by
  have e:((i+1:Nat):Int)=(i:Int)+1:=by omega
  unfold ItI;rw[e];simpa[rawInt] using he₁
 have hT₁:Shared.TypeIs ⟨h₁,g,dr,tk,os⟩ (.ref it) "dict_itemiterator":=⟨_,he₁,rfl⟩
 refine Gaa (GbQ ?_);refine Gaa (Gdr hT₁ ?_);refine Gaa (Gdr hT₁ ?_);show wpAny _ _ (Builtin.Dict_items.pairFromOwner (.ref it) 6 es[i].key es[i].val) _ _ ⟨h₁,g,dr,tk,os⟩;unfold Builtin.Dict_items.pairFromOwner;refine Gaa (wpAny_newTuple ?_);have he₂:ItI (h₁.push {cls:= .type "tuple",data:= .seq #[es[i].key,es[i].val]}) it d (i+1) es.size ep f0 f1 ok ov:=Gah _ he₁;generalize hh₂:h₁.push {cls:= .type "tuple",data:= .seq #[es[i].key,es[i].val]}=h₂ at he₂;have hz₁:h₁.objs.size=hp.objs.size:=hs₁.1;have hil:it<hp.objs.size:=Gas hit;have ht₂:h₂.get? hp.objs.size=some {cls:= .type "tuple",data:= .seq #[es[i].key,es[i].val]}:=by rw[←hh₂,←hz₁];exact Gaz _ rfl
 have hz₂:h₂.objs.size=hp.objs.size+1:=by rw[←hh₂,GdK,hz₁]
 have hk₂:∀b o,b≠it→hp.get? b=some o→h₂.get? b=some o:=λb o hb e=>by rw[←hh₂];exact Gah _ (hs₁.extBut b o hb e)
 show wpAny _ _ (Builtin.Dict_items.ownedTupleIsFree (.ref it)>>=_) _ _ ⟨h₂,g,dr,tk,os⟩;rw[hz₁];clear hh₂ he₁ hs₁ hT₁ hz₁ h₁;refine Gaa ?_;unfold Builtin.Dict_items.ownedTupleIsFree;rcases hf with rfl| ⟨a,oa,f,rfl,rfl,ha,hai⟩
 ·refine Gaa (Gby he₂ rfl (x:= .none) rfl (Gad ?_));simp only[Gbi];refine Gaa (Gby he₂ rfl (x:=ok) rfl ?_);refine Gaa (Gby he₂ rfl (x:=ov) rfl ?_);refine Gaa (GbV he₂ (by simp) λh₃ he₃ hs₃=> ?_);replace hs₃:Heap.SameBut it h₂ h₃:=hs₃;replace he₃:ItI h₃ it d (i+1) es.size ep .none f1 es[i].key ov:=he₃;refine Gaa (GbV he₃ (by simp) λh₄ he₄ hs₄=> ?_);replace hs₄:Heap.SameBut it h₃ h₄:=hs₄;replace he₄:ItI h₄ it d (i+1) es.size ep .none f1 es[i].key es[i].val:=he₄;refine Gaa (GbV he₄ (by simp) λh₅ he₅ hs₅=> ?_);replace hs₅:Heap.SameBut it h₄ h₅:=hs₅;replace he₅:ItI h₅ it d (i+1) es.size ep (rawInt hp.objs.size) f1 es[i].key es[i].val:=he₅;refine Gaa (GbV he₅ (by simp) λh₆ he₆ hs₆=> ?_);replace hs₆:Heap.SameBut it h₅ h₆:=hs₆;replace he₆:ItI h₆ it d (i+1) es.size ep (rawInt hp.objs.size) (.bool false) es[i].key es[i].val:=he₆;refine Gaa (Gdq (Gad (Gad ⟨_,rfl,Gad (hQ h₆ _ _ _ _ he₆ (.inl ⟨rfl,rfl,rfl⟩) ?_ ?_ ?_)⟩)))
  ·exact hs₆.extBut _ _ (Gcc hil) (hs₅.extBut _ _ (Gcc hil) (hs₄.extBut _ _ (Gcc hil) (hs₃.extBut _ _ (Gcc hil) ht₂)))
  ·show h₆.objs.size=hp.objs.size+1;rw[hs₆.1,hs₅.1,hs₄.1,hs₃.1,hz₂]
  ·exactλb o hb e=>hs₆.extBut b o hb (hs₅.extBut b o hb (hs₄.extBut b o hb (hs₃.extBut b o hb (hk₂ b o hb e))))
 ·have ha₂:h₂.get? a=some oa:=hk₂ a oa hai ha;refine Gaa (Gby he₂ rfl (x:=rawInt a) rfl ?_);show wpAny _ _ (loadIfAlive ((a:Int).toNat)>>=_) _ _ _;rw[GaL];refine Gaa (PySem.W.kdx_alive ha₂ ?_);simp only[Option.isNone_some,Gaw,GaR];refine Gaa (Gby he₂ rfl (x:= .bool f) rfl ?_);have fin:∀h₃:Heap,ItI h₃ it d (i+1) es.size ep (rawInt a) (.bool true) ok ov→Heap.SameBut it h₂ h₃→Q (some (.ref hp.objs.size)) ⟨h₃,g,dr,tk,os⟩:=λh₃ he₃ hs₃=>
   hQ h₃ _ _ _ _ he₃ (.inr ⟨by simp[rawInt],rfl,rfl⟩) (hs₃.extBut _ _ (Gcc hil) ht₂) (by show h₃.objs.size=hp.objs.size+1;rw[hs₃.1,hz₂]) λb o hb e=>hs₃.extBut b o hb (hk₂ b o hb e)
  cases f with
  |true=>
   rw[Gag (show¬((Value.bool true !=Value.bool true)=true) from Gav)];refine Gad ?_;simp only[Gaw,GaR];exact Gad (Gad ⟨_,rfl,Gad (fin h₂ he₂ (Heap.SameBut.refl _ _))⟩)
  |false=>
   rw[Gai (show(Value.bool false !=Value.bool true)=true from rfl)];refine Gaa (GbV he₂ (by simp) λh₃ he₃ hs₃=> ?_);replace hs₃:Heap.SameBut it h₂ h₃:=hs₃;replace he₃:ItI h₃ it d (i+1) es.size ep (rawInt a) (.bool true) ok ov:=he₃;refine Gad ?_;simp only[Gaw,GaR];exact Gad (Gad ⟨_,rfl,Gad (fin h₃ he₃ hs₃)⟩)
theorem t6{it d:Addr}{i ep:Nat}{es:Array DictEntry}{f0 f1 ok ov:Value}(hi:es.size≤i){Q:Option Value→Shared→Prop}(hh:A.handled=none)(hit:ItI s.heap it d i es.size ep f0 f1 ok ov)(hm:mO s.heap d es ep)
  (hQ:∀h',Heap.ExtBut it s.heap h' →Q none {s with heap:=h' }):wpAny (model prog w) A (pyNext (.ref it)) Q E s:=by
 obtain⟨od,hod,hcd,hdd⟩:=id hm;have hT:s.TypeIs (.ref it) "dict_itemiterator":=⟨_,hit,rfl⟩
 unfold pyNext;refine Gaa (GcU (Gbm (name:=Str.ofString "__next__") hT GbD
  (Gbj GbD hT F.entry_dict_itemiterator_next ?_ (F.args_dict_itemiterator_next_1 _))))
 refine Gaa (Gad ?_);refine Gaa (Gaa ?_)
 first|refine Gaa (Gcf hT (Gad ?_))|refine Gaa (Gcy hT (Gad ?_))
 refine Gaa (GdL hit rfl ?_);have hown:Builtin.Dict_items.ownsTuple "dict_itemiterator"=true:=by decide
 simp only[hown,Gbi];show wpAny _ _ (if(Value.ref d==Value.none)=true then _ else _) _ _ s;rw[Gag (show¬((Value.ref d==Value.none)=true) from Gav)];refine Gaa (Gad ?_);refine Gaa (Gcg hod hdd ?_);rw[Gag (by simp)];refine Gaa (Gad ?_);refine Gaa (GcK hod hdd ?_);rw[Gag (by simp)];refine Gad ?_;simp only[show¬((i:Int)<0) from by omega,GaR,GaL,Array.getElem?_eq_none hi];refine Gaa ?_
 first|refine Gaa (Gcf hT (Gad ?_))|refine Gaa (Gcy hT (Gad ?_))
 show wpAny _ _ (setField (.ref it) 2 .none>>=_) _ _ s;refine Gaa (Gde hit rfl (by simp) ?_);show wpAny _ _ (newExc (.type "StopIteration") []>>=_) _ _ _;refine Gaa ?_;simp only[newExc,newTuple];refine Gaa (Gba ?_ (by size_fits));refine Gaa (m:=firstArgMember _ _) (wpAny_of_eq (a:=Value.none) (by first|rfl|(simp only[firstArgMember];rfl)) ?_);refine Gba ?_ (by size_fits);simp only[raiseNew];refine Gaa (wpAny_handled ?_);rw[show A.in1.handled=none from hh];refine Gaa (Gad (wpAny_throw ?_));refine Gaa (Gdy (T:="StopIteration") (b:=true) ⟨_,Gaz _ rfl,rfl⟩ isSubtype_stop ?_);exact Gad (hQ _ (((GbA ..).extBut.push _).push _))
theorem Fq{elts:List Expr}{x1}{pos:Pos}{it d a:Addr}{i n ep:Nat}{f1 ok ov:Value}{Q:Unit→Shared→Prop}(he:ItI s.heap it d i n ep (rawInt a) f1 ok ov)
  (hQ:∀h',ItI h' it d i n ep .none f1 ok ov→Heap.SameBut it s.heap h' →Q () {s with heap:=h' }):
  wpAny (model prog w) A (letOwnedTupleGo (.Tuple elts x1 pos) (.ref it) (.ref a)) Q E s:=by
 unfold letOwnedTupleGo;refine Gaa (wpAny_load he ?_);show wpAny _ _ (if(["enumerate","zip","dict_itemiterator","dict_reverseitemiterator","odict_iterator","itertools.zip_longest","itertools.pairwise"].contains "dict_itemiterator"&&
   (#[rawInt a,f1,.ref d,.int i 0,.int n 0,.int ep 0,ok,ov]:Array Value)[0]? ==some (rawInt a))=true then _ else _) Q E s
 rw[Gai (by simp)];refine Gaa (GbR ?_);show wpAny _ _ (setField (.ref it) 0 .none) Q E s;exact GbV he (by simp) λh' he' hs' =>hQ h' he' hs'
end
section
variable{X:Cx}{e a b c:Expr}{f g h:DE}{pos:Pos}{pins:List (Addr×Obj)}{σ:St}{H:Hp}{s:Shared}
theorem _root_.L2.Inv.freeze{d:Addr}{kvs:List (List Key×V)}{o:Obj}(I:Inv X pins σ H s)(e:H d=some (.dT kvs))(ho:s.heap.get? d=some o):Inv X pins σ (upd H d (.frz o (.dT kvs))) s:=by
 have:=qN (t' :=s.toks) (h' :=s.heap) (ob:= .frz o (.dT kvs)) I (by rw[e];trivial) (Heap.SameBut.refl _ _) ⟨o,ho⟩
  ⟨ho,(I.hok d _ e).dN (λb u _ q=>q) (λb q=>by rw[ay (Bw q e (by simp))];exact q) λb xs q=>by rw[ay (Bw q e (by simp))];exact q⟩
 exact this
theorem _root_.L2.Inv.Kg{d:Addr}{kvs:List (List Key×V)}{o:Obj}(I:Inv X pins σ H s)(e:H d=some (.frz o (.dT kvs)))(hn:∀o u,X.H₀ d≠some (.frz o u)):Inv X pins σ (upd H d (.dT kvs)) s:=by
 have ne:∀{b:Addr},H b=none→b≠d:=λq z=>by rw[z,e] at q;cases q
 have nt:∀{b:Addr} {u:HO},H b=some u→u≠ .frz o (.dT kvs)→b≠d:=λq hu z=>by rw[z,e] at q;cases q;exact hu rfl
 refine⟨I.ok,I.os,I.bare,⟨I.base.keep,I.base.slot,λb ob q n hx=> ?_,I.base.there,λb xs q=> ?_,λb ob u q=> ?_,λb ps q=> ?_⟩,I.loc,I.cell, ?_,λx c q=> ?_,λp hp=> ?_,λb u q=> ?_,I.len⟩
 ·have:=I.base.free b ob q n hx;rw[ay (ne this)];exact this
 ·have:=I.base.pQ b xs q;rw[ay (nt this (by simp))];exact this
 ·have:=I.base.nQ b ob u q;rw[ay (λz=>hn ob u (by rw[←z];exact q))];exact this
 ·obtain⟨more,q'⟩:=I.base.pR b ps q;exact⟨more,by rw[ay (nt q' (by simp))];exact q'⟩
 ·rw[ay (ne I.free)];exact I.free
 ·rw[ay (ne (I.kz x c q))];exact I.kz x c q
 ·obtain⟨h1,h2,h3⟩:=I.pin p hp;exact⟨h1,by rw[ay (ne h2)];exact h2,h3⟩
 ·have st:∀{b:Addr} {u:HO},cz X.prog X.w H s.heap b u→cz X.prog X.w (upd H d (.dT kvs)) s.heap b u:=λx=>
   x.dN (λ_ _ _ q=>q) (λc q=>by rw[ay (nt q (by simp))];exact q) λc xs q=>by rw[ay (nt q (by simp))];exact q
  by_cases hb:b=d
  ·subst hb;rw[aM] at q;cases q
   exact st (I.hok b _ e).2
  ·rw[ay hb] at q;exact st (I.hok b _ q)
theorem C6{d:Addr}{kvs:List (List Key×V)}{o:Obj}{es:Array DictEntry}{ep:Nat}(I:Inv X pins σ H s)(e:H d=some (.frz o (.dT kvs)))(hd:o.data= .dict es ep):mO s.heap d es ep∧es.size=kvs.length∧
  ∀(i:Nat) p,kvs[i]? =some p→∃b en,es[i]? =some en∧en.key= .ref b∧H b=some (.tup (p.1.map kV))∧RelV p.2 en.val:=by
 obtain⟨ho,h1,h2,xs,kt,o',es',ep',ho',hx,hd',he,_⟩:=I.hok d _ e;rw[ho] at ho';cases ho'
 rw[hd] at hd';cases hd'
 have hl:kvs.length=xs.length:=Paired.length kt;have hs:es.size=xs.length:=by rw[←GbO,he,Gaf]
 refine⟨⟨o,ho,hx,hd⟩,by omega,λi p hp=> ?_⟩;have hi:i<xs.length:=by rw[←hl];exact(Gae.mp hp).1
 have rel:∀{l:List (List Key×V)} {m:List (List Key×Addr×Value)},Paired (λ(p:List Key×V) (q:List Key×Addr×Value)=>p.1=q.1∧H q.2.1=some (.tup (p.1.map kV))∧RelV p.2 q.2.2) l m→∀(i:Nat) p q,l[i]? =some p→m[i]? =some q→H q.2.1=some (.tup (p.1.map kV))∧RelV p.2 q.2.2:=by
  intro l m q;induction q with
  |nil=>intro i p q h;simp at h
  |cons hq t ih=>
   intro i p' q' h1 h2;cases i with
   |zero=>simp at h1 h2;subst h1 h2;exact hq.2
   |succ i=>exact ih i p' q' (by simpa using h1) (by simpa using h2)
 obtain⟨r1,r2⟩:=rel kt i p xs[i] hp (by simp[hi]);refine⟨xs[i].2.1,entryOfKey (tupleKind (cC X.prog X.w)) xs[i], ?_,rfl,r1,r2⟩;have:es.toList[i]? =some (entryOfKey (tupleKind (cC X.prog X.w)) xs[i]):=by rw[he,Gak];simp[hi]
 simpa using this
noncomputable def Kh(d:Addr)(o:Obj)(kvs:List (List Key×V)):It:=
 ⟨λi H=>H d=some (.frz o (.dT kvs))∧i<kvs.length,λi H x H' =>∃p b q,kvs[i]? =some p∧H b=some (.tup (p.1.map kV))∧H q=none∧x= .ref q∧H' =upd H q (.tup [.ref b,p.2]),λi H=>H d=some (.frz o (.dT kvs))∧kvs.length≤i⟩
theorem B6{prog:Program}{w:World}{A:Around}{E:Value→Shared→Prop}{s:Shared}{it d:Addr}{i n ep:Nat}{f0 f1 ok ov:Value}{Q:Value→Shared→Prop}(hit:ItI s.heap it d i n ep f0 f1 ok ov)(h:Q (.ref it) s):wpAny (model prog w) A (pyIter (.ref it)) Q E s:=by
 have hT:s.TypeIs (.ref it) "dict_itemiterator":=⟨_,hit,rfl⟩
 refine wpAny_pyIter_slot hT Gdg (Gbj Gdg hT PySem.W.kcp_entry ?_ (PySem.F.args_dict_itemiterator_iter_1 _));show wpAny _ _ (ret (.ref it)) _ _ s;exact Gad ⟨_,rfl,"dict_itemiterator",_,hT,PySem.F.slot_dict_itemiterator_next.lookup,h⟩
theorem B7{P:Program}{w:World}{K:aE}{elts:List Expr}{x1}{tp:Pos}(it d:Addr)(o:Obj)(kvs:List (List Key×V))(es:Array DictEntry)(ep:Nat)(hd:o.data= .dict es ep)(hne:d≠it):
  Turn P w K (.Tuple elts x1 tp) (Kh d o kvs) [it] it (λi h=>∃f1 ok ov,ItI h it d i es.size ep .none f1 ok ov) where
 mem:=by simp
 obj:=λi h st b hb=>by
  have e:b=it:=by simpa using hb
  subst e;obtain⟨f1,ok,ov,e⟩:=st;exact⟨_,e,λv z=>by
   have z' :Data.fields _=Data.cell v:=z;cases z'⟩
 keep:=λi h h' st k=>let⟨f1,ok,ov,e⟩:=st;⟨f1,ok,ov,k it (by simp) _ e⟩
 item:=by
  intro X hP hw hK hc i pins s σ H E I hf st hg;subst hP hw hK;obtain⟨he,hi⟩:=hg;obtain⟨hr,hz,hx⟩:=C6 I he hd;obtain⟨f1,ok,ov,hit⟩:=st;obtain⟨b,en,q1,q2,q3,q4⟩:=hx i kvs[i] (by simp[hi]);have hi' :i<es.size:=by omega
  have:en=es[i]:=by rw[Gbg hi'] at q1;cases q1;rfl
  subst this;refine rJ hi' hit hr (.inl rfl) λh' g0 g1 ok' ov' hit' hg hT hsz kk=> ⟨_,rfl, ?_⟩;have hg0:g0=rawInt s.heap.objs.size:=by
   rcases hg with⟨_,z,_⟩| ⟨z,_⟩
   ·exact z
   ·exact absurd rfl z
  subst hg0;refine Fq (s:={s with heap:=h' }) hit' λh2 he2 sb=> ?_;have hlt:it<s.heap.objs.size:=Gas hit;have kept:∀b o,b∉[it]→s.heap.get? b=some o→h2.get? b=some o:=λb o hb e=>by
   have b1:b≠it:=λz=>hb (by simp[z]);exact(sb.2 b b1).trans (kk b o b1 e)
  have hT2:h2.get? s.heap.objs.size=some {cls:= .type "tuple",data:= .seq #[es[i].key,es[i].val]}:=(sb.2 _ (Gcc hlt)).trans hT;have I1:Inv X pins σ (upd H s.heap.objs.size (.tup [.ref b,kvs[i].2])) {s with heap:=h2}:=I.rE (ch:=[it]) hf rfl rfl kept (Gar _) (by
   refine⟨by simp[GbP],[es[i].key,es[i].val],.cons q2 (.cons q4 .nil),_,hT2,rfl,0,rfl⟩)
  refine⟨.ref s.heap.objs.size,_,I1,rfl,⟨kvs[i],b,_,by simp[hi],q3,I.fresh,rfl,rfl⟩,⟨_,_,_,he2⟩,λb' hb=> ?_⟩;have z:b' =it:=by simpa using hb
  subst z;rw[ay (GaI hlt)];exact(hf b' hb).1
 done:=by
  intro X hP hw hK hc i pins s σ H E I hf st hg;subst hP hw hK;obtain⟨he,hi⟩:=hg;obtain⟨hr,hz,hx⟩:=C6 I he hd;obtain⟨f0,f1,f2,f3,f4,f5⟩:=hf it (by simp);obtain⟨f1',ok,ov,hit⟩:=st;exact t6 (by omega) (I.ok.hd hc) hit hr λh' eb=> ⟨rfl,I.turned (t' :=s.toks) (λb o hb e=>eb b o hb e) f0 f1 f3 f4 f5⟩
 self:=λ_ _ _ _ _ st h=>let⟨_,_,_,e⟩:=st;B6 e h
noncomputable def Fs(X:Cx)(J:Addr→Obj→List (List Key×V)→It)(to:TE):TI:=λσ H R=>to σ H λx H1=>∃d kvs,x= .ref d∧H1 d=some (.dT kvs)∧∀o,(∀o u,X.H₀ d≠some (.frz o u))→R (J d o kvs) (upd H1 d (.frz o (.dT kvs)))
theorem wQ{o:Expr}{elts:List Expr}{x1}{tp:Pos}{to:TE}{apos cpos:Pos}(ho:PE X o to)(hbase:attributeBase o "items" X.env (eval o X.env)=eval o X.env:=by rfl)(hline:(apos.endLine==cpos.line)=true:=by rfl):PI X (.Tuple elts x1 tp) (.Call (.Attribute o "items" apos) [] [] cpos) (Fs X Kh to):=by
 intro pins s σ H R I h;refine wpAny_Call_method0_late hbase hline (thn (ho pins s σ H _ I h) λv s1 ⟨x,H1,I1,r1,d,kvs,ex,hd,q1⟩=> ?_);subst ex;cases r1;obtain⟨_,hds,xs,kt,ob,es,ep,hob,hx,hdt,he,_⟩:=BG I1.hok hd;obtain⟨t1,t2,_⟩:=AR I1 (.inr ⟨kvs,.inl hd⟩);refine⟨"dict","dict.items",Gdi,PySem.F.slot_dict_items,PySem.F.type_dict_items,t1,t2,GcN rfl (PySem.evalArgs_none ?_)⟩;refine call_meetsIn PySem.F.slot_dict_items t1 PySem.F.entry_dict_items (PySem.F.args_dict_items_1 _) (qH d hds) ⟨t1, ?_⟩;generalize hh1:s1.heap.push {cls:= .type "dict_items",data:= .fields #[.ref d]}=h1;have hv:h1.IsItemsView s1.heap.objs.size d:=by rw[←hh1];exact⟨_,Gaz _ rfl,rfl,rfl⟩
 have k1:∀b u,s1.heap.get? b=some u→h1.get? b=some u:=λb u q=>by rw[←hh1];exact Gah _ q
 have I2:Inv X pins σ H1 {s1 with heap:=h1}:=I1.kept (t' :=s1.toks) k1;refine rH (s:={s1 with heap:=h1}) hv ⟨ob,k1 _ _ hob,hx,hdt⟩ ?_;have I3:Inv X pins σ H1 {s1 with heap:=h1.push {cls:= .type "dict_itemiterator",data:= .fields #[.none,.bool false,.ref d,.int 0 0,.int es.size 0,.int ep 0,.none,.none]}}:=I2.kept (t' :=s1.toks) λb u q=>Gah _ q;have I4:=I3.freeze hd (o:=ob) (Gah _ (k1 _ _ hob));have hlt:d<h1.objs.size:=Gas (k1 _ _ hob);have fresh:(upd H1 d (.frz ob (.dT kvs))) h1.objs.size=none:=by
  rw[ay (Gcc hlt)];exact I2.fresh
 refine⟨h1.objs.size,[h1.objs.size],_,_,_,rfl,I4,B7 _ d ob kvs es ep hdt (GaI hlt),⟨_,_,_,Gaz _ rfl⟩,λb hb=> ?_,q1 ob λo u z=> ?_⟩
 ·have z:b=h1.objs.size:=by simpa using hb
  subst z;exact I2.CD (Gar _) fresh
 ·have:=I1.base.nQ d o u z;rw[hd] at this;cases this
end
section
variable{X:Cx}{e a b c:Expr}{f g h:DE}{pos:Pos}
def B8(J:Addr→Obj→List (List Key×V)→It)(vw:List (List Key×D)→List D):Prop:=
 ∀{K:aE} {Hf:Hp} {a:Addr} {o:Obj} {ws:List (List Key×V)} {kvs:List (List Key×D)} {F F' Nn:Addr→Prop},Hf a=some (.frz o (.dT ws))→bc K F Hf kvs ws→
  (∀b u,Hf b=some u→(F b∨isT u)→Nn b)→(∀b,F b→Hf b≠none→F' b)→D4 K F' Nn (J a o ws) (vw kvs) Hf
theorem um{κ:Type}{K:aE}{F:Addr→Prop}{H:Hp}{kvs:List (κ×D)}{ws:List (κ×V)}(r:bc K F H kvs ws):kvs.length=ws.length:=by
 have:=congrArg List.length r.1
 simpa using this
theorem Dm{κ:Type}{K:aE}{F:Addr→Prop}{H:Hp}{kvs:List (κ×D)}{ws:List (κ×V)}(r:bc K F H kvs ws){i:Nat}{p:κ×D}(e:kvs[i]? =some p):∃q,ws[i]? =some q∧p.1=q.1∧Rep K F H p.2 q.2:=by
 have hi:i<ws.length:=by rw[←um r];exact(Gae.mp e).1
 have hq:ws[i]? =some ws[i]:=Gab hi;refine⟨ws[i],hq, ?_,r.2 i p _ e hq⟩;have:=congrArg (λl=>l[i]?) r.1;simp only[Gak,e,hq,Gct,Gcv] at this;exact this
theorem rK:B8 Kh bN:=by
 intro K Hf a o ws kvs F F' Nn hA r hN hF Hi keep;have hAi:Hi a=some (.frz o (.dT ws)):=keep a _ hA (hN a _ hA (.inr trivial));have r' :bc K F' Hi kvs ws:=r.gen (λb u hb q=>keep b u hb (hN b u hb q)) hF;refine⟨λi d hd=> ?_,hAi,by unfold bN;rw[Gaf,um r];exact Gar _⟩;unfold bN at hd;rw[Gak] at hd;obtain⟨p,hp,rfl⟩:=Gam.mp hd;obtain⟨q,h1,h2,h3⟩:=Dm r' hp;refine⟨⟨hAi,(Gae.mp h1).1⟩,λx H2 ⟨q',b,t,e2,e3,e4,e5,e6⟩=> ?_⟩;subst e5 e6;rw[h1] at e2;cases e2
 refine⟨bG e4,fP e4 (.cons ?_ (.cons h3 .nil))⟩;have rs:b4 K F' Hi (p.1.map D2) (q.1.map kV):=by rw[h2];exact rG λk=>C4 k
 exact .tup e3 rs.1 rs.2
theorem HX{tg iter:Expr}{J:Addr→Obj→List (List Key×V)→It}{vw:List (List Key×D)→List D}(hi:PI X tg iter (Fs X J (tE X f)))(hv:B8 J vw):PId X tg iter (EC vw f):=by
 refine hi.aU ?_;rintro σ H R ⟨H₀,Bad,env,ds,E,hf,k⟩;obtain⟨⟨kd,d⟩,hr,hf⟩:=bind_some hf;split at hf
 ·rename_i hk;have hk' :kd= .tn:=hk;subst hk';split at hf
  ·rename_i kvs hd;have hd' :d= .dT kvs:=hd;subst hd';cases hf;refine⟨H₀,Bad,env,⟨.tn,.dT kvs⟩,E,hr,λv H1 s1 Rv=> ?_⟩;obtain⟨a,ev,hn,wr,_,ii⟩:=Rv;subst ev;cases ii with
   | @dT _ ws _ h r=>
    refine⟨a,ws,rfl,h,λo hnf=> ?_⟩;have sm:cj H (upd H1 a (.frz o (.dT ws))):=λb u q=>by
     rw[ay (dQ q hn)];exact s1 b u q
    have E1:=E.mono sm;refine k _ _ sm (hv aM (r.gen (λb u hb q=> ?_) λb q _=>q) (λb u hb q=> ?_) λb q hb=> ⟨q.1,hb⟩)
    ·have:b≠a:=by
      rcases q with q|q
      ·exact q.2
      ·intro z;subst z;rw[h] at hb;cases hb;exact q
     rw[ay this];exact hb
    ·rcases q with q|q
     ·exactλ⟨i,h1,h2⟩=>q.1.2 i h1.ol.top h2
     ·exactλw=>E1.fQ w hb q
  ·cases hf
 ·cases hf
theorem Ft{o:Expr}{elts:List Expr}{x1}{tp:Pos}{apos cpos:Pos}(ho:PEd X o f)(hbase:attributeBase o "items" X.env (eval o X.env)=eval o X.env:=by rfl)(hline:(apos.endLine==cpos.line)=true:=by rfl):PId X (.Tuple elts x1 tp) (.Call (.Attribute o "items" apos) [] [] cpos) (EC bN f):=HX (wQ ho hbase hline) rK
theorem ka{env:Env}{i j:Nat}{sl:Slot}(h:(env.set i none)[j]? =some (some sl)):j≠i∧env[j]? =some (some sl):=by
 by_cases z:i=j
 ·subst z;rw[GdQ] at h;simp at h
 ·rw[Gac z] at h;exact⟨GaY z,h⟩
theorem oh{env:Env}{i j:Nat}(h:bB (env.set i none)[j]?):j≠i∧bB env[j]? :=by
 by_cases z:i=j
 ·subst z;rw[GdQ] at h;split at h
  ·split at h<;>exact h.elim
  ·exact absurd rfl (by assumption)
 ·rw[Gac z] at h;exact⟨GaY z,h⟩
theorem wR{env:Env}{i j:Nat}(h:wx (env.set i none)[j]?):j≠i∧wx env[j]? :=by
 by_cases z:i=j
 ·subst z;rw[GdQ] at h;split at h
  ·split at h<;>exact h.elim
  ·exact absurd rfl (by assumption)
 ·rw[Gac z] at h;exact⟨GaY z,h⟩
theorem aI.MQ{K:aE}{H₀:Hp}{Bad:Addr→Prop}{env:Env}{σ:St}{H:Hp}{i:Nat}{a:Addr}{o:Obj}{ws:List (List Key×V)}(E:aI K H₀ Bad env σ H)(ti:bB env[i]?)(ea:σ[i]? =some (some (.ref a)))
  (sole:∀j:Nat,j≠i→bB env[j]? →σ[j]? ≠some (some (.ref a)))(hH:H a=some (.dT ws)):
  aI K (λb=>if b=a then none else H₀ b) (λb=>Bad b∨b=a) (env.set i none) σ (upd H a (.frz o (.dT ws)))∧∀b,Cln (λb=>Bad b∨b=a) (env.set i none) σ b↔Cln Bad env σ b:=by
 have cl:∀b,Cln (λb=>Bad b∨b=a) (env.set i none) σ b↔Cln Bad env σ b:=λb=>by
  constructor
  ·intro q;refine⟨λz=>q.1 (.inl z),λj tj ej=> ?_⟩;by_cases z:j=i
   ·subst z;rw[ea] at ej;cases ej;exact q.1 (.inr rfl)
   ·exact q.2 j (by rw[Gac (GaY z)];exact tj) ej
  ·intro q;refine⟨λz=> ?_,λj tj ej=>q.2 j (oh tj).2 ej⟩;rcases z with z|z
   ·exact q.1 z
   ·subst z;exact q.2 i ti ea
 have na:¬Cln Bad env σ a:=λq=>q.2 i ti ea;have dN:jc (Cln Bad env σ) H (upd H a (.frz o (.dT ws))):=λb u hb q=>by
  have:b≠a:=by
   rcases q with q|q
   ·intro z;subst z;exact na q
   ·intro z;subst z;rw[hH] at hb;cases hb;exact q
  rw[ay this];exact hb
 have hF:∀b,Cln Bad env σ b→H b≠none→Cln (λb=>Bad b∨b=a) (env.set i none) σ b:=λb q _=>(cl b).mpr q;refine⟨⟨λb u q=> ?_,by rw[GcW];exact E.len,λb q=> ?_,λj d q=> ?_,λj d q=> ?_,λj d q=> ?_,λj k b tj tk ej ek=> ?_⟩,cl⟩
 ·by_cases z:b=a
  ·subst z;rw[Gai rfl] at q;cases q
  ·rw[Gag z] at q;rw[ay z];exact E.same b u q
 ·rcases q with q|q
  ·by_cases z:b=a
   ·subst z;rw[aM];simp
   ·rw[ay z];exact E.bad b q
  ·subst q;rw[aM];simp
 ·obtain⟨v,h1,h2⟩:=E.sh j d (ka q).2;exact⟨v,h1,h2.gen dN hF⟩
 ·have q' :j≠i∧(env[j]? =some (some (.own d))∨env[j]? =some (some (.lok d))):=by
   rcases q with q|q
   ·exact⟨(ka q).1,.inl (ka q).2⟩
   ·exact⟨(ka q).1,.inr (ka q).2⟩
  have tj:bB env[j]? :=by rcases q'.2 with z|z<;>rw[z]<;>trivial
  obtain⟨a',h1,h2,h3,h4,h5,h6⟩:=E.ow j d q'.2;have ne:a' ≠a:=λz=>sole j q'.1 tj (by rw[h1,z]);refine⟨a',h1,by rw[Gag ne];exact h2,λz=>z.elim h3 ne, ?_,h5,h6.gen dN hF λb eb _ u hu=> ?_⟩
  ·obtain⟨u,hu,wu⟩:=h4;exact⟨u,by rw[ay ne];exact hu,wu⟩
  ·cases eb;rw[ay ne];exact hu
 ·have q' :=ka q;have tj:bB env[j]? :=by rw[q'.2];trivial
  obtain⟨a',h1,h4,h5,h6⟩:=E.bo j d q'.2;have ne:a' ≠a:=λz=>sole j q'.1 tj (by rw[h1,z]);refine⟨a',h1, ?_,h5,h6.gen dN hF λb eb _ u hu=> ?_⟩
  ·obtain⟨u,hu,wu⟩:=h4;exact⟨u,by rw[ay ne];exact hu,wu⟩
  ·cases eb;rw[ay ne];exact hu
 ·exact E.dj j k b (wR tj).2 (oh tk).2 ej ek
theorem Rep.Kg{K:aE}{F:Addr→Prop}{H:Hp}{a:Addr}{o:Obj}{ws:List (List Key×V)}{d:D}{v:V}(hH:H a=some (.frz o (.dT ws)))(nf:¬F a)(r:Rep K F H d v):Rep K F (upd H a (.dT ws)) d v:=by
 induction r with
 |non=>exact .non
 |bl b=>exact .bl b
 |int i=>exact .int i
 |str x=>exact .str x
 | @tup b vs ds h l r ih=>
  refine .tup ?_ l ih;rw[ay λz=>by subst z;rw[hH] at h;cases h];exact h
 | @lst b vs ds f h l r ih=>
  have ne:b≠a:=λz=>by subst z;exact nf f
  refine .lst f ?_ l ih;rcases h with h| ⟨o',h⟩
  ·exact .inl (by rw[ay ne];exact h)
  ·exact .inr ⟨o',by rw[ay ne];exact h⟩
 | @scr b ns h=>
  refine .scr ?_;rcases h with⟨o',h⟩|h
  ·exact .inl ⟨o',by rw[ay λz=>by subst z;rw[hH] at h;cases h];exact h⟩
  ·exact .inr h
 | @dK b ws' kvs f h l r ih=>exact .dK f (by rw[ay λz=>by subst z;exact nf f];exact h) l ih
 | @dT b ws' kvs f h l r ih=>exact .dT f (by rw[ay λz=>by subst z;exact nf f];exact h) l ih
theorem Jb{H:Hp}{a:Addr}{K:aE}{F:Addr→Prop}{kvs:List (List Key×D)}(ii:Inn K F H (.dT kvs) (.ref a)):∃ws,H a=some (.dT ws)∧bc K F H kvs ws:=by
 cases ii with
 |dT h r=>exact⟨_,h,r⟩
theorem Dn{K:aE}{H₀:Hp}{Bad:Addr→Prop}{env:Env}{σ:St}{H:Hp}{i:Nat}{kvs:List (List Key×D)}(E:aI K H₀ Bad env σ H)(e:dictAt i env=some kvs):
  ∃a ws,bB env[i]? ∧σ[i]? =some (some (.ref a))∧(∀j:Nat,j≠i→bB env[j]? →σ[j]? ≠some (some (.ref a)))∧H a=some (.dT ws)∧bc K (Cln Bad env σ) H kvs ws:=by
 unfold dictAt at e;have own:∀{d:D},(env[i]? =some (some (.own d))∨env[i]? =some (some (.lok d)))→d= .dT kvs→∃a ws,bB env[i]? ∧σ[i]? =some (some (.ref a))∧(∀j:Nat,j≠i→bB env[j]? →σ[j]? ≠some (some (.ref a)))∧H a=some (.dT ws)∧bc K (Cln Bad env σ) H kvs ws:=by
  intro d q hd;subst hd;obtain⟨a,h1,h2,h3,h4,h5,h6⟩:=E.ow i _ q;obtain⟨ws,g1,g2⟩:=Jb h6;refine⟨a,ws,by rcases q with z|z<;>rw[z]<;>trivial,h1,λj hj tj ej=>hj (E.dj i j a (by rcases q with z|z<;>rw[z]<;>trivial) tj h1 ej).symm,g1,g2⟩
 split at e
 ·rename_i q;cases e;exact own (.inl q) rfl
 ·rename_i q;cases e;exact own (.inr q) rfl
 ·rename_i q;split at e
  ·rename_i hs;cases e;obtain⟨a,h1,h4,h5,h6⟩:=E.bo i _ q;obtain⟨ws,g1,g2⟩:=Jb h6;refine⟨a,ws,by rw[q];trivial,h1,λj hj tj ej=> ?_,g1,g2⟩;have hlt:j<env.length:=by
    rcases Nat.lt_or_ge j env.length with z|z
    ·exact z
    ·rw[Gbr z] at tj;exact tj.elim
   have hsj:=Gat.mp hs j (GbJ.mpr hlt);cases hq:env[j]? with
   |none=>rw[hq] at tj;exact tj.elim
   |some sl=>
    cases sl with
    |none=>rw[hq] at tj;exact tj.elim
    |some sl=>
     cases sl with
     |sh d=>rw[hq] at tj;exact tj.elim
     |own d=>exact hj (E.dj j i a (by rw[hq];trivial) (by rw[q];trivial) ej h1)
     |lok d=>exact hj (E.dj j i a (by rw[hq];trivial) (by rw[q];trivial) ej h1)
     |bor d=>rw[hq] at hsj;simp[hj] at hsj
  ·cases e
 ·cases e
theorem Fu{tg iter elt:Expr}{ifs:List Expr}{scope:Scope}{N:List Str}{n i:Nat}{aO:List Nat}{gd:DG}{t:DT}{f:DE}{J:Addr→Obj→List (List Key×V)→It}{vw:List (List Key×D)→List D}(hc:X.calm=true)(S:kF X scope N n aO)
  (hi:PI X tg iter (Fs X J (Lw i)))(hv:B8 J vw)(hgo:ug gd)(B:Blk X scope N tg elt ifs gd t f)
  (hs:∀x,foldedSetIterable iter X.env x=pure x:=by intro _;rfl):PEd X (.ListComp elt [⟨tg,iter,ifs,0⟩] scope pos) (ph vw i n aO gd t f):=by
 intro pins s σ H Q I hw;obtain⟨H₀,Bad,env,r,E,e,k⟩:=hw;unfold ph at e;obtain⟨kvs,hk,e⟩:=bind_some e;split at e
 ·rename_i hz;obtain⟨rs,hrs,rfl⟩:=Gam.mp e;obtain⟨a,ws,ti,ea,sole,hH,rp⟩:=Dn E hk;obtain⟨cl,h1,h2,h3⟩:=mT (S.cells I);rw[eval_ListComp];refine wpAny_comprehension_free (use:=none) rfl hs h1 S.kind S.F6 ?_;refine thn (hi pins s σ H (λJ' H' =>∃o,(∀o u,X.H₀ a≠some (.frz o u))∧J' =J a o ws∧H' =upd H a (.frz o (.dT ws))) I ⟨.ref a,ea,a,ws,rfl,hH,λo hnf=> ⟨o,hnf,rfl,rfl⟩⟩) λv s1 q1=>thn q1 λitv s2 q2=> ?_;obtain⟨it,fp,tn,J2,H2,e,I2,T,st2,f2,o,hnf,eJ,eH⟩:=q2;subst e eJ eH;obtain⟨E2,cl2⟩:=E.MQ (o:=o) ti ea sole hH;have na:¬Cln Bad env σ a:=λq=>q.2 i ti ea;have dN:jc (Cln Bad env σ) H (upd H a (.frz o (.dT ws))):=λb u hb q=>by
   have:b≠a:=by
    rcases q with q|q
    ·intro z;subst z;exact na q
    ·intro z;subst z;rw[hH] at hb;cases hb;exact q
   rw[ay this];exact hb
  have io:D4 X.K (λb=>Cln (λb=>Bad b∨b=a) (env.set i none) σ b∧(upd H a (.frz o (.dT ws))) b≠none) (λb=>¬Ow (env.set i none) σ b) (J a o ws) (vw kvs) (upd H a (.frz o (.dT ws))):=
   hv (F:=Cln (λb=>Bad b∨b=a) (env.set i none) σ) aM (rp.gen dN λb q _=>(cl2 b).mpr q) (λb u hb q=>by
    rcases q with q|q
    ·exactλ⟨j,h1,h2⟩=>q.2 j h1.ol.top h2
    ·exactλw=>E2.fQ w hb q) λb q hb=> ⟨q,hb⟩
  refine ui (RR:=λacc C=>compPost (model X.prog X.w) X.A X.xe none (EP X pins σ Q) acc C) hc S I2 h2 h3 f2 T st2 (λC s' H' =>B.g cl C s' H' fp) (λC s' H' =>B.t cl C s' H' fp) (λC s' H' =>B.e cl C s' H' fp) E2 io hgo hz hrs ?_;intro p C s' H' m IX hm hC hF G;obtain⟨g1,g2,vs,g3,g4⟩:=G;have hA:H' a=some (.frz o (.dT ws)):=g1 a _ aM;have hpa:p≠a:=λz=>by subst z;rw[aM] at g2;cases g2
  refine⟨m,hm,λh' hs' => ⟨.ref p,upd H' a (.dT ws),(IX.J9 hF hs').Kg hA hnf,rfl, ?_⟩⟩;have sm:cj H (upd H' a (.dT ws)):=λb u q=>by
   by_cases z:b=a
   ·subst z;rw[aM,←q,hH]
   ·rw[ay z];exact g1 b u (by rw[ay z];exact q)
  have g3' :(upd H' a (.dT ws)) p=some (.lst vs):=by rw[ay hpa];exact g3
  refine k _ _ sm ⟨p,rfl,by rw[ay hpa] at g2;exact g2,⟨_,g3',trivial⟩,rfl,.lst (.inl g3') ⟨g4.1,λj d v e1 e2=> ?_⟩⟩;have r1:=Rep.Kg hA (λq=>na ((cl2 a).mp q.1)) (g4.2 j d v e1 e2);exact r1.imp λb q=> ⟨(cl2 b).mp q.1,q.2⟩
 ·cases e
theorem kH{elts:List Expr}{x1}{tp:Pos}{elt:Expr}{ifs:List Expr}{scope:Scope}{N:List Str}{n i:Nat}{aO:List Nat}{gd:DG}{t:DT}{f:DE}{x:Str}{px apos cpos:Pos}(hN:X.N[i]? =some x)(hv:Vis X.env.scope x)(hc:X.calm=true)(S:kF X scope N n aO)
  (hgo:ug gd)(B:Blk X scope N (.Tuple elts x1 tp) elt ifs gd t f)(hd:(x==("__debug__":Str))=false:=by decide)(hcd:(x==("__classdict__":Str))=false:=by decide)
  (hbase:attributeBase (.Name x px) "items" X.env (eval (.Name x px) X.env)=eval (.Name x px) X.env:=by rfl)(hline:(apos.endLine==cpos.line)=true:=by rfl)
  (hs:∀y,foldedSetIterable (.Call (.Attribute (.Name x px) "items" apos) [] [] cpos) X.env y=pure y:=by intro _;rfl):
  PEd X (.ListComp elt [⟨.Tuple elts x1 tp,.Call (.Attribute (.Name x px) "items" apos) [] [] cpos,ifs,0⟩] scope pos) (ph bN i n aO gd t f):=Fu hc S (wQ (lB hN hv hd hcd) hbase hline) rK hgo B hs
end
open PySem.W (KatLex KatTups kas_sort kas_ask kat_kind kat_lt kat_one kat_run kat_snds BoolBack kat_lt_int)
section
variable{prog:Program}{w:World}{A:Around}{E:Value→Shared→Prop}{s:Shared}
def vk(prog:Program)(w:World)(A:Around)(E:Value→Shared→Prop)(s:Shared)(cs:List (List (List Int)))(vs:List Value):Prop:=
 2≤vs.length→∀Q:SortKind→Shared→Prop,(∀κ,(∀i j C,i<vs.length→j<vs.length→C (decide (rank cs i<rank cs j)) s→kas_ask prog w A κ vs i j C s)→Q κ s)→wpAny (model prog w) A (keyKind' vs.toArray) Q E s
end
structure rL(K:aE)(Bad:Addr→Prop)(env:Env)(σ:St)(H:Hp)(i:Nat)(p:Addr)(as:List Addr)(rows:List (List D)):Prop where
 at_:σ[i]? =some (some (.ref p))
 hid:env[i]? =some none
 top:H p=some (.lst (as.map V.ref))
 nd:(p::as).Nodup
 len:as.length=rows.length
 row:∀(k:Nat) a ds,as[k]? =some a→rows[k]? =some ds→∃vs,H a=some (.lst vs)∧b4 K (Cln Bad env σ) H ds vs
 bad:∀b∈p::as,Bad b
structure HY(as:List Addr)(env:Env)(σ:St)(H:Hp)(env' :Env)(σ' :St)(H' :Hp):Prop where
 keep:∀b o,H b=some o→¬Ow env σ b→b∉as→H' b=some o
 ow:∀b,Ow env' σ' b→Ow env σ b∨H b=none
 lk:∀i:Nat,uX env'[i]? →env'[i]? =env[i]? ∧σ'[i]? =σ[i]?
 th:∀b∈as,H' b≠none
section
variable{K:aE}{H₀ H H' H1:Hp}{Bad Bad' :Addr→Prop}{env env' :Env}{σ σ' :St}{d:D}{v:V}{a p:Addr}{i j:Nat}{as:List Addr}{rows:List (List D)}
theorem rL.mono(N:rL K Bad env σ H i p as rows)(s:cj H H'):rL K Bad env σ H' i p as rows where
 at_:=N.at_
 hid:=N.hid
 top:=s _ _ N.top
 nd:=N.nd
 len:=N.len
 row:=λk a ds h1 h2=>let⟨vs,h3,h4⟩:=N.row k a ds h1 h2;⟨vs,s _ _ h3,h4.gen (.of_same s) λ_ f _=>f⟩
 bad:=N.bad
theorem Dp{b:Addr}(h:Cln Bad env σ b):Cln Bad (env.set j (some (.sh d))) (σ.set j (some v)) b:=⟨h.1,λk t e=>by
 obtain⟨q,t⟩:=gG t;rw[Gac q] at e;exact h.2 k t e⟩
theorem rL.lK(N:rL K Bad env σ H i p as rows)(hij:i≠j):rL K Bad (env.set j (some (.sh d))) (σ.set j (some v)) H i p as rows where
 at_:=by rw[Gac (GaY hij)];exact N.at_
 hid:=by rw[Gac (GaY hij)];exact N.hid
 top:=N.top
 nd:=N.nd
 len:=N.len
 row:=λk a ds h1 h2=>let⟨vs,h3,h4⟩:=N.row k a ds h1 h2;⟨vs,h3,h4.gen (.of_same λ_ _ e=>e) λ_ f _=>Dp f⟩
 bad:=N.bad
theorem rL.there(N:rL K Bad env σ H i p as rows):∀b∈as,H b≠none:=λb hb=>by
 obtain⟨k,hk⟩:=GbW.mp hb;have hk' :k<rows.length:=by rw[←N.len];exact(Gae.mp hk).1
 obtain⟨vs,h,_⟩:=N.row k b rows[k] hk (Gab hk');rw[h];simp
theorem HY.trans{e1 e2 e3:Env}{s1 s2 s3:St}{H1 H2 H3:Hp}(a:HY as e1 s1 H1 e2 s2 H2)(b:HY as e2 s2 H2 e3 s3 H3):HY as e1 s1 H1 e3 s3 H3:=by
 refine⟨λc o e n na=>b.keep c o (a.keep c o e n na) (λh=> ?_) na,λc h=> ?_,λi h=> ?_,b.th⟩
 ·rcases a.ow c h with q|q
  ·exact n q
  ·rw[e] at q;cases q
 ·rcases b.ow c h with q|q
  ·exact a.ow c q
  ·by_cases z:Ow e1 s1 c
   ·exact .inl z
   ·right
    cases e:H1 c with
    |none=>rfl
    |some o=>
     by_cases m:c∈as
     ·exact absurd q (a.th c m)
     ·rw[a.keep c o e z m] at q;cases q
 ·obtain⟨h1,h2⟩:=b.lk i h;rw[h1] at h;obtain⟨h3,h4⟩:=a.lk i h;exact⟨h1.trans h3,h2.trans h4⟩
theorem Fv(nb:BM env=true){k:Nat}(e:env[k]? =some (some (.bor d))):False:=by
 have:=Gat.mp nb _ (GaK e);cases this
theorem aI.Fw{o o' :HO}(E:aI K H₀ Bad env σ H)(hb:Bad a)(h0:H₀ a=none)(h:H a=some o)(ho:¬isT o)(nb:BM env=true):aI K H₀ Bad env σ (upd H a o'):=by
 have dN:jc (Cln Bad env σ) H (upd H a o'):=λb x hx q=>by
  have:b≠a:=by
   rintro rfl;rcases q with q|q
   ·exact q.1 hb
   ·rw[h] at hx;cases hx;exact ho q
  rw[ay this];exact hx
 refine⟨λb x hx=> ?_,E.len,λb q z=> ?_,λk dk e=> ?_,λk dk e=> ?_,λk dk e=>(Fv nb e).elim,E.dj⟩
 ·have:b≠a:=by rintro rfl;rw[h0] at hx;cases hx
  rw[ay this];exact E.same b x hx
 ·by_cases m:b=a
  ·subst m;rw[aM] at z;cases z
  ·rw[ay m] at z;exact E.bad b q z
 ·obtain⟨u,h1,h2⟩:=E.sh k dk e;exact⟨u,h1,h2.gen dN λ_ f _=>f⟩
 ·obtain⟨b,h1,h2,h3,h4,h5,h6⟩:=E.ow k dk e;have m:b≠a:=λz=>h3 (z▸hb);refine⟨b,h1,h2,h3, ?_,h5,h6.gen dN (λ_ f _=>f) λc ec _ x hx=> ?_⟩
  ·unfold Wr;rw[ay m];exact h4
  ·cases ec;rw[ay m];exact hx
theorem rL.app{vs:List V}{ds:List D}{k:Nat}(N:rL K Bad env σ H i p as rows)(ha:as[k]? =some a)(hd:rows[k]? =some ds)(hv:H a=some (.lst vs))(rp:b4 K (Cln Bad env σ) H (ds++[d]) (vs++[v])):rL K Bad env σ (upd H a (.lst (vs++[v]))) i p as (rows.set k (ds++[d])):=by
 have ba:Bad a:=N.bad a (Gaj _ (GaK ha));have dN:jc (Cln Bad env σ) H (upd H a (.lst (vs++[v]))):=λb x hx q=>by
  have:b≠a:=by
   rintro rfl;rcases q with q|q
   ·exact q.1 ba
   ·rw[hv] at hx;cases hx;exact q
  rw[ay this];exact hx
 have hpa:p≠a:=by
  rintro rfl;exact(Gcr.mp N.nd).1 (GaK ha)
 refine⟨N.at_,N.hid,by rw[ay hpa];exact N.top,N.nd,by rw[GcW];exact N.len,λk' a' ds' h1 h2=> ?_,N.bad⟩;by_cases q:k=k'
 ·subst q;rw[ha] at h1;cases h1
  rw[GaQ (Gae.mp hd).1] at h2;cases h2;exact⟨_,aM,rp.gen dN λ_ f _=>f⟩
 ·rw[Gac q] at h2;obtain⟨us,h3,h4⟩:=N.row k' a' ds' h1 h2;have na:a' ≠a:=by
   rintro rfl;have l1:=(Gae.mp ha)
   have l2:=(Gae.mp h1)
   exact q ((List.getElem_inj (Gcr.mp N.nd).2).mp (l1.2.trans l2.2.symm))
  exact⟨us,by rw[ay na];exact h3,h4.gen dN λ_ f _=>f⟩
theorem aI.hide(E:aI K H₀ Bad env σ H)(i:Nat)(v:V):aI K H₀ Bad (env.set i none) (σ.set i (some v)) H:=by
 have tops:∀{k:Nat},bB (env.set i none)[k]? →i≠k∧bB env[k]? :=λ{k} t=>by
  by_cases q:i=k
  ·subst q;by_cases z:i<env.length
   ·rw[cD z] at t;exact t.elim
   ·rw[Gbr (by simpa using Nat.le_of_not_lt z)] at t;exact t.elim
  ·rw[Gac q] at t;exact⟨q,t⟩
 have cln:∀b,Cln Bad env σ b→Cln Bad (env.set i none) (σ.set i (some v)) b:=λb h=> ⟨h.1,λk t e=>by
  obtain⟨q,t⟩:=tops t;rw[Gac q] at e;exact h.2 k t e⟩
 refine⟨E.same,by simp[E.len],E.bad,λk dk e=> ?_,λk dk e=> ?_,λk dk e=> ?_,λk l b t1 t2 e1 e2=> ?_⟩
 ·rcases get_set e with⟨q,e⟩| ⟨q,e⟩
  ·cases e
  ·obtain⟨u,h1,h2⟩:=E.sh k dk e;exact⟨u,by rw[Gac q];exact h1,h2.imp cln⟩
 ·have e' :i≠k∧(env[k]? =some (some (.own dk))∨env[k]? =some (some (.lok dk))):=by
   rcases e with e|e
   ·rcases get_set e with⟨q,e⟩| ⟨q,e⟩
    ·cases e
    ·exact⟨q,.inl e⟩
   ·rcases get_set e with⟨q,e⟩| ⟨q,e⟩
    ·cases e
    ·exact⟨q,.inr e⟩
  obtain⟨b,h1,h2,h3,h4,h5,h6⟩:=E.ow k dk e'.2;exact⟨b,by rw[Gac e'.1];exact h1,h2,h3,h4,h5,h6.imp cln⟩
 ·rcases get_set e with⟨q,e⟩| ⟨q,e⟩
  ·cases e
  ·obtain⟨b,h1,hw,h2,h3⟩:=E.bo k dk e;exact⟨b,by rw[Gac q];exact h1,hw,h2,h3.imp cln⟩
 ·obtain⟨q1,t1'⟩:=tops t1.top;obtain⟨q2,t2⟩:=tops t2;rw[Gac q1] at e1 t1;rw[Gac q2] at e2;exact E.dj k l b t1 t2 e1 e2
theorem aI.C7{New:Addr→Prop}(E:aI K H₀ Bad env σ H)(s:cj H H')(h1:∀b,New b→H b=none)(h2:∀b,New b→H' b≠none):aI K H₀ (λb=>Bad b∨New b) env σ H' :=by
 have cln:∀b,Cln Bad env σ b→H b≠none→Cln (λb=>Bad b∨New b) env σ b:=λb h n=> ⟨λq=>q.elim h.1 λz=>n (h1 b z),h.2⟩;refine⟨E.same.trans s,E.len,λb q z=>q.elim (λq=>E.bad b q (s.free z)) λq=>h2 b q z,λk dk e=> ?_,λk dk e=> ?_,λk dk e=> ?_,E.dj⟩
 ·obtain⟨u,q1,q2⟩:=E.sh k dk e;exact⟨u,q1,q2.gen (.of_same s) cln⟩
 ·obtain⟨b,q1,q2,q3,q4,q5,q6⟩:=E.ow k dk e;exact⟨b,q1,q2,λz=>z.elim q3 λz=>q4.there (h1 b z),q4.same s,q5,q6.gen (.of_same s) cln λc ec _ x hx=>s c x hx⟩
 ·obtain⟨b,q1,qw,q2,q3⟩:=E.bo k dk e;exact⟨b,q1,qw.same s,q2,q3.gen (.of_same s) cln λc ec _ x hx=>s c x hx⟩
end
open PySem PyProof.Rows
noncomputable abbrev SM:=StateT SortSt Sem
noncomputable def kZ:Bool→Keyed→Array Keyed→Nat→Nat→Nat→SM (Option Nat):=sortPriv%PySem.Builtin.gallop
noncomputable def HZ(far:Nat→SM (Option Bool))(n l0 r0:Nat):SM (Option Nat):=do
 let mut lo:=l0
 let mut hi:=r0
 for _ in [0:n] do
  if lo≥hi then break
  let md:=lo+(hi -lo)/2
  let some mo←far md|return none
  if mo then lo:=md+1 else hi:=md
 return some hi
noncomputable def Ki(far:Nat→SM (Option Bool))(n h0:Nat):SM (Option Nat):=do
 let some rt←far h0|return none
 if rt then
  let mut lst:=0
  let mut nxt:=1
  for _ in [0:n] do
   if nxt≥n -h0 then break
   let some mo←far (h0+nxt)|return none
   if !mo then break
   lst:=nxt
   nxt:=2*nxt+1
  HZ far n (h0+lst+1) (h0+min nxt (n -h0))
 else
  let mut lst:=0
  let mut nxt:=1
  for _ in [0:n] do
   if nxt≥h0+1 then break
   let some fd←far (h0 -nxt)|return none
   if fd then break
   lst:=nxt
   nxt:=2*nxt+1
  HZ far n (h0+1 -min nxt (h0+1)) (h0 -lst)
noncomputable def Jc(lf:Bool)(kx:Keyed)(xs:Array Keyed)(b0 u:Nat):SM (Option Bool):=do
 let y←elem' xs (b0+u)
 if lf then lt' y kx else return(←lt' kx y).map (!·)
theorem Fx(lf:Bool)(kx:Keyed)(xs:Array Keyed)(b0 n h0:Nat):kZ lf kx xs b0 n h0=Ki (Jc lf kx xs b0) n h0:=rfl
theorem dG{M:Model}{A:Around}{E:Value→Shared→Prop}{s:Shared}{σ α:Type}{c:Prop}{_:Decidable c}{x y:StateT σ Sem α}{Q:α→σ→Prop}{st:σ}(h1:c→wpS M A E s x Q st)(h2:¬c→wpS M A E s y Q st):wpS M A E s (if c then x else y) Q st:=by
 by_cases h:c
 ·rw[Gai h];exact h1 h
 ·rw[Gag h];exact h2 h
section
variable{M:Model}{A:Around}{E:Value→Shared→Prop}{s:Shared}{st:SortSt}{far:Nat→SM (Option Bool)}{n:Nat}{B:Nat→Bool}{Q:Option Nat→SortSt→Prop}
def Cut(B:Nat→Bool)(n k:Nat):Prop:=k≤n∧(∀u,u<k→B u=true)∧∀u,k≤u→u<n→B u=false
theorem C8{lo hi:Nat}(hf:∀u,u<n→∀R:Option Bool→SortSt→Prop,R (some (B u)) st→wpS M A E s (far u) R st)(mB:∀u v,u≤v→v<n→B v=true→B u=true)(h1:lo≤hi)(h2:hi≤n)
  (hlo:∀u,u<lo→B u=true)(hhi:∀u,hi≤u→u<n→B u=false)(h:∀k,Cut B n k→Q (some k) st):wpS M A E s (HZ far n lo hi) Q st:=by
 unfold HZ;refine Gal (Gbu (Gbf (I:=λi c z=>z=st∧∃lo hi,c=(none,lo,hi)∧lo≤hi∧hi≤n∧hi -lo≤n -i∧(∀u,u<lo→B u=true)∧(∀u,hi≤u→u<n→B u=false))
  (Q:=λc z=>z=st∧∃lo hi,c=(none,lo,hi)∧Cut B n hi) ?step ?fin ⟨rfl,lo,hi,rfl,h1,h2,by omega,hlo,hhi⟩) ?post)
 case fin=>
  rintro c z ⟨rfl,lo,hi,rfl,q1,q2,q3,q4,q5⟩;have:lo=hi:=by
   have:max 0 n=n:=by omega
   omega
  subst this;exact⟨rfl,_,_,rfl,q2,q4,q5⟩
 case step=>
  rintro i c z _ hi' ⟨rfl,lo,hi,rfl,q1,q2,q3,q4,q5⟩;dsimp only;by_cases g:lo≥hi
  ·rw[Gai g];have:lo=hi:=by omega
   subst this;exact Gaq ⟨rfl,_,_,rfl,q2,q4,q5⟩
  ·rw[Gag g];refine Gal (hf _ (by omega) _ ?_);dsimp only;cases b:B (lo+(hi -lo)/2) with
   |true=>
    simp only[Gbi];exact Gaq ⟨rfl,_,_,rfl,by omega,q2,by omega,λu hu=>mB u _ (by omega) (by omega) b,q5⟩
   |false=>
    simp only[Gaw,GaR];refine Gaq ⟨rfl,_,_,rfl,by omega,by omega,by omega,q4,λu hu hn=> ?_⟩;cases b' :B u with
    |false=>rfl
    |true=>rw[mB _ u hu hn b'] at b;cases b
 case post=>
  rintro c z ⟨rfl,lo,hi,rfl,q⟩;exact Gaq (h hi q)
theorem Ia{h0:Nat}(hf:∀u,u<n→∀R:Option Bool→SortSt→Prop,R (some (B u)) st→wpS M A E s (far u) R st)(mB:∀u v,u≤v→v<n→B v=true→B u=true)(hh:h0<n)
  (h:∀k,Cut B n k→Q (some k) st):wpS M A E s (Ki far n h0) Q st:=by
 unfold Ki;refine Gal (hf _ hh _ ?_);dsimp only;cases b:B h0 with
 |true=>
  simp only[Gbi];refine Gal (Gbu (Gbf (I:=λi c z=>z=st∧∃l o,c=(none,l,o)∧l<o∧l<n -h0∧i+1≤o∧B (h0+l)=true)
   (Q:=λc z=>z=st∧∃l o,c=(none,l,o)∧l<o∧l<n -h0∧B (h0+l)=true∧(o≥n -h0∨B (h0+o)=false)) ?step ?fin ⟨rfl,0,1,rfl,by omega,by omega,by omega,b⟩) ?post)
  case fin=>
   rintro c z ⟨rfl,l,o,rfl,q1,q2,q3,q4⟩;exact⟨rfl,l,o,rfl,q1,q2,q4,.inl (by omega)⟩
  case step=>
   rintro i c z _ hi' ⟨rfl,l,o,rfl,q1,q2,q3,q4⟩;dsimp only;by_cases g:o≥n -h0
   ·rw[Gai g];exact Gaq ⟨rfl,l,o,rfl,q1,q2,q4,.inl g⟩
   ·rw[Gag g];refine Gal (hf _ (by omega) _ ?_);dsimp only;cases b' :B (h0+o) with
    |false=>
     simp only[Bool.not_false,Gbi];exact Gaq ⟨rfl,l,o,rfl,q1,q2,q4,.inr b'⟩
    |true=>
     simp only[Gdw,Gaw,GaR];exact Gaq ⟨rfl,o,2*o+1,rfl,by omega,by omega,by omega,b'⟩
  case post=>
   rintro c z ⟨rfl,l,o,rfl,q1,q2,q3,q4⟩;dsimp only;refine C8 hf mB (by omega) (by omega) (λu hu=>mB u (h0+l) (by omega) (by omega) q3) (λu hu hn=> ?_) h;rcases q4 with q4|q4
   ·omega
   ·by_cases w:o≥n -h0
    ·omega
    ·cases b' :B u with
     |false=>rfl
     |true=>rw[mB (h0+o) u (by omega) hn b'] at q4;cases q4
 |false=>
  simp only[Gaw,GaR];refine Gal (Gbu (Gbf (I:=λi c z=>z=st∧∃l o,c=(none,l,o)∧l<o∧l<h0+1∧i+1≤o∧B (h0 -l)=false)
   (Q:=λc z=>z=st∧∃l o,c=(none,l,o)∧l<o∧l<h0+1∧B (h0 -l)=false∧(o≥h0+1∨B (h0 -o)=true)) ?step ?fin ⟨rfl,0,1,rfl,by omega,by omega,by omega,b⟩) ?post)
  case fin=>
   rintro c z ⟨rfl,l,o,rfl,q1,q2,q3,q4⟩;exact⟨rfl,l,o,rfl,q1,q2,q4,.inl (by omega)⟩
  case step=>
   rintro i c z _ hi' ⟨rfl,l,o,rfl,q1,q2,q3,q4⟩;dsimp only;by_cases g:o≥h0+1
   ·rw[Gai g];exact Gaq ⟨rfl,l,o,rfl,q1,q2,q4,.inl g⟩
   ·rw[Gag g];refine Gal (hf _ (by omega) _ ?_);dsimp only;cases b' :B (h0 -o) with
    |true=>
     simp only[Gbi];exact Gaq ⟨rfl,l,o,rfl,q1,q2,q4,.inr b'⟩
    |false=>
     simp only[Gaw,GaR];exact Gaq ⟨rfl,o,2*o+1,rfl,by omega,by omega,by omega,b'⟩
  case post=>
   rintro c z ⟨rfl,l,o,rfl,q1,q2,q3,q4⟩;dsimp only;refine C8 hf mB (by omega) (by omega) (λu hu=> ?_) (λu hu hn=> ?_) h
   ·rcases q4 with q4|q4
    ·omega
    ·by_cases w:o≥h0+1
     ·omega
     ·exact mB u (h0 -o) (by omega) (by omega) q4
   ·cases b' :B u with
    |false=>rfl
    |true=>rw[mB (h0 -l) u (by omega) hn b'] at q3;cases q3
end
open PySem.W (kas_item)
noncomputable def rM:Nat→SM Unit:=sortPriv%PySem.Builtin.setMinGallop
theorem oj(g:Nat):rM g=modify (λz=>SortSt.mk' (kindOf z) (arrOf z) (pendingOf z) g (failedOf z)):=rfl
def Srt(rk:Nat→Int)(p:List Nat):Prop:=p.Pairwise λx y=>rk x≤rk y
def iF(prog:Program)(w:World)(A:Around)(s:Shared)(κ:SortKind)(it:Array Keyed)(rk:Nat→Int):Prop:=
 ∀i j,i<it.size→j<it.size→∀C:Bool→Shared→Prop,C (decide (rk i<rk j)) s→wpAny (model prog w) A (keyLt' κ (kas_item it i).1 (kas_item it j).1) C (λ_ _=>False) s
def bh(it:Array Keyed)(a:Array Keyed)(p:List Nat):Prop:=a=(p.map (kas_item it)).toArray∧∀i∈p,i<it.size
def bH(z z' :SortSt):Prop:=kindOf z' =kindOf z∧arrOf z' =arrOf z∧pendingOf z' =pendingOf z∧failedOf z' =failedOf z
theorem bH.refl{z:SortSt}:bH z z:=⟨rfl,rfl,rfl,rfl⟩
theorem bH.trans{x y z:SortSt}(a:bH x y)(b:bH y z):bH x z:=⟨b.1.trans a.1,b.2.1.trans a.2.1,b.2.2.1.trans a.2.2.1,b.2.2.2.trans a.2.2.2⟩
section
variable{it:Array Keyed}{a b:Array Keyed}{p q:List Nat}
theorem bh.size(R:bh it a p):a.size=p.length:=by rw[R.1];simp
theorem bh.get{k i:Nat}(R:bh it a p)(h:p[k]? =some i):a[k]? =some (kas_item it i):=by rw[R.1];simp[h]
theorem bh.lt{k i:Nat}(R:bh it a p)(h:p[k]? =some i):i<it.size:=R.2 i (GaK h)
theorem bh.push{i:Nat}(R:bh it a p)(hi:i<it.size):bh it (a.push (kas_item it i)) (p++[i]):=⟨by rw[R.1];simp,λj hj=>by
 rcases Gax.mp hj with h|h
 ·exact R.2 j h
 ·simp at h;subst h;exact hi⟩
theorem bh.append(R:bh it a p)(S:bh it b q):bh it (a++b) (p++q):=⟨by rw[R.1,S.1];simp,λj hj=>(Gax.mp hj).elim (R.2 j) (S.2 j)⟩
theorem bh.sub(R:bh it a p){l:List Nat}(h:∀x∈l,x∈p){c:Array Keyed}(e:c=(l.map (kas_item it)).toArray):bh it c l:=⟨e,λj hj=>R.2 j (h j hj)⟩
theorem bh.extract(R:bh it a p)(i j:Nat):bh it (a.extract i j) ((p.drop i).take (j -i)):=by
 refine R.sub (λx hx=>Gbv (Gbp hx)) ?_;apply GcB.mp;rw[R.1];simp[List.map_take,GdN,List.extract_eq_take_drop]
theorem bh.drop(R:bh it a p)(i:Nat):bh it (a.extract i a.size) (p.drop i):=by
 have:=R.extract i a.size;rw[R.size,Gbz (by simp)] at this;rw[R.size];exact this
theorem bh.reverse(R:bh it a p):bh it a.reverse p.reverse:=by
 refine R.sub (λx hx=>GbU.mp hx) ?_;rw[R.1];simp
end
section
variable{prog:Program}{w:World}{A:Around}{E:Value→Shared→Prop}{s:Shared}{st:SortSt}{κ:SortKind}{it:Array Keyed}{rk:Nat→Int}
theorem wU{i j:Nat}{Q:Option Bool→SortSt→Prop}(hA:iF prog w A s κ it rk)(hk:kindOf st=κ)(hi:i<it.size)(hj:j<it.size)(h:Q (some (decide (rk i<rk j))) st):wpS (model prog w) A E s (lt' (kas_item it i) (kas_item it j)) Q st:=by
 rw[lt'_eq];refine Gal (GcP ?_);rw[hk];refine Gal (wpS_lift (GcU (Gcb (hA i j hi hj (λb z=>z=s∧b=decide (rk i<rk j)) ⟨rfl,rfl⟩) (λb z hb=> ⟨hb.1, ?_⟩) λ_ _ f=>f.elim)));rw[hb.2];exact Gaq h
theorem bI{a:Array Keyed}{p:List Nat}{k i:Nat}{Q:Keyed→SortSt→Prop}(R:bh it a p)(hk:p[k]? =some i)(h:Q (kas_item it i) st):wpS (model prog w) A E s (elem' a k) Q st:=by
 rw[elem'_eq,R.get hk];exact Gaq h
theorem qS{l:List Nat}(h:Srt rk l):∀{u v x y:Nat},u≤v→l[u]? =some x→l[v]? =some y→rk x≤rk y:=by
 intro u v x y huv hx hy;rcases Nat.lt_or_ge u v with c|c
 ·obtain⟨h1,rfl⟩:=Gae.mp hx;obtain⟨h2,rfl⟩:=Gae.mp hy;exact Gcx.mp h u v h1 h2 c
 ·have:u=v:=by omega
  subst this;rw[hx] at hy;cases hy;exact GbZ _
theorem pA{lf:Bool}{xs:Array Keyed}{ps:List Nat}{ik b0 n h0:Nat}{Q:Option Nat→SortSt→Prop}(hA:iF prog w A s κ it rk)(hk:kindOf st=κ)(R:bh it xs ps)(hi:ik<it.size)(hn:b0+n≤ps.length)(hs:Srt rk ((ps.drop b0).take n))(hh:h0<n)
  (h:∀k,k≤n→(∀x∈((ps.drop b0).take n).take k,if lf=true then rk x<rk ik else rk x≤rk ik)→(∀x∈((ps.drop b0).take n).drop k,if lf=true then rk ik≤rk x else rk ik<rk x)→Q (some k) st):
  wpS (model prog w) A E s (kZ lf (kas_item it ik) xs b0 n h0) Q st:=by
 rw[Fx];have len:((ps.drop b0).take n).length=n:=by simp;omega
 have at_:∀u,u<n→∃x,((ps.drop b0).take n)[u]? =some x∧ps[b0+u]? =some x:=λu hu=>by
  have h1:u<((ps.drop b0).take n).length:=by rw[len];exact hu
  refine⟨((ps.drop b0).take n)[u],Gab h1, ?_⟩;have:=Gab h1;rw[GaZ hu,Gbh] at this;exact this
 have fin:∀B:Nat→Bool,(∀u x,((ps.drop b0).take n)[u]? =some x→B u=if lf=true then decide (rk x<rk ik) else !decide (rk ik<rk x))→∀k,Cut B n k→Q (some k) st:=by
  intro B hB k ⟨c1,c2,c3⟩;refine h k c1 (λx hx=> ?_) (λx hx=> ?_)
  ·obtain⟨u,hu⟩:=GbW.mp hx;have hu' :u<k:=by have:=(Gae.mp hu).1;simp at this;omega
   rw[GaZ hu'] at hu;have b:=c2 u hu';rw[hB u x hu] at b;cases lf with
   |true=>simpa using b
   |false=>simpa using b
  ·obtain⟨u,hu⟩:=GbW.mp hx;rw[Gbh] at hu;have hu' :k+u<n:=by have:=(Gae.mp hu).1;rw[len] at this;exact this
   have b:=c3 (k+u) (by omega) hu';rw[hB _ x hu] at b;cases lf with
   |true=>simpa using b
   |false=>simpa using b
 refine Ia (B:=λu=>if lf=true then decide (rk (((ps.drop b0).take n).getD u 0)<rk ik) else !decide (rk ik<rk (((ps.drop b0).take n).getD u 0))) (λu hu R' hR=> ?_) (λu v huv hv b=> ?_) hh (fin _ λu x hx=>by simp[List.getD,hx])
 ·obtain⟨x,h1,h2⟩:=at_ u hu;have e:((ps.drop b0).take n).getD u 0=x:=by simp[List.getD,h1]
  simp only[e] at hR;unfold Jc;refine Gal (bI R h2 ?_);cases lf with
  |true=>
   simp only[Gbi] at hR⊢;exact wU hA hk (R.lt h2) hi hR
  |false=>
   simp only[Gaw,GaR] at hR⊢;exact Gal (wU hA hk hi (R.lt h2) (Gaq hR))
 ·obtain⟨x,h1,_⟩:=at_ u (by omega);obtain⟨y,h2,_⟩:=at_ v hv;have e1:((ps.drop b0).take n).getD u 0=x:=by simp[List.getD,h1]
  have e2:((ps.drop b0).take n).getD v 0=y:=by simp[List.getD,h2]
  have le:=qS hs huv h1 h2;simp only[e1,e2] at b⊢;cases lf with
  |true=>simp at b⊢;omega
  |false=>simp at b⊢;omega
end
noncomputable def Kj:Array Keyed→Array Keyed→SM (Array Keyed):=sortPriv%PySem.Builtin.mergeLo
theorem Ib(a b:Array Keyed):Kj a b=(do
 rule "list.sort.merge-lo"
 let tot:=a.size+b.size
 let fin (o:Array Keyed) (u v:Nat):=o++a.extract u a.size++b.extract v b.size
 let las (o:Array Keyed) (u v:Nat):=o++b.extract v b.size++a.extract u a.size
 let mut o:Array Keyed:=#[←elem' b 0]
 let mut u:=0
 let mut v:=1
 if v==b.size then return fin o u v
 if u+1==a.size then return las o u v
 let mut mg:=gallopOf (←get)
 for _ in [0:tot] do
  let mut ca:=0
  let mut cb:=0
  for _ in [0:tot] do
   let some w←lt' (←elem' b v) (←elem' a u)|return fin o u v
   if w then
    o:=o.push (←elem' b v);v:=v+1;cb:=cb+1;ca:=0
    if v==b.size then return fin o u v
    if cb≥mg then break
   else
    o:=o.push (←elem' a u);u:=u+1;ca:=ca+1;cb:=0
    if u+1==a.size then return las o u v
    if ca≥mg then break
  rule "list.sort.gallop"
  mg:=mg+1
  for _ in [0:tot] do
   if mg>1 then mg:=mg -1
   rM mg
   let some k←kZ false (←elem' b v) a u (a.size -u) 0|return fin o u v
   ca:=k
   if k>0 then
    o:=o++a.extract u (u+k);u:=u+k
    if u+1==a.size then return las o u v
    if u==a.size then return fin o u v
   o:=o.push (←elem' b v);v:=v+1
   if v==b.size then return fin o u v
   let some k←kZ true (←elem' a u) b v (b.size -v) 0|return fin o u v
   cb:=k
   if k>0 then
    o:=o++b.extract v (v+k);v:=v+k
    if v==b.size then return fin o u v
   o:=o.push (←elem' a u);u:=u+1
   if u+1==a.size then return las o u v
   if ca<7&&cb<7 then break
  mg:=mg+1
  rM mg
 unsupported "internal:list.sort.merge-bound"):=rfl
noncomputable abbrev B9:=Option (Array Keyed)×Array Keyed×Nat×Nat×Nat×Nat×Nat
noncomputable def loC(a b:Array Keyed)(mg ca cb:Nat)(o:Array Keyed)(u v:Nat):SM (ForInStep B9):=do
 let e←elem' a u
 if(u+1+1==a.size)=true then pure (.done (some (o.push e++b.extract v b.size++a.extract (u+1) a.size),o.push e,u+1,v,mg,ca,cb))
 else if(decide (ca<7)&&decide (cb<7))=true then pure (.done (none,o.push e,u+1,v,mg,ca,cb))
 else pure (.yield (none,o.push e,u+1,v,mg,ca,cb))
noncomputable def loB(a b:Array Keyed)(mg ca cb:Nat)(o:Array Keyed)(u v:Nat):SM (ForInStep B9):=do
 let e←elem' b v
 if(v+1==b.size)=true then pure (.done (some (o.push e++a.extract u a.size++b.extract (v+1) b.size),o.push e,u,v+1,mg,ca,cb))
 else do
  let e2←elem' a u
  let f←kZ true e2 b (v+1) (b.size -(v+1)) 0
  match f with
  |some k=>
   if k>0 then
    if(v+1+k==b.size)=true then pure (.done (some (o.push e++b.extract (v+1) (v+1+k)++a.extract u a.size++b.extract (v+1+k) b.size),o.push e++b.extract (v+1) (v+1+k),u,v+1+k,mg,ca,k))
    else loC a b mg ca k (o.push e++b.extract (v+1) (v+1+k)) u (v+1+k)
   else loC a b mg ca k (o.push e) u (v+1)
  |_=>pure (.done (some (o.push e++a.extract u a.size++b.extract (v+1) b.size),o.push e,u,v+1,mg,ca,cb))
noncomputable def loA(a b:Array Keyed)(mg ca cb:Nat)(o:Array Keyed)(u v:Nat):SM (ForInStep B9):=do
 rM mg
 let e←elem' b v
 let f←kZ false e a u (a.size -u) 0
 match f with
 |some k=>
  if k>0 then
   if(u+k+1==a.size)=true then pure (.done (some (o++a.extract u (u+k)++b.extract v b.size++a.extract (u+k) a.size),o++a.extract u (u+k),u+k,v,mg,k,cb))
   else if(u+k==a.size)=true then pure (.done (some (o++a.extract u (u+k)++a.extract (u+k) a.size++b.extract v b.size),o++a.extract u (u+k),u+k,v,mg,k,cb))
   else loB a b mg k cb (o++a.extract u (u+k)) (u+k) v
  else loB a b mg k cb o u v
 |_=>pure (.done (some (o++a.extract u a.size++b.extract v b.size),o,u,v,mg,ca,cb))
structure LoI(rk:Nat→Int)(p q o:List Nat)(u v:Nat):Prop where
 pm:o.Perm (p.take u++q.take v)
 so:Srt rk o
 oa:∀x∈o,∀y∈p.drop u,rk x≤rk y
 ob:∀x∈o,∀y∈q.drop v,rk x≤rk y
section
variable{rk:Nat→Int}{p q o:List Nat}{u v k:Nat}
theorem dH{l m:List Nat}(h:Srt rk l)(h2:Srt rk m)(h3:∀x∈l,∀y∈m,rk x≤rk y):Srt rk (l++m):=List.pairwise_append.mpr ⟨h,h2,h3⟩
theorem fB{l:List Nat}(h:Srt rk l)(n:Nat):Srt rk (l.drop n):=h.sublist (List.drop_sublist _ _)
theorem gh{l:List Nat}(h:Srt rk l)(n:Nat):Srt rk (l.take n):=h.sublist (List.take_sublist _ _)
theorem qT{l:List Nat}(h:Srt rk l)(n:Nat):∀x∈l.take n,∀y∈l.drop n,rk x≤rk y:=by
 have:=h;rw[←Gbc n l] at this;exact(List.pairwise_append.mp this).2.2
theorem Dq{l:List Nat}{n k:Nat}{x:Nat}(h:x∈l.drop (n+k)):x∈l.drop n:=by
 rw[←GbX] at h;exact Gbv h
theorem LoI.Ba(I:LoI rk p q o u v)(sp:Srt rk p)(h:∀x∈(p.drop u).take k,∀y∈q.drop v,rk x≤rk y):LoI rk p q (o++(p.drop u).take k) (u+k) v:=by
 refine⟨?_,dH I.so (gh (fB sp u) k) λx hx y hy=>I.oa x hx y (Gbp hy),λx hx y hy=> ?_,λx hx y hy=> ?_⟩
 ·rw[List.take_add];refine(I.pm.append_right _).trans ?_;rw[GaB,GaB];exact Gbs.append_left _
 ·rcases Gax.mp hx with hx|hx
  ·exact I.oa x hx y (Dq hy)
  ·rw[←GbX] at hy;exact qT (fB sp u) k x hx y hy
 ·rcases Gax.mp hx with hx|hx
  ·exact I.ob x hx y hy
  ·exact h x hx y hy
theorem LoI.swap(I:LoI rk p q o u v):LoI rk q p o v u:=⟨I.pm.trans Gbs,I.so,I.ob,I.oa⟩
theorem LoI.Kk(I:LoI rk p q o u v)(sq:Srt rk q)(h:∀x∈(q.drop v).take k,∀y∈p.drop u,rk x≤rk y):LoI rk p q (o++(q.drop v).take k) u (v+k):=(I.swap.Ba sq h).swap
theorem take1{l:List Nat}{n x:Nat}(h:l[n]? =some x):(l.drop n).take 1=[x]:=by
 obtain⟨h1,rfl⟩:=Gae.mp h;rw[GbC h1]
 rfl
theorem LoI.rN{x:Nat}(I:LoI rk p q o u v)(sp:Srt rk p)(hx:p[u]? =some x)(h:∀y∈q.drop v,rk x≤rk y):LoI rk p q (o++[x]) (u+1) v:=by
 have:=I.Ba (k:=1) sp (by rw[take1 hx];intro z hz;simp at hz;subst hz;exact h);rw[take1 hx] at this;exact this
theorem LoI.wV{x:Nat}(I:LoI rk p q o u v)(sq:Srt rk q)(hx:q[v]? =some x)(h:∀y∈p.drop u,rk x≤rk y):LoI rk p q (o++[x]) u (v+1):=(I.swap.rN sq hx h).swap
theorem LoI.done(I:LoI rk p q o u v)(sp:Srt rk p)(sq:Srt rk q)(h:v=q.length∨u=p.length):(o++p.drop u++q.drop v).Perm (p++q)∧Srt rk (o++p.drop u++q.drop v):=by
 constructor
 ·refine(Gbq _ (Gbq _ I.pm)).trans ?_;have e:p++q=(p.take u++p.drop u)++(q.take v++q.drop v):=by rw[Gbc,Gbc]
  rw[e,GaB,GaB,GaB];refine GbY _ ?_;rw[←GaB,←GaB];exact Gbq _ Gbs
 ·rcases h with rfl|rfl
  ·rw[GbT,Gbn];exact dH I.so (fB sp u) I.oa
  ·rw[GbT,Gbn];exact dH I.so (fB sq v) I.ob
theorem LoI.last(I:LoI rk p q o u v)(sq:Srt rk q)(h:u+1=p.length)(hl:∀x,p[u]? =some x→∀y∈q,rk y≤rk x):(o++q.drop v++p.drop u).Perm (p++q)∧Srt rk (o++q.drop v++p.drop u):=by
 have hu:u<p.length:=by omega
 have e:p.drop u=[p[u]]:=by rw[GbC hu,h,GbT]
 constructor
 ·have pm:=I.pm;refine(Gbq _ (Gbq _ pm)).trans ?_;rw[GaB,GaB,←GaB (List.take v q),Gbc];refine(GbY _ Gbs).trans ?_;rw[←GaB,Gbc]
 ·refine dH (dH I.so (fB sq v) I.ob) (by rw[e];exact Gck _ _) λx hx y hy=> ?_;rw[e] at hy;simp at hy;subst hy;rcases Gax.mp hx with hx|hx
  ·exact I.oa x hx _ (by rw[e];simp)
  ·exact hl _ (Gab hu) x (Gbv hx)
end
section
variable{prog:Program}{w:World}{A:Around}{E:Value→Shared→Prop}{s:Shared}{st:SortSt}{κ:SortKind}{it:Array Keyed}{rk:Nat→Int}{a b:Array Keyed}{p q:List Nat}
def dB(it:Array Keyed)(rk:Nat→Int)(p q:List Nat)(r:Array Keyed):Prop:=∃l,bh it r l∧l.Perm (p++q)∧Srt rk l
theorem mG{l:List Nat}{x y n:Nat}(h:Srt rk l)(hx:l[n]? =some x)(hy:y∈l.drop n):rk x≤rk y:=by
 obtain⟨k,hk⟩:=GbW.mp hy;rw[Gbh] at hk;exact qS h (by omega) hx hk
structure LoP(it:Array Keyed)(rk:Nat→Int)(p q:List Nat)(o:Array Keyed)(u v:Nat):Prop where
 ex:∃l,bh it o l∧LoI rk p q l u v
 bu:u+1<p.length
 bv:v<q.length
def C9(it:Array Keyed)(rk:Nat→Int)(p q:List Nat)(N:Nat):ForInStep B9→Prop
 | .done c=>(∃r t,c=(some r,t)∧dB it rk p q r)∨∃o u v mg ca cb,c=(none,o,u,v,mg,ca,cb)∧LoP it rk p q o u v∧N≤u+v
 | .yield c=>∃o u v mg ca cb,c=(none,o,u,v,mg,ca,cb)∧LoP it rk p q o u v∧N≤u+v
structure LoX(prog:Program)(w:World)(A:Around)(s:Shared)(κ:SortKind)(it:Array Keyed)(rk:Nat→Int)(a b:Array Keyed)(p q:List Nat):Prop where
 hA:iF prog w A s κ it rk
 Ra:bh it a p
 Rb:bh it b q
 sp:Srt rk p
 sq:Srt rk q
 hl:∀x,p[p.length -1]? =some x→∀y∈q,rk y≤rk x
theorem LoX.done{o:Array Keyed}{l:List Nat}{u v:Nat}(X:LoX prog w A s κ it rk a b p q)(Ro:bh it o l)(I:LoI rk p q l u v)(hh:v=q.length∨u=p.length):dB it rk p q (o++a.extract u a.size++b.extract v b.size):=
 ⟨_,(Ro.append (X.Ra.drop _)).append (X.Rb.drop _),(I.done X.sp X.sq hh).1,(I.done X.sp X.sq hh).2⟩
theorem LoX.last{o:Array Keyed}{l:List Nat}{u v:Nat}(X:LoX prog w A s κ it rk a b p q)(Ro:bh it o l)(I:LoI rk p q l u v)(hh:u+1=p.length):dB it rk p q (o++b.extract v b.size++a.extract u a.size):=by
 have hl' :∀x,p[u]? =some x→∀y∈q,rk y≤rk x:=by
  have:=X.hl;rw[show p.length -1=u by omega] at this;exact this
 exact⟨_,(Ro.append (X.Rb.drop _)).append (X.Ra.drop _),(I.last X.sq hh hl').1,(I.last X.sq hh hl').2⟩
theorem Fy{mg ca cb u v N:Nat}{o:Array Keyed}{l:List Nat}{R:ForInStep B9→SortSt→Prop}(X:LoX prog w A s κ it rk a b p q)(Ro:bh it o l)(I:LoI rk p q l u v)(bu:u+1<p.length)(bv:v<q.length)
  (hx:∀x,p[u]? =some x→∀y∈q.drop v,rk x≤rk y)(hN:N≤u+v+1)(h:∀r,C9 it rk p q N r→R r st):wpS (model prog w) A E s (loC a b mg ca cb o u v) R st:=by
 have sza:=X.Ra.size;unfold loC;obtain⟨x,ex⟩:∃x,p[u]? =some x:=⟨_,Gab (by omega)⟩
 refine Gal (bI X.Ra ex ?_);have I' :=I.rN X.sp ex (hx x ex);have Ro' :=Ro.push (X.Ra.lt ex);by_cases e:(u+1+1==a.size)=true
 ·rw[Gai e];have:u+1+1=a.size:=by simpa using e
  exact Gaq (h _ (.inl ⟨_,_,rfl,X.last Ro' I' (by omega)⟩))
 ·rw[Gag e];have e' :u+1+1≠a.size:=by simpa using e
  by_cases e2:(decide (ca<7)&&decide (cb<7))=true
  ·rw[Gai e2];exact Gaq (h _ (.inr ⟨_,_,_,_,_,_,rfl,⟨⟨_,Ro',I'⟩,by omega,bv⟩,by omega⟩))
  ·rw[Gag e2];exact Gaq (h _ ⟨_,_,_,_,_,_,rfl,⟨⟨_,Ro',I'⟩,by omega,bv⟩,by omega⟩)
theorem Fz{mg ca cb u v N:Nat}{o:Array Keyed}{l:List Nat}{R:ForInStep B9→SortSt→Prop}(X:LoX prog w A s κ it rk a b p q)(hk:kindOf st=κ)(Ro:bh it o l)(I:LoI rk p q l u v)(bu:u+1<p.length)(bv:v<q.length)
  (hx:∀x,q[v]? =some x→∀y∈p.drop u,rk x≤rk y)(hN:N≤u+v+2)(h:∀r,C9 it rk p q N r→R r st):wpS (model prog w) A E s (loB a b mg ca cb o u v) R st:=by
 have szb:=X.Rb.size;unfold loB;obtain⟨y,ey⟩:∃x,q[v]? =some x:=⟨_,Gab bv⟩
 obtain⟨x,ex⟩:∃x,p[u]? =some x:=⟨_,Gab (by omega)⟩
 refine Gal (bI X.Rb ey ?_);have I1:=I.wV X.sq ey (hx y ey);have Ro1:=Ro.push (X.Rb.lt ey);by_cases e:(v+1==b.size)=true
 ·rw[Gai e];have:v+1=b.size:=by simpa using e
  exact Gaq (h _ (.inl ⟨_,_,rfl,X.done Ro1 I1 (.inl (by omega))⟩))
 rw[Gag e];have e' :v+1≠b.size:=by simpa using e
 refine Gal (bI X.Ra ex ?_);have full:(q.drop (v+1)).take (b.size -(v+1))=q.drop (v+1):=Gbz (by simp;omega);refine Gal (pA X.hA hk X.Rb (X.Ra.lt ex) (by omega) (by rw[full];exact fB X.sq _) (by omega) λk hk1 t1 t2=> ?_);rw[full] at t1 t2;simp only[Gbi] at t1 t2;dsimp only;have I2:=I1.Kk (k:=k) X.sq λz hz t ht=>by have:=t1 z hz;have:=mG X.sp ex ht;omega
 have Ro2:=Ro1.append (X.Rb.extract (v+1) (v+1+k));rw[show v+1+k -(v+1)=k by omega] at Ro2;have hx2:∀z,p[u]? =some z→∀t∈q.drop (v+1+k),rk z≤rk t:=λz hz t ht=>by
  rw[ex] at hz;cases hz
  rw[←GbX] at ht;exact t2 t ht
 by_cases g:k>0
 ·rw[Gai g];by_cases e2:(v+1+k==b.size)=true
  ·rw[Gai e2];have:v+1+k=b.size:=by simpa using e2
   exact Gaq (h _ (.inl ⟨_,_,rfl,X.done Ro2 I2 (.inl (by omega))⟩))
  ·rw[Gag e2];have e2' :v+1+k≠b.size:=by simpa using e2
   exact Fy X Ro2 I2 bu (by omega) hx2 (by omega) h
 ·rw[Gag g];have k0:k=0:=by omega
  subst k0;exact Fy X Ro1 I1 bu (by omega) hx2 (by omega) h
theorem Km{mg ca cb u v N:Nat}{o:Array Keyed}{l:List Nat}{R:ForInStep B9→SortSt→Prop}(X:LoX prog w A s κ it rk a b p q)(hk:kindOf st=κ)(Ro:bh it o l)(I:LoI rk p q l u v)(bu:u+1<p.length)(bv:v<q.length)
  (hN:N≤u+v+2)(h:∀r z,bH st z→C9 it rk p q N r→R r z):wpS (model prog w) A E s (loA a b mg ca cb o u v) R st:=by
 have sza:=X.Ra.size;unfold loA;rw[oj];refine Gal (GbS ?_);generalize hz:SortSt.mk' (kindOf st) (arrOf st) (pendingOf st) mg (failedOf st)=z;have sz:bH st z:=by rw[←hz];exact⟨rfl,rfl,rfl,rfl⟩
 have hkz:kindOf z=κ:=sz.1.trans hk;have h' :∀r,C9 it rk p q N r→R r z:=λr hr=>h r z sz hr;obtain⟨y,ey⟩:∃x,q[v]? =some x:=⟨_,Gab bv⟩
 refine Gal (bI X.Rb ey ?_);have full:(p.drop u).take (a.size -u)=p.drop u:=Gbz (by simp;omega);refine Gal (pA X.hA hkz X.Ra (X.Rb.lt ey) (by omega) (by rw[full];exact fB X.sp _) (by omega) λk hk1 t1 t2=> ?_);rw[full] at t1 t2;simp only[Gaw,GaR] at t1 t2;dsimp only;have I1:=I.Ba (k:=k) X.sp λz hz t ht=>by have:=t1 z hz;have:=mG X.sq ey ht;omega
 have Ro1:=Ro.append (X.Ra.extract u (u+k));rw[show u+k -u=k by omega] at Ro1;have hx:∀z,q[v]? =some z→∀t∈p.drop (u+k),rk z≤rk t:=λz hz t ht=>by
  rw[ey] at hz;cases hz
  rw[←GbX] at ht;have:=t2 t ht;omega
 by_cases g:k>0
 ·rw[Gai g];by_cases e1:(u+k+1==a.size)=true
  ·rw[Gai e1];have:u+k+1=a.size:=by simpa using e1
   exact Gaq (h' _ (.inl ⟨_,_,rfl,X.last Ro1 I1 (by omega)⟩))
  rw[Gag e1];have e1' :u+k+1≠a.size:=by simpa using e1
  by_cases e2:(u+k==a.size)=true
  ·rw[Gai e2];have:u+k=a.size:=by simpa using e2
   exact Gaq (h' _ (.inl ⟨_,_,rfl,X.done Ro1 I1 (.inr (by omega))⟩))
  rw[Gag e2];have e2' :u+k≠a.size:=by simpa using e2
  exact Fz X hkz Ro1 I1 (by omega) bv hx (by omega) h'
 ·rw[Gag g];have k0:k=0:=by omega
  subst k0;exact Fz X hkz Ro I bu bv hx (by omega) h'
theorem Ic{G:Nat→Option (Array Keyed)×Array Keyed×Nat×Nat×Nat→SortSt→Prop}{n m:Nat}(h:∀i z o u v mg l,i<m→bH st z→bh it o l→LoI rk p q l u v→u+1<p.length→v<q.length→i+1≤u+v→G i (none,o,u,v,mg) z):∀i c z,n≤i→i<m→(bH st z∧∃o u v mg l,c=(none,o,u,v,mg)∧bh it o l∧LoI rk p q l u v∧u+1<p.length∧v<q.length∧i+1≤u+v)→G i c z:=by
 rintro i c z _ hi ⟨hz,o,u,v,mg,l,rfl,Ro,I,g1,g2,g3⟩;exact h i z o u v mg l hi hz Ro I g1 g2 g3
theorem MR{G:Nat→Option (Array Keyed)×Array Keyed×Nat×Nat×Nat×Nat→SortSt→Prop}{n m t:Nat}{z:SortSt}(h:∀j o u v ca cb l,j<m→bh it o l→LoI rk p q l u v→u+1<p.length→v<q.length→t+j≤u+v→G j (none,o,u,v,ca,cb) z):∀j c z',n≤j→j<m→(z' =z∧∃o u v ca cb l,c=(none,o,u,v,ca,cb)∧bh it o l∧LoI rk p q l u v∧u+1<p.length∧v<q.length∧t+j≤u+v)→G j c z' :=by
 rintro j c z' _ hj ⟨rfl,o,u',v',ca,cb,l,rfl,Ro,I,k1,k2,k3⟩;exact h j o u' v' ca cb l hj Ro I k1 k2 k3
theorem MS{G:Option (Array Keyed)×Array Keyed×Nat×Nat×Nat×Nat→SortSt→Prop}{n:Nat}{z:SortSt}(h1:∀r t,dB it rk p q r→G (some r,t) z)(h2:∀o u v ca cb l,bh it o l→LoI rk p q l u v→u+1<p.length→v<q.length→n≤u+v→G (none,o,u,v,ca,cb) z):∀c z',(z' =z∧((∃r t,c=(some r,t)∧dB it rk p q r)∨∃o u v ca cb l,c=(none,o,u,v,ca,cb)∧bh it o l∧LoI rk p q l u v∧u+1<p.length∧v<q.length∧n≤u+v))→G c z' :=by
 rintro c z' ⟨rfl,⟨r,t,rfl,g⟩| ⟨o1,u1,v1,ca1,cb1,l1,rfl,Ro1,I1,k1,k2,k3⟩⟩
 ·exact h1 r t g
 ·exact h2 o1 u1 v1 ca1 cb1 l1 Ro1 I1 k1 k2 k3
theorem MT{G:Nat→Option (Array Keyed)×Array Keyed×Nat×Nat×Nat×Nat×Nat→SortSt→Prop}{n m t:Nat}(h:∀j y o u v mg ca cb l,j<m→bH st y→bh it o l→LoI rk p q l u v→u+1<p.length→v<q.length→t+j≤u+v→G j (none,o,u,v,mg,ca,cb) y):∀j c y,n≤j→j<m→(bH st y∧∃o u v mg ca cb l,c=(none,o,u,v,mg,ca,cb)∧bh it o l∧LoI rk p q l u v∧u+1<p.length∧v<q.length∧t+j≤u+v)→G j c y:=by
 rintro j c y _ hj ⟨hy,o,u',v',mg',ca,cb,l,rfl,Ro,I,n1,n2,n3⟩;exact h j y o u' v' mg' ca cb l hj hy Ro I n1 n2 n3
theorem MU{G:Option (Array Keyed)×Array Keyed×Nat×Nat×Nat×Nat×Nat→SortSt→Prop}{n:Nat}(h1:∀y r t,bH st y→dB it rk p q r→G (some r,t) y)(h2:∀y o u v mg ca cb l,bH st y→bh it o l→LoI rk p q l u v→u+1<p.length→v<q.length→n≤u+v→G (none,o,u,v,mg,ca,cb) y):∀c y,(bH st y∧((∃r t,c=(some r,t)∧dB it rk p q r)∨∃o u v mg ca cb l,c=(none,o,u,v,mg,ca,cb)∧bh it o l∧LoI rk p q l u v∧u+1<p.length∧v<q.length∧n≤u+v))→G c y:=by
 rintro c y ⟨hy,⟨r,t,rfl,g⟩| ⟨o1,u1,v1,mg1,ca1,cb1,l1,rfl,Ro1,I1,k1,k2,k3⟩⟩
 ·exact h1 y r t hy g
 ·exact h2 y o1 u1 v1 mg1 ca1 cb1 l1 hy Ro1 I1 k1 k2 k3
theorem MV{Q:Array Keyed→SortSt→Prop}(hA:iF prog w A s κ it rk)(hk:kindOf st=κ)(Ra:bh it a p)(Rb:bh it b q)(sp:Srt rk p)(sq:Srt rk q)(hp:0<p.length)(hq:0<q.length)
  (h0:∀x,q[0]? =some x→∀y∈p,rk x≤rk y)(hl:∀x,p[p.length -1]? =some x→∀y∈q,rk y≤rk x)(h:∀r z,bH st z→dB it rk p q r→Q r z):wpS (model prog w) A E s (Kj a b) Q st:=by
 rw[Ib];refine Gal (wpS_lift (GbR ⟨rfl, ?_⟩));obtain⟨x0,hx0⟩:∃x,q[0]? =some x:=⟨_,Gab hq⟩
 refine Gal (bI Rb hx0 ?_);have I0:LoI rk p q [x0] 0 1:=by
  refine⟨?_,Gck _ _,λx hx y hy=> ?_,λx hx y hy=> ?_⟩
  ·have:=take1 hx0;rw[GbL] at this;rw[this];simp
  ·simp at hx;subst hx;exact h0 _ hx0 y (Gbv hy)
  ·simp at hx;subst hx;exact mG sq hx0 (Gbv hy)
 have R0:bh it #[kas_item it x0] [x0]:=⟨rfl,λj hj=>by simp at hj;subst hj;exact Rb.lt hx0⟩
 have sza:=Ra.size;have szb:=Rb.size;have X:LoX prog w A s κ it rk a b p q:=⟨hA,Ra,Rb,sp,sq,hl⟩
 refine dG (λc1=> ?_) λc1=> ?_
 ·have:1=b.size:=by simpa using c1
  exact Gaq (h _ _ .refl (X.done R0 I0 (.inl (by omega))))
 have c1' :1≠b.size:=by simpa using c1
 refine dG (λc2=> ?_) λc2=> ?_
 ·have:0+1=a.size:=by simpa using c2
  exact Gaq (h _ _ .refl (X.last R0 I0 (by omega)))
 have c2' :0+1≠a.size:=by simpa using c2
 refine Gal (GcP ?_);refine Gal (Gbu (Gbf (I:=λi c z=>bH st z∧∃o u v mg l,c=(none,o,u,v,mg)∧bh it o l∧LoI rk p q l u v∧u+1<p.length∧v<q.length∧i+1≤u+v)
  (Q:=λc z=>bH st z∧∃r t,c=(some r,t)∧dB it rk p q r) ?step ?fin ⟨.refl,_,0,1,_,[x0],rfl,R0,I0,by omega,by omega,by omega⟩) ?post)
 case fin=>
  rintro c z ⟨_,o,u,v,mg,l,rfl,_,_,g1,g2,g3⟩;exfalso;omega
 case post=>
  rintro c z ⟨hz,r,t,rfl,g⟩;exact Gaq (h r z hz g)
 case step=>
  refine Ic λi z o u v mg l hi hz Ro I g1 g2 g3=> ?_;have hkz:kindOf z=κ:=hz.1.trans hk;refine Gal (Gbu (Gbf (I:=λj c z' =>z' =z∧∃o u' v' ca cb l,c=(none,o,u',v',ca,cb)∧bh it o l∧LoI rk p q l u' v' ∧u' +1<p.length∧v' <q.length∧u+v+j≤u' +v')
   (Q:=λc z' =>z' =z∧((∃r t,c=(some r,t)∧dB it rk p q r)∨∃o u' v' ca cb l,c=(none,o,u',v',ca,cb)∧bh it o l∧LoI rk p q l u' v' ∧u' +1<p.length∧v' <q.length∧u+v+1≤u' +v')) ?s1 ?f1 ⟨rfl,o,u,v,0,0,l,rfl,Ro,I,g1,g2,by omega⟩) ?p1)
  case f1=>
   rintro c z' ⟨_,o,u',v',ca,cb,l,rfl,_,_,k1,k2,k3⟩;exfalso;omega
  case s1=>
   refine MR λj o u' v' ca cb l hj Ro I k1 k2 k3=> ?_;obtain⟨y,hy⟩:∃x,q[v']? =some x:=⟨_,Gab k2⟩
   obtain⟨x,hx⟩:∃x,p[u']? =some x:=⟨_,Gab (by omega)⟩
   refine Gal (bI Rb hy (Gal (bI Ra hx (Gal (wU hA hkz (Rb.lt hy) (Ra.lt hx) ?_)))));dsimp only;refine dG (λlt=> ?_) λlt=> ?_
   ·replace lt:=GaE lt;refine Gal (bI Rb hy ?_);have I' :=I.wV sq hy λt ht=>by have:=mG sp hx ht;omega
    have Ro' :=Ro.push (Rb.lt hy);refine dG (λe=> ?_) λe=> ?_
    ·have:v' +1=b.size:=by simpa using e
     exact Gaq ⟨rfl,.inl ⟨_,_,rfl,X.done Ro' I' (.inl (by omega))⟩⟩
    ·have e' :v' +1≠b.size:=by simpa using e
     refine dG (λe2=> ?_) λe2=> ?_
     ·exact Gaq ⟨rfl,.inr ⟨_,_,_,_,_,_,rfl,Ro',I',k1,by omega,by omega⟩⟩
     ·exact Gaq ⟨rfl,_,_,_,_,_,_,rfl,Ro',I',k1,by omega,by omega⟩
   ·replace lt:=of_decide_eq_false (Bool.eq_false_iff.mpr lt);refine Gal (bI Ra hx ?_);have I' :=I.rN sp hx λt ht=>by have:=mG sq hy ht;omega
    have Ro' :=Ro.push (Ra.lt hx);refine dG (λe=> ?_) λe=> ?_
    ·have:u' +1+1=a.size:=by simpa using e
     exact Gaq ⟨rfl,.inl ⟨_,_,rfl,X.last Ro' I' (by omega)⟩⟩
    ·have e' :u' +1+1≠a.size:=by simpa using e
     refine dG (λe2=> ?_) λe2=> ?_
     ·exact Gaq ⟨rfl,.inr ⟨_,_,_,_,_,_,rfl,Ro',I',by omega,k2,by omega⟩⟩
     ·exact Gaq ⟨rfl,_,_,_,_,_,_,rfl,Ro',I',by omega,k2,by omega⟩
  case p1=>
   refine MS (λr t g=>Gaq ⟨hz,r,_,rfl,g⟩) λo1 u1 v1 ca1 cb1 l1 Ro1 I1 k1 k2 k3=> ?_;refine Gal (wpS_lift (GbR ⟨rfl, ?_⟩));refine Gal (Gbu (Gbf (I:=λj c y=>bH st y∧∃o u' v' mg ca cb l,c=(none,o,u',v',mg,ca,cb)∧bh it o l∧LoI rk p q l u' v' ∧u' +1<p.length∧v' <q.length∧u1+v1+j≤u' +v')
    (Q:=λc y=>bH st y∧((∃r t,c=(some r,t)∧dB it rk p q r)∨∃o u' v' mg ca cb l,c=(none,o,u',v',mg,ca,cb)∧bh it o l∧LoI rk p q l u' v' ∧u' +1<p.length∧v' <q.length∧u1+v1≤u' +v')) ?s2 ?f2 ⟨hz,o1,u1,v1,_,ca1,cb1,l1,rfl,Ro1,I1,k1,k2,by omega⟩) ?p2)
   case f2=>
    rintro c y ⟨_,o,u',v',mg,ca,cb,l,rfl,_,_,n1,n2,n3⟩;exfalso;omega
   case p2=>
    refine MU (λy r t hy g=>Gaq ⟨hy,r,_,rfl,g⟩) λy o2 u2 v2 mg2 ca2 cb2 l2 hy Ro2 I2 n1 n2 n3=> ?_;dsimp only;rw[oj];refine Gal (GbS (Gaq ⟨hy.trans ⟨rfl,rfl,rfl,rfl⟩,o2,u2,v2,_,l2,rfl,Ro2,I2,n1,n2,by omega⟩))
   case s2=>
    refine MT λj y o u' v' mg' ca cb l hj hy Ro I n1 n2 n3=> ?_;have fin:∀g,wpS (model prog w) A E s (loA a b g ca cb o u' v') (λr y' =>match r with
      | .done c=>bH st y' ∧((∃r t,c=(some r,t)∧dB it rk p q r)∨∃o u' v' mg ca cb l,c=(none,o,u',v',mg,ca,cb)∧bh it o l∧LoI rk p q l u' v' ∧u' +1<p.length∧v' <q.length∧u1+v1≤u' +v')
      | .yield c=>bH st y' ∧∃o u' v' mg ca cb l,c=(none,o,u',v',mg,ca,cb)∧bh it o l∧LoI rk p q l u' v' ∧u' +1<p.length∧v' <q.length∧u1+v1+(j+1)≤u' +v') y:=λg=>by
     refine Km X (hy.1.trans hk) Ro I n1 n2 (N:=u' +v' +2) (Gar _) λr z' sz hr=> ?_;cases r with
     |done c=>
      rcases hr with hr| ⟨o,u,v,mg,ca,cb,e,P,hn⟩
      ·exact⟨hy.trans sz,.inl hr⟩
      ·obtain⟨l,h1,h2⟩:=P.ex;exact⟨hy.trans sz,.inr ⟨o,u,v,mg,ca,cb,l,e,h1,h2,P.bu,P.bv,by omega⟩⟩
     |yield c=>
      obtain⟨o,u,v,mg,ca,cb,e,P,hn⟩:=hr;obtain⟨l,h1,h2⟩:=P.ex;exact⟨hy.trans sz,o,u,v,mg,ca,cb,l,e,h1,h2,P.bu,P.bv,by omega⟩
    show wpS (model prog w) A E s (if mg' >1 then loA a b (mg' -1) ca cb o u' v' else loA a b mg' ca cb o u' v') _ y;split
    ·exact Gbu (fin _) λr y' hr=>by cases r<;>exact hr
    ·exact Gbu (fin _) λr y' hr=>by cases r<;>exact hr
end
noncomputable def Kn:Array Keyed→Array Keyed→SM (Array Keyed):=sortPriv%PySem.Builtin.mergeHi
theorem Ie(a b:Array Keyed):Kn a b=(do
 rule "list.sort.merge-hi"
 let tot:=a.size+b.size
 let fin (o:Array Keyed) (u v:Nat):=a.extract 0 u++b.extract 0 v++o.reverse
 let fst (o:Array Keyed) (u v:Nat):=b.extract 0 v++a.extract 0 u++o.reverse
 let mut u:=a.size -1
 let mut v:=b.size
 let mut o:Array Keyed:=#[←elem' a u]
 if u==0 then return fin o u v
 if v==1 then return fst o u v
 let mut mg:=gallopOf (←get)
 for _ in [0:tot] do
  let mut ca:=0
  let mut cb:=0
  for _ in [0:tot] do
   let some w←lt' (←elem' b (v -1)) (←elem' a (u -1))|return fin o u v
   if w then
    u:=u -1;o:=o.push (←elem' a u);ca:=ca+1;cb:=0
    if u==0 then return fin o u v
    if ca≥mg then break
   else
    v:=v -1;o:=o.push (←elem' b v);cb:=cb+1;ca:=0
    if v==1 then return fst o u v
    if cb≥mg then break
  rule "list.sort.gallop"
  mg:=mg+1
  for _ in [0:tot] do
   if mg>1 then mg:=mg -1
   rM mg
   let some c←kZ false (←elem' b (v -1)) a 0 u (u -1)|return fin o u v
   let k:=u -c
   ca:=k
   if k>0 then
    o:=o++(a.extract c u).reverse;u:=c
    if u==0 then return fin o u v
   v:=v -1;o:=o.push (←elem' b v)
   if v==1 then return fst o u v
   let some c←kZ true (←elem' a (u -1)) b 0 v (v -1)|return fin o u v
   let k:=v -c
   cb:=k
   if k>0 then
    o:=o++(b.extract c v).reverse;v:=c
    if v==1 then return fst o u v
    if v==0 then return fin o u v
   u:=u -1;o:=o.push (←elem' a u)
   if u==0 then return fin o u v
   if ca<7&&cb<7 then break
  mg:=mg+1
  rM mg
 unsupported "internal:list.sort.merge-bound"):=rfl
noncomputable abbrev Bb:=Option (Array Keyed)×Nat×Nat×Array Keyed×Nat×Nat×Nat
noncomputable def hiC(a b:Array Keyed)(mg ca cb:Nat)(o:Array Keyed)(u v:Nat):SM (ForInStep Bb):=do
 let e←elem' a (u -1)
 if(u -1==0)=true then pure (.done (some (a.extract 0 (u -1)++b.extract 0 v++(o.push e).reverse),u -1,v,o.push e,mg,ca,cb))
 else if(decide (ca<7)&&decide (cb<7))=true then pure (.done (none,u -1,v,o.push e,mg,ca,cb))
 else pure (.yield (none,u -1,v,o.push e,mg,ca,cb))
noncomputable def hiB(a b:Array Keyed)(mg ca cb:Nat)(o:Array Keyed)(u v:Nat):SM (ForInStep Bb):=do
 let e←elem' b (v -1)
 if(v -1==1)=true then pure (.done (some (b.extract 0 (v -1)++a.extract 0 u++(o.push e).reverse),u,v -1,o.push e,mg,ca,cb))
 else do
  let e2←elem' a (u -1)
  let f←kZ true e2 b 0 (v -1) (v -1 -1)
  match f with
  |some c=>
   if v -1 -c>0 then
    if(c==1)=true then pure (.done (some (b.extract 0 c++a.extract 0 u++(o.push e++(b.extract c (v -1)).reverse).reverse),u,c,o.push e++(b.extract c (v -1)).reverse,mg,ca,v -1 -c))
    else if(c==0)=true then pure (.done (some (a.extract 0 u++b.extract 0 c++(o.push e++(b.extract c (v -1)).reverse).reverse),u,c,o.push e++(b.extract c (v -1)).reverse,mg,ca,v -1 -c))
    else hiC a b mg ca (v -1 -c) (o.push e++(b.extract c (v -1)).reverse) u c
   else hiC a b mg ca (v -1 -c) (o.push e) u (v -1)
  |_=>pure (.done (some (a.extract 0 u++b.extract 0 (v -1)++(o.push e).reverse),u,v -1,o.push e,mg,ca,cb))
noncomputable def hiA(a b:Array Keyed)(mg ca cb:Nat)(o:Array Keyed)(u v:Nat):SM (ForInStep Bb):=do
 rM mg
 let e←elem' b (v -1)
 let f←kZ false e a 0 u (u -1)
 match f with
 |some c=>
  if u -c>0 then
   if(c==0)=true then pure (.done (some (a.extract 0 c++b.extract 0 v++(o++(a.extract c u).reverse).reverse),c,v,o++(a.extract c u).reverse,mg,u -c,cb))
   else hiB a b mg (u -c) cb (o++(a.extract c u).reverse) c v
  else hiB a b mg (u -c) cb o u v
 |_=>pure (.done (some (a.extract 0 u++b.extract 0 v++o.reverse),u,v,o,mg,ca,cb))
structure HiI(rk:Nat→Int)(p q o:List Nat)(u v:Nat):Prop where
 pm:o.Perm (p.drop u++q.drop v)
 so:Srt rk o.reverse
 oa:∀x∈o,∀y∈p.take u,rk y≤rk x
 ob:∀x∈o,∀y∈q.take v,rk y≤rk x
section
variable{rk:Nat→Int}{p q o:List Nat}{u v c:Nat}
theorem Dr{l:List Nat}{m n:Nat}{x:Nat}(h:m≤n)(hx:x∈l.take m):x∈l.take n:=by
 have:l.take m=(l.take n).take m:=by rw[GcA,GcL h]
 rw[this] at hx;exact Gbp hx
theorem FA{l:List Nat}{m n:Nat}{x:Nat}(h:m≤n)(hx:x∈(l.drop m).take (n -m)):x∈l.take n:=by
 rw[←GcQ] at hx;exact Gbv hx
theorem FC{l:List Nat}{m n:Nat}(h:m≤n):l.drop m=(l.drop m).take (n -m)++l.drop n:=by
 conv=>lhs;rw[←Gbc (n -m) (l.drop m)]
 rw[GbX,show m+(n -m)=n by omega]
theorem HiI.Ba(I:HiI rk p q o u v)(sp:Srt rk p)(hc:c≤u)(h:∀x∈(p.drop c).take (u -c),∀y∈q.take v,rk y≤rk x):HiI rk p q (o++((p.drop c).take (u -c)).reverse) c v:=by
 refine⟨?_, ?_,λx hx y hy=> ?_,λx hx y hy=> ?_⟩
 ·have e:p.drop c++q.drop v=((p.drop c).take (u -c)++p.drop u)++q.drop v:=by rw[←FC hc]
  rw[e];refine(Gbs.trans ?_);rw[GaB];exact(List.reverse_perm _).append I.pm
 ·rw[List.reverse_append,List.reverse_reverse];exact dH (gh (fB sp c) _) I.so λx hx y hy=>I.oa y (GbU.mp hy) x (FA hc hx)
 ·rcases Gax.mp hx with hx|hx
  ·exact I.oa x hx y (Dr hc hy)
  ·exact qT sp c y hy x (Gbp (GbU.mp hx))
 ·rcases Gax.mp hx with hx|hx
  ·exact I.ob x hx y hy
  ·exact h x (GbU.mp hx) y hy
theorem HiI.swap(I:HiI rk p q o u v):HiI rk q p o v u:=⟨I.pm.trans Gbs,I.so,I.ob,I.oa⟩
theorem HiI.Kk(I:HiI rk p q o u v)(sq:Srt rk q)(hc:c≤v)(h:∀x∈(q.drop c).take (v -c),∀y∈p.take u,rk y≤rk x):HiI rk p q (o++((q.drop c).take (v -c)).reverse) u c:=(I.swap.Ba sq hc h).swap
theorem HiI.rN{x:Nat}(I:HiI rk p q o u v)(sp:Srt rk p)(hu:0<u)(hx:p[u -1]? =some x)(h:∀y∈q.take v,rk y≤rk x):HiI rk p q (o++[x]) (u -1) v:=by
 have e:(p.drop (u -1)).take (u -(u -1))=[x]:=by rw[show u -(u -1)=1 by omega];exact take1 hx
 have:=I.Ba (c:=u -1) sp (by omega) (by rw[e];intro z hz;simp at hz;subst hz;exact h);rw[e] at this;exact this
theorem HiI.wV{x:Nat}(I:HiI rk p q o u v)(sq:Srt rk q)(hv:0<v)(hx:q[v -1]? =some x)(h:∀y∈p.take u,rk y≤rk x):HiI rk p q (o++[x]) u (v -1):=(I.swap.rN sq hv hx h).swap
theorem HiI.perm(I:HiI rk p q o u v):(p.take u++q.take v++o.reverse).Perm (p++q):=by
 refine(GbY _ ((List.reverse_perm _).trans I.pm)).trans ?_;have e:p++q=(p.take u++p.drop u)++(q.take v++q.drop v):=by rw[Gbc,Gbc]
 rw[e,GaB,GaB];refine GbY _ ?_;rw[←GaB,←GaB];exact Gbq _ Gbs
theorem HiI.done(I:HiI rk p q o u v)(sp:Srt rk p)(sq:Srt rk q)(h:u=0∨v=0):(p.take u++q.take v++o.reverse).Perm (p++q)∧Srt rk (p.take u++q.take v++o.reverse):=by
 refine⟨I.perm, ?_⟩;rcases h with rfl|rfl
 ·rw[List.take_zero,List.nil_append];exact dH (gh sq v) I.so λx hx y hy=>I.ob y (GbU.mp hy) x hx
 ·rw[List.take_zero,Gbn];exact dH (gh sp u) I.so λx hx y hy=>I.oa y (GbU.mp hy) x hx
theorem HiI.first(I:HiI rk p q o u v)(sp:Srt rk p)(h:v=1)(h0:∀x,q[0]? =some x→∀y∈p,rk x≤rk y):(q.take v++p.take u++o.reverse).Perm (p++q)∧Srt rk (q.take v++p.take u++o.reverse):=by
 refine⟨(Gbq _ Gbs).trans I.perm, ?_⟩;subst h;refine dH (dH ?_ (gh sp u) λx hx y hy=> ?_) I.so λx hx y hy=> ?_
 ·cases q with
  |nil=>exact List.Pairwise.nil
  |cons z t=>exact Gck _ _
 ·cases q with
  |nil=>cases hx
  |cons z t=>
   have:x=z:=by simpa using hx
   subst this;exact h0 x rfl y (Gbp hy)
 ·rcases Gax.mp hx with hx|hx
  ·exact I.ob y (GbU.mp hy) x hx
  ·exact I.oa y (GbU.mp hy) x hx
end
section
variable{prog:Program}{w:World}{A:Around}{E:Value→Shared→Prop}{s:Shared}{st:SortSt}{κ:SortKind}{it:Array Keyed}{rk:Nat→Int}{a b:Array Keyed}{p q:List Nat}
theorem bh.take{a:Array Keyed}{p:List Nat}(R:bh it a p)(n:Nat):bh it (a.extract 0 n) (p.take n):=by
 have:=R.extract 0 n;rw[GbL,Nat.sub_zero] at this;exact this
theorem mH{l:List Nat}{x y n:Nat}(h:Srt rk l)(hx:l[n -1]? =some x)(hy:y∈l.take n):rk y≤rk x:=by
 obtain⟨k,hk⟩:=GbW.mp hy;have hkn:k<n:=by have:=(Gae.mp hk).1;simp at this;omega
 rw[GaZ hkn] at hk;exact qS h (by omega) hk hx
structure HiP(it:Array Keyed)(rk:Nat→Int)(p q:List Nat)(o:Array Keyed)(u v:Nat):Prop where
 ex:∃l,bh it o l∧HiI rk p q l u v
 bu:0<u
 bv:1<v
 cu:u≤p.length
 cv:v≤q.length
def Ca(it:Array Keyed)(rk:Nat→Int)(p q:List Nat)(N:Nat):ForInStep Bb→Prop
 | .done c=>(∃r t,c=(some r,t)∧dB it rk p q r)∨∃o u v mg ca cb,c=(none,u,v,o,mg,ca,cb)∧HiP it rk p q o u v∧u+v≤N
 | .yield c=>∃o u v mg ca cb,c=(none,u,v,o,mg,ca,cb)∧HiP it rk p q o u v∧u+v≤N
structure HiX(prog:Program)(w:World)(A:Around)(s:Shared)(κ:SortKind)(it:Array Keyed)(rk:Nat→Int)(a b:Array Keyed)(p q:List Nat):Prop where
 hA:iF prog w A s κ it rk
 Ra:bh it a p
 Rb:bh it b q
 sp:Srt rk p
 sq:Srt rk q
 h0:∀x,q[0]? =some x→∀y∈p,rk x≤rk y
theorem HiX.done{o:Array Keyed}{l:List Nat}{u v:Nat}(X:HiX prog w A s κ it rk a b p q)(Ro:bh it o l)(I:HiI rk p q l u v)(hh:u=0∨v=0):dB it rk p q (a.extract 0 u++b.extract 0 v++o.reverse):=
 ⟨_,((X.Ra.take _).append (X.Rb.take _)).append Ro.reverse,(I.done X.sp X.sq hh).1,(I.done X.sp X.sq hh).2⟩
theorem HiX.first{o:Array Keyed}{l:List Nat}{u v:Nat}(X:HiX prog w A s κ it rk a b p q)(Ro:bh it o l)(I:HiI rk p q l u v)(hh:v=1):dB it rk p q (b.extract 0 v++a.extract 0 u++o.reverse):=
 ⟨_,((X.Rb.take _).append (X.Ra.take _)).append Ro.reverse,(I.first X.sp hh X.h0).1,(I.first X.sp hh X.h0).2⟩
theorem FD{mg ca cb u v N:Nat}{o:Array Keyed}{l:List Nat}{R:ForInStep Bb→SortSt→Prop}(X:HiX prog w A s κ it rk a b p q)(Ro:bh it o l)(I:HiI rk p q l u v)(bu:0<u)(bv:1<v)(cu:u≤p.length)(cv:v≤q.length)
  (hx:∀x,p[u -1]? =some x→∀y∈q.take v,rk y≤rk x)(hN:u+v≤N+1)(h:∀r,Ca it rk p q N r→R r st):wpS (model prog w) A E s (hiC a b mg ca cb o u v) R st:=by
 unfold hiC;obtain⟨x,ex⟩:∃x,p[u -1]? =some x:=⟨_,Gab (by omega)⟩
 refine Gal (bI X.Ra ex ?_);have I' :=I.rN X.sp bu ex (hx x ex);have Ro' :=Ro.push (X.Ra.lt ex);by_cases e:(u -1==0)=true
 ·rw[Gai e];have:u -1=0:=by simpa using e
  exact Gaq (h _ (.inl ⟨_,_,rfl,X.done Ro' I' (.inl this)⟩))
 ·rw[Gag e];have e' :u -1≠0:=by simpa using e
  by_cases e2:(decide (ca<7)&&decide (cb<7))=true
  ·rw[Gai e2];exact Gaq (h _ (.inr ⟨_,_,_,_,_,_,rfl,⟨⟨_,Ro',I'⟩,by omega,bv,by omega,cv⟩,by omega⟩))
  ·rw[Gag e2];exact Gaq (h _ ⟨_,_,_,_,_,_,rfl,⟨⟨_,Ro',I'⟩,by omega,bv,by omega,cv⟩,by omega⟩)
theorem FE{mg ca cb u v N:Nat}{o:Array Keyed}{l:List Nat}{R:ForInStep Bb→SortSt→Prop}(X:HiX prog w A s κ it rk a b p q)(hk:kindOf st=κ)(Ro:bh it o l)(I:HiI rk p q l u v)(bu:0<u)(bv:1<v)(cu:u≤p.length)(cv:v≤q.length)
  (hx:∀x,q[v -1]? =some x→∀y∈p.take u,rk y≤rk x)(hN:u+v≤N+2)(h:∀r,Ca it rk p q N r→R r st):wpS (model prog w) A E s (hiB a b mg ca cb o u v) R st:=by
 unfold hiB;obtain⟨y,ey⟩:∃x,q[v -1]? =some x:=⟨_,Gab (by omega)⟩
 obtain⟨x,ex⟩:∃x,p[u -1]? =some x:=⟨_,Gab (by omega)⟩
 refine Gal (bI X.Rb ey ?_);have I1:=I.wV X.sq (by omega) ey (hx y ey);have Ro1:=Ro.push (X.Rb.lt ey);by_cases e:(v -1==1)=true
 ·rw[Gai e];have:v -1=1:=by simpa using e
  exact Gaq (h _ (.inl ⟨_,_,rfl,X.first Ro1 I1 this⟩))
 rw[Gag e];have e' :v -1≠1:=by simpa using e
 refine Gal (bI X.Ra ex ?_);refine Gal (pA X.hA hk X.Rb (X.Ra.lt ex) (by omega) (by rw[GbL];exact gh X.sq _) (by omega) λc hc1 t1 t2=> ?_);rw[GbL] at t1 t2;simp only[Gbi] at t1 t2;dsimp only;have t2' :∀z∈(q.drop c).take (v -1 -c),rk x≤rk z:=λz hz=>t2 z (by rw[GcQ];exact hz);have t1' :∀z∈q.take c,rk z<rk x:=λz hz=>t1 z (by rw[GcA,GcL hc1];exact hz);have I2:=I1.Kk (c:=c) X.sq hc1 λz hz t ht=>by have:=t2' z hz;have:=mH X.sp ex ht;omega
 have Ro2:=Ro1.append (X.Rb.extract c (v -1)).reverse;have hx2:∀z,p[u -1]? =some z→∀t∈q.take c,rk t≤rk z:=λz hz t ht=>by
  rw[ex] at hz;cases hz
  have:=t1' t ht;omega
 by_cases g:v -1 -c>0
 ·rw[Gai g];by_cases e2:(c==1)=true
  ·rw[Gai e2];have:c=1:=by simpa using e2
   exact Gaq (h _ (.inl ⟨_,_,rfl,X.first Ro2 I2 this⟩))
  rw[Gag e2];have e2' :c≠1:=by simpa using e2
  by_cases e3:(c==0)=true
  ·rw[Gai e3];have:c=0:=by simpa using e3
   exact Gaq (h _ (.inl ⟨_,_,rfl,X.done Ro2 I2 (.inr this)⟩))
  rw[Gag e3];have e3' :c≠0:=by simpa using e3
  exact FD X Ro2 I2 bu (by omega) cu (by omega) hx2 (by omega) h
 ·rw[Gag g];have k0:c=v -1:=by omega
  rw[k0] at hx2;exact FD X Ro1 I1 bu (by omega) cu (by omega) hx2 (by omega) h
theorem Ko{mg ca cb u v N:Nat}{o:Array Keyed}{l:List Nat}{R:ForInStep Bb→SortSt→Prop}(X:HiX prog w A s κ it rk a b p q)(hk:kindOf st=κ)(Ro:bh it o l)(I:HiI rk p q l u v)(bu:0<u)(bv:1<v)(cu:u≤p.length)(cv:v≤q.length)
  (hN:u+v≤N+2)(h:∀r z,bH st z→Ca it rk p q N r→R r z):wpS (model prog w) A E s (hiA a b mg ca cb o u v) R st:=by
 unfold hiA;rw[oj];refine Gal (GbS ?_);generalize hz:SortSt.mk' (kindOf st) (arrOf st) (pendingOf st) mg (failedOf st)=z;have sz:bH st z:=by rw[←hz];exact⟨rfl,rfl,rfl,rfl⟩
 have hkz:kindOf z=κ:=sz.1.trans hk;have h' :∀r,Ca it rk p q N r→R r z:=λr hr=>h r z sz hr;obtain⟨y,ey⟩:∃x,q[v -1]? =some x:=⟨_,Gab (by omega)⟩
 refine Gal (bI X.Rb ey ?_);refine Gal (pA X.hA hkz X.Ra (X.Rb.lt ey) (by omega) (by rw[GbL];exact gh X.sp _) (by omega) λc hc1 t1 t2=> ?_);rw[GbL] at t1 t2;simp only[Gaw,GaR] at t1 t2;dsimp only;have t2' :∀z∈(p.drop c).take (u -c),rk y<rk z:=λz hz=>t2 z (by rw[GcQ];exact hz);have t1' :∀z∈p.take c,rk z≤rk y:=λz hz=>t1 z (by rw[GcA,GcL hc1];exact hz);have I1:=I.Ba (c:=c) X.sp hc1 λz hz t ht=>by have:=t2' z hz;have:=mH X.sq ey ht;omega
 have Ro1:=Ro.append (X.Ra.extract c u).reverse;have hx:∀z,q[v -1]? =some z→∀t∈p.take c,rk t≤rk z:=λz hz t ht=>by
  rw[ey] at hz;cases hz
  exact t1' t ht
 by_cases g:u -c>0
 ·rw[Gai g];by_cases e1:(c==0)=true
  ·rw[Gai e1];have:c=0:=by simpa using e1
   exact Gaq (h' _ (.inl ⟨_,_,rfl,X.done Ro1 I1 (.inl this)⟩))
  rw[Gag e1];have e1' :c≠0:=by simpa using e1
  exact FE X hkz Ro1 I1 (by omega) bv (by omega) cv hx (by omega) h'
 ·rw[Gag g];have k0:c=u:=by omega
  rw[k0] at hx;exact FE X hkz Ro I bu bv cu cv hx (by omega) h'
theorem Ig{G:Nat→Option (Array Keyed)×Nat×Nat×Array Keyed×Nat→SortSt→Prop}{n m:Nat}(h:∀i z o u v mg,i<m→bH st z→HiP it rk p q o u v→u+v+i+1≤p.length+q.length→G i (none,u,v,o,mg) z):∀i c z,n≤i→i<m→(bH st z∧∃o u v mg,c=(none,u,v,o,mg)∧HiP it rk p q o u v∧u+v+i+1≤p.length+q.length)→G i c z:=by
 rintro i c z _ hi ⟨hz,o,u,v,mg,rfl,P,g3⟩;exact h i z o u v mg hi hz P g3
theorem MW{G:Nat→Option (Array Keyed)×Nat×Nat×Array Keyed×Nat×Nat→SortSt→Prop}{n m t:Nat}{z:SortSt}(h:∀j o u v ca cb,j<m→HiP it rk p q o u v→u+v+j≤t→G j (none,u,v,o,ca,cb) z):∀j c z',n≤j→j<m→(z' =z∧∃o u v ca cb,c=(none,u,v,o,ca,cb)∧HiP it rk p q o u v∧u+v+j≤t)→G j c z' :=by
 rintro j c z' _ hj ⟨rfl,o,u',v',ca,cb,rfl,P,k3⟩;exact h j o u' v' ca cb hj P k3
theorem MX{G:Option (Array Keyed)×Nat×Nat×Array Keyed×Nat×Nat→SortSt→Prop}{n:Nat}{z:SortSt}(h1:∀r t,dB it rk p q r→G (some r,t) z)(h2:∀o u v ca cb,HiP it rk p q o u v→u+v+1≤n→G (none,u,v,o,ca,cb) z):∀c z',(z' =z∧((∃r t,c=(some r,t)∧dB it rk p q r)∨∃o u v ca cb,c=(none,u,v,o,ca,cb)∧HiP it rk p q o u v∧u+v+1≤n))→G c z' :=by
 rintro c z' ⟨rfl,⟨r,t,rfl,g⟩| ⟨o1,u1,v1,ca1,cb1,rfl,P1,k3⟩⟩
 ·exact h1 r t g
 ·exact h2 o1 u1 v1 ca1 cb1 P1 k3
theorem MY{G:Nat→Option (Array Keyed)×Nat×Nat×Array Keyed×Nat×Nat×Nat→SortSt→Prop}{n m t:Nat}(h:∀j y o u v mg ca cb,j<m→bH st y→HiP it rk p q o u v→u+v+j≤t→G j (none,u,v,o,mg,ca,cb) y):∀j c y,n≤j→j<m→(bH st y∧∃o u v mg ca cb,c=(none,u,v,o,mg,ca,cb)∧HiP it rk p q o u v∧u+v+j≤t)→G j c y:=by
 rintro j c y _ hj ⟨hy,o,u',v',mg',ca,cb,rfl,P,n3⟩;exact h j y o u' v' mg' ca cb hj hy P n3
theorem MZ{G:Option (Array Keyed)×Nat×Nat×Array Keyed×Nat×Nat×Nat→SortSt→Prop}{n:Nat}(h1:∀y r t,bH st y→dB it rk p q r→G (some r,t) y)(h2:∀y o u v mg ca cb,bH st y→HiP it rk p q o u v→u+v≤n→G (none,u,v,o,mg,ca,cb) y):∀c y,(bH st y∧((∃r t,c=(some r,t)∧dB it rk p q r)∨∃o u v mg ca cb,c=(none,u,v,o,mg,ca,cb)∧HiP it rk p q o u v∧u+v≤n))→G c y:=by
 rintro c y ⟨hy,⟨r,t,rfl,g⟩| ⟨o1,u1,v1,mg1,ca1,cb1,rfl,P1,k3⟩⟩
 ·exact h1 y r t hy g
 ·exact h2 y o1 u1 v1 mg1 ca1 cb1 hy P1 k3
theorem N0{Q:Array Keyed→SortSt→Prop}(hA:iF prog w A s κ it rk)(hk:kindOf st=κ)(Ra:bh it a p)(Rb:bh it b q)(sp:Srt rk p)(sq:Srt rk q)(hp:0<p.length)(hq:0<q.length)
  (h0:∀x,q[0]? =some x→∀y∈p,rk x≤rk y)(hl:∀x,p[p.length -1]? =some x→∀y∈q,rk y≤rk x)(h:∀r z,bH st z→dB it rk p q r→Q r z):wpS (model prog w) A E s (Kn a b) Q st:=by
 rw[Ie];refine Gal (wpS_lift (GbR ⟨rfl, ?_⟩));have sza:=Ra.size;have szb:=Rb.size;obtain⟨x0,hx0⟩:∃x,p[p.length -1]? =some x:=⟨_,Gab (by omega)⟩
 rw[sza,szb];refine Gal (bI Ra hx0 ?_);have I0:HiI rk p q [x0] (p.length -1) q.length:=by
  refine⟨?_,Gck _ _,λx hx y hy=> ?_,λx hx y hy=> ?_⟩
  ·have:=take1 hx0;rw[GbT,Gbn];have e:p.drop (p.length -1)=[x0]:=by
    rw[←this,Gbz (by simp;omega)]
   rw[e]
  ·simp at hx;subst hx;exact mH sp hx0 (by rw[List.take_length];exact Gbp hy)
  ·simp at hx;subst hx;exact hl _ hx0 y (Gbp hy)
 have R0:bh it #[kas_item it x0] [x0]:=⟨rfl,λj hj=>by simp at hj;subst hj;exact Ra.lt hx0⟩
 have X:HiX prog w A s κ it rk a b p q:=⟨hA,Ra,Rb,sp,sq,h0⟩
 refine dG (λc1=> ?_) λc1=> ?_
 ·have:p.length -1=0:=by simpa using c1
  exact Gaq (h _ _ .refl (X.done R0 I0 (.inl this)))
 have c1' :p.length -1≠0:=by simpa using c1
 refine dG (λc2=> ?_) λc2=> ?_
 ·have:q.length=1:=by simpa using c2
  exact Gaq (h _ _ .refl (X.first R0 I0 this))
 have c2' :q.length≠1:=by simpa using c2
 refine Gal (GcP ?_);refine Gal (Gbu (Gbf (I:=λi c z=>bH st z∧∃o u v mg,c=(none,u,v,o,mg)∧HiP it rk p q o u v∧u+v+i+1≤p.length+q.length)
  (Q:=λc z=>bH st z∧∃r t,c=(some r,t)∧dB it rk p q r) ?step ?fin ⟨.refl,_,_,_,_,rfl,⟨⟨_,R0,I0⟩,by omega,by omega,by omega,by omega⟩,by omega⟩) ?post)
 case fin=>
  rintro c z ⟨_,o,u,v,mg,rfl,P,g3⟩;have:=P.bu;exfalso;omega
 case post=>
  rintro c z ⟨hz,r,t,rfl,g⟩;exact Gaq (h r z hz g)
 case step=>
  refine Ig λi z o u v mg hi hz P g3=> ?_;have hkz:kindOf z=κ:=hz.1.trans hk;refine Gal (Gbu (Gbf (I:=λj c z' =>z' =z∧∃o u' v' ca cb,c=(none,u',v',o,ca,cb)∧HiP it rk p q o u' v' ∧u' +v' +j≤u+v)
   (Q:=λc z' =>z' =z∧((∃r t,c=(some r,t)∧dB it rk p q r)∨∃o u' v' ca cb,c=(none,u',v',o,ca,cb)∧HiP it rk p q o u' v' ∧u' +v' +1≤u+v)) ?s1 ?f1 ⟨rfl,o,u,v,0,0,rfl,P,by omega⟩) ?p1)
  case f1=>
   rintro c z' ⟨_,o,u',v',ca,cb,rfl,P',k3⟩;have:=P'.bu;have:=P.cu;have:=P.cv;exfalso;omega
  case s1=>
   refine MW λj o u' v' ca cb hj P' k3=> ?_;have⟨⟨l,Ro,I⟩,bu,bv,cu,cv⟩:=P';obtain⟨y,hy⟩:∃x,q[v' -1]? =some x:=⟨_,Gab (by omega)⟩
   obtain⟨x,hx⟩:∃x,p[u' -1]? =some x:=⟨_,Gab (by omega)⟩
   refine Gal (bI Rb hy (Gal (bI Ra hx (Gal (wU hA hkz (Rb.lt hy) (Ra.lt hx) ?_)))));dsimp only;refine dG (λlt=> ?_) λlt=> ?_
   ·replace lt:=GaE lt;refine Gal (bI Ra hx ?_);have I' :=I.rN sp bu hx λt ht=>by have:=mH sq hy ht;omega
    have Ro' :=Ro.push (Ra.lt hx);refine dG (λe=> ?_) λe=> ?_
    ·have:u' -1=0:=by simpa using e
     exact Gaq ⟨rfl,.inl ⟨_,_,rfl,X.done Ro' I' (.inl this)⟩⟩
    ·have e' :u' -1≠0:=by simpa using e
     refine dG (λe2=> ?_) λe2=> ?_
     ·exact Gaq ⟨rfl,.inr ⟨_,_,_,_,_,rfl,⟨⟨_,Ro',I'⟩,by omega,bv,by omega,cv⟩,by omega⟩⟩
     ·exact Gaq ⟨rfl,_,_,_,_,_,rfl,⟨⟨_,Ro',I'⟩,by omega,bv,by omega,cv⟩,by omega⟩
   ·replace lt:=of_decide_eq_false (Bool.eq_false_iff.mpr lt);refine Gal (bI Rb hy ?_);have I' :=I.wV sq (by omega) hy λt ht=>by have:=mH sp hx ht;omega
    have Ro' :=Ro.push (Rb.lt hy);refine dG (λe=> ?_) λe=> ?_
    ·have:v' -1=1:=by simpa using e
     exact Gaq ⟨rfl,.inl ⟨_,_,rfl,X.first Ro' I' this⟩⟩
    ·have e' :v' -1≠1:=by simpa using e
     refine dG (λe2=> ?_) λe2=> ?_
     ·exact Gaq ⟨rfl,.inr ⟨_,_,_,_,_,rfl,⟨⟨_,Ro',I'⟩,bu,by omega,cu,by omega⟩,by omega⟩⟩
     ·exact Gaq ⟨rfl,_,_,_,_,_,rfl,⟨⟨_,Ro',I'⟩,bu,by omega,cu,by omega⟩,by omega⟩
  case p1=>
   refine MX (λr t g=>Gaq ⟨hz,r,_,rfl,g⟩) λo1 u1 v1 ca1 cb1 P1 k3=> ?_;refine Gal (wpS_lift (GbR ⟨rfl, ?_⟩));refine Gal (Gbu (Gbf (I:=λj c y=>bH st y∧∃o u' v' mg ca cb,c=(none,u',v',o,mg,ca,cb)∧HiP it rk p q o u' v' ∧u' +v' +j≤u1+v1)
    (Q:=λc y=>bH st y∧((∃r t,c=(some r,t)∧dB it rk p q r)∨∃o u' v' mg ca cb,c=(none,u',v',o,mg,ca,cb)∧HiP it rk p q o u' v' ∧u' +v' ≤u1+v1)) ?s2 ?f2 ⟨hz,o1,u1,v1,_,ca1,cb1,rfl,P1,by omega⟩) ?p2)
   case f2=>
    rintro c y ⟨_,o,u',v',mg,ca,cb,rfl,P',n3⟩;have:=P'.bu;have:=P1.cu;have:=P1.cv;exfalso;omega
   case p2=>
    refine MZ (λy r t hy g=>Gaq ⟨hy,r,_,rfl,g⟩) λy o2 u2 v2 mg2 ca2 cb2 hy P2 n3=> ?_;dsimp only;rw[oj];exact Gal (GbS (Gaq ⟨hy.trans ⟨rfl,rfl,rfl,rfl⟩,o2,u2,v2,_,rfl,P2,by omega⟩))
   case s2=>
    refine MY λj y o u' v' mg' ca cb hj hy P' n3=> ?_;have⟨⟨l,Ro,I⟩,bu,bv,cu,cv⟩:=P';have fin:∀g,wpS (model prog w) A E s (hiA a b g ca cb o u' v') (λr y' =>match r with
      | .done c=>bH st y' ∧((∃r t,c=(some r,t)∧dB it rk p q r)∨∃o u' v' mg ca cb,c=(none,u',v',o,mg,ca,cb)∧HiP it rk p q o u' v' ∧u' +v' ≤u1+v1)
      | .yield c=>bH st y' ∧∃o u' v' mg ca cb,c=(none,u',v',o,mg,ca,cb)∧HiP it rk p q o u' v' ∧u' +v' +(j+1)≤u1+v1) y:=λg=>by
     refine Ko X (hy.1.trans hk) Ro I bu bv cu cv (N:=u' +v' -2) (by omega) λr z' sz hr=> ?_;cases r with
     |done c=>
      rcases hr with hr| ⟨o,u,v,mg,ca,cb,e,P,hn⟩
      ·exact⟨hy.trans sz,.inl hr⟩
      ·exact⟨hy.trans sz,.inr ⟨o,u,v,mg,ca,cb,e,P,by omega⟩⟩
     |yield c=>
      obtain⟨o,u,v,mg,ca,cb,e,P,hn⟩:=hr;exact⟨hy.trans sz,o,u,v,mg,ca,cb,e,P,by omega⟩
    show wpS (model prog w) A E s (if mg' >1 then hiA a b (mg' -1) ca cb o u' v' else hiA a b mg' ca cb o u' v') _ y;split
    ·exact Gbu (fin _) λr y' hr=>by cases r<;>exact hr
    ·exact Gbu (fin _) λr y' hr=>by cases r<;>exact hr
end
open PySem.W (kas_item kas_swaps_map)
noncomputable abbrev Kp:=Option (Option Nat)×Nat
noncomputable abbrev Kq:=Option (Option Nat)×Nat×Nat
noncomputable def FF(lo a nrem:Nat):SM Kp:=forIn [a:nrem] ((none,a):Kp) λ_ z=>do
 let x←ltAt' (lo+z.2) (lo+z.2 -1)
 match x with
 |some c=>if c=true then pure (.done (none,z.2)) else pure (.yield (none,z.2+1))
 |_=>pure (.done (some none,z.2))
noncomputable def wW(lo n nrem:Nat):SM (Option Nat):=do
 reverseSlice' lo (lo+n)
 let z←FF lo n nrem
 match z.1 with
 |some r=>pure r
 |none=>pure (some z.2)
noncomputable def Cb(lo n nrem:Nat):SM Kq:=forIn [n:nrem] ((none,n,0):Kq) λ_ z=>do
 let x←ltAt' (lo+z.2.1) (lo+z.2.1 -1)
 match x with
 |some c=>
  if c=true then
   if z.2.2>0 then do
    reverseSlice' (lo+z.2.1 -(z.2.2+1)) (lo+z.2.1)
    pure (.yield (none,z.2.1+1,0))
   else pure (.yield (none,z.2.1+1,0))
  else do
   let y←ltAt' (lo+z.2.1 -1) (lo+z.2.1)
   match y with
   |some d=>if d=true then pure (.done (none,z.2.1,z.2.2)) else pure (.yield (none,z.2.1+1,z.2.2+1))
   |_=>pure (.done (some none,z.2.1,z.2.2))
 |_=>pure (.done (some none,z.2.1,z.2.2))
noncomputable def rO(lo n nrem:Nat):SM (Option Nat):=do
 rule "list.sort.descending-run"
 let z←Cb lo (n+1) nrem
 match z.1 with
 |some r=>pure r
 |none=>
  if z.2.2>0 then
   reverseSlice' (lo+z.2.1 -(z.2.2+1)) (lo+z.2.1)
   wW lo z.2.1 nrem
  else wW lo z.2.1 nrem
noncomputable def Kr(lo nrem:Nat):SM (Option Nat):=do
 let z←FF lo 1 nrem
 match z.1 with
 |some r=>pure r
 |none=>
  if(z.2==nrem)=true then pure (some z.2)
  else if z.2>1 then
   let x←ltAt' lo (lo+z.2 -1)
   match x with
   |some c=>
    if c=true then pure (some z.2)
    else
     reverseSlice' lo (lo+z.2)
     rO lo z.2 nrem
   |_=>pure none
  else rO lo z.2 nrem
theorem vn(lo nrem:Nat):countRun' lo nrem=Kr lo nrem:=by
 rw[countRun'_eq];dsimp only;unfold Kr rO wW Cb FF;refine congrArg (bind _) (funext λz=> ?_);obtain⟨r,n⟩:=z;cases r with
 |some r=>rfl
 |none=>
  dsimp only;split
  ·rfl
  ·split
   ·congr 1
    funext x
    cases x with
    |none=>rfl
    |some c=>
     dsimp only;split
     ·rfl
     ·congr 1
      funext _r
      congr 1
      funext _u
      congr 1;congr 1
      funext z2
      obtain⟨r2,n2,q2⟩:=z2;cases r2 with
      |some r2=>rfl
      |none=>
       dsimp only;split
       ·congr 1
        funext _v
        congr 1
        funext _w
        congr 1
        funext z3
        obtain⟨r3,n3⟩:=z3;cases r3<;>rfl
       ·congr 1
        funext _w
        congr 1
        funext z3
        obtain⟨r3,n3⟩:=z3;cases r3<;>rfl
   ·congr 1
    funext _u
    congr 1;congr 1
    funext z2
    obtain⟨r2,n2,q2⟩:=z2;cases r2 with
    |some r2=>rfl
    |none=>
     dsimp only;split
     ·congr 1
      funext _v
      congr 1
      funext _w
      congr 1
      funext z3
      obtain⟨r3,n3⟩:=z3;cases r3<;>rfl
     ·congr 1
      funext _w
      congr 1
      funext z3
      obtain⟨r3,n3⟩:=z3;cases r3<;>rfl
structure SS(κ:SortKind)(it:Array Keyed)(z:SortSt)(p:Array Nat):Prop where
 kind:kindOf z=κ
 arr:arrOf z=p.map (kas_item it)
 fail:failedOf z=none
 ok:∀i∈p.toList,i<it.size
def lQ(z z' :SortSt):Prop:=pendingOf z' =pendingOf z
noncomputable def Rk(rk:Nat→Int)(p:Array Nat)(i:Nat):Int:=rk (p.getD i 0)
def Up'(rk:Nat→Int)(p:Array Nat)(lo hi:Nat):Prop:=∀u v,lo≤u→u≤v→v<hi→Rk rk p u≤Rk rk p v
def Dn'(rk:Nat→Int)(p:Array Nat)(lo hi:Nat):Prop:=∀u v,lo≤u→u≤v→v<hi→Rk rk p v≤Rk rk p u
structure Ag(lo hi:Nat)(p p' :Array Nat):Prop where
 perm:p'.Perm p
 out:∀k,k<lo∨hi≤k→p'[k]? =p[k]?
theorem Ag.refl{lo hi:Nat}{p:Array Nat}:Ag lo hi p p:=⟨Array.Perm.refl _,λ_ _=>rfl⟩
theorem Ag.trans{lo hi:Nat}{p q r:Array Nat}(a:Ag lo hi p q)(b:Ag lo hi q r):Ag lo hi p r:=⟨b.perm.trans a.perm,λk h=>(b.out k h).trans (a.out k h)⟩
theorem Ag.size{lo hi:Nat}{p q:Array Nat}(a:Ag lo hi p q):q.size=p.size:=by
 have:=a.perm.toList.length_eq
 simpa using this
theorem Ag.mono{lo hi hi' :Nat}{p q:Array Nat}(a:Ag lo hi p q)(h:hi≤hi'):Ag lo hi' p q:=⟨a.perm,λk z=>a.out k (by omega)⟩
theorem Ag.rk{rk:Nat→Int}{lo hi k:Nat}{p q:Array Nat}(a:Ag lo hi p q)(h:k<lo∨hi≤k):Rk rk q k=Rk rk p k:=by
 unfold Rk;have:=a.out k h;simp only[Gcp,this]
theorem mI{lo hi:Nat}{p:Array Nat}(h:hi≤p.size):Ag lo hi p (mirror p lo hi ((hi -lo)/2)):=⟨mirror_perm _ _ _ _,λk z=>by
 rw[getElem?_mirror_all h,Gag (by omega)]⟩
theorem pB{rk:Nat→Int}{i j k:Nat}{p:Array Nat}(h:j≤p.size):Rk rk (mirror p i j ((j -i)/2)) k=if i≤k∧k<j then Rk rk p (i+j -1 -k) else Rk rk p k:=by
 unfold Rk;simp only[Gcp,getElem?_mirror_all h];split<;>rfl
theorem gk{rk:Nat→Int}{i j k:Nat}{p:Array Nat}(h:j≤p.size)(e:∀u,i≤u→u<j→Rk rk p u=Rk rk p (j -1)):Rk rk (mirror p i j ((j -i)/2)) k=Rk rk p k:=by
 rw[pB h];split
 ·rename_i z;rw[e _ (by omega) (by omega),e k z.1 z.2]
 ·rfl
section
variable{prog:Program}{w:World}{A:Around}{E:Value→Shared→Prop}{s:Shared}{st:SortSt}{κ:SortKind}{it:Array Keyed}{rk:Nat→Int}{p:Array Nat}
theorem SS.rep(S:SS κ it st p):bh it (arrOf st) p.toList:=⟨by rw[S.arr];apply GcB.mp;simp,S.ok⟩
theorem SS.move{p' :Array Nat}{xs:Array Keyed}(S:SS κ it st p)(pm:p'.Perm p)(e:xs=p'.map (kas_item it)):SS κ it (setArr st xs) p' :=⟨S.kind,e,S.fail,λi hi=>S.ok i (by
 have:=pm.toList.mem_iff (a:=i);exact this.mp hi)⟩
theorem wp_at{i j:Nat}{Q:Option Bool→SortSt→Prop}(hA:iF prog w A s κ it rk)(S:SS κ it st p)(hi:i<p.size)(hj:j<p.size)(h:Q (some (decide (Rk rk p i<Rk rk p j))) st):wpS (model prog w) A E s (ltAt' i j) Q st:=by
 rw[ltAt'_eq];refine Gal (GcP ?_);have gi:p.toList[i]? =some (p.getD i 0):=by simp[Array.getD,hi]
 have gj:p.toList[j]? =some (p.getD j 0):=by simp[Array.getD,hj]
 exact Gal (bI S.rep gi (Gal (bI S.rep gj (wU hA S.kind (S.rep.lt gi) (S.rep.lt gj) h))))
theorem vo{i j:Nat}{Q:Unit→SortSt→Prop}(S:SS κ it st p)(h:∀z,SS κ it z (mirror p i j ((j -i)/2))→lQ st z→Q () z):wpS (model prog w) A E s (reverseSlice' i j) Q st:=by
 rw[reverseSlice'_eq];refine GbS (h _ (S.move (mirror_perm _ _ _ _) ?_) rfl);rw[S.arr];exact kas_swaps_map (kas_item it) (λk=>i+k) (λk=>j -1 -k) _ p
theorem Cc{lo a nrem:Nat}{Q:Kp→SortSt→Prop}(hA:iF prog w A s κ it rk)(S:SS κ it st p)(h1:1≤a)(ha:a≤nrem)(hz:lo+nrem≤p.size)(hu:Up' rk p lo (lo+a))
  (h:∀m,a≤m→m≤nrem→Up' rk p lo (lo+m)→(m=nrem∨Rk rk p (lo+m)<Rk rk p (lo+m -1))→Q (none,m) st):wpS (model prog w) A E s (FF lo a nrem) Q st:=by
 unfold FF;refine Gbf (I:=λx c z=>z=st∧c=(none,x)∧Up' rk p lo (lo+x)) ?step ?fin ⟨rfl,rfl,hu⟩
 case fin=>
  rintro c z ⟨rfl,rfl,q⟩;rw[show max a nrem=nrem by omega] at q⊢;exact h nrem ha (Gar _) q (.inl rfl)
 case step=>
  rintro x c z h2 h3 ⟨rfl,rfl,q⟩;dsimp only;refine Gal (wp_at hA S (by omega) (by omega) ?_);dsimp only;by_cases lt:Rk rk p (lo+x)<Rk rk p (lo+x -1)
  ·rw[GaN lt];simp only[Gbi];exact Gaq (h x h2 (by omega) q (.inr lt))
  ·rw[GaS lt];simp only[Gaw,GaR];refine Gaq ⟨rfl,rfl,λu v a1 a2 a3=> ?_⟩;by_cases hv:v<lo+x
   ·exact q u v a1 a2 hv
   ·have e:v=lo+x:=by omega
    subst e;by_cases hu:u=lo+x
    ·subst hu;exact GbZ _
    ·have:=q u (lo+x -1) a1 (by omega) (by omega);omega
theorem wX{lo n nrem:Nat}{Q:Option Nat→SortSt→Prop}(hA:iF prog w A s κ it rk)(S:SS κ it st p)(h1:1≤n)(hn:n≤nrem)(hz:lo+nrem≤p.size)(hd:Dn' rk p lo (lo+n))
  (h:∀m z p',SS κ it z p' →lQ st z→Ag lo (lo+nrem) p p' →1≤m→m≤nrem→Up' rk p' lo (lo+m)→Q (some m) z):wpS (model prog w) A E s (wW lo n nrem) Q st:=by
 unfold wW;refine Gal (vo S λz S' hp=> ?_);have ag:Ag lo (lo+n) p (mirror p lo (lo+n) ((lo+n -lo)/2)):=mI (by omega);refine Gal (Cc hA S' h1 hn (by rw[ag.size];exact hz) (λu v a1 a2 a3=> ?_) λm m1 m2 m3 _=> ?_)
 ·rw[pB (by omega),pB (by omega),Gai (by omega),Gai (by omega)];exact hd _ _ (by omega) (by omega) (by omega)
 ·exact Gaq (h m z _ S' hp (ag.mono (by omega)) (by omega) m2 m3)
theorem FG{lo n nrem:Nat}{Q:Kq→SortSt→Prop}(hA:iF prog w A s κ it rk)(S:SS κ it st p)(h1:1≤n)(hn:n≤nrem)(hz:lo+nrem≤p.size)(hd:Dn' rk p lo (lo+n))
  (h:∀m e z p',SS κ it z p' →lQ st z→Ag lo (lo+nrem) p p' →n≤m→m≤nrem→Dn' rk p' lo (lo+m)→e+1≤m→(∀u,lo+m -(e+1)≤u→u<lo+m→Rk rk p' u=Rk rk p' (lo+m -1))→Q (none,m,e) z):wpS (model prog w) A E s (Cb lo n nrem) Q st:=by
 unfold Cb;refine Gbf (I:=λx c z=>∃e p',c=(none,x,e)∧SS κ it z p' ∧lQ st z∧Ag lo (lo+nrem) p p' ∧Dn' rk p' lo (lo+x)∧e+1≤x∧(∀u,lo+x -(e+1)≤u→u<lo+x→Rk rk p' u=Rk rk p' (lo+x -1))) ?step ?fin
  ⟨0,p,rfl,S,rfl,.refl,hd,by omega,λu a1 a2=>by rw[show u=lo+n -1 by omega]⟩
 case fin=>
  rintro c z ⟨e,p',rfl,S',hp,ag,d,e1,e2⟩;rw[show max n nrem=nrem by omega] at d e1 e2⊢;exact h nrem e z p' S' hp ag hn (Gar _) d e1 e2
 case step=>
  rintro x c z h2 h3 ⟨e,p',rfl,S',hp,ag,d,e1,e2⟩;have sz:=ag.size;dsimp only;refine Gal (wp_at hA S' (by omega) (by omega) ?_);dsimp only;by_cases lt:Rk rk p' (lo+x)<Rk rk p' (lo+x -1)
  ·rw[GaN lt];simp only[Gbi];have dn:∀r:Array Nat,(∀k,Rk rk r k=Rk rk p' k)→Dn' rk r lo (lo+(x+1)):=λr hr u v a1 a2 a3=>by
    rw[hr,hr];by_cases hv:v<lo+x
    ·exact d u v a1 a2 hv
    ·have ev:v=lo+x:=by omega
     subst ev;by_cases hu:u=lo+x
     ·subst hu;exact GbZ _
     ·have:=d u (lo+x -1) a1 (by omega) (by omega);omega
   by_cases g:e>0
   ·rw[Gai g];refine Gal (vo S' λz' S2 hp2=>Gaq ⟨0,_,rfl,S2,hp2.trans hp,ag.trans ?_,dn _ λk=>gk (by omega) e2,by omega,λu a1 a2=>by rw[show u=lo+(x+1)-1 by omega]⟩);have am:Ag (lo+x -(e+1)) (lo+x) p' (mirror p' (lo+x -(e+1)) (lo+x) ((lo+x -(lo+x -(e+1)))/2)):=mI (by omega);exact⟨am.perm,λk hk=>am.out k (by omega)⟩
   ·rw[Gag g];exact Gaq ⟨0,p',rfl,S',hp,ag,dn p' λ_=>rfl,by omega,λu a1 a2=>by rw[show u=lo+(x+1)-1 by omega]⟩
  ·rw[GaS lt];simp only[Gaw,GaR];refine Gal (wp_at hA S' (by omega) (by omega) ?_);dsimp only;by_cases gt:Rk rk p' (lo+x -1)<Rk rk p' (lo+x)
   ·rw[GaN gt];simp only[Gbi];exact Gaq (h x e z p' S' hp ag h2 (by omega) d e1 e2)
   ·rw[GaS gt];simp only[Gaw,GaR];have eq:Rk rk p' (lo+x)=Rk rk p' (lo+x -1):=by omega
    refine Gaq ⟨e+1,p',rfl,S',hp,ag,λu v a1 a2 a3=> ?_,by omega,λu a1 a2=> ?_⟩
    ·by_cases hv:v<lo+x
     ·exact d u v a1 a2 hv
     ·have ev:v=lo+x:=by omega
      subst ev;by_cases hu:u=lo+x
      ·subst hu;exact GbZ _
      ·have:=d u (lo+x -1) a1 (by omega) (by omega);omega
    ·rw[show lo+(x+1)-1=lo+x by omega,eq];by_cases hu:u=lo+x
     ·subst hu;exact eq
     ·exact e2 u (by omega) (by omega)
theorem uo{lo n nrem:Nat}{Q:Option Nat→SortSt→Prop}(hA:iF prog w A s κ it rk)(S:SS κ it st p)(h1:1≤n)(hn:n+1≤nrem)(hz:lo+nrem≤p.size)(hd:Dn' rk p lo (lo+(n+1)))
  (h:∀m z p',SS κ it z p' →lQ st z→Ag lo (lo+nrem) p p' →1≤m→m≤nrem→Up' rk p' lo (lo+m)→Q (some m) z):wpS (model prog w) A E s (rO lo n nrem) Q st:=by
 unfold rO;refine Gal (wpS_lift (GbR ⟨rfl, ?_⟩));refine Gal (FG hA S (by omega) hn hz hd λm e z p' S' hp ag m1 m2 d e1 e2=> ?_);have sz:=ag.size;dsimp only;by_cases g:e>0
 ·rw[Gai g];refine Gal (vo S' λz2 S2 hp2=> ?_);have am:Ag (lo+m -(e+1)) (lo+m) p' (mirror p' (lo+m -(e+1)) (lo+m) ((lo+m -(lo+m -(e+1)))/2)):=mI (by omega);have am' :Ag lo (lo+nrem) p' (mirror p' (lo+m -(e+1)) (lo+m) ((lo+m -(lo+m -(e+1)))/2)):=⟨am.perm,λk hk=>am.out k (by omega)⟩
  refine wX hA S2 (by omega) m2 (by rw[am.size];omega) (λu v a1 a2 a3=> ?_) λm' z3 p3 S3 hp3 ag3=>h m' z3 p3 S3 ((hp3.trans hp2).trans hp) ((ag.trans am').trans ag3);rw[gk (by omega) e2,gk (by omega) e2];exact d u v a1 a2 a3
 ·rw[Gag g];exact wX hA S' (by omega) m2 (by omega) d λm' z3 p3 S3 hp3 ag3=>h m' z3 p3 S3 (hp3.trans hp) (ag.trans ag3)
theorem FH{lo nrem:Nat}{Q:Option Nat→SortSt→Prop}(hA:iF prog w A s κ it rk)(S:SS κ it st p)(h1:1≤nrem)(hz:lo+nrem≤p.size)
  (h:∀m z p',SS κ it z p' →lQ st z→Ag lo (lo+nrem) p p' →1≤m→m≤nrem→Up' rk p' lo (lo+m)→Q (some m) z):wpS (model prog w) A E s (countRun' lo nrem) Q st:=by
 rw[vn];unfold Kr;refine Gal (Cc hA S (Gar _) h1 hz (λu v a1 a2 a3=>by rw[show u=v by omega];exact GbZ _) λn n1 n2 up stop=> ?_);dsimp only;by_cases c1:(n==nrem)=true
 ·rw[Gai c1];exact Gaq (h n st p S rfl .refl n1 n2 up)
 rw[Gag c1];have c1' :n≠nrem:=by simpa using c1
 have lt:Rk rk p (lo+n)<Rk rk p (lo+n -1):=stop.resolve_left c1';by_cases c2:n>1
 ·rw[Gai c2];refine Gal (wp_at hA S (by omega) (by omega) ?_);dsimp only;by_cases ro:Rk rk p lo<Rk rk p (lo+n -1)
  ·rw[GaN ro];simp only[Gbi];exact Gaq (h n st p S rfl .refl n1 n2 up)
  ·rw[GaS ro];simp only[Gaw,GaR];have eq:∀u,lo≤u→u<lo+n→Rk rk p u=Rk rk p (lo+n -1):=λu a1 a2=>by
    have b1:=up lo u (Gar _) a1 a2;have b2:=up u (lo+n -1) a1 (by omega) (by omega);omega
   refine Gal (vo S λz S' hp=> ?_);have am:Ag lo (lo+n) p (mirror p lo (lo+n) ((lo+n -lo)/2)):=mI (by omega);refine uo hA S' n1 (by omega) (by rw[am.size];exact hz) (λu v a1 a2 a3=> ?_) λm' z3 p3 S3 hp3 ag3=>h m' z3 p3 S3 (hp3.trans hp) ((am.mono (by omega)).trans ag3);rw[gk (by omega) eq,gk (by omega) eq];by_cases hv:v<lo+n
   ·rw[eq u a1 (by omega),eq v (by omega) hv];exact GbZ _
   ·rw[show v=lo+n by omega];by_cases hu:u=lo+n
    ·subst hu;exact GbZ _
    ·rw[eq u a1 (by omega)];omega
 ·rw[Gag c2];have n1' :n=1:=by omega
  subst n1';refine uo hA S (Gar _) (by omega) hz (λu v a1 a2 a3=> ?_) h;by_cases e1:u=v
  ·subst e1;exact GbZ _
  ·rw[show v=lo+1 by omega,show u=lo+1 -1 by omega];omega
end
theorem uq{rk:Nat→Int}{src d k:Nat}{p:Array Nat}(h:src<p.size)(hd:d≤src):Rk rk (bubble p src d) k=if k=src -d then Rk rk p src else if src -d<k∧k≤src then Rk rk p (k -1) else Rk rk p k:=by
 unfold Rk;simp only[Gcp,getElem?_bubble h d hd];split
 ·rfl
 ·split<;>rfl
section
variable{prog:Program}{w:World}{A:Around}{E:Value→Shared→Prop}{s:Shared}{st:SortSt}{κ:SortKind}{it:Array Keyed}{rk:Nat→Int}{p:Array Nat}
theorem Ih{src dst:Nat}{Q:Unit→SortSt→Prop}(S:SS κ it st p)(h:∀z,SS κ it z (bubble p src (src -dst))→lQ st z→Q () z):wpS (model prog w) A E s (moveDown' src dst) Q st:=by
 rw[moveDown'_eq];refine GbS (h _ (S.move (bubble_perm _ _ _) ?_) rfl);rw[S.arr];exact kas_swaps_map (kas_item it) (λk=>src -k) (λk=>src -k -1) _ p
theorem Ks{lo n ok:Nat}{Q:Bool→SortSt→Prop}(hA:iF prog w A s κ it rk)(S:SS κ it st p)(hz:lo+n≤p.size)(h1:1≤ok)(hok:ok≤n)(hu:Up' rk p lo (lo+ok))
  (h:∀z p',SS κ it z p' →lQ st z→Ag lo (lo+n) p p' →Up' rk p' lo (lo+n)→Q true z):wpS (model prog w) A E s (binarySort' lo n ok) Q st:=by
 rw[binarySort'_eq];refine Gal (Gbu (Gbf (I:=λk c z=>∃p',c=(none,())∧SS κ it z p' ∧lQ st z∧Ag lo (lo+n) p p' ∧Up' rk p' lo (lo+k))
  (Q:=λc z=>∃p',c=(none,())∧SS κ it z p' ∧lQ st z∧Ag lo (lo+n) p p' ∧Up' rk p' lo (lo+n)) ?step ?fin ⟨p,rfl,S,rfl,.refl,by rw[show max ok 1=ok by omega];exact hu⟩) ?post)
 case post=>
  rintro c z ⟨p',rfl,S',hp,ag,up⟩;exact Gaq (h z p' S' hp ag up)
 case fin=>
  rintro c z ⟨p',rfl,S',hp,ag,up⟩;rw[show max (max ok 1) n=n by omega] at up;exact⟨p',rfl,S',hp,ag,up⟩
 case step=>
  rintro k c z k1 k2 ⟨p',rfl,S',hp,ag,up⟩;have sz:=ag.size;refine Gal (Gbu (Gbf (I:=λi c z' =>z' =z∧∃l r,c=(none,l,r)∧l≤r∧r≤k∧r -l≤k -i∧(∀u,u<l→Rk rk p' (lo+u)≤Rk rk p' (lo+k))∧(∀u,r≤u→u<k→Rk rk p' (lo+k)≤Rk rk p' (lo+u)))
   (Q:=λc z' =>z' =z∧∃l,c=(none,l,l)∧l≤k∧(∀u,u<l→Rk rk p' (lo+u)≤Rk rk p' (lo+k))∧(∀u,l≤u→u<k→Rk rk p' (lo+k)≤Rk rk p' (lo+u))) ?s1 ?f1 ⟨rfl,0,k,rfl,by omega,by omega,by omega,λu hu=>by omega,λu a1 a2=>by omega⟩) ?p1)
  case f1=>
   rintro c z' ⟨rfl,l,r,rfl,q1,q2,q3,q4,q5⟩;have:l=r:=by omega
   subst this;exact⟨rfl,l,rfl,q2,q4,q5⟩
  case s1=>
   rintro i c z' _ hi ⟨rfl,l,r,rfl,q1,q2,q3,q4,q5⟩;dsimp only;by_cases g:l≥r
   ·rw[Gai g];have:l=r:=by omega
    subst this;exact Gaq ⟨rfl,l,rfl,q2,q4,q5⟩
   rw[Gag g];refine Gal (wp_at hA S' (by omega) (by omega) ?_);by_cases lt:Rk rk p' (lo+k)<Rk rk p' (lo+(l+r)/2)
   ·rw[GaN lt];simp only[Gbi];refine Gaq ⟨rfl,l,(l+r)/2,rfl,by omega,by omega,by omega,q4,λu a1 a2=> ?_⟩;have:=up (lo+(l+r)/2) (lo+u) (by omega) (by omega) (by omega);omega
   ·rw[GaS lt];simp only[Gaw,GaR];refine Gaq ⟨rfl,(l+r)/2+1,r,rfl,by omega,by omega,by omega,λu a1=> ?_,q5⟩;have:=up (lo+u) (lo+(l+r)/2) (by omega) (by omega) (by omega);omega
  case p1=>
   rintro c z' ⟨rfl,l,rfl,l1,l2,l3⟩;refine Gal (Ih S' λz2 S2 hp2=>Gaq ⟨_,rfl,S2,hp2.trans hp,ag.trans ⟨bubble_perm _ _ _,λj hj=> ?_⟩,λu v a1 a2 a3=> ?_⟩)
   ·rw[getElem?_bubble (by omega) _ (by omega),Gag (by omega),Gag (by omega)]
   ·rw[uq (by omega) (by omega),uq (by omega) (by omega)];have e:lo+k -(lo+k -(lo+l))=lo+l:=by omega
    rw[e];by_cases u1:u=lo+l
    ·rw[Gai u1];by_cases v1:v=lo+l
     ·rw[Gai v1];exact GbZ _
     ·rw[Gag v1,Gai (by omega)];have:=l3 (v -1 -lo) (by omega) (by omega);rw[show lo+(v -1 -lo)=v -1 by omega] at this;exact this
    ·rw[Gag u1];by_cases u2:lo+l<u∧u≤lo+k
     ·rw[Gai u2,Gag (by omega),Gai (by omega)];exact up _ _ (by omega) (by omega) (by omega)
     ·rw[Gag u2];have hu' :u<lo+l:=by omega
      by_cases v1:v=lo+l
      ·rw[Gai v1];have:=l2 (u -lo) (by omega);rw[show lo+(u -lo)=u by omega] at this;exact this
      ·rw[Gag v1];by_cases v2:lo+l<v∧v≤lo+k
       ·rw[Gai v2];exact up _ _ (by omega) (by omega) (by omega)
       ·rw[Gag v2];exact up _ _ a1 a2 (by omega)
end
theorem Kt{rk:Nat→Int}{p:Array Nat}{k x:Nat}(h:p.toList[k]? =some x):Rk rk p k=rk x:=by
 unfold Rk;have h' :p[k]? =some x:=by simpa using h
 simp[Gcp,h']
theorem vp{rk:Nat→Int}{p:Array Nat}{lo n:Nat}(hz:lo+n≤p.size):Up' rk p lo (lo+n)↔Srt rk ((p.toList.drop lo).take n):=by
 have len:((p.toList.drop lo).take n).length=n:=by simp;omega
 have at_:∀u,u<n→∃x,((p.toList.drop lo).take n)[u]? =some x∧Rk rk p (lo+u)=rk x:=λu hu=>by
  have h1:u<((p.toList.drop lo).take n).length:=by rw[len];exact hu
  refine⟨((p.toList.drop lo).take n)[u],Gab h1, ?_⟩;have:=Gab h1;rw[GaZ hu,Gbh] at this;exact Kt this
 constructor
 ·intro h;unfold Srt;rw[Gcx];intro i j hi hj hij;rw[len] at hi hj;obtain⟨x,e1,e2⟩:=at_ i hi;obtain⟨y,e3,e4⟩:=at_ j hj;obtain⟨_,e5⟩:=Gae.mp e1;obtain⟨_,e6⟩:=Gae.mp e3;rw[e5,e6,←e2,←e4];exact h _ _ (by omega) (by omega) (by omega)
 ·intro h u v a1 a2 a3;obtain⟨x,e1,e2⟩:=at_ (u -lo) (by omega);obtain⟨y,e3,e4⟩:=at_ (v -lo) (by omega);rw[show lo+(u -lo)=u by omega] at e2;rw[show lo+(v -lo)=v by omega] at e4;rw[e2,e4];exact qS h (by omega) e1 e3
theorem wY{α:Type}(c:Nat):∀(m:List α) (n:Nat) (a:Array α),c+n+m.length≤a.size→((m.zipIdx n).foldl (λa (x:α×Nat)=>a.setIfInBounds (c+x.2) x.1) a).toList=a.toList.take (c+n)++m++a.toList.drop (c+n+m.length)
 |[],n,a,_=>by simp
 |x::m,n,a,h=>by
  rw[List.zipIdx_cons,GbN];simp only[GaC] at h;rw[wY c m (n+1) _ (by rw[Array.size_setIfInBounds];omega),Array.toList_setIfInBounds];have hc:c+n<a.toList.length:=by simp;omega
  have e1:(a.toList.set (c+n) x).take (c+(n+1))=a.toList.take (c+n)++[x]:=by
   rw[show c+(n+1)=c+n+1 by omega,List.take_succ,List.take_set_of_le (Gar _),GaQ hc]
   rfl
  have e2:(a.toList.set (c+n) x).drop (c+(n+1)+m.length)=a.toList.drop (c+n+(x::m).length):=by
   rw[List.drop_set_of_lt (by omega)];congr 1;simp only[GaC];omega
  rw[e1,e2];simp
theorem Ij{M:Model}{A:Around}{E:Value→Shared→Prop}{s:Shared}{σ:Type}{x st:σ}{Q:PUnit→σ→Prop}(h:Q ⟨⟩ x):wpS M A E s (set x:StateT σ Sem PUnit) Q st:=by
 unfold wpS;rw[StateT.run_set];exact Gad ⟨rfl,h⟩
theorem Ik(i:Nat):mergeAt' i=(do
 let z←get
 let(some (sa,na,w0),some (sb,nb,_)):=((pendingOf z)[i]?,(pendingOf z)[i+1]?)|unsupported "internal:list.sort.pending"
 set (setPending z (((pendingOf z).setIfInBounds i (sa,na+nb,w0)).eraseIdxIfInBounds (i+1)))
 let some k←kZ false (←elem' (arrOf z) sb) (arrOf z) sa na 0|return false
 let(sc,nc):=(sa+k,na -k)
 if nc==0 then return true
 let some nd←kZ true (←elem' (arrOf z) (sc+nc -1)) (arrOf z) sb nb (nb -1)|return false
 if nd==0 then return true
 let x:=(arrOf z).extract sc sb
 let y:=(arrOf z).extract sb (sb+nd)
 let mm←if nc≤nd then Kj x y else Kn x y
 modify λz=>setArr z (mm.toList.zipIdx.foldl (λa (q,j)=>a.setIfInBounds (sc+j) q) (arrOf z))
 return(failedOf (←get)).isNone):=rfl
section
variable{prog:Program}{w:World}{A:Around}{E:Value→Shared→Prop}{s:Shared}{st:SortSt}{κ:SortKind}{it:Array Keyed}{rk:Nat→Int}{p:Array Nat}
theorem Il{l:List Nat}{a b:Nat}(h:a≤b):l=l.take a++(l.drop a).take (b -a)++l.drop b:=by
 rw[GaB,←FC h,Gbc]
theorem Bc{i sa na sb nb w0 w1:Nat}{Q:Bool→SortSt→Prop}(hA:iF prog w A s κ it rk)(S:SS κ it st p)(e1:(pendingOf st)[i]? =some (sa,na,w0))(e2:(pendingOf st)[i+1]? =some (sb,nb,w1))(hb:sb=sa+na)(ha0:0<na)(hb0:0<nb)(hz:sb+nb≤p.size)
  (ua:Up' rk p sa sb)(ub:Up' rk p sb (sb+nb))
  (h:∀z p',SS κ it z p' →pendingOf z=((pendingOf st).setIfInBounds i (sa,na+nb,w0)).eraseIdxIfInBounds (i+1)→Ag sa (sb+nb) p p' →Up' rk p' sa (sb+nb)→Q true z):wpS (model prog w) A E s (mergeAt' i) Q st:=by
 rw[Ik];refine Gal (GcP ?_);rw[e1,e2];refine Gal (Ij ?_);generalize hz1:setPending st (((pendingOf st).setIfInBounds i (sa,na+nb,w0)).eraseIdxIfInBounds (i+1))=z1;have S1:SS κ it z1 p:=by rw[←hz1];exact⟨S.kind,S.arr,S.fail,S.ok⟩
 have pe:pendingOf z1=((pendingOf st).setIfInBounds i (sa,na+nb,w0)).eraseIdxIfInBounds (i+1):=by rw[←hz1]
 have R:=S.rep;have szl:p.toList.length=p.size:=by simp
 subst hb;have sA:Srt rk ((p.toList.drop sa).take na):=(vp (by omega)).mp ua;have sB:Srt rk ((p.toList.drop (sa+na)).take nb):=(vp (by omega)).mp ub;have whole:∀l:List Nat,(p.toList.drop sa).take (na+nb)=l→Srt rk l→Up' rk p sa (sa+na+nb):=λl hl hs=>by
  rw[GdO];exact(vp (by omega)).mpr (by rw[hl];exact hs)
 have split:(p.toList.drop sa).take (na+nb)=(p.toList.drop sa).take na++(p.toList.drop (sa+na)).take nb:=by
  rw[List.take_add,GbX]
 obtain⟨y0,ey0⟩:∃x,p.toList[sa+na]? =some x:=⟨_,Gab (by omega)⟩
 refine Gal (bI R ey0 ?_);refine Gal (pA hA S1.kind R (R.lt ey0) (by omega) sA ha0 λk k1 t1 t2=> ?_);simp only[Gaw,GaR] at t1 t2;dsimp only;have hB0:((p.toList.drop (sa+na)).take nb)[0]? =some y0:=by
  rw[GaZ hb0,Gbh];exact ey0
 have leB:∀y∈(p.toList.drop (sa+na)).take nb,rk y0≤rk y:=λy hy=>mG sB hB0 (by rw[GbL];exact hy);by_cases c1:(na -k==0)=true
 ·rw[Gai c1];have:na -k=0:=by simpa using c1
  have kk:k=na:=by omega
  subst kk;refine Gaq (h z1 p S1 pe .refl (whole _ split (dH sA sB λx hx y hy=> ?_)));have q1:=t1 x (by rw[GcA,GdT];exact hx);have q2:=leB y hy;omega
 rw[Gag c1];have c1' :na -k≠0:=by simpa using c1
 obtain⟨x1,ex1⟩:∃x,p.toList[sa+k+(na -k)-1]? =some x:=⟨_,Gab (by omega)⟩
 refine Gal (bI R ex1 ?_);refine Gal (pA hA S1.kind R (R.lt ex1) (by omega) sB (by omega) λnd d1 t3 t4=> ?_);simp only[Gbi] at t3 t4;dsimp only;have hAl:((p.toList.drop sa).take na)[na -1]? =some x1:=by
  rw[GaZ (by omega),Gbh,show sa+(na -1)=sa+k+(na -k)-1 by omega];exact ex1
 have leA:∀x∈(p.toList.drop sa).take na,rk x≤rk x1:=λx hx=>by
  refine mH (n:=na) sA hAl ?_;rw[GcA,GdT];exact hx
 by_cases c2:(nd==0)=true
 ·rw[Gai c2];have nd0:nd=0:=by simpa using c2
  subst nd0;refine Gaq (h z1 p S1 pe .refl (whole _ split (dH sA sB λx hx y hy=> ?_)));have q1:=leA x hx;have q2:=t4 y (by rw[GbL];exact hy);omega
 rw[Gag c2];have c2' :nd≠0:=by simpa using c2
 have Rx:bh it ((arrOf st).extract (sa+k) (sa+na)) ((p.toList.drop (sa+k)).take (na -k)):=by
  have:=R.extract (sa+k) (sa+na);rw[show sa+na -(sa+k)=na -k by omega] at this;exact this
 have Ry:bh it ((arrOf st).extract (sa+na) (sa+na+nd)) ((p.toList.drop (sa+na)).take nd):=by
  have:=R.extract (sa+na) (sa+na+nd);rw[show sa+na+nd -(sa+na)=nd by omega] at this;exact this
 have ePx:(p.toList.drop (sa+k)).take (na -k)=((p.toList.drop sa).take na).drop k:=by rw[GcQ,GbX]
 have ePy:(p.toList.drop (sa+na)).take nd=((p.toList.drop (sa+na)).take nb).take nd:=by rw[GcA,GcL d1]
 have sx:Srt rk ((p.toList.drop (sa+k)).take (na -k)):=by rw[ePx];exact fB sA k
 have sy:Srt rk ((p.toList.drop (sa+na)).take nd):=by rw[ePy];exact gh sB nd
 have lx:((p.toList.drop (sa+k)).take (na -k)).length=na -k:=by simp;omega
 have ly:((p.toList.drop (sa+na)).take nd).length=nd:=by simp;omega
 have f0:∀x,((p.toList.drop (sa+na)).take nd)[0]? =some x→∀y∈(p.toList.drop (sa+k)).take (na -k),rk x≤rk y:=λx hx y hy=>by
  rw[GaZ (by omega),Gbh] at hx;have:p.toList[sa+na]? =some x:=hx;rw[ey0] at this;cases this
  rw[ePx] at hy;have:=t2 y hy;omega
 have fl:∀x,((p.toList.drop (sa+k)).take (na -k))[((p.toList.drop (sa+k)).take (na -k)).length -1]? =some x→∀y∈(p.toList.drop (sa+na)).take nd,rk y≤rk x:=λx hx y hy=>by
  rw[lx,GaZ (by omega),Gbh,show sa+k+(na -k -1)=sa+k+(na -k)-1 by omega,ex1] at hx;cases hx;rw[ePy] at hy;have:=t3 y hy;omega
 have fin:∀mm z,bH z1 z→dB it rk ((p.toList.drop (sa+k)).take (na -k)) ((p.toList.drop (sa+na)).take nd) mm→
   wpS (model prog w) A E s (do
    modify λz=>setArr z (mm.toList.zipIdx.foldl (λa (x:Keyed×Nat)=>a.setIfInBounds (sa+k+x.2) x.1) (arrOf z))
    let z' ←get
    pure (failedOf z').isNone) Q z:=by
  rintro mm z sg ⟨m,Rm,pm,sm⟩;have lm:m.length=na -k+nd:=by have:=pm.length_eq;rw[GaA,lx,ly] at this;exact this
  refine Gal (GbS (Gal (GcP (Gaq ?_))));have ea:arrOf z=arrOf st:=sg.2.1.trans (by rw[S1.arr,S.arr]);have hmm:mm.toList=m.map (kas_item it):=by rw[Rm.1]
  have hw:((mm.toList.zipIdx.foldl (λa (x:Keyed×Nat)=>a.setIfInBounds (sa+k+x.2) x.1) (arrOf z))).toList=(p.toList.take (sa+k)++m++p.toList.drop (sa+na+nd)).map (kas_item it):=by
   rw[hmm,ea];have:=wY (sa+k) (m.map (kas_item it)) 0 (arrOf st) (by rw[Gaf,lm,R.size,szl];omega);rw[this,R.1];simp only[GaP,List.map_take,GdN,Gaf,lm,Nat.add_zero];rw[show sa+k+(na -k+nd)=sa+na+nd by omega]
  have fz:failedOf (setArr z (mm.toList.zipIdx.foldl (λa (x:Keyed×Nat)=>a.setIfInBounds (sa+k+x.2) x.1) (arrOf z)))=none:=sg.2.2.2.trans S1.fail;have pieces:p.toList=p.toList.take (sa+k)++((p.toList.drop (sa+k)).take (na -k)++(p.toList.drop (sa+na)).take nd)++p.toList.drop (sa+na+nd):=by
   conv=>lhs;rw[Il (l:=p.toList) (show sa+k≤sa+na+nd by omega)]
   congr 2;rw[show sa+na+nd -(sa+k)=(na -k)+nd by omega,List.take_add,GbX,show sa+k+(na -k)=sa+na by omega]
  generalize hl' :p.toList.take (sa+k)++m++p.toList.drop (sa+na+nd)=l' at hw;have pl:l'.Perm p.toList:=by
   rw[←hl']
   conv=>rhs;rw[pieces]
   exact Gbq _ (GbY _ pm)
  have S2:SS κ it (setArr z (mm.toList.zipIdx.foldl (λa (x:Keyed×Nat)=>a.setIfInBounds (sa+k+x.2) x.1) (arrOf z))) l'.toArray:=by
   refine⟨sg.1.trans S1.kind, ?_,fz,λj hj=>S.ok j (pl.mem_iff.mp hj)⟩;apply GcB.mp;show(mm.toList.zipIdx.foldl (λa (x:Keyed×Nat)=>a.setIfInBounds (sa+k+x.2) x.1) (arrOf z)).toList=_;rw[hw];simp
  have lt1:(p.toList.take (sa+k)).length=sa+k:=by simp;omega
  have ag:Ag sa (sa+na+nb) p l'.toArray:=by
   refine⟨⟨pl⟩,λj hj=> ?_⟩;show l'.toArray[j]? =p[j]?;have g1:l'.toArray[j]? =l'[j]? :=by simp
   have g2:p[j]? =p.toList[j]? :=by simp
   rw[g1,g2,←hl'];rcases hj with hj|hj
   ·rw[GaB,GaX (by rw[lt1];omega),GaZ (by omega)]
   ·rw[GaM (by rw[GaA,lt1,lm];omega),GaA,lt1,lm,Gbh];congr 1;omega
  have nn:failedOf (setArr z (mm.toList.zipIdx.foldl (λa (x:Keyed×Nat)=>a.setIfInBounds (sa+k+x.2) x.1) (arrOf z)))=none:=fz;have goal:=h _ l'.toArray S2 (sg.2.2.1.trans pe) ag ?_
  ·rw[nn];exact goal
  ·rw[GdO];refine(vp (by rw[Gan,pl.length_eq,szl];omega)).mpr ?_;have seg:(l'.drop sa).take (na+nb)=((p.toList.drop sa).take na).take k++m++((p.toList.drop (sa+na)).take nb).drop nd:=by
    rw[←hl',GaB,List.drop_append_of_le_length (by rw[lt1];omega)];have q1:(p.toList.take (sa+k)).drop sa=((p.toList.drop sa).take na).take k:=by rw[GcQ,GcA,show sa+k -sa=k by omega,GcL k1]
    rw[q1];have lk:(((p.toList.drop sa).take na).take k).length=k:=by simp;omega
    rw[←GaB,List.take_append,GaA,lk,lm,Gbz (by rw[GaA,lk,lm];omega)];congr 1;rw[GcQ,GbX];congr 1;omega
   show Srt rk ((l'.toArray.toList.drop sa).take (na+nb));show Srt rk ((l'.drop sa).take (na+nb));rw[seg];refine dH (dH (gh sA k) sm λx hx y hy=> ?_) (fB sB nd) λx hx y hy=> ?_
   ·rcases Gax.mp (pm.mem_iff.mp hy) with hy|hy
    ·rw[ePx] at hy;exact qT sA k x hx y hy
    ·rw[ePy] at hy;have b1:=t1 x hx;have b2:=leB y (Gbp hy);omega
   ·rcases Gax.mp hx with hx|hx
    ·have b1:=leA x (Gbp hx);have b2:=t4 y hy;omega
    ·rcases Gax.mp (pm.mem_iff.mp hx) with hx|hx
     ·rw[ePx] at hx;have b1:=leA x (Gbv hx);have b2:=t4 y hy;omega
     ·rw[ePy] at hx;exact qT sB nd x hx y hy
 by_cases c3:na -k≤nd
 ·rw[Gai c3];exact Gal (MV hA S1.kind Rx Ry sx sy (by omega) (by omega) f0 fl fin)
 ·rw[Gag c3];exact Gal (N0 hA S1.kind Rx Ry sx sy (by omega) (by omega) f0 fl fin)
end
noncomputable abbrev Run:=Nat×Nat×Nat
def chain:Nat→List Run→Nat→Prop
 |a,[],b=>a=b
 |a,r::t,b=>r.1=a∧0<r.2.1∧chain (a+r.2.1) t b
theorem om:∀{l:List Run} {a b:Nat},chain a l b→a+l.length≤b
 |[],a,b,h=>by have:a=b:=h;simp;omega
 |r::t,a,b,h=>by
  have:=om h.2.2;have:=h.2.1;simp only[GaC];omega
theorem pC:∀{l:List Run} {a b:Nat} {r:Run},chain a l b→r∈l→a≤r.1∧r.1+r.2.1≤b∧0<r.2.1
 |q::t,a,b,r,h,hr=>by
  rcases Gay.mp hr with e|e
  ·subst e;have:=om h.2.2;have:=h.1;exact⟨by omega,by omega,h.2.1⟩
  ·have:=pC h.2.2 e;exact⟨by omega,this.2.1,this.2.2⟩
theorem rP:∀{l:List Run} {a b:Nat} {n w0:Nat},chain a l b→0<n→chain a (l++[(b,n,w0)]) (b+n)
 |[],a,b,n,w0,h,hn=>by have:a=b:=h;subst this;exact⟨rfl,hn,rfl⟩
 |r::t,a,b,n,w0,h,hn=> ⟨h.1,h.2.1,rP h.2.2 hn⟩
theorem oq{f:Run→Run}(hf:∀r,(f r).1=r.1∧(f r).2.1=r.2.1):∀{l:List Run} {a b:Nat} (i:Nat),chain a l b→chain a (l.modify i f) b
 |[],a,b,i,h=>by simpa using h
 |r::t,a,b,0,h=>by
  rw[List.modify_zero_cons];exact⟨(hf r).1.trans h.1,by rw[(hf r).2];exact h.2.1,by rw[(hf r).2];exact h.2.2⟩
 |r::t,a,b,i+1,h=>by
  rw[List.modify_succ_cons];exact⟨h.1,h.2.1,oq hf i h.2.2⟩
theorem mem_modify{f:Run→Run}(hf:∀r,(f r).1=r.1∧(f r).2.1=r.2.1):∀{l:List Run} {i:Nat} {r:Run},r∈l.modify i f→∃r' ∈l,r'.1=r.1∧r'.2.1=r.2.1
 |[],i,r,h=>by simp at h
 |q::t,0,r,h=>by
  rw[List.modify_zero_cons] at h;rcases Gay.mp h with e|e
  ·subst e;exact⟨q,Gao,(hf q).1.symm,(hf q).2.symm⟩
  ·exact⟨r,Gaj _ e,rfl,rfl⟩
 |q::t,i+1,r,h=>by
  rw[List.modify_succ_cons] at h;rcases Gay.mp h with e|e
  ·subst e;exact⟨r,Gao,rfl,rfl⟩
  ·obtain⟨r',h1,h2⟩:=mem_modify hf e;exact⟨r',Gaj _ h1,h2⟩
theorem pX:∀{l:List Run} {a b:Nat} {i sa na w0 sb nb w1:Nat},chain a l b→l[i]? =some (sa,na,w0)→l[i+1]? =some (sb,nb,w1)→
  sb=sa+na∧0<na∧0<nb∧a≤sa∧sb+nb≤b∧chain a ((l.set i (sa,na+nb,w0)).eraseIdx (i+1)) b∧∀r∈(l.set i (sa,na+nb,w0)).eraseIdx (i+1),r=(sa,na+nb,w0)∨(r∈l∧(r.1+r.2.1≤sa∨sb+nb≤r.1))
 |r::r2::t,a,b,0,sa,na,w0,sb,nb,w1,h,e1,e2=>by
  simp at e1 e2;subst e1 e2;obtain⟨h1,h2,h3,h4,h5⟩:=h;have h1' :sa=a:=h1;have h3' :sb=a+na:=h3;have h2' :0<na:=h2;have h4' :0<nb:=h4;have le:=om h5;refine⟨by omega,h2',h4',by omega, ?_, ?_,λq hq=> ?_⟩
  ·have:a+na+nb≤b:=by
    have:a+(sa,na,w0).2.1+(sb,nb,w1).2.1+t.length≤b:=le;have:a+na+nb+t.length≤b:=this;omega
   omega
  ·show chain a ((sa,na+nb,w0)::t) b;refine⟨h1,by show 0<na+nb;omega, ?_⟩;show chain (a+(na+nb)) t b;rw[←GdO];exact h5
  ·have hq' :q=(sa,na+nb,w0)∨q∈t:=by simpa using hq
   rcases hq' with e|e
   ·exact .inl e
   ·refine .inr ⟨Gaj _ (Gaj _ e),.inr ?_⟩;have:=(pC h5 e).1;have:a+na+nb≤q.1:=this;omega
 |r::t,a,b,i+1,sa,na,w0,sb,nb,w1,h,e1,e2=>by
  rw[Gdj] at e1 e2;obtain⟨g1,g2,g3,g4,g5,g6,g7⟩:=pX h.2.2 e1 e2;have:=h.2.1;refine⟨g1,g2,g3,by omega,g5,⟨h.1,h.2.1, ?_⟩,λq hq=> ?_⟩
  ·exact g6
  ·have hq' :q=r∨q∈(t.set i (sa,na+nb,w0)).eraseIdx (i+1):=by simpa using hq
   rcases hq' with e|e
   ·subst e;refine .inr ⟨Gao,.inl ?_⟩;have:=h.1;omega
   ·rcases g7 q e with z| ⟨z1,z2⟩
    ·exact .inl z
    ·exact .inr ⟨Gaj _ z1,z2⟩
section
variable{prog:Program}{w:World}{A:Around}{E:Value→Shared→Prop}{s:Shared}{st:SortSt}{κ:SortKind}{it:Array Keyed}{rk:Nat→Int}{p0 p:Array Nat}
structure Pd(κ:SortKind)(it:Array Keyed)(rk:Nat→Int)(p0:Array Nat)(lo:Nat)(z:SortSt)(p:Array Nat):Prop where
 ss:SS κ it z p
 perm:p.Perm p0
 ch:chain 0 (pendingOf z).toList lo
 up:∀r∈(pendingOf z).toList,Up' rk p r.1 (r.1+r.2.1)
 le:lo≤p0.size
theorem Pd.size{lo:Nat}{z:SortSt}(P:Pd κ it rk p0 lo z p):p.size=p0.size:=by
 have:=P.perm.toList.length_eq
 simpa using this
theorem rQ{lo i:Nat}{Q:Bool→SortSt→Prop}(hA:iF prog w A s κ it rk)(P:Pd κ it rk p0 lo st p)(hi:i+1<(pendingOf st).size)
  (h:∀z p',Pd κ it rk p0 lo z p' →Ag 0 lo p p' →(pendingOf z).size+1=(pendingOf st).size→Q true z):wpS (model prog w) A E s (mergeAt' i) Q st:=by
 obtain⟨⟨sa,na,w0⟩,e1⟩:∃x,(pendingOf st)[i]? =some x:=⟨_,Gbg (by omega)⟩
 obtain⟨⟨sb,nb,w1⟩,e2⟩:∃x,(pendingOf st)[i+1]? =some x:=⟨_,Gbg hi⟩
 have e1' :(pendingOf st).toList[i]? =some (sa,na,w0):=by simpa using e1
 have e2' :(pendingOf st).toList[i+1]? =some (sb,nb,w1):=by simpa using e2
 obtain⟨g1,g2,g3,g4,g5,g6,g7⟩:=pX P.ch e1' e2';have le:=P.le;have sz:=P.size;have u1:=P.up _ (GaK e1');have u2:=P.up _ (GaK e2');refine Bc hA P.ss e1 e2 g1 g2 g3 (by omega) (by rw[g1];exact u1) u2 λz p' S' pe ag up' => ?_;have tl:(pendingOf z).toList=((pendingOf st).toList.set i (sa,na+nb,w0)).eraseIdx (i+1):=by
  rw[pe];simp[Array.toList_eraseIdxIfInBounds,Array.toList_setIfInBounds]
 have aL:Ag 0 lo p p' :=⟨ag.perm,λk hk=>ag.out k (by omega)⟩
 refine h z p' ⟨S',ag.perm.trans P.perm,by rw[tl];exact g6,λr hr=> ?_,P.le⟩ aL ?_
 ·rw[tl] at hr;rcases g7 r hr with e| ⟨hr1,hr2⟩
  ·subst e;show Up' rk p' sa (sa+(na+nb));rw[←GdO,←g1];exact up'
  ·intro u v a1 a2 a3;rw[ag.rk (by omega),ag.rk (by omega)];exact P.up r hr1 u v a1 a2 a3
 ·have l1:(pendingOf z).size=(pendingOf z).toList.length:=by simp
  have l2:(pendingOf st).size=(pendingOf st).toList.length:=by simp
  rw[l1,l2,tl,List.length_eraseIdx_of_lt (by rw[GcW,←l2];exact hi),GcW];omega
end
section
variable{prog:Program}{w:World}{A:Around}{E:Value→Shared→Prop}{s:Shared}{st:SortSt}{κ:SortKind}{it:Array Keyed}{rk:Nat→Int}{p0 p:Array Nat}
theorem Pd.push{lo n:Nat}{z:SortSt}(P:Pd κ it rk p0 lo z p)(hn:0<n)(hz:lo+n≤p0.size)(hu:Up' rk p lo (lo+n)):Pd κ it rk p0 (lo+n) (setPending z ((pendingOf z).push (lo,n,0))) p:=by
 refine⟨⟨P.ss.kind,P.ss.arr,P.ss.fail,P.ss.ok⟩,P.perm, ?_,λr hr=> ?_,hz⟩
 ·show chain 0 ((pendingOf z).push (lo,n,0)).toList (lo+n);rw[GdR];exact rP P.ch hn
 ·have hr' :r∈((pendingOf z).push (lo,n,0)).toList:=hr;rw[GdR] at hr';rcases Gax.mp hr' with e|e
  ·exact P.up r e
  ·simp at e;subst e;exact hu
theorem Pd.modify{lo i:Nat}{z:SortSt}{f:Run→Run}(P:Pd κ it rk p0 lo z p)(hf:∀r,(f r).1=r.1∧(f r).2.1=r.2.1):Pd κ it rk p0 lo (setPending z ((pendingOf z).modify i f)) p:=by
 refine⟨⟨P.ss.kind,P.ss.arr,P.ss.fail,P.ss.ok⟩,P.perm, ?_,λr hr=> ?_,P.le⟩
 ·show chain 0 ((pendingOf z).modify i f).toList lo;rw[Array.toList_modify];exact oq hf i P.ch
 ·have hr' :r∈((pendingOf z).modify i f).toList:=hr;rw[Array.toList_modify] at hr';obtain⟨r',h1,h2,h3⟩:=mem_modify hf hr';rw[←h2,←h3];exact P.up r' h1
theorem Im{Q:Unit→SortSt→Prop}(hA:iF prog w A s κ it rk)(S:SS κ it st p0)(hp:pendingOf st=#[])(h1:1≤p0.size)
  (h:∀z p,SS κ it z p→p.Perm p0→Up' rk p 0 p0.size→Q () z):wpS (model prog w) A E s sortRuns' Q st:=by
 rw[sortRuns'_eq];refine Gal (GcP ?_);dsimp only;have sz:(arrOf st).size=p0.size:=by rw[S.arr];simp
 rw[sz];generalize minRun' p0.size p0.size 0=mr;have P0:Pd κ it rk p0 0 st p0:=⟨S,Array.Perm.refl _,by rw[hp];rfl,λr hr=>(by rw[hp] at hr;cases hr),by omega⟩
 refine Gal (Gbu (Gbf (I:=λx c z=>∃lo p,c=(none,lo)∧Pd κ it rk p0 lo z p∧(x≤lo))
  (Q:=λc z=>∃p,c=(none,p0.size)∧Pd κ it rk p0 p0.size z p) ?step ?fin ⟨0,p0,rfl,P0,Gar _⟩) ?post)
 case fin=>
  rintro c z ⟨lo,p,rfl,P,hx⟩;have:=P.le;have e:lo=p0.size:=by
   have:max 0 p0.size=p0.size:=by omega
   omega
  subst e;exact⟨p,rfl,P⟩
 case step=>
  rintro x c z _ hx ⟨lo,p,rfl,P,hlo⟩;have le:=P.le;have szp:=P.size;by_cases c1:lo≥p0.size
  ·rw[Gai c1];have e:lo=p0.size:=by omega
   subst e;exact Gaq ⟨p,rfl,P⟩
  rw[Gag c1];refine Gal (FH hA P.ss (by omega) (by omega) λm z1 p1 S1 hp1 ag1 m1 m2 up1=> ?_);dsimp only;have carry:∀{n:Nat} {z2:SortSt} {p2:Array Nat},SS κ it z2 p2→lQ z z2→Ag lo (lo+n) p p2→lo+n≤p0.size→Pd κ it rk p0 lo z2 p2:=λ{n z2 p2} S2 hp2 ag2 hn=>by
   have hp2' :pendingOf z2=pendingOf z:=hp2;refine⟨S2,ag2.perm.trans P.perm,by rw[hp2'];exact P.ch,λr hr=> ?_,le⟩;rw[hp2'] at hr;have:=(pC P.ch hr).2.1;intro u v a1 a2 a3;rw[ag2.rk (by omega),ag2.rk (by omega)];exact P.up r hr u v a1 a2 a3
  by_cases c2:m<mr
  ·rw[Gai c2];refine Gal (wpS_lift (GbR ⟨rfl, ?_⟩));have sz1:=ag1.size;refine Gal (Ks hA S1 (by omega) m1 (by omega) up1 λz2 p2 S2 hp2 ag2 up2=> ?_);simp only[Gdw,Gaw,GaR];obtain⟨n,hnn⟩:∃n,n=min (p0.size -lo) mr:=⟨_,rfl⟩
   have P2:Pd κ it rk p0 lo z2 p2:=carry S2 (hp2.trans hp1) (ag1.trans (ag2.mono (by omega))|>.mono (hi' :=lo+(p0.size -lo)) (by omega)) (by omega);rw[←hnn] at up2⊢;have n0:0<n:=by omega
   have hn:lo+n≤p0.size:=by omega
   refine Gal (GcP ?_);cases hb:(pendingOf z2).back? with
   |none=>
    exact Gal (GbS (Gaq ⟨lo+n,p2,rfl,P2.push n0 hn up2,by omega⟩))
   |some r=>
    obtain⟨s1,n1,w1⟩:=r;refine Gal (Gbu (Gbf (I:=λ_ c y=>c=(none,⟨⟩)∧∃p3,Pd κ it rk p0 lo y p3∧Up' rk p3 lo (lo+n)) (Q:=λc y=>c=(none,⟨⟩)∧∃p3,Pd κ it rk p0 lo y p3∧Up' rk p3 lo (lo+n)) ?s1 (λ_ _ z=>z) ⟨rfl,p2,P2,up2⟩) ?p1)
    case p1=>
     rintro c y ⟨rfl,p3,P3,up3⟩;refine Gal (GbS (Gal (GbS (Gaq ⟨lo+n,p3,rfl, ?_,by omega⟩))));exact(P3.modify (f:=λx=>(x.1,x.2.1,power' p0.size (2*s1+n1) (2*s1+n1+n1+n) p0.size)) (λr=> ⟨rfl,rfl⟩)).push n0 hn up3
    case s1=>
     rintro i c y _ _ ⟨rfl,p3,P3,up3⟩;refine Gal (GcP ?_);by_cases g:(pendingOf y).size>1
     ·rw[Gai g];obtain⟨⟨t1,t2,t3⟩,ht⟩:∃x,(pendingOf y)[(pendingOf y).size -2]? =some x:=⟨_,Gbg (by omega)⟩
      rw[ht];dsimp only;split
      ·exact Gaq ⟨rfl,p3,P3,up3⟩
      ·refine Gal (rQ hA P3 (by omega) λy2 p4 P4 ag4 _=> ?_);simp only[Gdw,Gaw,GaR];refine Gaq ⟨rfl,p4,P4,λu v a1 a2 a3=> ?_⟩;rw[ag4.rk (by omega),ag4.rk (by omega)];exact up3 u v a1 a2 a3
     ·rw[Gag g];exact Gaq ⟨rfl,p3,P3,up3⟩
  ·rw[Gag c2];obtain⟨n,hnn⟩:∃n,n=m:=⟨_,rfl⟩
   rw[←hnn] at up1⊢;have P2:Pd κ it rk p0 lo z1 p1:=carry S1 hp1 (ag1.mono (hi' :=lo+(p0.size -lo)) (by omega)) (by omega);have n0:0<n:=by omega
   have hn:lo+n≤p0.size:=by omega
   refine Gal (GcP ?_);cases hb:(pendingOf z1).back? with
   |none=>
    exact Gal (GbS (Gaq ⟨lo+n,p1,rfl,P2.push n0 hn up1,by omega⟩))
   |some r=>
    obtain⟨s1,n1,w1⟩:=r;refine Gal (Gbu (Gbf (I:=λ_ c y=>c=(none,⟨⟩)∧∃p3,Pd κ it rk p0 lo y p3∧Up' rk p3 lo (lo+n)) (Q:=λc y=>c=(none,⟨⟩)∧∃p3,Pd κ it rk p0 lo y p3∧Up' rk p3 lo (lo+n)) ?s1 (λ_ _ z=>z) ⟨rfl,p1,P2,up1⟩) ?pp)
    case pp=>
     rintro c y ⟨rfl,p3,P3,up3⟩;refine Gal (GbS (Gal (GbS (Gaq ⟨lo+n,p3,rfl, ?_,by omega⟩))));exact(P3.modify (f:=λx=>(x.1,x.2.1,power' p0.size (2*s1+n1) (2*s1+n1+n1+n) p0.size)) (λr=> ⟨rfl,rfl⟩)).push n0 hn up3
    case s1=>
     rintro i c y _ _ ⟨rfl,p3,P3,up3⟩;refine Gal (GcP ?_);by_cases g:(pendingOf y).size>1
     ·rw[Gai g];obtain⟨⟨t1,t2,t3⟩,ht⟩:∃x,(pendingOf y)[(pendingOf y).size -2]? =some x:=⟨_,Gbg (by omega)⟩
      rw[ht];dsimp only;split
      ·exact Gaq ⟨rfl,p3,P3,up3⟩
      ·refine Gal (rQ hA P3 (by omega) λy2 p4 P4 ag4 _=> ?_);simp only[Gdw,Gaw,GaR];refine Gaq ⟨rfl,p4,P4,λu v a1 a2 a3=> ?_⟩;rw[ag4.rk (by omega),ag4.rk (by omega)];exact up3 u v a1 a2 a3
     ·rw[Gag g];exact Gaq ⟨rfl,p3,P3,up3⟩
 case post=>
  rintro c z ⟨p,rfl,P⟩;refine Gal (Gbu (Gbf (I:=λx c y=>c=(none,())∧∃p,Pd κ it rk p0 p0.size y p∧(pendingOf y).size+x≤p0.size) (Q:=λc y=>c=(none,())∧∃p,Pd κ it rk p0 p0.size y p∧(pendingOf y).size≤1) ?s2 ?f2 ⟨rfl,p,P, ?i2⟩) ?p2)
  case i2=>
   have:=om P.ch;simp at this;omega
  case f2=>
   rintro c y ⟨rfl,p,P,hs⟩;refine⟨rfl,p,P, ?_⟩;have:max 0 p0.size=p0.size:=by omega
   omega
  case p2=>
   rintro c y ⟨rfl,p,P,hs⟩;refine Gaq (h y p P.ss P.perm ?_);have ch:=P.ch;have up:=P.up;have l1:(pendingOf y).toList.length≤1:=by simpa using hs
   generalize (pendingOf y).toList=l at ch up l1
   match l,l1 with
   |[],_=>
    have:0=p0.size:=ch;omega
   |[r],_=>
    obtain⟨c1,c2,c3⟩:=ch;have c3' :0+r.2.1=p0.size:=c3;have:=up r (by simp);rw[c1,c3'] at this;exact this
  case s2=>
   rintro x c y _ hx ⟨rfl,p,P,hs⟩;refine Gal (GcP ?_);by_cases g:(pendingOf y).size≤1
   ·rw[Gai g];exact Gaq ⟨rfl,p,P,g⟩
   rw[Gag g];have go:∀i,i+1<(pendingOf y).size→wpS (model prog w) A E s (do
     let b←mergeAt' i
     if(!b)=true then pure (ForInStep.done ((some ⟨⟩,()):Option PUnit×PUnit)) else pure (ForInStep.yield (none,()))) (λr z' =>match r with
     | .done c=>c=(none,())∧∃p,Pd κ it rk p0 p0.size z' p∧(pendingOf z').size≤1
     | .yield c=>c=(none,())∧∃p,Pd κ it rk p0 p0.size z' p∧(pendingOf z').size+(x+1)≤p0.size) y:=λi hi=>by
    refine Gal (rQ hA P hi λy2 p4 P4 ag4 hs4=> ?_);simp only[Gdw,Gaw,GaR];exact Gaq ⟨rfl,p4,P4,by omega⟩
   refine Gbu (go _ ?_) λr z' hr=>by cases r<;>exact hr
   by_cases i0:(pendingOf y).size -2>0
   ·rw[Gai i0];split<;>omega
   ·rw[Gag i0];simp only[Option.any_none,Gaw,GaR];omega
end
section
variable{prog:Program}{w:World}{A:Around}{E:Value→Shared→Prop}{s:Shared}
theorem t7{a:Addr}{vs:List Value}{cs:List (List (List Int))}{n:Nat}{P:PySem.Fin→Shared→Prop}(ho:s.heap.get? a=some (seqObj "list" vs.toArray n))(h64:vs.length<1000000)
  (hK:∀G:Heap,(∀b o,b≠a→s.heap.get? b=some o→G.get? b=some o)→vk prog w A E {s with heap:=G} cs vs)
  (h:∀p:Array Nat,Ord vs.length p→Up (rank cs) p vs.length→P (.done (.ret .none)) {s with heap:=sortedHeap s.heap a vs (List.toArray (p.toList.map λi=>vs.getD i Value.none))}):wpAny (model prog w) A (Builtin.«list.sort» ⟨[.ref a],[]⟩) P E s:=by
 have ha:a<s.heap.objs.size:=Gas ho;have szl:vs.length≤sizeLine:=by rw[GbP];omega
 rw[list_sort_plain];refine Gaa (listItems_at ho rfl (Gaa (listUpdate_at ho rfl ?_ (by rw[Gan];exact szl) (GbH _))));obtain⟨ep,ho1⟩:∃ep,(s.heap.update a (Obj.mapSeq λ_=>(#[]:Array Value))).get? a=some (seqObj "list" #[] ep):=⟨_,get?_update_seq ho λ_=>#[]⟩
 refine Gaa (seqEpoch_at ho1 rfl (Gaa (wpAny_newTuple ?_ szl)));refine Gaa (wpAny_newList ?_ (GbH _));refine GbQ ?_;generalize hG:((s.heap.update a (Obj.mapSeq λ_=>(#[]:Array Value))).push {cls:= .type "tuple",data:= .seq vs.toArray}).push {cls:= .type "list",data:= .seq ([]:List Value).toArray}=G;have hGs:G=((s.heap.update a (Obj.mapSeq λ_=>(#[]:Array Value))).push (seqObj "tuple" vs.toArray 0)).push (seqObj "list" #[] 0):=hG.symm;have hoG:G.get? a=some (seqObj "list" #[] ep):=by rw[←hG];exact Gah _ (Gah _ ho1)
 have keepG:∀b o,b≠a→s.heap.get? b=some o→G.get? b=some o:=λb o hb e=>by
  rw[←hG];exact Gah _ (Gah _ ((GaW _ _ (GaY hb)).trans e))
 show wpAny (model prog w) A _ P E {s with heap:=G};have fin:∀(p:Array Nat),Ord vs.length p→Up (rank cs) p vs.length→P (.done (.ret .none)) {s with heap:=G.update a (Obj.mapSeq λ_=>List.toArray (p.toList.map λi=>vs.getD i Value.none))}:=λp h1 h2=>by
  have:=h p h1 h2;unfold sortedHeap at this;rw[←hGs] at this;exact this
 have endOk:∀(p:Array Nat),Ord vs.length p→Up (rank cs) p vs.length→∀(st:SortSt),(arrOf st).map (·.2)=List.toArray (p.toList.map λi=>vs.getD i Value.none)→failedOf st=none→
   wpAny (model prog w) A (do
    let touched:=(←seqEpoch a) !=ep
    Builtin.List.listUpdate (.ref a) λ_=>(arrOf st).map (·.2)
    if let some e:=failedOf st then rule "list.sort.comparison-raised";throw e
    if touched then rule "list.sort.modified";raiseError "ValueError" "list modified during sort"
    ret .none) P E {s with heap:=G}:=λp h1 h2 st e1 e2=>by
  refine Gaa (seqEpoch_at hoG rfl ?_);rw[e1];refine Gaa (listUpdate_at hoG rfl ?_ (GbH _) (by rw[Gan,Gaf,GbO,h1.size];omega));rw[e2];simp only[bne_self_eq_false,Gaw,GaR];exact Gad (fin p h1 h2)
 have hsz:vs.toArray.size=vs.length:=by simp
 dsimp only;by_cases h2:vs.toArray.size<2
 ·rw[Gai h2,Gai h2];refine Gaa (Gad ?_);rw[StateT.run_pure];refine Gaa (Gad ?_);refine endOk (List.toArray (List.range vs.length)) (List.Perm.refl _) (λu v huv hv=>by rw[show u=v by omega];exact GbZ _) (SortSt.mk' general' (vs.toArray.zip vs.toArray) #[] 7 none) ?_ rfl;show((vs.toArray.zip vs.toArray).map (·.2))=_;apply GcB.mp;simp only[Array.toList_map,Array.toList_zip];have hv:vs.length<2:=by rw[←hsz];exact h2
  clear hK h fin endOk ho hG hGs hoG keepG h64 szl hsz h2
  match vs,hv with
  |[],_=>rfl
  |[x],_=>rfl
  |x::y::r,q=>exact absurd q (by simp)
 ·rw[Gag h2,Gag h2];refine Gaa (hK G keepG (by omega) _ λκ hκ=> ?_);have run:=Im (prog:=prog) (w:=w) (A:=A) (κ:=κ) (E:=E) (s:={s with heap:=G}) (st:=SortSt.mk' κ (vs.toArray.zip vs.toArray) #[] 7 none) (it:=vs.toArray.zip vs.toArray) (rk:=rank cs) (p0:=List.toArray (List.range vs.length))
   (Q:=λ_ st' =>∃p:Array Nat,Ord vs.length p∧Up (rank cs) p vs.length∧(arrOf st').map (·.2)=List.toArray (p.toList.map λi=>vs.getD i Value.none)∧failedOf st' =none) ?_ ?_ rfl (by simp;omega) λz p S pm up=> ?_
  ·refine Gaa (Gcb run ?_ λ_ _ e=>e);rintro⟨⟨⟩,st'⟩ s' ⟨rfl,p,c1,c2,c3,c4⟩;exact endOk p c1 c2 st' c3 c4
  ·intro i j hi hj C hc;have hz:(vs.toArray.zip vs.toArray).size=vs.length:=by simp
   have:=hκ i j C (by omega) (by omega) hc;rw[PySem.W.kat_ask_eq (ks:=vs) (vs:=vs) rfl] at this;exact this
  ·refine⟨rfl, ?_,rfl,λi hi=> ?_⟩
   ·have e:=PySem.W.kas_range (vs.toArray.zip vs.toArray);rw[show(vs.toArray.zip vs.toArray).size=vs.length by simp] at e;exact e.symm
   ·have hi' :i<vs.length:=by simpa using hi
    simpa using hi'
  ·have od:Ord vs.length p:=pm.toList;refine⟨p,od,λu v huv hv=> ?_,kat_snds rfl S.arr,S.fail⟩;have hsz' :(List.toArray (List.range vs.length)).size=vs.length:=by simp
   rw[hsz'] at up;exact up u v (GbH _) huv hv
theorem Bd{l:Addr}{o:Obj}{vs:List Value}{cs:List (List (List Int))}{n:Nat}{T:String}{Q:Value→Shared→Prop}(ho:s.heap.get? l=some o)(hc:o.cls= .type T)(hT:T="list"∨T="tuple")(hd:o.data= .seq vs.toArray n)(h64:vs.length<1000000)
  (hK:∀G:Heap,(∀b o,s.heap.get? b=some o→G.get? b=some o)→∀A' :Around,A'.units=A.units+2→vk prog w A' E {s with heap:=G} cs vs)
  (h:∀p:Array Nat,Ord vs.length p→Up (rank cs) p vs.length→Q (.ref (s.heap.objs.size+1)) {s with heap:=sortedAll s.heap vs (List.toArray (p.toList.map λi=>vs.getD i Value.none))}):wpAny (model prog w) A (call (.builtin "sorted") [.ref l]) Q E s:=by
 have szl:vs.length≤sizeLine:=by rw[GbP];omega
 refine Calls.call_function_entry kind_sorted plain_sorted entry_sorted (args_sorted1 _) ?_;unfold Builtin.«sorted»;refine Gaa (m:=checkCount "sorted" 1 1 _) (Gad (Gaa (wM ho hc hT hd ?_ szl)));refine Gaa (wpAny_newList ?_ szl);generalize hG:(s.heap.push (seqObj "list" #[] 0)).update s.heap.objs.size (Obj.mapSeq (· ++vs.toArray))=G;have hsz:G.objs.size=s.heap.objs.size+1:=by rw[←hG,Heap.size_update,size_push']
 have hoL:(G.push (seqObj "list" vs.toArray 0)).get? (s.heap.objs.size+1)=some (seqObj "list" vs.toArray 0):=by rw[←hsz];exact Gaz _ rfl
 have keep:∀b o,s.heap.get? b=some o→(G.push (seqObj "list" vs.toArray 0)).get? b=some o:=λb o e=>by
  have hlt:=Gas e;refine Gah _ ?_;rw[←hG,Heap.get?_update_ne _ _ _ _ (GaI hlt)];exact Gah _ e
 show wpAny _ _ _ _ _ {s with heap:=G.push (seqObj "list" vs.toArray 0)};rw[hsz];refine Gaa (GbQ (Gbj slot_list_sort ⟨_,hoL,rfl⟩ entry_list_sort (t7 (cs:=cs) (s:={s with heap:=G.push (seqObj "list" vs.toArray 0)}) hoL h64 (λG' kG=> ?_) λp h1 h2=> ⟨_,rfl, ?_⟩) (args_list_sort _)))
 ·exact hK G' (λb o e=>kG b o (GaI (Gdl (Gas e))) (keep b o e)) _ rfl
 ·have:=h p h1 h2;unfold sortedAll at this;rw[hG] at this;exact Gad ⟨_,rfl,this⟩
theorem vq{ds:List D}{vs:List Value}(hK:Paired (og s.heap) ds vs)(hok:keysOk ds=true):vk prog w A E s (ds.map code) vs:=λh2 Q hQ=>by
 have hl:=hK.length;exact Dd hK hok (by omega) λκ hκ=>hQ κ λi j C hi hj hc=>Fb hK hok hκ i j C (by omega) (by omega) hc
theorem Ds{h G:Heap}(kG:∀b o,h.get? b=some o→G.get? b=some o){d:D}{v:Value}(k:og h d v):og G d v:=by
 cases d with
 |int i=>exact k
 |tup fs=>
  obtain⟨b,o,m,us,h1,h2,h3,h4⟩:=k;exact⟨b,o,m,us,h1,kG b o h2,h3,h4⟩
 |_=>exact k
end
section
variable{X:Cx}{e a b c:Expr}{f g h:DE}{pos:Pos}
def rR(K:aE):List V→Hp→VK→Prop:=λxs H Q=>∃(p:Addr) (ds:List D) (vs:List V) (F:Addr→Prop),xs=[.ref p]∧(SqL K H p vs∨SqT K H p vs)∧b4 K F H ds vs∧ds.length<1000000∧keysOk ds=true∧
 ∀l out,H l=none→(∀F',b4 K F' H ds vs→b4 K F' H (cT ds) out)→Q (.ref l) (upd H l (.lst out))
theorem f9:gX X (.builtin "sorted") (rR X.K):=by
 intro pins s σ H xs us Q I rv h;obtain⟨p,ds,vs,F,rfl,hq,hr,h64,hok,q⟩:=h;obtain⟨u,rfl,ru⟩:=rv.one;cases ru;obtain⟨o,T,n,its,ho,hc,hT,hd,rvs⟩:∃(o:Obj) (T:String) (n:Nat) (its:List Value),s.heap.get? p=some o∧o.cls= .type T∧(T="list"∨T="tuple")∧o.data= .seq its.toArray n∧Vals vs its:=by
  rcases hq with hq|hq
  ·obtain⟨its,rvs,pl,_⟩:=I.list hq;obtain⟨o,h1,h2,n,h3⟩:=pl.isList;exact⟨o,"list",n,its,h1,h2,.inl rfl,h3,rvs⟩
  ·obtain⟨its,rvs,⟨o,h1,h2,n,h3⟩,_⟩:=I.tuple hq;exact⟨o,"tuple",n,its,h1,h2,.inr rfl,h3,rvs⟩
 have e1:its.length=ds.length:=by rw[←rvs.length,hr.1]
 have hK:=C2 I hr (Fd hok) rvs;refine Bd (cs:=ds.map code) ho hc hT hd (by omega) (λG kG A' _=>vq (pW (λd v kv=>Ds kG kv) hK) hok) λod h1 h2=> ?_;have h1' :Ord ds.length od:=by rw[←e1];exact h1
 have h2' :Up (rank (ds.map code)) od ds.length:=by rw[←e1];exact h2
 have uniq:(od.toList.map λi=>ds.getD i .non)=cT ds:=jV ((rD h1').trans (fN ds).symm) (AZ h1' h2') (g8 ds) λa ha b hb=>F8 hok a ((rD h1').mem_iff.mp ha) b ((rD h1').mem_iff.mp hb);obtain⟨c,hat⟩:=sortedAll_at s.heap its (List.toArray (od.toList.map λi=>its.getD i Value.none));have fresh:H (s.heap.objs.size+1)=none:=I.hok.fresh (Gdp _);have h1v:Ord vs.length od:=by rw[←hr.1];exact h1'
 refine⟨.ref (s.heap.objs.size+1),_,I.laid (a:=s.heap.objs.size+1) (o:= .lst (od.toList.map λi=>vs.getD i .non)) (t' :=s.toks) (λb ob e=>sortedAll_old e) (Gdp _) ?_,rfl,q _ _ fresh λF' r=> ?_⟩
 ·refine⟨?_,_,c,Fg h1v rvs,hat⟩;rw[Gaf,GbO,h1v.size,←hr.1,GbP];omega
 ·rw[←uniq];exact Ff h1' r
theorem jY:CallD X g9 (rR X.K):=by
 intro F H ds vs rv Q ps e k;obtain⟨d,xs,rfl,h1,h2⟩:=AY e;split at h2
 ·rename_i c;rw[Gau] at c;cases h2;obtain⟨v,rfl,i⟩:=gK ps;obtain⟨p,vs,rfl,hs,r⟩:=AX i h1;exact⟨p,xs,vs,F,rfl,hs,r,GaE c.1,c.2,λl out hl hr=>k _ _ (bG hl) ⟨l,rfl,hl,pj,rfl,gF hl (hr F r)⟩⟩
 ·cases h2
end
open PySem
open PySem PySem.Spec PyProof.Rows
namespace Fr
end Fr
theorem rT{α:Type}:∀(xs:List α) (i:Nat) (h:i<xs.length),(xs[i]::xs.eraseIdx i).Perm xs
 |x::xs,0,h=>by simp
 |x::xs,i+1,h=>by
  have h' :i<xs.length:=by simpa using h
  simp only[List.getElem_cons_succ,List.eraseIdx_cons_succ];exact(List.Perm.swap _ _ _).trans ((rT xs i h').cons x)
theorem Cd{α:Type}{next:Nat→Nat}:∀(f k:Nat) (left:List α) (out:Array α),left.length=f→(pickOrder.go next f k left out).toList.Perm (out.toList++left)
 |0,k,left,out,e=>by
  have:left=[]:=List.length_eq_zero_iff.mp e;subst this;simp[pickOrder.go]
 |f+1,k,left,out,e=>by
  have hl:next k%left.length<left.length:=Nat.mod_lt _ (by omega);unfold pickOrder.go;rw[Gab hl];dsimp only;refine(Cd f (k+1) _ _ (by rw[List.length_eraseIdx_of_lt hl];omega)).trans ?_;rw[GdR,GaB];refine GbY _ ?_;exact(rT _ _ hl)
theorem Lv{α:Type}(next:Nat→Nat)(xs:Array α):(pickOrder next xs).toList.Perm xs.toList:=by
 have:=Cd (next:=next) xs.size 0 xs.toList #[] (by simp)
 simpa[pickOrder] using this
open PySem PySem.Spec PyProof.Rows
open PySem PySem.Spec PyProof.Rows L2
section
variable{X:Cx}{pins:List (Addr×Obj)}{σ:St}{H:Hp}{s:Shared}
theorem _root_.L2.Inv.draw(I:Inv X pins σ H s)(d:Drawn):Inv X pins σ H {s with drawn:=d}:=⟨I.ok,I.os,I.bare,I.base,I.loc,I.cell,I.free,I.kz,I.pin,I.hok,I.len⟩
end
section
variable{X:Cx}{e a b c:Expr}{f g h:DE}{pos:Pos}{pins:List (Addr×Obj)}{σ:St}{H:Hp}{s:Shared}
theorem mC:∀{ns:List Int} {us:List Value},Vals (ns.map V.int) us→IntsAre us ns
 |[],_,.nil=> .nil
 |n::ns,_,.cons h t=>by
  obtain⟨k,rfl⟩:=h;exact .cons n k (mC t)
end
namespace Fr
end Fr
open PySem PySem.Spec PyProof.Rows L2
section
variable{prog:Program}{w:World}{K:Type} [DecidableEq K]{knd:HeapKind prog w K}{A:Around}{E:Value→Shared→Prop}{s:Shared}
theorem qI{d a:Addr}{xs:List (K×Addr×Value)}{k:K}{v:Value}{Q:Value→Shared→Prop}(hu:knd.room A)(hkey:knd.is s.heap k a)(hm:s.heap.DictOfH knd d xs)
  (hthere:∀p,atKey xs k=some p→Q p.2 {s with toks:=s.toks+knd.draws k})
  (hnew:atKey xs k=none→∀h',h'.DictOfH knd d (storedH xs k a v)→Heap.SameBut d s.heap h' →Q v {s with heap:=h',toks:=s.toks+knd.draws k})
  (hsz:xs.length≤sizeLine):
  wpAny (model prog w) A (dictSetDefault d (.ref a) v) Q E s:=by
 obtain⟨o,es,ep,ho,hc,hd,he,his,hn⟩:=hm;unfold dictSetDefault
 try with_reducible refine GbQ ?_
 refine Gaa (knd.pyHash hu hkey ?_);refine Gaa (wpAny_dictFind_heap (s:={s with toks:=s.toks+knd.draws k}) hu hkey ho hd he his hn ?_ ?_)
 ·intro hno;have hnot:k∉xs.map (·.1):=not_mem_keys_of_get hno;refine Gaa (GbR (Gaa (wpAny_updateDictKeys (hz:=by have e:=size_of_entries he;omega) (s:={s with toks:=s.toks+knd.draws k}) ho hd (Gad (hnew (Gdn hno) _ ⟨_,_,ep+1,Gbl _ ho (Obj.isFreed_of_dict (Obj.data_mapDictKeys hd _)),
   hc.mapDictKeys _,Obj.data_mapDictKeys hd _, ?_, ?_, ?_⟩ (GbA ..))))))
  ·rw[storedH_new (Gdn hno)];simp[he,entryOfKey]
  ·rw[storedH_new (Gdn hno)];intro x hx;rcases Gax.mp hx with hx|hx
   ·exact knd.keeps (his x hx) ho hd (GbA ..)
   ·simp only[Gbo] at hx;subst hx;exact knd.keeps hkey ho hd (GbA ..)
  ·rw[storedH_new (Gdn hno)];rw[GaP,Gch];refine⟨hn,by simp, ?_⟩;intro x hx y hy;simp only[Gap,GdF,Gbo] at hy;subst hy
   exactλe=>hnot (e▸hx)
 ·intro j p hj;refine Gaa (Gcg (s:={s with toks:=s.toks+knd.draws k}) ho hd ?_);rw[entry_at he j,hj];refine Gaa (GbR ?_);exact Gad (hthere p (atKey_of_get hn hj))
theorem ot(d a:Addr)(hd:(d==sysModules)=false)(dflt:Value):
  MeetsIn prog w (Builtin.«dict.setdefault» ⟨[.ref d,.ref a,dflt],[]⟩) (λA R s=>knd.room A.in1∧∃k xs,knd.is s.heap k a∧s.heap.DictOfH knd d xs∧xs.length≤sizeLine∧
   (∀p,atKey xs k=some p→R (.ok (.ret p.2)) {s with toks:=s.toks+knd.draws k})∧
   (atKey xs k=none→∀h',h'.DictOfH knd d (storedH xs k a dflt)→Heap.SameBut d s.heap h' →R (.ok (.ret dflt)) {s with heap:=h',toks:=s.toks+knd.draws k})):=
 .of_wp λA R s ⟨hu,k,xs,hkey,hm,hsz,h1,h2⟩=>by
  unfold Builtin.«dict.setdefault»;refine Gaa ?_;unfold Builtin.Dict.keyAndDefault;refine Gaa (GdB hm.typeIs ?_);show wpAny _ _ (pure (d,Value.ref a,some dflt)) _ _ s;refine Gad ?_;show wpAny _ _ (if(d==sysModules)=true then _ else(dictSetDefault d (.ref a) dflt>>=_)) _ _ s;rw[Gag (by rw[hd];exact Gav)];exact Gaa (qI hu hkey hm (λp hp=>Gad ⟨_,rfl,h1 p hp⟩) (λhn h' hm' hs' =>Gad ⟨dflt,rfl,h2 hn h' hm' hs'⟩) hsz)
end
section
variable{X:Cx}{pins:List (Addr×Obj)}{σ:St}{H:Hp}{s:Shared}{a b:Addr}{d:V}{u r:Value}{o:Option V}{A:Around}{E:Value→Shared→Prop}
theorem vt{kvs:List (List Key×V)}{k:List Key}{Q:Value→Shared→Prop}(hu:A.units+1<cLine)(I:Inv X pins σ H s)(e:H a=some (.dT kvs))(eb:H b=some (.tup (k.map kV)))(hl:kvs.length<sizeLine)(rd:RelV d r)
  (h1:∀v w' s',gY kvs k=some v→Inv X pins σ H s' →RelV v w' →Q w' s')(h2:∀s',gY kvs k=none→Inv X pins σ (upd H a (.dT (putK kvs k d))) s' →Q r s'):
  wpAny (model X.prog X.w) A (call (.builtin "dict.setdefault") [.ref a,.ref b,r]) Q E s:=by
 obtain⟨z,hd,xs,rel,dd⟩:=BG I.hok e;have hz:xs.length≤sizeLine:=by rw[←Paired.length rel];exact z
 refine call_meetsIn PySem.F.slot_dict_setdefault dd.typeIs PySem.F.entry_dict_setdefault (PySem.F.args_dict_setdefault_3 _ _ _) (ot (knd:=tupleKind (cC X.prog X.w)) a b hd r) ⟨GcZ hu,k,xs,L2.nE I.hok eb,dd,hz,λp hp=> ?_,λhn h' dd' hs=> ?_⟩
 ·have rv:=rel.val k;rw[hp] at rv;cases hv:gY kvs k with
  |none=>rw[hv] at rv;exact rv.elim
  |some v=>rw[hv] at rv;exact h1 v _ _ hv (I.tok _) rv
 ·have rv:=rel.val k;rw[hn] at rv;cases hv:gY kvs k with
  |some v=>rw[hv] at rv;exact rv.elim
  |none=>
   refine h2 _ hv ?_;have hl' :(putK kvs k d).length≤sizeLine:=by have:=lE kvs k d;omega
   obtain⟨q,es,ep,hq,g2,g3,g4,_,g5⟩:=dd';refine qN I (by rw[e];exact True.intro) hs ⟨q,hq⟩ ⟨hl',hd,_,(rel.put k eb rd).keeps λc ys ec=> ?_,q,es,ep,hq,g2,g3,g4,g5⟩;rw[ay (Bw ec e (λz=>nomatch z))];exact ec
end
noncomputable def Ku(td ty tx:TE):TE:=λσ H Q=>td σ H λx H1=>∃a,x= .ref a∧IsD H1 a∧ty σ H1 λy H2=>tx σ H2 λz H3=>∃kvs k b,H3 a=some (.dT kvs)∧y= .ref b∧H3 b=some (.tup (k.map kV))∧kvs.length<sizeLine∧
 (∀v,gY kvs k=some v→Q v H3)∧(gY kvs k=none→Q z (upd H3 a (.dT (putK kvs k z))))
section
variable{X:Cx}{o e f:Expr}{apos cpos:Pos}{td ty tx:TE}
theorem FI(hu:X.A.units+1<cLine)(ho:PE X o td)(he:PE X e ty)(hf:PE X f tx)(m:M2 X o "setdefault" apos e f cpos):PE X (.Call (.Attribute o "setdefault" apos) [e,f] [] cpos) (Ku td ty tx):=by
 intro pins s σ H Q I h;refine wpAny_Call_method m.base m.few m.line Gdi PySem.F.slot_dict_setdefault PySem.F.type_dict_setdefault (thn (ho pins s σ H _ I h) λu s1 ⟨x,H1,I1,rx,a,ex,d,q1⟩=> ?_);subst ex;obtain rfl:u=Value.ref a:=rx;obtain⟨t1,t2,_⟩:=AR I1 d;refine⟨t1,t2, ?_⟩;rw[m.trees];refine GcN rfl (GdE (GcH (thn (he pins s1 σ H1 _ I1 q1) λiv s2 ⟨y,H2,I2,ry,q2⟩=>
  GcH (thn (hf pins s2 σ H2 _ I2 q2) λfv s3 ⟨z,H3,I3,rz,kvs,k,b,e1,e2,e3,e4,e5,e6⟩=>Calls.spliced_nil ?_))))
 subst e2;cases(show iv=Value.ref b from ry);exact vt hu I3 e1 e3 e4 rz (λv w' s4 hv I4 rv=> ⟨_,H3,I4,rv,e5 v hv⟩) λs4 hv I4=> ⟨_,_,I4,rz,e6 hv⟩
end
def i7(Bad:Addr→Prop)(p:Addr)(ws:List (List Key×V))(b:Addr):Prop:=Bad b∨b=p∨V.ref b∈ws.map (·.2)
structure fq(K:aE)(Bad:Addr→Prop)(env:Env)(σ:St)(H:Hp)(i:Nat)(p:Addr)(ws:List (List Key×V))(kvs:Rws):Prop where
 at_:σ[i]? =some (some (.ref p))
 hid:env[i]? =some none
 top:H p=some (.dT ws)
 keys:kvs.map (·.1)=ws.map (·.1)
 row:∀(j:Nat) k v d,ws[j]? =some (k,v)→kvs[j]? =some (k,d)→∃a ds vs,v= .ref a∧d= .lst ds∧a≠p∧H a=some (.lst vs)∧b4 K (λ_=>False) H ds vs
 inj:∀(j j' :Nat) k k' a,ws[j]? =some (k,V.ref a)→ws[j']? =some (k',V.ref a)→j=j'
def nM(H H' :Hp):Prop:=∀b o,H b=some o→isT o→H' b=some o
theorem nM.trans{H H1 H2:Hp}(a:nM H H1)(b:nM H1 H2):nM H H2:=λc o e t=>b c o (a c o e t) t
theorem nM.same{H H1:Hp}(s:cj H H1):nM H H1:=λc o e _=>s c o e
theorem nM.upd{H:Hp}{a:Addr}{o o' :HO}(h:H a=some o)(n:¬isT o):nM H (upd H a o'):=λc x e t=>by
 have:c≠a:=by rintro rfl;rw[h] at e;cases e;exact n t
 rw[ay this];exact e
section
variable{K:aE}{H₀ H H' H1:Hp}{Bad Bad' :Addr→Prop}{env env' :Env}{σ σ' :St}{d:D}{v:V}{a p:Addr}{i j:Nat}{ws:List (List Key×V)}{kvs:Rws}
theorem fq.mono(N:fq K Bad env σ H i p ws kvs)(s:cj H H'):fq K Bad env σ H' i p ws kvs where
 at_:=N.at_
 hid:=N.hid
 top:=s _ _ N.top
 keys:=N.keys
 row:=λj k v d h1 h2=>let⟨a,ds,vs,e1,e2,e3,e4,e5⟩:=N.row j k v d h1 h2;⟨a,ds,vs,e1,e2,e3,s _ _ e4,e5.gen (.of_same s) λ_ f _=>f⟩
 inj:=N.inj
theorem fq.lK(N:fq K Bad env σ H i p ws kvs)(hij:i≠j):fq K Bad (env.set j (some (.sh d))) (σ.set j (some v)) H i p ws kvs where
 at_:=by rw[Gac (GaY hij)];exact N.at_
 hid:=by rw[Gac (GaY hij)];exact N.hid
 top:=N.top
 keys:=N.keys
 row:=λj k v d h1 h2=>let⟨a,ds,vs,e1,e2,e3,e4,e5⟩:=N.row j k v d h1 h2;⟨a,ds,vs,e1,e2,e3,e4,e5⟩
 inj:=N.inj
theorem fq.Kv(N:fq K Bad env σ H i p ws kvs):fq K Bad' env σ H i p ws kvs:=⟨N.at_,N.hid,N.top,N.keys,N.row,N.inj⟩
theorem fq.app{vs:List V}{ds:List D}{k:List Key}(N:fq K Bad env σ H i p ws kvs)(ba:Bad a)(ha:ws[j]? =some (k,.ref a))(hd:kvs[j]? =some (k,.lst ds))(hv:H a=some (.lst vs))(rp:b4 K (λ_=>False) H (ds++[d]) (vs++[v])):
  fq K Bad env σ (upd H a (.lst (vs++[v]))) i p ws (kvs.set j (k,.lst (ds++[d]))):=by
 have dN:jc (λ_=>False) H (upd H a (.lst (vs++[v]))):=λb x hx q=>by
  have:b≠a:=by
   rintro rfl;rcases q with q|q
   ·exact q
   ·rw[hv] at hx;cases hx;exact q
  rw[ay this];exact hx
 have hpa:p≠a:=by
  obtain⟨a',_,_,e1,_,e3,_⟩:=N.row j k _ _ ha hd;cases e1;exact GaY e3
 have hjl:=(Gae.mp hd).1;refine⟨N.at_,N.hid,by rw[ay hpa];exact N.top, ?_,λj' k' v' d' h1 h2=> ?_,N.inj⟩
 ·rw[List.map_set,←N.keys];apply Gdk;intro m;by_cases q:j=m
  ·subst q;rw[GaQ (by simpa using hjl),Gak,hd];rfl
  ·rw[Gac q]
 ·by_cases q:j=j'
  ·subst q;rw[ha] at h1;cases h1
   rw[GaQ hjl] at h2;cases h2;exact⟨a,_,_,rfl,rfl,GaY hpa,aM,rp.gen dN λ_ f _=>f⟩
  ·rw[Gac q] at h2;obtain⟨a',ds',us,e1,e2,e3,e4,e5⟩:=N.row j' k' v' d' h1 h2;subst e1;have na:a' ≠a:=by
    rintro rfl;exact q (N.inj j j' _ _ _ ha h1)
   exact⟨a',ds',us,rfl,e2,e3,by rw[ay na];exact e4,e5.gen dN λ_ f _=>f⟩
theorem fq.make{k:List Key}(N:fq K Bad env σ H i p ws kvs)(bp:Bad p)(ba:Bad a)(hn:V.ref a∉ws.map (·.2))(hpa:a≠p)(hv:H a=some (.lst [])):fq K Bad env σ (upd H p (.dT (ws++[(k,.ref a)]))) i p (ws++[(k,.ref a)]) (kvs++[(k,.lst [])]):=by
 have dN:jc (λ_=>False) H (upd H p (.dT (ws++[(k,.ref a)]))):=λb x hx q=>by
  have:b≠p:=by
   rintro rfl;rcases q with q|q
   ·exact q
   ·rw[N.top] at hx;cases hx;exact q
  rw[ay this];exact hx
 have hlen:kvs.length=ws.length:=by have:=congrArg List.length N.keys;simpa using this
 refine⟨N.at_,N.hid,aM,by rw[GaP,GaP,N.keys];rfl,λj' k' v' d' h1 h2=> ?_,λj1 j2 k1 k2 b h1 h2=> ?_⟩
 ·by_cases q:j' <ws.length
  ·rw[GaX q] at h1;rw[GaX (by omega)] at h2;obtain⟨a',ds',us,e1,e2,e3,e4,e5⟩:=N.row j' k' v' d' h1 h2;exact⟨a',ds',us,e1,e2,e3,by rw[ay e3];exact e4,e5.gen dN λ_ f _=>f⟩
  ·rw[GaM (by omega)] at h1;rw[GaM (by omega)] at h2;rw[hlen] at h2;cases hz:j' -ws.length with
   |zero=>
    rw[hz] at h1 h2;cases h1;cases h2
    exact⟨a,[],[],rfl,rfl,hpa,by rw[ay hpa];exact hv,.nil⟩
   |succ n=>rw[hz] at h1;simp at h1
 ·by_cases q1:j1<ws.length
  ·rw[GaX q1] at h1;by_cases q2:j2<ws.length
   ·rw[GaX q2] at h2;exact N.inj j1 j2 _ _ _ h1 h2
   ·rw[GaM (by omega)] at h2;cases hz:j2 -ws.length with
    |zero=>
     rw[hz] at h2;cases h2
     exact absurd (GaF.mpr ⟨_,GaK h1,rfl⟩) hn
    |succ n=>rw[hz] at h2;simp at h2
  ·rw[GaM (by omega)] at h1;cases hz:j1 -ws.length with
   |succ n=>rw[hz] at h1;simp at h1
   |zero=>
    rw[hz] at h1;cases h1
    by_cases q2:j2<ws.length
    ·rw[GaX q2] at h2;exact absurd (GaF.mpr ⟨_,GaK h2,rfl⟩) hn
    ·rw[GaM (by omega)] at h2;cases hz2:j2 -ws.length with
     |succ n=>rw[hz2] at h2;simp at h2
     |zero=>omega
end
def FrW(H₀:Hp)(Bad:Addr→Prop)(p:Addr)(ws:List (List Key×V)):Prop:=∀b,(b=p∨V.ref b∈ws.map (·.2))→H₀ b=none∧¬Bad b
theorem vA{kvs:Rws}{ws:List (List Key×V)}{k:List Key}(h:kvs.map (·.1)=ws.map (·.1)):kvs.findIdx? (λp=>decide (p.1=k))=ws.findIdx? (λp=>decide (p.1=k)):=by
 have h1:(kvs.map (·.1)).findIdx? (λq=>decide (q=k))=kvs.findIdx? (λp=>decide (p.1=k)):=by rw[GdS];rfl
 have h2:(ws.map (·.1)).findIdx? (λq=>decide (q=k))=ws.findIdx? (λp=>decide (p.1=k)):=by rw[GdS];rfl
 rw[←h1,←h2,h]
theorem find_some:∀{ws:List (List Key×V)} {k:List Key} {j:Nat},ws.findIdx? (λp=>decide (p.1=k))=some j→∃v,ws[j]? =some (k,v)∧gY ws k=some v
 |[],k,j,h=>by simp at h
 |p::ws,k,j,h=>by
  rw[List.findIdx?_cons] at h;by_cases c:p.1=k
  ·rw[GaN c] at h;cases h;exact⟨p.2,by rw[←c];rfl,lD c⟩
  ·rw[GaS c] at h;simp only[Gaw,GaR] at h;obtain⟨j',hj,rfl⟩:=Gam.mp h;obtain⟨v,h1,h2⟩:=find_some hj;exact⟨v,by rw[Gdj];exact h1,by rw[j8 c];exact h2⟩
theorem find_none:∀{ws:List (List Key×V)} {k:List Key},ws.findIdx? (λp=>decide (p.1=k))=none→gY ws k=none
 |[],k,h=>rfl
 |p::ws,k,h=>by
  rw[List.findIdx?_cons] at h;by_cases c:p.1=k
  ·rw[GaN c] at h;cases h
  ·rw[GaS c] at h;simp only[Gaw,GaR] at h;rw[j8 c];exact find_none (Option.map_eq_none_iff.mp h)
theorem Be{kvs:Rws}{ws:List (List Key×V)}{j:Nat}{k:List Key}{v:V}{q:List Key×D}(h:kvs.map (·.1)=ws.map (·.1))(h1:kvs[j]? =some q)(h2:ws[j]? =some (k,v)):q.1=k:=by
 have e1:(kvs.map (·.1))[j]? =some q.1:=by rw[Gak,h1];rfl
 have e2:(ws.map (·.1))[j]? =some k:=by rw[Gak,h2];rfl
 rw[h,e2] at e1;cases e1;rfl
noncomputable def tM(X:Cx)(i:Nat)(f:DM):TS:=λD σ H=>∃H₀ Bad env p ws kvs q,aI X.K H₀ (i7 Bad p ws) env σ H∧fq X.K (i7 Bad p ws) env σ H i p ws kvs∧FrW H₀ Bad p ws∧f env kvs=some q∧
 ∀σ' H' ws',aI X.K H₀ (i7 Bad p ws') q.1 σ' H' →fq X.K (i7 Bad p ws') q.1 σ' H' i p ws' q.2→FrW H₀ Bad p ws' →nM H H' →D.nx σ' H'
section
variable{X:Cx}{e a b c:Expr}{f g h:DE}{t u:DT}{pos:Pos}{st:Stmt}{rest body:List Stmt}{i j:Nat}{x:Str}{n1 n2:DM}
theorem Io(h1:PS X st (tM X i n1)):PSs X [st] (tM X i n1):=uO h1
theorem FJ(h1:PS X st (tM X i n1))(h2:PSs X rest (tM X i n2)):PSs X (st::rest) (tM X i (MC n1 n2)):=by
 refine(nR h1 h2).aU ?_;rintro D σ H ⟨H₀,Bad,env,p,ws,kvs,q,E,N,h0,e,k⟩;obtain⟨q1,hq,e⟩:=bind_some e;exact⟨H₀,Bad,env,p,ws,kvs,q1,E,N,h0,hq,λσ' H' ws' E' N' f' t' => ⟨H₀,Bad,q1.1,p,ws',q1.2,q,E',N',f',e,λσ2 H2 ws2 E2 N2 f2 t2=>k σ2 H2 ws2 E2 N2 f2 (t'.trans t2)⟩⟩
theorem Kw{pos' :Pos}(hN:X.N.Nodup)(hj:X.N[j]? =some x)(hx:Loc X.env.scope x)(hij:i≠j)(he:PEd X e f)(hs:swapsWith e (some (.Name x pos')) pos.line X.env=pure false:=by rfl)
  (hf:X.fn x=true∨X.env.scope.names.lookup x=some .local:=by first|exact .inl rfl|exact .inr rfl|assumption):PS X (.Assign [.Name x pos'] e pos) (tM X i (setM j f)):=by
 refine(AE hN hj hx he hs hf).aU ?_;rintro D σ H ⟨H₀,Bad,env,p,ws,kvs,q,E,N,h0,e,k⟩;obtain⟨⟨kr,d⟩,hr,e⟩:=bind_some e;cases kr with
 |c=>
  cases e;refine⟨H₀,_,env,_,E,hr,λv H1 s1 R=> ?_⟩;exact k _ _ ws ((E.mono s1).lK R) ((N.mono s1).lK hij) h0 (.same s1)
 |tn=>cases e
 |to=>cases e
 |tb=>cases e
theorem bindM{α β:Type}{o:Option α}{f:α→Option β}{b:β}(h:o.bind f=some b):∃a,o=some a∧f a=some b:=bind_some h
theorem Kx{px ap cp apos cpos lp:Pos}{ke:Expr}(hu:X.A.units+1<cLine)(hN:X.N[i]? =some x)(hv:Vis X.env.scope x)(hk:PEd X ke g)(he:PEd X e f)(hd:(x==("__debug__":Str))=false:=by decide)(hcd:(x==("__classdict__":Str))=false:=by decide)
  (m:M2 X (.Name x px) "setdefault" ap ke (.List [] lp) cp:=by exact⟨rfl,rfl,rfl,rfl⟩)
  (hs1:starEach [e] X.env=[(false,eval e X.env)]:=by rfl)
  (hbase:attributeBase (.Call (.Attribute (.Name x px) "setdefault" ap) [ke,.List [] lp] [] cp) "append" X.env (eval (.Call (.Attribute (.Name x px) "setdefault" ap) [ke,.List [] lp] [] cp) X.env)=eval (.Call (.Attribute (.Name x px) "setdefault" ap) [ke,.List [] lp] [] cp) X.env:=by rfl)
  (hfew:((backTo cpos (starEach [e] X.env)).all (λx=> !x.1)&&(backToKw cpos (keywordEach [] X.env)).all (λx=>x.1.isSome)
   &&decide (([e]:List Expr).length+([]:List Keyword).length+(if([]:List Keyword).isEmpty then 0 else 1)<30))=true:=by rfl)
  (hline:(apos.endLine==cpos.line)=true:=by rfl)(hs:swapsWith (.Call (.Attribute (.Call (.Attribute (.Name x px) "setdefault" ap) [ke,.List [] lp] [] cp) "append" apos) [e] [] cpos) none pos.line X.env=pure false:=by rfl):
  PS X (.Expr (.Call (.Attribute (.Call (.Attribute (.Name x px) "setdefault" ap) [ke,.List [] lp] [] cp) "append" apos) [e] [] cpos) pos) (tM X i (MD g f)):=by
 refine(qL (BD GcG PySem.F.slot_list_append PySem.F.type_list_append p8 (FI hu (lB hN hv hd hcd) hk (Er AK) m) (a4 he aa hs1) hbase hfew hline hs1 rfl) hs).aU ?_;rintro D σ H ⟨H₀,Bad,env,p,ws,kvs,q,E,N,h0,e,kk⟩;obtain⟨⟨ky,dy⟩,hy,e⟩:=bindM e;obtain⟨r,hr,e⟩:=bindM e;cases dy with
 |tup ks=>
  dsimp only at e;split at e
  ·rename_i z;rw[Gau] at z;obtain⟨key,hkey,e⟩:=bindM e;obtain⟨kvs',hsd,e⟩:=Gam.mp e;cases e;have bp:i7 Bad p ws p:= .inr (.inl rfl);refine⟨_,N.at_,p,rfl,.inr ⟨ws,.inl N.top⟩,H₀,_,env,_,E,hy,λvy H1 s1 Ry=> ?_⟩;have iy:Inn X.K (Cln (i7 Bad p ws) env σ) H1 (.tup ks) vy:=Ry.inn;cases iy with
   | @tup bk kv _ hb rb=>
    have ekv:=jB rb hkey;subst ekv;have E1:=E.mono s1;have N1:=N.mono s1;refine⟨GbH _,λa1 n1' => ?_⟩;have sA:cj H1 (upd H1 a1 (.lst [])):=bG n1';have hbA:upd H1 a1 (.lst []) bk=some (.tup (key.map kV)):=sA _ _ hb;have N2:=N1.mono sA;have E2:=E1.mono sA;have hlen:kvs.length=ws.length:=by have:=congrArg List.length N.keys;simpa using this
    have szk:kvs.length<ai∧((∃jj ds k0,kvs.findIdx? (λp=>decide (p.1=key))=some jj∧kvs[jj]? =some (k0,.lst ds)∧ds.length<ai∧kvs' =kvs.set jj (key,.lst (ds++[r.d])))∨(kvs.findIdx? (λp=>decide (p.1=key))=none∧kvs' =kvs++[(key,.lst [r.d])])):=by
     unfold ED at hsd;split at hsd
     ·rename_i hz;refine⟨hz, ?_⟩;split at hsd
      ·rename_i jj hjj;split at hsd
       ·rename_i k0 ds hds;split at hsd
        ·rename_i hl;cases hsd;exact .inl ⟨jj,ds,k0,hjj,hds,hl,rfl⟩
        ·cases hsd
       ·cases hsd
      ·rename_i hjj;cases hsd;exact .inr ⟨hjj,rfl⟩
     ·cases hsd
    have fin:∀(H2:Hp) (ws2:List (List Key×V)) (kvs2:Rws) (jj:Nat) (a:Addr) (ds:List DL.D),aI X.K H₀ (i7 Bad p ws2) env σ H2→fq X.K (i7 Bad p ws2) env σ H2 i p ws2 kvs2→FrW H₀ Bad p ws2→nM H H2→ws2[jj]? =some (key,.ref a)→kvs2[jj]? =some (key,.lst ds)→ds.length<ai→kvs' =kvs2.set jj (key,.lst (ds++[r.d]))→
      tyV X.K "list" (.ref a) H2∧tA X (a5 f aq) σ H2 λvs H3=>BE (.ref a) vs H3 λ_ H4=>D.nx σ H4:=by
     intro H2 ws2 kvs2 jj a ds E2 N2 F2 T2 hw hkv hl ek;obtain⟨a',ds',vs,e1,e2,e3,hvs,rp⟩:=N2.row jj _ _ _ hw hkv;cases e1;cases e2
     have ba:i7 Bad p ws2 a:= .inr (.inr (GaF.mpr ⟨_,GaK hw,rfl⟩));refine⟨.inl ⟨rfl,vs,.inl (.inl hvs)⟩,H₀,_,env,[r],E2,by unfold a5 aq;rw[hr];rfl,λus H3 s3 Rs=> ?_⟩;cases Rs with
     | @cons _ v _ _ R1 tl=>
      cases tl;have hvs3:=s3 _ _ hvs;have N3:=N2.mono s3;have E3:=E2.mono s3;refine⟨_,vs,v,rfl,rfl,hvs3,by rw[←rp.1,←size_eq];exact hl, ?_⟩;have rep1:Rep X.K (λ_=>False) H3 r.d v:=R1.inn.imm z.1;have rp3:b4 X.K (λ_=>False) H3 (ds++[r.d]) (vs++[v]):=(rp.gen (.of_same s3) λ_ f _=>f).append (.cons rep1 .nil);have N4:=N3.app ba hw hkv hvs3 rp3;rw[←ek] at N4;exact kk σ _ ws2 (E3.Fw ba (F2 a (.inr (GaF.mpr ⟨_,GaK hw,rfl⟩))).1 hvs3 (λz=>z) z.2) N4 F2 ((T2.trans (.same s3)).trans (.upd hvs3 λz=>z))
    refine⟨ws,key,bk,N2.top,rfl,hbA,by rw[←hlen,←size_eq];exact szk.1,λv hv=> ?_,λhv=> ?_⟩
    ·rcases szk.2 with⟨jj,ds,k0,hjj,hds,hl,ek⟩| ⟨hjj,_⟩
     ·rw[vA N.keys] at hjj;obtain⟨v',hw,hv'⟩:=find_some hjj;rw[hv] at hv';cases hv'
      have hk0:k0=key:=Be N.keys hds hw;subst hk0;obtain⟨a',_,_,e1,_⟩:=N.row jj _ _ _ hw hds;subst e1;exact fin _ ws kvs jj a' ds E2 N2 h0 ((nM.same s1).trans (.same sA)) hw hds hl ek
     ·rw[vA N.keys] at hjj;rw[find_none hjj] at hv;cases hv
    ·rcases szk.2 with⟨jj,ds,k0,hjj,hds,hl,ek⟩| ⟨hjj,ek⟩
     ·rw[vA N.keys] at hjj;obtain⟨v',hw,hv'⟩:=find_some hjj;rw[hv] at hv';cases hv'
     ·have hn:V.ref a1∉ws.map (·.2):=λhm=>by
       obtain⟨⟨k1,v1⟩,hm1,hm2⟩:=GaF.mp hm;have hm2' :v1=V.ref a1:=hm2;subst hm2';obtain⟨j1,hj1⟩:=GbW.mp hm1;have hj1' :j1<kvs.length:=by rw[hlen];exact(Gae.mp hj1).1
       have hk1:kvs[j1]? =some kvs[j1]:=Gab hj1';have hk2:kvs[j1].1=k1:=Be N.keys hk1 hj1;obtain⟨a',_,us,e1,_,_,e4,_⟩:=N1.row j1 k1 _ kvs[j1].2 hj1 (by rw[hk1,←hk2]);cases e1;rw[n1'] at e4;cases e4
      have hpa:a1≠p:=λq=>by subst q;rw[N1.top] at n1';cases n1'
      rw[Ew _ hv];have eB:(λb=>i7 Bad p ws b∨b=a1)=i7 Bad p (ws++[(key,V.ref a1)]):=by
       funext b
       apply propext;unfold i7;rw[GaP,Gax];simp only[Gap,GdF,Gbo,V.ref.injEq];constructor
       ·rintro((h|h|h)|h)
        ·exact .inl h
        ·exact .inr (.inl h)
        ·exact .inr (.inr (.inl h))
        ·exact .inr (.inr (.inr h))
       ·rintro(h|h|h|h)
        ·exact .inl (.inl h)
        ·exact .inl (.inr (.inl h))
        ·exact .inl (.inr (.inr h))
        ·exact .inr h
      have E3:aI X.K H₀ (i7 Bad p (ws++[(key,V.ref a1)])) env σ (upd H1 a1 (.lst [])):=by
       rw[←eB];exact E1.C7 (New:=λb=>b=a1) sA (λb hb=>by rw[hb];exact n1') λb hb=>by rw[hb,aM];simp
      have N3:fq X.K (i7 Bad p (ws++[(key,V.ref a1)])) env σ (upd H1 a1 (.lst [])) i p ws kvs:=by
       exact N1.Kv.mono sA
      have F3:FrW H₀ Bad p (ws++[(key,V.ref a1)]):=λb hb=>by
       rw[GaP,Gax] at hb;simp only[Gap,GdF,Gbo,V.ref.injEq] at hb;rcases hb with h|h|h
       ·exact h0 b (.inl h)
       ·exact h0 b (.inr h)
       ·subst h;exact⟨E1.same.free n1',λq=>E1.bad b (.inl q) n1'⟩
      have bp' :i7 Bad p (ws++[(key,V.ref a1)]) p:= .inr (.inl rfl);have ba' :i7 Bad p (ws++[(key,V.ref a1)]) a1:= .inr (.inr (by rw[GaP,Gax];exact .inr Gao));have N4:=N3.make (k:=key) bp' ba' hn hpa aM;have E4:=E3.Fw (o' := .dT (ws++[(key,V.ref a1)])) bp' (F3 p (.inl rfl)).1 N3.top (λz=>z) z.2;have lw:(ws++[(key,V.ref a1)])[ws.length]? =some (key,V.ref a1):=by rw[GaM (Gar _),Nat.sub_self];rfl
      have lk:(kvs++[(key,DL.D.lst [])])[ws.length]? =some (key,DL.D.lst []):=by rw[←hlen,GaM (Gar _),Nat.sub_self];rfl
      refine fin _ _ (kvs++[(key,DL.D.lst [])]) ws.length a1 [] E4 N4 F3 (((nM.same s1).trans (.same sA)).trans (.upd N3.top λz=>z)) lw lk (by rw[size_eq,GbP];exact(by decide:(0:Nat)<16777216)) ?_;rw[ek,←hlen,List.set_append_right _ _ (Gar _),Nat.sub_self]
      rfl
  ·cases e
 |_=>cases e
theorem Ky{px:Pos}(hp:PassesOwn (model X.prog X.w) X.A X.env X.xe)(hc:X.calm=true)(he:PEd X e f)(hN:X.N.Nodup)(hj:X.N[j]? =some x)(hx:Loc X.env.scope x)(hij:i≠j)(hb:PSs X body (tM X i n1))
  (hs:∀x,foldedSetIterable e X.env x=pure x:=by intro _;rfl)
  (hf:X.fn x=true∨X.env.scope.names.lookup x=some .local:=by first|exact .inl rfl|exact .inr rfl|assumption):
  PS X (.For (.Name x px) e body [] pos) (tM X i (J5 j f n1)):=by
 refine(En hp hc (ET he) (Bz hN hj hx hf) hb hs).aU ?_;rintro D σ H ⟨H₀,Bad,env,p,ws,kvs,q,E,N,h0,e,k⟩;obtain⟨⟨kr,d⟩,hr,e⟩:=bindM e;split at e
 ·rename_i xs hd;have hd' :d= .tup xs:=hd;subst hd';split at e
  ·rename_i him;refine⟨H₀,_,env,_,E,hr,λv H1 s1 R=> ?_⟩;have i1:Inn X.K (Cln (i7 Bad p ws) env σ) H1 (.tup xs) v:=R.inn;cases i1 with
   | @tup la lv _ hla rr=>
    have hll:xs.length=lv.length:=rr.1;refine⟨_,rfl,.inr ⟨⟨_,SqT.of hla⟩, ?_⟩⟩;refine⟨λc n σ' H' =>n=xs.length -c∧c≤xs.length∧nM H1 H' ∧∃envi wsi kvi,aI X.K H₀ (i7 Bad p wsi) envi σ' H' ∧fq X.K (i7 Bad p wsi) envi σ' H' i p wsi kvi∧FrW H₀ Bad p wsi∧nY j n1 (xs.drop c) envi kvi=some q,
     ⟨xs.length,by simp,GbH _,λ_ _ e _=>e,env,ws,kvs,E.mono s1,N.mono s1,h0,by simpa using e⟩, ?_⟩
    rintro c n σ' H' ⟨rfl,hle,tS,envi,wsi,kvi,Ei,Ni,Fi,ei⟩;have hla' :H' la=some (.tup lv):=tS _ _ hla trivial;by_cases hlt:c<xs.length
    ·have hd:xs.drop c=xs[c]::xs.drop (c+1):=GbC hlt;rw[hd] at ei;unfold nY at ei;obtain⟨q1,hq,ei⟩:=bindM ei;have hlv:lv[c]? =some (lv[c]'(by omega)):=Gab _;refine .inr ⟨⟨lv,_,SqT.of hla',hlv⟩,λσ2 H2=>nM H1 H2∧∃envi wsi kvi,aI X.K H₀ (i7 Bad p wsi) envi σ2 H2∧fq X.K (i7 Bad p wsi) envi σ2 H2 i p wsi kvi∧FrW H₀ Bad p wsi∧nY j n1 (xs.drop (c+1)) envi kvi=some q,λσ2 H2 z=> ⟨xs.length -(c+1),by omega,rfl,hlt,z⟩,λy H2 ⟨e2,e3⟩=> ?_⟩;subst e2;have ey:=e3 _ (SqT.of hla');rw[hlv] at ey;cases ey;have rep0:=rr.2 c _ _ (Gab hlt) hlv;have rep1:Rep X.K (λ_=>False) H1 xs[c] lv[c]:=rep0.imm (qO him c _ (Gab hlt));have rep2:Rep X.K (Cln (i7 Bad p wsi) envi σ') H2 xs[c] lv[c]:=rep1.gen (λb o hb w=>w.elim (λz=>z.elim) λw=>tS b o hb w) λ_ z _=>z.elim;refine⟨H₀,Bad,envi.set j (some (.sh xs[c])),p,wsi,kvi,q1,Ei.lK rep2,Ni.lK hij,Fi,hq,λσ3 H3 ws3 E3 N3 F3 t3=> ?_⟩;exact⟨tS.trans t3,q1.1,ws3,q1.2,E3,N3,F3,ei⟩
    ·have hc' :c=xs.length:=by omega
     subst hc';rw[GbT] at ei;cases ei;exact .inl ⟨⟨lv,SqT.of hla',by omega⟩,k σ' H' wsi Ei Ni Fi ((nM.same s1).trans tS)⟩
  ·cases e
 ·cases e
theorem Dt{pos' dp px rp:Pos}(hN:X.N.Nodup)(hi:X.N[i]? =some x)(hx:Loc X.env.scope x)(hv:Vis X.env.scope x)(h1:PS X st (tM X i n1))(hd:(x==("__debug__":Str))=false:=by decide)(hcd:(x==("__classdict__":Str))=false:=by decide)
  (hs:swapsWith (.Dict [] [] dp) (some (.Name x pos')) pos.line X.env=pure false:=by rfl)
  (hf:X.fn x=true∨X.env.scope.names.lookup x=some .local:=by first|exact .inl rfl|exact .inr rfl|assumption):
  lA X [.Assign [.Name x pos'] (.Dict [] [] dp) pos,st,.Return (some (.Name x px)) rp] (EF i n1):=by
 intro pins z σ H D I hw;have hl:=I.len;refine(nR (AE hN hi hx wg hs hf) (nR h1 (uO (Ej (lB hi hv hd hcd))))) pins z σ H D I ?_;obtain⟨H₀,Bad,env,o,E,e,k⟩:=hw;obtain⟨q,hq,e⟩:=bindM e;cases e;have hie:i<env.length:=ER E hl hi;have hie' :i<σ.length:=by rw[←E.len];exact hie
 intro p np;have eB:(λb=>Bad b∨b=p)=i7 Bad p []:=by
  funext b
  apply propext;unfold i7;simp
 have E1:aI X.K H₀ (i7 Bad p []) (env.set i none) (σ.set i (some (.ref p))) (upd H p (.dT [])):=by
  rw[←eB];exact(E.hide i (.ref p)).C7 (New:=λb=>b=p) (bG np) (λb hb=>by rw[hb];exact np) λb hb=>by rw[hb,aM];simp
 have N1:fq X.K (i7 Bad p []) (env.set i none) (σ.set i (some (.ref p))) (upd H p (.dT [])) i p [] []:=
  ⟨cD hie',cD hie,aM,rfl,λj k v d h=>by simp at h,λj j' k k' a h=>by simp at h⟩
 have F1:FrW H₀ Bad p []:=λb hb=>by
  rcases hb with rfl|hb
  ·exact⟨E.same.free np,λq=>E.bad b q np⟩
  ·simp at hb
 refine⟨H₀,Bad,env.set i none,p,[],[],q,E1,N1,F1,hq,λσ' H' ws' E' N' F' _=> ?_⟩;refine⟨.ref p,N'.at_,k (.ref p) H' E'.same ⟨λ_=> ⟨p,rfl,(F' p (.inl rfl)).1,⟨_,N'.top,trivial⟩⟩,.dT N'.top ⟨N'.keys,λj pd wd e1 e2=> ?_⟩⟩⟩;obtain⟨kd,dd⟩:=pd;obtain⟨kw,vw⟩:=wd;have ek:kd=kw:=Be N'.keys e1 e2;subst ek;obtain⟨a,ds,vs,r1,r2,r3,r4,r5⟩:=N'.row j kd vw dd e2 e1;subst r1 r2;have fa:=F' a (.inr (GaF.mpr ⟨_,GaK e2,rfl⟩));exact .lst ⟨fa.1,λz=>r3 (by cases z;rfl)⟩ (.inl r4) r5.1 λj' d v h1 h2=>(r5.2 j' d v h1 h2).imp λ_ z=>z.elim
end
section
variable{X:Cx}
theorem Du{ds:List D}{r:RV}(h:sortedS ds=some r):g9 ds=some r:=by
 obtain⟨d,xs,rfl,h1,h2⟩:=AY h;split at h2
 ·rename_i c;rw[Gau] at c;have c1:=GaE c.1;unfold g9 one;simp only[h1,Option.bind_some];rw[GaN (by omega:xs.length<1000000),c.2];exact h2
 ·cases h2
theorem gL:CallD X sortedS (rR X.K):=λF H ds vs rv Q ps e k=>jY F H ds vs rv Q ps (Du e) k
end
theorem fS{N P:List Str}{sc:Scope}(a:sc.kind= .function:=by rfl)(b:sc.isCoroutine=false:=by rfl)(c:sc.isGenerator=false:=by rfl)(d:N.Nodup:=by decide+kernel)(e:N.take P.length=P:=by rfl)(f:∀x∈P,sc.names.lookup x=some .local∨sc.names.lookup x=some .cell:=by decide+kernel)(g:∀y∈sc.names,y.2≠ .free:=by decide+kernel):aW N P sc:=⟨a,b,c,d,e,f,g⟩
end DL
namespace Den
open DL PySem
noncomputable def kI:DS:=
 (aG (ifS (aZ eqB (ixE (vE 0) (kE (.int 0))) (kE (.str "ever")))
  (retS (ixE (vE 0) (kE (.int 1))))
  bf)
 (aG (ifS (aZ eqB (ixE (vE 0) (kE (.int 0))) (kE (.str "flat")))
  (retS (ixE (vE 0) (kE (.int 2))))
  bf)
 (aG (ifS (aZ nV (vE 1) (kE .non))
  (retS (kE .non))
  bf)
 (retS (opE lF (opE dE (vE 1) (ixE (vE 0) (kE (.int 2)))) (ixE (vE 0) (kE (.int 3))))))))
noncomputable def jD:List D→Option D:=dR 2 2 kI
noncomputable def kb:DS:=
 (aG (aR 2 (ixE (vE 0) (kE (.int 4))))
 (aG (ifS (aZ eqB (ixE (vE 2) (kE (.int 0))) (kE (.str "asked")))
  (retS (kE .non))
  bf)
 (aG (aR 3 (opE k5 (vE 1) (opE k5 (ixE (vE 2) (kE (.int 1))) (ixE (vE 2) (kE (.int 4))))))
 (aG (aR 4 (opE lF (vE 3) (ixE (vE 2) (kE (.int 2)))))
 (aG (ifS (orT (uT (EA leB ltB (kE (.int 0)) (vE 4) (ixE (vE 2) (kE (.int 3))))) (aZ gtB (opE k5 (vE 3) (opE dE (vE 4) (ixE (vE 2) (kE (.int 2))))) (opE aT (ixE (vE 2) (kE (.int 4))) (ixE (vE 2) (kE (.int 5))))))
  (retS (kE .non))
  bf)
 (retS (vE 4)))))))
noncomputable def jk:List D→Option D:=dR 5 2 kb
noncomputable def lR:DS:=
 (aG (aR 2 (ixE (vE 0) (kE (.int 4))))
 (aG (ifS (aZ eqB (ixE (vE 2) (kE (.int 0))) (kE (.str "asked")))
  (retS (bE (aZ ltB (vE 1) (ixE (vE 2) (kE (.int 1))))))
  bf)
 (retS (bE (aZ nV (aH jk (a5 (vE 0) (a5 (vE 1) aq))) (kE .non))))))
noncomputable def lS:List D→Option D:=dR 3 2 lR
noncomputable def jm:DS:=
 (ifS (jy (aZ eqB (ixE (vE 4) (kE (.int 0))) (vE 1)) (aZ leB (ixE (vE 4) (kE (.int 1))) (vE 2)))
  (aR 3 (ixE (vE 4) (kE (.int 2))))
  bf)
noncomputable def i8:DS:=
 (aG (aR 3 (kE .non))
 (aG (gZ (some 0) (lu (vE 0)) (gN 4)
  jm)
 (retS (vE 3))))
noncomputable def i9:List D→Option D:=dR 5 3 i8
noncomputable def fU:DT:=
 (jy (aZ iE (vE 1) (kE .non)) (aZ leB (ixE (ixE (vE 2) (vE 5)) (kE (.int 0))) (opE k5 (ixE (vE 7) (kE (.int 0))) (vE 1))))
noncomputable def j7:DS:=
 (aG (aR 4 (opE k5 (vE 4) (ixE (ixE (vE 2) (vE 5)) (kE (.int 1)))))
 (aR 5 (opE aT (vE 5) (kE (.int 1)))))
noncomputable def cZ:DS:=
 (aG (aR 4 (opE aT (vE 4) (ixE (vE 7) (kE (.int 1)))))
 (aG (uV fU
  j7)
 (ifS (orT (aZ eqB (opE aT (vE 6) (kE (.int 1))) (dP cO (a5 (vE 2) aq))) (aZ gtB (ixE (ixE (vE 2) (opE aT (vE 6) (kE (.int 1)))) (kE (.int 0))) (ixE (vE 7) (kE (.int 0)))))
  (mL 3 (bM (a5 (ixE (vE 7) (kE (.int 0))) (a5 (vE 4) aq))))
  bf)))
noncomputable def rV:DS:=
 (aG (aR 2 (dP sortedS (a5 (vE 0) aq)))
 (aG (aR 3 (gE aq))
 (aG (aR 4 (kE (.int 0)))
 (aG (aR 5 (kE (.int 0)))
 (aG (gZ (some 2) (BK (vE 2)) (gT [6,7])
  cZ)
 (retS (vE 3)))))))
noncomputable def jZ:List D→Option D:=dR 8 2 rV
noncomputable def fb:DS:=
 (retS (dP anyS (a5 (rf none 1 [] (lu (ixE (vE 0) (kE (.int 2)))) (gN 0) jb (bE (aZ eqB (ixE (vE 0) (kE (.int 0))) (kE (.str "kilo"))))) aq)))
noncomputable def fc:List D→Option D:=dR 1 1 fb
noncomputable def gM:DS:=
 (aG (aR 3 (ixE (vE 2) (kE (.int 0))))
 (aG (aR 4 (ixE (vE 2) (kE (.int 1))))
 (aG (aR 5 (ixE (vE 2) (kE (.int 2))))
 (aG (aR 6 (ixE (ixE (vE 0) (kE (.int 3))) (vE 3)))
 (aG (aR 7 (ixE (ixE (vE 0) (kE (.int 1))) (ixE (vE 6) (kE (.int 2)))))
 (aG (aR 8 (gE aq))
 (aG (ifS (wk (aH lS (a5 (vE 6) (a5 (vE 4) aq))))
  (mL 8 (kE (.str "astray")))
  bf)
 (aG (ifS (aZ gtB (vE 5) (ixE (ixE (vE 6) (kE (.int 3))) (kE (.int 3))))
  (mL 8 (kE (.str "most")))
  bf)
 (aG (ifS (orT (aZ ltB (vE 5) (kE (.int 1))) (aZ neB (opE r6 (vE 5) (ixE (ixE (vE 7) (kE (.int 1))) (kE (.int 0)))) (kE (.int 0))))
  (mL 8 (kE (.str "part")))
  bf)
 (aG (ifS (jy (wk (aH fc (a5 (vE 7) aq))) (aZ nV (aH i9 (a5 (vE 1) (a5 (ixE (vE 6) (kE (.int 1))) (a5 (vE 4) aq)))) (kE .non)))
  (mL 8 (kE (.str "weight")))
  bf)
 (aG (ifS (aZ ltB (vE 4) (opE aT (ixE (ixE (ixE (vE 0) (kE (.int 0))) (ixE (vE 6) (kE (.int 1)))) (kE (.int 1))) (ixE (vE 7) (kE (.int 3)))))
  (mL 8 (kE (.str "young")))
  bf)
 (retS (rf (some 8) 1 [3,4] (lu (vE 8)) (gN 0) jb (bM (a5 (vE 0) (a5 (vE 1) (a5 (vE 2) aq)))))))))))))))))
noncomputable def fC:List D→Option D:=dR 9 3 gM
noncomputable def bU:DM:=
 (MC (setM 4 (ixE (ixE (vE 0) (kE (.int 3))) (ixE (vE 3) (kE (.int 0)))))
 (MD (bM (a5 (ixE (vE 4) (kE (.int 1))) (a5 (ixE (vE 4) (kE (.int 2))) aq))) (bM (a5 (ixE (vE 3) (kE (.int 1))) (a5 (ixE (vE 3) (kE (.int 2))) aq)))))
noncomputable def dI:DS:=
 (EF 2 (J5 3 (vE 1) bU))
noncomputable def cP:List D→Option D:=dR 5 2 dI
noncomputable def cH:DS:=
 (aG (aR 11 (aH jD (a5 (vE 8) (a5 (aH i9 (a5 (vE 1) (a5 (vE 6) (a5 (ixE (vE 10) (kE (.int 0))) aq)))) aq))))
 (ifS (jy (aZ iE (vE 11) (kE .non)) (aZ gtB (ixE (vE 10) (kE (.int 1))) (vE 11)))
  (mL 3 (bM (a5 (kE (.str "cap")) (a5 (vE 6) (a5 (ixE (vE 4) (kE (.int 1))) (a5 (vE 7) (a5 (ixE (vE 10) (kE (.int 0))) (a5 (ixE (vE 10) (kE (.int 1))) (a5 (vE 11) aq)))))))))
  bf))
noncomputable def cI:DS:=
 (aG (aR 9 (ifE (aZ eqB (ixE (vE 8) (kE (.int 0))) (kE (.str "ever"))) (kE .non) (ixE (vE 8) (kE (.int 1)))))
 (gZ none (lu (aH jZ (a5 (vE 5) (a5 (vE 9) aq)))) (gN 10)
  cH))
noncomputable def dC:DS:=
 (aG (aR 6 (ixE (vE 4) (kE (.int 0))))
 (gZ none (BK (ixE (ixE (ixE (vE 0) (kE (.int 1))) (ixE (vE 4) (kE (.int 1)))) (kE (.int 2)))) (gT [7,8])
  cI))
noncomputable def iL:DS:=
 (aG (aR 3 (gE aq))
 (aG (gZ none (EC bN (aH cP (a5 (vE 0) (a5 (vE 2) aq)))) (gT [4,5])
  dC)
 (retS (vE 3))))
noncomputable def gm:List D→Option D:=dR 12 3 iL
noncomputable def cX:DS:=
 (aG (sZ 1 (bM (a5 (ixE (vE 2) (kE (.int 0))) (a5 (ixE (vE 2) (kE (.int 1))) aq))) (ixE (vE 2) (kE (.int 2))))
 (sZ 1 (bM (a5 (ixE (vE 2) (kE (.int 1))) (a5 (ixE (vE 2) (kE (.int 0))) aq))) (ixE (vE 2) (kE (.int 2)))))
noncomputable def ff:DS:=
 (aG (aR 1 (pb))
 (aG (gZ (some 0) (lu (vE 0)) (gN 2)
  cX)
 (retS (vE 1))))
noncomputable def fg:List D→Option D:=dR 3 1 ff
noncomputable def gO:DS:=
 (aG (ifS (aZ neB (ixE (vE 1) (kE (.int 1))) (ixE (vE 2) (kE (.int 1))))
  (retS (kE (.int 0)))
  bf)
 (retS (Ho (vE 0) (bM (a5 (ixE (vE 1) (kE (.int 2))) (a5 (ixE (vE 2) (kE (.int 2))) aq))) (kE (.int 0)))))
noncomputable def gP:List D→Option D:=dR 3 3 gO
noncomputable def bL:DS:=
 (aG (aR 9 (opE k5 (ixE (vE 8) (kE (.int 0))) (ixE (vE 7) (kE (.int 0)))))
 (aG (ifS (aZ geB (vE 9) (vE 3))
  bkS
  bf)
 (ifS (aZ ltB (vE 9) (aH gP (a5 (vE 2) (a5 (ixE (ixE (vE 0) (kE (.int 3))) (ixE (vE 7) (kE (.int 1)))) (a5 (ixE (ixE (vE 0) (kE (.int 3))) (ixE (vE 8) (kE (.int 1)))) aq)))))
  (mL 5 (bM (a5 (kE (.str "gap")) (a5 (ixE (vE 7) (kE (.int 1))) (a5 (ixE (vE 7) (kE (.int 0))) (a5 (ixE (vE 8) (kE (.int 1))) (a5 (ixE (vE 8) (kE (.int 0))) aq)))))))
  bf)))
noncomputable def cJ:DS:=
 (gZ none (lu (slE (vE 4) (fW (opE aT (vE 6) (kE (.int 1)))) noO)) (gN 8)
  bL)
noncomputable def iM:DS:=
 (aG (aR 2 (aH fg (a5 (ixE (vE 0) (kE (.int 2))) aq)))
 (aG (aR 3 (mmE AS (.int 0) (rf none 1 [] (lu (ixE (vE 0) (kE (.int 2)))) (gN 0) jb (ixE (vE 0) (kE (.int 2))))))
 (aG (aR 4 (dP sortedS (a5 (rf (some 1) 1 [] (lu (vE 1)) (gN 0) jb (bM (a5 (ixE (vE 0) (kE (.int 1))) (a5 (ixE (vE 0) (kE (.int 0))) aq)))) aq)))
 (aG (aR 5 (gE aq))
 (aG (gZ (some 4) (BK (vE 4)) (gT [6,7])
  cJ)
 (retS (vE 5)))))))
noncomputable def gn:List D→Option D:=dR 10 2 iM
noncomputable def bZ:DS:=
 (aG (aR 4 (aH jk (a5 (ixE (ixE (vE 0) (kE (.int 3))) (ixE (vE 3) (kE (.int 0)))) (a5 (ixE (vE 3) (kE (.int 1))) aq))))
 (ifS (aZ iE (vE 4) (kE .non))
  (sZ 2 (bM (a5 (ixE (vE 3) (kE (.int 0))) (a5 (vE 4) aq))) (opE aT (Ho (vE 2) (bM (a5 (ixE (vE 3) (kE (.int 0))) (a5 (vE 4) aq))) (kE (.int 0))) (kE (.int 1))))
  bf))
noncomputable def gp:DS:=
 (aG (aR 2 (pb))
 (aG (gZ (some 1) (lu (vE 1)) (gN 3)
  bZ)
 (retS (ph bN 2 2 [] (gT [0,1]) (aZ gtB (vE 1) (kE (.int 1))) (bM (a5 (kE (.str "twice")) (a5 (ixE (vE 0) (kE (.int 0))) (a5 (ixE (vE 0) (kE (.int 1))) aq))))))))
noncomputable def dU:List D→Option D:=dR 5 2 gp
noncomputable def ie:DS:=
 (M6 4 (aH fC (a5 (vE 0) (a5 (vE 2) (a5 (vE 5) aq)))))
noncomputable def ou:DS:=
 (aG (aR 2 (ixE (vE 1) (kE (.int 0))))
 (aG (aR 3 (ixE (vE 1) (kE (.int 1))))
 (aG (aR 4 (opE aT (opE aT (aH gm (a5 (vE 0) (a5 (vE 2) (a5 (vE 3) aq)))) (aH gn (a5 (vE 0) (a5 (vE 3) aq)))) (aH dU (a5 (vE 0) (a5 (vE 3) aq)))))
 (aG (gZ (some 3) (lu (vE 3)) (gN 5)
  ie)
 (retS (dP g9 (a5 (vE 4) aq)))))))
noncomputable def lT:List D→Option D:=dR 6 2 ou
noncomputable def ao:DS:=
 (aG (aR 3 (kE (.int 0)))
 (aG (ifS (aZ gtB (dP cO (a5 (vE 0) aq)) (kE (.int 0)))
  (aR 3 (opE r6 (ixE (vE 0) (opE r6 (vE 1) (dP cO (a5 (vE 0) aq)))) (kE (.int 1000003))))
  bf)
 (retS (opE r6 (opE lF (opE r6 (opE dE (opE r6 (opE dE (opE aT (vE 3) (kE (.int 1))) (opE aT (opE aT (opE dE (vE 1) (vE 1)) (vE 1)) (kE (.int 41)))) (kE (.int 999983))) (kE (.int 48271))) (kE (.int 2147483647))) (kE (.int 11))) (vE 2)))))
noncomputable def a9:List D→Option D:=dR 4 3 ao
noncomputable def fD:DS:=
 (aG (aR 6 (opE aT (opE aT (vE 1) (kE (.int 1))) (opE dE (kE (.int 4)) (vE 5))))
 (aG (aR 7 (opE dE (vE 3) (opE aT (kE (.int 1)) (aH a9 (a5 (vE 0) (a5 (vE 6) (a5 (kE (.int 30)) aq)))))))
 (aG (aR 8 (aH a9 (a5 (vE 0) (a5 (opE aT (vE 6) (kE (.int 2))) (a5 (kE (.int 3)) aq)))))
 (aG (ifS (aZ eqB (vE 8) (kE (.int 0)))
  (mL 4 (bM (a5 (kE (.str "flat")) (a5 (vE 7) (a5 (opE dE (vE 2) (opE aT (kE (.int 1)) (aH a9 (a5 (vE 0) (a5 (opE aT (vE 6) (kE (.int 1))) (a5 (kE (.int 30)) aq)))))) aq)))))
  bf)
 (aG (ifS (aZ eqB (vE 8) (kE (.int 1)))
  (aG (aR 9 (opE dE (vE 2) (opE aT (kE (.int 1)) (aH a9 (a5 (vE 0) (a5 (opE aT (vE 6) (kE (.int 1))) (a5 (kE (.int 9)) aq)))))))
 (mL 4 (bM (a5 (kE (.str "kilo")) (a5 (vE 7) (a5 (vE 9) (a5 (opE aT (kE (.int 1)) (aH a9 (a5 (vE 0) (a5 (opE aT (vE 6) (kE (.int 3))) (a5 (kE (.int 40)) aq))))) aq)))))))
  bf)
 (ifS (aZ eqB (vE 8) (kE (.int 2)))
  (mL 4 (bM (a5 (kE (.str "ever")) (a5 (opE dE (vE 2) (opE aT (kE (.int 2)) (aH a9 (a5 (vE 0) (a5 (opE aT (vE 6) (kE (.int 1))) (a5 (kE (.int 60)) aq)))))) aq))))
  bf))))))
noncomputable def kJ:DS:=
 (aG (aR 4 (gE aq))
 (aG (gZ none (iI (ixE (gE (a5 (kE (.int 0)) (a5 (kE (.int 1)) (a5 (kE (.int 1)) (a5 (kE (.int 2)) (a5 (kE (.int 3)) (a5 (kE (.int 4)) aq))))))) (aH a9 (a5 (vE 0) (a5 (vE 1) (a5 (kE (.int 6)) aq)))))) (gN 5)
  fD)
 (retS (dP j9 (a5 (vE 4) aq)))))
noncomputable def jn:List D→Option D:=dR 10 4 kJ
noncomputable def cK:DS:=
 (aG (aR 4 (opE aT (kE (.int 100)) (opE dE (kE (.int 30)) (vE 3))))
 (aG (aR 5 (ixE (gE (a5 (kE (.int 1)) (a5 (kE (.int 2)) (a5 (kE (.int 5)) (a5 (kE (.int 12)) (a5 (opE p9 (kE (.int 10)) (kE (.int 5))) aq)))))) (aH a9 (a5 (vE 0) (a5 (vE 4) (a5 (kE (.int 5)) aq))))))
 (aG (aR 6 (ixE (gE (a5 (bM (a5 (vE 5) aq)) (a5 (bM (a5 (vE 5) (a5 (opE dE (kE (.int 2)) (vE 5)) aq))) (a5 (bM (a5 (vE 5) (a5 (opE dE (kE (.int 3)) (vE 5)) (a5 (opE dE (kE (.int 7)) (vE 5)) aq)))) aq)))) (aH a9 (a5 (vE 0) (a5 (opE aT (vE 4) (kE (.int 1))) (a5 (kE (.int 3)) aq))))))
 (aG (aR 7 (opE dE (ixE (gE (a5 (kE (.int 0)) (a5 (vE 1) aq))) (aH a9 (a5 (vE 0) (a5 (opE aT (vE 4) (kE (.int 2))) (a5 (kE (.int 2)) aq))))) (aH a9 (a5 (vE 0) (a5 (opE aT (vE 4) (kE (.int 3))) (a5 (kE (.int 20)) aq))))))
 (mL 2 (bM (a5 (opE aT (kE (.str "stuff")) (ixE (kE (.str "abcdef")) (vE 3))) (a5 (vE 6) (a5 (aH jn (a5 (vE 0) (a5 (opE aT (vE 4) (kE (.int 5))) (a5 (vE 5) (a5 (vE 1) aq))))) (a5 (vE 7) aq))))))))))
noncomputable def iN:DS:=
 (aG (aR 2 (gE aq))
 (aG (gZ none (iI (ixE (gE (a5 (kE (.int 1)) (a5 (kE (.int 2)) (a5 (kE (.int 3)) (a5 (kE (.int 3)) (a5 (kE (.int 2)) (a5 (kE (.int 6)) aq))))))) (aH a9 (a5 (vE 0) (a5 (kE (.int 21)) (a5 (kE (.int 6)) aq)))))) (gN 3)
  cK)
 (retS (dP j9 (a5 (vE 2) aq)))))
noncomputable def gq:List D→Option D:=dR 8 2 iN
noncomputable def fE:DS:=
 (aG (aR 6 (opE aT (opE aT (kE (.int 3000)) (opE dE (kE (.int 18)) (vE 4))) (opE dE (kE (.int 3)) (vE 5))))
 (ifS (jy (aZ ltB (dP cO (a5 (vE 3) aq)) (kE (.int 12))) (aZ eqB (aH a9 (a5 (vE 0) (a5 (vE 6) (a5 (kE (.int 3)) aq)))) (kE (.int 0))))
  (aG (aR 7 (bM (a5 (vE 4) (a5 (vE 5) (a5 (opE dE (vE 2) (opE aT (kE (.int 1)) (aH a9 (a5 (vE 0) (a5 (opE aT (vE 6) (kE (.int 1))) (a5 (kE (.int 10)) aq)))))) aq)))))
 (MA 3 (aH a9 (a5 (vE 0) (a5 (opE aT (vE 6) (kE (.int 2))) (a5 (opE aT (dP cO (a5 (vE 3) aq)) (kE (.int 1))) aq)))) (vE 7)))
  bf))
noncomputable def fF:DS:=
 (gZ none (BI (vE 4) (vE 1)) (gN 5)
  fE)
noncomputable def kK:DS:=
 (aG (aR 3 (gE aq))
 (aG (gZ none (iI (vE 1)) (gN 4)
  fF)
 (retS (dP j9 (a5 (vE 3) aq)))))
noncomputable def jo:List D→Option D:=dR 8 3 kK
noncomputable def jq:DS:=
 (aG (ifS (aZ eqB (aH a9 (a5 (vE 0) (a5 (vE 1) (a5 (kE (.int 3)) aq)))) (kE (.int 0)))
  (retS (bM (a5 (kE (.str "asked")) (a5 (opE dE (vE 2) (aH a9 (a5 (vE 0) (a5 (opE aT (vE 1) (kE (.int 1))) (a5 (kE (.int 20)) aq))))) aq))))
  bf)
 (aG (aR 3 (opE dE (vE 2) (opE aT (kE (.int 1)) (aH a9 (a5 (vE 0) (a5 (opE aT (vE 1) (kE (.int 2))) (a5 (kE (.int 12)) aq)))))))
 (aG (aR 4 (opE dE (vE 2) (aH a9 (a5 (vE 0) (a5 (opE aT (vE 1) (kE (.int 3))) (a5 (opE lF (vE 3) (vE 2)) aq))))))
 (aG (aR 5 (opE dE (vE 2) (aH a9 (a5 (vE 0) (a5 (opE aT (vE 1) (kE (.int 4))) (a5 (opE lF (opE k5 (vE 3) (vE 4)) (vE 2)) aq))))))
 (aG (aR 6 (opE aT (vE 4) (opE dE (vE 2) (aH a9 (a5 (vE 0) (a5 (opE aT (vE 1) (kE (.int 5))) (a5 (kE (.int 10)) aq)))))))
 (retS (bM (a5 (kE (.str "due")) (a5 (vE 6) (a5 (vE 3) (a5 (ixE (gE (a5 (kE (.int 1)) (a5 (kE (.int 2)) (a5 (kE (.int 4)) (a5 (kE (.int 6)) (a5 (kE (.int 60)) aq)))))) (aH a9 (a5 (vE 0) (a5 (opE aT (vE 1) (kE (.int 6))) (a5 (kE (.int 5)) aq))))) (a5 (vE 4) (a5 (vE 5) aq)))))))))))))
noncomputable def jr:List D→Option D:=dR 7 3 jq
noncomputable def dW:DS:=
 (mL 2 (bM (a5 (opE aT (kE (.str "guest")) (ixE (kE (.str "abcdef")) (vE 3))) (a5 (opE dE (vE 1) (aH a9 (a5 (vE 0) (a5 (opE aT (kE (.int 30)) (vE 3)) (a5 (kE (.int 15)) aq))))) aq))))
noncomputable def d9:DS:=
 (aG (aR 7 (opE aT (kE (.int 300)) (opE dE (kE (.int 20)) (vE 6))))
 (aG (aR 8 (aH a9 (a5 (vE 0) (a5 (vE 7) (a5 (dP cO (a5 (vE 4) aq)) aq)))))
 (aG (aR 9 (opE dE (ixE (ixE (ixE (vE 4) (vE 8)) (kE (.int 1))) (kE (.int 0))) (ixE (gE (a5 (kE (.int 4)) (a5 (kE (.int 15)) (a5 (kE (.int 2000)) aq)))) (aH a9 (a5 (vE 0) (a5 (opE aT (vE 7) (kE (.int 1))) (a5 (kE (.int 3)) aq)))))))
 (aG (aR 10 (bM (a5 (ixE (gE (a5 (kE (.str "down")) (a5 (kE (.str "up")) (a5 (kE (.str "near")) aq)))) (opE r6 (vE 6) (kE (.int 3)))) (a5 (opE aT (kE (.int 1)) (aH a9 (a5 (vE 0) (a5 (opE aT (vE 7) (kE (.int 2))) (a5 (kE (.int 90)) aq))))) (a5 (aH a9 (a5 (vE 0) (a5 (opE aT (vE 7) (kE (.int 3))) (a5 (kE (.int 9)) aq)))) (a5 (vE 9) aq))))))
 (aG (aR 11 (aH jr (a5 (vE 0) (a5 (opE aT (vE 7) (kE (.int 4))) (a5 (vE 1) aq)))))
 (aG (aR 12 (bM aq))
 (aG (ifS (jy (aZ eqB (ixE (vE 11) (kE (.int 0))) (kE (.str "due"))) (aZ gtB (ixE (vE 11) (kE (.int 3))) (kE (.int 2))))
  (aR 12 (bM (a5 (bM (a5 (kE (.int 1)) (a5 (kE (.int 1)) (a5 (kE (.int 2)) aq)))) (a5 (bM (a5 (kE (.int 2)) (a5 (kE (.int 1)) (a5 (kE (.int 3)) aq)))) aq))))
  bf)
 (mL 5 (bM (a5 (opE aT (kE (.str "order")) (ixE (kE (.str "abcdefghijkl")) (vE 6))) (a5 (aH a9 (a5 (vE 0) (a5 (opE aT (vE 7) (kE (.int 12))) (a5 (dP cO (a5 (vE 2) aq)) aq)))) (a5 (vE 8) (a5 (vE 10) (a5 (vE 11) (a5 (vE 12) aq)))))))))))))))
noncomputable def jE:DS:=
 (aG (aR 1 (ixE (gE (a5 (kE (.int 1)) (a5 (kE (.int 1)) (a5 (kE (.int 1)) (a5 (kE (.int 1)) (a5 (kE (.int 1)) (a5 (opE p9 (kE (.int 10)) (kE (.int 6))) aq))))))) (aH a9 (a5 (vE 0) (a5 (kE (.int 1)) (a5 (kE (.int 6)) aq))))))
 (aG (aR 2 (gE aq))
 (aG (gZ none (iI (ixE (gE (a5 (kE (.int 1)) (a5 (kE (.int 2)) (a5 (kE (.int 3)) (a5 (kE (.int 2)) (a5 (kE (.int 3)) (a5 (kE (.int 6)) aq))))))) (aH a9 (a5 (vE 0) (a5 (kE (.int 20)) (a5 (kE (.int 6)) aq)))))) (gN 3)
  dW)
 (aG (aR 4 (aH gq (a5 (vE 0) (a5 (vE 1) aq))))
 (aG (aR 5 (gE aq))
 (aG (gZ none (iI (ixE (gE (a5 (kE (.int 1)) (a5 (kE (.int 2)) (a5 (kE (.int 3)) (a5 (kE (.int 4)) (a5 (kE (.int 4)) (a5 (kE (.int 12)) aq))))))) (aH a9 (a5 (vE 0) (a5 (kE (.int 22)) (a5 (kE (.int 6)) aq)))))) (gN 6)
  d9)
 (retS (bM (a5 (dP j9 (a5 (vE 2) aq)) (a5 (vE 4) (a5 (aH jo (a5 (vE 0) (a5 (dP cO (a5 (vE 4) aq)) (a5 (vE 1) aq)))) (a5 (dP j9 (a5 (vE 5) aq)) aq))))))))))))
noncomputable def ij:List D→Option D:=dR 13 1 jE
noncomputable def kL:DS:=
 (aG (aR 4 (ixE (gE (a5 (kE (.int 1)) (a5 (kE (.int 1)) (a5 (kE (.int 1)) (a5 (kE (.int 1)) (a5 (kE (.int 1)) (a5 (opE p9 (kE (.int 10)) (kE (.int 6))) aq))))))) (aH a9 (a5 (vE 0) (a5 (kE (.int 1)) (a5 (kE (.int 6)) aq))))))
 (aG (aR 5 (ixE (ixE (ixE (vE 1) (kE (.int 3))) (vE 2)) (kE (.int 4))))
 (aG (aR 6 (opE dE (vE 4) (aH a9 (a5 (vE 0) (a5 (vE 3) (a5 (kE (.int 70)) aq))))))
 (aG (ifS (jy (aZ eqB (ixE (vE 5) (kE (.int 0))) (kE (.str "due"))) (aZ gtB (aH a9 (a5 (vE 0) (a5 (opE aT (vE 3) (kE (.int 3000))) (a5 (kE (.int 4)) aq)))) (kE (.int 0))))
  (aG (aR 7 (opE aT (ixE (vE 5) (kE (.int 1))) (opE dE (aH a9 (a5 (vE 0) (a5 (vE 3) (a5 (dP nW (a5 (ixE (vE 5) (kE (.int 3))) (a5 (kE (.int 6)) aq))) aq)))) (ixE (vE 5) (kE (.int 2))))))
 (aG (aR 8 (gE (a5 (vE 7) (a5 (opE k5 (vE 7) (ixE (vE 5) (kE (.int 4)))) (a5 (opE aT (vE 7) (ixE (vE 5) (kE (.int 5)))) (a5 (opE k5 (opE k5 (vE 7) (ixE (vE 5) (kE (.int 4)))) (kE (.int 1))) (a5 (opE aT (opE aT (vE 7) (ixE (vE 5) (kE (.int 5)))) (kE (.int 1))) (a5 (vE 7) aq))))))))
 (aR 6 (dP tX (a5 (kE (.int 0)) (a5 (ixE (vE 8) (aH a9 (a5 (vE 0) (a5 (opE aT (vE 3) (kE (.int 4000))) (a5 (kE (.int 6)) aq))))) aq))))))
  bf)
 (aG (ifS (aZ eqB (aH a9 (a5 (vE 0) (a5 (opE aT (vE 3) (kE (.int 5000))) (a5 (kE (.int 12)) aq)))) (kE (.int 0)))
  (aR 6 (opE aT (vE 6) (kE (.int 1))))
  bf)
 (aG (ifS (aZ eqB (aH a9 (a5 (vE 0) (a5 (opE aT (vE 3) (kE (.int 5500))) (a5 (kE (.int 25)) aq)))) (kE (.int 0)))
  (aR 6 (opE p9 (kE (.int 10)) (kE (.int 9))))
  bf)
 (retS (vE 6))))))))
noncomputable def js:List D→Option D:=dR 9 4 kL
noncomputable def iP:DS:=
 (aG (aR 4 (ixE (ixE (ixE (ixE (vE 1) (kE (.int 1))) (ixE (ixE (ixE (vE 1) (kE (.int 3))) (vE 2)) (kE (.int 2)))) (kE (.int 1))) (kE (.int 0))))
 (aG (aR 5 (opE dE (vE 4) (opE aT (kE (.int 1)) (aH a9 (a5 (vE 0) (a5 (opE aT (vE 3) (kE (.int 6000))) (a5 (kE (.int 8)) aq)))))))
 (aG (aR 6 (gE (a5 (kE (.int 0)) (a5 (unE CW (vE 5)) (a5 (opE aT (vE 5) (kE (.int 1))) (a5 (opE p9 (kE (.int 10)) (kE (.int 9))) (a5 (opE dE (vE 4) (kE (.int 2001))) (a5 (unE CW (kE (.int 1))) aq))))))))
 (aG (ifS (aZ eqB (aH a9 (a5 (vE 0) (a5 (opE aT (vE 3) (kE (.int 7000))) (a5 (kE (.int 14)) aq)))) (kE (.int 0)))
  (retS (ixE (vE 6) (aH a9 (a5 (vE 0) (a5 (opE aT (vE 3) (kE (.int 8000))) (a5 (kE (.int 6)) aq))))))
  bf)
 (retS (vE 5))))))
noncomputable def fh:List D→Option D:=dR 7 4 iP
noncomputable def cx:DS:=
 (aG (aR 6 (bM (a5 (aH a9 (a5 (vE 0) (a5 (opE aT (kE (.int 900)) (vE 5)) (a5 (dP cO (a5 (ixE (vE 1) (kE (.int 0))) aq)) aq)))) (a5 (opE dE (vE 3) (aH a9 (a5 (vE 0) (a5 (opE aT (kE (.int 920)) (vE 5)) (a5 (kE (.int 50)) aq))))) aq))))
 (aG (ifS (jy (aZ ltB (vE 5) (dP cO (a5 (ixE (vE 1) (kE (.int 0))) aq))) (aZ eqB (aH a9 (a5 (vE 0) (a5 (kE (.int 980)) (a5 (kE (.int 2)) aq)))) (kE (.int 0))))
  (aR 6 (bM (a5 (vE 5) (a5 (kE (.int 0)) aq))))
  bf)
 (sZ 4 (vE 6) (ixE (gE (a5 (opE aT (kE (.int 1)) (aH a9 (a5 (vE 0) (a5 (opE aT (kE (.int 940)) (vE 5)) (a5 (kE (.int 200)) aq))))) (a5 (opE p9 (kE (.int 10)) (kE (.int 6))) aq))) (opE lF (aH a9 (a5 (vE 0) (a5 (opE aT (kE (.int 960)) (vE 5)) (a5 (kE (.int 8)) aq)))) (kE (.int 7)))))))
noncomputable def gQ:DS:=
 (aG (aR 3 (ixE (gE (a5 (kE (.int 1)) (a5 (kE (.int 1)) (a5 (kE (.int 1)) (a5 (kE (.int 1)) (a5 (kE (.int 1)) (a5 (opE p9 (kE (.int 10)) (kE (.int 6))) aq))))))) (aH a9 (a5 (vE 0) (a5 (kE (.int 1)) (a5 (kE (.int 6)) aq))))))
 (aG (aR 4 (pb))
 (aG (gZ none (iI (vE 2)) (gN 5)
  cx)
 (retS (dP j9 (a5 (dP sortedS (a5 (ph bN 4 2 [] (gT [0,1]) jb (bM (a5 (ixE (vE 0) (kE (.int 0))) (a5 (ixE (vE 0) (kE (.int 1))) (a5 (vE 1) aq))))) aq)) aq))))))
noncomputable def fG:List D→Option D:=dR 7 3 gQ
noncomputable def cy:DS:=
 (aG (aR 5 (aH a9 (a5 (vE 0) (a5 (opE aT (kE (.int 1000)) (vE 4)) (a5 (dP cO (a5 (ixE (vE 1) (kE (.int 3))) aq)) aq)))))
 (aG (aR 6 (bM (a5 (vE 5) (a5 (aH js (a5 (vE 0) (a5 (vE 1) (a5 (vE 5) (a5 (opE aT (kE (.int 1100)) (vE 4)) aq))))) aq))))
 (aG (sZ 3 (vE 6) (aH fh (a5 (vE 0) (a5 (vE 1) (a5 (vE 5) (a5 (opE aT (kE (.int 1100)) (vE 4)) aq))))))
 (ifS (aZ eqB (aH a9 (a5 (vE 0) (a5 (opE aT (kE (.int 1050)) (vE 4)) (a5 (kE (.int 40)) aq)))) (kE (.int 0)))
  (sZ 3 (vE 6) (opE aT (opE p9 (kE (.int 10)) (kE (.int 40))) (vE 4)))
  bf))))
noncomputable def gR:DS:=
 (aG (aR 3 (pb))
 (aG (gZ none (iI (vE 2)) (gN 4)
  cy)
 (retS (dP j9 (a5 (dP sortedS (a5 (ph bN 3 2 [] (gT [0,1]) jb (bM (a5 (ixE (vE 0) (kE (.int 0))) (a5 (ixE (vE 0) (kE (.int 1))) (a5 (vE 1) aq))))) aq)) aq)))))
noncomputable def fH:List D→Option D:=dR 7 3 gR
noncomputable def iC:DS:=
 (ifS (jy (aZ eqB (ixE (vE 4) (kE (.int 0))) (vE 1)) (aZ leB (ixE (vE 4) (kE (.int 1))) (vE 2)))
  (aR 3 (ixE (vE 4) (kE (.int 2))))
  bf)
noncomputable def iQ:DS:=
 (aG (aR 3 (kE .non))
 (aG (gZ (some 0) (lu (vE 0)) (gN 4)
  iC)
 (retS (vE 3))))
noncomputable def iR:List D→Option D:=dR 5 3 iQ
noncomputable def dX:DS:=
 (aG (ifS (aZ eqB (ixE (vE 0) (kE (.int 0))) (kE (.str "flat")))
  (retS (ixE (vE 0) (kE (.int 2))))
  bf)
 (aG (ifS (aZ eqB (ixE (vE 0) (kE (.int 0))) (kE (.str "ever")))
  (retS (ixE (vE 0) (kE (.int 1))))
  bf)
 (aG (ifS (aZ nV (vE 1) (kE .non))
  (retS (kE .non))
  bf)
 (retS (opE lF (opE dE (vE 1) (ixE (vE 0) (kE (.int 2)))) (ixE (vE 0) (kE (.int 3))))))))
noncomputable def dm:List D→Option D:=dR 2 2 dX
noncomputable def dY:DS:=
 (ifS (jy (aZ eqB (slE (ixE (ixE (vE 0) (kE (.int 3))) (vE 6)) (fW (kE (.int 1))) (fW (kE (.int 3)))) (slE (vE 2) (fW (kE (.int 1))) (fW (kE (.int 3))))) (jy (aZ leB (vE 7) (vE 4)) (orT (aZ eqB (ixE (vE 3) (kE (.int 0))) (kE (.str "ever"))) (aZ gtB (vE 7) (opE k5 (vE 4) (ixE (vE 3) (kE (.int 1))))))))
  (aR 5 (opE aT (vE 5) (vE 8)))
  bf)
noncomputable def jF:DS:=
 (aG (aR 5 (kE (.int 0)))
 (aG (gZ none (lu (ixE (vE 1) (kE (.int 1)))) (gT [6,7,8])
  dY)
 (retS (vE 5))))
noncomputable def il:List D→Option D:=dR 9 5 jF
noncomputable def fI:DS:=
 (aG (aR 9 (aH dm (a5 (ixE (vE 7) (vE 8)) (a5 (aH iR (a5 (ixE (vE 1) (kE (.int 0))) (a5 (ixE (vE 6) (kE (.int 1))) (a5 (vE 4) aq)))) aq))))
 (aG (aR 10 (aH il (a5 (vE 0) (a5 (vE 1) (a5 (vE 6) (a5 (ixE (vE 7) (vE 8)) (a5 (vE 4) aq)))))))
 (ifS (jy (aZ iE (vE 9) (kE .non)) (aZ gtB (vE 10) (vE 9)))
  (sZ 2 (bM (a5 (kE (.str "cap")) (a5 (ixE (vE 6) (kE (.int 1))) (a5 (ixE (vE 6) (kE (.int 2))) (a5 (vE 8) (a5 (vE 4) (a5 (vE 10) (a5 (vE 9) aq)))))))) (kE (.bl true)))
  bf)))
noncomputable def fJ:DS:=
 (aG (aR 6 (ixE (ixE (vE 0) (kE (.int 3))) (vE 3)))
 (aG (aR 7 (ixE (ixE (ixE (vE 0) (kE (.int 1))) (ixE (vE 6) (kE (.int 2)))) (kE (.int 2))))
 (gZ none (iI (dP cO (a5 (vE 7) aq))) (gN 8)
  fI)))
noncomputable def kM:DS:=
 (aG (aR 2 (pb))
 (aG (gZ none (lu (ixE (vE 1) (kE (.int 1)))) (gT [3,4,5])
  fJ)
 (retS (dP BL (a5 (vE 2) aq)))))
noncomputable def kN:List D→Option D:=dR 11 2 kM
noncomputable def jG:DS:=
 (retS (bE (jy (CY "int" (vE 0)) (uT (CY "bool" (vE 0))))))
noncomputable def jH:List D→Option D:=dR 1 1 jG
noncomputable def dD:DS:=
 (ifS (uT (wk (aH jH (a5 (vE 2) aq))))
  (retS (kE (.bl false)))
  bf)
noncomputable def fM:DS:=
 (aG (ifS (orT (uT (wk (bE (CY "tuple" (vE 1))))) (orT (aZ ltB (dP cO (a5 (vE 1) aq)) (kE (.int 3))) (uT (wk (bE (CY "str" (ixE (vE 1) (kE (.int 0)))))))))
  (retS (kE (.bl false)))
  bf)
 (gZ none (lu (slE (vE 1) (fW (kE (.int 1))) noO)) (gN 2)
  dD))
noncomputable def iU:DS:=
 (aG (ifS (uT (wk (bE (CY "list" (vE 0)))))
  (retS (kE (.bl false)))
  bf)
 (aG (gZ (some 0) (lu (vE 0)) (gN 1)
  fM)
 (retS (kE (.bl true)))))
noncomputable def gr:List D→Option D:=dR 3 1 iU
noncomputable def FK:DS:=
 (aG (aR 1 (aH ij (a5 (vE 0) aq)))
 (aG (aR 2 (aH fG (a5 (vE 0) (a5 (vE 1) (a5 (aH a9 (a5 (vE 0) (a5 (kE (.int 11)) (a5 (kE (.int 9)) aq)))) aq)))))
 (aG (aR 3 (bM (a5 (vE 2) (a5 (aH fH (a5 (vE 0) (a5 (vE 1) (a5 (opE aT (dP nW (a5 (dP cO (a5 (vE 0) aq)) (a5 (kE (.int 30)) aq))) (aH a9 (a5 (vE 0) (a5 (kE (.int 12)) (a5 (kE (.int 4)) aq))))) aq)))) aq))))
 (aG (aR 4 (aH lT (a5 (vE 1) (a5 (vE 3) aq))))
 (aG (ifS (uT (wk (aH gr (a5 (vE 4) aq))))
  (retS (kE (.bl false)))
  bf)
 (retS (bE (aZ eqB (rf (some 4) 1 [] (lu (vE 4)) (gN 0) (aZ eqB (ixE (vE 0) (kE (.int 0))) (kE (.str "cap"))) (vE 0)) (dP g9 (a5 (aH kN (a5 (vE 1) (a5 (vE 3) aq))) aq))))))))))
noncomputable def rW:List D→Option D:=dR 5 1 FK
end Den
namespace Maths
open DL Den PySem
noncomputable def cell(ns:List Int)(k:Int):Int:=if ns.length=0 then 0 else ns[(k%ns.length).toNat]?.getD 0%1000003
noncomputable def draw(ns:List Int)(k m:Int):Int:=(cell ns k+1)*(k*k+k+41)%999983*48271%2147483647/11%m
theorem Ip(ns:List Int)(k:Int):0≤cell ns k∧cell ns k<1000003:=by
 unfold cell;split
 ·omega
 ·exact⟨Int.emod_nonneg _ (by omega),GdM _ (by omega)⟩
theorem aX(ns:List Int)(k m:Int)(hm:0<m):0≤draw ns k m∧draw ns k m<m:=⟨Int.emod_nonneg _ (by omega),GdM _ hm⟩
theorem Iq{ns:List Int}{k:Int}(h:0<ns.length):atD ns (k%ns.length)=some (ns[(k%ns.length).toNat]?.getD 0):=by
 unfold atD;have h1:0≤k%(ns.length:Int):=Int.emod_nonneg _ (by omega);have h2:k%(ns.length:Int)<ns.length:=GdM _ (by omega);rw[Gai h1];have h3:(k%(ns.length:Int)).toNat<ns.length:=by omega
 simp[h3]
theorem bR{i j:Int}(h: -18446744073709551616<i)(h2:i<18446744073709551616):cf i j=true:=by
 unfold cf;rw[Gbd];exact .inl (GaN (by omega))
theorem ox{i j:Int}(h: -18446744073709551616<j)(h2:j<18446744073709551616):cf i j=true:=by
 unfold cf;rw[Gbd];exact .inr (GaN (by omega))
theorem aS{ns:List Int}{k m:Int}(hk:0≤k)(hk2:k<1000000)(hm:0<m):a9 [.scr ns,.int k,.int m]=some (.int (draw ns k m)):=by
 have c:=Ip ns k;have e1:cf k k=true:=bR (by omega) (by omega);have e2:∀j,cf (cell ns k+1) j=true:=λj=>bR (by omega) (by omega);have e3:∀i,cf i 48271=true:=λi=>ox (by omega) (by omega);unfold a9 ao;by_cases h:0<ns.length
 ·have hc:cell ns k=ns[(k%ns.length).toNat]?.getD 0%1000003:=by unfold cell;rw[Gag (by omega)]
  have h' :(0:Int)<ns.length:=by omega
  simp[h,h',Iq h,e1,e3,hm,←hc];simp[e2,e3,hm,draw]
 ·have hc:cell ns k=0:=by unfold cell;rw[Gai (by omega)]
  have h' :¬(0:Int)<ns.length:=by omega
  simp[h,h',e1,e3,hm];have:=e2 (k*k+k+41);rw[hc] at this;simp at this;simp[this,e3,hm,draw,hc]
theorem cB{i:Int}(h1: -4611686018427387904≤i)(h2:i<4611686018427387904):bV i=true:=by
 unfold bV;rw[Gau];exact⟨GaN h1,GaN h2⟩
theorem gw{g:DG}{body:DS}(I:Nat→DL.Env→Prop):∀(ds:List D) (k:Nat) (env:DL.Env),I k env→(∀(i:Nat) d e,ds[i]? =some d→I (k+i) e→∃e1 e2,g d e=some e1∧body e1=some (.nx e2)∧I (k+i+1) e2)→∃e,forL g body ds env=some (.nx e)∧I (k+ds.length) e
 |[],k,env,h,_=> ⟨env,rfl,h⟩
 |d::ds,k,env,h,st=>by
  obtain⟨e1,e2,h1,h2,h3⟩:=st 0 d env rfl h;obtain⟨e,h4,h5⟩:=gw I ds (k+1) e2 h3 λi d' e' hd hI=>by
   have:=st (i+1) d' e' (by simpa using hd) (by rw[show k+(i+1)=k+1+i by omega];exact hI);rw[show k+(i+1)+1=k+1+i+1 by omega] at this;exact this
  refine⟨e,by simp[forL,h1,h2,h4], ?_⟩;rw[show k+(d::ds).length=k+1+ds.length by simp;omega];exact h5
theorem dZ{lo:Int}{n i:Nat}{d:D}(h:(bx lo n)[i]? =some d):i<n∧d= .int (lo+i):=by
 unfold bx at h;rw[Gak] at h;by_cases hi:i<n
 ·rw[List.getElem?_range hi] at h;cases h;exact⟨hi,rfl⟩
 ·rw[Gbr (by simp;omega)] at h;cases h
theorem gH{lo:Int}{n:Nat}:(bx lo n).length=n:=by simp[bx]
theorem mJ{α:Type}{g:DG}{t:DT}{f:DE}(emb:α→D)(C:DL.Env→Prop)(p:α→Bool)(r:α→D):∀(xs:List α) (e:DL.Env),C e→
  (∀x∈xs,∀e,C e→∃e',g (emb x) e=some e' ∧C e' ∧t e' =some (p x)∧(p x=true→∃k,f e' =some ⟨k,r x⟩∧RV.free ⟨k,r x⟩=true))→cF g t f (xs.map emb) e=some ((xs.filter p).map r)
 |[],e,_,_=>rfl
 |d::ds,e,h,st=>by
  obtain⟨e',h1,h2,h3,h4⟩:=st d Gao e h;have ih:=mJ emb C p r ds e' h2 λd' hd=>st d' (Gaj _ hd);cases q:p d with
  |false=>simp[cF,h1,h3,q,ih]
  |true=>
   obtain⟨k,h5,h6⟩:=h4 q;simp[cF,h1,h3,q,h5,h6,ih]
theorem kc{α:Type}{g:DG}{f:DE}(emb:α→D)(C:DL.Env→Prop)(r:α→D)(xs:List α)(e:DL.Env)(h:C e)
  (st:∀x∈xs,∀e,C e→∃e',g (emb x) e=some e' ∧C e' ∧∃k,f e' =some ⟨k,r x⟩∧RV.free ⟨k,r x⟩=true):cF g jb f (xs.map emb) e=some (xs.map r):=by
 have:=mJ (g:=g) (t:=jb) (f:=f) emb C (λ_=>true) r xs e h (λx hx e he=>by
  obtain⟨e',h1,h2,h3⟩:=st x hx e he;exact⟨e',h1,h2,rfl,λ_=>h3⟩)
 rw[List.filter_eq_self.mpr λ_ _=>rfl] at this;exact this
theorem Dv(bs:List Bool):uU (bs.map D.bl)=some bs:=by
 induction bs with
 |nil=>rfl
 |cons b bs ih=>simp[ih]
theorem Dw(bs:List Int):BH (bs.map D.int)=some bs:=by
 induction bs with
 |nil=>rfl
 |cons b bs ih=>simp[ih]
@[simp] theorem N5(bs:List Bool):anyS [.lst (bs.map D.bl)]=some ⟨.c,.bl (bs.any id)⟩:=by
 simp[anyS,one,mQ,Dv]
theorem FL(hs:List Int):lG (hs.map D.int) (hs.map D.int)=true:=by
 induction hs with
 |nil=>rfl
 |cons b bs ih=>simp[ih]
theorem Bf(n:Nat)(hs:List Int):(hs.map D.int).all (aA n)=true:=by
 induction hs with
 |nil=>rfl
 |cons b bs ih=>simp[ih]
theorem oy(hs:List Int):aQ (hs.map D.int)=true:=by
 induction hs with
 |nil=>rfl
 |cons b bs ih=>simp[ih]
theorem av{f g:DS}{env e:DL.Env}(h:f env=some (.nx e)):aG f g env=g e:=by simp[aG,h]
theorem Ce{f g:DS}{env:DL.Env}{d:D}(h:f env=some (.ret d)):aG f g env=some (.ret d):=by simp[aG,h]
theorem bg{n np:Nat}{body:DS}{ds:List D}{d:D}(hl:ds.length=np)(h:body (bz n ds)=some (.ret d)):dR n np body ds=some d:=by
 unfold dR;rw[Gai hl,h];rfl
theorem Kz{t:DT}{f g:DS}{env:DL.Env}(h:t env=some true):ifS t f g env=f env:=by simp[ifS,h]
theorem N6{t:DT}{f g:DS}{env:DL.Env}(h:t env=some false):ifS t f g env=g env:=by simp[ifS,h]
inductive Cap where
 |flat (h t:Int)
 |kilo (h t p:Int)
 |ever (t:Int)
noncomputable def bw:Cap→D
 | .flat h t=> .tup [.str "flat",.int h,.int t]
 | .kilo h t p=> .tup [.str "kilo",.int h,.int t,.int p]
 | .ever t=> .tup [.str "ever",.int t]
def mV:Cap→Prop
 | .flat h t=>1≤h∧1≤t∧t≤3100000
 | .kilo h t p=>1≤h∧1≤t∧t≤3100000∧1≤p∧p≤40
 | .ever t=>1≤t∧t≤6200000
theorem FN(c:Cap):(bw c).imm=true:=by cases c<;>simp[bw]
theorem rX(cs:List Cap):aQ (cs.map bw)=true:=by
 induction cs with
 |nil=>rfl
 |cons c cs ih=>
  have:=FN c;simp[this] at ih⊢;exact ih
theorem pD{a b A B:Int}(h0:0≤a)(h1:a≤A)(h2:0≤b)(h3:b≤B):a*b≤A*B:=
 Int.le_trans (Int.mul_le_mul_of_nonneg_right h1 h2) (Int.mul_le_mul_of_nonneg_left h3 (by omega))
theorem gI{a b:Int}(h0:1≤a)(h1:1≤b):1≤a*b:=by
 have:=Int.mul_le_mul h0 h1 (by omega) (by omega);omega
theorem Dx{ns:List Int}{k part scale c:Int}{cs:List Cap}{x6 x7 x8 x9:Option Slot}(hk:0≤k)(hk2:k<10000)(hp:1≤part)(hp2:part≤100000)(hs:1≤scale)(hs2:scale≤1000000)(hc:0≤c)(hc2:c≤10)(hl:cs.length≤100):
  ∃cap y6 y7 y8 y9,mV cap∧fD [some (.sh (.scr ns)),some (.sh (.int k)),some (.sh (.int part)),some (.sh (.int scale)),some (.own (.lst (cs.map bw))),some (.sh (.int c)),x6,x7,x8,x9]=
   some (.nx [some (.sh (.scr ns)),some (.sh (.int k)),some (.sh (.int part)),some (.sh (.int scale)),some (.own (.lst ((cs++[cap]).map bw))),some (.sh (.int c)),y6,y7,y8,y9]):=by
 have m4:cf 4 c=true:=bR (by omega) (by omega);generalize hat:k+1+4*c=t;have ht:0≤t:=by omega
 have ht2:t<20000:=by omega
 have d0:=aS (ns:=ns) (k:=t) (m:=30) (by omega) (by omega) (by omega);have d2:=aS (ns:=ns) (k:=t+2) (m:=3) (by omega) (by omega) (by omega);have d1:=aS (ns:=ns) (k:=t+1) (m:=30) (by omega) (by omega) (by omega);have d1b:=aS (ns:=ns) (k:=t+1) (m:=9) (by omega) (by omega) (by omega);have d1c:=aS (ns:=ns) (k:=t+1) (m:=60) (by omega) (by omega) (by omega);have d3:=aS (ns:=ns) (k:=t+3) (m:=40) (by omega) (by omega) (by omega);have l0:=aX ns t 30 (by omega);have l2:=aX ns (t+2) 3 (by omega);have l1:=aX ns (t+1) 30 (by omega);have l1b:=aX ns (t+1) 9 (by omega);have l1c:=aX ns (t+1) 60 (by omega);have l3:=aX ns (t+3) 40 (by omega);have ms:∀j,cf scale j=true:=λj=>bR (by omega) (by omega);have mp:∀j,cf part j=true:=λj=>bR (by omega) (by omega);generalize draw ns t 30=q0 at*;generalize draw ns (t+2) 3=q2 at*;generalize draw ns (t+1) 30=q1 at*;generalize draw ns (t+1) 9=q1b at*;generalize draw ns (t+1) 60=q1c at*;generalize draw ns (t+3) 40=q3 at*;have hz:(cs.map bw).length<16777216:=by rw[Gaf];omega
 have ih:=gI (a:=scale) (b:=1+q0) hs (by omega);have e1:∀cap,(cs++[cap]).map bw=cs.map bw++[bw cap]:=λcap=>by simp
 generalize cs.map bw=C at*;have q:q2=0∨q2=1∨q2=2:=by omega
 unfold fD;rcases q with rfl|rfl|rfl
 ·refine⟨.flat (scale*(1+q0)) (part*(1+q1)),some (.sh (.int t)),some (.sh (.int (scale*(1+q0)))),some (.sh (.int 0)),x9,⟨ih,gI hp (by omega), ?_⟩, ?_⟩
  ·have:=pD (a:=part) (b:=1+q1) (A:=100000) (B:=30) (by omega) hp2 (by omega) (by omega);omega
  ·rw[e1];simp[m4,hat,d0,d2,d1,ms,mp,ai,hz,bw]
 ·refine⟨.kilo (scale*(1+q0)) (part*(1+q1b)) (1+q3),some (.sh (.int t)),some (.sh (.int (scale*(1+q0)))),some (.sh (.int 1)),some (.sh (.int (part*(1+q1b)))),⟨ih,gI hp (by omega), ?_,by omega,by omega⟩, ?_⟩
  ·have:=pD (a:=part) (b:=1+q1b) (A:=100000) (B:=9) (by omega) hp2 (by omega) (by omega);omega
  ·rw[e1];simp[m4,hat,d0,d2,d1b,d3,ms,mp,ai,hz,bw]
 ·refine⟨.ever (part*(2+q1c)),some (.sh (.int t)),some (.sh (.int (scale*(1+q0)))),some (.sh (.int 2)),x9,⟨gI hp (by omega), ?_⟩, ?_⟩
  ·have:=pD (a:=part) (b:=2+q1c) (A:=100000) (B:=61) (by omega) hp2 (by omega) (by omega);omega
  ·rw[e1];simp[m4,hat,d0,d2,d1c,ms,mp,ai,hz,bw]
theorem at6{a b c d e f:Int}{q:Int}(h:0≤q)(h2:q<6):∃v,(v=a∨v=b∨v=c∨v=d∨v=e∨v=f)∧atD [D.int a,.int b,.int c,.int d,.int e,.int f] q=some (.int v):=by
 have:q=0∨q=1∨q=2∨q=3∨q=4∨q=5:=by omega
 rcases this with rfl|rfl|rfl|rfl|rfl|rfl
 ·exact⟨a,.inl rfl,rfl⟩
 ·exact⟨b,.inr (.inl rfl),rfl⟩
 ·exact⟨c,.inr (.inr (.inl rfl)),rfl⟩
 ·exact⟨d,.inr (.inr (.inr (.inl rfl))),rfl⟩
 ·exact⟨e,.inr (.inr (.inr (.inr (.inl rfl)))),rfl⟩
 ·exact⟨f,.inr (.inr (.inr (.inr (.inr rfl)))),rfl⟩
theorem FO{ns:List Int}{k part scale q n:Int}{C:List D}{y5 y6 y7 y8 y9:Option Slot}(d:a9 [.scr ns,.int k,.int 6]=some (.int q))(ea:atD [D.int 0,.int 1,.int 1,.int 2,.int 3,.int 4] q=some (.int n))(sm:bV n=true)
  (h1:forL (gN 5) fD (bx 0 n.toNat) [some (.sh (.scr ns)),some (.sh (.int k)),some (.sh (.int part)),some (.sh (.int scale)),some (.own (.lst [])),none,none,none,none,none]=some (.nx [some (.sh (.scr ns)),some (.sh (.int k)),some (.sh (.int part)),some (.sh (.int scale)),some (.own (.lst C)),y5,y6,y7,y8,y9]))(im:aQ C=true):
  jn [.scr ns,.int k,.int part,.int scale]=some (.tup C):=by
 refine bg rfl ?_;unfold kJ;refine(av (e:=[some (.sh (.scr ns)),some (.sh (.int k)),some (.sh (.int part)),some (.sh (.int scale)),some (.own (.lst [])),none,none,none,none,none]) (by simp[bz,ai])).trans ?_;refine(av (e:=[some (.sh (.scr ns)),some (.sh (.int k)),some (.sh (.int part)),some (.sh (.int scale)),some (.own (.lst C)),y5,y6,y7,y8,y9]) (by simp[-forL,d,ea,sm,h1,ai])).trans ?_;simp[im]
theorem KA{ns:List Int}{k part scale:Int}(hk:0≤k)(hk2:k<10000)(hp:1≤part)(hp2:part≤100000)(hs:1≤scale)(hs2:scale≤1000000):∃cs:List Cap,cs.length≤4∧(∀c∈cs,mV c)∧jn [.scr ns,.int k,.int part,.int scale]=some (.tup (cs.map bw)):=by
 have d:=aS (ns:=ns) (k:=k) (m:=6) (by omega) (by omega) (by omega);have l:=aX ns k 6 (by omega);generalize draw ns k 6=q at*;obtain⟨n,hn,ea⟩:=at6 (a:=0) (b:=1) (c:=1) (d:=2) (e:=3) (f:=4) l.1 l.2;obtain⟨e,h1,cs,y5,y6,y7,y8,y9,h2,h3,rfl⟩:=gw (g:=gN 5) (body:=fD) (λm env=>∃(cs:List Cap) (y5 y6 y7 y8 y9:Option Slot),cs.length=m∧(∀c∈cs,mV c)∧env=[some (.sh (.scr ns)),some (.sh (.int k)),some (.sh (.int part)),some (.sh (.int scale)),some (.own (.lst (cs.map bw))),y5,y6,y7,y8,y9]) (bx 0 n.toNat) 0
  [some (.sh (.scr ns)),some (.sh (.int k)),some (.sh (.int part)),some (.sh (.int scale)),some (.own (.lst [])),none,none,none,none,none] ⟨[],none,none,none,none,none,rfl,by simp,rfl⟩ (by
   rintro i d e hd ⟨cs,y5,y6,y7,y8,y9,h2,h3,rfl⟩;obtain⟨hi,rfl⟩:=dZ hd;obtain⟨cap,z6,z7,z8,z9,hc,h⟩:=Dx (ns:=ns) (k:=k) (part:=part) (scale:=scale) (c:=0+(i:Int)) (cs:=cs) (x6:=y6) (x7:=y7) (x8:=y8) (x9:=y9) hk hk2 hp hp2 hs hs2 (by omega) (by omega) (by omega);refine⟨_,_,rfl,h,cs++[cap],some (.sh (.int (0+(i:Int)))),z6,z7,z8,z9,by simp[h2],λx hx=> ?_,rfl⟩;rcases Gax.mp hx with hx|hx
   ·exact h3 x hx
   ·simp at hx;rw[hx];exact hc)
 rw[gH] at h2;exact⟨cs,by omega,h3,FO d ea (cB (by omega) (by omega)) h1 (rX cs)⟩
theorem c0{d:D}(h:d.imm=true):kB d=⟨.c,d⟩:=by
 unfold kB;have:d.top=false:=by cases d<;>simp[D.imm] at h<;>rfl
 rw[this];rfl
structure jt where
 name:Str
 part:Int
 more:List Int
 aO:List Cap
 young:Int
noncomputable def b7(s:jt):D:= .tup [.str s.name,.tup ((s.part::s.more).map .int),.tup (s.aO.map bw),.int s.young]
structure mK(s:jt):Prop where
 p1:1≤s.part
 p2:s.part≤100000
 cl:s.aO.length≤4
 ok:∀c∈s.aO,mV c
 y0:0≤s.young
theorem kO(s:jt):(b7 s).imm=true:=by
 have h1:=rX s.aO;have h2:=oy (s.part::s.more);simp[b7] at h2⊢;exact⟨h2,h1⟩
theorem gx{α:Type}{f:α→D}(h:∀a,(f a).imm=true):∀l:List α,aQ (l.map f)=true
 |[]=>rfl
 |a::l=>by
  have h1:=h a;have h2:=gx h l;rw[Gap];simp[h1,h2]
theorem FP{i:Nat}(h:i<6):∃c,atD (Str.ofString "abcdef").cps.toList (i:Int)=some c:=by
 match i,h with
 |0,_=>exact⟨_,rfl⟩
 |1,_=>exact⟨_,rfl⟩
 |2,_=>exact⟨_,rfl⟩
 |3,_=>exact⟨_,rfl⟩
 |4,_=>exact⟨_,rfl⟩
 |5,_=>exact⟨_,rfl⟩
theorem Dy{i:Nat}(h:i<12):∃c,atD (Str.ofString "abcdefghijkl").cps.toList (i:Int)=some c:=by
 match i,h with
 |0,_=>exact⟨_,rfl⟩
 |1,_=>exact⟨_,rfl⟩
 |2,_=>exact⟨_,rfl⟩
 |3,_=>exact⟨_,rfl⟩
 |4,_=>exact⟨_,rfl⟩
 |5,_=>exact⟨_,rfl⟩
 |6,_=>exact⟨_,rfl⟩
 |7,_=>exact⟨_,rfl⟩
 |8,_=>exact⟨_,rfl⟩
 |9,_=>exact⟨_,rfl⟩
 |10,_=>exact⟨_,rfl⟩
 |11,_=>exact⟨_,rfl⟩
theorem at5{a b c d e:Int}{q:Int}(h:0≤q)(h2:q<5):∃v,(v=a∨v=b∨v=c∨v=d∨v=e)∧atD [D.int a,.int b,.int c,.int d,.int e] q=some (.int v):=by
 have:q=0∨q=1∨q=2∨q=3∨q=4:=by omega
 rcases this with rfl|rfl|rfl|rfl|rfl
 ·exact⟨a,.inl rfl,rfl⟩
 ·exact⟨b,.inr (.inl rfl),rfl⟩
 ·exact⟨c,.inr (.inr (.inl rfl)),rfl⟩
 ·exact⟨d,.inr (.inr (.inr (.inl rfl))),rfl⟩
 ·exact⟨e,.inr (.inr (.inr (.inr rfl))),rfl⟩
theorem at2{a b q:Int}(h:0≤q)(h2:q<2):∃v,(v=a∨v=b)∧atD [D.int a,.int b] q=some (.int v):=by
 have:q=0∨q=1:=by omega
 rcases this with rfl|rfl
 ·exact⟨a,.inl rfl,rfl⟩
 ·exact⟨b,.inr rfl,rfl⟩
theorem FQ{p q:Int}(h:0≤q)(h2:q<3):∃ms:List Int,atD [D.tup [.int p],.tup [.int p,.int (2*p)],.tup [.int p,.int (3*p),.int (7*p)]] q=some (.tup ((p::ms).map .int)):=by
 have:q=0∨q=1∨q=2:=by omega
 rcases this with rfl|rfl|rfl
 ·exact⟨[],rfl⟩
 ·exact⟨[2*p],rfl⟩
 ·exact⟨[3*p,7*p],rfl⟩
theorem FR{ns:List Int}{scale j k part qa qb qc qd young y0:Int}{S C:List D}{sz:D}{ch:Nat}{x4 x5 x6 x7:Option Slot}(mk:cf 30 j=true)(hk:100+30*j=k)(da:a9 [.scr ns,.int k,.int 5]=some (.int qa))(pa:atD [D.int 1,.int 2,.int 5,.int 12,.int 100000] qa=some (.int part))(m2:cf 2 part=true)(m3:cf 3 part=true)(m7:cf 7 part=true)
  (db:a9 [.scr ns,.int (k+1),.int 3]=some (.int qb))(sb:atD [D.tup [.int part],.tup [.int part,.int (2*part)],.tup [.int part,.int (3*part),.int (7*part)]] qb=some sz)(isz:sz.imm=true)(dc:a9 [.scr ns,.int (k+2),.int 2]=some (.int qc))(yc:atD [D.int 0,.int scale] qc=some (.int y0))(dd:a9 [.scr ns,.int (k+3),.int 20]=some (.int qd))(my:cf y0 qd=true)(hy:y0*qd=young)
  (hch:atD (Str.ofString "abcdef").cps.toList j=some ch)(ec:jn [.scr ns,.int (k+5),.int part,.int scale]=some (.tup C))(ic:aQ C=true)(hz:S.length<1000):
  cK [some (.sh (.scr ns)),some (.sh (.int scale)),some (.own (.lst S)),some (.sh (.int j)),x4,x5,x6,x7]=some (.nx [some (.sh (.scr ns)),some (.sh (.int scale)),some (.own (.lst (S++[.tup [.str ("stuff"++ ⟨#[ch]⟩),sz,.tup C,.int young]]))),some (.sh (.int j)),some (.sh (.int k)),some (.sh (.int part)),some (.sh sz),some (.sh (.int young))]):=by
 have z:S.length<16777216:=by omega
 unfold cK;refine(av (e:=[some (.sh (.scr ns)),some (.sh (.int scale)),some (.own (.lst S)),some (.sh (.int j)),some (.sh (.int k)),x5,x6,x7]) (by simp[mk,hk])).trans ?_;refine(av (e:=[some (.sh (.scr ns)),some (.sh (.int scale)),some (.own (.lst S)),some (.sh (.int j)),some (.sh (.int k)),some (.sh (.int part)),x6,x7]) (by simp[da,pa,ai])).trans ?_;refine(av (e:=[some (.sh (.scr ns)),some (.sh (.int scale)),some (.own (.lst S)),some (.sh (.int j)),some (.sh (.int k)),some (.sh (.int part)),some (.sh sz),x7]) (by simp[m2,m3,m7,db,sb,isz,ai])).trans ?_;refine(av (e:=[some (.sh (.scr ns)),some (.sh (.int scale)),some (.own (.lst S)),some (.sh (.int j)),some (.sh (.int k)),some (.sh (.int part)),some (.sh sz),some (.sh (.int young))]) (by simp[dc,yc,dd,my,hy,ai])).trans ?_;have rc:=c0 (d:= .tup C) (by simp[ic]);have w1:(Str.ofString "abcdef").length≤16777216:=by decide
 have w2:(Str.ofString "stuff").length+(⟨#[ch]⟩:Str).length≤16777216:=by
  have:(⟨#[ch]⟩:Str).length=1:=rfl;rw[this];decide
 simp[hch,w1,w2,ec,rc,isz,ic,ai,z]
theorem Bg{ns:List Int}{scale q n:Int}{S:List D}{y3 y4 y5 y6 y7:Option Slot}(d:a9 [.scr ns,.int 21,.int 6]=some (.int q))(ea:atD [D.int 1,.int 2,.int 3,.int 3,.int 2,.int 6] q=some (.int n))(sm:bV n=true)
  (h1:forL (gN 3) cK (bx 0 n.toNat) [some (.sh (.scr ns)),some (.sh (.int scale)),some (.own (.lst [])),none,none,none,none,none]=some (.nx [some (.sh (.scr ns)),some (.sh (.int scale)),some (.own (.lst S)),y3,y4,y5,y6,y7]))(im:aQ S=true):
  gq [.scr ns,.int scale]=some (.tup S):=by
 refine bg rfl ?_;unfold iN;refine(av (e:=[some (.sh (.scr ns)),some (.sh (.int scale)),some (.own (.lst [])),none,none,none,none,none]) (by simp[bz,ai])).trans ?_;refine(av (e:=[some (.sh (.scr ns)),some (.sh (.int scale)),some (.own (.lst S)),y3,y4,y5,y6,y7]) (by simp[-forL,d,ea,sm,h1,ai])).trans ?_;simp[im]
theorem Bh{ns:List Int}{scale:Int}{i:Nat}{ss:List jt}{x4 x5 x6 x7:Option Slot}(hs:1≤scale)(hs2:scale≤1000000)(hi:i<6)(hl:ss.length≤100):
  ∃s y4 y5 y6 y7,mK s∧cK [some (.sh (.scr ns)),some (.sh (.int scale)),some (.own (.lst (ss.map b7))),some (.sh (.int (i:Int))),x4,x5,x6,x7]=some (.nx [some (.sh (.scr ns)),some (.sh (.int scale)),some (.own (.lst ((ss++[s]).map b7))),some (.sh (.int (i:Int))),y4,y5,y6,y7]):=by
 obtain⟨ch,hch⟩:=FP hi;have hj:(0:Int)≤(i:Int)∧(i:Int)≤5:=by omega
 have hz:(ss.map b7).length<1000:=by rw[Gaf];omega
 have e1:∀s,(ss++[s]).map b7=ss.map b7++[b7 s]:=λs=>by simp
 generalize (i:Int)=j at*;generalize ss.map b7=S at*;generalize hk:100+30*j=k;have da:=aS (ns:=ns) (k:=k) (m:=5) (by omega) (by omega) (by omega);have la:=aX ns k 5 (by omega);have db:=aS (ns:=ns) (k:=k+1) (m:=3) (by omega) (by omega) (by omega);have lb:=aX ns (k+1) 3 (by omega);have dc:=aS (ns:=ns) (k:=k+2) (m:=2) (by omega) (by omega) (by omega);have lc:=aX ns (k+2) 2 (by omega);have dd:=aS (ns:=ns) (k:=k+3) (m:=20) (by omega) (by omega) (by omega);have ld:=aX ns (k+3) 20 (by omega);obtain⟨part,hp,pa⟩:=at5 (a:=1) (b:=2) (c:=5) (d:=12) (e:=100000) la.1 la.2;obtain⟨ms,sb⟩:=FQ (p:=part) lb.1 lb.2;obtain⟨y0,hy0,yc⟩:=at2 (a:=0) (b:=scale) lc.1 lc.2;obtain⟨cs,c1,c2,ec⟩:=KA (ns:=ns) (k:=k+5) (part:=part) (scale:=scale) (by omega) (by omega) (by omega) (by omega) hs hs2;have ii:=oy (part::ms);refine⟨⟨"stuff"++ ⟨#[ch]⟩,part,ms,cs,y0*draw ns (k+3) 20⟩,some (.sh (.int k)),some (.sh (.int part)),some (.sh (.tup ((part::ms).map .int))),some (.sh (.int (y0*draw ns (k+3) 20))),⟨by simp;omega,by simp;omega,c1,c2,Gdh (by omega) ld.1⟩, ?_⟩;rw[e1];exact FR (bR (by omega) (by omega)) hk da pa (bR (by omega) (by omega)) (bR (by omega) (by omega)) (bR (by omega) (by omega)) db sb (by simpa using ii) dc yc dd (bR (by omega) (by omega)) rfl hch ec (rX cs) hz
theorem FT{ns:List Int}{scale:Int}(hs:1≤scale)(hs2:scale≤1000000):∃ss:List jt,1≤ss.length∧ss.length≤6∧(∀s∈ss,mK s)∧gq [.scr ns,.int scale]=some (.tup (ss.map b7)):=by
 have d:=aS (ns:=ns) (k:=21) (m:=6) (by omega) (by omega) (by omega);have l:=aX ns 21 6 (by omega);generalize draw ns 21 6=q at*;obtain⟨n,hn,ea⟩:=at6 (a:=1) (b:=2) (c:=3) (d:=3) (e:=2) (f:=6) l.1 l.2;obtain⟨e,h1,ss,y3,y4,y5,y6,y7,h2,h3,rfl⟩:=gw (g:=gN 3) (body:=cK) (λm env=>∃(ss:List jt) (y3 y4 y5 y6 y7:Option Slot),ss.length=m∧(∀s∈ss,mK s)∧env=[some (.sh (.scr ns)),some (.sh (.int scale)),some (.own (.lst (ss.map b7))),y3,y4,y5,y6,y7]) (bx 0 n.toNat) 0
  [some (.sh (.scr ns)),some (.sh (.int scale)),some (.own (.lst [])),none,none,none,none,none] ⟨[],none,none,none,none,none,rfl,by simp,rfl⟩ (by
   rintro i d e hd ⟨ss,y3,y4,y5,y6,y7,h2,h3,rfl⟩;obtain⟨hi,rfl⟩:=dZ hd;obtain⟨s,z4,z5,z6,z7,hc,h⟩:=Bh (ns:=ns) (scale:=scale) (i:=i) (ss:=ss) (x4:=y4) (x5:=y5) (x6:=y6) (x7:=y7) hs hs2 (by omega) (by omega);rw[show(0:Int)+(i:Int)=(i:Int) by omega];refine⟨_,_,rfl,h,ss++[s],some (.sh (.int (i:Int))),z4,z5,z6,z7,by simp[h2],λx hx=> ?_,rfl⟩;rcases Gax.mp hx with hx|hx
   ·exact h3 x hx
   ·simp at hx;rw[hx];exact hc)
 rw[gH] at h2;exact⟨ss,by omega,by omega,h3,Bg d ea (cB (by omega) (by omega)) h1 (gx kO ss)⟩
noncomputable def trD(t:Int×Int×Int):D:= .tup [.int t.1,.int t.2.1,.int t.2.2]
theorem vB(t:Int×Int×Int):(trD t).imm=true:=by simp[trD]
def lU(n:Int)(bs:List (Int×Int×Int)):Prop:=∀b∈bs,0≤b.1∧b.1<n∧0≤b.2.1∧b.2.1<n∧1≤b.2.2
theorem Dz{α β:Type}(f:α→β)(xs:List α)(i:Int)(y:α):(gD xs i y).map f=gD (xs.map f) i (f y):=by
 unfold gD;simp[GaP,List.map_take,GdN]
theorem KC{ns:List Int}{many scale i j k q0 q1 q2 L g:Int}{B:List D}{x6 x7:Option Slot}(m18:cf 18 i=true)(m3:cf 3 j=true)(hk:3000+18*i+3*j=k)(hL:cO [.lst B]=some ⟨.c,.int L⟩)(d0:a9 [.scr ns,.int k,.int 3]=some (.int q0))(d1:a9 [.scr ns,.int (k+1),.int 10]=some (.int q1))(d2:a9 [.scr ns,.int (k+2),.int (L+1)]=some (.int q2))(sm:bV q2=true)(mg:cf scale (1+q1)=true)(hg:scale*(1+q1)=g)(hz:B.length<1000):
  fE [some (.sh (.scr ns)),some (.sh (.int many)),some (.sh (.int scale)),some (.own (.lst B)),some (.sh (.int i)),some (.sh (.int j)),x6,x7]=
   some (.nx (if L<12∧q0=0 then[some (.sh (.scr ns)),some (.sh (.int many)),some (.sh (.int scale)),some (.own (.lst (gD B q2 (.tup [.int i,.int j,.int g])))),some (.sh (.int i)),some (.sh (.int j)),some (.sh (.int k)),some (.sh (.tup [.int i,.int j,.int g]))]
    else[some (.sh (.scr ns)),some (.sh (.int many)),some (.sh (.int scale)),some (.own (.lst B)),some (.sh (.int i)),some (.sh (.int j)),some (.sh (.int k)),x7])):=by
 have z:B.length<16777216:=by omega
 unfold fE;refine(av (e:=[some (.sh (.scr ns)),some (.sh (.int many)),some (.sh (.int scale)),some (.own (.lst B)),some (.sh (.int i)),some (.sh (.int j)),some (.sh (.int k)),x7]) (by simp[m18,m3,hk])).trans ?_;by_cases c1:L<12
 ·by_cases c2:q0=0
  ·rw[Gai ⟨c1,c2⟩];simp[-nX,hL,c1,c2,d0,d1,d2,mg,hg,sm,z,ai]
  ·rw[Gag (λh=>c2 h.2)];simp[-nX,hL,c1,c2,d0]
 ·rw[Gag (λh=>c1 h.1)];simp[-nX,hL,c1]
theorem FU{ns:List Int}{n:Nat}{scale i j:Int}{bs:List (Int×Int×Int)}{x6 x7:Option Slot}(hs:1≤scale)(hs2:scale≤1000000)(hn:n≤6)(hi:0≤i)(hi2:i<n)(hj:0≤j)(hj2:j<n)(hb:lU n bs)(hl:bs.length≤12):
  ∃bs' y6 y7,lU n bs' ∧bs'.length≤12∧fE [some (.sh (.scr ns)),some (.sh (.int (n:Int))),some (.sh (.int scale)),some (.own (.lst (bs.map trD))),some (.sh (.int i)),some (.sh (.int j)),x6,x7]=
   some (.nx [some (.sh (.scr ns)),some (.sh (.int (n:Int))),some (.sh (.int scale)),some (.own (.lst (bs'.map trD))),some (.sh (.int i)),some (.sh (.int j)),y6,y7]):=by
 generalize hk:3000+18*i+3*j=k;have d0:=aS (ns:=ns) (k:=k) (m:=3) (by omega) (by omega) (by omega);have d1:=aS (ns:=ns) (k:=k+1) (m:=10) (by omega) (by omega) (by omega);have l1:=aX ns (k+1) 10 (by omega);have d2:=aS (ns:=ns) (k:=k+2) (m:=(bs.length:Int)+1) (by omega) (by omega) (by omega);have l2:=aX ns (k+2) ((bs.length:Int)+1) (by omega);have hL:cO [.lst (bs.map trD)]=some ⟨.c,.int (bs.length:Int)⟩:=by simp[cO]
 have ev:=KC (many:=(n:Int)) (x6:=x6) (x7:=x7) (bR (by omega) (by omega)) (bR (by omega) (by omega)) hk hL d0 d1 d2 (cB (by omega) (by omega)) (bR (i:=scale) (j:=1+draw ns (k+1) 10) (by omega) (by omega)) rfl (by rw[Gaf];omega);rw[ev];by_cases c:(bs.length:Int)<12∧draw ns k 3=0
 ·rw[Gai c];refine⟨gD bs (draw ns (k+2) ((bs.length:Int)+1)) (i,j,scale*(1+draw ns (k+1) 10)),some (.sh (.int k)),some (.sh (.tup [.int i,.int j,.int (scale*(1+draw ns (k+1) 10))])),λb hb' => ?_,by rw[tY];omega,by rw[Dz];rfl⟩;rcases Gay.mp ((AU _ _ _).mem_iff.mp hb') with h|h
  ·subst h;exact⟨hi,hi2,hj,hj2,gI hs (by omega)⟩
  ·exact hb b h
 ·rw[Gag c];exact⟨bs,some (.sh (.int k)),x7,hb,hl,rfl⟩
theorem Ir{ns:List Int}{n:Nat}{scale i:Int}{bs:List (Int×Int×Int)}{x5 x6 x7:Option Slot}(hs:1≤scale)(hs2:scale≤1000000)(hn:n≤6)(hi:0≤i)(hi2:i<n)(hb:lU n bs)(hl:bs.length≤12):
  ∃bs' y5 y6 y7,lU n bs' ∧bs'.length≤12∧fF [some (.sh (.scr ns)),some (.sh (.int (n:Int))),some (.sh (.int scale)),some (.own (.lst (bs.map trD))),some (.sh (.int i)),x5,x6,x7]=
   some (.nx [some (.sh (.scr ns)),some (.sh (.int (n:Int))),some (.sh (.int scale)),some (.own (.lst (bs'.map trD))),some (.sh (.int i)),y5,y6,y7]):=by
 obtain⟨e,h1,bs',y5,y6,y7,h2,h3,rfl⟩:=gw (g:=gN 5) (body:=fE) (λm env=>∃(bs' :List (Int×Int×Int)) (y5 y6 y7:Option Slot),lU n bs' ∧bs'.length≤12∧env=[some (.sh (.scr ns)),some (.sh (.int (n:Int))),some (.sh (.int scale)),some (.own (.lst (bs'.map trD))),some (.sh (.int i)),y5,y6,y7]) (bx i ((n:Int)-i).toNat) 0 _ ⟨bs,x5,x6,x7,hb,hl,rfl⟩ (by
  rintro j d e hd ⟨bs',y5,y6,y7,h2,h3,rfl⟩;obtain⟨hj,rfl⟩:=dZ hd;obtain⟨bs2,z6,z7,q1,q2,q3⟩:=FU (ns:=ns) (n:=n) (scale:=scale) (i:=i) (j:=i+(j:Int)) (bs:=bs') (x6:=y6) (x7:=y7) hs hs2 hn hi hi2 (by omega) (by omega) h2 h3;exact⟨_,_,rfl,q3,bs2,some (.sh (.int (i+(j:Int)))),z6,z7,q1,q2,rfl⟩)
 refine⟨bs',y5,y6,y7,h2,h3, ?_⟩;have sa:bV i=true:=cB (by omega) (by omega);have sb:bV (n:Int)=true:=cB (by omega) (by omega);unfold fF;generalize (n:Int)=nn at*;simp[-forL,sa,sb,h1]
theorem FV{ns:List Int}{n scale:Int}{B:List D}{y4 y5 y6 y7:Option Slot}(sm:bV n=true)(h1:forL (gN 4) fF (bx 0 n.toNat) [some (.sh (.scr ns)),some (.sh (.int n)),some (.sh (.int scale)),some (.own (.lst [])),none,none,none,none]=some (.nx [some (.sh (.scr ns)),some (.sh (.int n)),some (.sh (.int scale)),some (.own (.lst B)),y4,y5,y6,y7]))(im:aQ B=true):jo [.scr ns,.int n,.int scale]=some (.tup B):=by
 refine bg rfl ?_;unfold kK;refine(av (e:=[some (.sh (.scr ns)),some (.sh (.int n)),some (.sh (.int scale)),some (.own (.lst [])),none,none,none,none]) (by simp[bz,ai])).trans ?_;refine(av (e:=[some (.sh (.scr ns)),some (.sh (.int n)),some (.sh (.int scale)),some (.own (.lst B)),y4,y5,y6,y7]) (by simp[-forL,sm,h1])).trans ?_;simp[im]
theorem KD{ns:List Int}{n:Nat}{scale:Int}(hs:1≤scale)(hs2:scale≤1000000)(hn:n≤6):∃bs:List (Int×Int×Int),lU n bs∧bs.length≤12∧jo [.scr ns,.int (n:Int),.int scale]=some (.tup (bs.map trD)):=by
 obtain⟨e,h1,bs',y4,y5,y6,y7,h2,h3,rfl⟩:=gw (g:=gN 4) (body:=fF) (λm env=>∃(bs' :List (Int×Int×Int)) (y4 y5 y6 y7:Option Slot),lU n bs' ∧bs'.length≤12∧env=[some (.sh (.scr ns)),some (.sh (.int (n:Int))),some (.sh (.int scale)),some (.own (.lst (bs'.map trD))),y4,y5,y6,y7]) (bx 0 (n:Int).toNat) 0 [some (.sh (.scr ns)),some (.sh (.int (n:Int))),some (.sh (.int scale)),some (.own (.lst [])),none,none,none,none] ⟨[],none,none,none,none,λb hb=>by simp at hb,by simp,rfl⟩ (by
  rintro j d e hd ⟨bs',y4,y5,y6,y7,h2,h3,rfl⟩;obtain⟨hj,rfl⟩:=dZ hd;obtain⟨bs2,z5,z6,z7,q1,q2,q3⟩:=Ir (ns:=ns) (n:=n) (scale:=scale) (i:=0+(j:Int)) (bs:=bs') (x5:=y5) (x6:=y6) (x7:=y7) hs hs2 hn (by omega) (by omega) h2 h3;exact⟨_,_,rfl,q3,bs2,some (.sh (.int (0+(j:Int)))),z5,z6,z7,q1,q2,rfl⟩)
 exact⟨bs',h2,h3,FV (cB (by omega) (by omega)) h1 (gx vB bs')⟩
inductive t8 where
 |asked (b:Int)
 |due (b e m ea la:Int)
noncomputable def df:t8→D
 | .asked b=> .tup [.str "asked",.int b]
 | .due b e m ea la=> .tup [.str "due",.int b,.int e,.int m,.int ea,.int la]
def pE:t8→Prop
 | .asked b=>0≤b
 | .due b e m ea la=>1≤e∧e≤12000000∧(m=1∨m=2∨m=4∨m=6∨m=60)∧0≤ea∧0≤la∧ea+la<e∧ea≤b∧b≤30000000
theorem pF(u:t8):(df u).imm=true:=by cases u<;>simp[df]
theorem KG{ns:List Int}{k scale q0 w u v t b e ea la m qm:Int}(hs:1≤scale)(hs2:scale≤1000000)(d0:a9 [.scr ns,.int k,.int 3]=some (.int q0))(c:¬q0=0)(d2:a9 [.scr ns,.int (k+2),.int 12]=some (.int (w -1)))(ms:∀j,cf scale j=true)(he:scale*w=e)(hq:e/scale=w)(d3:a9 [.scr ns,.int (k+3),.int w]=some (.int u))(hea:scale*u=ea)(hq2:(e -ea)/scale=w -u)(d4:a9 [.scr ns,.int (k+4),.int (w -u)]=some (.int v))(hla:scale*v=la)(d5:a9 [.scr ns,.int (k+5),.int 10]=some (.int t))(hb:ea+scale*t=b)(d6:a9 [.scr ns,.int (k+6),.int 5]=some (.int qm))(am:atD [D.int 1,.int 2,.int 4,.int 6,.int 60] qm=some (.int m)):
  jr [.scr ns,.int k,.int scale]=some (.tup [.str "due",.int b,.int e,.int m,.int ea,.int la]):=by
 have sp:0<scale:=by omega
 have sp2:scale<1073741824:=by omega
 have w1:1+(w -1)=w:=by omega
 refine bg rfl ?_;unfold jq;refine(av (e:=[some (.sh (.scr ns)),some (.sh (.int k)),some (.sh (.int scale)),none,none,none,none]) (by simp[bz,d0,c])).trans ?_;refine(av (e:=[some (.sh (.scr ns)),some (.sh (.int k)),some (.sh (.int scale)),some (.sh (.int e)),none,none,none]) (by simp[d2,ms,w1,he])).trans ?_;refine(av (e:=[some (.sh (.scr ns)),some (.sh (.int k)),some (.sh (.int scale)),some (.sh (.int e)),some (.sh (.int ea)),none,none]) (by simp[sp,sp2,hq,d3,ms,hea])).trans ?_;refine(av (e:=[some (.sh (.scr ns)),some (.sh (.int k)),some (.sh (.int scale)),some (.sh (.int e)),some (.sh (.int ea)),some (.sh (.int la)),none]) (by simp[sp,sp2,hq2,d4,ms,hla])).trans ?_;refine(av (e:=[some (.sh (.scr ns)),some (.sh (.int k)),some (.sh (.int scale)),some (.sh (.int e)),some (.sh (.int ea)),some (.sh (.int la)),some (.sh (.int b))]) (by simp[d5,ms,hb])).trans ?_;simp[d6,am,ai]
theorem KH{ns:List Int}{k scale:Int}(hk:0≤k)(hk2:k<10000)(hs:1≤scale)(hs2:scale≤1000000):∃u:t8,pE u∧jr [.scr ns,.int k,.int scale]=some (df u):=by
 have d0:=aS (ns:=ns) (k:=k) (m:=3) (by omega) (by omega) (by omega);have ms:∀j,cf scale j=true:=λj=>bR (by omega) (by omega);by_cases c:draw ns k 3=0
 ·have d1:=aS (ns:=ns) (k:=k+1) (m:=20) (by omega) (by omega) (by omega);have l1:=aX ns (k+1) 20 (by omega);refine⟨.asked (scale*draw ns (k+1) 20),Gdh (by omega) l1.1, ?_⟩;refine bg rfl ?_;unfold jq;refine Ce ?_;simp[bz,d0,c,d1,ms,ai,df]
 ·have d2:=aS (ns:=ns) (k:=k+2) (m:=12) (by omega) (by omega) (by omega);have l2:=aX ns (k+2) 12 (by omega);generalize hw:1+draw ns (k+2) 12=w;have hw' :draw ns (k+2) 12=w -1:=by omega
  rw[hw'] at d2;have d3:=aS (ns:=ns) (k:=k+3) (m:=w) (by omega) (by omega) (by omega);have l3:=aX ns (k+3) w (by omega);generalize draw ns (k+3) w=u at*;have d4:=aS (ns:=ns) (k:=k+4) (m:=w -u) (by omega) (by omega) (by omega);have l4:=aX ns (k+4) (w -u) (by omega);generalize draw ns (k+4) (w -u)=v at*;have d5:=aS (ns:=ns) (k:=k+5) (m:=10) (by omega) (by omega) (by omega);have l5:=aX ns (k+5) 10 (by omega);generalize draw ns (k+5) 10=t at*;have d6:=aS (ns:=ns) (k:=k+6) (m:=5) (by omega) (by omega) (by omega);have l6:=aX ns (k+6) 5 (by omega);obtain⟨m,hm,am⟩:=at5 (a:=1) (b:=2) (c:=4) (d:=6) (e:=60) l6.1 l6.2;have hq:scale*w/scale=w:=Int.mul_ediv_cancel_left w (by omega);have hq2:(scale*w -scale*u)/scale=w -u:=by rw[←Int.mul_sub];exact Int.mul_ediv_cancel_left _ (by omega)
  refine⟨.due (scale*u+scale*t) (scale*w) m (scale*u) (scale*v),⟨gI hs (by omega), ?_,hm,Gdh (by omega) l3.1,Gdh (by omega) l4.1, ?_, ?_, ?_⟩,KG hs hs2 d0 c d2 ms rfl hq d3 rfl hq2 d4 rfl d5 rfl d6 am⟩
  ·have:=pD (a:=scale) (b:=w) (A:=1000000) (B:=12) (by omega) hs2 (by omega) (by omega);omega
  ·have h1:scale*u+scale*v=scale*(u+v):=by rw[Int.mul_add]
   have h2:scale*(u+v)<scale*w:=Int.mul_lt_mul_of_pos_left (by omega) (by omega);omega
  ·have:=Gdh (a:=scale) (b:=t) (by omega) l5.1;omega
  ·have h1:=pD (a:=scale) (b:=u) (A:=1000000) (B:=12) (by omega) hs2 (by omega) (by omega);have h2:=pD (a:=scale) (b:=t) (A:=1000000) (B:=10) (by omega) hs2 (by omega) (by omega);omega
structure Order where
 name:Str
 aY:Int
 br:Int
 way:Str
 top:Int
 per:Int
 most:Int
 jz:t8
 Bq:List D
noncomputable def aF(o:Order):D:= .tup [.str o.name,.int o.aY,.int o.br,.tup [.str o.way,.int o.top,.int o.per,.int o.most],df o.jz,.tup o.Bq]
structure oz(ng nst:Nat)(o:Order):Prop where
 g0:0≤o.aY
 g1:o.aY<ng
 s0:0≤o.br
 s1:o.br<nst
 du:pE o.jz
 ti:aQ o.Bq=true
theorem KI{u:t8}{env:DL.Env}(h:env[11]? =some (some (.sh (df u))))(hl:env.length=13):∃T:List D,aQ T=true∧∀(he:env[12]? =some (some (.sh (.tup [])))),ifS (jy (aZ eqB (ixE (vE 11) (kE (.int 0))) (kE (.str "due"))) (aZ gtB (ixE (vE 11) (kE (.int 3))) (kE (.int 2))))
  (aR 12 (bM (a5 (bM (a5 (kE (.int 1)) (a5 (kE (.int 1)) (a5 (kE (.int 2)) aq)))) (a5 (bM (a5 (kE (.int 2)) (a5 (kE (.int 1)) (a5 (kE (.int 3)) aq)))) aq))))
  bf env=some (.nx (env.set 12 (some (.sh (.tup T))))):=by
 have e0:∀(he:env[12]? =some (some (.sh (.tup [])))),env.set 12 (some (.sh (.tup [])))=env:=λhe=>by
  apply Gdk;intro i;by_cases q:12=i
  ·subst q;rw[GaQ (by omega),he]
  ·rw[Gac q]
 cases u with
 |asked b=>
  refine⟨[],rfl,λhe=> ?_⟩;rw[e0 he];unfold df at h;simp[h,eqB]
 |due b e m ea la=>
  unfold df at h;by_cases c:m>2
  ·refine⟨[.tup [.int 1,.int 1,.int 2],.tup [.int 2,.int 1,.int 3]],rfl,λhe=> ?_⟩;simp[h,eqB,c,ai,DL.stored]
  ·refine⟨[],rfl,λhe=> ?_⟩;rw[e0 he];simp[h,eqB,c]
theorem KJ{r:Int}(h:0≤r):∃w:Str,atD [D.str "down",.str "up",.str "near"] (r%3)=some (.str w):=by
 have:r%3=0∨r%3=1∨r%3=2:=by omega
 rcases this with q|q|q<;>rw[q]
 ·exact⟨"down",rfl⟩
 ·exact⟨"up",rfl⟩
 ·exact⟨"near",rfl⟩
theorem at3{a b c q:Int}(h:0≤q)(h2:q<3):∃v,(v=a∨v=b∨v=c)∧atD [D.int a,.int b,.int c] q=some (.int v):=by
 have:q=0∨q=1∨q=2:=by omega
 rcases this with rfl|rfl|rfl
 ·exact⟨a,.inl rfl,rfl⟩
 ·exact⟨b,.inr (.inl rfl),rfl⟩
 ·exact⟨c,.inr (.inr rfl),rfl⟩
theorem FW{ns:List Int}{scale r k st part f q1 most q2 q3 LS LG g:Int}{G S O M T:List D}{nm C Y:D}{u:t8}{w:Str}{ch:Nat}{x3 x7 x8 x9 x10 x11 x12:Option Slot}(m20:cf 20 r=true)(hk:300+20*r=k)(hLS:cO [.tup S]=some ⟨.c,.int LS⟩)(d0:a9 [.scr ns,.int k,.int LS]=some (.int st))(hS:atD S st=some (.tup [nm,.tup (.int part::M),C,Y]))(d1:a9 [.scr ns,.int (k+1),.int 3]=some (.int q1))(hf:atD [D.int 4,.int 15,.int 2000] q1=some (.int f))(mm:cf part f=true)(hm:part*f=most)
  (hw:atD [D.str "down",.str "up",.str "near"] (r%3)=some (.str w))(d2:a9 [.scr ns,.int (k+2),.int 90]=some (.int q2))(d3:a9 [.scr ns,.int (k+3),.int 9]=some (.int q3))(du:jr [.scr ns,.int (k+4),.int scale]=some (df u))(hLG:cO [.lst G]=some ⟨.c,.int LG⟩)(dg:a9 [.scr ns,.int (k+12),.int LG]=some (.int g))(hch:atD (Str.ofString "abcdefghijkl").cps.toList r=some ch)(hz:O.length<1000)
  (iT:aQ T=true)(ht:∀env:DL.Env,env=[some (.sh (.scr ns)),some (.sh (.int scale)),some (.own (.lst G)),x3,some (.sh (.tup S)),some (.own (.lst O)),some (.sh (.int r)),some (.sh (.int k)),some (.sh (.int st)),some (.sh (.int most)),some (.sh (.tup [.str w,.int (1+q2),.int q3,.int most])),some (.sh (df u)),some (.sh (.tup []))]→
   ifS (jy (aZ eqB (ixE (vE 11) (kE (.int 0))) (kE (.str "due"))) (aZ gtB (ixE (vE 11) (kE (.int 3))) (kE (.int 2)))) (aR 12 (bM (a5 (bM (a5 (kE (.int 1)) (a5 (kE (.int 1)) (a5 (kE (.int 2)) aq)))) (a5 (bM (a5 (kE (.int 2)) (a5 (kE (.int 1)) (a5 (kE (.int 3)) aq)))) aq)))) bf env=some (.nx (env.set 12 (some (.sh (.tup T)))))):
  d9 [some (.sh (.scr ns)),some (.sh (.int scale)),some (.own (.lst G)),x3,some (.sh (.tup S)),some (.own (.lst O)),some (.sh (.int r)),x7,x8,x9,x10,x11,x12]=
   some (.nx [some (.sh (.scr ns)),some (.sh (.int scale)),some (.own (.lst G)),x3,some (.sh (.tup S)),some (.own (.lst (O++[.tup [.str ("order"++ ⟨#[ch]⟩),.int g,.int st,.tup [.str w,.int (1+q2),.int q3,.int most],df u,.tup T]]))),some (.sh (.int r)),some (.sh (.int k)),some (.sh (.int st)),some (.sh (.int most)),some (.sh (.tup [.str w,.int (1+q2),.int q3,.int most])),some (.sh (df u)),some (.sh (.tup T))]):=by
 have z:O.length<16777216:=by omega
 have iu:=pF u;have ru:=c0 iu;generalize df u=U at*;have w1:(Str.ofString "abcdefghijkl").length≤16777216:=by decide
 have w2:(Str.ofString "order").length+(⟨#[ch]⟩:Str).length≤16777216:=by
  have:(⟨#[ch]⟩:Str).length=1:=rfl;rw[this];decide
 unfold d9;refine(av (e:=[some (.sh (.scr ns)),some (.sh (.int scale)),some (.own (.lst G)),x3,some (.sh (.tup S)),some (.own (.lst O)),some (.sh (.int r)),some (.sh (.int k)),x8,x9,x10,x11,x12]) (by simp[m20,hk])).trans ?_;refine(av (e:=[some (.sh (.scr ns)),some (.sh (.int scale)),some (.own (.lst G)),x3,some (.sh (.tup S)),some (.own (.lst O)),some (.sh (.int r)),some (.sh (.int k)),some (.sh (.int st)),x9,x10,x11,x12]) (by simp[-fY,hLS,d0])).trans ?_;refine(av (e:=[some (.sh (.scr ns)),some (.sh (.int scale)),some (.own (.lst G)),x3,some (.sh (.tup S)),some (.own (.lst O)),some (.sh (.int r)),some (.sh (.int k)),some (.sh (.int st)),some (.sh (.int most)),x10,x11,x12]) (by simp[hS,d1,hf,mm,hm,ai])).trans ?_;refine(av (e:=[some (.sh (.scr ns)),some (.sh (.int scale)),some (.own (.lst G)),x3,some (.sh (.tup S)),some (.own (.lst O)),some (.sh (.int r)),some (.sh (.int k)),some (.sh (.int st)),some (.sh (.int most)),some (.sh (.tup [.str w,.int (1+q2),.int q3,.int most])),x11,x12]) (by simp[hw,d2,d3,ai])).trans ?_;refine(av (e:=[some (.sh (.scr ns)),some (.sh (.int scale)),some (.own (.lst G)),x3,some (.sh (.tup S)),some (.own (.lst O)),some (.sh (.int r)),some (.sh (.int k)),some (.sh (.int st)),some (.sh (.int most)),some (.sh (.tup [.str w,.int (1+q2),.int q3,.int most])),some (.sh U),x12]) (by simp[du,ru])).trans ?_;refine(av (e:=[some (.sh (.scr ns)),some (.sh (.int scale)),some (.own (.lst G)),x3,some (.sh (.tup S)),some (.own (.lst O)),some (.sh (.int r)),some (.sh (.int k)),some (.sh (.int st)),some (.sh (.int most)),some (.sh (.tup [.str w,.int (1+q2),.int q3,.int most])),some (.sh U),some (.sh (.tup []))]) (by simp[ai])).trans ?_;refine(av (ht _ rfl)).trans ?_;simp[-nX,hLG,dg,hch,w1,w2,iu,iT,ai,z]
theorem ip(o:Order)(h:aQ o.Bq=true):(aF o).imm=true:=by
 have:=pF o.jz;simp[aF,this,h]
theorem Bi{ns:List Int}{scale:Int}{i:Nat}{G:List D}{ss:List jt}{os:List Order}{x3 x7 x8 x9 x10 x11 x12:Option Slot}(hs:1≤scale)(hs2:scale≤1000000)(hi:i<12)(hG:1≤G.length)(hG2:G.length≤100)(hS:1≤ss.length)(hS2:ss.length≤100)(hok:∀s∈ss,mK s)(hl:os.length≤100):
  ∃o y7 y8 y9 y10 y11 y12,oz G.length ss.length o∧d9 [some (.sh (.scr ns)),some (.sh (.int scale)),some (.own (.lst G)),x3,some (.sh (.tup (ss.map b7))),some (.own (.lst (os.map aF))),some (.sh (.int (i:Int))),x7,x8,x9,x10,x11,x12]=
   some (.nx [some (.sh (.scr ns)),some (.sh (.int scale)),some (.own (.lst G)),x3,some (.sh (.tup (ss.map b7))),some (.own (.lst ((os++[o]).map aF))),some (.sh (.int (i:Int))),y7,y8,y9,y10,y11,y12]):=by
 obtain⟨ch,hch⟩:=Dy hi;have hj:(0:Int)≤(i:Int)∧(i:Int)≤11:=by omega
 have hz:(os.map aF).length<1000:=by rw[Gaf];omega
 have e1:∀s,(os++[s]).map aF=os.map aF++[aF s]:=λs=>by simp
 generalize (i:Int)=r at*;generalize os.map aF=O at*;generalize hk:300+20*r=k;have hLS:cO [.tup (ss.map b7)]=some ⟨.c,.int (ss.length:Int)⟩:=by simp[cO]
 have hLG:cO [.lst G]=some ⟨.c,.int (G.length:Int)⟩:=rfl;have d0:=aS (ns:=ns) (k:=k) (m:=(ss.length:Int)) (by omega) (by omega) (by omega);have l0:=aX ns k (ss.length:Int) (by omega);generalize draw ns k (ss.length:Int)=st at*;obtain⟨n,rfl⟩:=GaG l0.1;have hn:n<ss.length:=by omega
 have hSat:atD (ss.map b7) (n:Int)=some (.tup [.str ss[n].name,.tup (.int ss[n].part::ss[n].more.map .int),.tup (ss[n].aO.map bw),.int ss[n].young]):=by
  rw[cW,Gak,Gab hn];rfl
 have ok:=hok ss[n] (GaD hn);have okp1:=ok.p1;have okp2:=ok.p2;have d1:=aS (ns:=ns) (k:=k+1) (m:=3) (by omega) (by omega) (by omega);have l1:=aX ns (k+1) 3 (by omega);obtain⟨f,hf0,hf⟩:=at3 (a:=4) (b:=15) (c:=2000) l1.1 l1.2;obtain⟨w,hw⟩:=KJ (r:=r) hj.1;have d2:=aS (ns:=ns) (k:=k+2) (m:=90) (by omega) (by omega) (by omega);have d3:=aS (ns:=ns) (k:=k+3) (m:=9) (by omega) (by omega) (by omega);obtain⟨u,u1,du⟩:=KH (ns:=ns) (k:=k+4) (scale:=scale) (by omega) (by omega) hs hs2;have dg:=aS (ns:=ns) (k:=k+12) (m:=(G.length:Int)) (by omega) (by omega) (by omega);have lg:=aX ns (k+12) (G.length:Int) (by omega);obtain⟨T,iT,ht⟩:=KI (u:=u) (env:=[some (.sh (.scr ns)),some (.sh (.int scale)),some (.own (.lst G)),x3,some (.sh (.tup (ss.map b7))),some (.own (.lst O)),some (.sh (.int r)),some (.sh (.int k)),some (.sh (.int (n:Int))),some (.sh (.int (ss[n].part*f))),some (.sh (.tup [.str w,.int (1+draw ns (k+2) 90),.int (draw ns (k+3) 9),.int (ss[n].part*f)])),some (.sh (df u)),some (.sh (.tup []))]) rfl rfl;refine⟨⟨"order"++ ⟨#[ch]⟩,draw ns (k+12) (G.length:Int),(n:Int),w,1+draw ns (k+2) 90,draw ns (k+3) 9,ss[n].part*f,u,T⟩,some (.sh (.int k)),some (.sh (.int (n:Int))),some (.sh (.int (ss[n].part*f))),some (.sh (.tup [.str w,.int (1+draw ns (k+2) 90),.int (draw ns (k+3) 9),.int (ss[n].part*f)])),some (.sh (df u)),some (.sh (.tup T)),⟨lg.1,lg.2,by simp,by simp;omega,u1,iT⟩, ?_⟩;rw[e1];exact FW (bR (by omega) (by omega)) hk hLS d0 hSat d1 hf (bR (by omega) (by omega)) rfl hw d2 d3 du hLG dg hch hz iT λenv he=>by subst he;exact ht rfl
theorem Bj{ns:List Int}{scale:Int}{i:Nat}{gs:List (Str×Int)}{x4 x5 x6 x7 x8 x9 x10 x11 x12:Option Slot}(hs:1≤scale)(hs2:scale≤1000000)(hi:i<6)(hl:gs.length≤100):
  ∃g:Str×Int,dW [some (.sh (.scr ns)),some (.sh (.int scale)),some (.own (.lst (gs.map λg=> .tup [.str g.1,.int g.2]))),some (.sh (.int (i:Int))),x4,x5,x6,x7,x8,x9,x10,x11,x12]=
   some (.nx [some (.sh (.scr ns)),some (.sh (.int scale)),some (.own (.lst ((gs++[g]).map λg=> .tup [.str g.1,.int g.2]))),some (.sh (.int (i:Int))),x4,x5,x6,x7,x8,x9,x10,x11,x12]):=by
 obtain⟨ch,hch⟩:=FP hi;have hj:(0:Int)≤(i:Int)∧(i:Int)≤5:=by omega
 have hz:(gs.map λg=>D.tup [.str g.1,.int g.2]).length<16777216:=by rw[Gaf];omega
 have e1:∀s:Str×Int,((gs++[s]).map λg=>D.tup [.str g.1,.int g.2])=(gs.map λg=>D.tup [.str g.1,.int g.2])++[.tup [.str s.1,.int s.2]]:=λs=>by simp
 generalize (i:Int)=j at*;generalize (gs.map λg=>D.tup [.str g.1,.int g.2])=G at*;have d:=aS (ns:=ns) (k:=30+j) (m:=15) (by omega) (by omega) (by omega);have ms:∀j,cf scale j=true:=λj=>bR (by omega) (by omega);have w1:(Str.ofString "abcdef").length≤16777216:=by decide
 have w2:(Str.ofString "guest").length+(⟨#[ch]⟩:Str).length≤16777216:=by
  have:(⟨#[ch]⟩:Str).length=1:=rfl;rw[this];decide
 refine⟨("guest"++ ⟨#[ch]⟩,scale*draw ns (30+j) 15), ?_⟩;rw[e1];unfold dW;simp[hch,w1,w2,d,ms,ai,hz]
structure World where
 cq:List (Str×Int)
 aB:List jt
 cU:List (Int×Int×Int)
 orders:List Order
noncomputable def cR(g:Str×Int):D:= .tup [.str g.1,.int g.2]
noncomputable def bA(w:World):D:= .tup [.tup (w.cq.map cR),.tup (w.aB.map b7),.tup (w.cU.map trD),.tup (w.orders.map aF)]
structure bJ(w:World):Prop where
 g1:1≤w.cq.length
 g6:w.cq.length≤6
 s1:1≤w.aB.length
 s6:w.aB.length≤6
 so:∀s∈w.aB,mK s
 b12:w.cU.length≤12
 bo:lU w.aB.length w.cU
 o1:1≤w.orders.length
 o12:w.orders.length≤12
 oo:∀o∈w.orders,oz w.cq.length w.aB.length o
theorem rY(g:Str×Int):(cR g).imm=true:=by simp[cR]
theorem DB{ns:List Int}{q1 scale qg ng qo no LS:Int}{G S B O:List D}{y3 y6 y7 y8 y9 y10 y11 y12:Option Slot}(d1:a9 [.scr ns,.int 1,.int 6]=some (.int q1))(h1:atD [D.int 1,.int 1,.int 1,.int 1,.int 1,.int 1000000] q1=some (.int scale))(dg:a9 [.scr ns,.int 20,.int 6]=some (.int qg))(hg:atD [D.int 1,.int 2,.int 3,.int 2,.int 3,.int 6] qg=some (.int ng))(sg:bV ng=true)
  (lg:forL (gN 3) dW (bx 0 ng.toNat) [some (.sh (.scr ns)),some (.sh (.int scale)),some (.own (.lst [])),none,none,none,none,none,none,none,none,none,none]=some (.nx [some (.sh (.scr ns)),some (.sh (.int scale)),some (.own (.lst G)),y3,none,none,none,none,none,none,none,none,none]))
  (es:gq [.scr ns,.int scale]=some (.tup S))(iS:aQ S=true)(do' :a9 [.scr ns,.int 22,.int 6]=some (.int qo))(ho:atD [D.int 1,.int 2,.int 3,.int 4,.int 4,.int 12] qo=some (.int no))(so:bV no=true)
  (lo:forL (gN 6) d9 (bx 0 no.toNat) [some (.sh (.scr ns)),some (.sh (.int scale)),some (.own (.lst G)),y3,some (.sh (.tup S)),some (.own (.lst [])),none,none,none,none,none,none,none]=some (.nx [some (.sh (.scr ns)),some (.sh (.int scale)),some (.own (.lst G)),y3,some (.sh (.tup S)),some (.own (.lst O)),y6,y7,y8,y9,y10,y11,y12]))
  (hLS:cO [.tup S]=some ⟨.c,.int LS⟩)(eb:jo [.scr ns,.int LS,.int scale]=some (.tup B))(iB:aQ B=true)(iG:aQ G=true)(iO:aQ O=true):ij [.scr ns]=some (.tup [.tup G,.tup S,.tup B,.tup O]):=by
 have rS:=c0 (d:= .tup S) (by simp[iS]);have rB:=c0 (d:= .tup B) (by simp[iB]);refine bg rfl ?_;unfold jE;refine(av (e:=[some (.sh (.scr ns)),some (.sh (.int scale)),none,none,none,none,none,none,none,none,none,none,none]) (by simp[bz,d1,h1,ai])).trans ?_;refine(av (e:=[some (.sh (.scr ns)),some (.sh (.int scale)),some (.own (.lst [])),none,none,none,none,none,none,none,none,none,none]) (by simp[ai])).trans ?_;refine(av (e:=[some (.sh (.scr ns)),some (.sh (.int scale)),some (.own (.lst G)),y3,none,none,none,none,none,none,none,none,none]) (by simp[-forL,dg,hg,sg,lg,ai])).trans ?_;refine(av (e:=[some (.sh (.scr ns)),some (.sh (.int scale)),some (.own (.lst G)),y3,some (.sh (.tup S)),none,none,none,none,none,none,none,none]) (by simp[es,rS])).trans ?_;refine(av (e:=[some (.sh (.scr ns)),some (.sh (.int scale)),some (.own (.lst G)),y3,some (.sh (.tup S)),some (.own (.lst [])),none,none,none,none,none,none,none]) (by simp[ai])).trans ?_;refine(av (e:=[some (.sh (.scr ns)),some (.sh (.int scale)),some (.own (.lst G)),y3,some (.sh (.tup S)),some (.own (.lst O)),y6,y7,y8,y9,y10,y11,y12]) (by simp[-forL,do',ho,so,lo,ai])).trans ?_;simp[-fY,hLS,eb,rB,iS,iB,iG,iO,ai]
theorem vC(ns:List Int):∃scale:Int,1≤scale∧scale≤1000000∧atD [D.int 1,.int 1,.int 1,.int 1,.int 1,.int 1000000] (draw ns 1 6)=some (.int scale):=by
 have l:=aX ns 1 6 (by omega);obtain⟨v,hv,e⟩:=at6 (a:=1) (b:=1) (c:=1) (d:=1) (e:=1) (f:=1000000) l.1 l.2;exact⟨v,by omega,by omega,e⟩
theorem Iu(ns:List Int):∃w:World,bJ w∧ij [.scr ns]=some (bA w):=by
 have d1:=aS (ns:=ns) (k:=1) (m:=6) (by omega) (by omega) (by omega);obtain⟨scale,c1,c2,h1⟩:=vC ns;have dg:=aS (ns:=ns) (k:=20) (m:=6) (by omega) (by omega) (by omega);have lg:=aX ns 20 6 (by omega);obtain⟨ng,hng,hg⟩:=at6 (a:=1) (b:=2) (c:=3) (d:=2) (e:=3) (f:=6) lg.1 lg.2;have dO:=aS (ns:=ns) (k:=22) (m:=6) (by omega) (by omega) (by omega);have lO:=aX ns 22 6 (by omega);obtain⟨no,hno,hO⟩:=at6 (a:=1) (b:=2) (c:=3) (d:=4) (e:=4) (f:=12) lO.1 lO.2;obtain⟨e,l1,gs,y3,g2,rfl⟩:=gw (g:=gN 3) (body:=dW) (λm env=>∃(gs:List (Str×Int)) (y3:Option Slot),gs.length=m∧env=[some (.sh (.scr ns)),some (.sh (.int scale)),some (.own (.lst (gs.map λg=> .tup [.str g.1,.int g.2]))),y3,none,none,none,none,none,none,none,none,none]) (bx 0 ng.toNat) 0 [some (.sh (.scr ns)),some (.sh (.int scale)),some (.own (.lst [])),none,none,none,none,none,none,none,none,none,none] ⟨[],none,rfl,rfl⟩ (by
  rintro i d e hd ⟨gs,y3,h2,rfl⟩;obtain⟨hi,rfl⟩:=dZ hd;obtain⟨g,h⟩:=Bj (ns:=ns) (scale:=scale) (i:=i) (gs:=gs) (x4:=none) (x5:=none) (x6:=none) (x7:=none) (x8:=none) (x9:=none) (x10:=none) (x11:=none) (x12:=none) c1 c2 (by omega) (by omega);rw[show(0:Int)+(i:Int)=(i:Int) by omega];exact⟨_,_,rfl,h,gs++[g],some (.sh (.int (i:Int))),by simp[h2],rfl⟩)
 rw[gH] at g2;obtain⟨ss,t1,t2,t3,t4⟩:=FT (ns:=ns) c1 c2;obtain⟨bs,b1,b2,b3⟩:=KD (ns:=ns) (n:=ss.length) c1 c2 t2;have hLG:(gs.map cR).length=gs.length:=by simp
 have eG:(gs.map λg=>D.tup [.str g.1,.int g.2])=gs.map cR:=rfl;rw[eG] at l1;obtain⟨e,l2,os,y6,y7,y8,y9,y10,y11,y12,o2,o3,rfl⟩:=gw (g:=gN 6) (body:=d9) (λm env=>∃(os:List Order) (y6 y7 y8 y9 y10 y11 y12:Option Slot),os.length=m∧(∀o∈os,oz gs.length ss.length o)∧env=[some (.sh (.scr ns)),some (.sh (.int scale)),some (.own (.lst (gs.map cR))),y3,some (.sh (.tup (ss.map b7))),some (.own (.lst (os.map aF))),y6,y7,y8,y9,y10,y11,y12]) (bx 0 no.toNat) 0 [some (.sh (.scr ns)),some (.sh (.int scale)),some (.own (.lst (gs.map cR))),y3,some (.sh (.tup (ss.map b7))),some (.own (.lst [])),none,none,none,none,none,none,none] ⟨[],none,none,none,none,none,none,none,rfl,by simp,rfl⟩ (by
  rintro i d e hd ⟨os,y6,y7,y8,y9,y10,y11,y12,h2,h3,rfl⟩;obtain⟨hi,rfl⟩:=dZ hd;obtain⟨o,z7,z8,z9,z10,z11,z12,k1,k2⟩:=Bi (ns:=ns) (scale:=scale) (i:=i) (G:=gs.map cR) (ss:=ss) (os:=os) (x3:=y3) (x7:=y7) (x8:=y8) (x9:=y9) (x10:=y10) (x11:=y11) (x12:=y12) c1 c2 (by omega) (by omega) (by omega) t1 (by omega) t3 (by omega);rw[hLG] at k1;rw[show(0:Int)+(i:Int)=(i:Int) by omega];refine⟨_,_,rfl,k2,os++[o],some (.sh (.int (i:Int))),z7,z8,z9,z10,z11,z12,by simp[h2],λx hx=> ?_,rfl⟩;rcases Gax.mp hx with hx|hx
  ·exact h3 x hx
  ·simp at hx;rw[hx];exact k1)
 rw[gH] at o2;have iO:aQ (os.map aF)=true:=by
  have:∀l:List Order,(∀o∈l,oz gs.length ss.length o)→aQ (l.map aF)=true:=by
   intro l;induction l with
   |nil=>intro _;rfl
   |cons o l ih=>
    intro h;have h1:=ip o (h o Gao).ti;have h2:=ih λx hx=>h x (Gaj _ hx);rw[Gap];simp[h1,h2]
  exact this os o3
 refine⟨⟨gs,ss,bs,os⟩,⟨by simp;omega,by simp;omega,t1,t2,t3,b2,b1,by simp;omega,by simp;omega,o3⟩, ?_⟩;exact DB d1 h1 dg hg (cB (by omega) (by omega)) l1 t4 (gx kO ss) dO hO (cB (by omega) (by omega)) l2 (by simp[cO]) b3 (gx vB bs) (gx rY gs) iO
theorem wZ{w:World}{o:Int}(h0:0≤o)(h1:o<w.orders.length):∃x∈w.orders,atD (w.orders.map aF) o=some (aF x):=by
 obtain⟨n,rfl⟩:=GaG h0;have hn:n<w.orders.length:=by omega
 exact⟨w.orders[n],GaD hn,by rw[cW,Gak,Gab hn];rfl⟩
theorem FX{w:World}{o:Int}(h0:0≤o)(h1:o<w.aB.length):∃x∈w.aB,atD (w.aB.map b7) o=some (b7 x):=by
 obtain⟨n,rfl⟩:=GaG h0;have hn:n<w.aB.length:=by omega
 exact⟨w.aB[n],GaD hn,by rw[cW,Gak,Gab hn];rfl⟩
theorem DC{ns:List Int}{k q5 q6 h:Int}{x1 x2 x4 x5 x7 x8:Option Slot}(d5:a9 [.scr ns,.int (k+5000),.int 12]=some (.int q5))(d6:a9 [.scr ns,.int (k+5500),.int 25]=some (.int q6)):∃h' :Int,
  aG (ifS (aZ eqB (aH a9 (a5 (vE 0) (a5 (opE aT (vE 3) (kE (.int 5000))) (a5 (kE (.int 12)) aq)))) (kE (.int 0))) (aR 6 (opE aT (vE 6) (kE (.int 1)))) bf)
   (aG (ifS (aZ eqB (aH a9 (a5 (vE 0) (a5 (opE aT (vE 3) (kE (.int 5500))) (a5 (kE (.int 25)) aq)))) (kE (.int 0))) (aR 6 (opE p9 (kE (.int 10)) (kE (.int 9)))) bf) (retS (vE 6)))
   [some (.sh (.scr ns)),x1,x2,some (.sh (.int k)),x4,x5,some (.sh (.int h)),x7,x8]=some (.ret (.int h')):=by
 by_cases c5:q5=0
 ·by_cases c6:q6=0
  ·exact⟨1000000000,by simp[d5,d6,c5,c6]⟩
  ·exact⟨h+1,by simp[d5,d6,c5,c6]⟩
 ·by_cases c6:q6=0
  ·exact⟨1000000000,by simp[d5,d6,c5,c6]⟩
  ·exact⟨h,by simp[d5,d6,c5,c6]⟩
theorem Iv{ns:List Int}{k o q1 scale q0 q3 q4:Int}{A B C O:List D}{nm g st ru tp:D}{u:t8}(d1:a9 [.scr ns,.int 1,.int 6]=some (.int q1))(h1:atD [D.int 1,.int 1,.int 1,.int 1,.int 1,.int 1000000] q1=some (.int scale))(hs:1≤scale)(hs2:scale≤1000000)(hO:atD O o=some (.tup [nm,g,st,ru,df u,tp]))(du:pE u)(d0:a9 [.scr ns,.int k,.int 70]=some (.int q0))(d3:a9 [.scr ns,.int (k+3000),.int 4]=some (.int q3))(d4:a9 [.scr ns,.int (k+4000),.int 6]=some (.int q4))(l4:0≤q4)(l4' :q4<6)(hk:0≤k)(hk2:k<10000):
  ∃h:Int,js [.scr ns,.tup [.tup A,.tup B,.tup C,.tup O],.int o,.int k]=some (.int h):=by
 have d5:=aS (ns:=ns) (k:=k+5000) (m:=12) (by omega) (by omega) (by omega);have d6:=aS (ns:=ns) (k:=k+5500) (m:=25) (by omega) (by omega) (by omega);have ms:∀j,cf scale j=true:=λj=>bR (by omega) (by omega);have iu:=pF u
 suffices hmid:∃(x7 x8:Option Slot) (h0:Int),ifS (jy (aZ eqB (ixE (vE 5) (kE (.int 0))) (kE (.str "due"))) (aZ gtB (aH a9 (a5 (vE 0) (a5 (opE aT (vE 3) (kE (.int 3000))) (a5 (kE (.int 4)) aq)))) (kE (.int 0))))
  (aG (aR 7 (opE aT (ixE (vE 5) (kE (.int 1))) (opE dE (aH a9 (a5 (vE 0) (a5 (vE 3) (a5 (dP nW (a5 (ixE (vE 5) (kE (.int 3))) (a5 (kE (.int 6)) aq))) aq)))) (ixE (vE 5) (kE (.int 2))))))
 (aG (aR 8 (gE (a5 (vE 7) (a5 (opE k5 (vE 7) (ixE (vE 5) (kE (.int 4)))) (a5 (opE aT (vE 7) (ixE (vE 5) (kE (.int 5)))) (a5 (opE k5 (opE k5 (vE 7) (ixE (vE 5) (kE (.int 4)))) (kE (.int 1))) (a5 (opE aT (opE aT (vE 7) (ixE (vE 5) (kE (.int 5)))) (kE (.int 1))) (a5 (vE 7) aq))))))))
 (aR 6 (dP tX (a5 (kE (.int 0)) (a5 (ixE (vE 8) (aH a9 (a5 (vE 0) (a5 (opE aT (vE 3) (kE (.int 4000))) (a5 (kE (.int 6)) aq))))) aq))))))
  bf [some (.sh (.scr ns)),some (.sh (.tup [.tup A,.tup B,.tup C,.tup O])),some (.sh (.int o)),some (.sh (.int k)),some (.sh (.int scale)),some (.sh (df u)),some (.sh (.int (scale*q0))),none,none]=some (.nx [some (.sh (.scr ns)),some (.sh (.tup [.tup A,.tup B,.tup C,.tup O])),some (.sh (.int o)),some (.sh (.int k)),some (.sh (.int scale)),some (.sh (df u)),some (.sh (.int h0)),x7,x8]) by
  obtain⟨x7,x8,h0,hm⟩:=hmid;obtain⟨h',ht⟩:=DC (ns:=ns) (k:=k) (h:=h0) (x1:=some (.sh (.tup [.tup A,.tup B,.tup C,.tup O]))) (x2:=some (.sh (.int o))) (x4:=some (.sh (.int scale))) (x5:=some (.sh (df u))) (x7:=x7) (x8:=x8) d5 d6;refine⟨h',bg rfl ?_⟩;unfold kL;generalize df u=U at*;refine(av (e:=[some (.sh (.scr ns)),some (.sh (.tup [.tup A,.tup B,.tup C,.tup O])),some (.sh (.int o)),some (.sh (.int k)),some (.sh (.int scale)),none,none,none,none]) (by simp[bz,d1,h1,ai])).trans ?_;refine(av (e:=[some (.sh (.scr ns)),some (.sh (.tup [.tup A,.tup B,.tup C,.tup O])),some (.sh (.int o)),some (.sh (.int k)),some (.sh (.int scale)),some (.sh U),none,none,none]) (by simp[hO,iu])).trans ?_;refine(av (e:=[some (.sh (.scr ns)),some (.sh (.tup [.tup A,.tup B,.tup C,.tup O])),some (.sh (.int o)),some (.sh (.int k)),some (.sh (.int scale)),some (.sh U),some (.sh (.int (scale*q0))),none,none]) (by simp[d0,ms])).trans ?_;exact(av hm).trans ht
 cases u with
 |asked b=>
  refine⟨none,none,scale*q0, ?_⟩;simp[df,eqB]
 |due b e m ea la=>
  obtain⟨e1,e2,hm,_⟩:=du;by_cases c:q3>0
  ·have mm:∃mn:Int,0<mn∧(if(6:Int)<m then 6 else m)=mn:=⟨_,by split<;>omega,rfl⟩
   obtain⟨mn,mn0,emn⟩:=mm;have dn:=aS (ns:=ns) (k:=k) (m:=mn) (by omega) (by omega) mn0;have me:∀j,cf j e=true:=λj=>ox (by omega) (by omega);generalize hnear:b+draw ns k mn*e=near;obtain⟨v,hv,ev⟩:=at6 (a:=near) (b:=near -ea) (c:=near+la) (d:=near -ea -1) (e:=near+la+1) (f:=near) l4 l4';refine⟨some (.sh (.int near)),some (.own (.lst [.int near,.int (near -ea),.int (near+la),.int (near -ea -1),.int (near+la+1),.int near])),(if v>0 then v else 0), ?_⟩;have mi:nW [.int m,.int 6]=some ⟨.c,.int mn⟩:=by rw[←emn];rfl
   have mx:tX [.int 0,.int v]=some ⟨.c,.int (if v>0 then v else 0)⟩:=rfl;have cc:q3>0:=c;generalize (if v>0 then v else 0:Int)=vm at*;unfold df;refine(Kz (by simp[eqB,d3,cc])).trans ?_;refine(av (e:=[some (.sh (.scr ns)),some (.sh (.tup [.tup A,.tup B,.tup C,.tup O])),some (.sh (.int o)),some (.sh (.int k)),some (.sh (.int scale)),some (.sh (.tup [.str "due",.int b,.int e,.int m,.int ea,.int la])),some (.sh (.int (scale*q0))),some (.sh (.int near)),none]) (by simp[mi,dn,me,hnear])).trans ?_;refine(av (e:=[some (.sh (.scr ns)),some (.sh (.tup [.tup A,.tup B,.tup C,.tup O])),some (.sh (.int o)),some (.sh (.int k)),some (.sh (.int scale)),some (.sh (.tup [.str "due",.int b,.int e,.int m,.int ea,.int la])),some (.sh (.int (scale*q0))),some (.sh (.int near)),some (.own (.lst [.int near,.int (near -ea),.int (near+la),.int (near -ea -1),.int (near+la+1),.int near]))]) (by simp[ai])).trans ?_;simp[d4,ev,mx]
  ·refine⟨none,none,scale*q0, ?_⟩;simp[df,eqB,d3,c]
theorem KN{ns:List Int}{w:World}{k o:Int}(W:bJ w)(h0:0≤o)(h1:o<w.orders.length)(hk:0≤k)(hk2:k<10000):∃h:Int,js [.scr ns,bA w,.int o,.int k]=some (.int h):=by
 obtain⟨x,hx,hO⟩:=wZ h0 h1;have d1:=aS (ns:=ns) (k:=1) (m:=6) (by omega) (by omega) (by omega);obtain⟨scale,c1,c2,e1⟩:=vC ns;exact Iv d1 e1 c1 c2 hO (W.oo x hx).du (aS (by omega) (by omega) (by omega)) (aS (by omega) (by omega) (by omega)) (aS (by omega) (by omega) (by omega)) (aX ns (k+4000) 6 (by omega)).1 (aX ns (k+4000) 6 (by omega)).2 hk hk2
theorem DD{ns:List Int}{k o st part q6 q7 q8:Int}{A B C O M:List D}{nm g ru dd tp n2 cp yg:D}(hO:atD O o=some (.tup [nm,g,.int st,ru,dd,tp]))(hS:atD B st=some (.tup [n2,.tup (.int part::M),cp,yg]))(hp:1≤part)(hp2:part≤100000)(d6:a9 [.scr ns,.int (k+6000),.int 8]=some (.int q6))(d7:a9 [.scr ns,.int (k+7000),.int 14]=some (.int q7))(d8:a9 [.scr ns,.int (k+8000),.int 6]=some (.int q8))(l8:0≤q8)(l8' :q8<6):
  ∃a:Int,fh [.scr ns,.tup [.tup A,.tup B,.tup C,.tup O],.int o,.int k]=some (.int a):=by
 have mp:∀j,cf part j=true:=λj=>bR (by omega) (by omega);generalize hmany:part*(1+q6)=many;obtain⟨v,hv,ev⟩:=at6 (a:=0) (b:= -many) (c:=many+1) (d:=1000000000) (e:=part*2001) (f:= -1) l8 l8';have pre:∀r,(∃a,r=some (Out.ret (.int a)))→aG (ifS (aZ eqB (aH a9 (a5 (vE 0) (a5 (opE aT (vE 3) (kE (.int 7000))) (a5 (kE (.int 14)) aq)))) (kE (.int 0))) (retS (ixE (vE 6) (aH a9 (a5 (vE 0) (a5 (opE aT (vE 3) (kE (.int 8000))) (a5 (kE (.int 6)) aq)))))) bf) (retS (vE 5)) [some (.sh (.scr ns)),some (.sh (.tup [.tup A,.tup B,.tup C,.tup O])),some (.sh (.int o)),some (.sh (.int k)),some (.sh (.int part)),some (.sh (.int many)),some (.own (.lst [.int 0,.int (-many),.int (many+1),.int 1000000000,.int (part*2001),.int (-1)]))]=r→∃a:Int,fh [.scr ns,.tup [.tup A,.tup B,.tup C,.tup O],.int o,.int k]=some (.int a):=by
  rintro r ⟨a,rfl⟩ h;refine⟨a,bg rfl ?_⟩;unfold iP;refine(av (e:=[some (.sh (.scr ns)),some (.sh (.tup [.tup A,.tup B,.tup C,.tup O])),some (.sh (.int o)),some (.sh (.int k)),some (.sh (.int part)),none,none]) (by simp[bz,hO,hS])).trans ?_;refine(av (e:=[some (.sh (.scr ns)),some (.sh (.tup [.tup A,.tup B,.tup C,.tup O])),some (.sh (.int o)),some (.sh (.int k)),some (.sh (.int part)),some (.sh (.int many)),none]) (by simp[d6,mp,hmany])).trans ?_;exact(av (e:=[some (.sh (.scr ns)),some (.sh (.tup [.tup A,.tup B,.tup C,.tup O])),some (.sh (.int o)),some (.sh (.int k)),some (.sh (.int part)),some (.sh (.int many)),some (.own (.lst [.int 0,.int (-many),.int (many+1),.int 1000000000,.int (part*2001),.int (-1)]))]) (by simp[mp,ai])).trans h
 by_cases c:q7=0
 ·exact pre _ ⟨v,rfl⟩ (by simp[d7,c,d8,ev])
 ·exact pre _ ⟨many,rfl⟩ (by simp[d7,c])
theorem FY{ns:List Int}{w:World}{k o:Int}(W:bJ w)(h0:0≤o)(h1:o<w.orders.length)(hk:0≤k)(hk2:k<10000):∃a:Int,fh [.scr ns,bA w,.int o,.int k]=some (.int a):=by
 obtain⟨x,hx,hO⟩:=wZ h0 h1;have ok:=W.oo x hx;obtain⟨s,hs,hS⟩:=FX (w:=w) ok.s0 ok.s1;have so:=W.so s hs;exact DD hO hS so.p1 so.p2 (aS (by omega) (by omega) (by omega)) (aS (by omega) (by omega) (by omega)) (aS (by omega) (by omega) (by omega)) (aX ns (k+8000) 6 (by omega)).1 (aX ns (k+8000) 6 (by omega)).2
noncomputable abbrev Tr:=Int×Int×Int
noncomputable def kvT(ts:List Tr):List (List Key×D):=ts.map λt=>([Sum.inl t.1,Sum.inl t.2.1],D.int t.2.2)
theorem Cf(ts:List Tr)(o h:Int):((kvT ts).any λkv=>decide (kv.1=[Sum.inl o,Sum.inl h]))=true↔∃v,(o,h,v)∈ts:=by
 rw[List.any_eq_true];constructor
 ·rintro⟨kv,hk,e⟩;obtain⟨t,ht,rfl⟩:=GaF.mp hk;have e' :=GaE e;simp at e';exact⟨t.2.2,by rw[←e'.1,←e'.2];exact ht⟩
 ·rintro⟨v,hv⟩;exact⟨_,GaF.mpr ⟨_,hv,rfl⟩,by simp⟩
theorem qU(ts:List Tr)(o h v:Int):∃ts' :List Tr,DL.put (kvT ts) [Sum.inl o,Sum.inl h] (.int v)=kvT ts' ∧ts'.length≤ts.length+1∧(∀t∈ts',t∈ts∨t=(o,h,v))∧((∃v,(o,h,v)∈ts)→ts'.length=ts.length)∧∃v,(o,h,v)∈ts' :=by
 unfold DL.put;by_cases c:((kvT ts).any λkv=>decide (kv.1=[Sum.inl o,Sum.inl h]))=true
 ·rw[Gai c];refine⟨ts.map λt=>if t.1=o∧t.2.1=h then(o,h,v) else t, ?_,by simp,λt ht=> ?_,λ_=>by simp,v, ?_⟩
  ·unfold kvT;rw[GaO,GaO];refine GaJ λt _=> ?_;simp only[Function.comp];by_cases c:t.1=o∧t.2.1=h
   ·have e:([Sum.inl t.1,Sum.inl t.2.1]:List Key)=[Sum.inl o,Sum.inl h]:=by rw[c.1,c.2]
    rw[Gai e,Gai c,c.1,c.2]
   ·have e:¬([Sum.inl t.1,Sum.inl t.2.1]:List Key)=[Sum.inl o,Sum.inl h]:=λz=>by
     simp at z;exact c z
    rw[Gag e,Gag c]
  ·obtain⟨s,hs,rfl⟩:=GaF.mp ht;split
   ·exact .inr rfl
   ·exact .inl hs
  ·obtain⟨v',hv'⟩:=(Cf ts o h).mp c;exact GaF.mpr ⟨_,hv',by simp⟩
 ·rw[Gag c];refine⟨ts++[(o,h,v)],by simp[kvT],by simp,λt ht=> ?_,λq=>absurd ((Cf ts o h).mpr q) c,v,by simp⟩;rcases Gax.mp ht with h|h
  ·exact .inl h
  ·exact .inr (by simpa using h)
theorem kf(ts:List Tr):bN (kvT ts)=ts.map λt=>D.tup [.tup [.int t.1,.int t.2.1],.int t.2.2]:=by
 unfold bN kvT;rw[GaO]
 rfl
theorem A0(ts:List Tr):cF (gT [0,1]) jb (bM (a5 (ixE (vE 0) (kE (.int 0))) (a5 (ixE (vE 0) (kE (.int 1))) (a5 (vE 1) aq)))) (bN (kvT ts)) [none,none]=some (ts.map trD):=by
 rw[kf];refine kc (g:=gT [0,1]) (λt:Tr=>D.tup [.tup [.int t.1,.int t.2.1],.int t.2.2]) (λenv=>∃y z,env=[y,z]) trD ts _ ⟨none,none,rfl⟩ ?_;rintro t ht env ⟨y,z,rfl⟩;refine⟨[some (.sh (.tup [.int t.1,.int t.2.1])),some (.sh (.int t.2.2))],by simp,⟨_,_,rfl⟩,.c, ?_,rfl⟩;simp[ai,trD]
theorem Iw(ts:List Tr):keysOk (ts.map trD)=true:=by
 have h1:(ts.map trD).all (mN 1)=true:=by
  rw[GbF,Gat];intro p _;simp[trD,mN,tyD,mM]
 have h2:((ts.map trD).all λx=>(ts.map trD).all λy=>wq x y)=true:=by
  rw[GbF,Gat];intro p _;simp only[GcV];rw[GbF,Gat];intro q _;simp[trD,wq,mR,tyD,b8]
 unfold keysOk;rw[h1,h2];simp
noncomputable def Iy:D→Tr
 | .tup [.int a,.int b,.int c]=>(a,b,c)
 |_=>(0,0,0)
theorem Cg(ts:List Tr)(hl:ts.length<64):∃rs:List Tr,sortedS [.lst (ts.map trD)]=some ⟨.tn,.lst (rs.map trD)⟩∧rs.Perm ts:=by
 have hp:=fN (ts.map trD);have all:∀x∈cT (ts.map trD),∃p,x=trD p:=λx hx=>by
  obtain⟨p,_,e⟩:=GaF.mp (hp.mem_iff.mp hx);exact⟨p,e.symm⟩
 have e:cT (ts.map trD)=((cT (ts.map trD)).map Iy).map trD:=by
  rw[GaO]
  conv=>lhs;rw[←Gcz (cT (ts.map trD))]
  apply GaJ;intro x hx;obtain⟨p,rfl⟩:=all x hx
  rfl
 refine⟨(cT (ts.map trD)).map Iy, ?_, ?_⟩
 ·rw[←e];have h1:((ts.map trD).length<64):=by simpa using hl
  unfold sortedS one mQ;simp only[Option.bind_some];rw[Iw,GaN h1];rfl
 ·have:=Gdu Iy hp;rw[GaO] at this;have e2:ts.map (Iy∘trD)=ts:=by
   conv=>rhs;rw[←Gcz ts]
   exact GaJ λp _=>rfl
  rw[e2] at this;exact this
theorem ur{ns:List Int}{scale many n LG qa qb qc qd qe g h v:Int}{A B C O:List D}{ts ts' :List Tr}{x6:Option Slot}(hLG:cO [.tup A]=some ⟨.c,.int LG⟩)(da:a9 [.scr ns,.int (900+n),.int LG]=some (.int qa))(db:a9 [.scr ns,.int (920+n),.int 50]=some (.int qb))(ms:∀j,cf scale j=true)(dc:a9 [.scr ns,.int 980,.int 2]=some (.int qc))(hgh:(n<LG∧qc=0∧g=n∧h=0)∨(¬(n<LG∧qc=0)∧g=qa∧h=scale*qb))(dd:a9 [.scr ns,.int (940+n),.int 200]=some (.int qd))(de:a9 [.scr ns,.int (960+n),.int 8]=some (.int qe))(hv:atD [D.int (1+qd),.int 1000000] (qe/7)=some (.int v))
  (hp:DL.put (kvT ts) [Sum.inl g,Sum.inl h] (.int v)=kvT ts')(hz:(kvT ts).length<1000):
  ∃y6,cx [some (.sh (.scr ns)),some (.sh (.tup [.tup A,B',C',O'])),some (.sh (.int many)),some (.sh (.int scale)),some (.own (.dT (kvT ts))),some (.sh (.int n)),x6]=
   some (.nx [some (.sh (.scr ns)),some (.sh (.tup [.tup A,B',C',O'])),some (.sh (.int many)),some (.sh (.int scale)),some (.own (.dT (kvT ts'))),some (.sh (.int n)),y6]):=by
 have z:(kvT ts).length<16777216:=by omega
 generalize hkv:kvT ts=kv at*;refine⟨some (.sh (.tup [.int g,.int h])), ?_⟩;unfold cx;refine(av (e:=[some (.sh (.scr ns)),some (.sh (.tup [.tup A,B',C',O'])),some (.sh (.int many)),some (.sh (.int scale)),some (.own (.dT kv)),some (.sh (.int n)),some (.sh (.tup [.int qa,.int (scale*qb)]))]) (by simp[-fY,hLG,da,db,ms,ai])).trans ?_;refine(av (e:=[some (.sh (.scr ns)),some (.sh (.tup [.tup A,B',C',O'])),some (.sh (.int many)),some (.sh (.int scale)),some (.own (.dT kv)),some (.sh (.int n)),some (.sh (.tup [.int g,.int h]))]) ?_).trans ?_
 ·rcases hgh with⟨c1,c2,rfl,rfl⟩| ⟨c,rfl,rfl⟩
  ·simp[-fY,hLG,c1,c2,dc,ai]
  ·by_cases c1:n<LG
   ·have c2:¬qc=0:=λz=>c ⟨c1,z⟩;simp[-fY,hLG,c1,c2,dc]
   ·simp[-fY,hLG,c1]
 ·simp[dd,de,hv,putD,keyOf,z,ai,hp]
theorem A1{ns:List Int}{w:World}{scale many n:Int}{ts:List Tr}{x6:Option Slot}(W:bJ w)(hs:1≤scale)(hs2:scale≤1000000)(hn:0≤n)(hn2:n<100)(hl:ts.length≤100):
  ∃(ts' :List Tr) (y6:Option Slot),ts'.length≤ts.length+1∧cx [some (.sh (.scr ns)),some (.sh (bA w)),some (.sh (.int many)),some (.sh (.int scale)),some (.own (.dT (kvT ts))),some (.sh (.int n)),x6]=
   some (.nx [some (.sh (.scr ns)),some (.sh (bA w)),some (.sh (.int many)),some (.sh (.int scale)),some (.own (.dT (kvT ts'))),some (.sh (.int n)),y6]):=by
 have g1:=W.g1;have g6:=W.g6;have hLG:cO [.tup (w.cq.map cR)]=some ⟨.c,.int (w.cq.length:Int)⟩:=by simp[cO]
 have da:=aS (ns:=ns) (k:=900+n) (m:=(w.cq.length:Int)) (by omega) (by omega) (by omega);have db:=aS (ns:=ns) (k:=920+n) (m:=50) (by omega) (by omega) (by omega);have dc:=aS (ns:=ns) (k:=980) (m:=2) (by omega) (by omega) (by omega);have dd:=aS (ns:=ns) (k:=940+n) (m:=200) (by omega) (by omega) (by omega);have de:=aS (ns:=ns) (k:=960+n) (m:=8) (by omega) (by omega) (by omega);have le:=aX ns (960+n) 8 (by omega);obtain⟨v,_,hv⟩:=at2 (a:=1+draw ns (940+n) 200) (b:=1000000) (q:=draw ns (960+n) 8/7) (by omega) (by omega);have hz:(kvT ts).length<1000:=by unfold kvT;rw[Gaf];omega
 by_cases c:n<(w.cq.length:Int)∧draw ns 980 2=0
 ·obtain⟨ts',p1,p2,_⟩:=qU ts n 0 v;obtain⟨y6,e⟩:=ur (scale:=scale) (many:=many) (x6:=x6) (B:=[]) (C:=[]) (O:=[]) hLG da db (λj=>bR (by omega) (by omega)) dc (.inl ⟨c.1,c.2,rfl,rfl⟩) dd de hv p1 hz;exact⟨ts',y6,p2,e⟩
 ·obtain⟨ts',p1,p2,_⟩:=qU ts (draw ns (900+n) (w.cq.length:Int)) (scale*draw ns (920+n) 50) v;obtain⟨y6,e⟩:=ur (many:=many) (x6:=x6) (B:=[]) (C:=[]) (O:=[]) hLG da db (λj=>bR (by omega) (by omega)) dc (.inr ⟨c,rfl,rfl⟩) dd de hv p1 hz;exact⟨ts',y6,p2,e⟩
theorem jI(ts:List Tr):aQ (ts.map trD)=true:=gx vB ts
theorem A2{ns:List Int}{q1 scale many:Int}{wd:D}{kv:List (List Key×D)}{R Rs:List D}{y5 y6:Option Slot}(d1:a9 [.scr ns,.int 1,.int 6]=some (.int q1))(h1:atD [D.int 1,.int 1,.int 1,.int 1,.int 1,.int 1000000] q1=some (.int scale))(sm:bV many=true)
  (l1:forL (gN 5) cx (bx 0 many.toNat) [some (.sh (.scr ns)),some (.sh wd),some (.sh (.int many)),some (.sh (.int scale)),some (.own (.dT [])),none,none]=some (.nx [some (.sh (.scr ns)),some (.sh wd),some (.sh (.int many)),some (.sh (.int scale)),some (.own (.dT kv)),y5,y6]))
  (hz:(bN kv).length≤16777216)(hc:cF (gT [0,1]) jb (bM (a5 (ixE (vE 0) (kE (.int 0))) (a5 (ixE (vE 0) (kE (.int 1))) (a5 (vE 1) aq)))) (bN kv) [none,none]=some R)(hs:sortedS [.lst R]=some ⟨.tn,.lst Rs⟩)(im:aQ Rs=true):fG [.scr ns,wd,.int many]=some (.tup Rs):=by
 refine bg rfl ?_;unfold gQ;refine(av (e:=[some (.sh (.scr ns)),some (.sh wd),some (.sh (.int many)),some (.sh (.int scale)),none,none,none]) (by simp[bz,d1,h1,ai])).trans ?_;refine(av (e:=[some (.sh (.scr ns)),some (.sh wd),some (.sh (.int many)),some (.sh (.int scale)),some (.own (.dT [])),none,none]) (by simp)).trans ?_;refine(av (e:=[some (.sh (.scr ns)),some (.sh wd),some (.sh (.int many)),some (.sh (.int scale)),some (.own (.dT kv)),y5,y6]) (by simp[-forL,sm,l1])).trans ?_;simp[-cF,ai,DL.compEnv,fX,hz,hc,hs,im]
theorem DF{ns:List Int}{w:World}{n:Nat}(W:bJ w)(hn:n≤60):∃ws:List Tr,ws.length≤60∧fG [.scr ns,bA w,.int (n:Int)]=some (.tup (ws.map trD)):=by
 have d1:=aS (ns:=ns) (k:=1) (m:=6) (by omega) (by omega) (by omega);obtain⟨scale,c1,c2,h1⟩:=vC ns;obtain⟨e,l1,ts,y5,y6,t1,rfl⟩:=gw (g:=gN 5) (body:=cx) (λm env=>∃(ts:List Tr) (y5 y6:Option Slot),ts.length≤m∧env=[some (.sh (.scr ns)),some (.sh (bA w)),some (.sh (.int (n:Int))),some (.sh (.int scale)),some (.own (.dT (kvT ts))),y5,y6]) (bx 0 (n:Int).toNat) 0 [some (.sh (.scr ns)),some (.sh (bA w)),some (.sh (.int (n:Int))),some (.sh (.int scale)),some (.own (.dT [])),none,none] ⟨[],none,none,by simp,rfl⟩ (by
  rintro i d e hd ⟨ts,y5,y6,t1,rfl⟩;obtain⟨hi,rfl⟩:=dZ hd;obtain⟨ts',z6,p1,p2⟩:=A1 (ns:=ns) (w:=w) (scale:=scale) (many:=(n:Int)) (n:=0+(i:Int)) (ts:=ts) (x6:=y6) W c1 c2 (by omega) (by omega) (by omega);exact⟨_,_,rfl,p2,ts',some (.sh (.int (0+(i:Int)))),z6,by omega,rfl⟩)
 rw[gH] at t1;obtain⟨rs,r1,r2⟩:=Cg ts (by omega);have hz:(bN (kvT ts)).length≤16777216:=by rw[kf,Gaf];omega
 exact⟨rs,by rw[r2.length_eq];omega,A2 d1 h1 (cB (by omega) (by omega)) l1 hz (A0 ts) r1 (jI rs)⟩
theorem DH{ns:List Int}{many n LO o h a q:Int}{A B C O:List D}{ts t1 t2:List Tr}{x5 x6:Option Slot}(hLO:cO [.tup O]=some ⟨.c,.int LO⟩)(d0:a9 [.scr ns,.int (1000+n),.int LO]=some (.int o))(eh:js [.scr ns,.tup [.tup A,.tup B,.tup C,.tup O],.int o,.int (1100+n)]=some (.int h))(ea:fh [.scr ns,.tup [.tup A,.tup B,.tup C,.tup O],.int o,.int (1100+n)]=some (.int a))(dq:a9 [.scr ns,.int (1050+n),.int 40]=some (.int q))(p1:DL.put (kvT ts) [Sum.inl o,Sum.inl h] (.int a)=kvT t1)(p2:DL.put (kvT t1) [Sum.inl o,Sum.inl h] (.int (10000000000000000000000000000000000000000+n))=kvT t2)(hz:(kvT ts).length<1000)(hz2:(kvT t1).length<1000):
  cy [some (.sh (.scr ns)),some (.sh (.tup [.tup A,.tup B,.tup C,.tup O])),some (.sh (.int many)),some (.own (.dT (kvT ts))),some (.sh (.int n)),x5,x6]=
   some (.nx [some (.sh (.scr ns)),some (.sh (.tup [.tup A,.tup B,.tup C,.tup O])),some (.sh (.int many)),some (.own (.dT (if q=0 then kvT t2 else kvT t1))),some (.sh (.int n)),some (.sh (.int o)),some (.sh (.tup [.int o,.int h]))]):=by
 have z:(kvT ts).length<16777216:=by omega
 have z2:(kvT t1).length<16777216:=by omega
 generalize kvT ts=k0 at*;generalize kvT t1=k1 at*;generalize kvT t2=k2 at*;unfold cy;refine(av (e:=[some (.sh (.scr ns)),some (.sh (.tup [.tup A,.tup B,.tup C,.tup O])),some (.sh (.int many)),some (.own (.dT k0)),some (.sh (.int n)),some (.sh (.int o)),x6]) (by simp[-fY,hLO,d0])).trans ?_;refine(av (e:=[some (.sh (.scr ns)),some (.sh (.tup [.tup A,.tup B,.tup C,.tup O])),some (.sh (.int many)),some (.own (.dT k0)),some (.sh (.int n)),some (.sh (.int o)),some (.sh (.tup [.int o,.int h]))]) (by simp[eh,ai])).trans ?_;refine(av (e:=[some (.sh (.scr ns)),some (.sh (.tup [.tup A,.tup B,.tup C,.tup O])),some (.sh (.int many)),some (.own (.dT k1)),some (.sh (.int n)),some (.sh (.int o)),some (.sh (.tup [.int o,.int h]))]) (by simp[ea,putD,keyOf,z,ai,p1])).trans ?_;by_cases c:q=0
 ·rw[Gai c];simp[dq,c,putD,keyOf,z2,ai,p2]
 ·rw[Gag c];simp[dq,c]
def fV(n:Nat)(gv:List Tr):Prop:=∀t∈gv,0≤t.1∧t.1<n
theorem A3{ns:List Int}{w:World}{many n:Int}{ts:List Tr}{x5 x6:Option Slot}(W:bJ w)(hn:0≤n)(hn2:n<100)(hl:ts.length≤100)(hg:fV w.orders.length ts):
  ∃(ts' :List Tr) (y5 y6:Option Slot),ts'.length≤ts.length+1∧fV w.orders.length ts' ∧cy [some (.sh (.scr ns)),some (.sh (bA w)),some (.sh (.int many)),some (.own (.dT (kvT ts))),some (.sh (.int n)),x5,x6]=
   some (.nx [some (.sh (.scr ns)),some (.sh (bA w)),some (.sh (.int many)),some (.own (.dT (kvT ts'))),some (.sh (.int n)),y5,y6]):=by
 have o1:=W.o1;have o12:=W.o12;have hLO:cO [.tup (w.orders.map aF)]=some ⟨.c,.int (w.orders.length:Int)⟩:=by simp[cO]
 have d0:=aS (ns:=ns) (k:=1000+n) (m:=(w.orders.length:Int)) (by omega) (by omega) (by omega);have l0:=aX ns (1000+n) (w.orders.length:Int) (by omega);generalize draw ns (1000+n) (w.orders.length:Int)=o at*;obtain⟨h,eh⟩:=KN (ns:=ns) (w:=w) (k:=1100+n) (o:=o) W l0.1 l0.2 (by omega) (by omega);obtain⟨a,ea⟩:=FY (ns:=ns) (w:=w) (k:=1100+n) (o:=o) W l0.1 l0.2 (by omega) (by omega);have dq:=aS (ns:=ns) (k:=1050+n) (m:=40) (by omega) (by omega) (by omega);obtain⟨t1,p1,p2,p3,_,p4⟩:=qU ts o h a;obtain⟨t2,r1,r2,r3,r4,_⟩:=qU t1 o h (10000000000000000000000000000000000000000+n);have hz:(kvT ts).length<1000:=by unfold kvT;rw[Gaf];omega
 have hz2:(kvT t1).length<1000:=by unfold kvT;rw[Gaf];omega
 have ev:=DH (many:=many) (x5:=x5) (x6:=x6) hLO d0 eh ea dq p1 r1 hz hz2;have g1:fV w.orders.length t1:=λt ht=>by
  rcases p3 t ht with q|q
  ·exact hg t q
  ·rw[q];exact l0
 have g2:fV w.orders.length t2:=λt ht=>by
  rcases r3 t ht with q|q
  ·exact g1 t q
  ·rw[q];exact l0
 by_cases c:draw ns (1050+n) 40=0
 ·rw[Gai c] at ev;exact⟨t2,_,_,by have:=r4 p4;omega,g2,ev⟩
 ·rw[Gag c] at ev;exact⟨t1,_,_,by omega,g1,ev⟩
theorem A4{ns:List Int}{many:Int}{wd:D}{kv:List (List Key×D)}{R Rs:List D}{y4 y5 y6:Option Slot}(sm:bV many=true)
  (l1:forL (gN 4) cy (bx 0 many.toNat) [some (.sh (.scr ns)),some (.sh wd),some (.sh (.int many)),some (.own (.dT [])),none,none,none]=some (.nx [some (.sh (.scr ns)),some (.sh wd),some (.sh (.int many)),some (.own (.dT kv)),y4,y5,y6]))
  (hz:(bN kv).length≤16777216)(hc:cF (gT [0,1]) jb (bM (a5 (ixE (vE 0) (kE (.int 0))) (a5 (ixE (vE 0) (kE (.int 1))) (a5 (vE 1) aq)))) (bN kv) [none,none]=some R)(hs:sortedS [.lst R]=some ⟨.tn,.lst Rs⟩)(im:aQ Rs=true):fH [.scr ns,wd,.int many]=some (.tup Rs):=by
 refine bg rfl ?_;unfold gR;refine(av (e:=[some (.sh (.scr ns)),some (.sh wd),some (.sh (.int many)),some (.own (.dT [])),none,none,none]) (by simp[bz])).trans ?_;refine(av (e:=[some (.sh (.scr ns)),some (.sh wd),some (.sh (.int many)),some (.own (.dT kv)),y4,y5,y6]) (by simp[-forL,sm,l1])).trans ?_;simp[-cF,ai,DL.compEnv,fX,hz,hc,hs,im]
theorem DJ{ns:List Int}{w:World}{n:Nat}(W:bJ w)(hn:n<64):∃gv:List Tr,gv.length<64∧fV w.orders.length gv∧fH [.scr ns,bA w,.int (n:Int)]=some (.tup (gv.map trD)):=by
 obtain⟨e,l1,ts,y4,y5,y6,t1,t2,rfl⟩:=gw (g:=gN 4) (body:=cy) (λm env=>∃(ts:List Tr) (y4 y5 y6:Option Slot),ts.length≤m∧fV w.orders.length ts∧env=[some (.sh (.scr ns)),some (.sh (bA w)),some (.sh (.int (n:Int))),some (.own (.dT (kvT ts))),y4,y5,y6]) (bx 0 (n:Int).toNat) 0 [some (.sh (.scr ns)),some (.sh (bA w)),some (.sh (.int (n:Int))),some (.own (.dT [])),none,none,none] ⟨[],none,none,none,by simp,λt ht=>by simp at ht,rfl⟩ (by
  rintro i d e hd ⟨ts,y4,y5,y6,t1,t2,rfl⟩;obtain⟨hi,rfl⟩:=dZ hd;obtain⟨ts',z5,z6,p1,p2,p3⟩:=A3 (ns:=ns) (w:=w) (many:=(n:Int)) (n:=0+(i:Int)) (ts:=ts) (x5:=y5) (x6:=y6) W (by omega) (by omega) (by omega) t2;exact⟨_,_,rfl,p3,ts',some (.sh (.int (0+(i:Int)))),z5,z6,by omega,p2,rfl⟩)
 rw[gH] at t1;obtain⟨rs,r1,r2⟩:=Cg ts (by omega);have hz:(bN (kvT ts)).length≤16777216:=by rw[kf,Gaf];omega
 exact⟨rs,by rw[r2.length_eq];omega,λt ht=>t2 t (r2.mem_iff.mp ht),A4 (cB (by omega) (by omega)) l1 hz (A0 ts) r1 (jI rs)⟩
noncomputable def fK:Option Int→D
 |some k=> .int k
 |none=> .non
@[simp] theorem DK{k:Int}:fK (some k)= .int k:=rfl
@[simp] theorem uu:fK none= .non:=rfl
theorem gy(o:Option Int):(fK o).imm=true:=by cases o<;>rfl
noncomputable def FZ(b e m ea la h:Int):Option Int:=
 if(0≤(h -(b -ea))/e∧(h -(b -ea))/e<m)∧h -(b -ea)-(h -(b -ea))/e*e≤ea+la then some ((h -(b -ea))/e) else none
noncomputable def rZ:t8→Int→Option Int
 | .asked _,_=>none
 | .due b e m ea la,h=>FZ b e m ea la h
theorem pY{o:Order}{h:Int}(ok:pE o.jz):jk [aF o,.int h]=some (fK (rZ o.jz h)):=by
 obtain⟨name,g,st,way,top,per,most,u,ts⟩:=o;unfold aF;cases u with
 |asked b=>
  unfold jk kb df rZ;simp
 |due b e m ea la=>
  obtain⟨e1,e2,hm,a0,l0,al,ab,b3⟩:=ok;have p1:∀i,cf i e=true:=λi=>ox (by omega) (by omega);have p2:0<e∧e<1073741824:=by omega
  unfold jk kb df rZ FZ;simp[p1,p2];generalize hk:(h -(b -ea))/e=k;by_cases c1:0≤k
  ·by_cases c2:k<m
   ·by_cases c3:h -(b -ea)-k*e≤ea+la
    ·have c4:¬ea+la<h -(b -ea)-k*e:=by omega
     simp[c1,c2,c3,c4]
    ·have c4:ea+la<h -(b -ea)-k*e:=by omega
     simp[c1,c2,c3,c4]
   ·simp[c1,c2]
  ·simp[c1]
noncomputable def dJ:t8→Int→Bool
 | .asked b,h=>decide (h<b)
 | .due b e m ea la,h=>(FZ b e m ea la h).isNone
theorem A5{o:Order}{h:Int}(ok:pE o.jz):lS [aF o,.int h]=some (.bl (dJ o.jz h)):=by
 have d:=pY (h:=h) ok;obtain⟨name,g,st,way,top,per,most,u,ts⟩:=o;unfold aF at d⊢;cases u with
 |asked b=>
  unfold lS lR df dJ;simp
 |due b e m ea la=>
  unfold rZ at d;unfold lS lR dJ;unfold df at d⊢;have rv:=c0 (gy (FZ b e m ea la h));simp[d,rv];cases FZ b e m ea la h<;>simp[nV,cE]
noncomputable def wgt(g h:Int):List Tr→Option Int→Option Int
 |[],f=>f
 |t::ts,f=>wgt g h ts (if t.1=g∧t.2.1≤h then some t.2.2 else f)
theorem lV{body:DS}{wd:D}{g h:Int}(st:∀(t:Tr) (f:Option Int),body [some (.sh wd),some (.sh (.int g)),some (.sh (.int h)),some (.sh (fK f)),some (.sh (trD t))]=some (.nx [some (.sh wd),some (.sh (.int g)),some (.sh (.int h)),some (.sh (fK (if t.1=g∧t.2.1≤h then some t.2.2 else f))),some (.sh (trD t))])):
  ∀(ts:List Tr) (f:Option Int) (x4:Option Slot),∃y4,forL (gN 4) body (ts.map trD) [some (.sh wd),some (.sh (.int g)),some (.sh (.int h)),some (.sh (fK f)),x4]=some (.nx [some (.sh wd),some (.sh (.int g)),some (.sh (.int h)),some (.sh (fK (wgt g h ts f))),y4])
 |[],f,x4=> ⟨x4,by simp[wgt]⟩
 |t::ts,f,x4=>by
  obtain⟨y4,e⟩:=lV st ts (if t.1=g∧t.2.1≤h then some t.2.2 else f) (some (.sh (trD t)));refine⟨y4, ?_⟩;have e1:=st t f;rw[Gap];show forL (gN 4) body (trD t::ts.map trD) _=_;generalize trD t=td at*;simp only[forL,gN,GaU,GaV,Option.bind_some,e1];exact e
theorem lW{ws:List Tr}{g h:Int}:i9 [.tup (ws.map trD),.int g,.int h]=some (fK (wgt g h ws none)):=by
 obtain⟨y4,e⟩:=lV (body:=jm) (wd:= .tup (ws.map trD)) (g:=g) (h:=h) (λt f=>by
  unfold jm trD;by_cases c1:t.1=g
  ·by_cases c2:t.2.1≤h
   ·simp[c1,c2,eqB]
   ·simp[c1,c2,eqB]
  ·simp[c1,eqB]) ws none none
 rw[uu] at e;have im:=gy (wgt g h ws none);refine bg rfl ?_;unfold i8;generalize fK (wgt g h ws none)=r at*;generalize ws.map trD=W at*;refine(av (e:=[some (.sh (.tup W)),some (.sh (.int g)),some (.sh (.int h)),some (.sh .non),none]) (by simp[bz])).trans ?_;refine(av (e:=[some (.sh (.tup W)),some (.sh (.int g)),some (.sh (.int h)),some (.sh r),y4]) (by simp[-forL,e])).trans ?_;simp[im]
noncomputable def dz:Cap→Option Int→Option Int
 | .ever t,_=>some t
 | .flat _ t,_=>some t
 | .kilo _ t p,w=>w.map λw=>w*t/p
theorem Bk{c:Cap}{w:Option Int}(ok:mV c):jD [bw c,fK w]=some (fK (dz c w)):=by
 cases c with
 |ever t=>unfold jD kI bw dz;simp
 |flat h t=>unfold jD kI bw dz;simp
 |kilo h t p=>
  obtain⟨h1,t1,t2,p1,p2⟩:=ok;cases w with
  |none=>unfold jD kI bw dz;simp[nV,cE]
  |some w=>
   have mm:cf w t=true:=ox (by omega) (by omega);have pp:0<p∧p<1073741824:=by omega
   unfold jD kI bw dz;simp[nV,cE,mm,pp]
noncomputable def f6:Cap→Bool
 | .kilo _ _ _=>true
 |_=>false
theorem DP{s:jt}(hc:s.aO.length≤4):fc [b7 s]=some (.bl (s.aO.any f6)):=by
 have c:=kc (g:=gN 0) (f:=bE (aZ eqB (ixE (vE 0) (kE (.int 0))) (kE (.str "kilo")))) bw (λenv=>∃y,env=[y]) (λc=> .bl (f6 c)) s.aO [none] ⟨none,rfl⟩ (by
  rintro c hc env ⟨y,rfl⟩;refine⟨_,rfl,⟨_,rfl⟩,.c, ?_,rfl⟩;cases c<;>simp[bw,f6,eqB])
 have z:(s.aO.map bw).length≤16777216:=by rw[Gaf];omega
 have e2:s.aO.map (λc=>D.bl (f6 c))=(s.aO.map f6).map D.bl:=by rw[GaO];rfl
 rw[e2] at c;have an:((s.aO.map f6).any id)=s.aO.any f6:=by rw[List.any_map];rfl
 unfold fc fb b7;generalize s.aO.map bw=C at*;rw[←an];generalize s.aO.map f6=bs at*;simp[-cF,ai,DL.compEnv,fX,c,z]
theorem qJ{ws:List Tr}{g h:Int}:iR [.tup (ws.map trD),.int g,.int h]=some (fK (wgt g h ws none)):=by
 obtain⟨y4,e⟩:=lV (body:=iC) (wd:= .tup (ws.map trD)) (g:=g) (h:=h) (λt f=>by
  unfold iC trD;by_cases c1:t.1=g
  ·by_cases c2:t.2.1≤h
   ·simp[c1,c2,eqB]
   ·simp[c1,c2,eqB]
  ·simp[c1,eqB]) ws none none
 rw[uu] at e;have im:=gy (wgt g h ws none);refine bg rfl ?_;unfold iQ;generalize fK (wgt g h ws none)=r at*;generalize ws.map trD=W at*;refine(av (e:=[some (.sh (.tup W)),some (.sh (.int g)),some (.sh (.int h)),some (.sh .non),none]) (by simp[bz])).trans ?_;refine(av (e:=[some (.sh (.tup W)),some (.sh (.int g)),some (.sh (.int h)),some (.sh r),y4]) (by simp[-forL,e])).trans ?_;simp[im]
noncomputable abbrev Flt:=Str×List Int
noncomputable def az(f:Flt):D:= .tup (.str f.1::f.2.map .int)
noncomputable def kk(b:Bool)(x:Str):List Str:=if b then[x] else[]
theorem oA{L:List Str}{b:Bool}{x:Str}{t:DT}{e0 e1 e2 e3 e4 e5 e6 e7:Option Slot}(ht:t [e0,e1,e2,e3,e4,e5,e6,e7,some (.own (.lst (L.map .str)))]=some b)(hl:L.length<1000):
  ifS t (mL 8 (kE (.str x))) bf [e0,e1,e2,e3,e4,e5,e6,e7,some (.own (.lst (L.map .str)))]=some (.nx [e0,e1,e2,e3,e4,e5,e6,e7,some (.own (.lst ((L++kk b x).map .str)))]):=by
 have z:(L.map D.str).length<16777216:=by rw[Gaf];omega
 have e:(L++kk b x).map D.str=L.map D.str++(kk b x).map D.str:=by rw[GaP]
 rw[e];cases b with
 |true=>
  generalize L.map D.str=M at*;simp[ht,kk,ai,z]
 |false=>
  generalize L.map D.str=M at*;simp[ht,kk]
noncomputable def lX(o:Order)(s:jt)(born:Int)(ws:List Tr)(t:Tr):List Str:=
 kk (dJ o.jz t.2.1) "astray"++kk (decide (o.most<t.2.2)) "most"++kk (decide (t.2.2<1)||decide (¬t.2.2%s.part=0)) "part"++kk (s.aO.any f6&&(wgt o.aY t.2.1 ws none).isNone) "weight"++kk (decide (t.2.1<born+s.young)) "young"
theorem dh(b:Bool)(x:Str):(kk b x).length≤1:=by cases b<;>simp[kk]
theorem DQ{K:List Str}{n h:Int}:cF (gN 0) jb (bM (a5 (vE 0) (a5 (vE 1) (a5 (vE 2) aq)))) (K.map .str) [none,some (.sh (.int n)),some (.sh (.int h))]=some (K.map λk=>az (k,[n,h])):=by
 refine kc (g:=gN 0) D.str (λenv=>∃y,env=[y,some (.sh (.int n)),some (.sh (.int h))]) (λk=>az (k,[n,h])) K _ ⟨none,rfl⟩ ?_;rintro k hk env ⟨y,rfl⟩;refine⟨_,rfl,⟨_,rfl⟩,.c, ?_,rfl⟩;simp[ai,az]
theorem gJ(fs:List Flt):aQ (fs.map az)=true:=gx (λf=>by
 have:=oy f.2;simp[az,this]) fs
theorem KO{A B C O:List D}{o:Order}{s:jt}{gu:Str×Int}{ws:List Tr}{t:Tr}(hO:atD O t.1=some (aF o))(du:pE o.jz)(hS:atD B o.br=some (b7 s))(so:mK s)(hG:atD A o.aY=some (cR gu))(im:(aF o).imm=true):
  fC [.tup [.tup A,.tup B,.tup C,.tup O],.tup (ws.map trD),trD t]=some (.lst ((lX o s gu.2 ws t).map λk=>az (k,[t.1,t.2.1]))):=by
 have ea:=A5 (h:=t.2.1) du;have eg:=DP (s:=s) so.cl;have ew:=lW (ws:=ws) (g:=o.aY) (h:=t.2.1);have sp:=so.p1;have is:=kO s;obtain⟨n,h,a⟩:=t;dsimp only at*;have rw' :=c0 (gy (wgt o.aY h ws none));generalize hW:ws.map trD=W at*;have p1:ixD (aF o) (.int 3)=some (.tup [.str o.way,.int o.top,.int o.per,.int o.most]):=rfl;have p2:ixD (aF o) (.int 1)=some (.int o.aY):=rfl;have p3:ixD (aF o) (.int 2)=some (.int o.br):=rfl;have p4:ixD (b7 s) (.int 1)=some (.tup (.int s.part::s.more.map .int)):=rfl;have p5:ixD (b7 s) (.int 3)=some (.int s.young):=rfl;have p6:ixD (cR gu) (.int 1)=some (.int gu.2):=rfl;generalize aF o=OD at*;generalize b7 s=SD at*;generalize cR gu=GD at*;have sp' :0<s.part:=by omega
 refine bg rfl ?_;unfold gM trD;refine(av (e:=[some (.sh (.tup [.tup A,.tup B,.tup C,.tup O])),some (.sh (.tup W)),some (.sh (.tup [.int n,.int h,.int a])),some (.sh (.int n)),none,none,none,none,none]) (by simp[bz])).trans ?_;refine(av (e:=[some (.sh (.tup [.tup A,.tup B,.tup C,.tup O])),some (.sh (.tup W)),some (.sh (.tup [.int n,.int h,.int a])),some (.sh (.int n)),some (.sh (.int h)),none,none,none,none]) (by simp)).trans ?_;refine(av (e:=[some (.sh (.tup [.tup A,.tup B,.tup C,.tup O])),some (.sh (.tup W)),some (.sh (.tup [.int n,.int h,.int a])),some (.sh (.int n)),some (.sh (.int h)),some (.sh (.int a)),none,none,none]) (by simp)).trans ?_;refine(av (e:=[some (.sh (.tup [.tup A,.tup B,.tup C,.tup O])),some (.sh (.tup W)),some (.sh (.tup [.int n,.int h,.int a])),some (.sh (.int n)),some (.sh (.int h)),some (.sh (.int a)),some (.sh OD),none,none]) (by simp[hO,im])).trans ?_;refine(av (e:=[some (.sh (.tup [.tup A,.tup B,.tup C,.tup O])),some (.sh (.tup W)),some (.sh (.tup [.int n,.int h,.int a])),some (.sh (.int n)),some (.sh (.int h)),some (.sh (.int a)),some (.sh OD),some (.sh SD),none]) (by simp[p3,hS,is])).trans ?_;refine(av (e:=[some (.sh (.tup [.tup A,.tup B,.tup C,.tup O])),some (.sh (.tup W)),some (.sh (.tup [.int n,.int h,.int a])),some (.sh (.int n)),some (.sh (.int h)),some (.sh (.int a)),some (.sh OD),some (.sh SD),some (.own (.lst (([]:List Str).map .str)))]) (by simp[ai])).trans ?_;refine(av (oA (b:=dJ o.jz h) (by simp[ea]) (by simp))).trans ?_;refine(av (oA (b:=decide (o.most<a)) (by simp[p1]) (by have:=dh (dJ o.jz h) "astray";simp;omega))).trans ?_;refine(av (oA (b:=decide (a<1)||decide (¬a%s.part=0)) ?_ (by have:=dh (dJ o.jz h) "astray";have:=dh (decide (o.most<a)) "most";simp;omega))).trans ?_
 ·by_cases c:a<1
  ·simp[c]
  ·by_cases c2:a%s.part=0
   ·simp[c,p4,sp',neB,c2]
   ·simp[c,p4,sp',neB,c2]
 refine(av (oA (b:=s.aO.any f6&&(wgt o.aY h ws none).isNone) ?_ (by have:=dh (dJ o.jz h) "astray";have:=dh (decide (o.most<a)) "most";have:=dh (decide (a<1)||decide (¬a%s.part=0)) "part";simp only[GaA,Gce];omega))).trans ?_
 ·generalize s.aO.any f6=bk at*;cases bk with
  |false=>simp[eg]
  |true=>
   simp[eg,p2,ew,rw'];cases wgt o.aY h ws none<;>simp[nV,cE]
 refine(av (oA (b:=decide (h<gu.2+s.young)) (by simp[p2,hG,p6,p5]) (by have:=dh (dJ o.jz h) "astray";have:=dh (decide (o.most<a)) "most";have:=dh (decide (a<1)||decide (¬a%s.part=0)) "part";have:=dh (s.aO.any f6&&(wgt o.aY h ws none).isNone) "weight";simp only[GaA,Gce];omega))).trans ?_;have cm:=DQ (K:=[]++kk (dJ o.jz h) "astray"++kk (decide (o.most<a)) "most"++kk (decide (a<1)||decide (¬a%s.part=0)) "part"++kk (s.aO.any f6&&(wgt o.aY h ws none).isNone) "weight"++kk (decide (h<gu.2+s.young)) "young") (n:=n) (h:=h);have hK:[]++kk (dJ o.jz h) "astray"++kk (decide (o.most<a)) "most"++kk (decide (a<1)||decide (¬a%s.part=0)) "part"++kk (s.aO.any f6&&(wgt o.aY h ws none).isNone) "weight"++kk (decide (h<gu.2+s.young)) "young"=lX o s gu.2 ws (n,h,a):=by
  unfold lX;rw[List.nil_append]
 have hlen:([]++kk (dJ o.jz h) "astray"++kk (decide (o.most<a)) "most"++kk (decide (a<1)||decide (¬a%s.part=0)) "part"++kk (s.aO.any f6&&(wgt o.aY h ws none).isNone) "weight"++kk (decide (h<gu.2+s.young)) "young").length≤5:=by
  have:=dh (dJ o.jz h) "astray";have:=dh (decide (o.most<a)) "most";have:=dh (decide (a<1)||decide (¬a%s.part=0)) "part";have:=dh (s.aO.any f6&&(wgt o.aY h ws none).isNone) "weight";have:=dh (decide (h<gu.2+s.young)) "young"
  simp only[GaA,Gce];omega
 rw[hK] at cm hlen⊢;have fi:=gJ ((lX o s gu.2 ws (n,h,a)).map λk=>(k,[n,h]));rw[GaO] at fi;have fi' :aQ ((lX o s gu.2 ws (n,h,a)).map λk=>az (k,[n,h]))=true:=fi;generalize lX o s gu.2 ws (n,h,a)=KL at*;have z:(KL.map D.str).length≤16777216:=by rw[Gaf];omega
 generalize KL.map D.str=M at*;generalize (KL.map λk=>az (k,[n,h]))=R at*;simp[-cF,ai,DL.compEnv,fX,cm,z,fi']
noncomputable def atT(o h:Int)(t:Tr):Bool:=decide (t.1=o∧t.2.1=h)
noncomputable def se(ts:List Tr)(o h v:Int):List Tr:=if ts.any (atT o h) then ts.map (λt=>if atT o h t then(o,h,v) else t) else ts++[(o,h,v)]
noncomputable def Bl(ts:List Tr)(o h:Int):Int:=((ts.find? (atT o h)).map (·.2.2)).getD 0
theorem vD(o h:Int)(t:Tr):decide (([Sum.inl t.1,Sum.inl t.2.1]:List Key)=[Sum.inl o,Sum.inl h])=atT o h t:=by
 unfold atT;rw[decide_eq_decide];simp
theorem nN(ts:List Tr)(o h v:Int):DL.put (kvT ts) [Sum.inl o,Sum.inl h] (.int v)=kvT (se ts o h v):=by
 unfold DL.put se kvT;have e:((ts.map λt=>(([Sum.inl t.1,Sum.inl t.2.1]:List Key),D.int t.2.2)).any λkv=>decide (kv.1=[Sum.inl o,Sum.inl h]))=ts.any (atT o h):=by
  rw[List.any_map];congr 1
  funext t
  exact vD o h t
 rw[e];cases ts.any (atT o h) with
 |true=>
  simp only[Gbi];rw[GaO,GaO];refine GaJ λt _=> ?_;simp only[Function.comp];have k:=vD o h t;by_cases c:t.1=o∧t.2.1=h
  ·have e1:([Sum.inl t.1,Sum.inl t.2.1]:List Key)=[Sum.inl o,Sum.inl h]:=by rw[c.1,c.2]
   have e2:atT o h t=true:=GaN c;rw[Gai e1,Gai e2,c.1,c.2]
  ·have e1:¬([Sum.inl t.1,Sum.inl t.2.1]:List Key)=[Sum.inl o,Sum.inl h]:=λz=>by simp at z;exact c z
   have e2:¬atT o h t=true:=λz=>c (GaE z);rw[Gag e1,Gag e2]
 |false=>simp
theorem A6(ts:List Tr)(o h:Int):look (kvT ts) [Sum.inl o,Sum.inl h]=(ts.find? (atT o h)).map λt=>D.int t.2.2:=by
 unfold look kvT;rw[List.find?_map];have e:((λkv:List Key×D=>decide (kv.1=[Sum.inl o,Sum.inl h]))∘λt:Tr=>(([Sum.inl t.1,Sum.inl t.2.1]:List Key),D.int t.2.2))=atT o h:=by
  funext t
  exact vD o h t
 rw[e];cases ts.find? (atT o h)<;>rfl
theorem oB(ts:List Tr)(o h v:Int):(se ts o h v).length≤ts.length+1:=by
 unfold se;split<;>simp
noncomputable def twU(ts:List Tr)(n:Int):Option Int→List Tr
 |some k=>se ts n k (Bl ts n k+1)
 |none=>ts
noncomputable def cG(os:List Order)(ts:List Tr)(g:Tr):List Tr:=twU ts g.1 ((os[g.1.toNat]?).bind λo=>rZ o.jz g.2.1)
theorem Ci(ts:List Tr)(n:Int)(u:Option Int):(twU ts n u).length≤ts.length+1:=by
 cases u with
 |none=>exact Gdp _
 |some k=>exact oB _ _ _ _
theorem KP{ts:List Tr}{o k:Int}{e0 e1 e3:Option Slot}{n h a:Int}:Ho (vE 2) (bM (a5 (ixE (vE 3) (kE (.int 0))) (a5 (vE 4) aq))) (kE (.int 0)) [e0,e1,some (.own (.dT (kvT ts))),some (.sh (.tup [.int o,.int h,.int a])),some (.sh (.int k))]=some ⟨.c,.int (Bl ts o k)⟩:=by
 have l:=A6 ts o k;unfold Bl;generalize kvT ts=kv at*;cases hf:ts.find? (atT o k) with
 |none=>
  rw[hf] at l;simp at l;simp[l,keyOf,ai]
 |some t=>
  rw[hf] at l;simp at l;simp[l,keyOf,ai]
theorem N7{ts:List Tr}{n h a k:Int}{OD:D}{u:Option Int}{A B C O G:List D}{x4:Option Slot}(hO:atD O n=some OD)(im:OD.imm=true)(ed:jk [OD,.int h]=some (fK u))(hz:(kvT ts).length<1000):
  bZ [some (.sh (.tup [.tup A,.tup B,.tup C,.tup O])),some (.sh (.tup G)),some (.own (.dT (kvT ts))),some (.sh (.tup [.int n,.int h,.int a])),x4]=
   some (.nx [some (.sh (.tup [.tup A,.tup B,.tup C,.tup O])),some (.sh (.tup G)),some (.own (.dT (kvT (twU ts n u)))),some (.sh (.tup [.int n,.int h,.int a])),some (.sh (fK u))]):=by
 have z:(kvT ts).length<16777216:=by omega
 have ru:=c0 (gy u);unfold bZ;refine(av (e:=[some (.sh (.tup [.tup A,.tup B,.tup C,.tup O])),some (.sh (.tup G)),some (.own (.dT (kvT ts))),some (.sh (.tup [.int n,.int h,.int a])),some (.sh (fK u))]) (by simp[hO,ed,ru])).trans ?_;cases u with
 |none=>simp[iE,cE,twU]
 |some k=>
  have g:=KP (ts:=ts) (o:=n) (k:=k) (e0:=some (.sh (.tup [.tup A,.tup B,.tup C,.tup O]))) (e1:=some (.sh (.tup G))) (e3:=none) (n:=0) (h:=h) (a:=a);have p:=nN ts n k (Bl ts n k+1);rw[DK];refine(Kz (by simp[iE,cE])).trans ?_;unfold twU;rw[←p];generalize Bl ts n k=gv at*;generalize kvT ts=kv at*;unfold sZ opE;rw[g];simp[putD,keyOf,z,ai]
theorem Cj{w:World}(W:bJ w){A B C G:List D}:∀(gv:List Tr) (ts:List Tr) (x3 x4:Option Slot),fV w.orders.length gv→ts.length+gv.length<1000→∃y3 y4,forL (gN 3) bZ (gv.map trD) [some (.sh (.tup [.tup A,.tup B,.tup C,.tup (w.orders.map aF)])),some (.sh (.tup G)),some (.own (.dT (kvT ts))),x3,x4]=
  some (.nx [some (.sh (.tup [.tup A,.tup B,.tup C,.tup (w.orders.map aF)])),some (.sh (.tup G)),some (.own (.dT (kvT (gv.foldl (cG w.orders) ts)))),y3,y4])
 |[],ts,x3,x4,_,_=> ⟨x3,x4,by simp⟩
 |g::gv,ts,x3,x4,hg,hl=>by
  have g0:=hg g Gao;obtain⟨n,hn⟩:=GaG g0.1;have hn' :n<w.orders.length:=by omega
  have hO:atD (w.orders.map aF) g.1=some (aF w.orders[n]):=by
   rw[hn,cW,Gak,Gab hn'];rfl
  have ok:=W.oo w.orders[n] (GaD hn');have ed:=pY (h:=g.2.1) ok.du;have hz:(kvT ts).length<1000:=by unfold kvT;rw[Gaf];simp at hl;omega
  have ev:=N7 (A:=A) (B:=B) (C:=C) (G:=G) (ts:=ts) (n:=g.1) (h:=g.2.1) (a:=g.2.2) (k:=0) (x4:=x4) hO (ip _ ok.ti) ed hz;have es:twU ts g.1 (rZ w.orders[n].jz g.2.1)=cG w.orders ts g:=by
   unfold cG;rw[hn,GaL,Gab hn']
   rfl
  rw[es] at ev;have ln:(cG w.orders ts g).length≤ts.length+1:=by
   rw[←es];exact Ci _ _ _
  obtain⟨y3,y4,e⟩:=Cj W (A:=A) (B:=B) (C:=C) (G:=G) gv (cG w.orders ts g) (some (.sh (trD g))) (some (.sh (fK (rZ w.orders[n].jz g.2.1)))) (λt ht=>hg t (Gaj _ ht)) (by simp at hl;omega);refine⟨y3,y4, ?_⟩;rw[Gap,GbN];have ev' :bZ [some (.sh (.tup [.tup A,.tup B,.tup C,.tup (w.orders.map aF)])),some (.sh (.tup G)),some (.own (.dT (kvT ts))),some (.sh (trD g)),x4]=_:=ev;have td:D.tup [.int g.1,.int g.2.1,.int g.2.2]=trD g:=rfl;rw[td] at ev';generalize trD g=d at*;simp only[forL,gN,GaU,GaV,Option.bind_some,ev'];exact e
noncomputable def twF(ts:List Tr):List Flt:=(ts.filter λt=>decide (1<t.2.2)).map λt=>("twice",[t.1,t.2.1])
theorem Iz(ts:List Tr):cF (gT [0,1]) (aZ gtB (vE 1) (kE (.int 1))) (bM (a5 (kE (.str "twice")) (a5 (ixE (vE 0) (kE (.int 0))) (a5 (ixE (vE 0) (kE (.int 1))) aq)))) (bN (kvT ts)) [none,none]=some ((twF ts).map az):=by
 rw[kf];unfold twF;rw[GaO];refine mJ (g:=gT [0,1]) (λt:Tr=>D.tup [.tup [.int t.1,.int t.2.1],.int t.2.2]) (λenv=>∃y z,env=[y,z]) (λt=>decide (1<t.2.2)) (az∘λt:Tr=>("twice",[t.1,t.2.1])) ts _ ⟨none,none,rfl⟩ ?_;rintro t ht env ⟨y,z,rfl⟩;refine⟨[some (.sh (.tup [.int t.1,.int t.2.1])),some (.sh (.int t.2.2))],by simp,⟨_,_,rfl⟩,by simp,λ_=> ⟨.c, ?_,rfl⟩⟩;simp[ai,az]
theorem KQ{wd:D}{G R:List D}{kv:List (List Key×D)}{y3 y4:Option Slot}(h1:forL (gN 3) bZ G [some (.sh wd),some (.sh (.tup G)),some (.own (.dT [])),none,none]=some (.nx [some (.sh wd),some (.sh (.tup G)),some (.own (.dT kv)),y3,y4]))(hz:(bN kv).length≤16777216)
  (hc:cF (gT [0,1]) (aZ gtB (vE 1) (kE (.int 1))) (bM (a5 (kE (.str "twice")) (a5 (ixE (vE 0) (kE (.int 0))) (a5 (ixE (vE 0) (kE (.int 1))) aq)))) (bN kv) [none,none]=some R)(im:aQ R=true):dU [wd,.tup G]=some (.lst R):=by
 refine bg rfl ?_;unfold gp;refine(av (e:=[some (.sh wd),some (.sh (.tup G)),some (.own (.dT [])),none,none]) (by simp[bz])).trans ?_;refine(av (e:=[some (.sh wd),some (.sh (.tup G)),some (.own (.dT kv)),y3,y4]) (by simp[-forL,h1])).trans ?_;simp[-cF,ai,DL.compEnv,fX,hz,hc,im]
theorem IA{w:World}{gv:List Tr}(W:bJ w)(hg:fV w.orders.length gv)(hl:gv.length<64):dU [bA w,.tup (gv.map trD)]=some (.lst ((twF (gv.foldl (cG w.orders) [])).map az))∧(gv.foldl (cG w.orders) []).length<64:=by
 have ln:∀(gv ts:List Tr),(gv.foldl (cG w.orders) ts).length≤ts.length+gv.length:=by
  intro gv;induction gv with
  |nil=>intro ts;simp
  |cons g gv ih=>
   intro ts;rw[GbN];have h1:=ih (cG w.orders ts g);have h2:(cG w.orders ts g).length≤ts.length+1:=by
    exact Ci _ _ _
   rw[GaC];omega
 have l2:=ln gv [];simp only[Gce,Gdd] at l2;obtain⟨y3,y4,e⟩:=Cj W (A:=w.cq.map cR) (B:=w.aB.map b7) (C:=w.cU.map trD) (G:=gv.map trD) gv [] none none hg (by simp;omega);have hz:(bN (kvT (gv.foldl (cG w.orders) []))).length≤16777216:=by rw[kf,Gaf];omega
 exact⟨KQ e hz (Iz _) (gJ _),by omega⟩
noncomputable def bS(ts:List Tr)(b:Tr):List Tr:=se (se ts b.1 b.2.1 b.2.2) b.2.1 b.1 b.2.2
theorem KR{ts:List Tr}{b:Tr}{B:List D}(hz:ts.length<1000):cX [some (.sh (.tup B)),some (.own (.dT (kvT ts))),some (.sh (trD b))]=some (.nx [some (.sh (.tup B)),some (.own (.dT (kvT (bS ts b)))),some (.sh (trD b))]):=by
 obtain⟨x,y,v⟩:=b;have p1:=nN ts x y v;have p2:=nN (se ts x y v) y x v;have l1:=oB ts x y v;have z1:(kvT ts).length<16777216:=by unfold kvT;rw[Gaf];omega
 have z2:(kvT (se ts x y v)).length<16777216:=by unfold kvT;rw[Gaf];omega
 unfold cX bS trD;dsimp only;rw[←p2];generalize hk:kvT (se ts x y v)=k1 at*;generalize kvT ts=k0 at*;refine(av (e:=[some (.sh (.tup B)),some (.own (.dT k1)),some (.sh (.tup [.int x,.int y,.int v]))]) (by simp[putD,keyOf,z1,ai,p1])).trans ?_;simp[putD,keyOf,z2,ai]
theorem A7{B:List D}:∀(bs ts:List Tr) (x2:Option Slot),ts.length+2*bs.length<1000→∃y2,forL (gN 2) cX (bs.map trD) [some (.sh (.tup B)),some (.own (.dT (kvT ts))),x2]=some (.nx [some (.sh (.tup B)),some (.own (.dT (kvT (bs.foldl bS ts)))),y2])
 |[],ts,x2,_=> ⟨x2,by simp⟩
 |b::bs,ts,x2,hl=>by
  rw[GaC] at hl;have ev:=KR (ts:=ts) (b:=b) (B:=B) (by omega);have l1:(bS ts b).length≤ts.length+2:=by
   unfold bS;have:=oB ts b.1 b.2.1 b.2.2;have:=oB (se ts b.1 b.2.1 b.2.2) b.2.1 b.1 b.2.2;omega
  obtain⟨y2,e⟩:=A7 (B:=B) bs (bS ts b) (some (.sh (trD b))) (by omega);refine⟨y2, ?_⟩;rw[Gap,GbN];generalize trD b=d at*;simp only[forL,gN,GaU,GaV,Option.bind_some,ev];exact e
theorem IB(ts:List Tr):aQ ((kvT ts).map λx=>x.snd)=true:=by
 unfold kvT;rw[GaO];exact gx (λ_=>rfl) ts
theorem KS{bs:List Tr}(hl:bs.length≤12):fg [.tup (bs.map trD)]=some (.dT (kvT (bs.foldl bS []))):=by
 obtain⟨y2,e⟩:=A7 (B:=bs.map trD) bs [] none (by simp;omega);refine bg rfl ?_;unfold ff;refine(av (e:=[some (.sh (.tup (bs.map trD))),some (.own (.dT (kvT []))),none]) (by simp[bz,kvT])).trans ?_;have im:=IB (bs.foldl bS []);generalize bs.map trD=B at*;generalize kvT (bs.foldl bS [])=kv at*;refine(av (e:=[some (.sh (.tup B)),some (.own (.dT kv)),y2]) (by simp[-forL,e])).trans ?_;simp[im]
noncomputable def IC(gs:List Tr)(a b:Order):Int:=if a.aY=b.aY then Bl gs a.br b.br else 0
theorem pG{gs:List Tr}{a b:Order}:gP [.dT (kvT gs),aF a,aF b]=some (.int (IC gs a b)):=by
 have l:=A6 gs a.br b.br;refine bg rfl ?_;unfold gO IC Bl;have a1:ixD (aF a) (.int 1)=some (.int a.aY):=rfl;have a2:ixD (aF a) (.int 2)=some (.int a.br):=rfl;have b1:ixD (aF b) (.int 1)=some (.int b.aY):=rfl;have b2:ixD (aF b) (.int 2)=some (.int b.br):=rfl;generalize aF a=A at*;generalize aF b=B at*;generalize kvT gs=kv at*;by_cases c:a.aY=b.aY
 ·rw[Gai c];refine(av (e:=[some (.sh (.dT kv)),some (.sh A),some (.sh B)]) (by simp[bz,a1,b1,c,neB])).trans ?_;cases hf:gs.find? (atT a.br b.br) with
  |none=>rw[hf] at l;simp at l;simp[a2,b2,l,keyOf,ai]
  |some t=>rw[hf] at l;simp at l;simp[a2,b2,l,keyOf,ai]
 ·rw[Gag c];refine Ce ?_;simp[bz,a1,b1,c,neB]
noncomputable def mk2(p:Int×Int):D:= .tup [.int p.1,.int p.2]
noncomputable def un2:D→Int×Int
 | .tup [.int a,.int b]=>(a,b)
 |_=>(0,0)
theorem N8(p:Int×Int):un2 (mk2 p)=p:=rfl
theorem Ck(l:List (Int×Int)):aQ (l.map mk2)=true:=by
 induction l with
 |nil=>rfl
 |cons a l ih=>simp[mk2] at ih⊢;exact ih
theorem G0(l:List (Int×Int)):keysOk (l.map mk2)=true:=by
 have h1:(l.map mk2).all (mN 1)=true:=by
  rw[GbF,Gat];intro p _;simp[mk2,mN,tyD,mM]
 have h2:((l.map mk2).all λx=>(l.map mk2).all λy=>wq x y)=true:=by
  rw[GbF,Gat];intro p _;simp only[GcV];rw[GbF,Gat];intro q _;simp[mk2,wq,mR,tyD,b8]
 unfold keysOk;rw[h1,h2];simp
theorem KU{p q:Int×Int}(h:p.1<q.1):ltC (DL.code (mk2 p)) (DL.code (mk2 q))=true:=by
 have e:¬p.1=q.1:=by omega
 simp[mk2,DL.code,b8,ltC,fZ,ltI,e,h]
theorem A8(ms:List (Int×Int)):∃rows:List (Int×Int),cT (ms.map mk2)=rows.map mk2∧rows.Perm ms∧rows.Pairwise λa b=>a.1≤b.1:=by
 have hp:=fN (ms.map mk2);have hs:=g8 (ms.map mk2);have all:∀x∈cT (ms.map mk2),∃p,x=mk2 p:=λx hx=>by
  obtain⟨p,_,e⟩:=GaF.mp (hp.mem_iff.mp hx);exact⟨p,e.symm⟩
 have e:cT (ms.map mk2)=((cT (ms.map mk2)).map un2).map mk2:=by
  rw[GaO]
  conv=>lhs;rw[←Gcz (cT (ms.map mk2))]
  apply GaJ;intro x hx;obtain⟨p,rfl⟩:=all x hx
  rfl
 refine⟨(cT (ms.map mk2)).map un2,e, ?_, ?_⟩
 ·have:=Gdu un2 hp;rw[GaO] at this;have e2:ms.map (un2∘mk2)=ms:=by
   conv=>rhs;rw[←Gcz ms]
   exact GaJ λp _=>N8 p
  rw[e2] at this;exact this
 ·rw[e] at hs;unfold fL at hs;rw[Gdo] at hs;refine hs.imp λ{a b} h=> ?_;by_cases c:b.1<a.1
  ·rw[KU c] at h;cases h
  ·omega
noncomputable def sm(f:Nat→Int):Nat→Int
 |0=>0
 |n+1=>sm f n+f n
theorem Cm{α:Type}(w:α→Int)(d:α)(l:List α):∀k,k≤l.length→sm (λi=>w (l[i]?.getD d)) k=((l.take k).map w).sum
 |0,_=>by simp[sm]
 |k+1,h=>by
  rw[sm,Cm w d l k (by omega),Gdx (by omega),GaP,List.sum_append];simp[show k<l.length by omega]
theorem G1{f a:Nat→Int}{g k:Nat}(hgk:g≤k+1)(h1:∀i,i<g→f i=0)(h2:∀i,g≤i→i≤k→f i=a i)(h3:∀i,k<i→f i=0):∀n,sm f n=if n≤g then 0 else if n≤k+1 then sm a n -sm a g else sm a (k+1)-sm a g
 |0=>by simp[sm]
 |n+1=>by
  rw[sm,G1 hgk h1 h2 h3 n];by_cases c1:n+1≤g
  ·rw[Gai (by omega),Gai c1,h1 n (by omega)];rfl
  ·rw[Gag c1];by_cases c2:n+1≤k+1
   ·rw[Gai c2,h2 n (by omega) (by omega)];by_cases c3:n≤g
    ·have e:n=g:=by omega
     subst e;rw[Gai c3,sm];omega
    ·rw[Gag c3,Gai (by omega),sm];omega
   ·rw[Gag c2,h3 n (by omega)];by_cases c3:n≤g
    ·have e:n=k+1:=by omega
     have e2:g=k+1:=by omega
     rw[Gai c3,e2];omega
    ·rw[Gag c3];by_cases c4:n≤k+1
     ·have e:n=k+1:=by omega
      rw[Gai c4,e];omega
     ·rw[Gag c4];omega
section
variable(rows:List (Int×Int))(H:Int)
noncomputable def hr(i:Nat):Int:=(rows[i]?.getD (0,0)).1
noncomputable def am(i:Nat):Int:=(rows[i]?.getD (0,0)).2
noncomputable def wt(H h:Int)(p:Int×Int):Int:=if h -H<p.1∧p.1≤h then p.2 else 0
noncomputable def W(h:Int):Int:=(rows.map (wt H h)).sum
end
variable{rows:List (Int×Int)}{H:Int}
theorem uw(hs:rows.Pairwise λa b=>a.1≤b.1){i j:Nat}(h:i≤j)(hj:j<rows.length):hr rows i≤hr rows j:=by
 unfold hr;have hi:i<rows.length:=by omega
 simp only[Gab hi,Gab hj,Option.getD_some];rcases Nat.eq_or_lt_of_le h with e|e
 ·subst e;exact GbZ _
 ·exact Gcx.mp hs i j hi hj e
theorem N9(hs:rows.Pairwise λa b=>a.1≤b.1){g k:Nat}(hk:k<rows.length)(hgk:g≤k)(h1:∀i,i<g→hr rows i≤hr rows k -H)(h2:hr rows k -H<hr rows g)(h3:k+1=rows.length∨hr rows k<hr rows (k+1)):
  W rows H (hr rows k)=sm (am rows) (k+1)-sm (am rows) g:=by
 have e:=Cm (wt H (hr rows k)) (0,0) rows rows.length (Gar _);rw[List.take_length] at e;unfold W;rw[←e];have cut:=G1 (f:=λi=>if i<rows.length then wt H (hr rows k) (rows[i]?.getD (0,0)) else 0) (a:=am rows) (g:=g) (k:=k) (by omega)
  (λi hi=>by
   show(if i<rows.length then wt H (hr rows k) (rows[i]?.getD (0,0)) else 0)=_;rw[Gai (by omega)];unfold wt;have:=h1 i hi;unfold hr at this⊢;rw[Gag (by omega)])
  (λi i1 i2=>by
   show(if i<rows.length then wt H (hr rows k) (rows[i]?.getD (0,0)) else 0)=_;rw[Gai (by omega)];unfold wt;have a1:=uw hs i1 (by omega);have a2:=uw hs i2 hk;unfold hr at a1 a2 h2⊢;rw[Gai ⟨by omega,a2⟩];rfl)
  (λi hi=>by
   show(if i<rows.length then wt H (hr rows k) (rows[i]?.getD (0,0)) else 0)=_;split
   ·rename_i hl;have a1:hr rows (k+1)≤hr rows i:=uw hs (by omega) hl;rcases h3 with h3|h3
    ·omega
    ·unfold wt;unfold hr at a1 h3⊢;rw[Gag (by omega)]
   ·rfl) rows.length
 rw[Gag (by omega)] at cut;have same:∀n,n≤rows.length→sm (λi=>if i<rows.length then wt H (hr rows k) (rows[i]?.getD (0,0)) else 0) n=sm (λi=>wt H (hr rows k) (rows[i]?.getD (0,0))) n:=by
  intro n;induction n with
  |zero=>intro _;rfl
  |succ n ih=>intro hn;rw[sm,sm,ih (by omega),Gai (by omega)]
 rw[←same _ (Gar _),cut];split
 ·have e2:rows.length=k+1:=by omega
  rw[e2]
 ·rfl
noncomputable def pH(ms:D)(H:Int)(R:List D)(F:List D)(total gone k:Int)(row:D):DL.Env:=[some (.sh ms),some (.sh (.int H)),some (.lok (.lst R)),some (.own (.lst F)),some (.sh (.int total)),some (.sh (.int gone)),some (.sh (.int k)),some (.sh row)]
theorem sf{g:Nat}(hg:g<rows.length):atD (rows.map mk2) (g:Int)=some (.tup [.int (hr rows g),.int (am rows g)]):=by
 rw[cW,Gak,Gab hg];unfold hr am;simp[mk2,hg]
theorem Cn{ms:D}{R F:List D}{total gone k h a h' a' :Int}(e:atD R gone=some (.tup [.int h',.int a'])):fU (pH ms H R F total gone k (.tup [.int h,.int a]))=some (decide (h' ≤h -H)):=by
 unfold fU pH;simp[e]
theorem ID{ms:D}{R F:List D}{total gone k h a h' a' :Int}(e:atD R gone=some (.tup [.int h',.int a'])):j7 (pH ms H R F total gone k (.tup [.int h,.int a]))=some (.nx (pH ms H R F (total -a') (gone+1) k (.tup [.int h,.int a]))):=by
 unfold j7 pH;simp[e]
theorem G2{ms:D}{F:List D}{k:Nat}{kk a:Int}(hH:1≤H)(hk:k<rows.length):∀(m gone fuel:Nat) (total:Int),k -gone=m→gone≤k→m<fuel→∃g,gone≤g∧g≤k∧(∀i,gone≤i→i<g→hr rows i≤hr rows k -H)∧hr rows k -H<hr rows g∧
  iz fU j7 fuel (pH ms H (rows.map mk2) F total gone kk (.tup [.int (hr rows k),.int a]))=some (.nx (pH ms H (rows.map mk2) F (total -(sm (am rows) g -sm (am rows) gone)) g kk (.tup [.int (hr rows k),.int a]))):=by
 intro m;induction m with
 |zero=>
  intro gone fuel total hm hg hf;have e:gone=k:=by omega
  subst e;obtain⟨f,rfl⟩:∃f,fuel=f+1:=⟨fuel -1,by omega⟩
  refine⟨gone,Gar _,Gar _,λi h1 h2=>by omega,by omega, ?_⟩;unfold iz;rw[Cn (sf hk)];have c:¬hr rows gone≤hr rows gone -H:=by omega
  simp[c]
 |succ m ih=>
  intro gone fuel total hm hg hf;obtain⟨f,rfl⟩:∃f,fuel=f+1:=⟨fuel -1,by omega⟩
  have hgl:gone<rows.length:=by omega
  unfold iz;rw[Cn (sf hgl)];by_cases c:hr rows gone≤hr rows k -H
  ·obtain⟨g,q1,q2,q3,q4,q5⟩:=ih (gone+1) f (total -am rows gone) (by omega) (by omega) (by omega);refine⟨g,by omega,q2,λi h1 h2=> ?_,q4, ?_⟩
   ·rcases Nat.eq_or_lt_of_le h1 with e|e
    ·subst e;exact c
    ·exact q3 i e h2
   ·simp only[c,decide_true,Option.bind_some,Gbi];rw[ID (sf hgl)];simp only[Option.bind_some];have e1:((gone:Int)+1)=((gone+1:Nat):Int):=by omega
    rw[e1,q5,sm];have e2:total -am rows gone -(sm (am rows) g -(sm (am rows) gone+am rows gone))=total -(sm (am rows) g -sm (am rows) gone):=by omega
    rw[e2]
  ·refine⟨gone,Gar _,hg,λi h1 h2=>by omega,by omega, ?_⟩;simp[c]
noncomputable def gz(rows:List (Int×Int))(j:Nat):Bool:=decide (j+1=rows.length)||decide (hr rows j<hr rows (j+1))
noncomputable def fnd(rows:List (Int×Int))(H:Int)(m:Nat):List (Int×Int):=((List.range m).filter (gz rows)).map λj=>(hr rows j,W rows H (hr rows j))
theorem A9{m:Nat}:fnd rows H (m+1)=fnd rows H m++(if gz rows m then[(hr rows m,W rows H (hr rows m))] else[]):=by
 unfold fnd;rw[List.range_succ,GcM,GaP];congr 1;cases h:gz rows m<;>simp[h]
theorem Co{m:Nat}:(fnd rows H m).length≤m:=by
 unfold fnd;rw[Gaf];exact Gbx (GcR _ _) (by simp)
theorem IE{ms:D}{R F:List D}{total gone kk h a total' g' n:Int}{last:Bool}(hw:iz fU j7 100000 (pH ms H R F (total+a) gone kk (.tup [.int h,.int a]))=some (.nx (pH ms H R F total' g' kk (.tup [.int h,.int a]))))(hz:F.length<1000)(hn:(R.length:Int)=n)
  (hc:(kk+1=n∧last=true)∨(kk+1≠n∧∃h2 a2,atD R (kk+1)=some (.tup [.int h2,.int a2])∧last=decide (h<h2))):
  cZ (pH ms H R F total gone kk (.tup [.int h,.int a]))=some (.nx (pH ms H R (if last then F++[.tup [.int h,.int total']] else F) total' g' kk (.tup [.int h,.int a]))):=by
 have z:F.length<16777216:=by omega
 unfold pH at*;unfold cZ uV;rcases hc with⟨c,rfl⟩| ⟨c,h2,a2,e,rfl⟩
 ·simp[hw,hn,c,ai,z]
 ·by_cases c2:h<h2
  ·simp[hw,hn,c,e,c2,ai,z]
  ·simp[hw,hn,c,e,c2]
theorem G3{ms:D}(hH:1≤H)(hs:rows.Pairwise λa b=>a.1≤b.1)(hl:rows.length<64):∃(y4 y5 y6 y7:Option Slot),forL (gT [6,7]) cZ (fA 0 (rows.map mk2)) [some (.sh ms),some (.sh (.int H)),some (.lok (.lst (rows.map mk2))),some (.own (.lst [])),some (.sh (.int 0)),some (.sh (.int 0)),none,none]=
  some (.nx [some (.sh ms),some (.sh (.int H)),some (.lok (.lst (rows.map mk2))),some (.own (.lst ((fnd rows H rows.length).map mk2))),y4,y5,y6,y7]):=by
 obtain⟨e,h1,gone,total,y6,y7,h2,h3,h4,rfl⟩:=gw (g:=gT [6,7]) (body:=cZ) (λm env=>∃(gone:Nat) (total:Int) (y6 y7:Option Slot),gone≤m∧total=sm (am rows) m -sm (am rows) gone∧(∀i,i<gone→∀j,m≤j+1→j<rows.length→hr rows i≤hr rows j -H)∧
   env=[some (.sh ms),some (.sh (.int H)),some (.lok (.lst (rows.map mk2))),some (.own (.lst ((fnd rows H m).map mk2))),some (.sh (.int total)),some (.sh (.int gone)),y6,y7]) (fA 0 (rows.map mk2)) 0
  [some (.sh ms),some (.sh (.int H)),some (.lok (.lst (rows.map mk2))),some (.own (.lst [])),some (.sh (.int 0)),some (.sh (.int 0)),none,none] ⟨0,0,none,none,Gar _,by simp[sm],λi hi=>by omega,rfl⟩ (by
   rintro k d e hd ⟨gone,total,y6,y7,h2,h3,h4,rfl⟩;rw[k8,Gak] at hd;cases hk:rows[k]? with
   |none=>rw[hk] at hd;cases hd
   |some p=>
    rw[hk] at hd;have hkl:k<rows.length:=(Gae.mp hk).1;simp only[Gct,Gcv] at hd;subst hd;rw[Gdd] at h2 h3 h4⊢;have ep:mk2 p= .tup [.int (hr rows k),.int (am rows k)]:=by
     unfold mk2 hr am;rw[hk];rfl
    obtain⟨g,q1,q2,q3,q4,q5⟩:=G2 (rows:=rows) (ms:=ms) (F:=(fnd rows H k).map mk2) (kk:=(k:Int)) (a:=am rows k) hH hkl (k -gone) gone 100000 (total+am rows k) rfl h2 (by omega);have allg:∀i,i<g→hr rows i≤hr rows k -H:=λi hi=>by
     by_cases c:i<gone
     ·exact h4 i c k (by omega) hkl
     ·exact q3 i (by omega) hi
    have tot:total+am rows k -(sm (am rows) g -sm (am rows) gone)=sm (am rows) (k+1)-sm (am rows) g:=by
     rw[h3,sm];omega
    rw[tot] at q5;have hlen:((rows.map mk2).length:Int)=(rows.length:Int):=by simp
    have ev:=IE (last:=gz rows k) q5 (Gda (by rw[Gaf];exact Co) (by omega)) hlen (by
     by_cases c:k+1=rows.length
     ·exact .inl ⟨by omega,by unfold gz;simp[c]⟩
     ·refine .inr ⟨by omega,hr rows (k+1),am rows (k+1), ?_,by unfold gz;simp[c]⟩;have:=sf (rows:=rows) (g:=k+1) (by omega);rw[show((k:Int)+1)=((k+1:Nat):Int) by omega];exact this)
    refine⟨_,_, ?_,ev,g,_,some (.sh (.int (k:Int))),some (.sh (.tup [.int (hr rows k),.int (am rows k)])),by omega,rfl,λi hi j hj hjl=> ?_, ?_⟩
    ·rw[ep];rfl
    ·have:=allg i hi;have:=uw hs (i:=k) (j:=j) (by omega) hjl;omega
    ·rw[A9];unfold pH;cases hL:gz rows k with
     |false=>simp
     |true=>
      have hw:=N9 (H:=H) hs hkl q2 allg q4 (by
       unfold gz at hL;rw[Gbd] at hL;exact hL.imp GaE GaE)
      simp[mk2,hw])
 rw[k7,Gaf,Gdd] at h1;exact⟨_,_,_,_,h1⟩
theorem si{ms:List (Int×Int)}(hl:ms.length<64):sortedS [.lst (ms.map mk2)]=some ⟨.tn,.lst (cT (ms.map mk2))⟩:=by
 have h1:((ms.map mk2).length<64):=by simpa using hl
 unfold sortedS one mQ;simp only[Option.bind_some];rw[G0,GaN h1];rfl
theorem G4{M R F:List D}{y4 y5 y6 y7:Option Slot}(es:sortedS [.lst M]=some ⟨.tn,.lst R⟩)(h1:forL (gT [6,7]) cZ (fA 0 R) [some (.sh (.lst M)),some (.sh (.int H)),some (.lok (.lst R)),some (.own (.lst [])),some (.sh (.int 0)),some (.sh (.int 0)),none,none]=
  some (.nx [some (.sh (.lst M)),some (.sh (.int H)),some (.lok (.lst R)),some (.own (.lst F)),y4,y5,y6,y7]))(im:aQ F=true):jZ [.lst M,.int H]=some (.lst F):=by
 unfold jZ rV;simp[-forL,-fA,es,h1,ai,im]
theorem mW:∀(a b:List Int),a.Pairwise (λx y=>x<y)→b.Pairwise (λx y=>x<y)→(∀x,x∈a↔x∈b)→a=b
 |[],[],_,_,_=>rfl
 |[],y::b,_,_,h=>absurd ((h y).mpr Gao) (by simp)
 |x::a,[],_,_,h=>absurd ((h x).mp Gao) (by simp)
 |x::a,y::b,ha,hb,h=>by
  have ha' :=GbE.mp ha;have hb' :=GbE.mp hb;have exy:x=y:=by
   rcases Gay.mp ((h x).mp Gao) with e|e
   ·exact e
   ·rcases Gay.mp ((h y).mpr Gao) with e2|e2
    ·exact e2.symm
    ·have h3:=hb'.1 x e;have h4:=ha'.1 y e2;omega
  subst exy;congr 1;refine mW a b ha'.2 hb'.2 λz=> ⟨λhz=> ?_,λhz=> ?_⟩
  ·rcases Gay.mp ((h z).mp (Gaj _ hz)) with e|e
   ·have:=ha'.1 z hz;omega
   ·exact e
  ·rcases Gay.mp ((h z).mpr (Gaj _ hz)) with e|e
   ·have:=hb'.1 z hz;omega
   ·exact e
theorem G5:∀(ns ks:List Int) (x:Int),x∈ns.foldl dd1 ks↔x∈ks∨x∈ns
 |[],ks,x=>by simp
 |n::ns,ks,x=>by
  rw[GbN,G5 ns (dd1 ks n) x];unfold dd1;split
  ·rename_i c;constructor
   ·rintro(h|h)
    ·exact .inl h
    ·exact .inr (Gaj _ h)
   ·rintro(h|h)
    ·exact .inl h
    ·rcases Gay.mp h with rfl|h
     ·exact .inl c
     ·exact .inr h
  ·simp only[Gax,Gay,GcC,or_false];constructor
   ·rintro((h|h)|h)
    ·exact .inl h
    ·exact .inr (.inl h)
    ·exact .inr (.inr h)
   ·rintro(h|h|h)
    ·exact .inl (.inl h)
    ·exact .inl (.inr h)
    ·exact .inr h
theorem Aa:∀(ns ks:List Int),ks.Nodup→(ns.foldl dd1 ks).Nodup
 |[],ks,h=>h
 |n::ns,ks,h=>by
  rw[GbN];refine Aa ns _ ?_;unfold dd1;split
  ·exact h
  ·rename_i c;rw[Gch];refine⟨h,by simp,λa ha b hb=> ?_⟩;rw[Gbo] at hb;subst hb
   exactλe=>c (e▸ha)
theorem G6:∀(ns ks:List Int),(ns.foldl dd1 ks).length≤ks.length+ns.length
 |[],ks=>by simp
 |n::ns,ks=>by
  rw[GbN];have h:=G6 ns (dd1 ks n);have h2:(dd1 ks n).length≤ks.length+1:=by unfold dd1;split<;>simp
  rw[GaC];omega
theorem Ab{a b:Int}(h:a<b):ltC (DL.code (.int a)) (DL.code (.int b))=true:=by
 have e:¬a=b:=by omega
 simp[DL.code,b8,ltC,fZ,ltI,e,h]
theorem DR(l:List Int):∃s:List Int,s.Perm l∧s.Pairwise (λa b=>a≤b)∧cT (l.map D.int)=s.map D.int:=by
 have hp:=fN (l.map D.int);have hs:=g8 (l.map D.int);have all:∀{ds:List D},(∀d∈ds,∃i:Int,d= .int i)→∃s:List Int,ds=s.map D.int:=by
  intro ds;induction ds with
  |nil=>exactλ_=> ⟨[],rfl⟩
  |cons d ds ih=>
   intro h;obtain⟨i,rfl⟩:=h d Gao;obtain⟨s,rfl⟩:=ih λx hx=>h x (Gaj _ hx);exact⟨i::s,rfl⟩
 obtain⟨s,e⟩:=all (ds:=cT (l.map D.int)) λd hd=>by
  obtain⟨i,_,rfl⟩:=GaF.mp (hp.mem_iff.mp hd);exact⟨i,rfl⟩
 rw[e] at hp hs;refine⟨s, ?_, ?_,e⟩
 ·have un:∀x:List Int,(x.map D.int).map (λd=>match d with| .int i=>i|_=>0)=x:=by
   intro x;rw[GaO];exact(GaJ λ_ _=>rfl).trans (Gcz x)
  have:=Gdu (λd=>match d with|D.int i=>i|_=>0) hp;rw[un,un] at this;exact this
 ·unfold fL at hs;rw[Gdo] at hs;refine hs.imp λ{a b} h=> ?_;by_cases c:b<a
  ·rw[Ab c] at h;cases h
  ·omega
theorem G7(ns:List Int):∃S:List Int,cT ((ddF ns).map D.int)=S.map D.int∧S.Pairwise (λa b=>a<b)∧(∀x,x∈S↔x∈ns)∧S.length≤ns.length:=by
 obtain⟨s,h1,h2,h3⟩:=DR (ddF ns);have nd:s.Nodup:=h1.nodup_iff.mpr (Aa ns [] List.nodup_nil);have mem:∀x,x∈s↔x∈ns:=λx=>by rw[h1.mem_iff];unfold ddF;rw[G5];simp
 refine⟨s,h3, ?_,mem, ?_⟩
 ·have:=h2.and nd;exact this.imp λ{a b} h=>by
   have h1:=h.1;have h2:a≠b:=h.2;omega
 ·rw[h1.length_eq];have:=G6 ns []
  simpa[ddF] using this
noncomputable def G8(ms:List (Int×Int))(H:Int)(S:List Int):List (Int×Int):=S.map λh=>(h,W ms H h)
theorem G9{l l' :List Int}(h:l.Perm l'):l.sum=l'.sum:=by
 induction h with
 |nil=>rfl
 |cons x _ ih=>simp[ih]
 |swap x y l=>simp;omega
 |trans _ _ h1 h2=>exact h1.trans h2
theorem KW{ms:List (Int×Int)}(hp:rows.Perm ms)(h:Int):W rows H h=W ms H h:=by
 unfold W;exact G9 (Gdu _ hp)
theorem sk(hs:rows.Pairwise λa b=>a.1≤b.1):∀(m i:Nat),rows.length -i=m→i<rows.length→∃j,j<rows.length∧hr rows j=hr rows i∧gz rows j=true
 |0,i,hm,hi=>by omega
 |m+1,i,hm,hi=>by
  by_cases c:i+1=rows.length
  ·exact⟨i,hi,rfl,by unfold gz;simp[c]⟩
  ·by_cases c2:hr rows i<hr rows (i+1)
   ·exact⟨i,hi,rfl,by unfold gz;simp[c2]⟩
   ·obtain⟨j,h1,h2,h3⟩:=sk hs m (i+1) (by omega) (by omega);have:=uw hs (i:=i) (j:=i+1) (by omega) (by omega);exact⟨j,h1,by rw[h2];omega,h3⟩
theorem IF{ms:List (Int×Int)}{S:List Int}(hs:rows.Pairwise λa b=>a.1≤b.1)(hp:rows.Perm ms)(hS:S.Pairwise λa b=>a<b)(hm:∀x,x∈S↔x∈ms.map (·.1)):fnd rows H rows.length=G8 ms H S:=by
 have eT:((List.range rows.length).filter (gz rows)).map (hr rows)=S:=by
  refine mW _ _ ?_ hS λx=> ?_
  ·rw[Gdo];have pr:((List.range rows.length).filter (gz rows)).Pairwise λi j=>i<j:=List.Pairwise.filter _ List.pairwise_lt_range;refine(List.Pairwise.and_mem.mp pr).imp λ{i j} h=> ?_;obtain⟨hi,hj,hij⟩:=h;obtain⟨i1,i2⟩:=Gca.mp hi;obtain⟨j1,_⟩:=Gca.mp hj;have jl:=GbJ.mp j1;unfold gz at i2;rw[Gbd] at i2;rcases i2 with i2|i2
   ·have:=GaE i2;omega
   ·have a1:=GaE i2;have a2:=uw hs (i:=i+1) (j:=j) (by omega) jl;omega
  ·rw[hm,GaF,GaF];constructor
   ·rintro⟨j,hj,rfl⟩;have jl:=GbJ.mp (Gca.mp hj).1;exact⟨rows[j],hp.mem_iff.mp (GaD _),by unfold hr;simp[jl]⟩
   ·rintro⟨p,hp',rfl⟩;obtain⟨i,hi,rfl⟩:=GdI (hp.mem_iff.mpr hp');obtain⟨j,h1,h2,h3⟩:=sk hs (rows.length -i) i rfl hi;refine⟨j,Gca.mpr ⟨GbJ.mpr h1,h3⟩, ?_⟩;rw[h2];unfold hr;simp[hi]
 unfold fnd G8;rw[←eT,GaO];exact GaJ λj _=>by simp only[Function.comp];rw[KW hp]
theorem Ga{ms:D}{R F:List D}{total kk h a n:Int}{last:Bool}(hz:F.length<1000)(hn:(R.length:Int)=n)
  (hc:(kk+1=n∧last=true)∨(kk+1≠n∧∃h2 a2,atD R (kk+1)=some (.tup [.int h2,.int a2])∧last=decide (h<h2))):
  cZ [some (.sh ms),some (.sh .non),some (.lok (.lst R)),some (.own (.lst F)),some (.sh (.int total)),some (.sh (.int 0)),some (.sh (.int kk)),some (.sh (.tup [.int h,.int a]))]=
   some (.nx [some (.sh ms),some (.sh .non),some (.lok (.lst R)),some (.own (.lst (if last then F++[.tup [.int h,.int (total+a)]] else F))),some (.sh (.int (total+a))),some (.sh (.int 0)),some (.sh (.int kk)),some (.sh (.tup [.int h,.int a]))]):=by
 have z:F.length<16777216:=by omega
 have hw:iz fU j7 100000 [some (.sh ms),some (.sh .non),some (.lok (.lst R)),some (.own (.lst F)),some (.sh (.int (total+a))),some (.sh (.int 0)),some (.sh (.int kk)),some (.sh (.tup [.int h,.int a]))]=some (.nx [some (.sh ms),some (.sh .non),some (.lok (.lst R)),some (.own (.lst F)),some (.sh (.int (total+a))),some (.sh (.int 0)),some (.sh (.int kk)),some (.sh (.tup [.int h,.int a]))]):=by
  have t:fU [some (.sh ms),some (.sh .non),some (.lok (.lst R)),some (.own (.lst F)),some (.sh (.int (total+a))),some (.sh (.int 0)),some (.sh (.int kk)),some (.sh (.tup [.int h,.int a]))]=some false:=by
   unfold fU;simp
  unfold iz;rw[t];simp
 unfold cZ uV;rcases hc with⟨c,rfl⟩| ⟨c,h2,a2,e,rfl⟩
 ·simp[hw,hn,c,ai,z]
 ·by_cases c2:h<h2
  ·simp[hw,hn,c,e,c2,ai,z]
  ·simp[hw,hn,c,e,c2]
theorem DU{ms:D}(hH:∀p∈rows,∀q∈rows,q.1 -H<p.1)(hs:rows.Pairwise λa b=>a.1≤b.1)(hl:rows.length<64):∃(y4 y5 y6 y7:Option Slot),forL (gT [6,7]) cZ (fA 0 (rows.map mk2)) [some (.sh ms),some (.sh .non),some (.lok (.lst (rows.map mk2))),some (.own (.lst [])),some (.sh (.int 0)),some (.sh (.int 0)),none,none]=
  some (.nx [some (.sh ms),some (.sh .non),some (.lok (.lst (rows.map mk2))),some (.own (.lst ((fnd rows H rows.length).map mk2))),y4,y5,y6,y7]):=by
 obtain⟨e,h1,total,y6,y7,h3,rfl⟩:=gw (g:=gT [6,7]) (body:=cZ) (λm env=>∃(total:Int) (y6 y7:Option Slot),total=sm (am rows) m∧
   env=[some (.sh ms),some (.sh .non),some (.lok (.lst (rows.map mk2))),some (.own (.lst ((fnd rows H m).map mk2))),some (.sh (.int total)),some (.sh (.int 0)),y6,y7]) (fA 0 (rows.map mk2)) 0
  [some (.sh ms),some (.sh .non),some (.lok (.lst (rows.map mk2))),some (.own (.lst [])),some (.sh (.int 0)),some (.sh (.int 0)),none,none] ⟨0,none,none,by simp[sm],rfl⟩ (by
   rintro k d e hd ⟨total,y6,y7,h3,rfl⟩;rw[k8,Gak] at hd;cases hk:rows[k]? with
   |none=>rw[hk] at hd;cases hd
   |some p=>
    rw[hk] at hd;have hkl:k<rows.length:=(Gae.mp hk).1;simp only[Gct,Gcv] at hd;subst hd;rw[Gdd] at h3⊢;have ep:mk2 p= .tup [.int (hr rows k),.int (am rows k)]:=by
     unfold mk2 hr am;rw[hk];rfl
    have hlen:((rows.map mk2).length:Int)=(rows.length:Int):=by simp
    have ev:=Ga (ms:=ms) (R:=rows.map mk2) (F:=(fnd rows H k).map mk2) (total:=total) (kk:=(k:Int)) (h:=hr rows k) (a:=am rows k) (last:=gz rows k) (Gda (by rw[Gaf];exact Co) (by omega)) hlen (by
     by_cases c:k+1=rows.length
     ·exact .inl ⟨by omega,by unfold gz;simp[c]⟩
     ·refine .inr ⟨by omega,hr rows (k+1),am rows (k+1), ?_,by unfold gz;simp[c]⟩;have:=sf (rows:=rows) (g:=k+1) (by omega);rw[show((k:Int)+1)=((k+1:Nat):Int) by omega];exact this)
    refine⟨_,_, ?_,ev,total+am rows k,some (.sh (.int (k:Int))),some (.sh (.tup [.int (hr rows k),.int (am rows k)])),by rw[h3];rfl, ?_⟩
    ·rw[ep];rfl
    ·rw[A9];cases hL:gz rows k with
     |false=>simp
     |true=>
      have hr_in:∀i,i<rows.length→∃p∈rows,p.1=hr rows i:=λi hi=> ⟨rows[i],GaD _,by unfold hr;simp[hi]⟩;have hw:=N9 (H:=H) hs hkl (GbH k) (λi hi=>by omega) (by
       obtain⟨p,hp,e1⟩:=hr_in 0 (by omega);obtain⟨q,hq,e2⟩:=hr_in k hkl;have:=hH p hp q hq;omega) (by
       unfold gz at hL;rw[Gbd] at hL;exact hL.imp GaE GaE)
      have tot:total+am rows k=W rows H (hr rows k):=by
       rw[hw,h3];show sm (am rows) k+am rows k=sm (am rows) (k+1)-sm (am rows) 0;simp[sm]
      simp[mk2,tot])
 rw[k7,Gaf,Gdd] at h1;exact⟨_,_,_,_,h1⟩
theorem DV{M R F:List D}{y4 y5 y6 y7:Option Slot}(es:sortedS [.lst M]=some ⟨.tn,.lst R⟩)(h1:forL (gT [6,7]) cZ (fA 0 R) [some (.sh (.lst M)),some (.sh .non),some (.lok (.lst R)),some (.own (.lst [])),some (.sh (.int 0)),some (.sh (.int 0)),none,none]=
  some (.nx [some (.sh (.lst M)),some (.sh .non),some (.lok (.lst R)),some (.own (.lst F)),y4,y5,y6,y7]))(im:aQ F=true):jZ [.lst M,.non]=some (.lst F):=by
 unfold jZ rV;simp[-forL,-fA,es,h1,ai,im]
def HD(hd:D)(H:Int)(ms:List (Int×Int)):Prop:=(hd= .int H∧1≤H)∨(hd= .non∧∀p∈ms,∀q∈ms,q.1 -H<p.1)
theorem HD.perm{hd:D}{ms ms' :List (Int×Int)}(h:HD hd H ms)(hp:ms.Perm ms'):HD hd H ms' :=by
 rcases h with h| ⟨h1,h2⟩
 ·exact .inl h
 ·exact .inr ⟨h1,λp hp' q hq=>h2 p (hp.mem_iff.mpr hp') q (hp.mem_iff.mpr hq)⟩
theorem sr{hd:D}{ms ms' :List (Int×Int)}{S:List Int}(h:HD hd H ms)(hp:ms'.Perm ms)(hl:ms.length<64)(hS:S.Pairwise λa b=>a<b)(hm:∀x,x∈S↔x∈ms.map (·.1)):jZ [.lst (ms'.map mk2),hd]=some (.lst ((G8 ms H S).map mk2)):=by
 obtain⟨rows,e,hp2,hs⟩:=A8 ms';have hp3:rows.Perm ms:=hp2.trans hp;have hl2:rows.length<64:=by rw[hp3.length_eq];exact hl
 have es:=si (ms:=ms') (by rw[hp.length_eq];exact hl);rw[e] at es;rw[←IF hs hp3 hS hm];rcases h.perm hp3.symm with⟨rfl,hH⟩| ⟨rfl,hH⟩
 ·obtain⟨y4,y5,y6,y7,h⟩:=G3 (rows:=rows) (ms:= .lst (ms'.map mk2)) hH hs hl2;exact G4 es h (Ck _)
 ·obtain⟨y4,y5,y6,y7,h⟩:=DU (rows:=rows) (ms:= .lst (ms'.map mk2)) hH hs hl2;exact DV es h (Ck _)
noncomputable def gpF(os:List Order)(gs:List Tr)(r l:Int×Int):List Flt:=match os[r.2.toNat]?,os[l.2.toNat]? with
 |some a,some b=>if l.1 -r.1<IC gs a b then[("gap",[r.2,r.1,l.2,l.1])] else[]
 |_,_=>[]
noncomputable def kg(os:List Order)(gs:List Tr)(w:Int)(r:Int×Int):List (Int×Int)→List Flt
 |[]=>[]
 |l::ls=>if l.1 -r.1≥w then[] else gpF os gs r l++kg os gs w r ls
noncomputable def cS(os:List Order)(gs:List Tr)(w:Int):List (Int×Int)→List Flt
 |[]=>[]
 |r::rs=>kg os gs w r rs++cS os gs w rs
theorem Cp(os:List Order)(gs:List Tr)(r l:Int×Int):(gpF os gs r l).length≤1:=by
 unfold gpF;split
 ·split<;>simp
 ·simp
theorem pI(os:List Order)(gs:List Tr)(w:Int)(r:Int×Int):∀ls,(kg os gs w r ls).length≤ls.length
 |[]=>by simp[kg]
 |l::ls=>by
  unfold kg;have h1:=pI os gs w r ls;have h2:=Cp os gs r l;split
  ·simp
  ·simp;omega
theorem KY{wd:D}{G R F:List D}{kv:List (List Key×D)}{w k r1 r2 l1 l2:Int}{x9:Option Slot}(c:l1 -r1≥w):
  bL [some (.sh wd),some (.sh (.tup G)),some (.own (.dT kv)),some (.sh (.int w)),some (.lok (.lst R)),some (.own (.lst F)),some (.sh (.int k)),some (.sh (.tup [.int r1,.int r2])),some (.sh (.tup [.int l1,.int l2])),x9]=
   some (.bk [some (.sh wd),some (.sh (.tup G)),some (.own (.dT kv)),some (.sh (.int w)),some (.lok (.lst R)),some (.own (.lst F)),some (.sh (.int k)),some (.sh (.tup [.int r1,.int r2])),some (.sh (.tup [.int l1,.int l2])),some (.sh (.int (l1 -r1)))]):=by
 unfold bL;simp[c]
theorem KZ{A B C O G R F:List D}{kv:List (List Key×D)}{w k r1 r2 l1 l2 gb:Int}{o1 o2:D}{x9:Option Slot}(c:¬l1 -r1≥w)(h1:atD O r2=some o1)(h2:atD O l2=some o2)(eb:gP [.dT kv,o1,o2]=some (.int gb))(hz:F.length<100000):
  bL [some (.sh (.tup [.tup A,.tup B,.tup C,.tup O])),some (.sh (.tup G)),some (.own (.dT kv)),some (.sh (.int w)),some (.lok (.lst R)),some (.own (.lst F)),some (.sh (.int k)),some (.sh (.tup [.int r1,.int r2])),some (.sh (.tup [.int l1,.int l2])),x9]=
   some (.nx [some (.sh (.tup [.tup A,.tup B,.tup C,.tup O])),some (.sh (.tup G)),some (.own (.dT kv)),some (.sh (.int w)),some (.lok (.lst R)),some (.own (.lst (F++(if l1 -r1<gb then[D.tup [.str "gap",.int r2,.int r1,.int l2,.int l1]] else[])))),some (.sh (.int k)),some (.sh (.tup [.int r1,.int r2])),some (.sh (.tup [.int l1,.int l2])),some (.sh (.int (l1 -r1)))]):=by
 have z:F.length<16777216:=by omega
 unfold bL;refine(av (e:=[some (.sh (.tup [.tup A,.tup B,.tup C,.tup O])),some (.sh (.tup G)),some (.own (.dT kv)),some (.sh (.int w)),some (.lok (.lst R)),some (.own (.lst F)),some (.sh (.int k)),some (.sh (.tup [.int r1,.int r2])),some (.sh (.tup [.int l1,.int l2])),some (.sh (.int (l1 -r1)))]) (by simp)).trans ?_;have c' :l1 -r1<w:=by omega
 refine(av (e:=[some (.sh (.tup [.tup A,.tup B,.tup C,.tup O])),some (.sh (.tup G)),some (.own (.dT kv)),some (.sh (.int w)),some (.lok (.lst R)),some (.own (.lst F)),some (.sh (.int k)),some (.sh (.tup [.int r1,.int r2])),some (.sh (.tup [.int l1,.int l2])),some (.sh (.int (l1 -r1)))]) (by simp[c'])).trans ?_;by_cases q:l1 -r1<gb
 ·simp[q,h1,h2,eb,z,ai]
 ·simp[q,h1,h2,eb]
theorem su{w:World}{gs:List Tr}{wid k:Int}{A B C G R:List D}{r:Int×Int}(hr0:0≤r.2)(hr1:r.2<w.orders.length):∀(ls:List (Int×Int)) (fs:List Flt) (x8 x9:Option Slot),(∀l∈ls,0≤l.2∧l.2<w.orders.length)→fs.length+ls.length<100000→∃y8 y9,
  forL (gN 8) bL (ls.map mk2) [some (.sh (.tup [.tup A,.tup B,.tup C,.tup (w.orders.map aF)])),some (.sh (.tup G)),some (.own (.dT (kvT gs))),some (.sh (.int wid)),some (.lok (.lst R)),some (.own (.lst (fs.map az))),some (.sh (.int k)),some (.sh (mk2 r)),x8,x9]=
   some (.nx [some (.sh (.tup [.tup A,.tup B,.tup C,.tup (w.orders.map aF)])),some (.sh (.tup G)),some (.own (.dT (kvT gs))),some (.sh (.int wid)),some (.lok (.lst R)),some (.own (.lst ((fs++kg w.orders gs wid r ls).map az))),some (.sh (.int k)),some (.sh (mk2 r)),y8,y9])
 |[],fs,x8,x9,_,_=> ⟨x8,x9,by simp[kg]⟩
 |l::ls,fs,x8,x9,hl,hz=>by
  rw[GaC] at hz;by_cases c:l.1 -r.1≥wid
  ·have ev:=KY (wd:= .tup [.tup A,.tup B,.tup C,.tup (w.orders.map aF)]) (G:=G) (R:=R) (F:=fs.map az) (kv:=kvT gs) (w:=wid) (k:=k) (r1:=r.1) (r2:=r.2) (l1:=l.1) (l2:=l.2) (x9:=x9) c;refine⟨some (.sh (mk2 l)),some (.sh (.int (l.1 -r.1))), ?_⟩;unfold kg;rw[Gai c,Gbn,Gap];have e1:D.tup [.int r.1,.int r.2]=mk2 r:=rfl;have e2:D.tup [.int l.1,.int l.2]=mk2 l:=rfl;rw[e1,e2] at ev;generalize mk2 l=ld at*;simp only[forL,gN,GaU,GaV,Option.bind_some,ev]
  ·have l0:=hl l Gao;obtain⟨n,hn⟩:=GaG hr0;obtain⟨m,hm⟩:=GaG l0.1;have hn' :n<w.orders.length:=by omega
   have hm' :m<w.orders.length:=by omega
   have h1:atD (w.orders.map aF) r.2=some (aF w.orders[n]):=by rw[hn,cW,Gak,Gab hn'];rfl
   have h2:atD (w.orders.map aF) l.2=some (aF w.orders[m]):=by rw[hm,cW,Gak,Gab hm'];rfl
   have eb:=pG (gs:=gs) (a:=w.orders[n]) (b:=w.orders[m]);have ev:=KZ (A:=A) (B:=B) (C:=C) (G:=G) (R:=R) (F:=fs.map az) (k:=k) (x9:=x9) c h1 h2 eb (by rw[Gaf];omega);have eg:(if l.1 -r.1<IC gs w.orders[n] w.orders[m] then[D.tup [.str "gap",.int r.2,.int r.1,.int l.2,.int l.1]] else[])=(gpF w.orders gs r l).map az:=by
    unfold gpF;rw[hn,hm,GaL,GaL,Gab hn',Gab hm'];dsimp only;split<;>rfl
   rw[eg,←GaP] at ev;have g1:=Cp w.orders gs r l;obtain⟨y8,y9,e⟩:=su (A:=A) (B:=B) (C:=C) (G:=G) (R:=R) (gs:=gs) (wid:=wid) (k:=k) hr0 hr1 ls (fs++gpF w.orders gs r l) (some (.sh (mk2 l))) (some (.sh (.int (l.1 -r.1)))) (λx hx=>hl x (Gaj _ hx)) (by rw[GaA];omega);refine⟨y8,y9, ?_⟩
   conv=>rhs;unfold kg
   rw[Gag c,Gap,←GaB];have e1:D.tup [.int r.1,.int r.2]=mk2 r:=rfl;have e2:D.tup [.int l.1,.int l.2]=mk2 l:=rfl;rw[e1,e2] at ev;generalize mk2 l=ld at*;simp only[forL,gN,GaU,GaV,Option.bind_some,ev];exact e
theorem IG{e0 e1 e2 e3 e5 e7 x8 x9:Option Slot}{R L:List D}{k:Int}{e' :DL.Env}(hs:slD (some (k+1)) none (.lst R)=some ⟨.tn,.lst L⟩)(h:forL (gN 8) bL L [e0,e1,e2,e3,some (.lok (.lst R)),e5,some (.sh (.int k)),e7,x8,x9]=some (.nx e')):
  cJ [e0,e1,e2,e3,some (.lok (.lst R)),e5,some (.sh (.int k)),e7,x8,x9]=some (.nx e'):=by
 unfold cJ;simp[-forL,hs,h,freed]
theorem Gb(R:List D)(j:Nat):slD (some ((j:Int)+1)) none (.lst R)=some ⟨.tn,.lst (R.drop (j+1))⟩:=by
 show some (⟨.tn,.lst (cutD R (some ((j:Int)+1)) none)⟩:RV)=_;have e:sIx R.length 0 (some ((j:Int)+1))=min (j+1) R.length:=by
  show(if(j:Int)+1<0 then((j:Int)+1+(R.length:Int)).toNat else min ((j:Int)+1).toNat R.length)=_;rw[Gag (by omega)];congr 1
 unfold cutD;have e2:sIx R.length R.length none=R.length:=rfl;rw[e,e2];congr 3;rw[Gbz (by rw[Gcl];omega)];by_cases c:j+1≤R.length
 ·rw[GcL c]
 ·rw[Nat.min_eq_right (by omega),GbT,List.drop_of_length_le (by omega)]
theorem pZ{w:World}{gs:List Tr}{wid:Int}{A B C G:List D}{rows:List (Int×Int)}(hr:∀l∈rows,0≤l.2∧l.2<w.orders.length)(hn:rows.length<64):∀(m j:Nat) (fs:List Flt) (x6 x7 x8 x9:Option Slot),rows.length -j=m→fs.length≤64*j→∃y6 y7 y8 y9,
  forL (gT [6,7]) cJ (fA j ((rows.drop j).map mk2)) [some (.sh (.tup [.tup A,.tup B,.tup C,.tup (w.orders.map aF)])),some (.sh (.tup G)),some (.own (.dT (kvT gs))),some (.sh (.int wid)),some (.lok (.lst (rows.map mk2))),some (.own (.lst (fs.map az))),x6,x7,x8,x9]=
   some (.nx [some (.sh (.tup [.tup A,.tup B,.tup C,.tup (w.orders.map aF)])),some (.sh (.tup G)),some (.own (.dT (kvT gs))),some (.sh (.int wid)),some (.lok (.lst (rows.map mk2))),some (.own (.lst ((fs++cS w.orders gs wid (rows.drop j)).map az))),y6,y7,y8,y9])
 |0,j,fs,x6,x7,x8,x9,hm,hf=>by
  rw[List.drop_of_length_le (by omega)];exact⟨x6,x7,x8,x9,by simp[cS]⟩
 |m+1,j,fs,x6,x7,x8,x9,hm,hf=>by
  have hj:j<rows.length:=by omega
  have ed:rows.drop j=rows[j]::rows.drop (j+1):=GbC hj;have r0:=hr rows[j] (GaD hj);obtain⟨y8,y9,e⟩:=su (w:=w) (gs:=gs) (wid:=wid) (k:=(j:Int)) (A:=A) (B:=B) (C:=C) (G:=G) (R:=rows.map mk2) (r:=rows[j]) r0.1 r0.2 (rows.drop (j+1)) fs x8 x9 (λl hl=>hr l (Gbv hl)) (by rw[Gcl];omega);have lz:=pI w.orders gs wid rows[j] (rows.drop (j+1));rw[Gcl] at lz;obtain⟨z6,z7,z8,z9,e2⟩:=pZ (w:=w) (gs:=gs) (wid:=wid) (A:=A) (B:=B) (C:=C) (G:=G) (rows:=rows) hr hn m (j+1) (fs++kg w.orders gs wid rows[j] (rows.drop (j+1))) (some (.sh (.int (j:Int)))) (some (.sh (mk2 rows[j]))) y8 y9 (by omega) (by rw[GaA];omega);refine⟨z6,z7,z8,z9, ?_⟩;have ev:=IG (Gb (rows.map mk2) j) ((by rw[←GdN];exact e):forL (gN 8) bL ((rows.map mk2).drop (j+1)) _=_);rw[ed,Gap]
  conv=>rhs;unfold cS
  rw[←GaB];show forL (gT [6,7]) cJ (D.tup [.int (j:Int),mk2 rows[j]]::fA (j+1) ((rows.drop (j+1)).map mk2)) _=_;generalize rows[j]=rj at*;generalize (j:Int)=ji at*;generalize mk2 rj=rd at*;simp only[forL,gT,gNs,GaU,GaV,Option.bind_some,ev];exact e2
noncomputable def wide(bs:List Tr):Int:=match bs.map (·.2.2) with
 |[]=>0
 |n::ns=>AS n ns
theorem IH{A B C O G B' R R' F:List D}{kv:List (List Key×D)}{wid:Int}{y6 y7 y8 y9:Option Slot}(hg:fg [.tup C]=some (.dT kv))(zc:C.length<1000)(hw:cF (gN 0) jb (ixE (vE 0) (kE (.int 2))) C [none]=some B')(hm:mmD AS (.int 0) (.lst B')=some ⟨.c,.int wid⟩)(zg:G.length<1000)(hc:cF (gN 0) jb (bM (a5 (ixE (vE 0) (kE (.int 1))) (a5 (ixE (vE 0) (kE (.int 0))) aq))) G [none]=some R)(hs:sortedS [.lst R]=some ⟨.tn,.lst R'⟩)
  (hl:forL (gT [6,7]) cJ (fA 0 R') [some (.sh (.tup [.tup A,.tup B,.tup C,.tup O])),some (.sh (.tup G)),some (.own (.dT kv)),some (.sh (.int wid)),some (.lok (.lst R')),some (.own (.lst [])),none,none,none,none]=some (.nx [some (.sh (.tup [.tup A,.tup B,.tup C,.tup O])),some (.sh (.tup G)),some (.own (.dT kv)),some (.sh (.int wid)),some (.lok (.lst R')),some (.own (.lst F)),y6,y7,y8,y9]))(im:aQ F=true):
  gn [.tup [.tup A,.tup B,.tup C,.tup O],.tup G]=some (.lst F):=by
 have z1:C.length≤16777216:=by omega
 have z2:G.length≤16777216:=by omega
 have rk:kB (.dT kv)=⟨.tn,.dT kv⟩:=rfl;refine bg rfl ?_;unfold iM;refine(av (e:=[some (.sh (.tup [.tup A,.tup B,.tup C,.tup O])),some (.sh (.tup G)),some (.own (.dT kv)),none,none,none,none,none,none,none]) (by simp[bz,hg,rk])).trans ?_;refine(av (e:=[some (.sh (.tup [.tup A,.tup B,.tup C,.tup O])),some (.sh (.tup G)),some (.own (.dT kv)),some (.sh (.int wid)),none,none,none,none,none,none]) (by simp[-cF,ai,DL.compEnv,fX,hw,hm,z1])).trans ?_;refine(av (e:=[some (.sh (.tup [.tup A,.tup B,.tup C,.tup O])),some (.sh (.tup G)),some (.own (.dT kv)),some (.sh (.int wid)),some (.own (.lst R')),none,none,none,none,none]) (by simp[-cF,ai,DL.compEnv,fX,hc,hs,z2])).trans ?_;refine(av (e:=[some (.sh (.tup [.tup A,.tup B,.tup C,.tup O])),some (.sh (.tup G)),some (.own (.dT kv)),some (.sh (.int wid)),some (.own (.lst R')),some (.own (.lst [])),none,none,none,none]) (by simp[ai])).trans ?_;refine(av (e:=[some (.sh (.tup [.tup A,.tup B,.tup C,.tup O])),some (.sh (.tup G)),some (.own (.dT kv)),some (.sh (.int wid)),some (.own (.lst R')),some (.own (.lst F)),y6,y7,y8,y9]) (by simp[-forL,hl,freed])).trans ?_;simp[im]
noncomputable def gvR(gv:List Tr):List (Int×Int):=gv.map λt=>(t.2.1,t.1)
theorem Na{w:World}{gv:List Tr}(W:bJ w)(hg:fV w.orders.length gv)(hl:gv.length<64):∃rows:List (Int×Int),cT ((gvR gv).map mk2)=rows.map mk2∧rows.Perm (gvR gv)∧(rows.Pairwise λa b=>a.1≤b.1)∧gn [bA w,.tup (gv.map trD)]=some (.lst ((cS w.orders (w.cU.foldl bS []) (wide w.cU) rows).map az)):=by
 obtain⟨rows,r1,r2,r3⟩:=A8 (gvR gv);refine⟨rows,r1,r2,r3, ?_⟩;have lr:rows.length=gv.length:=by rw[r2.length_eq];simp[gvR]
 have hr:∀l∈rows,0≤l.2∧l.2<w.orders.length:=λl hl=>by
  obtain⟨t,ht,rfl⟩:=GaF.mp (r2.mem_iff.mp hl);exact hg t ht
 have b12:=W.b12;have hw:=kc (g:=gN 0) (f:=ixE (vE 0) (kE (.int 2))) trD (λenv=>∃y,env=[y]) (λt=>D.int t.2.2) w.cU [none] ⟨none,rfl⟩ (by
  rintro t ht env ⟨y,rfl⟩;exact⟨_,rfl,⟨_,rfl⟩,.c,by simp[trD],rfl⟩)
 have hc:=kc (g:=gN 0) (f:=bM (a5 (ixE (vE 0) (kE (.int 1))) (a5 (ixE (vE 0) (kE (.int 0))) aq))) trD (λenv=>∃y,env=[y]) (λt=>mk2 (t.2.1,t.1)) gv [none] ⟨none,rfl⟩ (by
  rintro t ht env ⟨y,rfl⟩;exact⟨_,rfl,⟨_,rfl⟩,.c,by simp[trD,mk2,ai],rfl⟩)
 have e1:gv.map (λt=>mk2 (t.2.1,t.1))=(gvR gv).map mk2:=by unfold gvR;rw[GaO];rfl
 have e2:w.cU.map (λt=>D.int t.2.2)=(w.cU.map (·.2.2)).map D.int:=by rw[GaO];rfl
 rw[e1] at hc;rw[e2] at hw;have hm:mmD AS (.int 0) (.lst ((w.cU.map (·.2.2)).map D.int))=some ⟨.c,.int (wide w.cU)⟩:=by
  unfold mmD mQ wide;simp only[Option.bind_some,Dw];cases w.cU.map (·.2.2)<;>rfl
 have hs:=si (ms:=gvR gv) (by simp[gvR];exact hl);rw[r1] at hs;obtain⟨y6,y7,y8,y9,e⟩:=pZ (w:=w) (gs:=w.cU.foldl bS []) (wid:=wide w.cU) (A:=w.cq.map cR) (B:=w.aB.map b7) (C:=w.cU.map trD) (G:=gv.map trD) (rows:=rows) hr (by omega) _ 0 [] none none none none rfl (by simp);rw[GbL,List.nil_append] at e;exact IH (KS b12) (by rw[Gaf];omega) hw hm (by rw[Gaf];omega) hc hs e (gJ _)
noncomputable abbrev Tg:=(Int×Int)×List (Int×Int)
noncomputable def lY(st:List Tg):Rws:=st.map λe=>([Sum.inl e.1.1,Sum.inl e.1.2],D.lst (e.2.map mk2))
noncomputable def tk(os:List Order)(t:Tr):Int×Int:=match os[t.1.toNat]? with
 |some o=>(o.aY,o.br)
 |none=>(0,0)
noncomputable def Cq(st:List Tg)(k m:Int×Int):List Tg:=match st.findIdx? (λe=>decide (e.1=k)) with
 |some j=>st.set j (k,((st[j]?.map (·.2)).getD [])++[m])
 |none=>st++[(k,[m])]
theorem Gd(k:Int×Int)(e:Tg):decide (([Sum.inl e.1.1,Sum.inl e.1.2]:List Key)=[Sum.inl k.1,Sum.inl k.2])=decide (e.1=k):=by
 rw[decide_eq_decide];obtain⟨⟨a,b⟩,l⟩:=e;obtain⟨c,d⟩:=k;simp
theorem Ge{st:List Tg}{k m:Int×Int}(hz:st.length<1000)(hm:∀e∈st,e.2.length<1000):ED (lY st) [Sum.inl k.1,Sum.inl k.2] (mk2 m)=some (lY (Cq st k m)):=by
 unfold ED Cq;have z:(lY st).length<ai:=by unfold lY ai;rw[Gaf];omega
 rw[Gai z];have ef:(lY st).findIdx? (λp=>decide (p.1=[Sum.inl k.1,Sum.inl k.2]))=st.findIdx? (λe=>decide (e.1=k)):=by
  unfold lY;rw[GdS];congr 1
  funext e
  exact Gd k e
 rw[ef];cases h:st.findIdx? (λe=>decide (e.1=k)) with
 |none=>
  dsimp only;unfold lY;rw[GaP]
  rfl
 |some j=>
  obtain⟨hj,_⟩:=Gds.mp h;have e1:(lY st)[j]? =some ([Sum.inl st[j].1.1,Sum.inl st[j].1.2],D.lst (st[j].2.map mk2)):=by
   unfold lY;rw[Gak,Gab hj]
   rfl
  have z2:(st[j].2.map mk2).length<ai:=by
   have:=hm st[j] (GaD hj);rw[Gaf];unfold ai;omega
  simp only[e1];rw[Gai z2];rw[Gab hj];unfold lY;rw[List.map_set];simp
structure sv(os:List Order)(pre:List Tr)(st:List Tg):Prop where
 nd:(st.map (·.1)).Nodup
 ms:∀e∈st,e.2=(pre.filter λt=>decide (tk os t=e.1)).map λt=>(t.2.1,t.2.2)
 cov:∀t∈pre,tk os t∈st.map (·.1)
 back:∀e∈st,∃t∈pre,tk os t=e.1
 ln:st.length≤pre.length
theorem sv.step{os:List Order}{pre:List Tr}{st:List Tg}(I:sv os pre st)(t:Tr):sv os (pre++[t]) (Cq st (tk os t) (t.2.1,t.2.2)):=by
 obtain⟨nd,ms,cov,back,ln⟩:=I;generalize hk:tk os t=k;have flt:∀q:Int×Int,((pre++[t]).filter λt=>decide (tk os t=q))=(pre.filter λt=>decide (tk os t=q))++(if k=q then[t] else[]):=λq=>by
  rw[GcM];congr 1;by_cases c:k=q
  ·rw[Gai c];simp[hk,c]
  ·rw[Gag c];simp[hk,c]
 unfold Cq;cases h:st.findIdx? (λe=>decide (e.1=k)) with
 |none=>
  have no:=List.findIdx?_eq_none_iff.mp h;have nk:k∉st.map (·.1):=λhm=>by
   obtain⟨e,he,ek⟩:=GaF.mp hm;have:=no e he;simp[ek] at this
  have pre0:(pre.filter λt=>decide (tk os t=k))=[]:=by
   rw[List.filter_eq_nil_iff];intro x hx;have:=cov x hx;simp;intro q;rw[q] at this;exact nk this
  dsimp only;refine⟨?_, ?_, ?_, ?_,by simp;omega⟩
  ·rw[GaP,Gch];refine⟨nd,by simp, ?_⟩;intro a ha b hb;simp at hb;rw[hb]
   exactλq=>nk (q▸ha)
  ·intro e he;rcases Gax.mp he with he|he
   ·rw[flt,Gag (λq=>nk (GaF.mpr ⟨e,he,q.symm⟩)),Gbn];exact ms e he
   ·simp at he;rw[he,flt,pre0];simp
  ·intro x hx;rw[GaP];rcases Gax.mp hx with hx|hx
   ·exact Gcw _ (cov x hx)
   ·simp at hx;rw[hx,hk];simp
  ·intro e he;rcases Gax.mp he with he|he
   ·obtain⟨x,hx,q⟩:=back e he;exact⟨x,Gcw _ hx,q⟩
   ·simp at he;rw[he];exact⟨t,by simp,hk⟩
 |some j=>
  obtain⟨hj,hp,_⟩:=Gds.mp h;have ek:st[j].1=k:=GaE hp;dsimp only;rw[Gab hj];have keys:(st.set j (k,(((some st[j]).map (·.2)).getD [])++[(t.2.1,t.2.2)])).map (·.1)=st.map (·.1):=by
   rw[List.map_set];have:k=(st.map (·.1))[j]'(by simpa using hj):=by rw[Gcm,ek]
   simp only
   conv=>lhs;arg 3;rw[this]
   exact List.set_getElem_self _
  have mem:∀e∈st.set j (k,(((some st[j]).map (·.2)).getD [])++[(t.2.1,t.2.2)]),e=(k,st[j].2++[(t.2.1,t.2.2)])∨(e∈st∧e.1≠k):=by
   intro e he;obtain⟨i,hi,rfl⟩:=GdI he;have hi' :i<st.length:=by simpa using hi
   by_cases c:j=i
   ·subst c
    left
    simp
   ·right
    rw[List.getElem_set_ne c];refine⟨GaD hi',λq=>c ?_⟩;have e1:(st.map (·.1))[j]'(by simpa using hj)=(st.map (·.1))[i]'(by simpa using hi'):=by rw[Gcm,Gcm,ek,q]
    exact(List.getElem_inj nd).mp e1
  refine⟨by rw[keys];exact nd, ?_, ?_, ?_,by simp;omega⟩
  ·intro e he;rcases mem e he with q| ⟨q1,q2⟩
   ·rw[q];have:=ms st[j] (GaD hj);rw[ek] at this;rw[flt,Gai rfl,GaP,←this]
    rfl
   ·rw[flt,Gag (λz=>q2 z.symm),Gbn];exact ms e q1
  ·intro x hx;rw[keys];rcases Gax.mp hx with hx|hx
   ·exact cov x hx
   ·simp at hx;rw[hx,hk,←ek];exact GaF.mpr ⟨_,GaD hj,rfl⟩
  ·intro e he;rcases mem e he with q| ⟨q1,q2⟩
   ·rw[q];exact⟨t,by simp,hk⟩
   ·obtain⟨x,hx,q⟩:=back e q1;exact⟨x,Gcw _ hx,q⟩
theorem sv.Nb{os:List Order}{pre:List Tr}{st:List Tg}(I:sv os pre st){e:Tg}(he:e∈st):e.2.length≤pre.length:=by
 rw[I.ms e he,Gaf];exact GcR _ _
theorem II{A B C O G:List D}{rows rows' :Rws}{OD:D}{n h a g s:Int}{x4:Option Slot}(hO:atD O n=some OD)(im:OD.imm=true)(h1:ixD OD (.int 1)=some (.int g))(h2:ixD OD (.int 2)=some (.int s))(hs:ED rows [Sum.inl g,Sum.inl s] (.tup [.int h,.int a])=some rows'):
  bU [some (.sh (.tup [.tup A,.tup B,.tup C,.tup O])),some (.sh (.tup G)),none,some (.sh (.tup [.int n,.int h,.int a])),x4] rows=some ([some (.sh (.tup [.tup A,.tup B,.tup C,.tup O])),some (.sh (.tup G)),none,some (.sh (.tup [.int n,.int h,.int a])),some (.sh OD)],rows'):=by
 unfold bU;simp[hO,im,h1,h2,hs,ai,keysOf,keyOf,BM]
theorem ux{w:World}(W:bJ w){A B C G:List D}:∀(gv pre:List Tr) (st:List Tg) (x3 x4:Option Slot),fV w.orders.length gv→sv w.orders pre st→pre.length+gv.length<64→∃y3 y4 st',sv w.orders (pre++gv) st' ∧
  nY 3 bU (gv.map trD) [some (.sh (.tup [.tup A,.tup B,.tup C,.tup (w.orders.map aF)])),some (.sh (.tup G)),none,x3,x4] (lY st)=some ([some (.sh (.tup [.tup A,.tup B,.tup C,.tup (w.orders.map aF)])),some (.sh (.tup G)),none,y3,y4],lY st')
 |[],pre,st,x3,x4,_,I,_=> ⟨x3,x4,st,by rw[Gbn];exact I,by simp⟩
 |t::gv,pre,st,x3,x4,hg,I,hl=>by
  rw[GaC] at hl;have g0:=hg t Gao;obtain⟨n,hn⟩:=GaG g0.1;have hn' :n<w.orders.length:=by omega
  have hO:atD (w.orders.map aF) t.1=some (aF w.orders[n]):=by
   rw[hn,cW,Gak,Gab hn'];rfl
  have ok:=W.oo w.orders[n] (GaD hn');have ek:tk w.orders t=(w.orders[n].aY,w.orders[n].br):=by
   unfold tk;rw[hn,GaL,Gab hn']
  have ln:=I.ln;have sd:=Ge (st:=st) (k:=tk w.orders t) (m:=(t.2.1,t.2.2)) (by omega) (λe he=>by have:=I.Nb he;omega);have ev:=II (A:=A) (B:=B) (C:=C) (G:=G) (n:=t.1) (h:=t.2.1) (a:=t.2.2) (g:=w.orders[n].aY) (s:=w.orders[n].br) (x4:=x4) hO (ip _ ok.ti) rfl rfl (by rw[ek] at sd;exact sd);obtain⟨y3,y4,st',I',e⟩:=ux W (A:=A) (B:=B) (C:=C) (G:=G) gv (pre++[t]) _ (some (.sh (trD t))) (some (.sh (aF w.orders[n]))) (λx hx=>hg x (Gaj _ hx)) (I.step t) (by simp;omega);refine⟨y3,y4,st',by rw[GaB] at I';exact I', ?_⟩;rw[Gap];have td:D.tup [.int t.1,.int t.2.1,.int t.2.2]=trD t:=rfl;rw[td] at ev;rw[ek] at e;generalize trD t=d at*;simp only[nY,GaU,GaV,ev,Option.bind_some];exact e
theorem DW{A B C O G:List D}{kv:Rws}{y3 y4:Option Slot}(ig:aQ G=true)(h:nY 3 bU G [some (.sh (.tup [.tup A,.tup B,.tup C,.tup O])),some (.sh (.tup G)),none,none,none] []=some ([some (.sh (.tup [.tup A,.tup B,.tup C,.tup O])),some (.sh (.tup G)),none,y3,y4],kv)):cP [.tup [.tup A,.tup B,.tup C,.tup O],.tup G]=some (.dT kv):=by
 refine bg rfl ?_;unfold dI;simp[-nY,bz,ig,h]
theorem IJ{w:World}{gv:List Tr}(W:bJ w)(hg:fV w.orders.length gv)(hl:gv.length<64):∃st,sv w.orders gv st∧cP [bA w,.tup (gv.map trD)]=some (.dT (lY st)):=by
 obtain⟨y3,y4,st,I,e⟩:=ux W (A:=w.cq.map cR) (B:=w.aB.map b7) (C:=w.cU.map trD) (G:=gv.map trD) gv [] [] none none hg ⟨by simp,by simp,by simp,by simp,by simp⟩ (by simpa using hl);exact⟨st,by simpa using I,DW (jI gv) e⟩
noncomputable def lh(ns:List Int):List Int:=(cT ((ddF ns).map D.int)).map unI
theorem kh(ns:List Int):(lh ns).Pairwise (λa b=>a<b)∧(∀x,x∈lh ns↔x∈ns)∧(lh ns).length≤ns.length:=by
 obtain⟨S,h1,h2,h3,h4⟩:=G7 ns;have e:lh ns=S:=by
  unfold lh;rw[h1,GaO]
  conv=>rhs;rw[←Gcz S]
  exact GaJ λ_ _=>rfl
 rw[e];exact⟨h2,h3,h4⟩
noncomputable def lj:Cap→Int→Int→Bool
 | .flat H _,h,a=>decide (h -H<a)&&decide (a≤h)
 | .kilo H _ _,h,a=>decide (h -H<a)&&decide (a≤h)
 | .ever _,h,a=>decide (a≤h)
noncomputable def k4(c:Cap)(ms:List (Int×Int))(h:Int):Int:=(ms.map λp=>if lj c h p.1 then p.2 else 0).sum
noncomputable def lZ:Cap→D
 | .flat H _=> .int H
 | .kilo H _ _=> .int H
 | .ever _=> .non
theorem Nc(ms:List (Int×Int)):∃H:Int,∀p∈ms,∀q∈ms,q.1 -H<p.1:=by
 have:∃B:Int,∀p∈ms,-B<p.1∧p.1<B:=by
  induction ms with
  |nil=>exact⟨0,by simp⟩
  |cons p ms ih=>
   obtain⟨B,hB⟩:=ih;refine⟨(if B<0 then -B else B)+(if p.1<0 then -p.1 else p.1)+1, ?_⟩;intro q hq;rcases Gay.mp hq with rfl|hq
   ·split<;>split<;>omega
   ·have:=hB q hq;split<;>split<;>omega
 obtain⟨B,hB⟩:=this;refine⟨2*B,λp hp q hq=> ?_⟩;have:=hB p hp;have:=hB q hq;omega
theorem Gf{c:Cap}{ms:List (Int×Int)}(ok:mV c)(hl:ms.length<64):jZ [.lst (ms.map mk2),lZ c]=some (.lst (((lh (ms.map (·.1))).map λh=>(h,k4 c ms h)).map mk2)):=by
 obtain⟨h1,h2,h3⟩:=kh (ms.map (·.1));have fin:∀(H:Int),(∀h,h∈ms.map (·.1)→∀p∈ms,wt H h p=if lj c h p.1 then p.2 else 0)→G8 ms H (lh (ms.map (·.1)))=(lh (ms.map (·.1))).map λh=>(h,k4 c ms h):=λH e=>by
  unfold G8;refine GaJ λh hh=> ?_;unfold W k4;rw[GaJ λp hp=>e h ((h2 h).mp hh) p hp]
 have lim:∀(H h:Int) (p:Int×Int),wt H h p=if(decide (h -H<p.1)&&decide (p.1≤h)) then p.2 else 0:=λH h p=>by
  unfold wt;by_cases c1:h -H<p.1<;>by_cases c2:p.1≤h<;>simp[c1,c2]
 cases c with
 |flat H t=>
  rw[←fin H (λh _ p _=>lim H h p)];exact sr (.inl ⟨rfl,ok.1⟩) (List.Perm.refl _) hl h1 h2
 |kilo H t p=>
  rw[←fin H (λh _ p _=>lim H h p)];exact sr (.inl ⟨rfl,ok.1⟩) (List.Perm.refl _) hl h1 h2
 |ever t=>
  obtain⟨H,hH⟩:=Nc ms;rw[←fin H (λh hh p hp=>by
   obtain⟨q,hq,rfl⟩:=GaF.mp hh;rw[lim];have:=hH p hp q hq;simp[lj,this])]
  exact sr (.inr ⟨rfl,hH⟩) (List.Perm.refl _) hl h1 h2
noncomputable def dA(ws:List Tr)(c:Cap)(g s k:Int)(r:Int×Int):List Flt:=match dz c (wgt g r.1 ws none) with
 |some top=>if r.2>top then[("cap",[g,s,k,r.1,r.2,top])] else[]
 |none=>[]
noncomputable def ju(ws:List Tr)(g s k:Int)(c:Cap)(ms:List (Int×Int)):List Flt:=((lh (ms.map (·.1))).map λh=>(h,k4 c ms h)).flatMap (dA ws c g s k)
noncomputable def gA(ws:List Tr)(g s:Int)(ms:List (Int×Int)):Nat→List Cap→List Flt
 |_,[]=>[]
 |k,c::cs=>ju ws g s (k:Int) c ms++gA ws g s ms (k+1) cs
theorem kP(ws:List Tr)(c:Cap)(g s k:Int)(r:Int×Int):(dA ws c g s k r).length≤1:=by
 unfold dA;split
 ·split<;>simp
 ·simp
theorem Ac{α β:Type}(f:α→List β)(h:∀a,(f a).length≤1):∀l:List α,(l.flatMap f).length≤l.length
 |[]=>by simp
 |a::l=>by
  have h1:=h a;have h2:=Ac f h l;simp;simp at h2;omega
theorem sC(ws:List Tr)(g s k:Int)(c:Cap)(ms:List (Int×Int)):(ju ws g s k c ms).length≤ms.length:=by
 unfold ju;have h1:=Ac _ (kP ws c g s k) ((lh (ms.map (·.1))).map λh=>(h,k4 c ms h));have h2:=(kh (ms.map (·.1))).2.2;rw[Gaf] at h1 h2;omega
theorem pJ(ws:List Tr)(g s:Int)(ms:List (Int×Int)):∀(k:Nat) (cs:List Cap),(gA ws g s ms k cs).length≤cs.length*ms.length
 |_,[]=>by simp[gA]
 |k,c::cs=>by
  have h1:=sC ws g s (k:Int) c ms;have h2:=pJ ws g s ms (k+1) cs;unfold gA;rw[GaA,GaC,GdU];omega
noncomputable def DX(to:Option Int)(g s k r1 r2:Int):List D:=match to with
 |some top=>if r2>top then[D.tup [.str "cap",.int g,.int s,.int k,.int r1,.int r2,.int top]] else[]
 |none=>[]
theorem L0{e0 e2 e5 e9 x11:Option Slot}{W F:List D}{T0:D}{g s k r1 r2:Int}{cd:D}{wo to:Option Int}(ew:i9 [.tup W,.int g,.int r1]=some (fK wo))(eb:jD [cd,fK wo]=some (fK to))(hz:F.length<100000):
  cH [e0,some (.sh (.tup W)),e2,some (.own (.lst F)),some (.sh (.tup [.int g,.int s])),e5,some (.sh (.int g)),some (.sh (.int k)),some (.sh cd),e9,some (.sh (.tup [.int r1,.int r2])),x11]=
   some (.nx [e0,some (.sh (.tup W)),e2,some (.own (.lst (F++DX to g s k r1 r2))),some (.sh (.tup [.int g,.int s])),e5,some (.sh (.int g)),some (.sh (.int k)),some (.sh cd),e9,some (.sh (.tup [.int r1,.int r2])),some (.sh (fK to))]):=by
 have z:F.length<16777216:=by omega
 have rw' :=c0 (gy wo);have rt:=c0 (gy to);unfold cH;refine(av (e:=[e0,some (.sh (.tup W)),e2,some (.own (.lst F)),some (.sh (.tup [.int g,.int s])),e5,some (.sh (.int g)),some (.sh (.int k)),some (.sh cd),e9,some (.sh (.tup [.int r1,.int r2])),some (.sh (fK to))]) (by simp[ew,rw',eb,rt])).trans ?_;cases to with
 |none=>simp[iE,cE,DX]
 |some top=>
  by_cases c:r2>top
  ·have c' :top<r2:=c;simp[iE,cE,c',z,ai,DX]
  ·have c' :¬top<r2:=c;simp[iE,cE,c',DX]
theorem Ad{ws:List Tr}{c:Cap}{g s k:Int}{e0 e2 e5 e9:Option Slot}(ok:mV c):∀(rs:List (Int×Int)) (fs:List Flt) (x10 x11:Option Slot),fs.length+rs.length<100000→∃y10 y11,
  forL (gN 10) cH (rs.map mk2) [e0,some (.sh (.tup (ws.map trD))),e2,some (.own (.lst (fs.map az))),some (.sh (.tup [.int g,.int s])),e5,some (.sh (.int g)),some (.sh (.int k)),some (.sh (bw c)),e9,x10,x11]=
   some (.nx [e0,some (.sh (.tup (ws.map trD))),e2,some (.own (.lst ((fs++rs.flatMap (dA ws c g s k)).map az))),some (.sh (.tup [.int g,.int s])),e5,some (.sh (.int g)),some (.sh (.int k)),some (.sh (bw c)),e9,y10,y11])
 |[],fs,x10,x11,_=> ⟨x10,x11,by simp⟩
 |r::rs,fs,x10,x11,hz=>by
  rw[GaC] at hz;have ew:=lW (ws:=ws) (g:=g) (h:=r.1);have eb:=Bk (c:=c) (w:=wgt g r.1 ws none) ok;have ev:=L0 (e0:=e0) (e2:=e2) (e5:=e5) (e9:=e9) (x11:=x11) (F:=fs.map az) (T0:= .non) (s:=s) (k:=k) (r2:=r.2) ew eb (by rw[Gaf];omega);have eg:DX (dz c (wgt g r.1 ws none)) g s k r.1 r.2=(dA ws c g s k r).map az:=by
   unfold dA DX;cases dz c (wgt g r.1 ws none) with
   |none=>rfl
   |some top=>
    dsimp only;split<;>rfl
  rw[eg,←GaP] at ev;have l1:=kP ws c g s k r;obtain⟨y10,y11,e⟩:=Ad (ws:=ws) (c:=c) (g:=g) (s:=s) (k:=k) (e0:=e0) (e2:=e2) (e5:=e5) (e9:=e9) ok rs (fs++dA ws c g s k r) (some (.sh (mk2 r))) (some (.sh (fK (dz c (wgt g r.1 ws none))))) (by rw[GaA];omega);refine⟨y10,y11, ?_⟩;rw[Gap,Gci,←GaB];have e2:D.tup [.int r.1,.int r.2]=mk2 r:=rfl;rw[e2] at ev;generalize mk2 r=rd at*;generalize bw c=cd at*;simp only[forL,gN,GaU,GaV,Option.bind_some,ev];exact e
theorem L1{e0 e1 e2 e3 e4 e6 e7 x9 x10 x11:Option Slot}{M R:List D}{c:Cap}{e' :DL.Env}(hs:jZ [.lst M,lZ c]=some (.lst R))(h:forL (gN 10) cH R [e0,e1,e2,e3,e4,some (.sh (.lst M)),e6,e7,some (.sh (bw c)),some (.sh (lZ c)),x10,x11]=some (.nx e')):
  cI [e0,e1,e2,e3,e4,some (.sh (.lst M)),e6,e7,some (.sh (bw c)),x9,x10,x11]=some (.nx e'):=by
 have rl:kB (.lst R)=⟨.tn,.lst R⟩:=rfl;unfold cI;refine(av (e:=[e0,e1,e2,e3,e4,some (.sh (.lst M)),e6,e7,some (.sh (bw c)),some (.sh (lZ c)),x10,x11]) ?_).trans ?_
 ·cases c<;>simp[bw,lZ,eqB]
 ·have e1' :∀d:D,d=lZ c→gZ none (lu (aH jZ (a5 (vE 5) (a5 (vE 9) aq)))) (gN 10) cH [e0,e1,e2,e3,e4,some (.sh (.lst M)),e6,e7,some (.sh (bw c)),some (.sh d),x10,x11]=some (.nx e'):=λd hd=>by
   rw[←hd] at hs h;generalize bw c=cd at*;simp[-forL,hs,h,freed]
  exact e1' _ rfl
theorem uy{ws:List Tr}{g s:Int}{ms:List (Int×Int)}{e0 e2:Option Slot}(hm:ms.length<64):∀(cs:List Cap) (k:Nat) (fs:List Flt) (x7 x8 x9 x10 x11:Option Slot),(∀c∈cs,mV c)→fs.length+cs.length*ms.length<50000→∃y7 y8 y9 y10 y11,
  forL (gT [7,8]) cI (fA k (cs.map bw)) [e0,some (.sh (.tup (ws.map trD))),e2,some (.own (.lst (fs.map az))),some (.sh (.tup [.int g,.int s])),some (.sh (.lst (ms.map mk2))),some (.sh (.int g)),x7,x8,x9,x10,x11]=
   some (.nx [e0,some (.sh (.tup (ws.map trD))),e2,some (.own (.lst ((fs++gA ws g s ms k cs).map az))),some (.sh (.tup [.int g,.int s])),some (.sh (.lst (ms.map mk2))),some (.sh (.int g)),y7,y8,y9,y10,y11])
 |[],k,fs,x7,x8,x9,x10,x11,_,_=> ⟨x7,x8,x9,x10,x11,by simp[gA]⟩
 |c::cs,k,fs,x7,x8,x9,x10,x11,ok,hz=>by
  have ok0:=ok c Gao;rw[GaC,GdU] at hz;have es:=Gf (ms:=ms) ok0 hm;have hl:=(kh (ms.map (·.1))).2.2;rw[Gaf] at hl;obtain⟨y10,y11,e⟩:=Ad (ws:=ws) (c:=c) (g:=g) (s:=s) (k:=(k:Int)) (e0:=e0) (e2:=e2) (e5:=some (.sh (.lst (ms.map mk2)))) (e9:=some (.sh (lZ c))) ok0 ((lh (ms.map (·.1))).map λh=>(h,k4 c ms h)) fs x10 x11 (by rw[Gaf];omega);have ev:=L1 (x9:=x9) es e;have lz:=sC ws g s (k:Int) c ms;obtain⟨z7,z8,z9,z10,z11,e'⟩:=uy (ws:=ws) (g:=g) (s:=s) (ms:=ms) (e0:=e0) (e2:=e2) hm cs (k+1) (fs++ju ws g s (k:Int) c ms) (some (.sh (.int (k:Int)))) (some (.sh (bw c))) (some (.sh (lZ c))) y10 y11 (λx hx=>ok x (Gaj _ hx)) (by rw[GaA];omega);refine⟨z7,z8,z9,z10,z11, ?_⟩;rw[Gap]
  conv=>rhs;unfold gA
  rw[←GaB];show forL (gT [7,8]) cI (D.tup [.int (k:Int),bw c]::fA (k+1) (cs.map bw)) _=_;unfold ju at e' ⊢;generalize (k:Int)=ki at*;generalize bw c=cd at*;simp only[forL,gT,gNs,GaU,GaV,Option.bind_some,ev];exact e'
noncomputable def tgF(ss:List jt)(ws:List Tr)(e:Tg):List Flt:=gA ws e.1.1 e.1.2 e.2 0 ((ss[e.1.2.toNat]?.map (·.aO)).getD [])
theorem Nd{A B C O W M Cs F F' :List D}{e2 x6 x7 x8 x9 x10 x11 y7 y8 y9 y10 y11:Option Slot}{g s:Int}{nm sz yg:D}(hS:atD B s=some (.tup [nm,sz,.tup Cs,yg]))
  (h:forL (gT [7,8]) cI (fA 0 Cs) [some (.sh (.tup [.tup A,.tup B,.tup C,.tup O])),some (.sh (.tup W)),e2,some (.own (.lst F)),some (.sh (.tup [.int g,.int s])),some (.sh (.lst M)),some (.sh (.int g)),x7,x8,x9,x10,x11]=some (.nx [some (.sh (.tup [.tup A,.tup B,.tup C,.tup O])),some (.sh (.tup W)),e2,some (.own (.lst F')),some (.sh (.tup [.int g,.int s])),some (.sh (.lst M)),some (.sh (.int g)),y7,y8,y9,y10,y11])):
  dC [some (.sh (.tup [.tup A,.tup B,.tup C,.tup O])),some (.sh (.tup W)),e2,some (.own (.lst F)),some (.sh (.tup [.int g,.int s])),some (.sh (.lst M)),x6,x7,x8,x9,x10,x11]=some (.nx [some (.sh (.tup [.tup A,.tup B,.tup C,.tup O])),some (.sh (.tup W)),e2,some (.own (.lst F')),some (.sh (.tup [.int g,.int s])),some (.sh (.lst M)),some (.sh (.int g)),y7,y8,y9,y10,y11]):=by
 unfold dC;refine(av (e:=[some (.sh (.tup [.tup A,.tup B,.tup C,.tup O])),some (.sh (.tup W)),e2,some (.own (.lst F)),some (.sh (.tup [.int g,.int s])),some (.sh (.lst M)),some (.sh (.int g)),x7,x8,x9,x10,x11]) (by simp)).trans ?_;simp[-forL,-fA,hS,h,freed]
theorem Cr{w:World}(W:bJ w){ws:List Tr}{A C O:List D}{e2:Option Slot}:∀(st:List Tg) (fs:List Flt) (x4 x5 x6 x7 x8 x9 x10 x11:Option Slot),(∀e∈st,0≤e.1.2∧e.1.2<w.aB.length∧e.2.length<64)→fs.length+st.length*256<40000→∃y4 y5 y6 y7 y8 y9 y10 y11,
  forL (gT [4,5]) dC (bN (lY st)) [some (.sh (.tup [.tup A,.tup (w.aB.map b7),.tup C,.tup O])),some (.sh (.tup (ws.map trD))),e2,some (.own (.lst (fs.map az))),x4,x5,x6,x7,x8,x9,x10,x11]=
   some (.nx [some (.sh (.tup [.tup A,.tup (w.aB.map b7),.tup C,.tup O])),some (.sh (.tup (ws.map trD))),e2,some (.own (.lst ((fs++st.flatMap (tgF w.aB ws)).map az))),y4,y5,y6,y7,y8,y9,y10,y11])
 |[],fs,x4,x5,x6,x7,x8,x9,x10,x11,_,_=> ⟨x4,x5,x6,x7,x8,x9,x10,x11,by simp[lY,bN]⟩
 |e::st,fs,x4,x5,x6,x7,x8,x9,x10,x11,he,hz=>by
  rw[GaC,GdU] at hz;obtain⟨s0,s1,ml⟩:=he e Gao;obtain⟨n,hn⟩:=GaG s0;have hn' :n<w.aB.length:=by omega
  have hS:atD (w.aB.map b7) e.1.2=some (.tup [.str w.aB[n].name,.tup ((w.aB[n].part::w.aB[n].more).map .int),.tup (w.aB[n].aO.map bw),.int w.aB[n].young]):=by
   rw[hn,cW,Gak,Gab hn'];rfl
  have so:=W.so w.aB[n] (GaD hn');have et:tgF w.aB ws e=gA ws e.1.1 e.1.2 e.2 0 w.aB[n].aO:=by
   unfold tgF;rw[hn,GaL,Gab hn']
   rfl
  have cl:=so.cl;have lz:=pJ ws e.1.1 e.1.2 e.2 0 w.aB[n].aO;have lz2:w.aB[n].aO.length*e.2.length≤4*64:=Nat.mul_le_mul cl (by omega);obtain⟨y7,y8,y9,y10,y11,ec⟩:=uy (ws:=ws) (g:=e.1.1) (s:=e.1.2) (ms:=e.2) (e0:=some (.sh (.tup [.tup A,.tup (w.aB.map b7),.tup C,.tup O]))) (e2:=e2) ml w.aB[n].aO 0 fs x7 x8 x9 x10 x11 so.ok (by omega);have ev:=Nd (x6:=x6) hS ec;rw[←et] at ev lz;obtain⟨z4,z5,z6,z7,z8,z9,z10,z11,e'⟩:=Cr W (ws:=ws) (A:=A) (C:=C) (O:=O) (e2:=e2) st (fs++tgF w.aB ws e) (some (.sh (.tup [.int e.1.1,.int e.1.2]))) (some (.sh (.lst (e.2.map mk2)))) (some (.sh (.int e.1.1))) y7 y8 y9 y10 y11 (λx hx=>he x (Gaj _ hx)) (by rw[GaA];omega);refine⟨z4,z5,z6,z7,z8,z9,z10,z11, ?_⟩;rw[Gci,←GaB];have ei:bN (lY (e::st))=D.tup [.tup [.int e.1.1,.int e.1.2],.lst (e.2.map mk2)]::bN (lY st):=rfl;rw[ei];generalize e.2.map mk2=M at*;generalize w.aB.map b7=SS at*;simp only[forL,gT,gNs,GaU,GaV,Option.bind_some,ev];exact e'
theorem IK{A B C O W G F:List D}{kv:Rws}{y4 y5 y6 y7 y8 y9 y10 y11:Option Slot}(hm:cP [.tup [.tup A,.tup B,.tup C,.tup O],.tup G]=some (.dT kv))
  (h:forL (gT [4,5]) dC (bN kv) [some (.sh (.tup [.tup A,.tup B,.tup C,.tup O])),some (.sh (.tup W)),some (.sh (.tup G)),some (.own (.lst [])),none,none,none,none,none,none,none,none]=some (.nx [some (.sh (.tup [.tup A,.tup B,.tup C,.tup O])),some (.sh (.tup W)),some (.sh (.tup G)),some (.own (.lst F)),y4,y5,y6,y7,y8,y9,y10,y11]))(im:aQ F=true):
  gm [.tup [.tup A,.tup B,.tup C,.tup O],.tup W,.tup G]=some (.lst F):=by
 have rk:kB (.dT kv)=⟨.tn,.dT kv⟩:=rfl;refine bg rfl ?_;unfold iL;refine(av (e:=[some (.sh (.tup [.tup A,.tup B,.tup C,.tup O])),some (.sh (.tup W)),some (.sh (.tup G)),some (.own (.lst [])),none,none,none,none,none,none,none,none]) (by simp[bz,ai])).trans ?_;refine(av (e:=[some (.sh (.tup [.tup A,.tup B,.tup C,.tup O])),some (.sh (.tup W)),some (.sh (.tup G)),some (.own (.lst F)),y4,y5,y6,y7,y8,y9,y10,y11]) (by simp[-forL,hm,rk,h,freed])).trans ?_;simp[im]
theorem pK{α β:Type}(f:α→List β)(N:Nat):∀l:List α,(∀a∈l,(f a).length≤N)→(l.flatMap f).length≤l.length*N
 |[],_=>by simp
 |a::l,h=>by
  have h1:=h a Gao;have h2:=pK f N l λx hx=>h x (Gaj _ hx);rw[Gci,GaA,GaC,GdU];omega
theorem Nf{w:World}{ws gv:List Tr}(W:bJ w)(hg:fV w.orders.length gv)(hl:gv.length<64):∃st,sv w.orders gv st∧gm [bA w,.tup (ws.map trD),.tup (gv.map trD)]=some (.lst ((st.flatMap (tgF w.aB ws)).map az))∧(st.flatMap (tgF w.aB ws)).length≤20000:=by
 obtain⟨st,I,em⟩:=IJ W hg hl;have ln:=I.ln;have he:∀e∈st,0≤e.1.2∧e.1.2<w.aB.length∧e.2.length<64:=λe hes=>by
  obtain⟨t,ht,ek⟩:=I.back e hes;have g0:=hg t ht;obtain⟨n,hn⟩:=GaG g0.1;have hn' :n<w.orders.length:=by omega
  have ok:=W.oo w.orders[n] (GaD hn');have:tk w.orders t=(w.orders[n].aY,w.orders[n].br):=by
   unfold tk;rw[hn,GaL,Gab hn']
  rw[this] at ek;rw[←ek];have:=I.Nb hes;exact⟨ok.s0,ok.s1,by omega⟩
 obtain⟨y4,y5,y6,y7,y8,y9,y10,y11,e⟩:=Cr W (ws:=ws) (A:=w.cq.map cR) (C:=w.cU.map trD) (O:=w.orders.map aF) (e2:=some (.sh (.tup (gv.map trD)))) st [] none none none none none none none none he (by simp;omega);refine⟨st,I,IK em e (gJ _), ?_⟩;have h1:=pK (tgF w.aB ws) 256 st (λe hes=>by
  have h2:=pJ ws e.1.1 e.1.2 e.2 0 ((w.aB[e.1.2.toNat]?.map (·.aO)).getD []);have h3:((w.aB[e.1.2.toNat]?.map (·.aO)).getD []).length≤4:=by
   cases h:w.aB[e.1.2.toNat]? with
   |none=>simp
   |some s=>exact(W.so s (GaK h)).cl
  have h4:=(he e hes).2.2;have h5:=Nat.mul_le_mul h3 (GdC h4);unfold tgF;omega)
 omega
noncomputable def iH(w:World)(ws:List Tr)(t:Tr):List Flt:=match w.orders[t.1.toNat]? with
 |some o=>match w.aB[o.br.toNat]?,w.cq[o.aY.toNat]? with
  |some s,some g=>(lX o s g.2 ws t).map λk=>(k,[t.1,t.2.1])
  |_,_=>[]
 |none=>[]
theorem Ae{w:World}(W:bJ w){ws:List Tr}{t:Tr}(h0:0≤t.1)(h1:t.1<w.orders.length):fC [bA w,.tup (ws.map trD),trD t]=some (.lst ((iH w ws t).map az))∧(iH w ws t).length≤5:=by
 obtain⟨n,hn⟩:=GaG h0;have hn' :n<w.orders.length:=by omega
 have ok:=W.oo w.orders[n] (GaD hn');obtain⟨m,hm⟩:=GaG ok.s0;have sl:=ok.s1;have hm' :m<w.aB.length:=by omega
 obtain⟨g,hg⟩:=GaG ok.g0;have gl:=ok.g1;have hg' :g<w.cq.length:=by omega
 have hO:atD (w.orders.map aF) t.1=some (aF w.orders[n]):=by rw[hn,cW,Gak,Gab hn'];rfl
 have hS:atD (w.aB.map b7) w.orders[n].br=some (b7 w.aB[m]):=by rw[hm,cW,Gak,Gab hm'];rfl
 have hG:atD (w.cq.map cR) w.orders[n].aY=some (cR w.cq[g]):=by rw[hg,cW,Gak,Gab hg'];rfl
 have e:=KO (C:=w.cU.map trD) (ws:=ws) (t:=t) hO ok.du hS (W.so _ (GaD hm')) hG (ip _ ok.ti);have el:iH w ws t=(lX w.orders[n] w.aB[m] w.cq[g].2 ws t).map λk=>(k,[t.1,t.2.1]):=by
  unfold iH;rw[hn,GaL,Gab hn'];dsimp only;rw[hm,hg,GaL,GaL,Gab hm',Gab hg']
 constructor
 ·rw[el,GaO];exact e
 ·rw[el,Gaf];unfold lX;have h1:=dh (dJ w.orders[n].jz t.2.1) "astray";have h2:=dh (decide (w.orders[n].most<t.2.2)) "most";have h3:=dh (decide (t.2.2<1)||decide (¬t.2.2%w.aB[m].part=0)) "part";have h4:=dh (w.aB[m].aO.any f6&&(wgt w.orders[n].aY t.2.1 ws none).isNone) "weight";have h5:=dh (decide (t.2.1<w.cq[g].2+w.aB[m].young)) "young";simp only[GaA];omega
theorem L3{e0 e1 e2 e3:Option Slot}{wd wsd gd:D}{F R:List D}(h:fC [wd,wsd,gd]=some (.lst R))(hz:F.length+R.length<100000):
  ie [some (.sh wd),e1,some (.sh wsd),e3,some (.own (.lst F)),some (.sh gd)]=some (.nx [some (.sh wd),e1,some (.sh wsd),e3,some (.own (.lst (F++R))),some (.sh gd)]):=by
 have z:F.length+R.length≤16777216:=by omega
 have rl:kB (.lst R)=⟨.tn,.lst R⟩:=rfl;unfold ie;simp[h,rl,z,ai]
theorem uz{w:World}(W:bJ w){ws:List Tr}{e1 e3:Option Slot}:∀(gv:List Tr) (fs:List Flt) (x5:Option Slot),fV w.orders.length gv→fs.length+5*gv.length<100000→∃y5,
  forL (gN 5) ie (gv.map trD) [some (.sh (bA w)),e1,some (.sh (.tup (ws.map trD))),e3,some (.own (.lst (fs.map az))),x5]=some (.nx [some (.sh (bA w)),e1,some (.sh (.tup (ws.map trD))),e3,some (.own (.lst ((fs++gv.flatMap (iH w ws)).map az))),y5])
 |[],fs,x5,_,_=> ⟨x5,by simp⟩
 |t::gv,fs,x5,hg,hz=>by
  rw[GaC] at hz;have g0:=hg t Gao;obtain⟨e,l5⟩:=Ae W (ws:=ws) g0.1 g0.2;have ev:=L3 (e0:=none) (e1:=e1) (e2:=none) (e3:=e3) (F:=fs.map az) e (by rw[Gaf,Gaf];omega);rw[←GaP] at ev;obtain⟨y5,e'⟩:=uz W (ws:=ws) (e1:=e1) (e3:=e3) gv (fs++iH w ws t) (some (.sh (trD t))) (λx hx=>hg x (Gaj _ hx)) (by rw[GaA];omega);refine⟨y5, ?_⟩;rw[Gap,Gci,←GaB];generalize trD t=td at*;generalize bA w=wd at*;simp only[forL,gN,GaU,GaV,Option.bind_some,ev];exact e'
theorem Af:∀(a b:List Int),mR (a.map D.int) (b.map D.int)=true
 |[],b=>by cases b<;>rfl
 |x::a,[]=>rfl
 |x::a,y::b=>by
  rw[Gap,Gap];unfold mR;split
  ·exact Af a b
  ·rfl
theorem Gg(fs:List Flt):keysOk (fs.map az)=true:=by
 have h1:(fs.map az).all (mN 2)=true:=by
  rw[GbF,Gat];intro p _;show((tyD (.str p.1)==2)&&(p.2.map D.int).all mM)=true;rw[GbF,Gau];exact⟨rfl,Gat.mpr λ_ _=>rfl⟩
 have h2:((fs.map az).all λx=>(fs.map az).all λy=>wq x y)=true:=by
  rw[GbF,Gat];intro p _;simp only[GcV];rw[GbF,Gat];intro q _;show mR (.str p.1::p.2.map .int) (.str q.1::q.2.map .int)=true;unfold mR;split
  ·exact Af _ _
  ·rfl
 unfold keysOk;rw[h1,h2];simp
theorem mX:∀(a b:List Int),(a.map D.int).map b8=(b.map D.int).map b8→a=b
 |[],[],_=>rfl
 |[],_::_,h=>by simp at h
 |_::_,[],h=>by simp at h
 |x::a,y::b,h=>by
  rw[Gap,Gap,Gap,Gap] at h;injection h with h1 h2
  have h3:[1,x]=[1,y]:=h1;simp at h3;rw[h3,mX a b h2]
theorem Ct:∀(a b:List Nat),a.map Int.ofNat=b.map Int.ofNat→a=b
 |[],[],_=>rfl
 |[],_::_,h=>by simp at h
 |_::_,[],h=>by simp at h
 |x::a,y::b,h=>by
  rw[Gap,Gap] at h;injection h with h1 h2
  rw[Int.ofNat.inj h1,Ct a b h2]
theorem str_inj{a b:Str}(h:a.cps.toList.map Int.ofNat=b.cps.toList.map Int.ofNat):a=b:=by
 have h2:a.cps.toList=b.cps.toList:=Ct _ _ h;obtain⟨a⟩:=a;obtain⟨b⟩:=b;congr 1;exact Array.ext' h2
theorem vF{f g:Flt}(h:DL.code (az f)=DL.code (az g)):f=g:=by
 have h' :b8 (.str f.1)::(f.2.map D.int).map b8=b8 (.str g.1)::(g.2.map D.int).map b8:=h;injection h' with h1 h2
 have h3:(2:Int)::f.1.cps.toList.map Int.ofNat=2::g.1.cps.toList.map Int.ofNat:=h1;injection h3 with _ h4
 exact Prod.ext (str_inj h4) (mX _ _ h2)
noncomputable def unF:D→Flt
 | .tup (.str k::ds)=>(k,ds.map unI)
 |_=>("",[])
theorem Gh(f:Flt):unF (az f)=f:=by
 show(f.1,(f.2.map D.int).map unI)=f;rw[GaO];have:f.2.map (unI∘D.int)=f.2:=by
  conv=>rhs;rw[←Gcz f.2]
  exact GaJ λ_ _=>rfl
 rw[this]
noncomputable def m6(fs:List Flt):List Flt:=(cT (fs.map az)).map unF
theorem nO(fs:List Flt):(fs.map az).map unF=fs:=by
 rw[GaO]
 conv=>rhs;rw[←Gcz fs]
 exact GaJ λf _=>Gh f
theorem Ah(fs:List Flt):cT (fs.map az)=(m6 fs).map az:=by
 unfold m6;rw[GaO]
 conv=>lhs;rw[←Gcz (cT (fs.map az))]
 refine GaJ λx hx=> ?_;obtain⟨f,_,rfl⟩:=GaF.mp ((fN _).mem_iff.mp hx);simp only[GcV,Gh,id]
theorem kQ(fs:List Flt):(m6 fs).Perm fs:=by
 have:=(fN (fs.map az)).map unF;rw[nO] at this;exact this
theorem oC(fs:List Flt):fL ((m6 fs).map az):=by
 rw[←Ah];exact g8 _
theorem Bm{a b:List Flt}(hp:a.Perm b)(h1:fL (a.map az))(h2:fL (b.map az)):a=b:=by
 have e:=jV (hp.map az) h1 h2 (λx hx y hy hc=>by
  obtain⟨f,_,rfl⟩:=GaF.mp hx;obtain⟨g,_,rfl⟩:=GaF.mp hy;rw[vF hc])
 have:=congrArg (List.map unF) e;rw[nO,nO] at this;exact this
theorem vG{fs gs:List Flt}(p:Flt→Bool)(hp:(fs.filter p).Perm gs):(m6 fs).filter p=m6 gs:=by
 refine Bm (((kQ fs).filter p).trans (hp.trans (kQ gs).symm)) ?_ (oC gs);have h:=oC fs;unfold fL at h⊢;rw[Gdo] at h⊢;exact h.filter p
theorem sD(fs:List Flt)(hz:fs.length<1000000):g9 [.lst (fs.map az)]=some ⟨.tn,.lst ((m6 fs).map az)⟩:=by
 have z:(fs.map az).length<1000000:=by rw[Gaf];exact hz
 unfold g9 one mQ;simp only[Option.bind_some];rw[Gg,GaN z,Ah]
 rfl
theorem Bn{wd:D}{W G F0 F1 F2 F3 F R:List D}{y5:Option Slot}(h0:F1++F2++F3=F0)(h1:gm [wd,.tup W,.tup G]=some (.lst F1))(h2:gn [wd,.tup G]=some (.lst F2))(h3:dU [wd,.tup G]=some (.lst F3))(z:F1.length+F2.length+F3.length<100000)
  (hl:forL (gN 5) ie G [some (.sh wd),some (.sh (.tup [.tup W,.tup G])),some (.sh (.tup W)),some (.sh (.tup G)),some (.own (.lst F0)),none]=some (.nx [some (.sh wd),some (.sh (.tup [.tup W,.tup G])),some (.sh (.tup W)),some (.sh (.tup G)),some (.own (.lst F)),y5]))(hs:g9 [.lst F]=some ⟨.tn,.lst R⟩)(iw:aQ W=true)(ig:aQ G=true)(ir:aQ R=true):
  lT [wd,.tup [.tup W,.tup G]]=some (.lst R):=by
 have r1:∀L:List D,kB (.lst L)=⟨.tn,.lst L⟩:=λ_=>rfl;have z1:F1.length+F2.length≤16777216:=by omega
 have z2:F1.length+F2.length+F3.length≤16777216:=by omega
 refine bg rfl ?_;unfold ou;refine(av (e:=[some (.sh wd),some (.sh (.tup [.tup W,.tup G])),some (.sh (.tup W)),none,none,none]) (by simp[bz,iw])).trans ?_;refine(av (e:=[some (.sh wd),some (.sh (.tup [.tup W,.tup G])),some (.sh (.tup W)),some (.sh (.tup G)),none,none]) (by simp[ig])).trans ?_;refine(av (e:=[some (.sh wd),some (.sh (.tup [.tup W,.tup G])),some (.sh (.tup W)),some (.sh (.tup G)),some (.own (.lst F0)),none]) (by rw[←h0];simp[h1,h2,h3,r1,z1,z2,ai])).trans ?_;refine(av (e:=[some (.sh wd),some (.sh (.tup [.tup W,.tup G])),some (.sh (.tup W)),some (.sh (.tup G)),some (.own (.lst F)),y5]) (by simp[-forL,hl,freed])).trans ?_;simp[hs,ir]
theorem sE(os:List Order)(gs:List Tr)(w:Int):∀rows:List (Int×Int),rows.length<64→(cS os gs w rows).length≤64*rows.length
 |[],_=>by simp[cS]
 |r::rs,h=>by
  rw[GaC] at h;have h1:=pI os gs w r rs;have h2:=sE os gs w rs (by omega);unfold cS;rw[GaA,GaC];omega
theorem Ai{w:World}{ws gv:List Tr}(W:bJ w)(hg:fV w.orders.length gv)(hl:gv.length<64):∃(st:List Tg) (rows:List (Int×Int)),sv w.orders gv st∧rows.Perm (gvR gv)∧cT ((gvR gv).map mk2)=rows.map mk2∧(rows.Pairwise λa b=>a.1≤b.1)∧
  lT [bA w,.tup [.tup (ws.map trD),.tup (gv.map trD)]]=some (.lst ((m6 (st.flatMap (tgF w.aB ws)++cS w.orders (w.cU.foldl bS []) (wide w.cU) rows++twF (gv.foldl (cG w.orders) [])++gv.flatMap (iH w ws))).map az))∧
  (st.flatMap (tgF w.aB ws)++cS w.orders (w.cU.foldl bS []) (wide w.cU) rows++twF (gv.foldl (cG w.orders) [])++gv.flatMap (iH w ws)).length<100000:=by
 obtain⟨st,I,h1,z1⟩:=Nf (ws:=ws) W hg hl;obtain⟨rows,r1,r2,r3,h2⟩:=Na W hg hl;obtain⟨h3,z3⟩:=IA W hg hl;have lr:rows.length=gv.length:=by rw[r2.length_eq];simp[gvR]
 have z2:=sE w.orders (w.cU.foldl bS []) (wide w.cU) rows (by omega);have z3' :(twF (gv.foldl (cG w.orders) [])).length≤64:=by
  unfold twF;rw[Gaf];have:=GcR (λt:Tr=>decide (1<t.2.2)) (gv.foldl (cG w.orders) []);omega
 have z4:(gv.flatMap (iH w ws)).length≤gv.length*5:=pK _ 5 gv λt ht=>(Ae W (ws:=ws) (hg t ht).1 (hg t ht).2).2;obtain⟨y5,e⟩:=uz W (ws:=ws) (e1:=some (.sh (.tup [.tup (ws.map trD),.tup (gv.map trD)]))) (e3:=some (.sh (.tup (gv.map trD)))) gv (st.flatMap (tgF w.aB ws)++cS w.orders (w.cU.foldl bS []) (wide w.cU) rows++twF (gv.foldl (cG w.orders) [])) none hg (by simp only[GaA];omega);have zz:(st.flatMap (tgF w.aB ws)++cS w.orders (w.cU.foldl bS []) (wide w.cU) rows++twF (gv.foldl (cG w.orders) [])++gv.flatMap (iH w ws)).length<100000:=by
  simp only[GaA];omega
 refine⟨st,rows,I,r2,r1,r3, ?_,zz⟩;generalize st.flatMap (tgF w.aB ws)=F1 at*;generalize cS w.orders (w.cU.foldl bS []) (wide w.cU) rows=F2 at*;generalize twF (gv.foldl (cG w.orders) [])=F3 at*;rw[GaP,GaP] at e;exact Bn rfl h1 h2 h3 (by simp only[Gaf];omega) e (sD _ (by omega)) (jI ws) (jI gv) (gJ _)
theorem Gi(i:Int):jH [.int i]=some (.bl true):=by
 unfold jH jG;simp[k6]
theorem uA{fd:D}{e0:Option Slot}:∀(ns:List Int) (x2:Option Slot),∃y2,forL (gN 2) dD (ns.map D.int) [e0,some (.sh fd),x2]=some (.nx [e0,some (.sh fd),y2])
 |[],x2=> ⟨x2,by simp⟩
 |n::ns,x2=>by
  have ev:dD [e0,some (.sh fd),some (.sh (.int n))]=some (.nx [e0,some (.sh fd),some (.sh (.int n))]):=by
   unfold dD;simp[Gi]
  obtain⟨y2,e⟩:=uA ns (some (.sh (.int n)));refine⟨y2, ?_⟩;rw[Gap];simp only[forL,gN,GaU,GaV,Option.bind_some,ev];exact e
theorem DY{k:Str}{L:List D}{n:Int}{e0 x2 y2:Option Slot}(hn:cO [.tup (.str k::L)]=some ⟨.c,.int n⟩)(hn3:¬n<3)(hs:slD (some 1) none (.tup (.str k::L))=some ⟨.c,.tup L⟩)(h:forL (gN 2) dD L [e0,some (.sh (.tup (.str k::L))),x2]=some (.nx [e0,some (.sh (.tup (.str k::L))),y2])):
  fM [e0,some (.sh (.tup (.str k::L))),x2]=some (.nx [e0,some (.sh (.tup (.str k::L))),y2]):=by
 have hx:ixD (.tup (.str k::L)) (.int 0)=some (.str k):=rfl;have hi:k6 "tuple" (.tup (.str k::L))=true:=rfl;have hc:lH (.tup (.str k::L))=false:=rfl;have hi2:k6 "str" (.str k)=true:=rfl;have hc2:lH (.str k)=false:=rfl;generalize D.tup (.str k::L)=fd at*;unfold fM;refine(av (e:=[e0,some (.sh fd),x2]) (by simp[hi,hc,hn,hn3,hx,hi2,hc2])).trans ?_;simp[-forL,hs,h,freed]
theorem q9{e0:Option Slot}:∀(fs:List Flt) (x1 x2:Option Slot),(∀f∈fs,2≤f.2.length)→∃y1 y2,forL (gN 1) fM (fs.map az) [e0,x1,x2]=some (.nx [e0,y1,y2])
 |[],x1,x2,_=> ⟨x1,x2,by simp⟩
 |f::fs,x1,x2,h=>by
  have h0:=h f Gao;obtain⟨y2,e⟩:=uA (fd:=az f) (e0:=e0) f.2 x2;have hs:slD (some 1) none (.tup (.str f.1::f.2.map .int))=some ⟨.c,.tup (f.2.map .int)⟩:=by
   have e1:sIx (D.str f.1::f.2.map .int).length 0 (some 1)=1:=by
    show min 1 (D.str f.1::f.2.map .int).length=1;simp
   have e2:sIx (D.str f.1::f.2.map .int).length (D.str f.1::f.2.map .int).length none=(D.str f.1::f.2.map .int).length:=rfl;unfold slD;dsimp only;rw[e1,e2,Gag (by simp)];unfold cutD;rw[e1,e2];simp only[List.drop_succ_cons,GbL];rw[Gbz (by simp)]
  have ev:=DY (k:=f.1) (L:=f.2.map .int) (n:=((f.2.length+1:Nat):Int)) (by simp[cO]) (by omega) hs e;obtain⟨z1,z2,e'⟩:=q9 (e0:=e0) fs (some (.sh (az f))) y2 λx hx=>h x (Gaj _ hx);refine⟨z1,z2, ?_⟩;rw[Gap];have fe:D.tup (.str f.1::f.2.map .int)=az f:=rfl;rw[fe] at ev;generalize az f=fd at*;simp only[forL,gN,GaU,GaV,Option.bind_some,ev];exact e'
theorem Gj{fs:List Flt}(h:∀f∈fs,2≤f.2.length):gr [.lst (fs.map az)]=some (.bl true):=by
 obtain⟨y1,y2,e⟩:=q9 (e0:=some (.sh (.lst (fs.map az)))) fs none none h;refine bg rfl ?_;unfold iU;generalize fs.map az=F at*;refine(av (e:=[some (.sh (.lst F)),none,none]) (by simp[bz,k6,lH])).trans ?_;refine(av (e:=[some (.sh (.lst F)),y1,y2]) (by simp[-forL,e,freed])).trans ?_;simp
theorem L4(f:Flt):eqD (az f) (az f)=true:=by
 have h:=FL f.2;unfold az;simp[h]
theorem IL(fs:List Flt):eqB (.lst (fs.map az)) (.lst (fs.map az))=some true:=by
 have h1:D.plain (.lst (fs.map az))=true:=by
  show(fs.map az).all (aA 19)=true;rw[GbF,Gat];intro f _;show((D.str f.1::f.2.map .int).all (aA 18))=true;have:=Bf 18 f.2;simp only[GbI,this,Bool.and_true]
  rfl
 have h2:eqD (.lst (fs.map az)) (.lst (fs.map az))=true:=by
  show lG _ _=true;induction fs with
  |nil=>rfl
  |cons f fs ih=>
   have h1:D.plain (.lst (fs.map az))=true:=by
    rename D.plain _=true=>hp
    have hp' :((f::fs).map az).all (aA 19)=true:=hp;simp only[Gap,GbI,Gau] at hp';exact hp'.2
   have:=ih h1;rw[Gap];show(eqD (az f) (az f)&&lG _ _)=true;rw[L4,this];rfl
 unfold eqB;rw[h1,h2];rfl
theorem DZ{ws:List Tr}{c:Cap}{g s k:Int}{r:Int×Int}{f:Flt}(h:f∈dA ws c g s k r):f.1="cap"∧2≤f.2.length:=by
 unfold dA at h;split at h
 ·split at h
  ·simp at h;rw[h];exact⟨rfl,by simp⟩
  ·simp at h
 ·simp at h
theorem sF{ws:List Tr}{g s:Int}{ms:List (Int×Int)}{f:Flt}:∀(cs:List Cap) (k:Nat),f∈gA ws g s ms k cs→f.1="cap"∧2≤f.2.length
 |[],k,h=>by simp[gA] at h
 |c::cs,k,h=>by
  unfold gA at h;rcases Gax.mp h with h|h
  ·unfold ju at h;obtain⟨r,_,hr⟩:=GbG.mp h;exact DZ hr
  ·exact sF cs (k+1) h
theorem Aj{ss:List jt}{ws:List Tr}{st:List Tg}{f:Flt}(h:f∈st.flatMap (tgF ss ws)):f.1="cap"∧2≤f.2.length:=by
 obtain⟨e,_,h⟩:=GbG.mp h;exact sF _ _ h
theorem Gk{os:List Order}{gs:List Tr}{r l:Int×Int}{f:Flt}(h:f∈gpF os gs r l):f.1="gap"∧2≤f.2.length:=by
 unfold gpF at h;split at h
 ·split at h
  ·simp at h;rw[h];exact⟨rfl,by simp⟩
  ·simp at h
 ·simp at h
theorem qf{os:List Order}{gs:List Tr}{w:Int}{r:Int×Int}{f:Flt}:∀ls:List (Int×Int),f∈kg os gs w r ls→f.1="gap"∧2≤f.2.length
 |[],h=>by simp[kg] at h
 |l::ls,h=>by
  unfold kg at h;split at h
  ·simp at h
  ·rcases Gax.mp h with h|h
   ·exact Gk h
   ·exact qf ls h
theorem kR{os:List Order}{gs:List Tr}{w:Int}{f:Flt}:∀ls:List (Int×Int),f∈cS os gs w ls→f.1="gap"∧2≤f.2.length
 |[],h=>by simp[cS] at h
 |l::ls,h=>by
  unfold cS at h;rcases Gax.mp h with h|h
  ·exact qf _ h
  ·exact kR ls h
theorem Ak{ts:List Tr}{f:Flt}(h:f∈twF ts):f.1="twice"∧2≤f.2.length:=by
 unfold twF at h;obtain⟨t,_,rfl⟩:=GaF.mp h;exact⟨rfl,by simp⟩
noncomputable def Al:List Str:=["astray","most","part","weight","young"]
theorem L5{b:Bool}{x k:Str}(h:k∈kk b x):k=x:=by
 cases b<;>simp[kk] at h
 exact h
theorem Am{o:Order}{s:jt}{b:Int}{ws:List Tr}{t:Tr}{k:Str}(h:k∈lX o s b ws t):k∈Al:=by
 unfold lX at h;unfold Al;simp only[Gax] at h;rcases h with(((h|h)|h)|h)|h<;>rw[L5 h]<;>simp
theorem sG{w:World}{ws:List Tr}{t:Tr}{f:Flt}(h:f∈iH w ws t):f.1∈Al∧2≤f.2.length:=by
 unfold iH at h;split at h
 ·split at h
  ·obtain⟨k,hk,rfl⟩:=GaF.mp h;exact⟨Am hk,by simp⟩
  ·simp at h
 ·simp at h
theorem filter_all{α:Type}{p:α→Bool}{l:List α}(h:∀x∈l,p x=true):l.filter p=l:=List.filter_eq_self.mpr h
theorem pL{α:Type}{p:α→Bool}{l:List α}(h:∀x∈l,p x=false):l.filter p=[]:=List.filter_eq_nil_iff.mpr λx hx=>by rw[h x hx];simp
theorem Bo{w:World}(W:bJ w):(bA w).imm=true:=by
 have h1:=gx rY w.cq;have h2:=gx kO w.aB;have h3:=jI w.cU;have h4:aQ (w.orders.map aF)=true:=by
  have:∀l:List Order,(∀o∈l,oz w.cq.length w.aB.length o)→aQ (l.map aF)=true:=by
   intro l;induction l with
   |nil=>intro _;rfl
   |cons o l ih=>
    intro h;have h1:=ip o (h o Gao).ti;have h2:=ih λx hx=>h x (Gaj _ hx);rw[Gap];simp[h1,h2]
  exact this w.orders W.oo
 unfold bA;simp[h1,h2,h3,h4]
theorem Gm{ns:List Int}(hl:ns.length≤63):∃(n:Nat) (len mn:Int),n<64∧cO [.scr ns]=some ⟨.c,.int len⟩∧nW [.int len,.int 30]=some ⟨.c,.int mn⟩∧mn+draw ns 12 4=(n:Int):=by
 have l:=aX ns 12 4 (by omega);refine⟨((if(30:Int)<ns.length then 30 else ns.length)+draw ns 12 4).toNat,ns.length,if(30:Int)<ns.length then 30 else ns.length, ?_,by simp[cO],rfl, ?_⟩
 ·split<;>omega
 ·split<;>omega
noncomputable def iD(k:Str)(f:Flt):Bool:=f.1==k
theorem E5(k:Str)(fs:List Flt):cF (gN 0) (aZ eqB (ixE (vE 0) (kE (.int 0))) (kE (.str k))) (vE 0) (fs.map az) [none]=some ((fs.filter (iD k)).map az):=by
 refine mJ (g:=gN 0) az (λenv=>∃y,env=[y]) (iD k) az fs _ ⟨none,rfl⟩ ?_;rintro f hf env ⟨y,rfl⟩;have im:(az f).imm=true:=by
  have:=oy f.2;simp[az,this]
 have hx:ixD (az f) (.int 0)=some (.str f.1):=rfl;have hw:eqB (.str f.1) (.str k)=some (iD k f):=by unfold eqB iD;rfl
 generalize az f=fd at*;refine⟨[some (.sh fd)],rfl,⟨_,rfl⟩, ?_,λ_=> ⟨.c, ?_, ?_⟩⟩
 ·simp[hx,hw]
 ·simp[im]
 ·simp[RV.free]
theorem E9{w:World}{ws gv T:List Tr}{st:List Tg}{gs:List Tr}{wd:Int}{rows:List (Int×Int)}:∀f∈st.flatMap (tgF w.aB ws)++cS w.orders gs wd rows++twF T++gv.flatMap (iH w ws),2≤f.2.length:=by
 intro f hf;rcases Gax.mp hf with hf|hf
 ·rcases Gax.mp hf with hf|hf
  ·rcases Gax.mp hf with hf|hf
   ·exact(Aj hf).2
   ·exact(kR _ hf).2
  ·exact(Ak hf).2
 ·obtain⟨t,_,h⟩:=GbG.mp hf;exact(sG h).2
theorem Gn{f:Flt}{k:Str}(h:f.1∈Al)(hk:Al.all (λx=> !(x==k))=true):iD k f=false:=by
 have:=Gat.mp hk _ h;unfold iD
 simpa using this
theorem Gp{w:World}{ws gv T:List Tr}{st:List Tg}{gs:List Tr}{wd:Int}{rows:List (Int×Int)}:(st.flatMap (tgF w.aB ws)++cS w.orders gs wd rows++twF T++gv.flatMap (iH w ws)).filter (iD "cap")=st.flatMap (tgF w.aB ws):=by
 rw[GcM,GcM,GcM];rw[filter_all (l:=st.flatMap (tgF w.aB ws)) λf hf=>by unfold iD;rw[(Aj hf).1];rfl];rw[pL (l:=cS w.orders gs wd rows) λf hf=>by unfold iD;rw[(kR _ hf).1];rfl];rw[pL (l:=twF T) λf hf=>by unfold iD;rw[(Ak hf).1];rfl];rw[pL λf hf=>by
  obtain⟨t,_,h⟩:=GbG.mp hf;exact Gn (sG h).1 rfl]
 simp
theorem sI{c:Cap}{w:Option Int}(ok:mV c):dm [bw c,fK w]=some (fK (dz c w)):=by
 cases c with
 |ever t=>unfold dm dX bw dz;simp
 |flat h t=>unfold dm dX bw dz;simp
 |kilo h t p=>
  obtain⟨h1,t1,t2,p1,p2⟩:=ok;cases w with
  |none=>unfold dm dX bw dz;simp[nV,cE]
  |some w=>
   have mm:cf w t=true:=ox (by omega) (by omega);have pp:0<p∧p<1073741824:=by omega
   unfold dm dX bw dz;simp[nV,cE,mm,pp]
theorem Gq{c:Cap}{h a:Int}{e0 e1 e2 e5 e6 e8:Option Slot}:jy (aZ leB (vE 7) (vE 4)) (orT (aZ eqB (ixE (vE 3) (kE (.int 0))) (kE (.str "ever"))) (aZ gtB (vE 7) (opE k5 (vE 4) (ixE (vE 3) (kE (.int 1)))))) [e0,e1,e2,some (.sh (bw c)),some (.sh (.int h)),e5,e6,some (.sh (.int a)),e8]=some (lj c h a):=by
 by_cases c1:a≤h
 ·cases c with
  |ever t=>simp[bw,lj,c1]
  |flat H t=>simp[bw,lj,c1]
  |kilo H t p=>simp[bw,lj,c1]
 ·have c1' :h<a:=by omega
  cases c<;>simp[bw,lj,c1,c1']
theorem L6{A B C O:List D}{bk OD own:D}{c:Cap}{h T n a m g s g' s' :Int}(hO:atD O n=some OD)(hs:slD (some 1) (some 3) OD=some ⟨.c,.tup [.int g',.int s']⟩)(ho:slD (some 1) (some 3) own=some ⟨.c,.tup [.int g,.int s]⟩):
  dY [some (.sh (.tup [.tup A,.tup B,.tup C,.tup O])),some (.sh bk),some (.sh own),some (.sh (bw c)),some (.sh (.int h)),some (.sh (.int T)),some (.sh (.int n)),some (.sh (.int a)),some (.sh (.int m))]=
   some (.nx [some (.sh (.tup [.tup A,.tup B,.tup C,.tup O])),some (.sh bk),some (.sh own),some (.sh (bw c)),some (.sh (.int h)),some (.sh (.int (T+if decide ((g',s')=(g,s))&&lj c h a then m else 0))),some (.sh (.int n)),some (.sh (.int a)),some (.sh (.int m))]):=by
 have t2:=Gq (c:=c) (h:=h) (a:=a) (e0:=some (.sh (.tup [.tup A,.tup B,.tup C,.tup O]))) (e1:=some (.sh bk)) (e2:=some (.sh own)) (e5:=some (.sh (.int T))) (e6:=some (.sh (.int n))) (e8:=some (.sh (.int m)));have t1:aZ eqB (slE (ixE (ixE (vE 0) (kE (.int 3))) (vE 6)) (fW (kE (.int 1))) (fW (kE (.int 3)))) (slE (vE 2) (fW (kE (.int 1))) (fW (kE (.int 3)))) [some (.sh (.tup [.tup A,.tup B,.tup C,.tup O])),some (.sh bk),some (.sh own),some (.sh (bw c)),some (.sh (.int h)),some (.sh (.int T)),some (.sh (.int n)),some (.sh (.int a)),some (.sh (.int m))]=some (decide ((g',s')=(g,s))):=by
  generalize bw c=cd;simp[hO,hs,ho,eqB];rw[Bool.eq_iff_iff];simp
 unfold dY;generalize lj c h a=q at*;generalize decide ((g',s')=(g,s))=r at*;generalize bw c=cd at*;unfold ifS;have t3:jy (aZ eqB (slE (ixE (ixE (vE 0) (kE (.int 3))) (vE 6)) (fW (kE (.int 1))) (fW (kE (.int 3)))) (slE (vE 2) (fW (kE (.int 1))) (fW (kE (.int 3))))) (jy (aZ leB (vE 7) (vE 4)) (orT (aZ eqB (ixE (vE 3) (kE (.int 0))) (kE (.str "ever"))) (aZ gtB (vE 7) (opE k5 (vE 4) (ixE (vE 3) (kE (.int 1))))))) [some (.sh (.tup [.tup A,.tup B,.tup C,.tup O])),some (.sh bk),some (.sh own),some (.sh cd),some (.sh (.int h)),some (.sh (.int T)),some (.sh (.int n)),some (.sh (.int a)),some (.sh (.int m))]=some (r&&q):=by
  generalize aZ eqB (slE (ixE (ixE (vE 0) (kE (.int 3))) (vE 6)) (fW (kE (.int 1))) (fW (kE (.int 3)))) (slE (vE 2) (fW (kE (.int 1))) (fW (kE (.int 3))))=T1 at*;generalize jy (aZ leB (vE 7) (vE 4)) _=T2 at*;show(T1 _).bind _=_;rw[t1,Option.bind_some];cases r
  ·rfl
  ·exact t2
 rw[t3,Option.bind_some];cases r<;>cases q<;>simp
noncomputable def dF(os:List Order)(c:Cap)(k:Int×Int)(h:Int):List Tr→Int
 |[]=>0
 |t::gv=>(if decide (tk os t=k)&&lj c h t.2.1 then t.2.2 else 0)+dF os c k h gv
theorem sJ(os:List Order)(c:Cap)(k:Int×Int)(h:Int):∀gv:List Tr,dF os c k h gv=k4 c ((gv.filter λt=>decide (tk os t=k)).map λt=>(t.2.1,t.2.2)) h
 |[]=>rfl
 |t::gv=>by
  have ih:=sJ os c k h gv;unfold dF;rw[ih];unfold k4;by_cases e:tk os t=k
  ·rw[List.filter_cons_of_pos (by simpa using e)];simp[e]
  ·rw[List.filter_cons_of_neg (by simpa using e)];simp[e]
theorem An{w:World}(W:bJ w){A B C:List D}{bk own:D}{c:Cap}{h g s:Int}(ho:slD (some 1) (some 3) own=some ⟨.c,.tup [.int g,.int s]⟩):∀(gv:List Tr) (T:Int) (x6 x7 x8:Option Slot),fV w.orders.length gv→∃y6 y7 y8,
  forL (gT [6,7,8]) dY (gv.map trD) [some (.sh (.tup [.tup A,.tup B,.tup C,.tup (w.orders.map aF)])),some (.sh bk),some (.sh own),some (.sh (bw c)),some (.sh (.int h)),some (.sh (.int T)),x6,x7,x8]=
   some (.nx [some (.sh (.tup [.tup A,.tup B,.tup C,.tup (w.orders.map aF)])),some (.sh bk),some (.sh own),some (.sh (bw c)),some (.sh (.int h)),some (.sh (.int (T+dF w.orders c (g,s) h gv))),y6,y7,y8])
 |[],T,x6,x7,x8,_=> ⟨x6,x7,x8,by simp[dF]⟩
 |t::gv,T,x6,x7,x8,hg=>by
  have g0:=hg t Gao;obtain⟨n,hn⟩:=GaG g0.1;have hn' :n<w.orders.length:=by omega
  have hO:atD (w.orders.map aF) t.1=some (aF w.orders[n]):=by rw[hn,cW,Gak,Gab hn'];rfl
  have hs:slD (some 1) (some 3) (aF w.orders[n])=some ⟨.c,.tup [.int w.orders[n].aY,.int w.orders[n].br]⟩:=rfl;have etk:tk w.orders t=(w.orders[n].aY,w.orders[n].br):=by
   unfold tk;rw[hn,GaL,Gab hn']
  have ev:=L6 (A:=A) (B:=B) (C:=C) (bk:=bk) (c:=c) (h:=h) (T:=T) (a:=t.2.1) (m:=t.2.2) hO hs ho;rw[←etk] at ev;obtain⟨y6,y7,y8,e⟩:=An W (A:=A) (B:=B) (C:=C) (bk:=bk) (c:=c) (h:=h) ho gv (T+if decide (tk w.orders t=(g,s))&&lj c h t.2.1 then t.2.2 else 0) (some (.sh (.int t.1))) (some (.sh (.int t.2.1))) (some (.sh (.int t.2.2))) λx hx=>hg x (Gaj _ hx);refine⟨y6,y7,y8, ?_⟩;rw[Gap]
  conv=>rhs;unfold dF
  rw[←Int.add_assoc];have ed:trD t= .tup [.int t.1,.int t.2.1,.int t.2.2]:=rfl;rw[ed];generalize bw c=cd at*;generalize w.orders.map aF=OS at*;simp only[forL,gT,gNs,GaU,GaV,Option.bind_some,ev];exact e
theorem IM{wd bkW own cd:D}{G:List D}{h T:Int}{y6 y7 y8:Option Slot}(e:forL (gT [6,7,8]) dY G [some (.sh wd),some (.sh (.tup [bkW,.tup G])),some (.sh own),some (.sh cd),some (.sh (.int h)),some (.sh (.int 0)),none,none,none]=some (.nx [some (.sh wd),some (.sh (.tup [bkW,.tup G])),some (.sh own),some (.sh cd),some (.sh (.int h)),some (.sh (.int T)),y6,y7,y8])):
  il [wd,.tup [bkW,.tup G],own,cd,.int h]=some (.int T):=by
 refine bg rfl ?_;unfold jF;refine(av (e:=[some (.sh wd),some (.sh (.tup [bkW,.tup G])),some (.sh own),some (.sh cd),some (.sh (.int h)),some (.sh (.int 0)),none,none,none]) (by simp[bz])).trans ?_;refine(av (e:=[some (.sh wd),some (.sh (.tup [bkW,.tup G])),some (.sh own),some (.sh cd),some (.sh (.int h)),some (.sh (.int T)),y6,y7,y8]) (by simp[-forL,e,freed])).trans ?_;simp
theorem IP{w:World}(W:bJ w){o:Order}{c:Cap}{h:Int}{bkW:D}{gv:List Tr}(hg:fV w.orders.length gv):il [bA w,.tup [bkW,.tup (gv.map trD)],aF o,bw c,.int h]=some (.int (dF w.orders c (o.aY,o.br) h gv)):=by
 obtain⟨y6,y7,y8,e⟩:=An W (A:=w.cq.map cR) (B:=w.aB.map b7) (C:=w.cU.map trD) (bk:= .tup [bkW,.tup (gv.map trD)]) (own:=aF o) (c:=c) (h:=h) (g:=o.aY) (s:=o.br) rfl gv 0 none none none hg;rw[Int.zero_add] at e;exact IM e
noncomputable def pM(f:Flt):List Key:=Sum.inr f.1::f.2.map Sum.inl
theorem uB:∀ns:List Int,keysOf (ns.map D.int)=some (ns.map Sum.inl)
 |[]=>rfl
 |n::ns=>by
  have:=uB ns;simp[keyOf,this]
theorem Bp(f:Flt):keysOf (.str f.1::f.2.map D.int)=some (pM f):=by
 have:=uB f.2;simp[keyOf,this,pM]
theorem Gr{f g:Flt}(h:pM f=pM g):f=g:=by
 obtain⟨a,as⟩:=f;obtain⟨b,bs⟩:=g;simp only[pM,Gcs,Sum.inr.injEq] at h;obtain⟨h1,h2⟩:=h;have:∀(as bs:List Int),as.map (Sum.inl:Int→Key)=bs.map Sum.inl→as=bs:=by
  intro as;induction as with
  |nil=>intro bs h;cases bs with
   |nil=>rfl
   |cons b bs=>simp at h
  |cons a as ih=>intro bs h;cases bs with
   |nil=>simp at h
   |cons b bs=>
    simp only[Gap,Gcs,Sum.inl.injEq] at h;rw[h.1,ih bs h.2]
 rw[h1,this as bs h2]
noncomputable def fw(l:List Flt):Rws:=l.map λf=>(pM f,D.bl true)
noncomputable def ft(l:List Flt)(f:Flt):List Flt:=if f∈l then l else l++[f]
theorem Ea(l:List Flt)(f:Flt):(ft l f).length≤l.length+1:=by
 unfold ft;split
 ·omega
 ·simp
theorem Gs{l:List Flt}{f:Flt}(hz:l.length<100000):putD (.dT (fw l)) (az f) (.bl true)=some (.dT (fw (ft l f))):=by
 have hk:=Bp f;have z:(fw l).length<ai:=by unfold fw ai;rw[Gaf];omega
 unfold putD az;dsimp only;rw[Gai z,hk,Gct];congr 2;unfold put;have an:((fw l).any λkv=>decide (kv.1=pM f))=decide (f∈l):=by
  rw[Bool.eq_iff_iff,List.any_eq_true,decide_eq_true_iff];constructor
  ·rintro⟨kv,hkv,e⟩;obtain⟨g,hg,rfl⟩:=GaF.mp hkv;have:=Gr (GaE e);rw[←this];exact hg
  ·intro h;exact⟨_,GaF.mpr ⟨f,h,rfl⟩,GaN rfl⟩
 rw[an];unfold ft;by_cases c:f∈l
 ·rw[Gai (GaN c),Gai c];unfold fw;rw[GaO];refine GaJ λg hg=> ?_;show(if pM g=pM f then(pM g,D.bl true) else(pM g,D.bl true))=_;split<;>rfl
 ·rw[Gag (by simpa using c),Gag c];unfold fw;rw[GaP]
  rfl
theorem Eb(l:List Flt):tZ (fw l)=l.map az:=by
 unfold tZ fw;rw[GaO];refine GaJ λf _=> ?_;show D.tup ((pM f).map D2)=az f;unfold pM az;rw[Gap,GaO]
 rfl
theorem Gu{wd bk OD:D}{e3 e5 e7:Option Slot}{l:List Flt}{h k T g s top:Int}(h1:ixD OD (.int 1)=some (.int g))(h2:ixD OD (.int 2)=some (.int s))(hz:l.length<100000):
  sZ 2 (bM (a5 (kE (.str "cap")) (a5 (ixE (vE 6) (kE (.int 1))) (a5 (ixE (vE 6) (kE (.int 2))) (a5 (vE 8) (a5 (vE 4) (a5 (vE 10) (a5 (vE 9) aq)))))))) (kE (.bl true)) [some (.sh wd),some (.sh bk),some (.own (.dT (fw l))),e3,some (.sh (.int h)),e5,some (.sh OD),e7,some (.sh (.int k)),some (.sh (.int top)),some (.sh (.int T))]=
   some (.nx [some (.sh wd),some (.sh bk),some (.own (.dT (fw (ft l ("cap",[g,s,k,h,T,top]))))),e3,some (.sh (.int h)),e5,some (.sh OD),e7,some (.sh (.int k)),some (.sh (.int top)),some (.sh (.int T))]):=by
 have pd:putD (.dT (fw l)) (.tup [.str "cap",.int g,.int s,.int k,.int h,.int T,.int top]) (.bl true)=_:=Gs (f:=("cap",[g,s,k,h,T,top])) hz;generalize fw l=kv at*;generalize fw (ft l ("cap",[g,s,k,h,T,top]))=kv' at*;simp[h1,h2,ai,RV.free,pd]
theorem IQ{wd bkW bkG OD cd:D}{Cs:List D}{e3 e5 x9 x10:Option Slot}{l:List Flt}{h k T g s:Int}{wo to:Option Int}(h1:ixD OD (.int 1)=some (.int g))(h2:ixD OD (.int 2)=some (.int s))(hc:atD Cs k=some cd)(ew:iR [bkW,.int g,.int h]=some (fK wo))(eb:dm [cd,fK wo]=some (fK to))(et:il [wd,.tup [bkW,bkG],OD,cd,.int h]=some (.int T))(hz:l.length<100000):
  ∃y9 y10,fI [some (.sh wd),some (.sh (.tup [bkW,bkG])),some (.own (.dT (fw l))),e3,some (.sh (.int h)),e5,some (.sh OD),some (.sh (.tup Cs)),some (.sh (.int k)),x9,x10]=
   some (.nx [some (.sh wd),some (.sh (.tup [bkW,bkG])),some (.own (.dT (fw ((match to with|some top=>if T>top then[(("cap",[g,s,k,h,T,top]):Flt)] else[]|none=>[]).foldl ft l)))),e3,some (.sh (.int h)),e5,some (.sh OD),some (.sh (.tup Cs)),some (.sh (.int k)),y9,y10]):=by
 have rw' :=c0 (gy wo);have rt:=c0 (gy to);refine⟨some (.sh (fK to)),some (.sh (.int T)), ?_⟩;unfold fI;refine(av (e:=[some (.sh wd),some (.sh (.tup [bkW,bkG])),some (.own (.dT (fw l))),e3,some (.sh (.int h)),e5,some (.sh OD),some (.sh (.tup Cs)),some (.sh (.int k)),some (.sh (fK to)),x10]) (by simp[h1,hc,ew,rw',eb,rt])).trans ?_;refine(av (e:=[some (.sh wd),some (.sh (.tup [bkW,bkG])),some (.own (.dT (fw l))),e3,some (.sh (.int h)),e5,some (.sh OD),some (.sh (.tup Cs)),some (.sh (.int k)),some (.sh (fK to)),some (.sh (.int T))]) (by simp[hc,et])).trans ?_;cases to with
 |none=>exact(N6 (by simp[iE,cE])).trans rfl
 |some top=>
  by_cases c:T>top
  ·have c' :top<T:=c;refine(Kz (by simp[iE,cE,c'])).trans ?_;dsimp only;rw[Gai c];exact Gu h1 h2 hz
  ·have c' :¬top<T:=c;refine(N6 (by simp[iE,cE,c'])).trans ?_;dsimp only;rw[Gag c]
   rfl
noncomputable def kl(os:List Order)(ws gv:List Tr)(o:Order)(h:Int):Nat→List Cap→List Flt
 |_,[]=>[]
 |k,c::cs=>dA ws c o.aY o.br (k:Int) (h,dF os c (o.aY,o.br) h gv)++kl os ws gv o h (k+1) cs
theorem uC(os:List Order)(ws gv:List Tr)(o:Order)(h:Int):∀(k:Nat) (cs:List Cap),(kl os ws gv o h k cs).length≤cs.length
 |_,[]=>by simp[kl]
 |k,c::cs=>by
  have h1:=uC os ws gv o h (k+1) cs;have h2:=kP ws c o.aY o.br (k:Int) (h,dF os c (o.aY,o.br) h gv);unfold kl;rw[GaA,GaC];omega
theorem sL:∀(fs l:List Flt),(fs.foldl ft l).length≤l.length+fs.length
 |[],l=>by simp
 |f::fs,l=>by
  have h1:=sL fs (ft l f);have h2:=Ea l f;rw[GbN,GaC];omega
theorem sM{n k:Nat}:bx (k:Int) (n+1)= .int (k:Int)::bx ((k+1:Nat):Int) n:=by
 unfold bx;rw[List.range_succ_eq_map,Gap,GaO];refine List.cons_eq_cons.mpr ⟨by simp,GaJ λj _=> ?_⟩;show D.int _=D.int _;congr 1;simp only[Nat.succ_eq_add_one];omega
theorem uD{w:World}(W:bJ w){ws gv:List Tr}{o:Order}{h:Int}{Cs:List D}{e3 e5:Option Slot}(hg:fV w.orders.length gv):∀(cs:List Cap) (k:Nat) (l:List Flt) (x8 x9 x10:Option Slot),(∀c∈cs,mV c)→(∀j:Nat,atD Cs ((k+j:Nat):Int)=(cs[j]?).map bw)→l.length+cs.length<50000→∃y8 y9 y10,
  forL (gN 8) fI (bx (k:Int) cs.length) [some (.sh (bA w)),some (.sh (.tup [.tup (ws.map trD),.tup (gv.map trD)])),some (.own (.dT (fw l))),e3,some (.sh (.int h)),e5,some (.sh (aF o)),some (.sh (.tup Cs)),x8,x9,x10]=
   some (.nx [some (.sh (bA w)),some (.sh (.tup [.tup (ws.map trD),.tup (gv.map trD)])),some (.own (.dT (fw ((kl w.orders ws gv o h k cs).foldl ft l)))),e3,some (.sh (.int h)),e5,some (.sh (aF o)),some (.sh (.tup Cs)),y8,y9,y10])
 |[],k,l,x8,x9,x10,_,_,_=> ⟨x8,x9,x10,rfl⟩
 |c::cs,k,l,x8,x9,x10,ok,hat,hz=>by
  rw[GaC] at hz;have ok0:=ok c Gao;have hc:atD Cs (k:Int)=some (bw c):=by
   have:=hat 0
   simpa using this
  have ew:=qJ (ws:=ws) (g:=o.aY) (h:=h);have eb:=sI (c:=c) (w:=wgt o.aY h ws none) ok0;have et:=IP W (o:=o) (c:=c) (h:=h) (bkW:= .tup (ws.map trD)) hg;obtain⟨z9,z10,ev⟩:=IQ (wd:=bA w) (OD:=aF o) (e3:=e3) (e5:=e5) (x9:=x9) (x10:=x10) (l:=l) rfl rfl hc ew eb et (by omega);have er:(match dz c (wgt o.aY h ws none) with|some top=>if dF w.orders c (o.aY,o.br) h gv>top then[(("cap",[o.aY,o.br,(k:Int),h,dF w.orders c (o.aY,o.br) h gv,top]):Flt)] else[]|none=>[])=dA ws c o.aY o.br (k:Int) (h,dF w.orders c (o.aY,o.br) h gv):=rfl;rw[er] at ev;have l1:=kP ws c o.aY o.br (k:Int) (h,dF w.orders c (o.aY,o.br) h gv);have l2:=sL (dA ws c o.aY o.br (k:Int) (h,dF w.orders c (o.aY,o.br) h gv)) l;obtain⟨y8,y9,y10,e⟩:=uD W (ws:=ws) (gv:=gv) (o:=o) (h:=h) (Cs:=Cs) (e3:=e3) (e5:=e5) hg cs (k+1) ((dA ws c o.aY o.br (k:Int) (h,dF w.orders c (o.aY,o.br) h gv)).foldl ft l) (some (.sh (.int (k:Int)))) z9 z10 (λx hx=>ok x (Gaj _ hx)) (λj=>by
   have:=hat (j+1);rw[show k+(j+1)=k+1+j by omega] at this
   simpa using this) (by omega)
  refine⟨y8,y9,y10, ?_⟩;rw[GaC,sM]
  conv=>rhs;unfold kl
  rw[GdP];generalize fw l=kv at*;generalize fw (List.foldl ft l (dA ws c o.aY o.br (k:Int) (h,dF w.orders c (o.aY,o.br) h gv)))=kv1 at*;generalize fw (List.foldl ft _ (kl w.orders ws gv o h (k+1) cs))=kv2 at*;generalize bx _ cs.length=R at*;generalize (k:Int)=ki at*;generalize bA w=wd at*;generalize aF o=od at*;generalize ws.map trD=WS at*;generalize gv.map trD=GS at*;simp only[forL,gN,GaU,GaV,Option.bind_some,ev];exact e
theorem IS{A B C O:List D}{bk OD nm sz yg:D}{Cs:List D}{kv kv' :Rws}{n h:Int}{L:Int}{e5 x6 x7 x8 x9 x10 y8 y9 y10:Option Slot}{s:Int}(hO:atD O n=some OD)(h2:ixD OD (.int 2)=some (.int s))(hS:atD B s=some (.tup [nm,sz,.tup Cs,yg]))(hL:cO [.tup Cs]=some ⟨.c,.int L⟩)(sm:bV L=true)
  (e:forL (gN 8) fI (bx 0 L.toNat) [some (.sh (.tup [.tup A,.tup B,.tup C,.tup O])),some (.sh bk),some (.own (.dT kv)),some (.sh (.int n)),some (.sh (.int h)),e5,some (.sh OD),some (.sh (.tup Cs)),x8,x9,x10]=some (.nx [some (.sh (.tup [.tup A,.tup B,.tup C,.tup O])),some (.sh bk),some (.own (.dT kv')),some (.sh (.int n)),some (.sh (.int h)),e5,some (.sh OD),some (.sh (.tup Cs)),y8,y9,y10])):
  fJ [some (.sh (.tup [.tup A,.tup B,.tup C,.tup O])),some (.sh bk),some (.own (.dT kv)),some (.sh (.int n)),some (.sh (.int h)),e5,x6,x7,x8,x9,x10]=some (.nx [some (.sh (.tup [.tup A,.tup B,.tup C,.tup O])),some (.sh bk),some (.own (.dT kv')),some (.sh (.int n)),some (.sh (.int h)),e5,some (.sh OD),some (.sh (.tup Cs)),y8,y9,y10]):=by
 unfold fJ;refine(av (e:=[some (.sh (.tup [.tup A,.tup B,.tup C,.tup O])),some (.sh bk),some (.own (.dT kv)),some (.sh (.int n)),some (.sh (.int h)),e5,some (.sh OD),x7,x8,x9,x10]) (by simp[hO])).trans ?_;refine(av (e:=[some (.sh (.tup [.tup A,.tup B,.tup C,.tup O])),some (.sh bk),some (.own (.dT kv)),some (.sh (.int n)),some (.sh (.int h)),e5,some (.sh OD),some (.sh (.tup Cs)),x8,x9,x10]) (by simp[h2,hS])).trans ?_;simp[-forL,-fY,hL,sm,e,freed]
noncomputable def ovT(w:World)(ws gv:List Tr)(t:Tr):List Flt:=match w.orders[t.1.toNat]? with
 |some o=>kl w.orders ws gv o t.2.1 0 ((w.aB[o.br.toNat]?.map (·.aO)).getD [])
 |none=>[]
theorem uE{w:World}(W:bJ w){ws gv:List Tr}(hg:fV w.orders.length gv):∀(ts:List Tr) (l:List Flt) (x3 x4 x5 x6 x7 x8 x9 x10:Option Slot),fV w.orders.length ts→l.length+4*ts.length<40000→∃y3 y4 y5 y6 y7 y8 y9 y10,
  forL (gT [3,4,5]) fJ (ts.map trD) [some (.sh (bA w)),some (.sh (.tup [.tup (ws.map trD),.tup (gv.map trD)])),some (.own (.dT (fw l))),x3,x4,x5,x6,x7,x8,x9,x10]=
   some (.nx [some (.sh (bA w)),some (.sh (.tup [.tup (ws.map trD),.tup (gv.map trD)])),some (.own (.dT (fw ((ts.flatMap (ovT w ws gv)).foldl ft l)))),y3,y4,y5,y6,y7,y8,y9,y10])
 |[],l,x3,x4,x5,x6,x7,x8,x9,x10,_,_=> ⟨x3,x4,x5,x6,x7,x8,x9,x10,rfl⟩
 |t::ts,l,x3,x4,x5,x6,x7,x8,x9,x10,ht,hz=>by
  rw[GaC] at hz;have g0:=ht t Gao;obtain⟨n,hn⟩:=GaG g0.1;have hn' :n<w.orders.length:=by omega
  have oo:=W.oo w.orders[n] (GaD hn');obtain⟨m,hm⟩:=GaG oo.s0;have hm' :m<w.aB.length:=by have:=oo.s1;omega
  have so:=W.so w.aB[m] (GaD hm');have hO:atD (w.orders.map aF) t.1=some (aF w.orders[n]):=by rw[hn,cW,Gak,Gab hn'];rfl
  have hS:atD (w.aB.map b7) w.orders[n].br=some (.tup [.str w.aB[m].name,.tup ((w.aB[m].part::w.aB[m].more).map .int),.tup (w.aB[m].aO.map bw),.int w.aB[m].young]):=by
   rw[hm,cW,Gak,Gab hm'];rfl
  have eo:ovT w ws gv t=kl w.orders ws gv w.orders[n] t.2.1 0 w.aB[m].aO:=by
   unfold ovT;rw[hn,GaL,Gab hn'];dsimp only;rw[hm,GaL,Gab hm']
   rfl
  have cl:=so.cl;obtain⟨z8,z9,z10,ec⟩:=uD W (ws:=ws) (gv:=gv) (o:=w.orders[n]) (h:=t.2.1) (Cs:=w.aB[m].aO.map bw) (e3:=some (.sh (.int t.1))) (e5:=some (.sh (.int t.2.2))) hg w.aB[m].aO 0 l x8 x9 x10 so.ok (λj=>by rw[Gdd,cW,Gak]) (by omega);have l1:=uC w.orders ws gv w.orders[n] t.2.1 0 w.aB[m].aO;have l2:=sL (kl w.orders ws gv w.orders[n] t.2.1 0 w.aB[m].aO) l;have hL:cO [.tup (w.aB[m].aO.map bw)]=some ⟨.c,.int ((w.aB[m].aO.map bw).length:Int)⟩:=fY;have sm:bV ((w.aB[m].aO.map bw).length:Int)=true:=cB (by omega) (by rw[Gaf];omega);have er:bx 0 ((w.aB[m].aO.map bw).length:Int).toNat=bx ((0:Nat):Int) w.aB[m].aO.length:=by simp
  rw[←er] at ec;have ev:=IS (A:=w.cq.map cR) (C:=w.cU.map trD) (x6:=x6) (x7:=x7) hO rfl hS hL sm ec;rw[←eo] at ev l1 l2;obtain⟨y3,y4,y5,y6,y7,y8,y9,y10,e⟩:=uE W (ws:=ws) hg ts ((ovT w ws gv t).foldl ft l) (some (.sh (.int t.1))) (some (.sh (.int t.2.1))) (some (.sh (.int t.2.2))) (some (.sh (aF w.orders[n]))) (some (.sh (.tup (w.aB[m].aO.map bw)))) z8 z9 z10 (λx hx=>ht x (Gaj _ hx)) (by omega);refine⟨y3,y4,y5,y6,y7,y8,y9,y10, ?_⟩;rw[Gci,GdP,Gap];have ed:trD t= .tup [.int t.1,.int t.2.1,.int t.2.2]:=rfl;rw[ed];have ew:bA w= .tup [.tup (w.cq.map cR),.tup (w.aB.map b7),.tup (w.cU.map trD),.tup (w.orders.map aF)]:=rfl;rw[←ew] at ev;generalize bA w=wd at*;generalize fw l=kv at*;generalize fw (List.foldl ft l (ovT w ws gv t))=kv1 at*;generalize fw _=kv2 at*;generalize aF w.orders[n]=od at*;generalize w.aB[m].aO.map bw=CS at*;generalize ws.map trD=WS at*;generalize gv.map trD=GS at*;simp only[forL,gT,gNs,GaU,GaV,Option.bind_some,ev];exact e
theorem pO:∀(fs l:List Flt),l.Nodup→(fs.foldl ft l).Nodup∧∀f,f∈fs.foldl ft l↔f∈l∨f∈fs
 |[],l,h=> ⟨h,λf=>by simp⟩
 |x::fs,l,h=>by
  rw[GbN];have e0:ft l x=if x∈l then l else l++[x]:=rfl
  rw[e0];split
  ·rename_i c;obtain⟨h1,h2⟩:=pO fs l h;refine⟨h1,λf=> ?_⟩;rw[h2,Gay];constructor
   ·rintro(q|q)
    ·exact .inl q
    ·exact .inr (.inr q)
   ·rintro(q|rfl|q)
    ·exact .inl q
    ·exact .inl c
    ·exact .inr q
  ·rename_i c;obtain⟨h1,h2⟩:=pO fs (l++[x]) (by
    rw[Gch];exact⟨h,by simp,λa ha b hb=>by rw[Gbo.mp hb];exactλe=>c (e▸ha)⟩)
   refine⟨h1,λf=> ?_⟩;rw[h2,Gax,Gbo,Gay,or_assoc]
theorem km{ws:List Tr}{c:Cap}{g s k:Int}{r:Int×Int}{f:Flt}(h:f∈dA ws c g s k r):∃top,f=((("cap",[g,s,k,r.1,r.2,top]):Flt)):=by
 unfold dA at h;split at h
 ·split at h
  ·exact⟨_,Gbo.mp h⟩
  ·simp at h
 ·simp at h
theorem jv{ws:List Tr}{g s k:Int}{c:Cap}{ms:List (Int×Int)}{f:Flt}:f∈ju ws g s k c ms↔∃h∈ms.map (·.1),f∈dA ws c g s k (h,k4 c ms h):=by
 unfold ju;rw[GbG];constructor
 ·rintro⟨r,hr,hf⟩;obtain⟨h,hh,rfl⟩:=GaF.mp hr;exact⟨h,((kh (ms.map (·.1))).2.1 h).mp hh,hf⟩
 ·rintro⟨h,hh,hf⟩;exact⟨_,GaF.mpr ⟨h,((kh (ms.map (·.1))).2.1 h).mpr hh,rfl⟩,hf⟩
theorem kn{ws:List Tr}{g s:Int}{ms:List (Int×Int)}{f:Flt}:∀(cs:List Cap) (k:Nat),f∈gA ws g s ms k cs↔∃(j:Nat) (c:Cap),cs[j]? =some c∧f∈ju ws g s ((k+j:Nat):Int) c ms
 |[],k=>by simp[gA]
 |c::cs,k=>by
  unfold gA;rw[Gax,kn cs (k+1)];constructor
  ·rintro(h| ⟨j,c',h1,h2⟩)
   ·exact⟨0,c,rfl,h⟩
   ·exact⟨j+1,c',by simpa using h1,by rw[show k+(j+1)=k+1+j by omega];exact h2⟩
  ·rintro⟨j,c',h1,h2⟩;cases j with
   |zero=>simp at h1;subst h1;exact .inl h2
   |succ j=>exact .inr ⟨j,c',by simpa using h1,by rw[show k+1+j=k+(j+1) by omega];exact h2⟩
theorem pP{os:List Order}{ws gv:List Tr}{o:Order}{h:Int}{f:Flt}:∀(cs:List Cap) (k:Nat),f∈kl os ws gv o h k cs↔∃(j:Nat) (c:Cap),cs[j]? =some c∧f∈dA ws c o.aY o.br ((k+j:Nat):Int) (h,dF os c (o.aY,o.br) h gv)
 |[],k=>by simp[kl]
 |c::cs,k=>by
  unfold kl;rw[Gax,pP cs (k+1)];constructor
  ·rintro(h| ⟨j,c',h1,h2⟩)
   ·exact⟨0,c,rfl,h⟩
   ·exact⟨j+1,c',by simpa using h1,by rw[show k+(j+1)=k+1+j by omega];exact h2⟩
  ·rintro⟨j,c',h1,h2⟩;cases j with
   |zero=>simp at h1;subst h1;exact .inl h2
   |succ j=>exact .inr ⟨j,c',by simpa using h1,by rw[show k+1+j=k+(j+1) by omega];exact h2⟩
theorem vH{ws:List Tr}{g s k:Int}{c:Cap}{ms:List (Int×Int)}:(ju ws g s k c ms).Nodup:=by
 unfold ju;have hp:=(kh (ms.map (·.1))).1;generalize lh (ms.map (·.1))=hs at*;induction hs with
 |nil=>simp
 |cons h hs ih=>
  rw[GbE] at hp;rw[Gap,Gci,Gch];refine⟨?_,ih hp.2,λa ha b hb e=> ?_⟩
  ·unfold dA;split
   ·split<;>simp
   ·simp
  ·obtain⟨t1,rfl⟩:=km ha;obtain⟨r,hr,hb⟩:=GbG.mp hb;obtain⟨h',hh',rfl⟩:=GaF.mp hr;obtain⟨t2,rfl⟩:=km hb;have:=hp.1 h' hh';simp only[Prod.mk.injEq,Gcs,true_and] at e;omega
theorem qh{ws:List Tr}{g s:Int}{ms:List (Int×Int)}:∀(cs:List Cap) (k:Nat),(gA ws g s ms k cs).Nodup
 |[],k=>by simp[gA]
 |c::cs,k=>by
  unfold gA;rw[Gch];refine⟨vH,qh cs (k+1),λa ha b hb e=> ?_⟩;obtain⟨h,_,ha⟩:=jv.mp ha;obtain⟨t1,rfl⟩:=km ha;obtain⟨j,c',_,hb⟩:=(kn cs (k+1)).mp hb;obtain⟨h',_,hb⟩:=jv.mp hb;obtain⟨t2,rfl⟩:=km hb;simp only[Prod.mk.injEq,Gcs,true_and] at e;omega
theorem uF{ws:List Tr}{g s:Int}{ms:List (Int×Int)}{f:Flt}{k:Nat}{cs:List Cap}(h:f∈gA ws g s ms k cs):∃r,f.2=g::s::r:=by
 obtain⟨j,c',_,hb⟩:=(kn cs k).mp h;obtain⟨h',_,hb⟩:=jv.mp hb;obtain⟨t2,rfl⟩:=km hb;exact⟨_,rfl⟩
theorem Ao{ss:List jt}{ws:List Tr}:∀st:List Tg,(st.map (·.1)).Nodup→(st.flatMap (tgF ss ws)).Nodup
 |[],_=>by simp
 |e::st,h=>by
  rw[Gap,Gcr] at h;rw[Gci,Gch];refine⟨qh _ _,Ao st h.2,λa ha b hb e' => ?_⟩;obtain⟨r1,h1⟩:=uF ha;obtain⟨e2,he2,hb⟩:=GbG.mp hb;obtain⟨r2,h2⟩:=uF hb;rw[e',h2] at h1;injection h1 with q1 q2
  injection q2 with q3 _
  exact h.1 (GaF.mpr ⟨e2,he2,Prod.ext q1 q3⟩)
theorem Gv{w:World}(W:bJ w){ws gv:List Tr}{st:List Tg}(I:sv w.orders gv st)(hg:fV w.orders.length gv)(f:Flt):f∈gv.flatMap (ovT w ws gv)↔f∈st.flatMap (tgF w.aB ws):=by
 have at_:∀t∈gv,∃o,w.orders[t.1.toNat]? =some o∧tk w.orders t=(o.aY,o.br):=λt ht=>by
  have g0:=hg t ht;obtain⟨n,hn⟩:=GaG g0.1;have hn' :n<w.orders.length:=by omega
  have e:w.orders[t.1.toNat]? =some w.orders[n]:=by rw[hn,GaL,Gab hn']
  exact⟨_,e,by unfold tk;rw[e]⟩
 have key:∀e∈st,∀c h,k4 c e.2 h=dF w.orders c e.1 h gv:=λe he c h=>by rw[sJ,←I.ms e he]
 rw[GbG,GbG];constructor
 ·rintro⟨t,ht,hf⟩;obtain⟨o,ho,hk⟩:=at_ t ht;obtain⟨e,he,ek⟩:=GaF.mp (I.cov t ht);refine⟨e,he, ?_⟩;unfold ovT at hf;rw[ho] at hf;dsimp only at hf;obtain⟨j,c,h1,h2⟩:=(pP _ 0).mp hf;have e1:e.1=(o.aY,o.br):=ek.trans hk;unfold tgF;rw[kn];rw[e1];refine⟨j,c,h1,jv.mpr ⟨t.2.1, ?_, ?_⟩⟩
  ·rw[I.ms e he,GaO];exact GaF.mpr ⟨t,Gca.mpr ⟨ht,GaN ek.symm⟩,rfl⟩
  ·rw[key e he,e1];exact h2
 ·rintro⟨e,he,hf⟩;unfold tgF at hf;obtain⟨j,c,h1,h2⟩:=(kn _ 0).mp hf;obtain⟨h,hh,h3⟩:=jv.mp h2;rw[I.ms e he,GaO] at hh;obtain⟨t,ht,rfl⟩:=GaF.mp hh;obtain⟨ht1,ht2⟩:=Gca.mp ht;have ht2:=GaE ht2;obtain⟨o,ho,hk⟩:=at_ t ht1;have e1:e.1=(o.aY,o.br):=ht2.symm.trans hk;refine⟨t,ht1, ?_⟩;unfold ovT;rw[ho];dsimp only;rw[pP];rw[key e he,e1] at h3;rw[e1] at h1;exact⟨j,c,h1,h3⟩
theorem Gw{α:Type} [DecidableEq α]:∀{l m:List α},l.Nodup→m.Nodup→(∀a,a∈l↔a∈m)→l.Perm m:=λh1 h2 h=>(List.perm_ext_iff_of_nodup h1 h2).mpr h
theorem Gx{wd:D}{W G:List D}{l:List Flt}{y3 y4 y5 y6 y7 y8 y9 y10:Option Slot}(e:forL (gT [3,4,5]) fJ G [some (.sh wd),some (.sh (.tup [.tup W,.tup G])),some (.own (.dT (fw []))),none,none,none,none,none,none,none,none]=some (.nx [some (.sh wd),some (.sh (.tup [.tup W,.tup G])),some (.own (.dT (fw l))),y3,y4,y5,y6,y7,y8,y9,y10]))(im:aQ (l.map az)=true):
  kN [wd,.tup [.tup W,.tup G]]=some (.lst (l.map az)):=by
 have hk:=Eb l;have e0:fw []=[]:=rfl;rw[e0] at e;refine bg rfl ?_;unfold kM;refine(av (e:=[some (.sh wd),some (.sh (.tup [.tup W,.tup G])),some (.own (.dT [])),none,none,none,none,none,none,none,none]) (by simp[bz,DL.stored])).trans ?_;refine(av (e:=[some (.sh wd),some (.sh (.tup [.tup W,.tup G])),some (.own (.dT (fw l))),y3,y4,y5,y6,y7,y8,y9,y10]) (by simp[-forL,e,freed])).trans ?_;generalize fw l=kv at*;generalize l.map az=R at*;simp[BL,hk,wm,D.nU,im]
theorem IT{ns:List Int}{wd:D}{q11 q12 len mn nv:Int}{W G F Fl R:List D}(e1:ij [.scr ns]=some wd)(iwd:wd.imm=true)(d11:a9 [.scr ns,.int 11,.int 9]=some (.int q11))(e2:fG [.scr ns,wd,.int q11]=some (.tup W))(iw:aQ W=true)(hl:cO [.scr ns]=some ⟨.c,.int len⟩)(hm:nW [.int len,.int 30]=some ⟨.c,.int mn⟩)(d12:a9 [.scr ns,.int 12,.int 4]=some (.int q12))(hn:mn+q12=nv)(e3:fH [.scr ns,wd,.int nv]=some (.tup G))(ig:aQ G=true)(e4:lT [wd,.tup [.tup W,.tup G]]=some (.lst F))(e5:gr [.lst F]=some (.bl true))
  (zf:F.length≤16777216)(hc:cF (gN 0) (aZ eqB (ixE (vE 0) (kE (.int 0))) (kE (.str "cap"))) (vE 0) F [none]=some R)(es:kN [wd,.tup [.tup W,.tup G]]=some (.lst Fl))(eS:g9 [.lst Fl]=some ⟨.tn,.lst R⟩)(eq:eqB (.lst R) (.lst R)=some true):rW [.scr ns]=some (.bl true):=by
 have rl:∀L:List D,kB (.lst L)=⟨.tn,.lst L⟩:=λ_=>rfl;have rt:=c0 (d:= .tup W) (by simp[iw]);have rg:=c0 (d:= .tup G) (by simp[ig]);have rwd:=c0 iwd;refine bg rfl ?_;unfold FK;refine(av (e:=[some (.sh (.scr ns)),some (.sh wd),none,none,none]) (by simp[bz,e1,rwd])).trans ?_;refine(av (e:=[some (.sh (.scr ns)),some (.sh wd),some (.sh (.tup W)),none,none]) (by simp[d11,e2,rt])).trans ?_;refine(av (e:=[some (.sh (.scr ns)),some (.sh wd),some (.sh (.tup W)),some (.sh (.tup [.tup W,.tup G])),none]) (by simp[-EB,hl,hm,d12,hn,e3,rg,iw,ig,ai])).trans ?_;refine(av (e:=[some (.sh (.scr ns)),some (.sh wd),some (.sh (.tup W)),some (.sh (.tup [.tup W,.tup G])),some (.own (.lst F))]) (by simp[e4,rl])).trans ?_;refine(av (e:=[some (.sh (.scr ns)),some (.sh wd),some (.sh (.tup W)),some (.sh (.tup [.tup W,.tup G])),some (.own (.lst F))]) (by simp[e5])).trans ?_;simp[-cF,ai,DL.compEnv,fX,zf,hc,es,rl,eS,eq]
theorem Gy(ns:List Int)(hl:ns.length≤63):rW [.scr ns]=some (.bl true):=by
 obtain⟨w,W,e1⟩:=Iu ns;have d11:=aS (ns:=ns) (k:=11) (m:=9) (by omega) (by omega) (by omega);have l11:=aX ns 11 9 (by omega);generalize draw ns 11 9=q11 at*;obtain⟨q,rfl⟩:=GaG l11.1;obtain⟨ws,_,e2⟩:=DF (ns:=ns) (n:=q) W (by omega);have d12:=aS (ns:=ns) (k:=12) (m:=4) (by omega) (by omega) (by omega);obtain⟨n,len,mn,hn,hlen,hmn,hsum⟩:=Gm hl;obtain⟨gv,g1,g2,e3⟩:=DJ (ns:=ns) (n:=n) W hn;obtain⟨st,rows,I,r2,r1,r3,e4,z⟩:=Ai (ws:=ws) W g2 g1;have words:=E9 (w:=w) (ws:=ws) (gv:=gv) (T:=gv.foldl (cG w.orders) []) (st:=st) (gs:=w.cU.foldl bS []) (wd:=wide w.cU) (rows:=rows);have flt:=Gp (w:=w) (ws:=ws) (gv:=gv) (T:=gv.foldl (cG w.orders) []) (st:=st) (gs:=w.cU.foldl bS []) (wd:=wide w.cU) (rows:=rows);obtain⟨y3,y4,y5,y6,y7,y8,y9,y10,eo⟩:=uE W (ws:=ws) (gv:=gv) g2 gv [] none none none none none none none none g2 (by simp;omega);have en:=Gx (W:=ws.map trD) (G:=gv.map trD) eo (gJ _);obtain⟨a1,a2⟩:=pO (gv.flatMap (ovT w ws gv)) [] List.nodup_nil;have pm:(st.flatMap (tgF w.aB ws)).Perm ((gv.flatMap (ovT w ws gv)).foldl ft []):=Gw (Ao st I.nd) a1 λf=>by
  rw[a2,Gv W I g2];simp
 have zn:((gv.flatMap (ovT w ws gv)).foldl ft []).length<1000000:=by
  rw[←pm.length_eq];have:=congrArg List.length flt;have h2:=GcR (iD "cap") (st.flatMap (tgF w.aB ws)++cS w.orders (w.cU.foldl bS []) (wide w.cU) rows++twF (gv.foldl (cG w.orders) [])++gv.flatMap (iH w ws));omega
 generalize hA:st.flatMap (tgF w.aB ws)++cS w.orders (w.cU.foldl bS []) (wide w.cU) rows++twF (gv.foldl (cG w.orders) [])++gv.flatMap (iH w ws)=A at*;have lst:gr [.lst ((m6 A).map az)]=some (.bl true):=Gj λf hf=>words f ((kQ _).mem_iff.mp hf);have hc:=E5 "cap" (m6 A);rw[vG (gs:=(gv.flatMap (ovT w ws gv)).foldl ft []) (iD "cap") (by rw[flt];exact pm)] at hc;have zf:((m6 A).map az).length≤16777216:=by
  rw[Gaf,(kQ _).length_eq];omega
 exact IT e1 (Bo W) d11 e2 (jI ws) hlen hmn d12 hsum e3 (jI gv) e4 lst zf hc en (sD _ zn) (IL _)
end Maths
namespace Hd
open PySem PySem.W PyProof.Rows L2
noncomputable abbrev p0:=PySem.Challenge.pw_dosehouse_k42_faults_of_caps
noncomputable def top(i:Nat):Stmt:=p0.main.body.getD i (.Pass ⟨0,0,0,0⟩)
noncomputable def view:Program:={p0 with main:={p0.main with body:=[1,3,4,6,8,10,11,12,13,14,15,16,17,18,20,21,22,23,24,25,26,27,28,29,30,31,32,33,34,35,36].map top}}
noncomputable abbrev fd (n:Str) (i:Nat) (m:Str) (t c:Nat):FuncData:=fnOf n n (mD (top i)) (jA (top i)) (aJ (top i)) .none .none .none (.str m t) none (.ref c) .none
noncomputable def fo(d:FuncData):Obj:=⟨.type "function",none,.func d,#[]⟩
noncomputable def co(n:Str)(t l k a:Nat)(x y:Value)(b u:Nat):Obj:={cls:= .type "code",data:= .fields #[.str n t,.str n (t+1),.str "/claim/cut.py" (t+2),.int l 0,.int k 0,.int 0 0,.int 0 0,.int 3 0,.ref a,.bool true,.int 181 0,.ref (a+1),.none,x,y,.ref b,.int u 0,.int l 0,.str "/claim/cut.py" (u+1)]}
noncomputable def e(P:Params)(n:Str)(t:Nat)(v:Value):DictEntry:=⟨PyData.keyHash P n,.str n t,v⟩
noncomputable def r(P:Params)(n:Str)(t a:Nat):DictEntry:=e P n t (.ref a)
noncomputable abbrev m0:Str:="dosehouse.bounds"
noncomputable abbrev m1:Str:="dosehouse.dues"
noncomputable abbrev m2:Str:="dosehouse.faults"
noncomputable abbrev m3:Str:="dosehouse.weights"
noncomputable abbrev m4:Str:="dosehouse.windows"
noncomputable abbrev m5:Str:="law_dosehouse_k42_faults_of_caps"
noncomputable abbrev qV:=fd "bound" 1 m0 187 20
noncomputable abbrev oD:=fd "due_of" 3 m1 197 27
noncomputable abbrev oE:=fd "astray" 4 m1 197 34
noncomputable abbrev jJ:=fd "weight_at" 6 m3 219 41
noncomputable abbrev vI:=fd "sums" 8 m4 232 48
noncomputable abbrev fj:=fd "goes_by_weight" 10 m2 248 53
noncomputable abbrev gS:=fd "lone_faults" 11 m2 248 58
noncomputable abbrev dM:=fd "marks_by_target" 12 m2 248 65
noncomputable abbrev iV:=fd "cap_faults" 13 m2 248 72
noncomputable abbrev fm:=fd "gaps_by_stuffs" 14 m2 248 79
noncomputable abbrev gU:=fd "gap_between" 15 m2 248 86
noncomputable abbrev iW:=fd "gap_faults" 16 m2 248 91
noncomputable abbrev gB:=fd "twice_faults" 17 m2 248 96
noncomputable abbrev oF:=fd "faults" 18 m2 248 103
noncomputable abbrev kS:=fd "_law_draw" 20 m5 333 110
noncomputable abbrev kT:=fd "_law_caps" 21 m5 333 117
noncomputable abbrev iX:=fd "_law_stuffs" 22 m5 333 124
noncomputable abbrev kU:=fd "_law_bars" 23 m5 333 131
noncomputable abbrev kW:=fd "_law_dues" 24 m5 333 138
noncomputable abbrev jK:=fd "_law_world" 25 m5 333 145
noncomputable abbrev kX:=fd "_law_hour" 26 m5 333 152
noncomputable abbrev iY:=fd "_law_amount" 27 m5 333 159
noncomputable abbrev gV:=fd "_law_weights" 28 m5 333 164
noncomputable abbrev gW:=fd "_law_givings" 29 m5 333 169
noncomputable abbrev iZ:=fd "_law_weight" 30 m5 333 176
noncomputable abbrev jL:=fd "_law_bound" 31 m5 333 183
noncomputable abbrev jM:=fd "_law_total" 32 m5 333 190
noncomputable abbrev kY:=fd "_law_over" 33 m5 333 197
noncomputable abbrev jN:=fd "_law_whole" 34 m5 333 204
noncomputable abbrev j0:=fd "_law_listed" 35 m5 333 211
noncomputable abbrev Cu:=fd "law" 36 m5 333 216
noncomputable def K(P:Params):Frag:=[(3,{cls:= .type "dict",data:= .dict #[e P "__name__" 165 (.str "law_dosehouse_k42_faults_of_caps" 333),e P "__doc__" 166 (.none),e P "__package__" 167 (.none),e P "__loader__" 168 (.builtin "__main__.__loader__#opaque"),e P "__spec__" 169 (.none),r P "__annotations__" 170 6,r P "__builtins__" 171 4,e P "__file__" 173 (.str "/claim/cut.py" 172),e P "__cached__" 174 (.none),r P "bound" 196 21,r P "due_of" 209 28,r P "astray" 218 35,r P "weight_at" 231 42,r P "sums" 247 49,r P "goes_by_weight" 255 54,r P "lone_faults" 261 59,r P "marks_by_target" 272 66,r P "cap_faults" 290 73,r P "gaps_by_stuffs" 299 80,r P "gap_between" 308 87,r P "gap_faults" 314 92,r P "twice_faults" 320 97,r P "faults" 332 104,r P "_law_draw" 344 111,r P "_law_caps" 360 118,r P "_law_stuffs" 374 125,r P "_law_bars" 388 132,r P "_law_dues" 401 139,r P "_law_world" 420 146,r P "_law_hour" 435 153,r P "_law_amount" 448 160,r P "_law_weights" 454 165,r P "_law_givings" 460 170,r P "_law_weight" 471 177,r P "_law_bound" 479 184,r P "_law_total" 494 191,r P "_law_over" 511 198,r P "_law_whole" 518 205,r P "_law_listed" 527 212,r P "law" 533 217] 40}),
 (21,fo qV),(20,co "bound" 189 2 2 15 (.ref 17) (.ref 18) 19 194),
 (28,fo oD),(27,co "due_of" 199 11 2 22 (.ref 24) (.ref 25) 26 207),
 (35,fo oE),(34,co "astray" 210 20 2 29 (.ref 31) (.ref 32) 33 216),
 (42,fo jJ),(41,co "weight_at" 221 26 3 36 (.ref 38) (.ref 39) 40 229),
 (49,fo vI),(48,co "sums" 234 33 2 43 (.ref 45) (.ref 46) 47 245),
 (54,fo fj),(53,co "goes_by_weight" 250 47 1 50 (.none) (.none) 52 253),
 (59,fo gS),(58,co "lone_faults" 256 49 3 55 (.none) (.none) 57 259),
 (66,fo dM),(65,co "marks_by_target" 262 67 2 60 (.ref 62) (.ref 63) 64 270),
 (73,fo iV),(72,co "cap_faults" 273 73 3 67 (.ref 69) (.ref 70) 71 288),
 (80,fo fm),(79,co "gaps_by_stuffs" 291 84 1 74 (.ref 76) (.ref 77) 78 297),
 (87,fo gU),(86,co "gap_between" 300 90 3 81 (.ref 83) (.ref 84) 85 306),
 (92,fo iW),(91,co "gap_faults" 309 94 2 88 (.none) (.none) 90 312),
 (97,fo gB),(96,co "twice_faults" 315 107 2 93 (.none) (.none) 95 318),
 (104,fo oF),(103,co "faults" 321 114 2 98 (.ref 100) (.ref 101) 102 330),
 (111,fo kS),(110,co "_law_draw" 335 122 3 105 (.ref 107) (.ref 108) 109 342),
 (118,fo kT),(117,co "_law_caps" 345 127 4 112 (.ref 114) (.ref 115) 116 358),
 (125,fo iX),(124,co "_law_stuffs" 361 141 2 119 (.ref 121) (.ref 122) 123 372),
 (132,fo kU),(131,co "_law_bars" 375 150 3 126 (.ref 128) (.ref 129) 130 386),
 (139,fo kW),(138,co "_law_dues" 389 159 3 133 (.ref 135) (.ref 136) 137 399),
 (146,fo jK),(145,co "_law_world" 402 167 1 140 (.ref 142) (.ref 143) 144 418),
 (153,fo kX),(152,co "_law_hour" 421 185 4 147 (.ref 149) (.ref 150) 151 433),
 (160,fo iY),(159,co "_law_amount" 436 198 4 154 (.ref 156) (.ref 157) 158 446),
 (165,fo gV),(164,co "_law_weights" 449 205 3 161 (.none) (.none) 163 452),
 (170,fo gW),(169,co "_law_givings" 455 214 3 166 (.none) (.none) 168 458),
 (177,fo iZ),(176,co "_law_weight" 461 223 3 171 (.ref 173) (.ref 174) 175 469),
 (184,fo jL),(183,co "_law_bound" 472 229 2 178 (.ref 180) (.ref 181) 182 477),
 (191,fo jM),(190,co "_law_total" 480 237 5 185 (.ref 187) (.ref 188) 189 492),
 (198,fo kY),(197,co "_law_over" 495 243 2 192 (.ref 194) (.ref 195) 196 509),
 (205,fo jN),(204,co "_law_whole" 512 254 1 199 (.ref 201) (.ref 202) 203 516),
 (212,fo j0),(211,co "_law_listed" 519 256 1 206 (.ref 208) (.ref 209) 210 525),
 (217,fo Cu),(216,co "law" 528 266 1 213 (.none) (.none) 215 531)]
noncomputable def as_:List Addr:=[3,21,20,28,27,35,34,42,41,49,48,54,53,59,58,66,65,73,72,80,79,87,86,92,91,97,96,104,103,111,110,118,117,125,124,132,131,139,138,146,145,153,152,160,159,165,164,170,169,177,176,184,183,191,190,198,197,205,204,212,211,217,216]
noncomputable def hook:Hook:=kHook K as_ (λ_=>rfl)
noncomputable def xt(s:Shared):Bool:=xlAt view [] s&&recOk (RowW.records (OpenRow.toRowW (OpenLaw.row PySem.Challenge.rw_dosehouse_k42_faults_of_caps))) s
theorem left:LeftO p0 view [] xt hook.obs hook.val 2240:=λw=>by kernel_rfl
end Hd
seal L2.PE L2.PT L2.PW L2.PA L2.PS L2.PSs L2.PG L2.PGs L2.PI
namespace Der
open PySem PySem.Spec PyProof.Rows L2 DL Den
noncomputable abbrev top:=Hd.top
noncomputable abbrev Ap:Stmt:=top 1
noncomputable abbrev uG:Stmt:=top 3
noncomputable abbrev uH:Stmt:=top 4
noncomputable abbrev oG:Stmt:=top 6
noncomputable abbrev Cv:Stmt:=top 8
noncomputable abbrev jO:Stmt:=top 10
noncomputable abbrev m8:Stmt:=top 11
noncomputable abbrev jw:Stmt:=top 12
noncomputable abbrev mY:Stmt:=top 13
noncomputable abbrev jP:Stmt:=top 14
noncomputable abbrev m9:Stmt:=top 15
noncomputable abbrev mZ:Stmt:=top 16
noncomputable abbrev ll:Stmt:=top 17
noncomputable abbrev uI:Stmt:=top 18
noncomputable abbrev qi:Stmt:=top 20
noncomputable abbrev qj:Stmt:=top 21
noncomputable abbrev n4:Stmt:=top 22
noncomputable abbrev qk:Stmt:=top 23
noncomputable abbrev ql:Stmt:=top 24
noncomputable abbrev oH:Stmt:=top 25
noncomputable abbrev qp:Stmt:=top 26
noncomputable abbrev n5:Stmt:=top 27
noncomputable abbrev ma:Stmt:=top 28
noncomputable abbrev mf:Stmt:=top 29
noncomputable abbrev n6:Stmt:=top 30
noncomputable abbrev oI:Stmt:=top 31
noncomputable abbrev oJ:Stmt:=top 32
noncomputable abbrev qq:Stmt:=top 33
noncomputable abbrev oK:Stmt:=top 34
noncomputable abbrev n8:Stmt:=top 35
noncomputable abbrev Gz:Stmt:=top 36
theorem all1{K:PySem.W.Frag}{fd:FuncData}{p0:Str}(h:∀v0:Value,bindArgs fd ⟨[v0],[]⟩=pure ([p0].zip [v0])):Binds K fd [p0] []:= .all λus hl=>match us,hl with|[v0],_=>h v0
theorem all2{K:PySem.W.Frag}{fd:FuncData}{p0 p1:Str}(h:∀v0 v1:Value,bindArgs fd ⟨[v0,v1],[]⟩=pure ([p0,p1].zip [v0,v1])):Binds K fd [p0,p1] []:= .all λus hl=>match us,hl with|[v0,v1],_=>h v0 v1
theorem t9{K:PySem.W.Frag}{fd:FuncData}{p0 p1 p2:Str}(h:∀v0 v1 v2:Value,bindArgs fd ⟨[v0,v1,v2],[]⟩=pure ([p0,p1,p2].zip [v0,v1,v2])):Binds K fd [p0,p1,p2] []:= .all λus hl=>match us,hl with|[v0,v1,v2],_=>h v0 v1 v2
theorem L7{K:PySem.W.Frag}{fd:FuncData}{p0 p1 p2 p3:Str}(h:∀v0 v1 v2 v3:Value,bindArgs fd ⟨[v0,v1,v2,v3],[]⟩=pure ([p0,p1,p2,p3].zip [v0,v1,v2,v3])):Binds K fd [p0,p1,p2,p3] []:= .all λus hl=>match us,hl with|[v0,v1,v2,v3],_=>h v0 v1 v2 v3
theorem Oo{K:PySem.W.Frag}{fd:FuncData}{p0 p1 p2 p3 p4:Str}(h:∀v0 v1 v2 v3 v4:Value,bindArgs fd ⟨[v0,v1,v2,v3,v4],[]⟩=pure ([p0,p1,p2,p3,p4].zip [v0,v1,v2,v3,v4])):Binds K fd [p0,p1,p2,p3,p4] []:= .all λus hl=>match us,hl with|[v0,v1,v2,v3,v4],_=>h v0 v1 v2 v3 v4
section
variable{Pm:Params}{mg:Str→Option Value}
def Txt(Pm:Params)(mg:Str→Option Value):Prop:=∃h:Heap,(Hd.K Pm).In h∧h.Ns mainGlobals mg
theorem Txt.at{n:Str}{v:Value}(T:Txt Pm mg)(e:PySem.W.nsIn (Hd.K Pm) mainGlobals n=some (some v):=by kernel_rfl):mg n=some v:=let⟨_,X,G⟩:=T;PySem.W.mg_of X G e
theorem Txt.no{n:Str}(T:Txt Pm mg)(e:PySem.W.nsIn (Hd.K Pm) mainGlobals n=some none:=by kernel_rfl):mg n=none:=let⟨_,X,G⟩:=T;PySem.W.mg_none_of X G e
theorem mkF{x:Str}{st:Stmt}{f:Addr}{pm cd:Value}(l:(Hd.K Pm).lookup f=some (Hd.fo (PySem.W.fnOf x x (mD st) (jA st) (aJ st) .none .none .none pm none cd .none)):=by kernel_rfl)(c:PySem.W.codeIn (Hd.K Pm) cd x=true:=by kernel_rfl)(k:PySem.W.keepIn (Hd.K Pm) (.ref f)=true:=by kernel_rfl):Fun (Hd.K Pm) x x st f (PySem.W.fnOf x x (mD st) (jA st) (aJ st) .none .none .none pm none cd .none):=JV l c k
theorem Cw:Fun (Hd.K Pm) "bound" "bound" Ap 21 Hd.qV:=mkF
theorem kI:Binds (Hd.K Pm) Hd.qV ["cap","weight"] []:=all2 λ_ _=>rfl
theorem sN:Fun (Hd.K Pm) "due_of" "due_of" uG 28 Hd.oD:=mkF
theorem kb:Binds (Hd.K Pm) Hd.oD ["order","hour"] []:=all2 λ_ _=>rfl
theorem Aq:Fun (Hd.K Pm) "astray" "astray" uH 35 Hd.oE:=mkF
theorem lR:Binds (Hd.K Pm) Hd.oE ["order","hour"] []:=all2 λ_ _=>rfl
theorem mh:Fun (Hd.K Pm) "weight_at" "weight_at" oG 42 Hd.jJ:=mkF
theorem i8:Binds (Hd.K Pm) Hd.jJ ["weights","guest","hour"] []:=t9 λ_ _ _=>rfl
theorem GA:Fun (Hd.K Pm) "sums" "sums" Cv 49 Hd.vI:=mkF
theorem rV:Binds (Hd.K Pm) Hd.vI ["marks","hours"] []:=all2 λ_ _=>rfl
theorem ko:Fun (Hd.K Pm) "goes_by_weight" "goes_by_weight" jO 54 Hd.fj:=mkF
theorem fb:Binds (Hd.K Pm) Hd.fj ["stuff"] []:=all1 λ_=>rfl
theorem n9:Fun (Hd.K Pm) "lone_faults" "lone_faults" m8 59 Hd.gS:=mkF
theorem gM:Binds (Hd.K Pm) Hd.gS ["world","weights","giving"] []:=t9 λ_ _ _=>rfl
theorem jQ:Fun (Hd.K Pm) "marks_by_target" "marks_by_target" jw 66 Hd.dM:=mkF
theorem dI:Binds (Hd.K Pm) Hd.dM ["world","givings"] []:=all2 λ_ _=>rfl
theorem oM:Fun (Hd.K Pm) "cap_faults" "cap_faults" mY 73 Hd.iV:=mkF
theorem iL:Binds (Hd.K Pm) Hd.iV ["world","weights","givings"] []:=t9 λ_ _ _=>rfl
theorem kq:Fun (Hd.K Pm) "gaps_by_stuffs" "gaps_by_stuffs" jP 80 Hd.fm:=mkF
theorem ff:Binds (Hd.K Pm) Hd.fm ["bars"] []:=all1 λ_=>rfl
theorem nh:Fun (Hd.K Pm) "gap_between" "gap_between" m9 87 Hd.gU:=mkF
theorem gO:Binds (Hd.K Pm) Hd.gU ["gaps","order","other"] []:=t9 λ_ _ _=>rfl
theorem oN:Fun (Hd.K Pm) "gap_faults" "gap_faults" mZ 92 Hd.iW:=mkF
theorem iM:Binds (Hd.K Pm) Hd.iW ["world","givings"] []:=all2 λ_ _=>rfl
theorem mj:Fun (Hd.K Pm) "twice_faults" "twice_faults" ll 97 Hd.gB:=mkF
theorem gp:Binds (Hd.K Pm) Hd.gB ["world","givings"] []:=all2 λ_ _=>rfl
theorem Ar:Fun (Hd.K Pm) "faults" "faults" uI 104 Hd.oF:=mkF
theorem ou:Binds (Hd.K Pm) Hd.oF ["world","book"] []:=all2 λ_ _=>rfl
theorem ar:Fun (Hd.K Pm) "_law_draw" "_law_draw" qi 111 Hd.kS:=mkF
theorem ao:Binds (Hd.K Pm) Hd.kS ["_law_script","_law_k","_law_many"] []:=t9 λ_ _ _=>rfl
theorem sO:Fun (Hd.K Pm) "_law_caps" "_law_caps" qj 118 Hd.kT:=mkF
theorem kJ:Binds (Hd.K Pm) Hd.kT ["_law_script","_law_k","_law_part","_law_scale"] []:=L7 λ_ _ _ _=>rfl
theorem oO:Fun (Hd.K Pm) "_law_stuffs" "_law_stuffs" n4 125 Hd.iX:=mkF
theorem iN:Binds (Hd.K Pm) Hd.iX ["_law_script","_law_scale"] []:=all2 λ_ _=>rfl
theorem sP:Fun (Hd.K Pm) "_law_bars" "_law_bars" qk 132 Hd.kU:=mkF
theorem kK:Binds (Hd.K Pm) Hd.kU ["_law_script","_law_many","_law_scale"] []:=t9 λ_ _ _=>rfl
theorem sQ:Fun (Hd.K Pm) "_law_dues" "_law_dues" ql 139 Hd.kW:=mkF
theorem jq:Binds (Hd.K Pm) Hd.kW ["_law_script","_law_k","_law_scale"] []:=t9 λ_ _ _=>rfl
theorem qr:Fun (Hd.K Pm) "_law_world" "_law_world" oH 146 Hd.jK:=mkF
theorem jE:Binds (Hd.K Pm) Hd.jK ["_law_script"] []:=all1 λ_=>rfl
theorem sR:Fun (Hd.K Pm) "_law_hour" "_law_hour" qp 153 Hd.kX:=mkF
theorem kL:Binds (Hd.K Pm) Hd.kX ["_law_script","_law_world_here","_law_order","_law_k"] []:=L7 λ_ _ _ _=>rfl
theorem oP:Fun (Hd.K Pm) "_law_amount" "_law_amount" n5 160 Hd.iY:=mkF
theorem iP:Binds (Hd.K Pm) Hd.iY ["_law_script","_law_world_here","_law_order","_law_k"] []:=L7 λ_ _ _ _=>rfl
theorem ni:Fun (Hd.K Pm) "_law_weights" "_law_weights" ma 165 Hd.gV:=mkF
theorem gQ:Binds (Hd.K Pm) Hd.gV ["_law_script","_law_world_here","_law_many"] []:=t9 λ_ _ _=>rfl
theorem nj:Fun (Hd.K Pm) "_law_givings" "_law_givings" mf 170 Hd.gW:=mkF
theorem gR:Binds (Hd.K Pm) Hd.gW ["_law_script","_law_world_here","_law_many"] []:=t9 λ_ _ _=>rfl
theorem oQ:Fun (Hd.K Pm) "_law_weight" "_law_weight" n6 177 Hd.iZ:=mkF
theorem iQ:Binds (Hd.K Pm) Hd.iZ ["_law_weights_here","_law_guest","_law_hour_here"] []:=t9 λ_ _ _=>rfl
theorem qt:Fun (Hd.K Pm) "_law_bound" "_law_bound" oI 184 Hd.jL:=mkF
theorem dX:Binds (Hd.K Pm) Hd.jL ["_law_cap","_law_weight_here"] []:=all2 λ_ _=>rfl
theorem qu:Fun (Hd.K Pm) "_law_total" "_law_total" oJ 191 Hd.jM:=mkF
theorem jF:Binds (Hd.K Pm) Hd.jM ["_law_world_here","_law_book","_law_own","_law_cap","_law_hour_here"] []:=Oo λ_ _ _ _ _=>rfl
theorem sS:Fun (Hd.K Pm) "_law_over" "_law_over" qq 198 Hd.kY:=mkF
theorem kM:Binds (Hd.K Pm) Hd.kY ["_law_world_here","_law_book"] []:=all2 λ_ _=>rfl
theorem qv:Fun (Hd.K Pm) "_law_whole" "_law_whole" oK 205 Hd.jN:=mkF
theorem jG:Binds (Hd.K Pm) Hd.jN ["_law_found"] []:=all1 λ_=>rfl
theorem oR:Fun (Hd.K Pm) "_law_listed" "_law_listed" n8 212 Hd.j0:=mkF
theorem iU:Binds (Hd.K Pm) Hd.j0 ["_law_found"] []:=all1 λ_=>rfl
theorem Ng:Fun (Hd.K Pm) "law" "law" Gz 217 Hd.Cu:=mkF
theorem Txt.Nh(T:Txt Pm mg):mg "law"=some (.ref 217):=T.at
theorem FK:Binds (Hd.K Pm) Hd.Cu ["_law_script"] []:=all1 λ_=>rfl
theorem Txt.Nj(T:Txt Pm mg):mg "any"=none:=T.no
theorem Txt.L8(T:Txt Pm mg):mg "bool"=none:=T.no
theorem Txt.mq(T:Txt Pm mg):mg "enumerate"=none:=T.no
theorem Txt.Nk(T:Txt Pm mg):mg "int"=none:=T.no
theorem Txt.gC(T:Txt Pm mg):mg "isinstance"=none:=T.no
theorem Txt.jR(T:Txt Pm mg):mg "len"=none:=T.no
theorem Txt.GB(T:Txt Pm mg):mg "list"=none:=T.no
theorem Txt.Jd(T:Txt Pm mg):mg "max"=none:=T.no
theorem Txt.Je(T:Txt Pm mg):mg "min"=none:=T.no
theorem Txt.j3(T:Txt Pm mg):mg "range"=none:=T.no
theorem Txt.ku(T:Txt Pm mg):mg "sorted"=none:=T.no
theorem Txt.Nl(T:Txt Pm mg):mg "str"=none:=T.no
theorem Txt.jS(T:Txt Pm mg):mg "tuple"=none:=T.no
end
theorem b6{X:Cx}{e:Expr}{pos p:Pos}{k m np:Nat}{fa:Addr}{fd:FuncData}{ps:List Str}{sp:List D→Option D}{x:Str}{st:Stmt}{es:List Expr}{r:DA}(F:cw X.prog X.w X.K X.mg X.base CX0 k fa fd ps (spD X.K np sp))(hr:iq m X.A)(hg:Gl X x)(hm:X.mg x=some (.ref fa))(hF:Fun X.K x x st fa fd)(hb:Binds X.K fd ps [])(ha:PAd X (e::es) r)(hl:∀env rs,r env=some rs→rs.length=np)(hk:k≤m:=by decide)(hdb:(x==("__debug__":Str))=false:=by decide)(he:starEach (e::es) X.env=(false,eval e X.env)::starEach es X.env:=by rfl)(hpl:(backTo pos (starEach es X.env)).any (·.1)=false:=by rfl):PEd X (.Call (.Name x p) (e::es) [] pos) (aH sp r):=HA F (hr.mono hk) hg hm hF.kp hb M5 ha hl hdb he hpl
seal Hd.K
section
variable{P:Program}{w:World}{Pm:Params}{mg:Str→Option Value}{base:Heap}
theorem GC:aW ["cap","weight"] ["cap","weight"] (aJ Ap):=fS
theorem GF(T:Txt Pm mg):cw P w (Hd.K Pm) mg base CX0 1 21 Hd.qV ["cap","weight"] (spD (Hd.K Pm) 2 jD):=by
 refine cA Cw GC rfl λcdv A outer s H E hr=> ?_;have hu:=cN hr;have hu20:=bQ hr;refine a8 0 _ λv0=>a8 1 _ λv1=> ?_;exact(ae (bD (aN (bO hu20) bP (ah hu (v0 _) a6) bq (aK _))
  (aw (aV (ah hu (v0 _) a6)))
  b5)
 (ae (bD (aN (bO hu20) bP (ah hu (v0 _) a6) bq (aK _))
  (aw (aV (ah hu (v0 _) a6)))
  b5)
 (ae (bD (aN uP qP (v1 _) fO (aK _))
  (aw (aV fO))
  b5)
 (aw (aV (kC (bC (v1 _) (ah hu (v0 _) a6)) (ah hu (v0 _) a6)))))))
theorem uJ:aW ["order","hour","dues","behind","k"] ["order","hour"] (aJ uG):=fS
theorem uK(T:Txt Pm mg):cw P w (Hd.K Pm) mg base CX0 1 28 Hd.oD ["order","hour"] (spD (Hd.K Pm) 2 jk):=by
 refine cA sN uJ rfl λcdv A outer s H E hr=> ?_;have sc:=uJ;have hu:=cN hr;have hu20:=bQ hr;refine a8 0 _ λv0=>a8 1 _ λv1=>a8 2 _ λv2=>a8 3 _ λv3=>a8 4 _ λv4=>af 2 "dues" λl2=>af 3 "behind" λl3=>af 4 "k" λl4=> ?_;exact(ae (ax (i:=2) sc.nd rfl l2 (ah hu (v0 _) a6))
 (ae (bD (aN (bO hu20) bP (ah hu (v2 _) a6) bq (aK _))
  (aw (aV fO))
  b5)
 (ae (ax (i:=3) sc.nd rfl l3 (jd (v1 _) (jd (ah hu (v2 _) a6) (ah hu (v2 _) a6))))
 (ae (ax (i:=4) sc.nd rfl l4 (kC (v3 _) (ah hu (v2 _) a6)))
 (ae (bD (u7 (pk (EJ vY rh pS lJ a6 (v4 _) (ah hu (v2 _) a6))) (rm (aN mP jX (jd (v3 _) (bC (v4 _) (ah hu (v2 _) a6))) (aD (ah hu (v2 _) a6) (ah hu (v2 _) a6)) (aK _)))).pt
  (aw (aV fO))
  b5)
 (aw (aV (v4 _))))))))
theorem uL:aW ["order","hour","dues"] ["order","hour"] (aJ uH):=fS
theorem Ec(T:Txt Pm mg):cw P w (Hd.K Pm) mg base CX0 2 35 Hd.oE ["order","hour"] (spD (Hd.K Pm) 2 lS):=by
 refine cA Aq uL rfl λcdv A outer s H E hr=> ?_;have sc:=uL;have hu:=cN hr;have hu20:=bQ hr;refine a8 0 _ λv0=>a8 1 _ λv1=>a8 2 _ λv2=>af 2 "dues" λl2=>aC "due_of" λg_due_of=> ?_;exact(ae (ax (i:=2) sc.nd rfl l2 (ah hu (v0 _) a6))
 (ae (bD (aN (bO hu20) bP (ah hu (v2 _) a6) bq (aK _))
  (aw (aV (uZ pS lJ (v1 _) (ah hu (v2 _) a6) (aK _))))
  b5)
 (aw (aV (uZ uP qP (b6 (uK T) hr g_due_of T.at sN kb (a4 (v0 _) (a4 (v1 _) aa)) (a7 (a7 au))) fO (aK _))))))
theorem oS:aW ["weights","guest","hour","found","row"] ["weights","guest","hour"] (aJ oG):=fS
theorem oT(T:Txt Pm mg):cw P w (Hd.K Pm) mg base CX0 1 42 Hd.jJ ["weights","guest","hour"] (spD (Hd.K Pm) 3 i9):=by
 refine cA mh oS rfl λcdv A outer s H E hr=> ?_;have sc:=oS;have hu:=cN hr;have hu20:=bQ hr;refine a8 0 _ λv0=>a8 1 _ λv1=>a8 2 _ λv2=>a8 3 _ λv3=>a8 4 _ λv4=>af 3 "found" λl3=>af 4 "row" λl4=> ?_;exact(ae (ax (i:=3) sc.nd rfl l3 fO)
 (ae (cn (l:=(some 0)) GaH rfl (fu (v0 _)) (aP (i:=4) sc.nd rfl l4)
  (aw (bD (iA (aN (bO hu20) bP (ah hu (v4 _) a6) (v1 _) (aK _)) (gc (aN vY rh (ah hu (v4 _) a6) (v2 _) (aK _)))).pt
  (aw (ax (i:=3) sc.nd rfl l3 (ah hu (v4 _) a6)))
  b5)))
 (aw (aV (v3 _)))))
theorem Cy:aW ["marks","hours","rows","found","total","gone","k","row"] ["marks","hours"] (aJ Cv):=fS
theorem IU(T:Txt Pm mg):cw P w (Hd.K Pm) mg base CX0 1 49 Hd.vI ["marks","hours"] (spD (Hd.K Pm) 2 jZ):=by
 refine cA GA Cy rfl λcdv A outer s H E hr=> ?_;have sc:=Cy;have hu:=cN hr;have hu20:=bQ hr;refine a8 0 _ λv0=>a8 1 _ λv1=>a8 2 _ λv2=>a8 3 _ λv3=>a8 4 _ λv4=>a8 5 _ λv5=>a8 6 _ λv6=>a8 7 _ λv7=>af 2 "rows" λl2=>af 3 "found" λl3=>f7 3 "found" λw3=>af 4 "total" λl4=>af 5 "gone" λl5=>af 6 "k" λl6=>af 7 "row" λl7=>aC "enumerate" λg_enumerate=>aC "len" λg_len=>aC "sorted" λg_sorted=> ?_;exact(ae (ax (i:=2) sc.nd rfl l2 (ck f9 gL g_sorted T.ku j4 (a4 (v0 _) aa)))
 (ae (ax (i:=3) sc.nd rfl l3 (c9 aa))
 (ae (ax (i:=4) sc.nd rfl l4 a6)
 (ae (ax (i:=5) sc.nd rfl l5 a6)
 (ae (cn (l:=(some 2)) GaH rfl (vg g_enumerate T.mq (v2 _)) (kD rfl (bF (aP (i:=6) sc.nd rfl l6) (bF (aP (i:=7) sc.nd rfl l7) iJ)))
  (ae (ax (i:=4) sc.nd rfl l4 (aD (v4 _) (ah hu (v7 _) a6)))
 (ae (ES GaH (iA (aN qM o4 (v1 _) fO (aK _)) (gc (aN vY rh (ah hu (ah hu (v2 _) (v5 _)) a6) (jd (ah hu (v7 _) a6) (v1 _)) (aK _)))).pt
  (ae (ax (i:=4) sc.nd rfl l4 (jd (v4 _) (ah hu (ah hu (v2 _) (v5 _)) a6)))
 (aw (ax (i:=5) sc.nd rfl l5 (aD (v5 _) a6)))))
 (aw (bD (u7 (aN (bO hu20) bP (aD (v6 _) a6) (ck (cM.or bW) bX g_len T.jR gf (a4 (v2 _) aa)) (aK _)) (rm (aN mP jX (ah hu (ah hu (v2 _) (aD (v6 _) a6)) a6) (ah hu (v7 _) a6) (aK _)))).pt
  (aw (bY (i:=3) rfl w3 (b9 (a4 (ah hu (v7 _) a6) (a4 (v4 _) aa)))))
  b5)))))
 (aw (aV (v3 _))))))))
theorem oU:aW ["stuff"] ["stuff"] (aJ jO):=fS
theorem oV(T:Txt Pm mg):cw P w (Hd.K Pm) mg base CX0 1 54 Hd.fj ["stuff"] (spD (Hd.K Pm) 1 fc):=by
 refine cA ko oU rfl λcdv A outer s H E hr=> ?_;have hu:=cN hr;have hu20:=bQ hr;refine a8 0 _ λv0=>aC "any" λg_any=> ?_;exact(aw (aV (ck (D8 (by rfl)) Dc g_any T.Nj K4 (a4 (o8 (N:=["cap"]) (l:=none) rfl (by exact⟨rfl,rfl,rfl,rfl,rfl,by decide,rfl,rfl⟩) (fu (ah hu (v0 _) a6)) lN ⟨λ_ _ _ _ _=>(aP (i:=0) (jg (by decide+kernel)) rfl (cY rfl) (jh rfl)),λ_ _ _ _ _=>j5,λ_ _ _ _ _=>(uZ (bO (by exact hu20)) bP (ah (by exact hu) (dw (i:=0) (hN:=rfl) (hv:=bK rfl)) a6) bq (aK _))⟩) aa))))
theorem mv:aW ["world","weights","giving","number","hour","amount","order","stuff","kinds"] ["world","weights","giving"] (aJ m8):=fS
theorem sT(T:Txt Pm mg):cw P w (Hd.K Pm) mg base CX0 3 59 Hd.gS ["world","weights","giving"] (spD (Hd.K Pm) 3 fC):=by
 refine cA n9 mv rfl λcdv A outer s H E hr=> ?_;have sc:=mv;have hu:=cN hr;have hu20:=bQ hr;refine a8 0 _ λv0=>a8 1 _ λv1=>a8 2 _ λv2=>a8 3 _ λv3=>a8 4 _ λv4=>a8 5 _ λv5=>a8 6 _ λv6=>a8 7 _ λv7=>a8 8 _ λv8=>af 3 "number" λl3=>af 4 "hour" λl4=>af 5 "amount" λl5=>af 6 "order" λl6=>af 7 "stuff" λl7=>af 8 "kinds" λl8=>f7 8 "kinds" λw8=>aC "astray" λg_astray=>aC "goes_by_weight" λg_goes_by_weight=>aC "weight_at" λg_weight_at=> ?_;exact(ae (ax (i:=3) sc.nd rfl l3 (ah hu (v2 _) a6))
 (ae (ax (i:=4) sc.nd rfl l4 (ah hu (v2 _) a6))
 (ae (ax (i:=5) sc.nd rfl l5 (ah hu (v2 _) a6))
 (ae (ax (i:=6) sc.nd rfl l6 (ah hu (ah hu (v0 _) a6) (v3 _)))
 (ae (ax (i:=7) sc.nd rfl l7 (ah hu (ah hu (v0 _) a6) (ah hu (v6 _) a6)))
 (ae (ax (i:=8) sc.nd rfl l8 (c9 aa))
 (ae (bD (nH (b6 (Ec T) hr g_astray T.at Aq lR (a4 (v6 _) (a4 (v4 _) aa)) (a7 (a7 au))))
  (aw (bY (i:=8) rfl w8 bq))
  b5)
 (ae (bD (aN mP jX (v5 _) (ah hu (ah hu (v6 _) a6) a6) (aK _))
  (aw (bY (i:=8) rfl w8 bq))
  b5)
 (ae (bD (u7 (aN pS lJ (v5 _) a6 (aK _)) (rm (aN (EV hu20) EW (nG (v5 _) (ah hu (ah hu (v7 _) a6) a6)) a6 (aK _)))).pt
  (aw (bY (i:=8) rfl w8 bq))
  b5)
 (ae (bD (iA (nH (b6 (oV T) hr g_goes_by_weight T.at ko fb (a4 (v7 _) aa) (a7 au))) (gc (aN uP qP (b6 (oT T) hr g_weight_at T.at mh i8 (a4 (v1 _) (a4 (ah hu (v6 _) a6) (a4 (v4 _) aa))) (a7 (a7 (a7 au)))) fO (aK _)))).pt
  (aw (bY (i:=8) rfl w8 bq))
  b5)
 (ae (bD (aN pS lJ (v4 _) (aD (ah hu (ah hu (ah hu (v0 _) a6) (ah hu (v6 _) a6)) a6) (ah hu (v7 _) a6)) (aK _))
  (aw (bY (i:=8) rfl w8 bq))
  b5)
 (aw (aV (o8 (N:=["kind","number","hour"]) (l:=(some 8)) rfl (by exact⟨rfl,rfl,rfl,rfl,rfl,by decide,rfl,rfl⟩) (fu (v8 _)) lN ⟨λ_ _ _ _ _=>(aP (i:=0) (jg (by decide+kernel)) rfl (cY rfl) (jh rfl)),λ_ _ _ _ _=>j5,λ_ _ _ _ _=>(b9 (a4 (dw (i:=0) (hN:=rfl) (hv:=bK rfl)) (a4 (dw (i:=1) (hN:=rfl) (hv:=wG rfl)) (a4 (dw (i:=2) (hN:=rfl) (hv:=wG rfl)) aa))))⟩))))))))))))))
theorem jx:aW ["world","givings","found","giving","order"] ["world","givings"] (aJ jw):=fS
theorem nP(T:Txt Pm mg):cw P w (Hd.K Pm) mg base CX0 1 66 Hd.dM ["world","givings"] (spD (Hd.K Pm) 2 cP):=by
 refine cA jQ jx rfl λcdv A outer s H E hr=> ?_;have sc:=jx;have hu:=cN hr;refine a8 0 _ λv0=>a8 1 _ λv1=>a8 3 _ λv3=>a8 4 _ λv4=>af 2 "found" λl2=> ?_;exact(Dt (i:=2) sc.nd rfl l2 (by first|exact Or.inl rfl|exact Or.inr (Or.inl rfl)|exact Or.inr (Or.inr rfl)) (Ky (i:=2) (j:=3) GaH rfl (v1 _) sc.nd rfl (by first|exact Or.inl rfl|exact Or.inr rfl) (by decide) (FJ (Kw (i:=2) (j:=4) sc.nd rfl (by first|exact Or.inl rfl|exact Or.inr rfl) (by decide) (ah hu (ah hu (v0 _) a6) (ah hu (v3 _) a6)))
 (Io (Kx (i:=2) hu rfl (by first|exact Or.inl rfl|exact Or.inr (Or.inl rfl)|exact Or.inr (Or.inr rfl)) (b9 (a4 (ah hu (v4 _) a6) (a4 (ah hu (v4 _) a6) aa))) (b9 (a4 (ah hu (v3 _) a6) (a4 (ah hu (v3 _) a6) aa))))))))
theorem nq:aW ["world","weights","givings","found","target","marks","guest","k","cap","hours","row","top"] ["world","weights","givings"] (aJ mY):=fS
theorem tf(T:Txt Pm mg):cw P w (Hd.K Pm) mg base CX0 2 73 Hd.iV ["world","weights","givings"] (spD (Hd.K Pm) 3 gm):=by
 refine cA oM nq rfl λcdv A outer s H E hr=> ?_;have sc:=nq;have hu:=cN hr;have hu20:=bQ hr;refine a8 0 _ λv0=>a8 1 _ λv1=>a8 2 _ λv2=>a8 3 _ λv3=>a8 4 _ λv4=>a8 5 _ λv5=>a8 6 _ λv6=>a8 7 _ λv7=>a8 8 _ λv8=>a8 9 _ λv9=>a8 10 _ λv10=>a8 11 _ λv11=>af 3 "found" λl3=>f7 3 "found" λw3=>af 4 "target" λl4=>af 5 "marks" λl5=>af 6 "guest" λl6=>af 7 "k" λl7=>af 8 "cap" λl8=>af 9 "hours" λl9=>af 10 "row" λl10=>af 11 "top" λl11=>aC "bound" λg_bound=>aC "enumerate" λg_enumerate=>aC "marks_by_target" λg_marks_by_target=>aC "sums" λg_sums=>aC "weight_at" λg_weight_at=> ?_;exact(ae (ax (i:=3) sc.nd rfl l3 (c9 aa))
 (ae (cn (l:=none) GaH rfl (Ft (b6 (nP T) hr g_marks_by_target T.at jQ dI (a4 (v0 _) (a4 (v2 _) aa)) (a7 (a7 au)))) (kD rfl (bF (aP (i:=4) sc.nd rfl l4) (bF (aP (i:=5) sc.nd rfl l5) iJ)))
  (ae (ax (i:=6) sc.nd rfl l6 (ah hu (v4 _) a6))
 (aw (cn (l:=none) GaH rfl (vg g_enumerate T.mq (ah hu (ah hu (ah hu (v0 _) a6) (ah hu (v4 _) a6)) a6)) (kD rfl (bF (aP (i:=7) sc.nd rfl l7) (bF (aP (i:=8) sc.nd rfl l8) iJ)))
  (ae (ax (i:=9) sc.nd rfl l9 (EI (aN (bO hu20) bP (ah hu (v8 _) a6) bq (aK _)) fO (ah hu (v8 _) a6)))
 (aw (cn (l:=none) GaH rfl (fu (b6 (IU T) hr g_sums T.at GA rV (a4 (v5 _) (a4 (v9 _) aa)) (a7 (a7 au)))) (aP (i:=10) sc.nd rfl l10)
  (ae (ax (i:=11) sc.nd rfl l11 (b6 (GF T) hr g_bound T.at Cw kI (a4 (v8 _) (a4 (b6 (oT T) hr g_weight_at T.at mh i8 (a4 (v1 _) (a4 (v6 _) (a4 (ah hu (v10 _) a6) aa))) (a7 (a7 (a7 au)))) aa)) (a7 (a7 au))))
 (aw (bD (iA (aN qM o4 (v11 _) fO (aK _)) (gc (aN mP jX (ah hu (v10 _) a6) (v11 _) (aK _)))).pt
  (aw (bY (i:=3) rfl w3 (b9 (a4 bq (a4 (v6 _) (a4 (ah hu (v4 _) a6) (a4 (v7 _) (a4 (ah hu (v10 _) a6) (a4 (ah hu (v10 _) a6) (a4 (v11 _) aa))))))))))
  b5))))))))))
 (aw (aV (v3 _)))))
theorem jT:aW ["bars","gaps","bar"] ["bars"] (aJ jP):=fS
theorem oW(T:Txt Pm mg):cw P w (Hd.K Pm) mg base CX0 1 80 Hd.fm ["bars"] (spD (Hd.K Pm) 1 fg):=by
 refine cA kq jT rfl λcdv A outer s H E hr=> ?_;have sc:=jT;have hu:=cN hr;refine a8 0 _ λv0=>a8 1 _ λv1=>a8 2 _ λv2=>af 1 "gaps" λl1=>af 2 "bar" λl2=> ?_;exact(ae (ax (i:=1) sc.nd rfl l1 lP)
 (ae (cn (l:=(some 0)) GaH rfl (fu (v0 _)) (aP (i:=2) sc.nd rfl l2)
  (ae (nL (i:=1) hu rfl (by first|exact Or.inl rfl|exact Or.inr (Or.inl rfl)|exact Or.inr (Or.inr rfl)) (b9 (a4 (ah hu (v2 _) a6) (a4 (ah hu (v2 _) a6) aa))) (ah hu (v2 _) a6))
 (aw (nL (i:=1) hu rfl (by first|exact Or.inl rfl|exact Or.inr (Or.inl rfl)|exact Or.inr (Or.inr rfl)) (b9 (a4 (ah hu (v2 _) a6) (a4 (ah hu (v2 _) a6) aa))) (ah hu (v2 _) a6)))))
 (aw (aV (v1 _)))))
theorem sU:aW ["gaps","order","other"] ["gaps","order","other"] (aJ m9):=fS
theorem sV(T:Txt Pm mg):cw P w (Hd.K Pm) mg base CX0 1 87 Hd.gU ["gaps","order","other"] (spD (Hd.K Pm) 3 gP):=by
 refine cA nh sU rfl λcdv A outer s H E hr=> ?_;have hu:=cN hr;have hu20:=bQ hr;refine a8 0 _ λv0=>a8 1 _ λv1=>a8 2 _ λv2=> ?_;exact(ae (bD (aN (EV hu20) EW (ah hu (v1 _) a6) (ah hu (v2 _) a6) (aK _))
  (aw (aV a6))
  b5)
 (aw (aV (C5 hu (v0 _) (b9 (a4 (ah hu (v1 _) a6) (a4 (ah hu (v2 _) a6) aa))) a6 ⟨rfl,rfl,rfl,rfl⟩))))
theorem nr:aW ["world","givings","gaps","widest","rows","found","k","row","later","apart"] ["world","givings"] (aJ mZ):=fS
theorem tm(T:Txt Pm mg):cw P w (Hd.K Pm) mg base CX0 2 92 Hd.iW ["world","givings"] (spD (Hd.K Pm) 2 gn):=by
 refine cA oN nr rfl λcdv A outer s H E hr=> ?_;have sc:=nr;have hu:=cN hr;refine a8 0 _ λv0=>a8 1 _ λv1=>a8 2 _ λv2=>a8 3 _ λv3=>a8 4 _ λv4=>a8 5 _ λv5=>a8 6 _ λv6=>a8 7 _ λv7=>a8 8 _ λv8=>a8 9 _ λv9=>af 2 "gaps" λl2=>af 3 "widest" λl3=>af 4 "rows" λl4=>af 5 "found" λl5=>f7 5 "found" λw5=>af 6 "k" λl6=>af 7 "row" λl7=>af 8 "later" λl8=>af 9 "apart" λl9=>aC "enumerate" λg_enumerate=>aC "gap_between" λg_gap_between=>aC "gaps_by_stuffs" λg_gaps_by_stuffs=>aC "max" λg_max=>aC "sorted" λg_sorted=> ?_;exact(ae (ax (i:=2) sc.nd rfl l2 (b6 (oW T) hr g_gaps_by_stuffs T.at kq ff (a4 (ah hu (v0 _) a6) aa) (a7 au)))
 (ae (ax (i:=3) sc.nd rfl l3 (HV rfl g_max T.Jd (o8 (N:=["bar"]) (l:=none) rfl (by exact⟨rfl,rfl,rfl,rfl,rfl,by decide,rfl,rfl⟩) (fu (ah hu (v0 _) a6)) lN ⟨λ_ _ _ _ _=>(aP (i:=0) (jg (by decide+kernel)) rfl (cY rfl) (jh rfl)),λ_ _ _ _ _=>j5,λ_ _ _ _ _=>(ah (by exact hu) (dw (i:=0) (hN:=rfl) (hv:=bK rfl)) a6)⟩) Ef (λ_ _ _=> .int _) rfl))
 (ae (ax (i:=4) sc.nd rfl l4 (ck f9 gL g_sorted T.ku j4 (a4 (o8 (N:=["giving"]) (l:=(some 1)) rfl (by exact⟨rfl,rfl,rfl,rfl,rfl,by decide,rfl,rfl⟩) (fu (v1 _)) lN ⟨λ_ _ _ _ _=>(aP (i:=0) (jg (by decide+kernel)) rfl (cY rfl) (jh rfl)),λ_ _ _ _ _=>j5,λ_ _ _ _ _=>(b9 (a4 (ah (by exact hu) (dw (i:=0) (hN:=rfl) (hv:=bK rfl)) a6) (a4 (ah (by exact hu) (dw (i:=0) (hN:=rfl) (hv:=bK rfl)) a6) aa)))⟩) aa)))
 (ae (ax (i:=5) sc.nd rfl l5 (c9 aa))
 (ae (cn (l:=(some 4)) GaH rfl (vg g_enumerate T.mq (v4 _)) (kD rfl (bF (aP (i:=6) sc.nd rfl l6) (bF (aP (i:=7) sc.nd rfl l7) iJ)))
  (aw (cn (l:=none) GaH rfl (fu (o9 (v4 _) (j6 (aD (v6 _) a6)) uj)) (aP (i:=8) sc.nd rfl l8)
  (ae (ax (i:=9) sc.nd rfl l9 (jd (ah hu (v8 _) a6) (ah hu (v7 _) a6)))
 (ae (bD (aN LQ JZ (v9 _) (v3 _) (aK _))
  (aw EO)
  b5)
 (aw (bD (aN pS lJ (v9 _) (b6 (sV T) hr g_gap_between T.at nh gO (a4 (v2 _) (a4 (ah hu (ah hu (v0 _) a6) (ah hu (v7 _) a6)) (a4 (ah hu (ah hu (v0 _) a6) (ah hu (v8 _) a6)) aa))) (a7 (a7 (a7 au)))) (aK _))
  (aw (bY (i:=5) rfl w5 (b9 (a4 bq (a4 (ah hu (v7 _) a6) (a4 (ah hu (v7 _) a6) (a4 (ah hu (v8 _) a6) (a4 (ah hu (v8 _) a6) aa))))))))
  b5)))))))
 (aw (aV (v5 _))))))))
theorem lq:aW ["world","givings","counts","giving","k"] ["world","givings"] (aJ ll):=fS
theorem qK(T:Txt Pm mg):cw P w (Hd.K Pm) mg base CX0 2 97 Hd.gB ["world","givings"] (spD (Hd.K Pm) 2 dU):=by
 refine cA mj lq rfl λcdv A outer s H E hr=> ?_;have sc:=lq;have hu:=cN hr;refine a8 0 _ λv0=>a8 1 _ λv1=>a8 2 _ λv2=>a8 3 _ λv3=>a8 4 _ λv4=>af 2 "counts" λl2=>f7 2 "counts" λw2=>af 3 "giving" λl3=>af 4 "k" λl4=>aC "due_of" λg_due_of=> ?_;exact(ae (ax (i:=2) sc.nd rfl l2 lP)
 (ae (cn (l:=(some 1)) GaH rfl (fu (v1 _)) (aP (i:=3) sc.nd rfl l3)
  (ae (ax (i:=4) sc.nd rfl l4 (b6 (uK T) hr g_due_of T.at sN kb (a4 (ah hu (ah hu (v0 _) a6) (ah hu (v3 _) a6)) (a4 (ah hu (v3 _) a6) aa)) (a7 (a7 au))))
 (aw (bD (aN qM o4 (v4 _) fO (aK _))
  (aw (nL (i:=2) hu rfl (by first|exact Or.inl rfl|exact Or.inr (Or.inl rfl)|exact Or.inr (Or.inr rfl)) (b9 (a4 (ah hu (v3 _) a6) (a4 (v4 _) aa))) (aD (C5 hu (v2 _) (b9 (a4 (ah hu (v3 _) a6) (a4 (v4 _) aa))) a6 ⟨rfl,rfl,rfl,rfl⟩) a6)))
  b5))))
 (aw (aV (kH (N:=["due","many"]) (i:=2) rfl w2 rfl (by exact⟨rfl,rfl,rfl,rfl,rfl,by decide,rfl,rfl⟩) rA ⟨λ_ _ _ _ _=>(kD rfl (bF (aP (i:=0) (jg (by decide+kernel)) rfl (cY rfl) (jh rfl)) (bF (aP (i:=1) (jg (by decide+kernel)) rfl (cY rfl) (jh rfl)) iJ))),λ_ _ _ _ _=>(uf (aN mP jX (dw (i:=1) (hN:=rfl) (hv:=bK rfl)) a6 (aK _))),λ_ _ _ _ _=>(b9 (a4 bq (a4 (ah (by exact hu) (dw (i:=0) (hN:=rfl) (hv:=bK rfl)) a6) (a4 (ah (by exact hu) (dw (i:=0) (hN:=rfl) (hv:=bK rfl)) a6) aa))))⟩)))))
theorem uM:aW ["world","book","weights","givings","found","giving"] ["world","book"] (aJ uI):=fS
theorem Ed(T:Txt Pm mg):cw P w (Hd.K Pm) mg base CX0 4 104 Hd.oF ["world","book"] (spD (Hd.K Pm) 2 lT):=by
 refine cA Ar uM rfl λcdv A outer s H E hr=> ?_;have sc:=uM;have hu:=cN hr;refine a8 0 _ λv0=>a8 1 _ λv1=>a8 2 _ λv2=>a8 3 _ λv3=>a8 4 _ λv4=>a8 5 _ λv5=>af 2 "weights" λl2=>af 3 "givings" λl3=>af 4 "found" λl4=>f7 4 "found" λw4=>af 5 "giving" λl5=>aC "cap_faults" λg_cap_faults=>aC "gap_faults" λg_gap_faults=>aC "lone_faults" λg_lone_faults=>aC "sorted" λg_sorted=>aC "twice_faults" λg_twice_faults=> ?_;exact(ae (ax (i:=2) sc.nd rfl l2 (ah hu (v1 _) a6))
 (ae (ax (i:=3) sc.nd rfl l3 (ah hu (v1 _) a6))
 (ae (ax (i:=4) sc.nd rfl l4 (aD (aD (b6 (tf T) hr g_cap_faults T.at oM iL (a4 (v0 _) (a4 (v2 _) (a4 (v3 _) aa))) (a7 (a7 (a7 au)))) (b6 (tm T) hr g_gap_faults T.at oN iM (a4 (v0 _) (a4 (v3 _) aa)) (a7 (a7 au)))) (b6 (qK T) hr g_twice_faults T.at mj gp (a4 (v0 _) (a4 (v3 _) aa)) (a7 (a7 au)))))
 (ae (cn (l:=(some 3)) GaH rfl (fu (v3 _)) (aP (i:=5) sc.nd rfl l5)
  (aw (D6 (i:=4) rfl w4 (b6 (sT T) hr g_lone_faults T.at n9 gM (a4 (v0 _) (a4 (v2 _) (a4 (v5 _) aa))) (a7 (a7 (a7 au)))))))
 (aw (aV (ck f9 jY g_sorted T.ku j4 (a4 (v4 _) aa))))))))
theorem qx:aW ["_law_script","_law_k","_law_many","_law_cell"] ["_law_script","_law_k","_law_many"] (aJ qi):=fS
theorem ak(T:Txt Pm mg):cw P w (Hd.K Pm) mg base CX0 1 111 Hd.kS ["_law_script","_law_k","_law_many"] (spD (Hd.K Pm) 3 a9):=by
 refine cA ar qx rfl λcdv A outer s H E hr=> ?_;have sc:=qx;have hu:=cN hr;refine a8 0 _ λv0=>a8 1 _ λv1=>a8 2 _ λv2=>a8 3 _ λv3=>af 3 "_law_cell" λl3=>aC "len" λg_len=> ?_;exact(ae (ax (i:=3) sc.nd rfl l3 a6)
 (ae (bD (aN mP jX (ck (cM.or bW) bX g_len T.jR gf (a4 (v0 _) aa)) a6 (aK _))
  (aw (ax (i:=3) sc.nd rfl l3 (nG (ah hu (v0 _) (nG (v1 _) (ck (cM.or bW) bX g_len T.jR gf (a4 (v0 _) aa)))) a6)))
  b5)
 (aw (aV (nG (kC (nG (bC (nG (bC (aD (v3 _) a6) (aD (aD (bC (v1 _) (v1 _)) (v1 _)) a6)) a6) a6) a6) a6) (v2 _))))))
theorem qy:aW ["_law_script","_law_k","_law_part","_law_scale","_law_caps_here","_law_c","_law_at","_law_hours","_law_kind","_law_top"] ["_law_script","_law_k","_law_part","_law_scale"] (aJ qj):=fS
theorem As(T:Txt Pm mg):cw P w (Hd.K Pm) mg base CX0 2 118 Hd.kT ["_law_script","_law_k","_law_part","_law_scale"] (spD (Hd.K Pm) 4 jn):=by
 refine cA sO qy rfl λcdv A outer s H E hr=> ?_;have sc:=qy;have hu:=cN hr;have hu20:=bQ hr;refine a8 0 _ λv0=>a8 1 _ λv1=>a8 2 _ λv2=>a8 3 _ λv3=>a8 4 _ λv4=>a8 5 _ λv5=>a8 6 _ λv6=>a8 7 _ λv7=>a8 8 _ λv8=>a8 9 _ λv9=>af 4 "_law_caps_here" λl4=>f7 4 "_law_caps_here" λw4=>af 5 "_law_c" λl5=>af 6 "_law_at" λl6=>af 7 "_law_hours" λl7=>af 8 "_law_kind" λl8=>af 9 "_law_top" λl9=>aC "_law_draw" λaj=>aC "range" λg_range=>aC "tuple" λg_tuple=> ?_;exact(ae (ax (i:=4) sc.nd rfl l4 (c9 aa))
 (ae (cn (l:=none) GaH rfl (fT g_range T.j3 (ah hu (c9 (a4 a6 (a4 a6 (a4 a6 (a4 a6 (a4 a6 (a4 a6 aa))))))) (b6 (ak T) hr aj T.at ar ao (a4 (v0 _) (a4 (v1 _) (a4 a6 aa))) (a7 (a7 (a7 au)))))) (aP (i:=5) sc.nd rfl l5)
  (ae (ax (i:=6) sc.nd rfl l6 (aD (aD (v1 _) a6) (bC a6 (v5 _))))
 (ae (ax (i:=7) sc.nd rfl l7 (bC (v3 _) (aD a6 (b6 (ak T) hr aj T.at ar ao (a4 (v0 _) (a4 (v6 _) (a4 a6 aa))) (a7 (a7 (a7 au)))))))
 (ae (ax (i:=8) sc.nd rfl l8 (b6 (ak T) hr aj T.at ar ao (a4 (v0 _) (a4 (aD (v6 _) a6) (a4 a6 aa))) (a7 (a7 (a7 au)))))
 (ae (bD (aN (bO hu20) bP (v8 _) a6 (aK _))
  (aw (bY (i:=4) rfl w4 (b9 (a4 bq (a4 (v7 _) (a4 (bC (v2 _) (aD a6 (b6 (ak T) hr aj T.at ar ao (a4 (v0 _) (a4 (aD (v6 _) a6) (a4 a6 aa))) (a7 (a7 (a7 au)))))) aa))))))
  b5)
 (ae (bD (aN (bO hu20) bP (v8 _) a6 (aK _))
  (ae (ax (i:=9) sc.nd rfl l9 (bC (v2 _) (aD a6 (b6 (ak T) hr aj T.at ar ao (a4 (v0 _) (a4 (aD (v6 _) a6) (a4 a6 aa))) (a7 (a7 (a7 au)))))))
 (aw (bY (i:=4) rfl w4 (b9 (a4 bq (a4 (v7 _) (a4 (v9 _) (a4 (aD a6 (b6 (ak T) hr aj T.at ar ao (a4 (v0 _) (a4 (aD (v6 _) a6) (a4 a6 aa))) (a7 (a7 (a7 au))))) aa))))))))
  b5)
 (aw (bD (aN (bO hu20) bP (v8 _) a6 (aK _))
  (aw (bY (i:=4) rfl w4 (b9 (a4 bq (a4 (bC (v2 _) (aD a6 (b6 (ak T) hr aj T.at ar ao (a4 (v0 _) (a4 (aD (v6 _) a6) (a4 a6 aa))) (a7 (a7 (a7 au)))))) aa)))))
  b5))))))))
 (aw (aV (i4 cQ dS g_tuple T.jS i5 (a4 (v4 _) aa))))))
theorem nu:aW ["_law_script","_law_scale","_law_stuffs_here","_law_s","_law_k","_law_part","_law_sizes","_law_young"] ["_law_script","_law_scale"] (aJ n4):=fS
theorem tq(T:Txt Pm mg):cw P w (Hd.K Pm) mg base CX0 3 125 Hd.iX ["_law_script","_law_scale"] (spD (Hd.K Pm) 2 gq):=by
 refine cA oO nu rfl λcdv A outer s H E hr=> ?_;have sc:=nu;have hu:=cN hr;refine a8 0 _ λv0=>a8 1 _ λv1=>a8 2 _ λv2=>a8 3 _ λv3=>a8 4 _ λv4=>a8 5 _ λv5=>a8 6 _ λv6=>a8 7 _ λv7=>af 2 "_law_stuffs_here" λl2=>f7 2 "_law_stuffs_here" λw2=>af 3 "_law_s" λl3=>af 4 "_law_k" λl4=>af 5 "_law_part" λl5=>af 6 "_law_sizes" λl6=>af 7 "_law_young" λl7=>aC "_law_caps" λBt=>aC "_law_draw" λaj=>aC "range" λg_range=>aC "tuple" λg_tuple=> ?_;exact(ae (ax (i:=2) sc.nd rfl l2 (c9 aa))
 (ae (cn (l:=none) GaH rfl (fT g_range T.j3 (ah hu (c9 (a4 a6 (a4 a6 (a4 a6 (a4 a6 (a4 a6 (a4 a6 aa))))))) (b6 (ak T) hr aj T.at ar ao (a4 (v0 _) (a4 a6 (a4 a6 aa))) (a7 (a7 (a7 au)))))) (aP (i:=3) sc.nd rfl l3)
  (ae (ax (i:=4) sc.nd rfl l4 (aD a6 (bC a6 (v3 _))))
 (ae (ax (i:=5) sc.nd rfl l5 (ah hu (c9 (a4 a6 (a4 a6 (a4 a6 (a4 a6 (a4 (lI a6 a6) aa)))))) (b6 (ak T) hr aj T.at ar ao (a4 (v0 _) (a4 (v4 _) (a4 a6 aa))) (a7 (a7 (a7 au))))))
 (ae (ax (i:=6) sc.nd rfl l6 (ah hu (c9 (a4 (b9 (a4 (v5 _) aa)) (a4 (b9 (a4 (v5 _) (a4 (bC a6 (v5 _)) aa))) (a4 (b9 (a4 (v5 _) (a4 (bC a6 (v5 _)) (a4 (bC a6 (v5 _)) aa)))) aa)))) (b6 (ak T) hr aj T.at ar ao (a4 (v0 _) (a4 (aD (v4 _) a6) (a4 a6 aa))) (a7 (a7 (a7 au))))))
 (ae (ax (i:=7) sc.nd rfl l7 (bC (ah hu (c9 (a4 a6 (a4 (v1 _) aa))) (b6 (ak T) hr aj T.at ar ao (a4 (v0 _) (a4 (aD (v4 _) a6) (a4 a6 aa))) (a7 (a7 (a7 au))))) (b6 (ak T) hr aj T.at ar ao (a4 (v0 _) (a4 (aD (v4 _) a6) (a4 a6 aa))) (a7 (a7 (a7 au))))))
 (aw (bY (i:=2) rfl w2 (b9 (a4 (aD bq (ah hu bq (v3 _))) (a4 (v6 _) (a4 (b6 (As T) hr Bt T.at sO kJ (a4 (v0 _) (a4 (aD (v4 _) a6) (a4 (v5 _) (a4 (v1 _) aa)))) (a7 (a7 (a7 (a7 au))))) (a4 (v7 _) aa))))))))))))
 (aw (aV (i4 cQ dS g_tuple T.jS i5 (a4 (v2 _) aa))))))
theorem qz:aW ["_law_script","_law_many","_law_scale","_law_bars_here","_law_i","_law_j","_law_k","_law_one"] ["_law_script","_law_many","_law_scale"] (aJ qk):=fS
theorem Au(T:Txt Pm mg):cw P w (Hd.K Pm) mg base CX0 2 132 Hd.kU ["_law_script","_law_many","_law_scale"] (spD (Hd.K Pm) 3 jo):=by
 refine cA sP qz rfl λcdv A outer s H E hr=> ?_;have sc:=qz;have hu20:=bQ hr;refine a8 0 _ λv0=>a8 1 _ λv1=>a8 2 _ λv2=>a8 3 _ λv3=>a8 4 _ λv4=>a8 5 _ λv5=>a8 6 _ λv6=>a8 7 _ λv7=>af 3 "_law_bars_here" λl3=>f7 3 "_law_bars_here" λw3=>af 4 "_law_i" λl4=>af 5 "_law_j" λl5=>af 6 "_law_k" λl6=>af 7 "_law_one" λl7=>aC "_law_draw" λaj=>aC "len" λg_len=>aC "range" λg_range=>aC "tuple" λg_tuple=> ?_;exact(ae (ax (i:=3) sc.nd rfl l3 (c9 aa))
 (ae (cn (l:=none) GaH rfl (fT g_range T.j3 (v1 _)) (aP (i:=4) sc.nd rfl l4)
  (aw (cn (l:=none) GaH rfl (D5 g_range T.j3 (v4 _) (v1 _)) (aP (i:=5) sc.nd rfl l5)
  (ae (ax (i:=6) sc.nd rfl l6 (aD (aD a6 (bC a6 (v4 _))) (bC a6 (v5 _))))
 (aw (bD (iA (aN pS lJ (ck (cM.or bW) bX g_len T.jR gf (a4 (v3 _) aa)) a6 (aK _)) (gc (aN (bO hu20) bP (b6 (ak T) hr aj T.at ar ao (a4 (v0 _) (a4 (v6 _) (a4 a6 aa))) (a7 (a7 (a7 au)))) a6 (aK _)))).pt
  (ae (ax (i:=7) sc.nd rfl l7 (b9 (a4 (v4 _) (a4 (v5 _) (a4 (bC (v2 _) (aD a6 (b6 (ak T) hr aj T.at ar ao (a4 (v0 _) (a4 (aD (v6 _) a6) (a4 a6 aa))) (a7 (a7 (a7 au)))))) aa)))))
 (aw (Dh (i:=3) rfl w3 (b6 (ak T) hr aj T.at ar ao (a4 (v0 _) (a4 (aD (v6 _) a6) (a4 (aD (ck (cM.or bW) bX g_len T.jR gf (a4 (v3 _) aa)) a6) aa))) (a7 (a7 (a7 au)))) (v7 _))))
  b5))))))
 (aw (aV (i4 cQ dS g_tuple T.jS i5 (a4 (v3 _) aa))))))
theorem qA:aW ["_law_script","_law_k","_law_scale","_law_every","_law_early","_law_late","_law_begin"] ["_law_script","_law_k","_law_scale"] (aJ ql):=fS
theorem Av(T:Txt Pm mg):cw P w (Hd.K Pm) mg base CX0 2 139 Hd.kW ["_law_script","_law_k","_law_scale"] (spD (Hd.K Pm) 3 jr):=by
 refine cA sQ qA rfl λcdv A outer s H E hr=> ?_;have sc:=qA;have hu:=cN hr;have hu20:=bQ hr;refine a8 0 _ λv0=>a8 1 _ λv1=>a8 2 _ λv2=>a8 3 _ λv3=>a8 4 _ λv4=>a8 5 _ λv5=>a8 6 _ λv6=>af 3 "_law_every" λl3=>af 4 "_law_early" λl4=>af 5 "_law_late" λl5=>af 6 "_law_begin" λl6=>aC "_law_draw" λaj=> ?_;exact(ae (bD (aN (bO hu20) bP (b6 (ak T) hr aj T.at ar ao (a4 (v0 _) (a4 (v1 _) (a4 a6 aa))) (a7 (a7 (a7 au)))) a6 (aK _))
  (aw (aV (b9 (a4 bq (a4 (bC (v2 _) (b6 (ak T) hr aj T.at ar ao (a4 (v0 _) (a4 (aD (v1 _) a6) (a4 a6 aa))) (a7 (a7 (a7 au))))) aa)))))
  b5)
 (ae (ax (i:=3) sc.nd rfl l3 (bC (v2 _) (aD a6 (b6 (ak T) hr aj T.at ar ao (a4 (v0 _) (a4 (aD (v1 _) a6) (a4 a6 aa))) (a7 (a7 (a7 au)))))))
 (ae (ax (i:=4) sc.nd rfl l4 (bC (v2 _) (b6 (ak T) hr aj T.at ar ao (a4 (v0 _) (a4 (aD (v1 _) a6) (a4 (kC (v3 _) (v2 _)) aa))) (a7 (a7 (a7 au))))))
 (ae (ax (i:=5) sc.nd rfl l5 (bC (v2 _) (b6 (ak T) hr aj T.at ar ao (a4 (v0 _) (a4 (aD (v1 _) a6) (a4 (kC (jd (v3 _) (v4 _)) (v2 _)) aa))) (a7 (a7 (a7 au))))))
 (ae (ax (i:=6) sc.nd rfl l6 (aD (v4 _) (bC (v2 _) (b6 (ak T) hr aj T.at ar ao (a4 (v0 _) (a4 (aD (v1 _) a6) (a4 a6 aa))) (a7 (a7 (a7 au)))))))
 (aw (aV (b9 (a4 bq (a4 (v6 _) (a4 (v3 _) (a4 (ah hu (c9 (a4 a6 (a4 a6 (a4 a6 (a4 a6 (a4 a6 aa)))))) (b6 (ak T) hr aj T.at ar ao (a4 (v0 _) (a4 (aD (v1 _) a6) (a4 a6 aa))) (a7 (a7 (a7 au))))) (a4 (v4 _) (a4 (v5 _) aa))))))))))))))
theorem oX:aW ["_law_script","_law_scale","_law_guests","_law_g","_law_stuffs_here","_law_orders","_law_r","_law_k","_law_stuff","_law_most","_law_rule","_law_dues_here","_law_tapers"] ["_law_script"] (aJ oH):=fS
theorem vJ(T:Txt Pm mg):cw P w (Hd.K Pm) mg base CX0 4 146 Hd.jK ["_law_script"] (spD (Hd.K Pm) 1 ij):=by
 refine cA qr oX rfl λcdv A outer s H E hr=> ?_;have sc:=oX;have hu:=cN hr;have hu20:=bQ hr;refine a8 0 _ λv0=>a8 1 _ λv1=>a8 2 _ λv2=>a8 3 _ λv3=>a8 4 _ λv4=>a8 5 _ λv5=>a8 6 _ λv6=>a8 7 _ λv7=>a8 8 _ λv8=>a8 9 _ λv9=>a8 10 _ λv10=>a8 11 _ λv11=>a8 12 _ λv12=>af 1 "_law_scale" λl1=>af 2 "_law_guests" λl2=>f7 2 "_law_guests" λw2=>af 3 "_law_g" λl3=>af 4 "_law_stuffs_here" λl4=>af 5 "_law_orders" λl5=>f7 5 "_law_orders" λw5=>af 6 "_law_r" λl6=>af 7 "_law_k" λl7=>af 8 "_law_stuff" λl8=>af 9 "_law_most" λl9=>af 10 "_law_rule" λl10=>af 11 "_law_dues_here" λl11=>af 12 "_law_tapers" λl12=>aC "_law_bars" λBr=>aC "_law_draw" λaj=>aC "_law_dues" λBv=>aC "_law_stuffs" λvR=>aC "len" λg_len=>aC "range" λg_range=>aC "tuple" λg_tuple=> ?_;exact(ae (ax (i:=1) sc.nd rfl l1 (ah hu (c9 (a4 a6 (a4 a6 (a4 a6 (a4 a6 (a4 a6 (a4 (lI a6 a6) aa))))))) (b6 (ak T) hr aj T.at ar ao (a4 (v0 _) (a4 a6 (a4 a6 aa))) (a7 (a7 (a7 au))))))
 (ae (ax (i:=2) sc.nd rfl l2 (c9 aa))
 (ae (cn (l:=none) GaH rfl (fT g_range T.j3 (ah hu (c9 (a4 a6 (a4 a6 (a4 a6 (a4 a6 (a4 a6 (a4 a6 aa))))))) (b6 (ak T) hr aj T.at ar ao (a4 (v0 _) (a4 a6 (a4 a6 aa))) (a7 (a7 (a7 au)))))) (aP (i:=3) sc.nd rfl l3)
  (aw (bY (i:=2) rfl w2 (b9 (a4 (aD bq (ah hu bq (v3 _))) (a4 (bC (v1 _) (b6 (ak T) hr aj T.at ar ao (a4 (v0 _) (a4 (aD a6 (v3 _)) (a4 a6 aa))) (a7 (a7 (a7 au))))) aa))))))
 (ae (ax (i:=4) sc.nd rfl l4 (b6 (tq T) hr vR T.at oO iN (a4 (v0 _) (a4 (v1 _) aa)) (a7 (a7 au))))
 (ae (ax (i:=5) sc.nd rfl l5 (c9 aa))
 (ae (cn (l:=none) GaH rfl (fT g_range T.j3 (ah hu (c9 (a4 a6 (a4 a6 (a4 a6 (a4 a6 (a4 a6 (a4 a6 aa))))))) (b6 (ak T) hr aj T.at ar ao (a4 (v0 _) (a4 a6 (a4 a6 aa))) (a7 (a7 (a7 au)))))) (aP (i:=6) sc.nd rfl l6)
  (ae (ax (i:=7) sc.nd rfl l7 (aD a6 (bC a6 (v6 _))))
 (ae (ax (i:=8) sc.nd rfl l8 (b6 (ak T) hr aj T.at ar ao (a4 (v0 _) (a4 (v7 _) (a4 (ck (cM.or bW) bX g_len T.jR gf (a4 (v4 _) aa)) aa))) (a7 (a7 (a7 au)))))
 (ae (ax (i:=9) sc.nd rfl l9 (bC (ah hu (ah hu (ah hu (v4 _) (v8 _)) a6) a6) (ah hu (c9 (a4 a6 (a4 a6 (a4 a6 aa)))) (b6 (ak T) hr aj T.at ar ao (a4 (v0 _) (a4 (aD (v7 _) a6) (a4 a6 aa))) (a7 (a7 (a7 au)))))))
 (ae (ax (i:=10) sc.nd rfl l10 (b9 (a4 (ah hu (c9 (a4 bq (a4 bq (a4 bq aa)))) (nG (v6 _) a6)) (a4 (aD a6 (b6 (ak T) hr aj T.at ar ao (a4 (v0 _) (a4 (aD (v7 _) a6) (a4 a6 aa))) (a7 (a7 (a7 au))))) (a4 (b6 (ak T) hr aj T.at ar ao (a4 (v0 _) (a4 (aD (v7 _) a6) (a4 a6 aa))) (a7 (a7 (a7 au)))) (a4 (v9 _) aa))))))
 (ae (ax (i:=11) sc.nd rfl l11 (b6 (Av T) hr Bv T.at sQ jq (a4 (v0 _) (a4 (aD (v7 _) a6) (a4 (v1 _) aa))) (a7 (a7 (a7 au)))))
 (ae (ax (i:=12) sc.nd rfl l12 (b9 aa))
 (ae (bD (iA (aN (bO hu20) bP (ah hu (v11 _) a6) bq (aK _)) (gc (aN mP jX (ah hu (v11 _) a6) a6 (aK _)))).pt
  (aw (ax (i:=12) sc.nd rfl l12 (b9 (a4 (b9 (a4 a6 (a4 a6 (a4 a6 aa)))) (a4 (b9 (a4 a6 (a4 a6 (a4 a6 aa)))) aa)))))
  b5)
 (aw (bY (i:=5) rfl w5 (b9 (a4 (aD bq (ah hu bq (v6 _))) (a4 (b6 (ak T) hr aj T.at ar ao (a4 (v0 _) (a4 (aD (v7 _) a6) (a4 (ck (cM.or bW) bX g_len T.jR gf (a4 (v2 _) aa)) aa))) (a7 (a7 (a7 au)))) (a4 (v8 _) (a4 (v10 _) (a4 (v11 _) (a4 (v12 _) aa)))))))))))))))))
 (aw (aV (b9 (a4 (i4 cQ dS g_tuple T.jS i5 (a4 (v2 _) aa)) (a4 (v4 _) (a4 (b6 (Au T) hr Br T.at sP kK (a4 (v0 _) (a4 (ck (cM.or bW) bX g_len T.jR gf (a4 (v4 _) aa)) (a4 (v1 _) aa))) (a7 (a7 (a7 au)))) (a4 (i4 cQ dS g_tuple T.jS i5 (a4 (v5 _) aa)) aa)))))))))))))
theorem qB:aW ["_law_script","_law_world_here","_law_order","_law_k","_law_scale","_law_dues_here","_law_hour_here","_law_near","_law_ends"] ["_law_script","_law_world_here","_law_order","_law_k"] (aJ qp):=fS
theorem Aw(T:Txt Pm mg):cw P w (Hd.K Pm) mg base CX0 2 153 Hd.kX ["_law_script","_law_world_here","_law_order","_law_k"] (spD (Hd.K Pm) 4 js):=by
 refine cA sR qB rfl λcdv A outer s H E hr=> ?_;have sc:=qB;have hu:=cN hr;have hu20:=bQ hr;refine a8 0 _ λv0=>a8 1 _ λv1=>a8 2 _ λv2=>a8 3 _ λv3=>a8 4 _ λv4=>a8 5 _ λv5=>a8 6 _ λv6=>a8 7 _ λv7=>a8 8 _ λv8=>af 4 "_law_scale" λl4=>af 5 "_law_dues_here" λl5=>af 6 "_law_hour_here" λl6=>af 7 "_law_near" λl7=>af 8 "_law_ends" λl8=>aC "_law_draw" λaj=>aC "max" λg_max=>aC "min" λg_min=> ?_;exact(ae (ax (i:=4) sc.nd rfl l4 (ah hu (c9 (a4 a6 (a4 a6 (a4 a6 (a4 a6 (a4 a6 (a4 (lI a6 a6) aa))))))) (b6 (ak T) hr aj T.at ar ao (a4 (v0 _) (a4 a6 (a4 a6 aa))) (a7 (a7 (a7 au))))))
 (ae (ax (i:=5) sc.nd rfl l5 (ah hu (ah hu (ah hu (v1 _) a6) (v2 _)) a6))
 (ae (ax (i:=6) sc.nd rfl l6 (bC (v4 _) (b6 (ak T) hr aj T.at ar ao (a4 (v0 _) (a4 (v3 _) (a4 a6 aa))) (a7 (a7 (a7 au))))))
 (ae (bD (iA (aN (bO hu20) bP (ah hu (v5 _) a6) bq (aK _)) (gc (aN mP jX (b6 (ak T) hr aj T.at ar ao (a4 (v0 _) (a4 (aD (v3 _) a6) (a4 a6 aa))) (a7 (a7 (a7 au)))) a6 (aK _)))).pt
  (ae (ax (i:=7) sc.nd rfl l7 (aD (ah hu (v5 _) a6) (bC (b6 (ak T) hr aj T.at ar ao (a4 (v0 _) (a4 (v3 _) (a4 (ck (tL (by rfl)) rn g_min T.Je EX (a4 (ah hu (v5 _) a6) (a4 a6 aa))) aa))) (a7 (a7 (a7 au)))) (ah hu (v5 _) a6))))
 (ae (ax (i:=8) sc.nd rfl l8 (c9 (a4 (v7 _) (a4 (jd (v7 _) (ah hu (v5 _) a6)) (a4 (aD (v7 _) (ah hu (v5 _) a6)) (a4 (jd (jd (v7 _) (ah hu (v5 _) a6)) a6) (a4 (aD (aD (v7 _) (ah hu (v5 _) a6)) a6) (a4 (v7 _) aa))))))))
 (aw (ax (i:=6) sc.nd rfl l6 (ck (CJ (by rfl)) AV g_max T.Jd EY (a4 a6 (a4 (ah hu (v8 _) (b6 (ak T) hr aj T.at ar ao (a4 (v0 _) (a4 (aD (v3 _) a6) (a4 a6 aa))) (a7 (a7 (a7 au))))) aa)))))))
  b5)
 (ae (bD (aN (bO hu20) bP (b6 (ak T) hr aj T.at ar ao (a4 (v0 _) (a4 (aD (v3 _) a6) (a4 a6 aa))) (a7 (a7 (a7 au)))) a6 (aK _))
  (aw (ax (i:=6) sc.nd rfl l6 (aD (v6 _) a6)))
  b5)
 (ae (bD (aN (bO hu20) bP (b6 (ak T) hr aj T.at ar ao (a4 (v0 _) (a4 (aD (v3 _) a6) (a4 a6 aa))) (a7 (a7 (a7 au)))) a6 (aK _))
  (aw (ax (i:=6) sc.nd rfl l6 (lI a6 a6)))
  b5)
 (aw (aV (v6 _)))))))))
theorem ny:aW ["_law_script","_law_world_here","_law_order","_law_k","_law_part","_law_many","_law_odd"] ["_law_script","_law_world_here","_law_order","_law_k"] (aJ n5):=fS
theorem tu(T:Txt Pm mg):cw P w (Hd.K Pm) mg base CX0 2 160 Hd.iY ["_law_script","_law_world_here","_law_order","_law_k"] (spD (Hd.K Pm) 4 fh):=by
 refine cA oP ny rfl λcdv A outer s H E hr=> ?_;have sc:=ny;have hu:=cN hr;have hu20:=bQ hr;refine a8 0 _ λv0=>a8 1 _ λv1=>a8 2 _ λv2=>a8 3 _ λv3=>a8 4 _ λv4=>a8 5 _ λv5=>a8 6 _ λv6=>af 4 "_law_part" λl4=>af 5 "_law_many" λl5=>af 6 "_law_odd" λl6=>aC "_law_draw" λaj=> ?_;exact(ae (ax (i:=4) sc.nd rfl l4 (ah hu (ah hu (ah hu (ah hu (v1 _) a6) (ah hu (ah hu (ah hu (v1 _) a6) (v2 _)) a6)) a6) a6))
 (ae (ax (i:=5) sc.nd rfl l5 (bC (v4 _) (aD a6 (b6 (ak T) hr aj T.at ar ao (a4 (v0 _) (a4 (aD (v3 _) a6) (a4 a6 aa))) (a7 (a7 (a7 au)))))))
 (ae (ax (i:=6) sc.nd rfl l6 (c9 (a4 a6 (a4 (EH (v5 _)) (a4 (aD (v5 _) a6) (a4 (lI a6 a6) (a4 (bC (v4 _) a6) (a4 (EH a6) aa))))))))
 (ae (bD (aN (bO hu20) bP (b6 (ak T) hr aj T.at ar ao (a4 (v0 _) (a4 (aD (v3 _) a6) (a4 a6 aa))) (a7 (a7 (a7 au)))) a6 (aK _))
  (aw (aV (ah hu (v6 _) (b6 (ak T) hr aj T.at ar ao (a4 (v0 _) (a4 (aD (v3 _) a6) (a4 a6 aa))) (a7 (a7 (a7 au)))))))
  b5)
 (aw (aV (v5 _)))))))
theorem mw:aW ["_law_script","_law_world_here","_law_many","_law_scale","_law_kept","_law_n","_law_spot"] ["_law_script","_law_world_here","_law_many"] (aJ ma):=fS
theorem sW(T:Txt Pm mg):cw P w (Hd.K Pm) mg base CX0 2 165 Hd.gV ["_law_script","_law_world_here","_law_many"] (spD (Hd.K Pm) 3 fG):=by
 refine cA ni mw rfl λcdv A outer s H E hr=> ?_;have sc:=mw;have hu:=cN hr;have hu20:=bQ hr;refine a8 0 _ λv0=>a8 1 _ λv1=>a8 2 _ λv2=>a8 3 _ λv3=>a8 5 _ λv5=>a8 6 _ λv6=>af 3 "_law_scale" λl3=>af 4 "_law_kept" λl4=>f7 4 "_law_kept" λw4=>af 5 "_law_n" λl5=>af 6 "_law_spot" λl6=>aC "_law_draw" λaj=>aC "len" λg_len=>aC "range" λg_range=>aC "sorted" λg_sorted=>aC "tuple" λg_tuple=> ?_;exact(ae (ax (i:=3) sc.nd rfl l3 (ah hu (c9 (a4 a6 (a4 a6 (a4 a6 (a4 a6 (a4 a6 (a4 (lI a6 a6) aa))))))) (b6 (ak T) hr aj T.at ar ao (a4 (v0 _) (a4 a6 (a4 a6 aa))) (a7 (a7 (a7 au))))))
 (ae (ax (i:=4) sc.nd rfl l4 lP)
 (ae (cn (l:=none) GaH rfl (fT g_range T.j3 (v2 _)) (aP (i:=5) sc.nd rfl l5)
  (ae (ax (i:=6) sc.nd rfl l6 (b9 (a4 (b6 (ak T) hr aj T.at ar ao (a4 (v0 _) (a4 (aD a6 (v5 _)) (a4 (ck (cM.or bW) bX g_len T.jR gf (a4 (ah hu (v1 _) a6) aa)) aa))) (a7 (a7 (a7 au)))) (a4 (bC (v3 _) (b6 (ak T) hr aj T.at ar ao (a4 (v0 _) (a4 (aD a6 (v5 _)) (a4 a6 aa))) (a7 (a7 (a7 au))))) aa))))
 (ae (bD (iA (aN pS lJ (v5 _) (ck (cM.or bW) bX g_len T.jR gf (a4 (ah hu (v1 _) a6) aa)) (aK _)) (gc (aN (bO hu20) bP (b6 (ak T) hr aj T.at ar ao (a4 (v0 _) (a4 a6 (a4 a6 aa))) (a7 (a7 (a7 au)))) a6 (aK _)))).pt
  (aw (ax (i:=6) sc.nd rfl l6 (b9 (a4 (v5 _) (a4 a6 aa)))))
  b5)
 (aw (nL (i:=4) hu rfl (by first|exact Or.inl rfl|exact Or.inr (Or.inl rfl)|exact Or.inr (Or.inr rfl)) (v6 _) (ah hu (c9 (a4 (aD a6 (b6 (ak T) hr aj T.at ar ao (a4 (v0 _) (a4 (aD a6 (v5 _)) (a4 a6 aa))) (a7 (a7 (a7 au))))) (a4 (lI a6 a6) aa))) (kC (b6 (ak T) hr aj T.at ar ao (a4 (v0 _) (a4 (aD a6 (v5 _)) (a4 a6 aa))) (a7 (a7 (a7 au)))) a6)))))))
 (aw (aV (i4 cQ dS g_tuple T.jS i5 (a4 (ck f9 gL g_sorted T.ku j4 (a4 (kH (N:=["_law_spot","_law_weight_here"]) (i:=4) rfl w4 rfl (by exact⟨rfl,rfl,rfl,rfl,rfl,by decide,rfl,rfl⟩) rA ⟨λ_ _ _ _ _=>(kD rfl (bF (aP (i:=0) (jg (by decide+kernel)) rfl (cY rfl) (jh rfl)) (bF (aP (i:=1) (jg (by decide+kernel)) rfl (cY rfl) (jh rfl)) iJ))),λ_ _ _ _ _=>j5,λ_ _ _ _ _=>(b9 (a4 (ah (by exact hu) (dw (i:=0) (hN:=rfl) (hv:=bK rfl)) a6) (a4 (ah (by exact hu) (dw (i:=0) (hN:=rfl) (hv:=bK rfl)) a6) (a4 (dw (i:=1) (hN:=rfl) (hv:=bK rfl)) aa))))⟩) aa)) aa)))))))
theorem mz:aW ["_law_script","_law_world_here","_law_many","_law_kept","_law_n","_law_order","_law_spot"] ["_law_script","_law_world_here","_law_many"] (aJ mf):=fS
theorem sX(T:Txt Pm mg):cw P w (Hd.K Pm) mg base CX0 3 170 Hd.gW ["_law_script","_law_world_here","_law_many"] (spD (Hd.K Pm) 3 fH):=by
 refine cA nj mz rfl λcdv A outer s H E hr=> ?_;have sc:=mz;have hu:=cN hr;have hu20:=bQ hr;refine a8 0 _ λv0=>a8 1 _ λv1=>a8 2 _ λv2=>a8 4 _ λv4=>a8 5 _ λv5=>a8 6 _ λv6=>af 3 "_law_kept" λl3=>f7 3 "_law_kept" λw3=>af 4 "_law_n" λl4=>af 5 "_law_order" λl5=>af 6 "_law_spot" λl6=>aC "_law_amount" λvP=>aC "_law_draw" λaj=>aC "_law_hour" λBu=>aC "len" λg_len=>aC "range" λg_range=>aC "sorted" λg_sorted=>aC "tuple" λg_tuple=> ?_;exact(ae (ax (i:=3) sc.nd rfl l3 lP)
 (ae (cn (l:=none) GaH rfl (fT g_range T.j3 (v2 _)) (aP (i:=4) sc.nd rfl l4)
  (ae (ax (i:=5) sc.nd rfl l5 (b6 (ak T) hr aj T.at ar ao (a4 (v0 _) (a4 (aD a6 (v4 _)) (a4 (ck (cM.or bW) bX g_len T.jR gf (a4 (ah hu (v1 _) a6) aa)) aa))) (a7 (a7 (a7 au)))))
 (ae (ax (i:=6) sc.nd rfl l6 (b9 (a4 (v5 _) (a4 (b6 (Aw T) hr Bu T.at sR kL (a4 (v0 _) (a4 (v1 _) (a4 (v5 _) (a4 (aD a6 (v4 _)) aa)))) (a7 (a7 (a7 (a7 au))))) aa))))
 (ae (nL (i:=3) hu rfl (by first|exact Or.inl rfl|exact Or.inr (Or.inl rfl)|exact Or.inr (Or.inr rfl)) (v6 _) (b6 (tu T) hr vP T.at oP iP (a4 (v0 _) (a4 (v1 _) (a4 (v5 _) (a4 (aD a6 (v4 _)) aa)))) (a7 (a7 (a7 (a7 au))))))
 (aw (bD (aN (bO hu20) bP (b6 (ak T) hr aj T.at ar ao (a4 (v0 _) (a4 (aD a6 (v4 _)) (a4 a6 aa))) (a7 (a7 (a7 au)))) a6 (aK _))
  (aw (nL (i:=3) hu rfl (by first|exact Or.inl rfl|exact Or.inr (Or.inl rfl)|exact Or.inr (Or.inr rfl)) (v6 _) (aD (lI a6 a6) (v4 _))))
  b5))))))
 (aw (aV (i4 cQ dS g_tuple T.jS i5 (a4 (ck f9 gL g_sorted T.ku j4 (a4 (kH (N:=["_law_spot","_law_amount_here"]) (i:=3) rfl w3 rfl (by exact⟨rfl,rfl,rfl,rfl,rfl,by decide,rfl,rfl⟩) rA ⟨λ_ _ _ _ _=>(kD rfl (bF (aP (i:=0) (jg (by decide+kernel)) rfl (cY rfl) (jh rfl)) (bF (aP (i:=1) (jg (by decide+kernel)) rfl (cY rfl) (jh rfl)) iJ))),λ_ _ _ _ _=>j5,λ_ _ _ _ _=>(b9 (a4 (ah (by exact hu) (dw (i:=0) (hN:=rfl) (hv:=bK rfl)) a6) (a4 (ah (by exact hu) (dw (i:=0) (hN:=rfl) (hv:=bK rfl)) a6) (a4 (dw (i:=1) (hN:=rfl) (hv:=bK rfl)) aa))))⟩) aa)) aa))))))
theorem nz:aW ["_law_weights_here","_law_guest","_law_hour_here","_law_found","_law_one"] ["_law_weights_here","_law_guest","_law_hour_here"] (aJ n6):=fS
theorem tw(T:Txt Pm mg):cw P w (Hd.K Pm) mg base CX0 1 177 Hd.iZ ["_law_weights_here","_law_guest","_law_hour_here"] (spD (Hd.K Pm) 3 iR):=by
 refine cA oQ nz rfl λcdv A outer s H E hr=> ?_;have sc:=nz;have hu:=cN hr;have hu20:=bQ hr;refine a8 0 _ λv0=>a8 1 _ λv1=>a8 2 _ λv2=>a8 3 _ λv3=>a8 4 _ λv4=>af 3 "_law_found" λl3=>af 4 "_law_one" λl4=> ?_;exact(ae (ax (i:=3) sc.nd rfl l3 fO)
 (ae (cn (l:=(some 0)) GaH rfl (fu (v0 _)) (aP (i:=4) sc.nd rfl l4)
  (aw (bD (iA (aN (bO hu20) bP (ah hu (v4 _) a6) (v1 _) (aK _)) (gc (aN vY rh (ah hu (v4 _) a6) (v2 _) (aK _)))).pt
  (aw (ax (i:=3) sc.nd rfl l3 (ah hu (v4 _) a6)))
  b5)))
 (aw (aV (v3 _)))))
theorem vK:aW ["_law_cap","_law_weight_here"] ["_law_cap","_law_weight_here"] (aJ oI):=fS
theorem vL(T:Txt Pm mg):cw P w (Hd.K Pm) mg base CX0 1 184 Hd.jL ["_law_cap","_law_weight_here"] (spD (Hd.K Pm) 2 dm):=by
 refine cA qt vK rfl λcdv A outer s H E hr=> ?_;have hu:=cN hr;have hu20:=bQ hr;refine a8 0 _ λv0=>a8 1 _ λv1=> ?_;exact(ae (bD (aN (bO hu20) bP (ah hu (v0 _) a6) bq (aK _))
  (aw (aV (ah hu (v0 _) a6)))
  b5)
 (ae (bD (aN (bO hu20) bP (ah hu (v0 _) a6) bq (aK _))
  (aw (aV (ah hu (v0 _) a6)))
  b5)
 (ae (bD (aN uP qP (v1 _) fO (aK _))
  (aw (aV fO))
  b5)
 (aw (aV (kC (bC (v1 _) (ah hu (v0 _) a6)) (ah hu (v0 _) a6)))))))
theorem oY:aW ["_law_world_here","_law_book","_law_own","_law_cap","_law_hour_here","_law_total_here","_law_order","_law_at","_law_amount_here"] ["_law_world_here","_law_book","_law_own","_law_cap","_law_hour_here"] (aJ oJ):=fS
theorem vM(T:Txt Pm mg):cw P w (Hd.K Pm) mg base CX0 1 191 Hd.jM ["_law_world_here","_law_book","_law_own","_law_cap","_law_hour_here"] (spD (Hd.K Pm) 5 il):=by
 refine cA qu oY rfl λcdv A outer s H E hr=> ?_;have sc:=oY;have hu:=cN hr;have hu20:=bQ hr;refine a8 0 _ λv0=>a8 1 _ λv1=>a8 2 _ λv2=>a8 3 _ λv3=>a8 4 _ λv4=>a8 5 _ λv5=>a8 6 _ λv6=>a8 7 _ λv7=>a8 8 _ λv8=>af 5 "_law_total_here" λl5=>af 6 "_law_order" λl6=>af 7 "_law_at" λl7=>af 8 "_law_amount_here" λl8=> ?_;exact(ae (ax (i:=5) sc.nd rfl l5 a6)
 (ae (cn (l:=none) GaH rfl (fu (ah hu (v1 _) a6)) (kD rfl (bF (aP (i:=6) sc.nd rfl l6) (bF (aP (i:=7) sc.nd rfl l7) (bF (aP (i:=8) sc.nd rfl l8) iJ))))
  (aw (bD (iA (aN (bO hu20) bP (o9 (ah hu (ah hu (v0 _) a6) (v6 _)) (j6 a6) (j6 a6)) (o9 (v2 _) (j6 a6) (j6 a6)) (aK _)) (iA (aN vY rh (v7 _) (v4 _) (aK _)) (gc (u7 (aN (bO hu20) bP (ah hu (v3 _) a6) bq (aK _)) (rm (aN mP jX (v7 _) (jd (v4 _) (ah hu (v3 _) a6)) (aK _)))).pt))).pt
  (aw (ax (i:=5) sc.nd rfl l5 (aD (v5 _) (v8 _))))
  b5)))
 (aw (aV (v5 _)))))
theorem qC:aW ["_law_world_here","_law_book","_law_kept","_law_order","_law_hour_here","_law_amount_here","_law_own","_law_caps_here","_law_k","_law_most","_law_total_here"] ["_law_world_here","_law_book"] (aJ qq):=fS
theorem Ax(T:Txt Pm mg):cw P w (Hd.K Pm) mg base CX0 2 198 Hd.kY ["_law_world_here","_law_book"] (spD (Hd.K Pm) 2 kN):=by
 refine cA sS qC rfl λcdv A outer s H E hr=> ?_;have sc:=qC;have hu:=cN hr;refine a8 0 _ λv0=>a8 1 _ λv1=>a8 2 _ λv2=>a8 3 _ λv3=>a8 4 _ λv4=>a8 6 _ λv6=>a8 7 _ λv7=>a8 8 _ λv8=>a8 9 _ λv9=>a8 10 _ λv10=>af 2 "_law_kept" λl2=>af 3 "_law_order" λl3=>af 4 "_law_hour_here" λl4=>af 5 "_law_amount_here" λl5=>af 6 "_law_own" λl6=>af 7 "_law_caps_here" λl7=>af 8 "_law_k" λl8=>af 9 "_law_most" λl9=>af 10 "_law_total_here" λl10=>aC "_law_bound" λAA=>aC "_law_total" λAy=>aC "_law_weight" λvQ=>aC "len" λg_len=>aC "list" λg_list=>aC "range" λg_range=> ?_;exact(ae (ax (i:=2) sc.nd rfl l2 lP)
 (ae (cn (l:=none) GaH rfl (fu (ah hu (v1 _) a6)) (kD rfl (bF (aP (i:=3) sc.nd rfl l3) (bF (aP (i:=4) sc.nd rfl l4) (bF (aP (i:=5) sc.nd rfl l5) iJ))))
  (ae (ax (i:=6) sc.nd rfl l6 (ah hu (ah hu (v0 _) a6) (v3 _)))
 (ae (ax (i:=7) sc.nd rfl l7 (ah hu (ah hu (ah hu (v0 _) a6) (ah hu (v6 _) a6)) a6))
 (aw (cn (l:=none) GaH rfl (fT g_range T.j3 (ck (cM.or bW) bX g_len T.jR gf (a4 (v7 _) aa))) (aP (i:=8) sc.nd rfl l8)
  (ae (ax (i:=9) sc.nd rfl l9 (b6 (vL T) hr AA T.at qt dX (a4 (ah hu (v7 _) (v8 _)) (a4 (b6 (tw T) hr vQ T.at oQ iQ (a4 (ah hu (v1 _) a6) (a4 (ah hu (v6 _) a6) (a4 (v4 _) aa))) (a7 (a7 (a7 au)))) aa)) (a7 (a7 au))))
 (ae (ax (i:=10) sc.nd rfl l10 (b6 (vM T) hr Ay T.at qu jF (a4 (v0 _) (a4 (v1 _) (a4 (v6 _) (a4 (ah hu (v7 _) (v8 _)) (a4 (v4 _) aa))))) (a7 (a7 (a7 (a7 (a7 au)))))))
 (aw (bD (iA (aN qM o4 (v9 _) fO (aK _)) (gc (aN mP jX (v10 _) (v9 _) (aK _)))).pt
  (aw (nL (i:=2) hu rfl (by first|exact Or.inl rfl|exact Or.inr (Or.inl rfl)|exact Or.inr (Or.inr rfl)) (b9 (a4 bq (a4 (ah hu (v6 _) a6) (a4 (ah hu (v6 _) a6) (a4 (v8 _) (a4 (v4 _) (a4 (v10 _) (a4 (v9 _) aa)))))))) u4))
  b5)))))))))
 (aw (aV (i4 (vh (by rfl)) wO g_list T.GB BV (a4 (v2 _) aa))))))
theorem vN:aW ["_law_found"] ["_law_found"] (aJ oK):=fS
theorem vO(T:Txt Pm mg):cw P w (Hd.K Pm) mg base CX0 1 205 Hd.jN ["_law_found"] (spD (Hd.K Pm) 1 jH):=by
 refine cA qv vN rfl λcdv A outer s H E hr=> ?_;refine a8 0 _ λv0=>aC "bool" λg_bool=>aC "int" λg_int=>aC "isinstance" λg_isinstance=> ?_;exact(aw (aV (K1 (rq HG (v0 _) g_isinstance T.gC g_int T.Nk K5) (K0 (K2 (rq F4 (v0 _) g_isinstance T.gC g_bool T.L8 HF))))))
theorem nA:aW ["_law_found","_law_one","_law_num"] ["_law_found"] (aJ n8):=fS
theorem tD(T:Txt Pm mg):cw P w (Hd.K Pm) mg base CX0 2 212 Hd.j0 ["_law_found"] (spD (Hd.K Pm) 1 gr):=by
 refine cA oR nA rfl λcdv A outer s H E hr=> ?_;have sc:=nA;have hu:=cN hr;refine a8 0 _ λv0=>a8 1 _ λv1=>a8 2 _ λv2=>af 1 "_law_one" λl1=>af 2 "_law_num" λl2=>aC "isinstance" λg_isinstance=>aC "_law_whole" λAz=>aC "len" λg_len=>aC "list" λg_list=>aC "str" λg_str=>aC "tuple" λg_tuple=> ?_;exact(ae (bD (pk (nH (rq EZ (v0 _) g_isinstance T.gC g_list T.GB BV)))
  (aw (aV u4))
  b5)
 (ae (cn (l:=(some 0)) GaH rfl (fu (v0 _)) (aP (i:=1) sc.nd rfl l1)
  (ae (bD (u7 (pk (nH (rq kit_tuple (v1 _) g_isinstance T.gC g_tuple T.jS i5))) (u7 (aN pS lJ (ck (cM.or bW) bX g_len T.jR gf (a4 (v1 _) aa)) a6 (aK _)) (rm (pk (nH (rq HH (ah hu (v1 _) a6) g_isinstance T.gC g_str T.Nl K6)))))).pt
  (aw (aV u4))
  b5)
 (aw (cn (l:=none) GaH rfl (fu (o9 (v1 _) (j6 a6) uj)) (aP (i:=2) sc.nd rfl l2)
  (aw (bD (pk (nH (b6 (vO T) hr Az T.at qv jG (a4 (v2 _) aa) (a7 au))))
  (aw (aV u4))
  b5))))))
 (aw (aV u4))))
theorem GG:aW ["_law_script","_law_world_here","_law_weights_here","_law_book","_law_found"] ["_law_script"] (aJ Gz):=fS
theorem L9(T:Txt Pm mg):cw P w (Hd.K Pm) mg base CX0 5 217 Hd.Cu ["_law_script"] (spD (Hd.K Pm) 1 rW):=by
 refine cA Ng GG rfl λcdv A outer s H E hr=> ?_;have sc:=GG;have hu:=cN hr;have hu20:=bQ hr;refine a8 0 _ λv0=>a8 1 _ λv1=>a8 2 _ λv2=>a8 3 _ λv3=>a8 4 _ λv4=>af 1 "_law_world_here" λl1=>af 2 "_law_weights_here" λl2=>af 3 "_law_book" λl3=>af 4 "_law_found" λl4=>aC "faults" λg_faults=>aC "_law_draw" λaj=>aC "_law_givings" λtF=>aC "_law_listed" λvS=>aC "_law_over" λBs=>aC "_law_weights" λtH=>aC "_law_world" λAB=>aC "len" λg_len=>aC "min" λg_min=>aC "sorted" λg_sorted=> ?_;exact(ae (ax (i:=1) sc.nd rfl l1 (b6 (vJ T) hr AB T.at qr jE (a4 (v0 _) aa) (a7 au)))
 (ae (ax (i:=2) sc.nd rfl l2 (b6 (sW T) hr tH T.at ni gQ (a4 (v0 _) (a4 (v1 _) (a4 (b6 (ak T) hr aj T.at ar ao (a4 (v0 _) (a4 a6 (a4 a6 aa))) (a7 (a7 (a7 au)))) aa))) (a7 (a7 (a7 au)))))
 (ae (ax (i:=3) sc.nd rfl l3 (b9 (a4 (v2 _) (a4 (b6 (sX T) hr tF T.at nj gR (a4 (v0 _) (a4 (v1 _) (a4 (aD (ck (tL (by rfl)) rn g_min T.Je EX (a4 (ck (cM.or bW) bX g_len T.jR gf (a4 (v0 _) aa)) (a4 a6 aa))) (b6 (ak T) hr aj T.at ar ao (a4 (v0 _) (a4 a6 (a4 a6 aa))) (a7 (a7 (a7 au))))) aa))) (a7 (a7 (a7 au)))) aa))))
 (ae (ax (i:=4) sc.nd rfl l4 (b6 (Ed T) hr g_faults T.at Ar ou (a4 (v1 _) (a4 (v3 _) aa)) (a7 (a7 au))))
 (ae (bD (pk (nH (b6 (tD T) hr vS T.at oR iU (a4 (v4 _) aa) (a7 au))))
  (aw (aV u4))
  b5)
 (aw (aV (uZ (bO hu20) bP (o8 (N:=["_law_one"]) (l:=(some 4)) rfl (by exact⟨rfl,rfl,rfl,rfl,rfl,by decide,rfl,rfl⟩) (fu (v4 _)) lN ⟨λ_ _ _ _ _=>(aP (i:=0) (jg (by decide+kernel)) rfl (cY rfl) (jh rfl)),λ_ _ _ _ _=>(uf (aN (bO (by exact hu20)) bP (ah (by exact hu) (dw (i:=0) (hN:=rfl) (hv:=bK rfl)) a6) bq (aK _))),λ_ _ _ _ _=>(dw (i:=0) (hN:=rfl) (hv:=bK rfl))⟩) (ck f9 jY g_sorted T.ku j4 (a4 (b6 (Ax T) hr Bs T.at sS kM (a4 (v1 _) (a4 (v3 _) aa)) (a7 (a7 au))) aa)) (aK _)))))))))
end
theorem all_mk{l:PySem.W.OpenLaw}{w:World}{h:Heap}{mg:Str→Option Value}{fa:Addr}(X:(Hd.K w.params).In h)(G:h.Ns mainGlobals mg)(hfa:mg "law"=some (.ref fa)):
  ∃fd:FuncData,(∀(s:Shared) (v:Value),BindsTo s fd ⟨[v],[]⟩ [("_law_script",v)])∧∀base:Heap,(Hd.K w.params).In base→base.Ns mainGlobals mg→cw l.prog w (Hd.K w.params) mg base CX0 5 fa fd ["_law_script"] (spD (Hd.K w.params) 1 rW):=by
 have T:Txt w.params mg:=⟨h,X,G⟩
 have e:=hfa.symm.trans T.Nh;cases e;exact⟨_,λs v=> .of_eq rfl,λbase _ _=>L9 T⟩
theorem walk{l:PySem.W.OpenLaw}{q:Program}{loose:List Str}{XP:(Str→Option Value)→Heap→Prop}{YP:World→Heap→Prop}{d:DefRec}{K:Params→PySem.W.Frag}(hn:l.most=some 63)(hdf:d.params.defaults=[])
  (hY:∀(w:World) (h:Heap),YP w h→(K w.params).In h)(true_:∀ns:List Int,ns.length≤63→rW [.scr ns]=some (.bl true))
  (F:∀(w:World) (mg:Str→Option Value) (fa:Addr) (h:Heap),(K w.params).In h→h.Ns mainGlobals mg→mg d.name=some (.ref fa)→
   ∃fd:FuncData,(∀(s:Shared) (u:Value),BindsTo s fd ⟨[u],[]⟩ [("_law_script",u)])∧∀base:Heap,(K w.params).In base→base.Ns mainGlobals mg→cw l.prog w (K w.params) mg base CX0 5 fa fd ["_law_script"] (spD (K w.params) 1 rW)):
  PySem.W.WalkO q loose XP YP l.row.toRowW d [] (λf vs=>PySem.call f vs):=
 L2.Hm (n:=63) (k:=5) (x:="_law_script") (CX:=λ_=>CX0) (sp:=λw=>spD (K w.params) 1 rW) hn (by decide) hdf ⟨rfl,by decide,by decide⟩ hY F (λ_ _ a ns hl hO hS=>K3 hO hS (true_ ns hl)) λ_ _ _ _ _ z=>z
end Der
open PySem PySem.W PyProof.Rows
set_option maxRecDepth 100000 in
set_option maxHeartbeats 0 in
theorem PySem.Challenge.cw_dosehouse_k42_faults_of_caps_holds : PySem.Challenge.rw_dosehouse_k42_faults_of_caps.Holds := by
 refine holds_law (by kernel_rfl) λsaid=> ?_;refine holds_open (q:=Hd.view) (loose:=[]) (Xt:=Hd.xt) (XP:=XL Hd.view []) (Yf:=Hook.obs Hd.hook) (Ya:=Hook.val Hd.hook) (YP:=Hook.says Hd.hook) (N:=2240) Hd.left (Hook.of Hd.hook) (Hook.keeps Hd.hook) (λs e=>xl_of s (Bool.and_eq_true_iff.mp e).1) XL.keeps (by rfl) (by rfl) (by rfl) (λs e=>recFacts_of (Bool.and_eq_true_iff.mp e).2) (by rfl) said (by decide+kernel) ⟨rfl,rfl,rfl,rfl,rfl,by decide+kernel⟩ ?hw ?hc
 case hw=>w_witness2
 case hc=>exact Der.walk (l:=PySem.Challenge.rw_dosehouse_k42_faults_of_caps) (K:=Hd.K) rfl rfl (λw h Y=>PySem.W.kIn_of Y) Maths.Gy λw mg fa h KX G hmg=>Der.all_mk KX G hmg
