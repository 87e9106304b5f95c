import PyProof.Rows.All
import Wide.All
import OpenK.AllK
import Wide.FinOn
import PySem.Challenge.RW_dosehouse_k70_logs_merged
set_option Elab.async false
set_option linter.all false
set_option maxRecDepth 100000
set_option maxHeartbeats 1000000
def Gaa:=@List.getElem?_eq_getElem
def Gab:=@PySem.wpAny_bind
def Gac:=@List.getElem?_eq_some_iff
def Gad:=@PySem.Heap.get?_push_of_some
def Gae:=@PySem.wpAny_pure
def Gaf:=@if_neg
def Gag:=@if_pos
def Gah:=@Option.map_eq_some_iff
def Gai:=@List.mem_cons_of_mem
def Gaj:=@List.getElem?_set_ne
def Gak:=@PyProof.Rows.wpS_bind
def Gal:=@Bool.and_eq_true
def Gam:=@PySem.Heap.lt_size
def Gan:=@List.length_map
def Gao:=@List.all_eq_true
def Gap:=@List.mem_cons_self
def Gaq:=@Nat.le_refl
def Gar:=@List.mem_cons
def Gas:=@List.size_toArray
def Gat:=@PyProof.Rows.wpS_pure
def Gau:=@Array.getElem?_eq_getElem
def Gav:=@List.getElem?_map
def Gaw:=@PySem.Heap.get?_push_size
def Gax:=@Bool.false_eq_true
def Gay:=@List.mem_map
def Gaz:=@Bool.false_ne_true
def GaA:=@List.append_assoc
def GaB:=@decide_eq_true
def GaC:=@Nat.ne_of_lt
def GaD:=@decide_eq_false
def GaE:=@Array.length_toList
def GaF:=@Nat.lt_of_lt_of_le
def GaG:=@of_decide_eq_true
def GaH:=@List.map_cons
def GaI:=@Array.getD_eq_getD_getElem?
def GaJ:=@List.mem_of_getElem?
def GaK:=@List.getElem?_take_of_lt
def GaL:=@List.mem_append
def GaM:=@PySem.wpAny_setState_of
def GaN:=@List.getElem_mem
def GaO:=@List.mem_range
def GaP:=@Array.getElem?_toList
def GaQ:=@List.lookup_cons
def GaR:=@List.length_append
def GaS:=@if_false
def GaT:=@Nat.zero_le
def GaU:=@PySem.Heap.get?_update_self
def GaV:=@List.mem_singleton
def GaW:=@List.getElem?_drop
def GaX:=@List.take_append_drop
def GaY:=@Nat.lt_or_ge
def GaZ:=@Bool.or_eq_true
def Gba:=@PySem.wpAny_call_entry
def Gbb:=@Nat.lt_irrefl
def Gbc:=@List.getElem?_set_self
def Gbd:=@List.pairwise_cons
def Gbe:=@List.mem_append_right
def Gbf:=@List.getElem?_eq_none
def Gbg:=@List.perm_append_comm
def Gbh:=@List.getElem?_append_right
def Gbi:=@Array.getElem?_eq_some_iff
def Gbj:=@Nat.ne_of_gt
def Gbk:=@PyProof.Rows.wpS_forRange
def Gbl:=@Ne.symm
def Gbm:=@List.getElem?_append_left
def Gbn:=@List.mem_iff_getElem?
def Gbo:=@Int.le_refl
def Gbp:=@if_true
def Gbq:=@List.find?_cons
def Gbr:=@List.map_map
def Gbs:=@List.mem_of_mem_take
def Gbt:=@PySem.Obj.data_mapFields
def Gbu:=@List.Perm.append_right
def Gbv:=@List.all_cons
def Gbw:=@PySem.sizeLine_eq
def Gbx:=@PySem.W.kia_one
def Gby:=@List.nodup_cons
def Gbz:=@List.filter_cons
def GbA:=@PyProof.Rows.wpS_mono
def GbB:=@PySem.Heap.get?_update_other
def GbC:=@List.length_cons
def GbD:=@PySem.F.called_set
def GbE:=@List.mem_of_mem_drop
def GbF:=@List.pairwise_singleton
def GbG:=@PySem.wpAny_callSpecial?_slot
def GbH:=@List.append_nil
def GbI:=@PySem.Heap.SameBut.update
def GbJ:=@Nat.le_trans
def GbK:=@Array.getElem?_eq_none
def GbL:=@PyProof.Rows.wpS_modify
def GbM:=@List.getElem_map
def GbN:=@List.mem_reverse
def GbO:=@List.drop_drop
def GbP:=@List.Perm.append_left
def GbQ:=@List.pairwise_iff_getElem
def GbR:=@List.mem_filter
def GbS:=@PySem.wpAny_mono
def GbT:=@beq_iff_eq
def GbU:=@Option.map_some
def GbV:=@PySem.codeAny_builtin
def GbW:=@PySem.Around.under_plainId
def GbX:=@PySem.wpAny_ite_false
def GbY:=@PySem.wpAny_newObj_type
def GbZ:=@Nat.lt_succ_of_lt
def Gca:=@PySem.wpAny_holding
def Gcb:=@List.eq_nil_of_length_eq_zero
def Gcc:=@List.getElem_of_mem
def Gce:=@List.not_mem_nil
def Gcf:=@Nat.lt_succ_self
def Gcg:=@List.any_eq_true
def Gch:=@List.drop_zero
def Gci:=@List.take_of_length_le
def Gcj:=@List.find?_cons_of_neg
def Gck:=@PyProof.Rows.F.plain_set_update_loop
def Gcl:=@Int.emod_lt_of_pos
def Gcm:=@PySem.Obj.isFreed_of_fields
def Gcn:=@Nat.le_of_lt_succ
def Gco:=@List.drop_eq_getElem_cons
def Gcp:=@List.take_take
def Gcq:=@Nat.le_of_lt
def Gcr:=@Array.toList_inj
def Gcs:=@List.drop_length
def Gct:=@PySem.SetTable.toList_insertAt
def Gcu:=@List.filterMap_cons
def Gcv:=@List.getElem?_replicate
def Gcw:=@PySem.F.plainAttrs_list
def Gcx:=@List.any_cons
def Gcy:=@Bool.not_true
def Gcz:=@PySem.wpAny_typeNameOfWhole_itemiter
def GcA:=@List.foldl_cons
def GcB:=@List.map_append
def GcC:=@Int.emod_nonneg
def GcD:=@Nat.le_succ
def GcE:=@PySem.wpAny_typeNameOfWhole_keyiter
def GcF:=@PySem.F.slot_dict_itemiterator_next
def GcG:=@PySem.wpAny_truthy_bool
def GcH:=@decide_eq_true_eq
def GcI:=@List.ext_getElem?
def GcJ:=@Int.toNat_natCast
def GcK:=@PySem.Obj.cls_mapFields
def GcL:=@Function.comp_def
def GcM:=@List.length_singleton
def GcN:=@List.nodup_nil
def GcO:=@PySem.Heap.size_push
def GcP:=@PySem.wpAny_setField
def GcQ:=@PySem.wpAny_seqItems
def GcR:=@PySem.F.slot_dict_keyiterator_next
def GcS:=@PyProof.Rows.wpS_get
def GcT:=@List.drop_take
def GcU:=@PySem.builtinLookup_eq_fast
def GcV:=@Nat.succ_pos
def GcW:=@Int.not_lt
def GcX:=@PySem.wpAny_rule
def GcY:=@List.ext_getElem
def GcZ:=@Nat.mod_lt
def Gda:=@Array.toList_setIfInBounds
def Gdb:=@List.length_eraseIdx_of_lt
def Gdc:=@List.getD_eq_getElem?_getD
def Gdd:=@PySem.F.plain_extend_loop
def Gde:=@PySem.wpAny_passesOwn
def Gdf:=@Bool.eq_iff_iff
def Gdg:=@PySem.wpAny_ite_split
def Gdh:=@PySem.Calls.call_function_entry
def Gdi:=@Nat.min_eq_left
def Gdj:=@List.mem_filterMap
def Gdk:=@Nat.lt_trans
def Gdl:=@Nat.eq_or_lt_of_le
def Gdm:=@Nat.zero_add
def Gdn:=@PyProof.Rows.F.entry_set_update_loop
def Gdo:=@Bool.and_false
def Gdp:=@List.getElem?_cons_succ
def Gdq:=@Option.some.injEq
def Gdr:=@PySem.wpAny_pyIter_slot
def Gds:=@List.nodup_append
def Gdt:=@PySem.F.slot_tuple_hash
def Gdu:=@List.findIdx?_eq_some_iff_getElem
def Gdv:=@PySem.wpAny_newList
def Gdw:=@Nat.add_assoc
def Gdx:=@List.perm_middle
def Gdy:=@List.length_replicate
def Gdz:=@Array.getElem?_setIfInBounds_ne
def GdA:=@Array.mem_toList_iff
def GdB:=@List.length_set
def GdC:=@Nat.min_self
def GdD:=@List.forIn_cons
def GdE:=@PySem.wpAny_updateSeq
def GdF:=@PySem.typeLookup_type
def GdG:=@PySem.wpAny_specialOf
def GdH:=@PySem.PassesOwn.never
def GdI:=@beq_eq_false_iff_ne
def GdJ:=@List.getElem?_range
def GdK:=@List.map_congr_left
def GdL:=@or_false
def GdM:=@Nat.lt_of_le_of_lt
def GdN:=@List.find?_eq_none
def GdO:=@Bool.false_or
def GdP:=@List.any_eq_false
def GdQ:=@Bool.eq_false_iff
def GdR:=@Array.toList_push
def GdS:=@Nat.lt_trichotomy
def GdT:=@Int.le_of_lt
namespace L2
open PySem PySem.Spec PyProof.Rows
noncomputable abbrev Key:=Sum Int Str
noncomputable def ng:Key→Value→Bool
 | .inl k,v=>Value.isInt k v
 | .inr x,v=>Value.isStrOf x v
noncomputable def Gp(w:World):Key→Int
 | .inl k=>hashInt k
 | .inr x=>hashStr w x
theorem bp:∀{k:Key} {v:Value},ng k v=true→(∃i t,k=Sum.inl i∧v=Value.int i t)∨(∃x t,k=Sum.inr x∧v=Value.str x t)
 | .inl i,v,h=>by
  obtain⟨t,e⟩:=Value.isInt_shape (k:=i) (v:=v) h
  exact .inl ⟨i,t,rfl,e⟩
 | .inr x,v,h=>by
  obtain⟨t,e⟩:=Value.isStrOf_shape (x:=x) (v:=v) h
  exact .inr ⟨x,t,rfl,e⟩
theorem u0(i:Int)(t:Tok):ng (.inl i) (.int i t)=true:=by simp[ng,Value.isInt]
theorem u3(x:Str)(t:Tok):ng (.inr x) (.str x t)=true:=by simp[ng,Value.isStrOf]
theorem Ca(a b:Int):decide ((Sum.inl a:Key)=Sum.inl b)=(a==b):=by
 by_cases e:a=b
 ·subst e;simp
 ·have h:¬(Sum.inl a:Key)=Sum.inl b:=λq=>e (Sum.inl.inj q)
  rw[GaD h]
  exact(GdI.mpr e).symm
theorem Cb(a b:Str):decide ((Sum.inr a:Key)=Sum.inr b)=decide (a=b):=by
 by_cases e:a=b
 ·subst e;simp
 ·have h:¬(Sum.inr a:Key)=Sum.inr b:=λq=>e (Sum.inr.inj q)
  rw[GaD h,GaD e]
theorem Cc(a:Int)(b:Str):decide ((Sum.inl a:Key)=Sum.inr b)=false:=GaD (λq=>nomatch q)
theorem Cd(a:Str)(b:Int):decide ((Sum.inr a:Key)=Sum.inl b)=false:=GaD (λq=>nomatch q)
noncomputable def bq(prog:Program)(w:World):PySem.KeyKind prog w Key where
 is:=ng
 hash:=Gp w
 inj:=λv a b ha hb=>by
  rcases bp ha with⟨i,t,rfl,rfl⟩| ⟨x,t,rfl,rfl⟩
  ·rcases bp hb with⟨j,u,rfl,e⟩| ⟨y,u,rfl,e⟩
   ·injection e with e1 _;rw[e1]
   ·exact nomatch e
  ·rcases bp hb with⟨j,u,rfl,e⟩| ⟨y,u,rfl,e⟩
   ·exact nomatch e
   ·injection e with e1 _;rw[e1]
 byValue:=λk v h=>by
  rcases bp h with⟨i,t,rfl,rfl⟩| ⟨x,t,rfl,rfl⟩<;>rfl
 pyHash:=λhv h=>by
  rcases bp hv with⟨i,t,rfl,rfl⟩| ⟨x,t,rfl,rfl⟩
  ·exact wpAny_pyHash_int h
  ·exact wpAny_pyHash_str h
 eqBool:=λhu hv h=>by
  rcases bp hu with⟨i,t,rfl,rfl⟩| ⟨x,t,rfl,rfl⟩
  ·rcases bp hv with⟨j,u,rfl,rfl⟩| ⟨y,u,rfl,rfl⟩
   ·rw[Ca] at h;exact wpAny_eqBool_int h
   ·rw[Cc] at h;exact SeqAt.EqAt.int_str i t y u _ _ _ _ h
  ·rcases bp hv with⟨j,u,rfl,rfl⟩| ⟨y,u,rfl,rfl⟩
   ·rw[Cd] at h;exact SeqAt.EqAt.str_int x t j u _ _ _ _ h
   ·rw[Cb] at h;exact wpAny_eqBool_str h
 «strs» :=λk x t v h=>by
  rcases bp h with⟨i,u,rfl,e⟩| ⟨y,u,rfl,e⟩
  ·exact nomatch e
  ·injection e with e1 _
   subst e1
   cases v<;>rfl
theorem kb(prog:Program)(w:World)(i:Int)(t:Tok):(bq prog w).is (.inl i) (.int i t)=true:=u0 i t
theorem kc(prog:Program)(w:World)(x:Str)(t:Tok):(bq prog w).is (.inr x) (.str x t)=true:=u3 x t
inductive V where
 |non|bl (b:Bool)|int (i:Int)|str (x:Str)|byt (b:Array UInt8)|flt (b:UInt64)|ref (a:Addr)|ty (n:String)
 deriving DecidableEq
noncomputable def RelV:V→Value→Prop
 | .non,u=>u=Value.none
 | .bl b,u=>u=Value.bool b
 | .int i,u=>∃t,u=Value.int i t
 | .str x,u=>∃t,u=Value.str x t
 | .byt b,u=>∃t,u=Value.bytes b t
 | .flt b,u=>∃t,u=Value.float b t
 | .ref a,u=>u=Value.ref a
 | .ty n,u=>u=Value.type n
noncomputable abbrev Vals:List V→List Value→Prop:=Paired RelV
theorem Vals.length{xs:List V}{us:List Value}(r:Vals xs us):xs.length=us.length:=Paired.length r
theorem Vals.get:∀{xs:List V} {us:List Value} {i:Nat} {x:V},Vals xs us→xs[i]? =some x→∃u,us[i]? =some u∧RelV x u
 |_,_,_,_,.nil,e=>by simp at e
 |_,_,0,_,.cons r _,e=>by simp at e;subst e;exact⟨_,rfl,r⟩
 |_,_,i+1,x,.cons _ t,e=>by
  obtain⟨u,h1,h2⟩:=Vals.get (i:=i) (x:=x) t (by simpa using e)
  exact⟨u,by simpa using h1,h2⟩
theorem Vals.set{x:V}{u:Value}(r:RelV x u):∀{xs:List V} {us:List Value} (i:Nat),Vals xs us→Vals (xs.set i x) (us.set i u)
 |_,_,_,.nil=> .nil
 |_,_,0,.cons _ t=> .cons r t
 |_,_,i+1,.cons q t=> .cons q (Vals.set r i t)
theorem Vals.append:∀{xs ys:List V} {us ws:List Value},Vals xs us→Vals ys ws→Vals (xs++ys) (us++ws)
 |_,_,_,_,.nil,s=>s
 |_,_,_,_,.cons r t,s=> .cons r (Vals.append t s)
noncomputable def lj:Option V→Option Value→Prop
 |some v,some u=>RelV v u
 |none,none=>True
 |_,_=>False
noncomputable def KV{κ:Type}:List (κ×V)→List (κ×Value)→Prop:=Paired λ(p:κ×V) (q:κ×Value)=>p.1=q.1∧RelV p.2 q.2
noncomputable def kV:Key→V
 | .inl i=> .int i
 | .inr x=> .str x
inductive HO where
 |lst (xs:List V)
 |tup (xs:List V)
 |dK (kvs:List (Key×V))|dT (kvs:List (List Key×V))
 |set (S:Int→Bool) (n:Nat)
 |ins (C dx:Addr) (fs:List (Str×V))
 |own (x:Addr)
 |xd (fs:List (Str×V))
 |met (f x:Addr)
 |rng (lo hi:Int)
 |frz (o:Obj) (u:HO)
 |tbl (ps:Array Value)
 |ext (φ:Heap→Prop)
noncomputable abbrev Hp:=Addr→Option HO
noncomputable def upd(H:Hp)(a:Addr)(o:HO):Hp:=λb=>if b=a then some o else H b
theorem av{H:Hp}{a:Addr}{o:HO}:upd H a o a=some o:=by unfold upd;rw[Gag rfl]
theorem ay{H:Hp}{a b:Addr}{o:HO}(h:b≠a):upd H a o b=H b:=by unfold upd;rw[Gaf h]
theorem Ar{H:Hp}{a:Addr}{o u:HO}:upd (upd H a o) a u=upd H a u:=by
 funext b;unfold upd;split<;>rfl
theorem El{H:Hp}{a b:Addr}{o u:HO}(h:H a=some o)(h' :H b=some u)(d:o≠u):a≠b:=by
 intro e;subst e;rw[h] at h';exact d (Option.some.inj h')
theorem cf{H:Hp}{a b:Addr}{o:HO}(h:H a=some o)(h' :H b=none):a≠b:=by
 intro e;subst e;rw[h] at h';cases h'
section
variable(P:Program)(w:World)
noncomputable def br(H:Hp)(h:Heap)(a:Addr):HO→Prop
 | .lst xs=>xs.length≤sizeLine∧∃(its:List Value) (n:Nat),Vals xs its∧h.get? a=some {cls:= .type "list",data:= .seq its.toArray n}
 | .tup xs=>xs.length≤sizeLine∧∃its:List Value,Vals xs its∧IsTup h a its.toArray
 | .dK kvs=>kvs.length≤sizeLine∧(a==sysModules)=false∧∃vs,KV kvs vs∧h.DictOf (bq P w) a vs
 | .dT kvs=>kvs.length≤sizeLine∧(a==sysModules)=false∧∃xs:List (List Key×Addr×Value),
   Paired (λ(p:List Key×V) (q:List Key×Addr×Value)=>p.1=q.1∧H q.2.1=some (.tup (p.1.map kV))∧RelV p.2 q.2.2) kvs xs∧
   ∃o es ep,h.get? a=some o∧o.ExactDict∧o.data= .dict es ep∧es.toList=xs.map (entryOfKey (tupleKind (bq P w)))∧(xs.map (·.1)).Nodup
 | .set S n=>h.SetOf (intKind P w) a S n
 | .ins C dx fs=>H dx=some (.own a)∧fs.length≤1000∧dx≠a∧h.get? a=some (PySem.W.instObj C dx)∧
   ∃mA,h.Ns1 dx mA∧(∀f,lj (fs.lookup f) (mA f))∧PySem.Within mA (fs.map (·.1))
 | .own _=>∃o,h.get? a=some o
 | .xd fs=>∃mA,h.Ns1 a mA∧∀f,lj (fs.lookup f) (mA f)
 | .rng lo hi=>∃t u v,h.get? a=some {cls:= .type "range",data:= .fields #[.int lo t,.int hi u,.int 1 v]}
 | .frz o u=>h.get? a=some o∧br H h a u
 | .tbl ps=>h.get? a=some {cls:= .none,data:= .fields ps}
 | .met f x=>h.get? a=some (PySem.W.methodObj (.ref f) (.ref x))
 | .ext φ=>φ h∧(∃o,h.get? a=some o)∧∀h1 h2:Heap,φ h1→(∀o,h1.get? a=some o→h2.get? a=some o)→φ h2
noncomputable def HOk(H:Hp)(h:Heap):Prop:=∀a o,H a=some o→br P w H h a o
end
section
variable{P:Program}{w:World}{H H' :Hp}{h h' :Heap}{a:Addr}{o:HO}
theorem br.lt(x:br P w H h a o):a<h.objs.size:=by
 cases o with
 |lst xs=>obtain⟨_,_,_,_,e⟩:=x;exact Gam e
 |tup xs=>obtain⟨_,_,_,p⟩:=x;exact p.lt
 |dK kvs=>obtain⟨_,_,_,_,o,_,_,e,_⟩:=x;exact Gam e
 |dT kvs=>obtain⟨_,_,_,_,o,_,_,e,_⟩:=x;exact Gam e
 |set S n=>obtain⟨o,_,_,_,e,_⟩:=x;exact Gam e
 |ins C dx fs=>obtain⟨_,_,_,e,_⟩:=x;exact Gam e
 |own y=>obtain⟨_,e⟩:=x;exact Gam e
 |xd fs=>obtain⟨_,⟨_,_,_,e,_⟩,_⟩:=x;exact Gam e
 |rng lo hi=>obtain⟨_,_,_,e⟩:=x;exact Gam e
 |frz ob u=>obtain⟨e,_⟩:=x;exact Gam e
 |tbl ps=>exact Gam (show h.get? a=some _ from x)
 |met f y=>exact Gam (show h.get? a=some _ from x)
 |ext φ=>obtain⟨_,⟨_,e⟩,_⟩:=x;exact Gam e
theorem Paired.Ce{α β:Type}{F G:α→β→Prop}:∀{l₁:List α} {l₂:List β},Paired F l₁ l₂→(∀a b,F a b→G a b)→Paired G l₁ l₂
 |_,_,.nil,_=> .nil
 |_,_,.cons r t,f=> .cons (f _ _ r) (Paired.Ce t f)
theorem br.gq(x:br P w H h a o)(k:∀b u,(b=a∨H b=some (.own a))→h.get? b=some u→h'.get? b=some u)
  (ho:∀b,H b=some (.own a)→H' b=some (.own a))(ht:∀b xs,H b=some (.tup xs)→H' b=some (.tup xs)):br P w H' h' a o:=by
 induction o with
 |lst xs=>obtain⟨z,its,n,r,e⟩:=x;exact⟨z,its,n,r,k _ _ (.inl rfl) e⟩
 |tup xs=>obtain⟨z,its,r,ob,e,c⟩:=x;exact⟨z,its,r,ob,k _ _ (.inl rfl) e,c⟩
 |dK kvs=>obtain⟨z,y,vs,r,ob,es,ep,e,c⟩:=x;exact⟨z,y,vs,r,ob,es,ep,k _ _ (.inl rfl) e,c⟩
 |dT kvs=>
  obtain⟨z,y,xs,r,ob,es,ep,e,c⟩:=x
  exact⟨z,y,xs,Paired.Ce r λp q z=> ⟨z.1,ht _ _ z.2.1,z.2.2⟩,ob,es,ep,k _ _ (.inl rfl) e,c⟩
 |set S n=>obtain⟨ob,es,ep,t,e,c⟩:=x;exact⟨ob,es,ep,t,k _ _ (.inl rfl) e,c⟩
 |ins C dx fs=>
  obtain⟨d,z,ne,e,mA,⟨od,es,ep,e2,c⟩,r⟩:=x
  exact⟨ho _ d,z,ne,k _ _ (.inl rfl) e,mA,⟨od,es,ep,k _ _ (.inr d) e2,c⟩,r⟩
 |own y=>obtain⟨ob,e⟩:=x;exact⟨ob,k _ _ (.inl rfl) e⟩
 |xd fs=>obtain⟨mA,⟨od,es,ep,e,c⟩,r⟩:=x;exact⟨mA,⟨od,es,ep,k _ _ (.inl rfl) e,c⟩,r⟩
 |rng lo hi=>obtain⟨t,u,v,e⟩:=x;exact⟨t,u,v,k _ _ (.inl rfl) e⟩
 |frz ob u ih=>obtain⟨e,q⟩:=x;exact⟨k _ _ (.inl rfl) e,ih q⟩
 |tbl ps=>
  have e:h.get? a=some {cls:= .none,data:= .fields ps}:=x
  show h'.get? a=some {cls:= .none,data:= .fields ps}
  exact k a _ (.inl rfl) e
 |met f y=>
  have e:h.get? a=some (PySem.W.methodObj (.ref f) (.ref y)):=x
  show h'.get? a=some (PySem.W.methodObj (.ref f) (.ref y))
  exact k a _ (.inl rfl) e
 |ext φ=>obtain⟨p,⟨o,e⟩,st⟩:=x;exact⟨st _ _ p λo q=>k _ _ (.inl rfl) q,⟨o,k _ _ (.inl rfl) e⟩,st⟩
theorem HOk.lt(x:HOk P w H h)(e:H a=some o):a<h.objs.size:=(x a o e).lt
theorem HOk.fresh(x:HOk P w H h)(e:h.objs.size≤a):H a=none:=by
 cases q:H a with
 |none=>rfl
 |some u=>exact absurd (GaF (x.lt q) e) (Gbb _)
theorem HOk.kept(x:HOk P w H h)(k:∀b u,h.get? b=some u→h'.get? b=some u):HOk P w H h' :=λa o e=>
 (x a o e).gq (λb u _ q=>k b u q) (λ_ q=>q) λ_ _ q=>q
theorem HOk.laid(x:HOk P w H h)(k:∀b u,h.get? b=some u→h'.get? b=some u)(hp:h.objs.size≤a)(new:br P w (upd H a o) h' a o):HOk P w (upd H a o) h' :=λb u e=>by
 have hn:=x.fresh hp
 by_cases hb:b=a
 ·subst hb;rw[av] at e;cases e;exact new
 ·rw[ay hb] at e
  exact(x b u e).gq (λc v _ q=>k c v q) (λc q=>by rw[ay (cf q hn)];exact q) λc xs q=>by rw[ay (cf q hn)];exact q
end
noncomputable def Rd(H:Hp)(a:Addr)(u:HO):Prop:=H a=some u∨∃o,H a=some (.frz o u)
theorem Rd.ok{P:Program}{w:World}{H:Hp}{h:Heap}{a:Addr}{u:HO}(r:Rd H a u)(x:HOk P w H h):br P w H h a u:=by
 rcases r with r| ⟨o,r⟩
 ·exact x a u r
 ·obtain⟨_,q⟩:=x a _ r
  exact q
noncomputable def Mut:Option HO→Prop
 |some (.lst _)=>True
 |some (.dK _)=>True
 |some (.dT _)=>True
 |some (.set _ _)=>True
 |some (.ins _ _ _)=>True
 |some (.ext _)=>True
 |_=>False
section
variable{P:Program}{w:World}{H:Hp}{h h' :Heap}{x e:Addr}{o' :HO}
theorem HOk.write(ok:HOk P w H h)(mu:Mut (H x))(he:e=x∨H e=some (.own x))(k:∀b u,b≠e→h.get? b=some u→h'.get? b=some u)(heo:∃u,h'.get? e=some u)
  (new:br P w (upd H x o') h' x o'):HOk P w (upd H x o') h' :=λb u q=>by
 have nown:∀c y,H c=some (.own y)→c≠x:=λc y r z=>by subst z;rw[r] at mu;exact mu
 have ntup:∀c xs,H c=some (.tup xs)→c≠x:=λc xs r z=>by subst z;rw[r] at mu;exact mu
 by_cases hb:b=x
 ·subst hb;rw[av] at q;cases q;exact new
 ·rw[ay hb] at q
  by_cases hbe:b=e
  ·have q' :H b=some (.own x):=by
    rcases he with z|z
    ·exact absurd (hbe.trans z) hb
    ·rw[hbe];exact z
   rw[q] at q';cases q'
   obtain⟨v,hv⟩:=heo
   exact⟨v,by rw[hbe];exact hv⟩
  ·refine(ok b u q).gq (λc v hc r=>k c v ?_ r) (λc r=>by rw[ay (nown c b r)];exact r) λc xs r=>by rw[ay (ntup c xs r)];exact r
   rcases hc with rfl|hc
   ·exact hbe
   ·rintro rfl
    rcases he with z|z
    ·exact nown c b hc z
    ·rw[hc] at z;cases z;exact hb rfl
end
structure Un(fs ex:List Addr)(H H' :Hp)(h h' :Heap):Prop where
 keep:∀b o,h.get? b=some o→H b=none→b∉fs→b∉ex→h'.get? b=some o
 slot:∀b o,h.get? b=some o→H b=none→b∈fs→b∉ex→∃sl,h'.get? b=some {o with slots:=sl}
 free:∀b o,h.get? b=some o→H b=none→b∉ex→H' b=none
 there:∀b o,h.get? b=some o→b∉ex→∃o',h'.get? b=some o'
 qR:∀b xs,H b=some (.tup xs)→H' b=some (.tup xs)
 pz:∀b o u,H b=some (.frz o u)→H' b=some (.frz o u)
 qS:∀b ps,H b=some (.tbl ps)→∃more,H' b=some (.tbl (ps++more))
section
variable{fs fs' ex ex' :List Addr}{H H1 H2:Hp}{h h1 h2 h' :Heap}{a x e:Addr}{o:HO}
theorem Un.any(u:Un fs ex H H1 h h1){b:Addr}{ob:Obj}(q:h.get? b=some ob)(n:H b=none)(hx:b∉ex):∃sl,h1.get? b=some {ob with slots:=sl}:=by
 by_cases hb:b∈fs
 ·exact u.slot b ob q n hb hx
 ·exact⟨ob.slots,u.keep b ob q n hb hx⟩
theorem Un.kept(k:∀b u,h.get? b=some u→h'.get? b=some u):Un fs ex H H h h' :=
 ⟨λb ob q _ _ _=>k b ob q,λb ob q _ _ _=> ⟨ob.slots,k b ob q⟩,λ_ _ _ n _=>n,λb ob q _=> ⟨ob,k b ob q⟩,λ_ _ q=>q,λ_ _ _ q=>q,λ_ ps q=> ⟨#[],by rw[q];simp⟩⟩
theorem Un.refl:Un fs ex H H h h:=Un.kept λ_ _ q=>q
theorem Un.laid(k:∀b u,h.get? b=some u→h'.get? b=some u)(hp:h.objs.size≤a)(hn:H a=none):Un fs ex H (upd H a o) h h' where
 keep:=λb u q _ _ _=>k b u q
 slot:=λb u q _ _ _=> ⟨u.slots,k b u q⟩
 free:=λb u q n _=>by rw[ay (GaC (GaF (Gam q) hp))];exact n
 there:=λb u q _=> ⟨u,k b u q⟩
 qR:=λb xs q=>by rw[ay (cf q hn)];exact q
 pz:=λb u xs q=>by rw[ay (cf q hn)];exact q
 qS:=λb ps q=> ⟨#[],by rw[ay (cf q hn),q];simp⟩
theorem Un.write(mu:Mut (H x))(he:e=x∨H e=some (.own x))(k:∀b u,b≠e→h.get? b=some u→h'.get? b=some u)(heo:∃u,h'.get? e=some u):Un fs ex H (upd H x o) h h' :=by
 have hx:∀b,H b=none→b≠x:=λb n z=>by subst z;rw[n] at mu;exact mu
 have hb:∀b,H b=none→b≠e:=λb n z=>by
  subst z
  rcases he with r|r
  ·exact hx b n r
  ·rw[n] at r;cases r
 have hm:∀b u,H b=some u→¬Mut (some u)→b≠x:=λb u q nm z=>by subst z;rw[q] at mu;exact nm mu
 refine⟨λb u q n _ _=>k b u (hb b n) q,λb u q n _ _=> ⟨u.slots,k b u (hb b n) q⟩,λb u q n _=>by rw[ay (hx b n)];exact n,λb u q _=> ?_,
  λb xs q=>by rw[ay (hm b _ q λz=>z)];exact q,λb u xs q=>by rw[ay (hm b _ q λz=>z)];exact q,λb ps q=> ⟨#[],by rw[ay (hm b _ q λz=>z),q];simp⟩⟩
 by_cases hbe:b=e
 ·subst hbe;exact heo
 ·exact⟨u,k b u hbe q⟩
end
noncomputable def trk(h:Heap)(H:Hp):List Addr:=(List.range h.objs.size).filter λa=>(H a).isSome
noncomputable def oj(h:Heap)(H:Hp):Heap:=PySem.W.hideAll h (trk h H)
theorem u4(h:Heap)(H:Hp):(oj h H).objs.size=h.objs.size:=PySem.W.hideAll_size _ _
theorem vj{h:Heap}{H:Hp}{b:Addr}{o:Obj}(e:h.get? b=some o)(n:H b=none):(oj h H).get? b=some o:=
 PySem.W.hideAll_get _ e λhm=>by
  have q:(H b).isSome=true:=(GbR.mp hm).2
  rw[n] at q;simp at q
theorem As{h:Heap}{H:Hp}{b:Addr}{o:Obj}(e:(oj h H).get? b=some o):h.get? b=some o∧H b=none:=by
 have e' :h.get? b=some o:=PySem.W.of_hideAll (trk h H) e
 refine⟨e', ?_⟩
 cases q:H b with
 |none=>rfl
 |some x=>
  have hm:b∈trk h H:=GbR.mpr ⟨GaO.mpr (Gam e'),by simp[q]⟩
  have z:(oj h H).get? b=none:=PySem.W.hideAll_none (trk h H) hm
  rw[z] at e;cases e
noncomputable def Au(g h:Heap)(L:Addr):List (Addr×Obj):=(List.range h.objs.size).filterMap λa=>if a=L∨(g.get? a).isSome=true then none else(h.get? a).map λo=>(a,o)
noncomputable def rest(g h:Heap)(L d:Addr):List (Addr×Obj):=(Au g h L).filter λp=>decide (p.1≠d)
structure Mod(K:PySem.W.Frag)(mg:Str→Option Value)(base:Heap):Prop where
 kin:K.In base
 glob:base.Ns mainGlobals mg
 blt:∃mb,base.Ns builtinsNs mb∧∀x:Str,x≠"__name__"→mb x=bootBuiltins x
 nolimit:base.NoLimit
structure Cx where
 prog:Program
 w:World
 K:PySem.W.Frag
 mg:Str→Option Value
 base:Heap
 A:Around
 N:List Str
 s₀:Shared
 H₀:Hp
 env:Env
 outer:List Env
 stack:List Env
 ex:List Addr
 fn:Str→Bool
 calm:Bool
 pn:List (Addr×Obj)
 xe:Value→Shared→Prop
noncomputable def frs(l:List Env):List Addr:=l.filterMap (·.frame)
noncomputable abbrev Cx.fs (X:Cx):List Addr:=frs X.outer
noncomputable def Vis(sc:Scope)(x:Str):Prop:=sc.names.lookup x=some .local∨sc.names.lookup x=some .cell∨sc.names.lookup x=some .free
noncomputable def Loc(sc:Scope)(x:Str):Prop:=sc.names.lookup x=some .local∨sc.names.lookup x=some .cell
noncomputable def Look(env:Env)(h:Heap)(m:Str→Option Value)(x:Str)(u:Value):Prop:=
 (env.kindOf x=some .local∧m x=some u)∨((env.kindOf x=some .cell∨env.kindOf x=some .free)∧∃c,env.cells.lookup x=some c∧h.IsCell c (some u))
structure Cx.Ok(X:Cx):Prop where
 mod:Mod X.K X.mg X.base
 kind:X.env.scope.kind= .function
 glob:X.env.globals=mainGlobals
 blt:X.env.builtins=builtinsNs
 above:X.s₀.heap.objs.size≤X.env.locals
 inj:∀x y c,X.env.cells.lookup x=some c→X.env.cells.lookup y=some c→x=y
 has:∀x,(X.env.kindOf x=some .cell∨X.env.kindOf x=some .free)→∃c,X.env.cells.lookup x=some c
 cab:∀x c,X.fn x=true→X.env.cells.lookup x=some c→X.s₀.heap.objs.size≤c
 hd:X.calm=true→X.A.handled=none
 frames:X.A.frames=some X.stack
 stk:X.stack=X.outer∨(X.stack=X.env::X.outer∧X.env.frame=some X.env.locals)
 exf:∀b∈X.ex,b≠X.env.locals∧∀x c,X.env.cells.lookup x=some c→c≠b
 bs:∀b o,X.base.get? b=some o→X.s₀.heap.get? b=some o∧X.H₀ b=none
 bsz:X.base.objs.size≤X.s₀.heap.objs.size
 Ap:∀b o,X.base.get? b=some o→b∉X.ex
 Aq:∀b∈X.ex,b∉X.fs
 lp:X.s₀.heap.FunFrames X.base X.outer
 frf:∀b∈X.fs,X.H₀ b=none
structure Inv(X:Cx)(pins:List (Addr×Obj))(σ:List (Option V))(H:Hp)(s:Shared):Prop where
 ok:X.Ok
 os:s.os=X.s₀.os
 bare:AllBare s.gens
 base:Un X.fs X.ex X.H₀ H X.s₀.heap s.heap
 loc:∃m,s.heap.Ns X.env.locals m∧∀(i:Nat) (x:Str) (v:V),X.N[i]? =some x→σ[i]? =some (some v)→Vis X.env.scope x→∃u,RelV v u∧Look X.env s.heap m x u
 cell:∀x c,X.env.cells.lookup x=some c→∃v,s.heap.IsCell c v
 free:H X.env.locals=none
 gQ:∀x c,X.env.cells.lookup x=some c→H c=none
 pin:∀p∈X.pn++pins,s.heap.get? p.1=some p.2∧H p.1=none∧p.1≠X.env.locals∧p.1∉X.fs∧∀v,p.2.data≠ .cell v
 hok:HOk X.prog X.w H s.heap
 len:σ.length=X.N.length
section
variable{X:Cx}{pins:List (Addr×Obj)}{σ:List (Option V)}{H H' :Hp}{s:Shared}{h' :Heap}
theorem Cx.Ok.Gq(ok:X.Ok){b:Addr}{o:Obj}(e:X.base.get? b=some o):b∉X.fs:=λhb=>by
 have:=(ok.lp.mem hb).1
 rw[e] at this;cases this
theorem Inv.bs(I:Inv X pins σ H s):∀b o,X.base.get? b=some o→s.heap.get? b=some o∧H b=none:=λb o e=>
 ⟨I.base.keep b o (I.ok.bs b o e).1 (I.ok.bs b o e).2 (I.ok.Gq e) (I.ok.Ap b o e),I.base.free b o (I.ok.bs b o e).1 (I.ok.bs b o e).2 (I.ok.Ap b o e)⟩
theorem Inv.bk(I:Inv X pins σ H s):∀b o,X.base.get? b=some o→s.heap.get? b=some o:=λb o e=>(I.bs b o e).1
theorem Inv.mod(I:Inv X pins σ H s):Mod X.K X.mg X.base:=I.ok.mod
theorem Inv.kIn(I:Inv X pins σ H s):X.K.In s.heap:=I.ok.mod.kin.keeps I.bk
theorem Inv.lt(I:Inv X pins σ H s):X.env.locals<s.heap.objs.size:=let⟨_,hn,_⟩:=I.loc;hn.lt
theorem Inv.sz(I:Inv X pins σ H s):X.s₀.heap.objs.size≤s.heap.objs.size:=GbJ I.ok.above (Gcq I.lt)
theorem Inv.Gr(I:Inv X pins σ H s){a:Addr}(h:s.heap.objs.size≤a):a∉X.fs:=λhb=>by
 obtain⟨_,o,ho,_⟩:=I.ok.lp.mem hb
 exact absurd (GaF (Gam ho) (GbJ I.sz h)) (Gbb _)
theorem Inv.cne(I:Inv X pins σ H s):∀x c,X.env.cells.lookup x=some c→c≠X.env.locals:=λx c e z=>by
 obtain⟨v,o,ho,hd⟩:=I.cell x c e
 obtain⟨m,⟨o',es,ep,ho',hd',_⟩,_⟩:=I.loc
 rw[z,ho'] at ho;cases ho;rw[hd'] at hd;cases hd
theorem Inv.lp(I:Inv X pins σ H s):s.heap.FunFrames X.base X.outer:=by
 have all:∀(l:List Env),(∀b∈frs l,b∈X.fs)→X.s₀.heap.FunFrames X.base l→s.heap.FunFrames X.base l:=by
  intro l
  induction l with
  |nil=>intro _ _;trivial
  |cons env r ih=>
   intro hs hl
   obtain⟨hk,⟨L,o,hf,hn,ho,hd⟩,hr⟩:=hl
   have hL:L∈X.fs:=hs L (by unfold frs;rw[Gcu,hf];exact Gap)
   obtain⟨sl,e⟩:=I.base.slot L o ho (I.ok.frf L hL) hL λz=>I.ok.Aq L z hL
   exact⟨hk,⟨L,_,hf,hn,e,hd⟩,ih (λb hb=>hs b (by unfold frs;rw[Gcu,hf];exact Gai _ hb)) hr⟩
 exact all X.outer (λ_ hb=>hb) I.ok.lp
theorem Inv.stack(I:Inv X pins σ H s):s.heap.FunFrames X.base X.stack:=by
 rcases I.ok.stk with e| ⟨e,hf⟩
 ·rw[e];exact I.lp
 ·rw[e]
  obtain⟨m,hn,_⟩:=I.loc
  refine .cons (by rw[I.ok.kind];decide) hf hn ?_ I.lp
  exact Heap.get?_none_of_le (GbJ I.ok.bsz I.ok.above)
theorem Inv.qT(I:Inv X pins σ H s):∀b∈frs X.stack,b∈X.env.locals::X.fs:=λb hb=>by
 rcases I.ok.stk with e| ⟨e,hf⟩
 ·rw[e] at hb;exact Gai _ hb
 ·rw[e] at hb
  unfold frs at hb
  rw[Gcu,hf] at hb
  exact hb
theorem Inv.sv(I:Inv X pins σ H s):∀b∈frs X.stack,H b=none:=λb hb=>by
 rcases Gar.mp (I.qT b hb) with e|hb
 ·rw[e];exact I.free
 ·obtain⟨_,o,ho,_⟩:=I.ok.lp.mem hb
  exact I.base.free b o ho (I.ok.frf b hb) λz=>I.ok.Aq b z hb
theorem Inv.step{g' :Array GenState}{t' :Nat}{d' :Drawn}{ch:List Addr}(I:Inv X pins σ H s)
  (hch:∀b∈ch,(b∈X.ex∨X.s₀.heap.objs.size≤b)∧b≠X.env.locals∧(∀x c,X.env.cells.lookup x=some c→c≠b)∧∀p∈X.pn++pins,p.1≠b)
  (keep:∀b o,b≠X.env.locals→b∉X.fs→b∉ch→s.heap.get? b=some o→H b=none→h'.get? b=some o)
  (slot:∀b o,b≠X.env.locals→b∈X.fs→b∉ch→s.heap.get? b=some o→H b=none→∃sl,h'.get? b=some {o with slots:=sl})(free:∀b o,b∉ch→s.heap.get? b=some o→H b=none→H' b=none)
  (there:∀b o,b∉ch→s.heap.get? b=some o→∃o',h'.get? b=some o')
  (qR:∀b xs,H b=some (.tup xs)→H' b=some (.tup xs))(pz:∀b o u,H b=some (.frz o u)→H' b=some (.frz o u))(qS:∀b ps,H b=some (.tbl ps)→∃more,H' b=some (.tbl (ps++more)))
  (ns:∀m,s.heap.Ns X.env.locals m→h'.Ns X.env.locals m)(hok:HOk X.prog X.w H' h')(hg:AllBare g'):
  Inv X pins σ H' {s with heap:=h',gens:=g',drawn:=d',toks:=t' }:=by
 have neL:∀b o,X.s₀.heap.get? b=some o→b≠X.env.locals:=λb o e=>GaC (GaF (Gam e) I.ok.above)
 have neC:∀b o,X.s₀.heap.get? b=some o→b∉X.ex→b∉ch:=λb o e hx hb=>by
  rcases(hch b hb).1 with z|z
  ·exact hx z
  ·exact absurd (GaF (Gam e) z) (Gbb _)
 have cellK:∀x c,X.env.cells.lookup x=some c→∀v,s.heap.IsCell c v→h'.IsCell c v:=λx c e v ⟨o,ho,hd⟩=>by
  have nch:c∉ch:=λz=>(hch c z).2.2.1 x c e rfl
  by_cases hc:c∈X.fs
  ·obtain⟨sl,q⟩:=slot c o (I.cne x c e) hc nch ho (I.gQ x c e)
   exact⟨_,q,hd⟩
  ·exact⟨o,keep c o (I.cne x c e) hc nch ho (I.gQ x c e),hd⟩
 refine⟨I.ok,I.os,hg,⟨λb o e n hb hx=> ?_,λb o e n hb hx=> ?_,λb o e n hx=> ?_,λb o e hx=> ?_,λb xs e=>qR b xs (I.base.qR b xs e),λb o xs e=>pz b o xs (I.base.pz b o xs e),λb ps e=> ?_⟩, ?_,λx c e=> ?_, ?_,λx c e=> ?_,λp hp=> ?_,hok,I.len⟩
 ·exact keep b o (neL b o e) hb (neC b o e hx) (I.base.keep b o e n hb hx) (I.base.free b o e n hx)
 ·obtain⟨sl,e1⟩:=I.base.slot b o e n hb hx
  obtain⟨sl',e2⟩:=slot b _ (neL b o e) hb (neC b o e hx) e1 (I.base.free b o e n hx)
  exact⟨sl',e2⟩
 ·obtain⟨o',e1⟩:=I.base.there b o e hx
  exact free b o' (neC b o e hx) e1 (I.base.free b o e n hx)
 ·obtain⟨o',e1⟩:=I.base.there b o e hx
  exact there b o' (neC b o e hx) e1
 ·obtain⟨m1,e1⟩:=I.base.qS b ps e
  obtain⟨m2,e2⟩:=qS b _ e1
  exact⟨m1++m2,by rw[e2,Array.append_assoc]⟩
 ·obtain⟨m,hn,hl⟩:=I.loc
  refine⟨m,ns m hn,λi x v e1 e2 e3=> ?_⟩
  obtain⟨u,r,l⟩:=hl i x v e1 e2 e3
  refine⟨u,r, ?_⟩
  rcases l with l| ⟨k,c,e,z⟩
  ·exact .inl l
  ·exact .inr ⟨k,c,e,cellK x c e _ z⟩
 ·obtain⟨v,z⟩:=I.cell x c e
  exact⟨v,cellK x c e v z⟩
 ·obtain⟨m,⟨o,_,_,ho,_⟩,_⟩:=I.loc
  exact free _ o (λz=>(hch _ z).2.1 rfl) ho I.free
 ·obtain⟨v,o,ho,hd⟩:=I.cell x c e
  exact free c o (λz=>(hch c z).2.2.1 x c e rfl) ho (I.gQ x c e)
 ·obtain⟨e,n,ne,nf,d⟩:=I.pin p hp
  have nch:p.1∉ch:=λz=>(hch p.1 z).2.2.2 p hp rfl
  exact⟨keep p.1 p.2 ne nf nch e n,free p.1 p.2 nch e n,ne,nf,d⟩
theorem Inv.un{t' :Nat}(I:Inv X pins σ H s)(u:Un X.fs [] H H' s.heap h')(hok:HOk X.prog X.w H' h'):Inv X pins σ H' {s with heap:=h',toks:=t' }:=by
 obtain⟨m,⟨o,es,ep,ho,r⟩,_⟩:=id I.loc
 obtain⟨sl,hL⟩:=u.any ho I.free (by simp)
 exact I.step (g' :=s.gens) (d' :=s.drawn) (ch:=[]) (λ_ z=>nomatch z) (λb o _ hb _ e n=>u.keep b o e n hb (by simp)) (λb o _ hb _ e n=>u.slot b o e n hb (by simp)) (λb o _ e n=>u.free b o e n (by simp)) (λb o _ e=>u.there b o e (by simp)) u.qR u.pz u.qS (λm' hm=>by
  obtain⟨o',es',ep',ho',r'⟩:=hm
  rw[ho] at ho';cases ho'
  exact⟨_,es',ep',hL,r'⟩) hok I.bare
theorem Inv.call{g' :Array GenState}{t' :Nat}{d' :Drawn}{ch:List Addr}(I:Inv X pins σ H s)(u:Un (frs X.stack) ch H H' s.heap h')(hok:HOk X.prog X.w H' h')(hg:AllBare g')
  (hch:∀b∈ch,(b∈X.ex∨X.s₀.heap.objs.size≤b)∧b≠X.env.locals∧(∀x c,X.env.cells.lookup x=some c→c≠b)∧∀p∈X.pn++pins,p.1≠b):
  Inv X pins σ H' {s with heap:=h',gens:=g',drawn:=d',toks:=t' }:=by
 obtain⟨m,⟨o,es,ep,ho,r⟩,_⟩:=id I.loc
 obtain⟨sl,hL⟩:=u.any ho I.free λz=>(hch _ z).2.1 rfl
 exact I.step (ch:=ch) hch (λb o hL hb hc e n=>u.keep b o e n (λz=>(Gar.mp (I.qT b z)).elim hL hb) hc) (λb o _ _ hc e n=>u.any e n hc) (λb o hc e n=>u.free b o e n hc) (λb o hc e=>u.there b o e hc) u.qR u.pz u.qS (λm' hm=>by
  obtain⟨o',es',ep',ho',r'⟩:=hm
  rw[ho] at ho';cases ho'
  exact⟨_,es',ep',hL,r'⟩) hok hg
theorem Inv.turned{t' :Nat}{it:Addr}(I:Inv X pins σ H s)(k:∀b o,b≠it→s.heap.get? b=some o→h'.get? b=some o)(hn:H it=none)(hL:it≠X.env.locals)
  (h1:it∈X.ex∨X.s₀.heap.objs.size≤it)(h2:∀x c,X.env.cells.lookup x=some c→c≠it)(h3:∀p∈X.pn++pins,p.1≠it):Inv X pins σ H {s with heap:=h',toks:=t' }:=by
 have nit:∀b u,H b=some u→b≠it:=λb u e z=>by rw[z,hn] at e;cases e
 refine I.step (g' :=s.gens) (d' :=s.drawn) (ch:=[it]) (λb hb=> ?_) (λb o _ _ hc e _=>k b o (λz=>hc (by simp[z])) e) (λb o _ _ hc e _=> ⟨o.slots,k b o (λz=>hc (by simp[z])) e⟩) (λ_ _ _ _ n=>n)
  (λb o hc e=> ⟨o,k b o (λz=>hc (by simp[z])) e⟩) (λ_ _ e=>e) (λ_ _ _ e=>e) (λb ps e=> ⟨#[],by rw[e];simp⟩) (λm hm=> ?_) (λb u e=> ?_) I.bare
 ·have e:b=it:=by simpa using hb
  subst e
  exact⟨h1,hL,h2,h3⟩
 ·obtain⟨o,es,ep,ho,r⟩:=hm
  exact⟨o,es,ep,k _ o (Gbl hL) ho,r⟩
 ·refine(I.hok b u e).gq (λc v hc q=>k c v ?_ q) (λ_ q=>q) λ_ _ q=>q
  rcases hc with z|z
  ·rw[z];exact nit b u e
  ·exact nit c _ z
theorem Inv.tok(I:Inv X pins σ H s)(t:Nat):Inv X pins σ H {s with toks:=t}:=I.un (h' :=s.heap) (t' :=t) Un.refl I.hok
theorem Inv.kept{t' :Nat}(I:Inv X pins σ H s)(k:∀b u,s.heap.get? b=some u→h'.get? b=some u):Inv X pins σ H {s with heap:=h',toks:=t' }:=I.un (Un.kept k) (I.hok.kept k)
theorem Inv.laid{a:Addr}{o:HO}{t' :Nat}(I:Inv X pins σ H s)(k:∀b u,s.heap.get? b=some u→h'.get? b=some u)(hp:s.heap.objs.size≤a)(new:br X.prog X.w (upd H a o) h' a o):
  Inv X pins σ (upd H a o) {s with heap:=h',toks:=t' }:=I.un (Un.laid k hp (I.hok.fresh hp)) (I.hok.laid k hp new)
theorem Inv.write{x e:Addr}{o:HO}{t' :Nat}(I:Inv X pins σ H s)(mu:Mut (H x))(he:e=x∨H e=some (.own x))(k:∀b u,b≠e→s.heap.get? b=some u→h'.get? b=some u)(heo:∃u,h'.get? e=some u)
  (new:br X.prog X.w (upd H x o) h' x o):Inv X pins σ (upd H x o) {s with heap:=h',toks:=t' }:=I.un (Un.write mu he k heo) (I.hok.write mu he k heo new)
theorem Inv.sC{pins' :List (Addr×Obj)}(I:Inv X pins σ H s)(h:∀p∈pins',s.heap.get? p.1=some p.2∧H p.1=none∧p.1≠X.env.locals∧p.1∉X.fs∧∀v,p.2.data≠ .cell v):Inv X pins' σ H s:=
 ⟨I.ok,I.os,I.bare,I.base,I.loc,I.cell,I.free,I.gQ,λp hp=>(GaL.mp hp).elim (λz=>I.pin p (List.mem_append_left _ z)) (h p),I.hok,I.len⟩
theorem pA{N:List Str}(hN:N.Nodup){i j:Nat}{x:Str}(a:N[i]? =some x)(b:N[j]? =some x):i=j:=by
 obtain⟨h1,e1⟩:=Gac.mp a
 obtain⟨h2,e2⟩:=Gac.mp b
 exact(List.getElem_inj hN).mp (e1.trans e2.symm)
theorem nh{M:Model}{A:Around}{E:Value→Shared→Prop}{i:Nat}{x:Str}{v:V}{u:Value}{Q:Unit→Shared→Prop}(I:Inv X pins σ H s)(hN:X.N.Nodup)(hi:X.N[i]? =some x)(hx:Loc X.env.scope x)(r:RelV v u)
  (h:∀s',Inv X pins (σ.set i (some v)) H s' →(∃a,Heap.SameBut a s.heap s'.heap∧(a=X.env.locals∨X.env.cells.lookup x=some a))→Q () s')(hf:X.fn x=true∨X.env.scope.names.lookup x=some .local:=by first|exact .inl rfl|exact .inr rfl|assumption):wpAny M A (storeName X.env x u) Q E s:=by
 obtain⟨m,hn,hl⟩:=id I.loc
 have hcls:(X.env.scope.kind== .class||(X.env.scope.kind== .module&&X.env.locals !=X.env.globals))=false:=by rw[I.ok.kind];rfl
 have hiσ:i<σ.length:=by rw[I.len];exact(Gac.mp hi).1
 have cne:=I.cne
 have tracked:∀{a:Addr} {h' :Heap},(∃o,s.heap.get? a=some o∧H a=none)→Heap.SameBut a s.heap h' →HOk X.prog X.w H h' :=λ{a h'} ha hs b ob e=>by
  obtain⟨_,_,hfree⟩:=ha
  refine(I.hok b ob e).gq (λc w' hc q=>(hs.2 c ?_).trans q) (λ_ q=>q) λ_ _ q=>q
  rintro rfl
  rcases hc with rfl|hc
  ·rw[hfree] at e;cases e
  ·rw[hfree] at hc;cases hc
 rcases hx with hk|hk
 ·refine wpAny_storeName_local hk hn (λh' hn' hs=> ?_) hcls
  obtain⟨oL,_,_,hoL,_⟩:=id hn
  refine h _ ⟨I.ok,I.os,I.bare,⟨λb o e n hb hx=> ?_,λb o e n hb hx=> ?_,I.base.free,λb o e hx=> ?_,I.base.qR,I.base.pz,I.base.qS⟩,⟨_,hn',λj y v' e1 e2 e3=> ?_⟩,λy c e=> ?_,I.free,I.gQ,λp hp=> ?_,tracked ⟨oL,hoL,I.free⟩ hs,by simpa using I.len⟩ ⟨_,hs,.inl rfl⟩
  ·exact(hs.2 b (GaC (GaF (Gam e) I.ok.above))).trans (I.base.keep b o e n hb hx)
  ·obtain⟨sl,e1⟩:=I.base.slot b o e n hb hx
   exact⟨sl,(hs.2 b (GaC (GaF (Gam e) I.ok.above))).trans e1⟩
  ·obtain⟨o',e1⟩:=I.base.there b o e hx
   exact⟨o',(hs.2 b (GaC (GaF (Gam e) I.ok.above))).trans e1⟩
  ·by_cases hj:j=i
   ·subst hj
    rw[hi] at e1;cases e1
    rw[Gbc hiσ] at e2
    cases e2
    exact⟨u,r,.inl ⟨hk,by simp⟩⟩
   ·rw[Gaj (Gbl hj)] at e2
    obtain⟨u',r',q⟩:=hl j y v' e1 e2 e3
    refine⟨u',r', ?_⟩
    rcases q with⟨k,e⟩| ⟨k,c,e,z⟩
    ·refine .inl ⟨k, ?_⟩
     have:y≠x:=λe=>hj (pA hN e1 (e▸hi))
     simp[this,e]
    ·exact .inr ⟨k,c,e,z.sameBut hs (cne y c e)⟩
  ·obtain⟨w',z⟩:=I.cell y c e
   exact⟨w',z.sameBut hs (cne y c e)⟩
  ·obtain⟨e,n,ne,nf,d⟩:=I.pin p hp
   exact⟨(hs.2 p.1 ne).trans e,n,ne,nf,d⟩
 ·have hfn:X.fn x=true:=by
   rcases hf with z|z
   ·exact z
   ·rw[z] at hk;cases hk
  obtain⟨c,hc⟩:=I.ok.has x (.inl hk)
  obtain⟨w',z⟩:=I.cell x c hc
  refine wpAny_storeName_cell I.ok.kind hk hc z (λh' hc' hs=> ?_)
  obtain⟨oc,hoc,hocd⟩:=id z
  refine h {s with heap:=h' } ⟨I.ok,I.os,I.bare,⟨λb o e n hb hx=> ?_,λb o e n hb hx=> ?_,I.base.free,λb o e hx=> ?_,I.base.qR,I.base.pz,I.base.qS⟩,⟨m,hn.sameBut hs (Gbl (cne x c hc)),λj y v' e1 e2 e3=> ?_⟩,λy c' e=> ?_,I.free,I.gQ,λp hp=> ?_,tracked ⟨oc,hoc,I.gQ x c hc⟩ hs,by simpa using I.len⟩ ⟨c,hs,.inr hc⟩
  ·exact(hs.2 b (GaC (GaF (Gam e) (I.ok.cab x c hfn hc)))).trans (I.base.keep b o e n hb hx)
  ·obtain⟨sl,e1⟩:=I.base.slot b o e n hb hx
   exact⟨sl,(hs.2 b (GaC (GaF (Gam e) (I.ok.cab x c hfn hc)))).trans e1⟩
  ·obtain⟨o',e1⟩:=I.base.there b o e hx
   exact⟨o',(hs.2 b (GaC (GaF (Gam e) (I.ok.cab x c hfn hc)))).trans e1⟩
  ·by_cases hj:j=i
   ·subst hj
    rw[hi] at e1;cases e1
    rw[Gbc hiσ] at e2
    cases e2
    exact⟨u,r,.inr ⟨.inl hk,c,hc,hc'⟩⟩
   ·rw[Gaj (Gbl hj)] at e2
    obtain⟨u',r',q⟩:=hl j y v' e1 e2 e3
    refine⟨u',r', ?_⟩
    rcases q with q| ⟨k,c',e,z'⟩
    ·exact .inl q
    ·refine .inr ⟨k,c',e,z'.sameBut hs ?_⟩
     rintro rfl
     exact hj (pA hN e1 (I.ok.inj _ _ _ e hc▸hi))
  ·by_cases hcc:c' =c
   ·subst hcc;exact⟨_,hc'⟩
   ·obtain⟨w2,z2⟩:=I.cell y c' e
    exact⟨w2,z2.sameBut hs hcc⟩
  ·obtain⟨e,n,ne,nf,d⟩:=I.pin p hp
   refine⟨(hs.2 p.1 ?_).trans e,n,ne,nf,d⟩
   intro q
   rw[q,hoc] at e
   have q' :oc=p.2:=Option.some.inj e
   exact d w' (by rw[←q'];exact hocd)
theorem pB{M:Model}{A:Around}{E:Value→Shared→Prop}{i:Nat}{x:Str}{v:V}{u:Value}{Q:Unit→Shared→Prop}(I:Inv X pins σ H s)(hN:X.N.Nodup)(hi:X.N[i]? =some x)(hx:Loc X.env.scope x)(r:RelV v u)
  (h:∀s',Inv X pins (σ.set i (some v)) H s' →Q () s')(hf:X.fn x=true∨X.env.scope.names.lookup x=some .local:=by first|exact .inl rfl|exact .inr rfl|assumption):wpAny M A (storeName X.env x u) Q E s:=
 nh I hN hi hx r (λs' I' _=>h s' I') hf
theorem Inv.Em{s' :Shared}{ch:List Addr}(I:Inv X pins σ H s)(ho:s'.os=s.os)(u:Un (frs X.stack) ch H H' s.heap s'.heap)(hok:HOk X.prog X.w H' s'.heap)(hg:AllBare s'.gens)
  (hch:∀b∈ch,(b∈X.ex∨X.s₀.heap.objs.size≤b)∧b≠X.env.locals∧(∀x c,X.env.cells.lookup x=some c→c≠b)∧∀p∈X.pn++pins,p.1≠b):Inv X pins σ H' s' :=by
 obtain⟨h',g',d',t',o'⟩:=s'
 have e:o' =s.os:=ho
 subst e
 exact I.call (g' :=g') (t' :=t') (d' :=d') u hok hg hch
end
noncomputable abbrev XK:=Value→Option Addr→Hp→Prop
noncomputable abbrev St:=List (Option V)
noncomputable abbrev VK:=V→Hp→Prop
noncomputable abbrev TE:=St→Hp→VK→Prop
noncomputable abbrev TT:=St→Hp→(Bool→Hp→Prop)→Prop
noncomputable abbrev TA:=St→Hp→(List V→Hp→Prop)→Prop
structure Ends where
 nx:St→Hp→Prop
 rt:VK
 bk:St→Hp→Prop:=λ_ _=>False
 ct:St→Hp→Prop:=λ_ _=>False
noncomputable abbrev TS:=Ends→St→Hp→Prop
noncomputable def EP(X:Cx)(pins:List (Addr×Obj))(σ:St)(Q:VK)(u:Value)(s' :Shared):Prop:=∃v H',Inv X pins σ H' s' ∧RelV v u∧Q v H'
noncomputable def TP(X:Cx)(pins:List (Addr×Obj))(σ:St)(Q:Bool→Hp→Prop)(b:Bool)(s' :Shared):Prop:=∃H',Inv X pins σ H' s' ∧Q b H'
noncomputable def AP(X:Cx)(pins:List (Addr×Obj))(σ:St)(Q:List V→Hp→Prop)(us:List Value)(s' :Shared):Prop:=∃vs H',Inv X pins σ H' s' ∧Vals vs us∧Q vs H'
noncomputable def SP(X:Cx)(pins:List (Addr×Obj))(D:Ends)(f:Flow)(s' :Shared):Prop:=
 match f with
 | .next=>∃σ' H',Inv X pins σ' H' s' ∧D.nx σ' H'
 | .brk=>∃σ' H',Inv X pins σ' H' s' ∧D.bk σ' H'
 | .cont=>∃σ' H',Inv X pins σ' H' s' ∧D.ct σ' H'
 | .ret u=>∃v σ' H',Inv X pins σ' H' s' ∧RelV v u∧D.rt v H'
noncomputable def PE(X:Cx)(e:Expr)(t:TE):Prop:=
 ∀(pins:List (Addr×Obj)) (s:Shared) (σ:St) (H:Hp) (Q:VK),Inv X pins σ H s→t σ H Q→wpAny (model X.prog X.w) X.A (eval e X.env) (EP X pins σ Q) X.xe s
noncomputable def PT(X:Cx)(e:Expr)(t:TT):Prop:=
 ∀(pins:List (Addr×Obj)) (s:Shared) (σ:St) (H:Hp) (Q:Bool→Hp→Prop),Inv X pins σ H s→t σ H Q→wpAny (model X.prog X.w) X.A (isTrue e X.env (eval e X.env)) (TP X pins σ Q) X.xe s
noncomputable def PW(X:Cx)(e:Expr)(t:TT):Prop:=
 ∀(whole:Sem Value) (pins:List (Addr×Obj)) (s:Shared) (σ:St) (H:Hp) (Q:Bool→Hp→Prop),Inv X pins σ H s→t σ H Q→wpAny (model X.prog X.w) X.A (isTrue e X.env whole) (TP X pins σ Q) X.xe s
theorem PW.pt{X:Cx}{e:Expr}{t:TT}(h:PW X e t):PT X e t:=h _
noncomputable def PA(X:Cx)(es:List Expr)(t:TA):Prop:=
 ∀(pos:Pos) (pins:List (Addr×Obj)) (s:Shared) (σ:St) (H:Hp) (Q:List V→Hp→Prop),Inv X pins σ H s→t σ H Q→wpAny (model X.prog X.w) X.A (spliced (backTo pos (starEach es X.env))) (AP X pins σ Q) X.xe s
noncomputable def PS(X:Cx)(st:Stmt)(t:TS):Prop:=
 ∀(pins:List (Addr×Obj)) (s:Shared) (σ:St) (H:Hp) (D:Ends),Inv X pins σ H s→t D σ H→wpAny (model X.prog X.w) X.A (exec st X.env) (SP X pins D) X.xe s
noncomputable def PSs(X:Cx)(st:List Stmt)(t:TS):Prop:=
 ∀(pins:List (Addr×Obj)) (s:Shared) (σ:St) (H:Hp) (D:Ends),Inv X pins σ H s→t D σ H→wpAny (model X.prog X.w) X.A (execs st X.env) (SP X pins D) X.xe s
theorem thn{α:Type}{t:Sem α}{Q Q' :α→Shared→Prop}{M:Model}{A:Around}{E:Value→Shared→Prop}{s:Shared}(h:wpAny M A t Q E s)(hQ:∀a s,Q a s→Q' a s):wpAny M A t Q' E s:=GbS h hQ λ_ _ x=>x
section
variable{X:Cx}
noncomputable def En(i:Nat):TE:=λσ H Q=>∃v,σ[i]? =some (some v)∧Q v H
noncomputable def tC(v:V):TE:=λ_ H Q=>Q v H
theorem iA{i:Nat}{x:Str}{pos:Pos}(hN:X.N[i]? =some x)(hv:Vis X.env.scope x)(hd:(x==("__debug__":Str))=false:=by decide)(hcd:(x==("__classdict__":Str))=false:=by decide):PE X (.Name x pos) (En i):=by
 intro pins s σ H Q I h
 obtain⟨v,e,h⟩:=h
 obtain⟨m,hn,hl⟩:=I.loc
 obtain⟨u,r,l⟩:=hl i x v hN e hv
 have fin:EP X pins σ Q u s:=⟨v,H,I,r,h⟩
 rcases l with⟨hk,hm⟩| ⟨hk,c,hc,hcell⟩
 ·exact wpAny_Name (wpAny_loadName_local I.ok.kind hk hn hm fin) hd
 ·rcases hk with hk|hk
  ·exact wpAny_Name (wpAny_loadName_cell I.ok.kind hk hc hcell fin) hd
  ·exact wpAny_Name (wpAny_loadName_free I.ok.kind hk hc hcell fin hcd) hd
theorem Cf{i j pos}:PE X (.Constant (.int i) j pos) (tC (.int i)):=λ_ _ _ H _ I h=>wpAny_Constant_int ⟨.int i,H,I.tok _,⟨_,rfl⟩,h⟩
theorem Eo{b j pos}:PE X (.Constant (.bool b) j pos) (tC (.bl b)):=λ_ _ _ H _ I h=>Constant_bool ⟨.bl b,H,I,rfl,h⟩
theorem Cg{j pos}:PE X (.Constant .none j pos) (tC .non):=λ_ _ _ H _ I h=>Constant_none ⟨.non,H,I,rfl,h⟩
theorem Ci{x j pos}:PE X (.Constant (.str x) j pos) (tC (.str x)):=λ_ _ _ H _ I h=>Calls.Constant_str ⟨.str x,H,I.tok _,⟨_,rfl⟩,h⟩
noncomputable def Gl(X:Cx)(x:Str):Prop:=X.env.kindOf x=some .globalImplicit
theorem Av{E:Value→Shared→Prop}{pins:List (Addr×Obj)}{s:Shared}{σ:St}{H:Hp}{x:Str}{u:Value}{pos:Pos}{Q:Value→Shared→Prop}(I:Inv X pins σ H s)(hg:Gl X x)(hm:X.mg x=some u)(h:Q u s)
  (hd:(x==("__debug__":Str))=false:=by decide):wpAny (model X.prog X.w) X.A (eval (.Name x pos) X.env) Q E s:=
 Calls.Name_function_global I.ok.kind hg (Calls.loadGlobal_global (by rw[I.ok.glob];exact I.mod.glob.keeps I.bk) hm h) hd
theorem om{E:Value→Shared→Prop}{pins:List (Addr×Obj)}{s:Shared}{σ:St}{H:Hp}{x:Str}{u:Value}{pos:Pos}{Q:Value→Shared→Prop}(I:Inv X pins σ H s)(hg:Gl X x)(hm:X.mg x=none)(hv:bootBuiltins x=some u)(h:Q u s)
  (hn:x≠"__name__":=by decide)(hd:(x==("__debug__":Str))=false:=by decide):wpAny (model X.prog X.w) X.A (eval (.Name x pos) X.env) Q E s:=by
 obtain⟨mb,h1,h2⟩:=I.mod.blt
 exact Calls.Name_function_global I.ok.kind hg (Calls.loadGlobal_builtin (by rw[I.ok.glob];exact I.mod.glob.keeps I.bk) hm (by rw[I.ok.blt];exact h1.keeps I.bk) ((h2 x hn).trans hv) h) hd
theorem Aw{x:Str}{v:V}{u:Value}{pos:Pos}(hg:Gl X x)(hm:X.mg x=none)(hv:bootBuiltins x=some u)(r:RelV v u)(hn:x≠"__name__":=by decide)(hd:(x==("__debug__":Str))=false:=by decide):PE X (.Name x pos) (tC v):=
 λ_ _ _ H _ I h=>om I hg hm hv ⟨v,H,I,r,h⟩ hn hd
variable{a b:Expr}{ta tb:TE}{pos:Pos}
noncomputable def tB(t:TE):TT:=λσ H Q=>t σ H λx H1=>∃c,x= .bl c∧Q c H1
theorem Cj{e:Expr}{t:TE}(h:PE X e t)(he:∀whole,isTrue e X.env whole=(do let v←whole;standAt e.pos;holding [v] (truthy v)):=by intro _;rfl):PT X e (tB t):=by
 intro pins s σ H Q I hw
 refine isTrue_plain (thn (h pins s σ H _ I hw) λv s1 ⟨x,H1,I1,r1,q1⟩=> ?_) (he _)
 obtain⟨d,rfl,q⟩:=q1
 cases r1
 exact GcG ⟨H1,I1,q⟩
variable{tA tB' :TT}{rest:List Expr}
noncomputable def Gs(t u:TT):TT:=λσ H Q=>t σ H λc H1=>if c=true then u σ H1 Q else Q false H1
noncomputable def tOr(t u:TT):TT:=λσ H Q=>t σ H λc H1=>if c=true then Q true H1 else u σ H1 Q
noncomputable def Gu(t:TT):TT:=λσ H Q=>t σ H λc H1=>Q (!c) H1
theorem Ax(ha:PT X a tA):PW X (.BoolOp .And [a] pos) tA:=by
 intro wh pins s σ H Q I h
 refine isTrue_and (thn (ha pins s σ H Q I h) λc s1 e=> ?_)
 cases c with
 |true=>exact isTrue_and_nil e
 |false=>exact e
theorem Ck(ha:PT X a tA):PW X (.BoolOp .Or [a] pos) tA:=by
 intro wh pins s σ H Q I h
 refine isTrue_or (thn (ha pins s σ H Q I h) λc s1 e=> ?_)
 cases c with
 |false=>exact isTrue_or_nil e
 |true=>exact e
theorem Cm(ha:PT X a tA)(hb:PW X (.BoolOp .And (b::rest) pos) tB'):PW X (.BoolOp .And (a::b::rest) pos) (Gs tA tB'):=by
 intro wh pins s σ H Q I h
 refine isTrue_and (thn (ha pins s σ H _ I h) λc s1 ⟨H1,I1,q1⟩=> ?_)
 cases c with
 |true=>exact hb wh pins s1 σ H1 Q I1 q1
 |false=>exact⟨H1,I1,q1⟩
theorem Ep(ha:PT X a tA)(hb:PW X (.BoolOp .Or (b::rest) pos) tB'):PW X (.BoolOp .Or (a::b::rest) pos) (tOr tA tB'):=by
 intro wh pins s σ H Q I h
 refine isTrue_or (thn (ha pins s σ H _ I h) λc s1 ⟨H1,I1,q1⟩=> ?_)
 cases c with
 |true=>exact⟨H1,I1,q1⟩
 |false=>exact hb wh pins s1 σ H1 Q I1 q1
theorem Cn(ha:PT X a tA):PT X (.UnaryOp .Not a pos) (Gu tA):=by
 intro pins s σ H Q I h
 exact isTrue_not (ha pins s σ H (λc H1=>Q (!c) H1) I h)
noncomputable def Er(ta tb:TE):TE:=λσ H Q=>ta σ H λx H1=>∃c,x= .bl c∧if c=true then tb σ H1 Q else Q (.bl false) H1
noncomputable def Es(ta:TE):TE:=λσ H Q=>ta σ H λx H1=>∃c,x= .bl c∧Q (.bl (!c)) H1
theorem Co{op}{t:TE}(h:PE X a t):PE X (.BoolOp op [a] pos) t:=λpins s σ H Q I hw=>BoolOp_one (h pins s σ H Q I hw)
theorem Cp(ha:PE X a ta)(hb:PE X (.BoolOp .And (b::rest) pos) tb):PE X (.BoolOp .And (a::b::rest) pos) (Er ta tb):=by
 intro pins s σ H Q I h
 refine BoolOp_and (thn (ha pins s σ H _ I h) λv s1 ⟨x,H1,I1,r1,q1⟩=> ?_)
 obtain⟨c,rfl,q1⟩:=q1
 cases r1
 refine GcG ?_
 cases c with
 |true=>exact hb pins s1 σ H1 Q I1 q1
 |false=>exact⟨.bl false,H1,I1,rfl,q1⟩
theorem Cq(ha:PE X a ta):PE X (.UnaryOp .Not a pos) (Es ta):=by
 intro pins s σ H Q I h
 refine UnaryOp_ (thn (ha pins s σ H _ I h) λv s1 ⟨x,H1,I1,r1,q1⟩=> ?_)
 obtain⟨c,rfl,q1⟩:=q1
 cases r1
 exact not_of (GcG ⟨.bl (!c),H1,I1,rfl,q1⟩)
end
noncomputable def SqL(K:PySem.W.Frag)(H:Hp)(a:Addr)(xs:List V):Prop:=
 Rd H a (.lst xs)∨
  ∃(o:Obj) (its:Array Value) (n:Nat),K.lookup a=some o∧o.cls= .type "list"∧o.dict=none∧o.data= .seq its n∧its.size≤sizeLine∧Vals xs its.toList
noncomputable def SqT(K:PySem.W.Frag)(H:Hp)(a:Addr)(xs:List V):Prop:=
 Rd H a (.tup xs)∨
  ∃(o:Obj) (its:Array Value) (n:Nat),K.lookup a=some o∧o.cls= .type "tuple"∧o.data= .seq its n∧its.size≤sizeLine∧Vals xs its.toList
noncomputable def Gv:Value→Option V
 | .none=>some .non
 | .bool b=>some (.bl b)
 | .int i _=>some (.int i)
 | .str x _=>some (.str x)
 | .bytes b _=>some (.byt b)
 | .float b _=>some (.flt b)
 | .ref a=>some (.ref a)
 | .type n=>some (.ty n)
 |_=>none
theorem RelV.abs{x:V}{u:Value}(r:RelV x u):Gv u=some x:=by
 cases x with
 |non=>cases r;rfl
 |bl _=>cases r;rfl
 |int _=>obtain⟨t,rfl⟩:=r;rfl
 |str _=>obtain⟨t,rfl⟩:=r;rfl
 |byt _=>obtain⟨t,rfl⟩:=r;rfl
 |flt _=>obtain⟨t,rfl⟩:=r;rfl
 |ref _=>cases r;rfl
 |ty _=>cases r;rfl
theorem RelV.inj{x y:V}{u:Value}(r:RelV x u)(q:RelV y u):x=y:=Option.some.inj (r.abs.symm.trans q.abs)
theorem Vals.inj:∀{xs ys:List V} {us:List Value},Vals xs us→Vals ys us→xs=ys
 |_,_,_,.nil,.nil=>rfl
 |_,_,_,.cons r t,.cons r' t' =>by rw[r.inj r',Vals.inj t t']
section
variable{X:Cx}{pins:List (Addr×Obj)}{σ:St}{H:Hp}{s:Shared}{a:Addr}{xs ys:List V}
theorem SqT.of{K:PySem.W.Frag}(h:H a=some (.tup xs)):SqT K H a xs:= .inl (.inl h)
theorem Inv.list(I:Inv X pins σ H s)(h:SqL X.K H a xs):∃its:List Value,Vals xs its∧PlainL s.heap a its.toArray∧xs.length≤sizeLine:=by
 rcases h with h| ⟨o,its,n,hk,hc,hd,hs,hz,r⟩
 ·obtain⟨z,its,n,r,e⟩:=h.ok I.hok
  exact⟨its,r,⟨_,n,e,rfl,rfl,rfl⟩,z⟩
 ·refine⟨its.toList,r,⟨o,n,I.kIn a o hk,hc,hd,by simpa using hs⟩, ?_⟩
  have e:=r.length
  simp only[GaE] at e
  omega
theorem Inv.tuple(I:Inv X pins σ H s)(h:SqT X.K H a xs):∃its:List Value,Vals xs its∧IsTup s.heap a its.toArray∧xs.length≤sizeLine:=by
 rcases h with h| ⟨o,its,n,hk,hc,hs,hz,r⟩
 ·obtain⟨z,its,r,p⟩:=h.ok I.hok
  exact⟨its,r,p,z⟩
 ·refine⟨its.toList,r,⟨o,I.kIn a o hk,hc,n,by simpa using hs⟩, ?_⟩
  have e:=r.length
  simp only[GaE] at e
  omega
theorem Inv.vk(I:Inv X pins σ H s)(h:SqL X.K H a xs)(h' :SqL X.K H a ys):xs=ys:=by
 obtain⟨its,r,⟨o,n,e,_,_,d⟩,_⟩:=I.list h
 obtain⟨its',r',⟨o',n',e',_,_,d'⟩,_⟩:=I.list h'
 rw[e] at e';cases e'
 rw[d] at d'
 injection d' with d1 _
 have:its=its' :=by simpa using congrArg Array.toList d1
 subst this
 exact r.inj r'
theorem Inv.u5(I:Inv X pins σ H s)(h:SqT X.K H a xs)(h' :SqT X.K H a ys):xs=ys:=by
 obtain⟨its,r,⟨o,e,_,n,d⟩,_⟩:=I.tuple h
 obtain⟨its',r',⟨o',e',_,n',d'⟩,_⟩:=I.tuple h'
 rw[e] at e';cases e'
 rw[d] at d'
 injection d' with d1 _
 have:its=its' :=by simpa using congrArg Array.toList d1
 subst this
 exact r.inj r'
end
noncomputable abbrev Cx.mZ (X:Cx) (E:Value→Shared→Prop):Cx:={X with xe:=E}
noncomputable abbrev Cx.nox (X:Cx):Cx:=X.mZ λ_ _=>False
theorem Cx.Ok.mZ{X:Cx}(ok:X.Ok)(E:Value→Shared→Prop):(X.mZ E).Ok:=
 ⟨ok.mod,ok.kind,ok.glob,ok.blt,ok.above,ok.inj,ok.has,ok.cab,ok.hd,ok.frames,ok.stk,ok.exf,ok.bs,ok.bsz,ok.Ap,ok.Aq,ok.lp,ok.frf⟩
theorem Cx.Ok.gr{X:Cx}{E:Value→Shared→Prop}(ok:(X.mZ E).Ok):X.Ok:=
 ⟨ok.mod,ok.kind,ok.glob,ok.blt,ok.above,ok.inj,ok.has,ok.cab,ok.hd,ok.frames,ok.stk,ok.exf,ok.bs,ok.bsz,ok.Ap,ok.Aq,ok.lp,ok.frf⟩
section
variable{X:Cx}{pins:List (Addr×Obj)}{σ:St}{H:Hp}{s:Shared}{E:Value→Shared→Prop}
theorem Inv.mZ(I:Inv X pins σ H s)(E:Value→Shared→Prop):Inv (X.mZ E) pins σ H s:=⟨I.ok.mZ E,I.os,I.bare,I.base,I.loc,I.cell,I.free,I.gQ,I.pin,I.hok,I.len⟩
theorem Inv.gr(I:Inv (X.mZ E) pins σ H s):Inv X pins σ H s:=⟨I.ok.gr,I.os,I.bare,I.base,I.loc,I.cell,I.free,I.gQ,I.pin,I.hok,I.len⟩
theorem SP.gr{D:Ends}{f:Flow}{s' :Shared}(h:SP (X.mZ E) pins D f s'):SP X pins D f s' :=by
 cases f with
 |next=>obtain⟨σ',H',I,q⟩:=h;exact⟨σ',H',I.gr,q⟩
 |brk=>obtain⟨σ',H',I,q⟩:=h;exact⟨σ',H',I.gr,q⟩
 |cont=>obtain⟨σ',H',I,q⟩:=h;exact⟨σ',H',I.gr,q⟩
 |ret u=>obtain⟨v,σ',H',I,r,q⟩:=h;exact⟨v,σ',H',I.gr,r,q⟩
theorem PSs.nox{st:List Stmt}{t:TS}(h:PSs X.nox st t):PSs X st t:=λpins s σ H D I hw=>
 GbS (h pins s σ H D (I.mZ _) hw) (λ_ _ q=>q.gr) λ_ _ z=>False.elim z
end
section
variable{X:Cx}{st:Stmt}{rest:List Stmt}{t u:TS}{e:Expr}{te:TE}{pos:Pos}
noncomputable def Et:TS:=λD σ H=>D.nx σ H
noncomputable def Gw(t u:TS):TS:=λD σ H=>t {D with nx:=u D} σ H
theorem Ay:PSs X [] Et:=λ_ _ σ H _ I h=>wpAny_execs_nil ⟨σ,H,I,h⟩
theorem vm(h1:PS X st t)(h2:PSs X rest u):PSs X (st::rest) (Gw t u):=by
 intro pins s σ H D I h
 refine wpAny_execs_cons (thn (h1 pins s σ H {D with nx:=u D} I h) λf s1 q=> ?_)
 cases f with
 |next=>
  obtain⟨σ',H',I',q⟩:=q
  exact h2 pins s1 σ' H' D I' q
 |ret v=>exact q
 |brk=>exact q
 |cont=>exact q
theorem Az(h1:PS X st t):PSs X [st] t:=by
 intro pins s σ H D I h
 refine wpAny_execs_cons (thn (h1 pins s σ H D I h) λf s1 q=> ?_)
 cases f with
 |next=>exact wpAny_execs_nil q
 |ret v=>exact q
 |brk=>exact q
 |cont=>exact q
theorem Inv.quiet{pins:List (Addr×Obj)}{σ:St}{H:Hp}{s:Shared}(I:Inv X pins σ H s):interactive X.env=false:=by simp[interactive,I.ok.kind]
noncomputable def Eu(te:TE):TS:=λD σ H=>te σ H λ_ H1=>D.nx σ H1
theorem oo(he:PE X e te)(hs:swapsWith e none pos.line X.env=pure false:=by rfl):PS X (.Expr e pos) (Eu te):=by
 intro pins s σ H D I h
 exact wpAny_Expr_any (thn (he pins s σ H _ I h) λv s1 ⟨x,H1,I1,r1,q1⟩=> ⟨σ,H1,I1,q1⟩) I.quiet hs
noncomputable def Gx(te:TE):TS:=λD σ H=>te σ H D.rt
theorem Cr(he:PE X e te):PS X (.Return (some e) pos) (Gx te):=by
 intro pins s σ H D I h
 exact wpAny_Return_some (thn (he pins s σ H _ I h) λv s1 ⟨x,H1,I1,r1,q1⟩=> ⟨x,σ,H1,I1,r1,q1⟩)
noncomputable def Gy(c:TT)(t u:TS):TS:=λD σ H=>c σ H λb H1=>if b=true then t D σ H1 else u D σ H1
theorem Ew{c:Expr}{a b:List Stmt}{tc:TT}(hc:PT X c tc)(ha:PSs X a t)(hb:PSs X b u):PS X (.If c a b pos) (Gy tc t u):=by
 intro pins s σ H D I h
 refine wpAny_If (thn (hc pins s σ H _ I h) λd s1 ⟨H1,I1,q1⟩=> ?_)
 cases d with
 |true=>exact ha pins s1 σ H1 D I1 q1
 |false=>exact hb pins s1 σ H1 D I1 q1
end
noncomputable abbrev TG:=V→St→Hp→(St→Hp→Prop)→Prop
noncomputable abbrev TGs:=List V→St→Hp→(St→Hp→Prop)→Prop
noncomputable def PG(X:Cx)(target:Expr)(t:TG):Prop:=
 ∀(pins:List (Addr×Obj)) (s:Shared) (σ:St) (H:Hp) (v:V) (u:Value) (Q:St→Hp→Prop),Inv X pins σ H s→RelV v u→t v σ H Q→
  wpAny (model X.prog X.w) X.A (assign target X.env u) (λ_ s' =>∃σ' H',Inv X pins σ' H' s' ∧Q σ' H') X.xe s
noncomputable def PGs(X:Cx)(ts:List Expr)(t:TGs):Prop:=
 ∀(pins:List (Addr×Obj)) (s:Shared) (σ:St) (H:Hp) (vs:List V) (us:List Value) (Q:St→Hp→Prop),Inv X pins σ H s→Vals vs us→t vs σ H Q→
  wpAny (model X.prog X.w) X.A (assignInOrder ((assignEach ts X.env).map (·.2)) us) (λ_ s' =>∃σ' H',Inv X pins σ' H' s' ∧Q σ' H') X.xe s
noncomputable abbrev Gz:=V→V→V→Hp→(Hp→Prop)→Prop
noncomputable def Ex(X:Cx)(t:Gz):Prop:=
 ∀(pins:List (Addr×Obj)) (s:Shared) (σ:St) (H:Hp) (o i v:V) (ov iv u:Value) (Q:Hp→Prop),Inv X pins σ H s→RelV o ov→RelV i iv→RelV v u→t o i v H Q→
  wpAny (model X.prog X.w) X.A (setItem ov iv u) (λ_ s' =>∃H',Inv X pins σ H' s' ∧Q H') X.xe s
section
variable{X:Cx}{pos:Pos}
noncomputable def BR(i:Nat):TG:=λv σ H Q=>Q (σ.set i (some v)) H
theorem AA{i:Nat}{x:Str}(hN:X.N.Nodup)(hi:X.N[i]? =some x)(hx:Loc X.env.scope x)(hf:X.fn x=true∨X.env.scope.names.lookup x=some .local:=by first|exact .inl rfl|exact .inr rfl|assumption):PG X (.Name x pos) (BR i):=by
 intro pins s σ H v u Q I r h
 exact wpAny_assign_Name (pB I hN hi hx r (λs' I' => ⟨_,H,I',h⟩) hf)
noncomputable def GA(te:TE)(g:TG):TS:=λD σ H=>te σ H λx H1=>g x σ H1 D.nx
theorem Cs{i:Nat}{x:Str}{e:Expr}{te:TE}{pos' :Pos}(hN:X.N.Nodup)(hi:X.N[i]? =some x)(hx:Loc X.env.scope x)(he:PE X e te)(hs:swapsWith e (some (.Name x pos')) pos.line X.env=pure false:=by rfl)(hf:X.fn x=true∨X.env.scope.names.lookup x=some .local:=by first|exact .inl rfl|exact .inr rfl|assumption):
  PS X (.Assign [.Name x pos'] e pos) (GA te (BR i)):=by
 intro pins s σ H D I h
 refine wpAny_Assign_Name (thn (he pins s σ H _ I h) λv s1 ⟨y,H1,I1,r1,q1⟩=> ?_) hs
 exact pB I1 hN hi hx r1 (λs2 I2=> ⟨_,H1,I2,q1⟩) hf
end
structure It where
 go:Nat→Hp→Prop
 yld:Nat→Hp→V→Hp→Prop
 stop:Nat→Hp→Prop
noncomputable def jz(X:Cx)(pins:List (Addr×Obj))(H:Hp)(b:Addr):Prop:=
 H b=none∧b≠X.env.locals∧b∉X.fs∧(b∈X.ex∨X.s₀.heap.objs.size≤b)∧(∀x c,X.env.cells.lookup x=some c→c≠b)∧∀p∈X.pn++pins,p.1≠b
theorem Inv.Ct{X:Cx}{pins:List (Addr×Obj)}{σ:St}{H H' :Hp}{s:Shared}{b:Addr}(I:Inv X pins σ H s)(hb:s.heap.objs.size≤b)(hn:H' b=none):jz X pins H' b:=by
 refine⟨hn,Gbj (GaF I.lt hb),I.Gr hb,.inr (GbJ I.sz hb),λx c e z=> ?_,λp hp z=> ?_⟩
 ·obtain⟨v,q⟩:=I.cell x c e
  exact absurd (GaF q.lt (by rw[z];exact hb)) (Gbb _)
 ·exact absurd (GaF (Gam (I.pin p hp).1) (by rw[z];exact hb)) (Gbb _)
structure Turn(P:Program)(w:World)(K:PySem.W.Frag)(tg:Expr)(J:It)(fp:List Addr)(it:Addr)(tn:Nat→Heap→Prop):Prop where
 mem:it∈fp
 obj:∀i h,tn i h→∀b∈fp,∃o,h.get? b=some o∧∀v,o.data≠ .cell v
 keep:∀i h h',tn i h→(∀b∈fp,∀o,h.get? b=some o→h'.get? b=some o)→tn i h'
 item:∀(X:Cx),X.prog=P→X.w=w→X.K=K→X.calm=true→∀(i:Nat) (pins:List (Addr×Obj)) (s:Shared) (σ:St) (H:Hp) (E:Value→Shared→Prop),Inv X pins σ H s→(∀b∈fp,jz X pins H b)→tn i s.heap→J.go i H→
  wpAny (model P w) X.A (pyNext (.ref it)) (λr s1=>∃u,r=some u∧
   wpAny (model P w) X.A (letOwnedTupleGo tg (.ref it) u) (λ_ s2=>∃x H',Inv X pins σ H' s2∧RelV x u∧J.yld i H x H' ∧tn (i+1) s2.heap∧∀b∈fp,H' b=none) E s1) E s
 done:∀(X:Cx),X.prog=P→X.w=w→X.K=K→X.calm=true→∀(i:Nat) (pins:List (Addr×Obj)) (s:Shared) (σ:St) (H:Hp) (E:Value→Shared→Prop),Inv X pins σ H s→(∀b∈fp,jz X pins H b)→tn i s.heap→J.stop i H→
  wpAny (model P w) X.A (pyNext (.ref it)) (λr s1=>r=none∧Inv X pins σ H s1) E s
 self:∀(A:Around) (i:Nat) (s:Shared) (Q:Value→Shared→Prop) (E:Value→Shared→Prop),tn i s.heap→Q (.ref it) s→wpAny (model P w) A (pyIter (.ref it)) Q E s
noncomputable abbrev TI:=St→Hp→(It→Hp→Prop)→Prop
noncomputable def PIE(X:Cx)(pins:List (Addr×Obj))(σ:St)(tg:Expr)(R:It→Hp→Prop)(itv:Value)(s2:Shared):Prop:=
 ∃(it:Addr) (fp:List Addr) (tn:Nat→Heap→Prop) (J:It) (H' :Hp),itv= .ref it∧Inv X pins σ H' s2∧Turn X.prog X.w X.K tg J fp it tn∧tn 0 s2.heap∧(∀b∈fp,jz X pins H' b)∧R J H'
noncomputable def PI(X:Cx)(tg iter:Expr)(wi:TI):Prop:=
 ∀(pins:List (Addr×Obj)) (s:Shared) (σ:St) (H:Hp) (R:It→Hp→Prop),Inv X pins σ H s→wi σ H R→
  wpAny (model X.prog X.w) X.A (eval iter X.env) (λv s1=>wpAny (model X.prog X.w) X.A (pyIter v) (PIE X pins σ tg R) X.xe s1) X.xe s
theorem vn{M:Model}{A:Around}{E:Value→Shared→Prop}{s:Shared}{tg:Expr}{it:Addr}{u:Value}{o:Obj}{n:String}{vs:Array Value}{Q:Unit→Shared→Prop}(ho:s.heap.get? it=some o)(hc:o.cls= .type n)(hd:o.data= .fields vs)
  (hn:["enumerate","zip","dict_itemiterator","dict_reverseitemiterator","odict_iterator","itertools.zip_longest","itertools.pairwise"].contains n=false)(hQ:Q () s):wpAny M A (letOwnedTupleGo tg (.ref it) u) Q E s:=by
 unfold letOwnedTupleGo
 cases tg<;>first
  |exact Gae hQ
  |(cases u<;>first
    |exact Gae hQ
    |(refine Gab (wpAny_load ho ?_)
      rw[hc,hd]
      show wpAny M A (if(["enumerate","zip","dict_itemiterator","dict_reverseitemiterator","odict_iterator","itertools.zip_longest","itertools.pairwise"].contains n&&vs[0]? ==some (rawInt _))=true then _ else _) Q E s
      rw[Gaf (by intro h;rw[hn,Bool.false_and] at h;cases h)]
      exact Gae hQ))
noncomputable def Itl(K:PySem.W.Frag)(a:Addr):It:=
 ⟨λi H=>∃xs x,SqL K H a xs∧xs[i]? =some x,λi H x H' =>H' =H∧∀xs,SqL K H a xs→xs[i]? =some x,λi H=>∃xs,SqL K H a xs∧xs.length≤i⟩
noncomputable def Itt(K:PySem.W.Frag)(a:Addr):It:=
 ⟨λi H=>∃xs x,SqT K H a xs∧xs[i]? =some x,λi H x H' =>H' =H∧∀xs,SqT K H a xs→xs[i]? =some x,λi H=>∃xs,SqT K H a xs∧xs.length≤i⟩
noncomputable def Itr(lo:Int)(n:Nat):It:=⟨λi _=>i<n,λi H x H' =>H' =H∧x= .int (lo+i),λi _=>n≤i⟩
theorem u6{P:Program}{w:World}{K:PySem.W.Frag}{tg:Expr}(a it:Addr):Turn P w K tg (Itl K a) [it] it (λi h=>h.IsListIter it a i) where
 mem:=by simp
 obj:=λi h st b hb=>by
  have e:b=it:=by simpa using hb
  subst e
  obtain⟨o,e,c,d⟩:=st
  exact⟨o,e,λv z=>by rw[d] at z;cases z⟩
 keep:=λi h h' st k=>st.at λo e=>k it (by simp) o e
 item:=by
  intro X hP hw hK hc i pins s σ H E I hf st hg
  subst hP hw hK
  obtain⟨xs,x,hq,hx⟩:=hg
  obtain⟨its,rv,p,hz⟩:=I.list hq
  obtain⟨u,hu,ru⟩:=rv.get hx
  obtain⟨f0,f1,f2,f3,f4,f5⟩:=hf it (by simp)
  refine wpAny_pyNext_list_item st p.isList (x:=u) (by simpa using hu) λh' st' sb=> ?_
  have I1:Inv X pins σ H {s with heap:=h' }:=I.turned (t' :=s.toks) (λb o hb e=>(sb.2 b hb).trans e) f0 f1 f3 f4 f5
  obtain⟨o,e,c,d⟩:=id st'
  exact⟨u,rfl,vn (s:={s with heap:=h' }) e c d (by decide) ⟨x,H,I1,ru,⟨rfl,λys hy=>by rw[I.vk hy hq];exact hx⟩,st',λb hb=>(hf b hb).1⟩⟩
 done:=by
  intro X hP hw hK hc i pins s σ H E I hf st hg
  subst hP hw hK
  obtain⟨xs,hq,hx⟩:=hg
  obtain⟨its,rv,p,hz⟩:=I.list hq
  obtain⟨f0,f1,f2,f3,f4,f5⟩:=hf it (by simp)
  have hl:=rv.length
  exact wpAny_pyNext_list_end (I.ok.hd hc) st p.isList (by simp;omega) λh' eb=> ⟨rfl,I.turned (t' :=s.toks) (λb o hb e=>eb b o hb e) f0 f1 f3 f4 f5⟩
 self:=λ_ _ _ _ _ st h=>wpAny_pyIter_listiter st h
theorem qU{P:Program}{w:World}{K:PySem.W.Frag}{tg:Expr}(a it:Addr):Turn P w K tg (Itt K a) [it] it (λi h=>h.IsTupleIter it a i) where
 mem:=by simp
 obj:=λi h st b hb=>by
  have e:b=it:=by simpa using hb
  subst e
  obtain⟨o,e,c,d⟩:=st
  exact⟨o,e,λv z=>by rw[d] at z;cases z⟩
 keep:=λi h h' st k=>st.at λo e=>k it (by simp) o e
 item:=by
  intro X hP hw hK hc i pins s σ H E I hf st hg
  subst hP hw hK
  obtain⟨xs,x,hq,hx⟩:=hg
  obtain⟨its,rv,p,hz⟩:=I.tuple hq
  obtain⟨u,hu,ru⟩:=rv.get hx
  obtain⟨f0,f1,f2,f3,f4,f5⟩:=hf it (by simp)
  refine wpAny_pyNext_tuple_item st (show s.heap.IsTuple a its.toArray from p) (x:=u) (by simpa using hu) λh' st' sb=> ?_
  have I1:Inv X pins σ H {s with heap:=h' }:=I.turned (t' :=s.toks) (λb o hb e=>(sb.2 b hb).trans e) f0 f1 f3 f4 f5
  obtain⟨o,e,c,d⟩:=id st'
  exact⟨u,rfl,vn (s:={s with heap:=h' }) e c d (by decide) ⟨x,H,I1,ru,⟨rfl,λys hy=>by rw[I.u5 hy hq];exact hx⟩,st',λb hb=>(hf b hb).1⟩⟩
 done:=by
  intro X hP hw hK hc i pins s σ H E I hf st hg
  subst hP hw hK
  obtain⟨xs,hq,hx⟩:=hg
  obtain⟨its,rv,p,hz⟩:=I.tuple hq
  obtain⟨f0,f1,f2,f3,f4,f5⟩:=hf it (by simp)
  have hl:=rv.length
  exact wpAny_pyNext_tuple_end (I.ok.hd hc) st (show s.heap.IsTuple a its.toArray from p) (by simp;omega) λh' eb=> ⟨rfl,I.turned (t' :=s.toks) (λb o hb e=>eb b o hb e) f0 f1 f3 f4 f5⟩
 self:=λ_ _ _ _ _ st h=>wpAny_pyIter_tupleiter st h
theorem qV{P:Program}{w:World}{K:PySem.W.Frag}{tg:Expr}(it:Addr)(lo:Int)(n:Nat):Turn P w K tg (Itr lo n) [it] it (λi h=>IsRangeIter h it (lo+(i:Nat)*1) ((n:Int)-(i:Nat)) 1) where
 mem:=by simp
 obj:=λi h st b hb=>by
  have e:b=it:=by simpa using hb
  subst e
  exact⟨_,st,λv z=>by
   have z' :Data.fields _=Data.cell v:=z
   cases z'⟩
 keep:=λi h h' st k=>k it (by simp) _ st
 item:=by
  intro X hP hw hK hc i pins s σ H E I hf st hg
  subst hP hw hK
  obtain⟨f0,f1,f2,f3,f4,f5⟩:=hf it (by simp)
  have W:=Walks.range (prog:=X.prog) (w:=X.w) (I.ok.hd hc) it lo 1 n
  refine W.item i s _ _ hg st λv h' tk hv st' kk=> ?_
  obtain⟨t,rfl⟩:=hv
  have I1:Inv X pins σ H {s with heap:=h',toks:=tk}:=I.turned (λb o hb e=>kk b o (by simpa using hb) e) f0 f1 f3 f4 f5
  refine⟨_,rfl,vn (s:={s with heap:=h',toks:=tk}) (n:="range_iterator") st' rfl rfl (by decide) ⟨.int (lo+i),H,I1,⟨t, ?_⟩,⟨rfl,rfl⟩,st',λb hb=>(hf b hb).1⟩⟩
  rw[Int.mul_one]
 done:=by
  intro X hP hw hK hc i pins s σ H E I hf st hg
  subst hP hw hK
  obtain⟨f0,f1,f2,f3,f4,f5⟩:=hf it (by simp)
  exact wpAny_pyNext_range_end (I.ok.hd hc) st (by have:n≤i:=hg;omega) λh' eb=> ⟨rfl,I.turned (t' :=s.toks) (λb o hb e=>eb b o hb e) f0 f1 f3 f4 f5⟩
 self:=λ_ _ _ _ _ st h=>wpAny_pyIter_rangeiter st h
section
variable{X:Cx}{tg:Expr}
theorem lq{pins:List (Addr×Obj)}{σ:St}{H:Hp}{s:Shared}{R:It→Hp→Prop}{E:Value→Shared→Prop}{lo hi:Int}{t u v:Tok}{tk:Nat}(I:Inv X pins σ H s)(h1: -(2^62)≤lo)(h2:lo<2^62)(h3: -(2^62)≤hi)(h4:hi<2^62)
  (q:R (Itr lo (hi -lo).toNat) H):wpAny (model X.prog X.w) X.A (pyIter (.ref s.heap.objs.size)) (PIE X pins σ tg R) E {s with heap:=s.heap.push {cls:= .type "range",data:= .fields #[.int lo t,.int hi u,.int 1 v]},toks:=tk}:=by
 refine wpAny_pyIter_range (IsRange.new ..) (small_one h1 h2 h3 h4) ?_
 have I1:Inv X pins σ H {s with heap:=s.heap.push {cls:= .type "range",data:= .fields #[.int lo t,.int hi u,.int 1 v]},toks:=tk}:=I.kept λb o e=>Gad _ e
 refine⟨(s.heap.push {cls:= .type "range",data:= .fields #[.int lo t,.int hi u,.int 1 v]}).objs.size,[(s.heap.push {cls:= .type "range",data:= .fields #[.int lo t,.int hi u,.int 1 v]}).objs.size],_,_,H,rfl,
  I1.kept (t' :=tk) λb o e=>Gad _ e,qV _ lo (hi -lo).toNat, ?_,λb hb=> ?_,q⟩
 ·have e1:lo+((0:Nat):Int)*1=lo:=by simp
  have e2:(((hi -lo).toNat:Nat):Int)-((0:Nat):Int)=Builtin.Range.rangeSize lo hi 1:=by rw[rangeSize_one];split<;>omega
  show IsRangeIter _ _ (lo+((0:Nat):Int)*1) ((((hi -lo).toNat:Nat):Int)-((0:Nat):Int)) 1
  rw[e1,e2]
  exact Gaw _ rfl
 ·have e:b=(s.heap.push {cls:= .type "range",data:= .fields #[.int lo t,.int hi u,.int 1 v]}).objs.size:=by simpa using hb
  subst e
  exact I1.Ct (Gaq _) (I1.hok.fresh (Gaq _))
noncomputable def Ey(ta:TA):TI:=λσ H R=>ta σ H λvs H1=>∃j:Int,vs=[.int j]∧-(2^62)≤j∧j<2^62∧R (Itr 0 j.toNat) H1
theorem u7{a:Expr}{ta:TA}{p pos:Pos}(hg:Gl X "range")(hm:X.mg "range"=none)(ha:PA X [a] ta)(hs:starEach [a] X.env=[(false,eval a X.env)]:=by rfl):PI X tg (.Call (.Name "range" p) [a] [] pos) (Ey ta):=by
 intro pins s σ H R I h
 refine Call_ (om I hg hm boot_range (PyProof.Rows.callWith_type1 (thn (ha pos pins s σ H _ I h) λus s1 ⟨vs,H1,I1,r1,q1⟩=> ?_) hs rfl))
 obtain⟨j,e,q1,q2,q⟩:=q1
 subst e
 cases r1 with
 |cons r rr=>
  cases rr
  obtain⟨t,rfl⟩:=r
  exact call_range_1 (lq I1 (by omega) (by omega) q1 q2 (by simpa using q))
noncomputable def GB(wi:TI)(g:TG)(tb:TS):TS:=λD σ H=>wi σ H λJ H1=>∃W:Nat→Nat→St→Hp→Prop,(∃m,W 0 m σ H1)∧∀i m σ H,W i m σ H→
 (J.stop i H∧D.nx σ H)∨(J.go i H∧∃N:St→Hp→Prop,(∀σ' H',N σ' H' →∃m',m' <m∧W (i+1) m' σ' H')∧∀x H',J.yld i H x H' →g x σ H' λσ2 H2=>tb {D with nx:=N,ct:=N,bk:=D.nx} σ2 H2)
noncomputable def lr(fp:List Addr)(h:Heap):List (Addr×Obj):=fp.filterMap λb=>(h.get? b).map λo=>(b,o)
theorem fI{fp:List Addr}{h:Heap}{b:Addr}{o:Obj}(hb:b∈fp)(e:h.get? b=some o):(b,o)∈lr fp h:=Gdj.mpr ⟨b,hb,by rw[e];rfl⟩
theorem u9{fp:List Addr}{h:Heap}{p:Addr×Obj}(hp:p∈lr fp h):p.1∈fp∧h.get? p.1=some p.2:=by
 obtain⟨b,hb,e⟩:=Gdj.mp hp
 cases q:h.get? b with
 |none=>rw[q] at e;cases e
 |some o=>
  rw[q] at e
  have e' :(b,o)=p:=Option.some.inj e
  subst e'
  exact⟨hb,q⟩
theorem Inv.pinned{pins:List (Addr×Obj)}{σ:St}{H:Hp}{s:Shared}{fp:List Addr}(I:Inv X pins σ H s)(hf:∀b∈fp,jz X pins H b)(ho:∀b∈fp,∃o,s.heap.get? b=some o∧∀v,o.data≠ .cell v):Inv X (pins++lr fp s.heap) σ H s:=
 I.sC λp hp=>(GaL.mp hp).elim (λz=>I.pin p (Gbe _ z)) λz=>by
  obtain⟨hb,e⟩:=u9 z
  obtain⟨f0,f1,f2,_⟩:=hf p.1 hb
  obtain⟨o,e',d⟩:=ho p.1 hb
  rw[e] at e';cases e'
  exact⟨e,f0,f1,f2,d⟩
theorem Inv.iW{pins pl:List (Addr×Obj)}{σ:St}{H:Hp}{s:Shared}(I:Inv X (pins++pl) σ H s):Inv X pins σ H s:=I.sC λp hp=>I.pin p (Gbe _ (List.mem_append_left _ hp))
theorem Cu{iter:Expr}{body:List Stmt}{wi:TI}{g:TG}{tb:TS}{pos:Pos}(hp:PassesOwn (model X.prog X.w) X.A X.env X.xe)(hc:X.calm=true)(hi:PI X tg iter wi)(hg:PG X tg g)(hb:PSs X body tb)
  (hs:∀x,foldedSetIterable iter X.env x=pure x:=by intro _;rfl):PS X (.For tg iter body [] pos) (GB wi g tb):=by
 intro pins s σ H D I h
 refine wpAny_For (thn (hi pins s σ H _ I h) λv s1 h1=>thn h1 λitv s2 h2=> ?_) hs
 obtain⟨it,fp,tn,J,H2,e,I2,T,st2,f2,W,⟨m0,w0⟩,turn⟩:=h2
 subst e
 have stat:∀{H' :Hp},(∀b∈fp,H' b=none)→∀b∈fp,jz X pins H' b:=λhn b hb=> ⟨hn b hb,(f2 b hb).2⟩
 refine codeAny_forLoop_any (λn s' =>∃i σ' H',Inv X pins σ' H' s' ∧tn i s'.heap∧(∀b∈fp,H' b=none)∧W i n σ' H') ?_ m0 ⟨0,σ,H2,I2,st2,λb hb=>(f2 b hb).1,w0⟩
 rintro n s3 ⟨i,σ3,H3,I3,st3,fr3,w3⟩
 rcases turn i n σ3 H3 w3 with⟨stop,qn⟩| ⟨go,N,hN,step⟩
 ·refine Gde hp (thn (T.done X rfl rfl rfl hc i pins s3 σ3 H3 X.xe I3 (stat fr3) st3 stop) λr s4 ⟨hr,I4⟩=> ?_)
  subst hr
  exact wpAny_execs_nil ⟨σ3,H3,I4,qn⟩
 ·refine Gde hp (thn (T.item X rfl rfl rfl hc i pins s3 σ3 H3 X.xe I3 (stat fr3) st3 go) λr s4 ⟨u,hr,h4⟩=> ?_)
  subst hr
  refine Gde hp (thn h4 λ_ s5 ⟨x,H5,I5,r5,y5,st5,fr5⟩=> ?_)
  have I5' :=I5.pinned (stat fr5) (T.obj _ _ st5)
  refine Gde hp (thn (hg _ s5 σ3 H5 x u _ I5' r5 (step x H5 y5)) λ_ s6 ⟨σ6,H6,I6,q6⟩=> ?_)
  refine Gde hp (thn (hb _ s6 σ6 H6 _ I6 q6) λf s7 q7=> ?_)
  have again:∀{σ7:St} {H7:Hp},Inv X (pins++lr fp s5.heap) σ7 H7 s7→N σ7 H7→∃m,m<n∧∃i σ' H',Inv X pins σ' H' s7∧tn i s7.heap∧(∀b∈fp,H' b=none)∧W i m σ' H' :=λ{σ7 H7} I7 n7=>by
   obtain⟨m',hm,w7⟩:=hN σ7 H7 n7
   refine⟨m',hm,i+1,σ7,H7,I7.iW,T.keep _ _ _ st5 λb hb o e=>(I7.pin (b,o) (Gbe _ (Gbe _ (fI hb e)))).1,λb hb=> ?_,w7⟩
   obtain⟨o,e,d⟩:=T.obj _ _ st5 b hb
   exact(I7.pin (b,o) (Gbe _ (Gbe _ (fI hb e)))).2.1
  cases f with
  |next=>obtain⟨σ7,H7,I7,n7⟩:=q7;exact again I7 n7
  |cont=>obtain⟨σ7,H7,I7,n7⟩:=q7;exact again I7 n7
  |brk=>obtain⟨σ7,H7,I7,q7⟩:=q7;exact⟨σ7,H7,I7.iW,q7⟩
  |ret v=>obtain⟨x7,σ7,H7,I7,r7,q7⟩:=q7;exact⟨x7,σ7,H7,I7.iW,r7,q7⟩
end
noncomputable abbrev R2:=V→V→Hp→VK→Prop
noncomputable def OpR(X:Cx)(f:Value→Value→Sem Value)(r:R2):Prop:=
 ∀(pins:List (Addr×Obj)) (s:Shared) (σ:St) (H:Hp) (x y:V) (v u:Value) (Q:VK),Inv X pins σ H s→RelV x v→RelV y u→r x y H Q→
  wpAny (model X.prog X.w) X.A (f v u) (EP X pins σ Q) X.xe s
noncomputable def cP(X:Cx)(f:Value)(r:List V→Hp→VK→Prop):Prop:=
 ∀(pins:List (Addr×Obj)) (s:Shared) (σ:St) (H:Hp) (xs:List V) (us:List Value) (Q:VK),Inv X pins σ H s→Vals xs us→r xs H Q→
  wpAny (model X.prog X.w) X.A (call f us) (EP X pins σ Q) X.xe s
noncomputable def tOp(r:R2)(ta tb:TE):TE:=λσ H Q=>ta σ H λx H1=>tb σ H1 λy H2=>r x y H2 Q
noncomputable def rI(C:Int→Int→Prop)(g:Int→Int→V):R2:=λx y H Q=>∃i j,x= .int i∧y= .int j∧C i j∧Q (g i j) H
noncomputable def rI0(g:Int→Int→V):R2:=λx y H Q=>∃i j,x= .int i∧y= .int j∧Q (g i j) H
section
variable{X:Cx}{a b c:Expr}{ta tb tc:TE}{pos:Pos}
theorem Cv(ha:PE X a ta)(hb:PE X b tb){pins:List (Addr×Obj)}{s:Shared}{σ:St}{H:Hp}{R:V→V→Hp→Prop}(I:Inv X pins σ H s)
  (h:ta σ H λx H1=>tb σ H1 λy H2=>R x y H2){Q:Value→Shared→Prop}{f:Value→Value→Sem Value}
  (hf:∀v u s2 x y H2,Inv X pins σ H2 s2→RelV x v→RelV y u→R x y H2→wpAny (model X.prog X.w) X.A (f v u) Q X.xe s2):
  wpAny (model X.prog X.w) X.A (eval a X.env) (λv s₁=>wpAny (model X.prog X.w) X.A (eval b X.env) (λu s₂=>wpAny (model X.prog X.w) X.A (f v u) Q X.xe s₂) X.xe s₁) X.xe s:=by
 refine thn (ha pins s σ H _ I h) λv s1 ⟨x,H1,I1,r1,q1⟩=> ?_
 refine thn (hb pins s1 σ H1 _ I1 q1) λu s2 ⟨y,H2,I2,r2,q2⟩=> ?_
 exact hf v u s2 x y H2 I2 r1 r2 q2
theorem Ez{op:Operator}{r:R2}(ho:OpR X (binaryOp op) r)(ha:PE X a ta)(hb:PE X b tb):PE X (.BinOp a op b pos) (tOp r ta tb):=by
 intro pins s σ H Q I h
 exact wpAny_BinOp (Cv ha hb I h λv u s2 x y H2 I2 rx ry q=>ho pins s2 σ H2 x y v u Q I2 rx ry q)
theorem opI{f:Value→Value→Sem Value}{C:Int→Int→Prop}{g:Int→Int→Int}
  (rule:∀(i j:Int) (t u:Tok) (s:Shared) (Q:Value→Shared→Prop) (E:Value→Shared→Prop),C i j→Q (.int (g i j) s.toks) {s with toks:=s.toks+1}→wpAny (model X.prog X.w) X.A (f (.int i t) (.int j u)) Q E s):
  OpR X f (rI C λi j=> .int (g i j)):=by
 intro pins s σ H x y v u Q I rx ry h
 obtain⟨i,j,rfl,rfl,hc,q⟩:=h
 obtain⟨t,rfl⟩:=rx
 obtain⟨t',rfl⟩:=ry
 exact rule i j t t' s _ _ hc ⟨.int (g i j),H,I.tok _,⟨_,rfl⟩,q⟩
theorem EA{f:Value→Value→Sem Value}{g:Int→Int→Int}
  (rule:∀(i j:Int) (t u:Tok) (s:Shared) (Q:Value→Shared→Prop) (E:Value→Shared→Prop),Q (.int (g i j) s.toks) {s with toks:=s.toks+1}→wpAny (model X.prog X.w) X.A (f (.int i t) (.int j u)) Q E s):
  OpR X f (rI0 λi j=> .int (g i j)):=by
 intro pins s σ H x y v u Q I rx ry h
 obtain⟨i,j,rfl,rfl,q⟩:=h
 obtain⟨t,rfl⟩:=rx
 obtain⟨t',rfl⟩:=ry
 exact rule i j t t' s _ _ ⟨.int (g i j),H,I.tok _,⟨_,rfl⟩,q⟩
theorem EB{f:Value→Value→Sem Value}{g:Int→Int→Bool}
  (rule:∀(i j:Int) (t u:Tok) (s:Shared) (Q:Value→Shared→Prop) (E:Value→Shared→Prop),Q (.bool (g i j)) s→wpAny (model X.prog X.w) X.A (f (.int i t) (.int j u)) Q E s):
  OpR X f (rI0 λi j=> .bl (g i j)):=by
 intro pins s σ H x y v u Q I rx ry h
 obtain⟨i,j,rfl,rfl,q⟩:=h
 obtain⟨t,rfl⟩:=rx
 obtain⟨t',rfl⟩:=ry
 exact rule i j t t' s _ _ ⟨.bl (g i j),H,I,rfl,q⟩
noncomputable def EC(i j:Int):Prop:=0<j∧j<1073741824
noncomputable def ED(i j:Int):Prop:=0≤j∧j≤1000000∧i.natAbs<2^64
noncomputable def AB(i j:Int):Prop:=(-(2^64)<i∧i<2^64)∨(-(2^64)<j∧j<2^64)
theorem AB.ok{i j:Int}(h:AB i j):IntMulOk i j:=by
 rcases h with⟨h1,h2⟩| ⟨h1,h2⟩
 ·exact .of_left (intBits_le_64 h1 h2)
 ·exact .of_right (intBits_le_64 h1 h2)
theorem Cw:OpR X (binaryOp .Add) (rI0 λi j=> .int (i+j)):=EA λ_ _ _ _ _ _ _ q=>add_int q
theorem Cy:OpR X (binaryOp .Sub) (rI0 λi j=> .int (i -j)):=EA λ_ _ _ _ _ _ _ q=>sub_int q
theorem Cz:OpR X (binaryOp .Mult) (rI AB λi j=> .int (i*j)):=opI λ_ _ _ _ _ _ _ hc q=>mul_int q hc.ok
theorem AD:OpR X (binaryOp .FloorDiv) (rI EC λi j=> .int (i/j)):=opI λi j _ _ _ _ _ hc q=>by
 have h1:(0:Int)<j:=hc.1
 have h2:j<1073741824:=hc.2
 exact floordiv_int (by omega) (by rw[Int.fdiv_eq_ediv_of_nonneg i (by omega)];exact q) (.inl (PyProof.noPylong_small (by omega)))
theorem CA:OpR X (binaryOp .Mod) (rI (λ_ j=>0<j) λi j=> .int (i%j)):=opI λi j _ _ _ _ _ hc q=>by
 have h1:(0:Int)<j:=hc
 exact mod_int' (by omega) (by rw[Int.fmod_eq_emod_of_nonneg i (by omega)];exact q)
theorem CB:OpR X (binaryOp .Pow) (rI ED λi j=> .int (i^j.toNat)):=opI λ_ _ _ _ _ _ _ hc q=>pow_int_small hc.1 hc.2.1 hc.2.2 q
end
section
variable{X:Cx}{a b c:Expr}{ta tb tc:TE}{pos:Pos}
theorem CC{pins:List (Addr×Obj)}{σ:St}{H:Hp}{s:Shared}{Q:VK}{k k' :Bool}(I:Inv X pins σ H s)(q:Q (.bl k) H)(e:k=k'):EP X pins σ Q (.bool k') s:=by
 subst e
 exact⟨.bl k,H,I,rfl,q⟩
theorem BS:OpR X (compareOp .Lt) (rI0 λi j=> .bl (decide (i<j))):=EB λ_ _ _ _ _ _ _ q=>lt_int q
theorem vo:OpR X (compareOp .Gt) (rI0 λi j=> .bl (decide (j<i))):=EB λ_ _ _ _ _ _ _ q=>gt_int q
theorem vp:OpR X (compareOp .Is) (λx y H Q=>y= .non∧Q (.bl (decide (x= .non))) H):=by
 intro pins s σ H x y v u Q I rx ry h
 obtain⟨rfl,q⟩:=h
 cases ry
 refine is_none_gen (CC I q ?_)
 cases x<;>first
  |(cases rx;rfl)
  |(obtain⟨t,rfl⟩:=rx;rfl)
theorem OpR.or{f:Value→Value→Sem Value}{r r' :R2}(h:OpR X f r)(h' :OpR X f r'):OpR X f (λx y H Q=>r x y H Q∨r' x y H Q):=by
 intro pins s σ H x y v u Q I rx ry q
 rcases q with q|q
 ·exact h pins s σ H x y v u Q I rx ry q
 ·exact h' pins s σ H x y v u Q I rx ry q
theorem cB(b:Expr){op:CmpOp}(h:op≠ .In:=by decide)(h2:op≠ .NotIn:=by decide):behindInMarks op b=false:=by
 have e1:(op==CmpOp.In)=false:=by cases op<;>first|rfl|exact absurd rfl h
 have e2:(op==CmpOp.NotIn)=false:=by cases op<;>first|rfl|exact absurd rfl h2
 cases b<;>simp[behindInMarks,e1,e2]
theorem AE{op:CmpOp}{r:R2}(ho:OpR X (compareOp op) r)(ha:PE X a ta)(hb:PE X b tb)(hm:behindInMarks op b=false):PE X (.Compare a [op] [b] pos) (tOp r ta tb):=by
 intro pins s σ H Q I h
 exact wpAny_Compare1 (Cv ha hb I h λv u s2 x y H2 I2 rx ry q=>ho pins s2 σ H2 x y v u Q I2 rx ry q) hm
noncomputable def EF(t:TE):TT:=λσ H Q=>t σ H λx H' =>∃k,x= .bl k∧Q k H'
theorem AF{op:CmpOp}{r:R2}(ho:OpR X (compareOp op) r)(ha:PE X a ta)(hb:PE X b tb)(hm:behindInMarks op b=false):PT X (.Compare a [op] [b] pos) (EF (tOp r ta tb)):=by
 intro pins s σ H Q I h
 refine wpAny_isTrue_Compare1 (thn (ha pins s σ H _ I h) λv s1 ⟨x,H1,I1,r1,q1⟩=>thn (hb pins s1 σ H1 _ I1 q1) λu s2 ⟨y,H2,I2,r2,q2⟩=>
  thn (ho pins s2 σ H2 x y v u _ I2 r1 r2 q2) λc s3 ⟨z,H3,I3,r3,k,e,q3⟩=> ?_) hm
 subst e
 cases r3
 exact GcG ⟨H3,I3,q3⟩
theorem lu:(sizeLine:Nat)<2^63:=by rw[Gbw];decide
theorem qW:OpR X (binaryOp .Add) (λx y H Q=>∃i j,x= .str i∧y= .str j∧i.length+j.length≤sizeLine∧Q (.str (i++j)) H):=by
 intro pins s σ H x y v u Q I rx ry h
 obtain⟨i,j,rfl,rfl,hz,q⟩:=h
 obtain⟨t,rfl⟩:=rx
 obtain⟨t',rfl⟩:=ry
 exact add_str (λt' tk=> ⟨.str (i++j),H,I.tok _,⟨_,rfl⟩,q⟩) hz
theorem vals1{x:V}{us:List Value}(r:Vals [x] us):∃u,us=[u]∧RelV x u:=by
 cases r with
 |cons r1 r2=>cases r2;exact⟨_,rfl,r1⟩
theorem vals2{x y:V}{us:List Value}(r:Vals [x,y] us):∃u w',us=[u,w']∧RelV x u∧RelV y w' :=by
 cases r with
 |cons r1 r2=>
  cases r2 with
  |cons r3 r4=>cases r4;exact⟨_,_,rfl,r1,r3⟩
noncomputable def EG(K:PySem.W.Frag)(x:V)(H:Hp)(n:Nat):Prop:=
 match x with
 | .str y=>y.length≤sizeLine∧n=y.length
 | .byt y=>y.size≤sizeLine∧n=y.size
 | .ref p=>(∃xs,SqL K H p xs∧n=xs.length)∨∃xs,SqT K H p xs∧n=xs.length
 |_=>False
theorem bK:cP X (.builtin "len") (λxs H Q=>∃x n,xs=[x]∧EG X.K x H n∧Q (.int n) H):=by
 intro pins s σ H xs us Q I r h
 obtain⟨x,n,rfl,e,q⟩:=h
 obtain⟨u,rfl,rx⟩:=vals1 r
 have hl:=lu
 have hs:sizeLine=16777216:=Gbw
 cases x with
 |str y=>
  obtain⟨t,rfl⟩:=rx
  obtain⟨hy,e'⟩:y.length≤sizeLine∧n=y.length:=e
  subst e'
  exact len_str (by omega) ⟨.int _,H,I.tok _,⟨_,rfl⟩,q⟩
 |byt y=>
  obtain⟨t,rfl⟩:=rx
  obtain⟨hy,e'⟩:y.size≤sizeLine∧n=y.size:=e
  subst e'
  exact PySem.W.len_bytes (by omega) ⟨.int _,H,I.tok _,⟨_,rfl⟩,q⟩
 |ref p=>
  cases rx
  have e' :(∃xs,SqL X.K H p xs∧n=xs.length)∨∃xs,SqT X.K H p xs∧n=xs.length:=e
  rcases e' with⟨xs,hx,e'⟩| ⟨xs,hx,e'⟩
  ·subst e'
   obtain⟨its,r',pl,hz⟩:=I.list hx
   have hlen:=r'.length
   exact Calls.call_len_list pl.isList (by simp only[Gas];omega) ⟨.int xs.length,H,I.tok _,⟨_,by simp only[Gas];rw[hlen]⟩,q⟩
  ·subst e'
   obtain⟨its,r',pl,hz⟩:=I.tuple hx
   have hlen:=r'.length
   exact len_tuple pl (by simp only[Gas];omega) ⟨.int xs.length,H,I.tok _,⟨_,by simp only[Gas];rw[hlen]⟩,q⟩
 |_=>exact(show False from e).elim
end
structure CD(h:Heap)(x dx C:Addr)(mA:Str→Option Value):Prop where
 obj:h.get? x=some (PySem.W.instObj C dx)
 ns:h.Ns1 dx mA
 ne:dx≠x
theorem uc{h:Heap}{dx:Addr}{mA:Str→Option Value}(n:h.Ns1 dx mA):∃od,h.get? dx=some od∧∀name,PySem.W.lookIn name od=some (mA name):=by
 obtain⟨o,es,ep,ho,hd,hk,_,hm⟩:=n
 refine⟨o,ho,λname=> ?_⟩
 have e:=hm name
 unfold nsFind findBy at e
 rw[←Array.find?_toList] at e
 unfold PySem.W.lookIn
 rw[hd]
 dsimp only
 split
 ·rename_i y q
  rw[q] at e
  exact congrArg some e
 ·rename_i q
  rw[q] at e
  have a:es.toList.any (·.refKey)=false:=by
   rw[GdP]
   intro y hy
   obtain⟨z,t,hkey⟩:=hk y (GdA.mp hy)
   simp[DictEntry.refKey,hkey]
  have a' :¬es.toList.any (·.refKey)=true:=by rw[a];exact Gaz
  rw[Gaf a']
  exact congrArg some e
theorem CD.look{h:Heap}{x dx C:Addr}{mA:Str→Option Value}(I:CD h x dx C mA):∃od,PySem.W.InstAt h x (PySem.W.instObj C dx) C (some od)∧∀name,PySem.W.lookIn name od=some (mA name):=
 let⟨od,ho,hl⟩:=uc I.ns
 ⟨od,⟨I.obj,rfl,rfl,ho⟩,hl⟩
theorem lj.some_of{v:V}{o:Option Value}(r:lj (some v) o):∃u,o=some u∧RelV v u:=by
 cases o with
 |none=>exact(show False from r).elim
 |some u=>exact⟨u,rfl,r⟩
section
variable{P:Program}{w:World}{H H' :Hp}{h h' :Heap}{a C dx:Addr}{fs fs' :List (Str×V)}
theorem AG(hok:HOk P w H h)(e:H a=some (.ins C dx fs)):∃mA,CD h a dx C mA∧(∀f,lj (fs.lookup f) (mA f))∧PySem.Within mA (fs.map (·.1))∧fs.length≤1000∧H dx=some (.own a):=by
 obtain⟨d,z,ne,ob,mA,n,r,q⟩:=(show br P w H h a (.ins C dx fs) from hok a _ e)
 exact⟨mA,⟨ob,n,ne⟩,r,q,z,d⟩
end
structure Cls(K:PySem.W.Frag)(C:Addr):Prop where
 pg:PySem.W.plainGet K C Str.empty=true
 hd:PySem.W.hasDictIn K C=true
 po:PySem.W.plainOver K C=true
 sa:PySem.W.findIn K (.ref C) "__setattr__"=some (some (.builtin "object.__setattr__"))
theorem Cls.get{K:PySem.W.Frag}{C:Addr}(c:Cls K C)(f:Str):PySem.W.plainGet K C f=true:=c.pg
section
variable{X:Cx}{pins:List (Addr×Obj)}{σ:St}{H:Hp}{s:Shared}{A:Around}{E:Value→Shared→Prop}{Q:Value→Shared→Prop}{c:Value}{b:Bool}
inductive iB(K:PySem.W.Frag)(H:Hp):V→Value→Prop where
 |non:iB K H .non (.type "NoneType")
 |bl (x:Bool):iB K H (.bl x) (.type "bool")
 |int (i:Int):iB K H (.int i) (.type "int")
 |str (x:Str):iB K H (.str x) (.type "str")
 |flt (x:UInt64):iB K H (.flt x) (.type "float")
 |lst {a:Addr} {xs:List V} (e:H a=some (.lst xs)):iB K H (.ref a) (.type "list")
 |frz {a:Addr} {o:Obj} {xs:List V} (e:H a=some (.frz o (.lst xs))):iB K H (.ref a) (.type "list")
 |tup {a:Addr} {xs:List V} (e:H a=some (.tup xs)):iB K H (.ref a) (.type "tuple")
 |dK {a:Addr} {kvs:List (Key×V)} (e:H a=some (.dK kvs)):iB K H (.ref a) (.type "dict")
 |dT {a:Addr} {kvs:List (List Key×V)} (e:H a=some (.dT kvs)):iB K H (.ref a) (.type "dict")
 |ins {a C dx:Addr} {fs:List (Str×V)} (e:H a=some (.ins C dx fs)) (cl:Cls K C) (ha:PySem.W.findIn K (.ref C) "__class__"=some (some (.builtin "object.__class__")))
   (hn:PySem.W.specialIn K (.builtin "object.__class__") "__get__"=some (some (.builtin "getset_descriptor.__get__"))) (htk:PySem.W.takesIn K (.builtin "object.__class__")=some true)
   (hm:PySem.W.mroIn K C (.type "object")=some true):iB K H (.ref a) (.ref C)
theorem ud{x:V}{u t:Value}(I:Inv X pins σ H s)(rx:RelV x u)(ty:iB X.K H x t)(e:PySem.W.kitOne X.K t c=some b)(h:∀tk,Q (.bool b) {s with toks:=tk}):
  wpAny (model X.prog X.w) A (call (.builtin "isinstance") [u,c]) Q E s:=by
 cases ty with
 |non=>cases(show u=Value.none from rx);exact Gbx PySem.W.kitx_none I.kIn True.intro e (λz=>nomatch z) h
 |bl y=>cases(show u=Value.bool y from rx);exact Gbx PySem.W.kitx_bool I.kIn True.intro e (λz=>nomatch z) h
 |int i=>obtain⟨t,q⟩:=(show∃t,u=Value.int i t from rx);cases q;exact Gbx PySem.W.kitx_int I.kIn True.intro e (λz=>nomatch z) h
 |str y=>obtain⟨t,q⟩:=(show∃t,u=Value.str y t from rx);cases q;exact Gbx PySem.W.kitx_str I.kIn True.intro e (λz=>nomatch z) h
 |flt y=>obtain⟨t,q⟩:=(show∃t,u=Value.float y t from rx);cases q;exact Gbx PySem.W.kitx_float I.kIn True.intro e (λz=>nomatch z) h
 | @lst a xs ea=>
  cases(show u=Value.ref a from rx)
  obtain⟨_,_,n,_,h1⟩:=(show br X.prog X.w H s.heap a (.lst xs) from I.hok a _ ea)
  exact Gbx PySem.W.kitx_list I.kIn ⟨_,h1,rfl⟩ e (λz=>nomatch z) h
 | @frz a ob xs ea=>
  cases(show u=Value.ref a from rx)
  obtain⟨_,_,_,n,_,h1⟩:=(show br X.prog X.w H s.heap a (.frz ob (.lst xs)) from I.hok a _ ea)
  exact Gbx PySem.W.kitx_list I.kIn ⟨_,h1,rfl⟩ e (λz=>nomatch z) h
 | @tup a xs ea=>
  cases(show u=Value.ref a from rx)
  obtain⟨_,_,_,p⟩:=(show br X.prog X.w H s.heap a (.tup xs) from I.hok a _ ea)
  obtain⟨o,h1,h2,_⟩:=p
  exact Gbx PySem.W.kitx_tuple I.kIn ⟨o,h1,h2⟩ e (λz=>nomatch z) h
 | @dK a kvs ea=>
  cases(show u=Value.ref a from rx)
  obtain⟨_,_,vs,_,p⟩:=(show br X.prog X.w H s.heap a (.dK kvs) from I.hok a _ ea)
  obtain⟨o,es,ep,h1,h2,_⟩:=p
  exact Gbx PySem.W.kitx_dict I.kIn ⟨o,h1,h2.1⟩ e (λz=>nomatch z) h
 | @dT a kvs ea=>
  cases(show u=Value.ref a from rx)
  obtain⟨_,_,xs,_,o,es,ep,h1,h2,_⟩:=(show br X.prog X.w H s.heap a (.dT kvs) from I.hok a _ ea)
  exact Gbx PySem.W.kitx_dict I.kIn ⟨o,h1,h2.1⟩ e (λz=>nomatch z) h
 | @ins a C dx fs ea cl ha hn htk hm=>
  cases(show u=Value.ref a from rx)
  obtain⟨mA,O,_⟩:=AG I.hok ea
  obtain⟨od,J,_⟩:=O.look
  exact Gbx (PySem.W.kitx_own (cl.get _) cl.hd ha hn htk hm) I.kIn J e (λz=>nomatch z) h
end
structure dR(k:Nat)(A:Around):Prop where
 hd:A.handled=none
 dp:A.depth+3*k+5<recursionLimit
 un:A.units+16*k+200<cLine
theorem dR.mono{j k:Nat}{A:Around}(r:dR k A)(h:j≤k):dR j A:=⟨r.hd,by have:=r.dp;omega,by have:=r.un;omega⟩
theorem dR.deeper{k:Nat}{A:Around}(r:dR (k+1) A)(env:Env):dR k (A.deeper env):=
 ⟨r.hd,by have:=r.dp;show A.depth+1+3*k+5<_;omega,by have:=r.un;show A.units+3+16*k+200<_;omega⟩
theorem dR.depth{k:Nat}{A:Around}(r:dR k A):A.depth<recursionLimit:=by have:=r.dp;omega
theorem dR.units{k:Nat}{A:Around}(r:dR k A):A.units+64<cLine:=by have:=r.un;omega
noncomputable def GC:TA:=λ_ H Q=>Q [] H
noncomputable def EH(ta:TE)(tr:TA):TA:=λσ H Q=>ta σ H λx H1=>tr σ H1 λxs H2=>Q (x::xs) H2
section
variable{X:Cx}{e:Expr}{es:List Expr}{te:TE}{t:TA}{pos:Pos}
theorem jA:PA X [] GC:=λ_ _ _ _ H Q I h=>Calls.spliced_nil ⟨[],H,I,.nil,h⟩
theorem dS(ha:PE X e te)(hr:PA X es t)(hs:starEach (e::es) X.env=(false,eval e X.env)::starEach es X.env:=by rfl):PA X (e::es) (EH te t):=by
 intro pos pins s σ H Q I h
 rw[hs]
 show wpAny _ _ (spliced ((false,eval e X.env)::backTo pos (starEach es X.env))) _ _ s
 refine Calls.spliced_cons (thn (ha pins s σ H _ I h) λu s1 ⟨x,H1,I1,r1,q1⟩=> ?_)
 exact thn (hr pos pins s1 σ H1 _ I1 q1) λus s2 ⟨xs,H2,I2,r2,q2⟩=> ⟨x::xs,H2,I2,.cons r1 r2,q2⟩
noncomputable def GD(t:TA):TE:=λσ H Q=>t σ H λxs H1=>xs.length≤sizeLine∧∀p,H1 p=none→Q (.ref p) (upd H1 p (.tup xs))
noncomputable def GF(t:TA):TE:=λσ H Q=>t σ H λxs H1=>xs.length≤sizeLine∧∀p,H1 p=none→Q (.ref p) (upd H1 p (.lst xs))
theorem CF{x1}(h:PA X es t):PE X (.Tuple es x1 pos) (GD t):=by
 intro pins s σ H Q I hq
 refine wpAny_Tuple_spliced (thn (h pos pins s σ H _ I hq) λus s1 ⟨xs,H1,I1,r,z,q⟩=> ⟨by rw[←r.length];exact z, ?_⟩)
 have hf:H1 s1.heap.objs.size=none:=I1.hok.fresh (Gaq _)
 refine⟨.ref s1.heap.objs.size,upd H1 s1.heap.objs.size (.tup xs),I1.laid (t' :=s1.toks) (λb u e=>Gad _ e) (Gaq _) ?_,rfl,q _ hf⟩
 exact⟨z,us,r,⟨_,Gaw _ rfl,rfl,_,rfl⟩⟩
theorem CG(h:PA X es t):PE X (.List es pos) (GF t):=by
 intro pins s σ H Q I hq
 refine wpAny_List_spliced (thn (h pos pins s σ H _ I hq) λus s1 ⟨xs,H1,I1,r,z,q⟩=> ⟨by rw[←r.length];exact z, ?_⟩)
 have hf:H1 s1.heap.objs.size=none:=I1.hok.fresh (Gaq _)
 refine⟨.ref s1.heap.objs.size,upd H1 s1.heap.objs.size (.lst xs),I1.laid (t' :=s1.toks) (λb u e=>Gad _ e) (Gaq _) ?_,rfl,q _ hf⟩
 exact⟨z,us,0,r,Gaw _ rfl⟩
end
noncomputable abbrev Sp:=List V→Hp→VK→XK→Prop
noncomputable abbrev CXT:=List Env→Hp→Shared→XK→Value→Shared→Prop
structure AH(P:Program)(w:World)(K:PySem.W.Frag)(mg:Str→Option Value)(base:Heap)(A:Around)(outer:List Env)(s:Shared)(H:Hp):Prop where
 frames:A.frames=some outer
 mod:Mod K mg base
 bs:∀b o,base.get? b=some o→s.heap.get? b=some o∧H b=none
 bsz:base.objs.size≤s.heap.objs.size
 lp:s.heap.FunFrames base outer
 frf:∀b∈frs outer,H b=none
 hok:HOk P w H s.heap
 bare:AllBare s.gens
noncomputable def CE(outer:List Env)(P:Program)(w:World)(H:Hp)(s:Shared)(Q:VK)(u:Value)(s' :Shared):Prop:=
 ∃v H',s'.os=s.os∧AllBare s'.gens∧Un (frs outer) [] H H' s.heap s'.heap∧HOk P w H' s'.heap∧RelV v u∧Q v H'
noncomputable def CR(CX:CXT)(outer:List Env)(P:Program)(w:World)(H:Hp)(s:Shared)(Q:VK)(E:XK)(r:Result)(s' :Shared):Prop:=
 match r with
 | .ok (.ret u)=>CE outer P w H s Q u s'
 | .ok _=>False
 | .error e=>CX outer H s E e s'
structure fj(P:Program)(w:World)(K:PySem.W.Frag)(mg:Str→Option Value)(base:Heap)(CX:CXT)(k:Nat)(f:Addr)(fd:FuncData)(ps:List Str)(sp:Sp):Prop where
 len:∀vs H Q E,sp vs H Q E→vs.length=ps.length
 run:∀(A:Around) (outer:List Env) (s:Shared) (H:Hp) (args:Args) (us:List Value) (vs:List V) (Q:VK) (E:XK),dR k A→AH P w K mg base A outer s H→BindsTo s fd args (ps.zip us)→Vals vs us→sp vs H Q E→
  codeAny (model P w) A (.call (.ref f) args) (CR CX outer P w H s Q E) s
section
variable{X:Cx}{pins:List (Addr×Obj)}{σ:St}{H:Hp}{s s' :Shared}
theorem Inv.GG(I:Inv X pins σ H s):AH X.prog X.w X.K X.mg X.base X.A X.stack s H:=
 ⟨I.ok.frames,I.ok.mod,I.bs,GbJ I.ok.bsz I.sz,I.stack,I.sv,I.hok,I.bare⟩
theorem Inv.after{Q:VK}{u:Value}(I:Inv X pins σ H s)(h:CE X.stack X.prog X.w H s Q u s'):EP X pins σ Q u s' :=by
 obtain⟨v,H',os,bare,un,hok,r,q⟩:=h
 obtain⟨hh,g,d,t,os'⟩:=s'
 obtain rfl:os' =s.os:=os
 exact⟨v,H',I.call (h' :=hh) (g' :=g) (d' :=d) (t' :=t) (ch:=[]) un hok bare (λb z=>absurd z (by simp)),r,q⟩
end
noncomputable def EI(sp:Sp)(dvs:List V)(E:XK)(t:TA):TE:=λσ H Q=>t σ H λvs H1=>sp (vs++dvs) H1 Q E
noncomputable def Binds(K:PySem.W.Frag)(fd:FuncData)(ps:List Str)(ds:List Value):Prop:=
 ∀(s:Shared) (us:List Value),K.In s.heap→(us++ds).length=ps.length→BindsTo s fd ⟨us,[]⟩ (ps.zip (us++ds))
theorem Binds.all{K:PySem.W.Frag}{fd:FuncData}{ps:List Str}(h:∀us:List Value,us.length=ps.length→bindArgs fd ⟨us,[]⟩=pure (ps.zip us)):Binds K fd ps []:=λs us _ hl=>by
 rw[GbH] at hl⊢
 exact .of_eq (h us hl)
noncomputable def Passes(CX:CXT)(X:Cx)(E:XK):Prop:=∀(pins:List (Addr×Obj)) (σ:St) (H:Hp) (s:Shared) (e:Value) (s' :Shared),Inv X pins σ H s→CX X.stack H s E e s' →X.xe e s'
section
variable{X:Cx}{CX:CXT}{k:Nat}{f C:Addr}{fd:FuncData}{ps:List Str}{sp:Sp}{dvs:List V}{ds:List Value}{E:XK}{x m:Str}{p pos apos:Pos}{e o:Expr}{es:List Expr}{ta:TE}{t:TA}
theorem CH{pins:List (Addr×Obj)}{σ:St}{H:Hp}{s:Shared}{Q:VK}{us:List Value}{vs:List V}(F:fj X.prog X.w X.K X.mg X.base CX k f fd ps sp)(hr:dR k X.A)(hb:Binds X.K fd ps ds)(hd:Vals dvs ds)(hx:Passes CX X E)
  (I:Inv X pins σ H s)(r:Vals vs us)(h:sp (vs++dvs) H Q E):wpAny (model X.prog X.w) X.A (call (.ref f) us) (EP X pins σ Q) X.xe s:=by
 have r2:Vals (vs++dvs) (us++ds):=r.append hd
 have hl:(us++ds).length=ps.length:=by rw[←r2.length];exact F.len _ _ _ _ h
 refine wpAny_call (codeAny_mono (F.run X.A X.stack s H ⟨us,[]⟩ (us++ds) (vs++dvs) Q E hr I.GG (hb s us I.kIn hl) r2 h) λr s' hq=> ?_)
 cases r with
 |error e=>exact hx pins σ H s e s' I hq
 |ok fl=>
  cases fl with
  |ret u=>exact I.after hq
  |next=>exact False.elim hq
  |brk=>exact False.elim hq
  |cont=>exact False.elim hq
theorem AI(F:fj X.prog X.w X.K X.mg X.base CX k f fd ps sp)(hr:dR k X.A)(hg:Gl X x)(hm:X.mg x=some (.ref f))(hk:PySem.W.keepIn X.K (.ref f)=true)(hb:Binds X.K fd ps ds)(hd:Vals dvs ds)(hx:Passes CX X E)
  (ha:PA X (e::es) t)(hdb:(x==("__debug__":Str))=false:=by decide)(he:starEach (e::es) X.env=(false,eval e X.env)::starEach es X.env:=by rfl)(hpl:(backTo pos (starEach es X.env)).any (·.1)=false:=by rfl):
  PE X (.Call (.Name x p) (e::es) [] pos) (EI sp dvs E t):=by
 intro pins s σ H Q I h
 refine wpAny_Call_Name_kw (Av I hg hm ?_ hdb)
 refine PySem.W.callWith_K (h₀:=X.base) I.ok.mod.kin hk (thn (ha pos pins s σ H _ I h) λus s1 ⟨vs,H1,I1,r,q⟩=> ⟨I1.kIn, ?_⟩) he hpl
 exact CH F hr hb hd hx I1 r q
structure Mk(K:PySem.W.Frag)(C f:Addr):Prop where
 makes:PySem.W.makesIn K C=true
 init:PySem.W.findIn K (.ref C) "__init__"=some (some (.ref f))
 fn:PySem.W.isFn K (.ref f)=true
 kp:PySem.W.keepIn K (.ref C)=true
end
structure bS(N P:List Str)(sc:Scope):Prop where
 kind:sc.kind= .function
 co:sc.isCoroutine=false
 gen:sc.isGenerator=false
 nd:N.Nodup
 pre:N.take P.length=P
 par:∀x∈P,sc.names.lookup x=some .local∨sc.names.lookup x=some .cell
 DK:∀y∈sc.names,y.2≠ .free
theorem ni{kindOf:Str→Option NameKind}{x:Str}:∀{binds:List (Str×Value)} {m:Str→Option Value},(∀v,(x,v)∉binds)→bindL kindOf binds m x=m x
 |[],_,_=>rfl
 |(n,v)::r,m,h=>by
  unfold bindL
  rw[ni λw hw=>h w (Gai _ hw)]
  split
  ·have:x≠n:=by rintro rfl;exact h v Gap
   simp[this]
  ·rfl
theorem nj{kindOf:Str→Option NameKind}{x:Str}:∀{binds:List (Str×Value)} {m:Str→Option Value},(∀v,(x,v)∉binds)→bindC kindOf binds m x=m x
 |[],_,_=>rfl
 |(n,v)::r,m,h=>by
  unfold bindC
  rw[nj λw hw=>h w (Gai _ hw)]
  split
  ·rfl
  ·have:x≠n:=by rintro rfl;exact h v Gap
   simp[this]
theorem nk{kindOf:Str→Option NameKind}{x:Str}{v:Value}:∀{P:List Str} {vs:List Value} {i:Nat} {m:Str→Option Value},P.Nodup→P[i]? =some x→vs[i]? =some v→kindOf x=some .local→
  bindL kindOf (P.zip vs) m x=some v
 |[],_,_,_,_,h,_,_=>by simp at h
 |_::_,[],_,_,_,_,h,_=>by simp at h
 |p::P,w::vs,0,m,nd,h1,h2,hk=>by
  simp at h1 h2;subst h1;subst h2
  show bindL kindOf ((p,w)::P.zip vs) m p=_
  unfold bindL
  rw[ni λv hv=>(Gby.mp nd).1 (List.of_mem_zip hv).1,Gag hk]
  simp
 |p::P,w::vs,i+1,m,nd,h1,h2,hk=>by
  show bindL kindOf ((p,w)::P.zip vs) m x=_
  unfold bindL
  exact nk (i:=i) (Gby.mp nd).2 (by simpa using h1) (by simpa using h2) hk
theorem nq{kindOf:Str→Option NameKind}{x:Str}{v:Value}:∀{P:List Str} {vs:List Value} {i:Nat} {m:Str→Option Value},P.Nodup→P[i]? =some x→vs[i]? =some v→kindOf x≠some .local→
  bindC kindOf (P.zip vs) m x=some v
 |[],_,_,_,_,h,_,_=>by simp at h
 |_::_,[],_,_,_,_,h,_=>by simp at h
 |p::P,w::vs,0,m,nd,h1,h2,hk=>by
  simp at h1 h2;subst h1;subst h2
  show bindC kindOf ((p,w)::P.zip vs) m p=_
  unfold bindC
  rw[nj λv hv=>(Gby.mp nd).1 (List.of_mem_zip hv).1,Gaf hk]
  simp
 |p::P,w::vs,i+1,m,nd,h1,h2,hk=>by
  show bindC kindOf ((p,w)::P.zip vs) m x=_
  unfold bindC
  exact nq (i:=i) (Gby.mp nd).2 (by simpa using h1) (by simpa using h2) hk
noncomputable def start(N:List Str)(vs:List V):St:=vs.map some++List.replicate (N.length -vs.length) none
noncomputable def qX(CX:CXT)(P:Program)(w:World)(K:PySem.W.Frag)(mg:Str→Option Value)(base:Heap)(N:List Str)(qual:Str)(scope:Scope)(f:Addr)(cd:Value)(A:Around)(outer:List Env)(s:Shared)(H:Hp)(E:XK):Cx where
 prog:=P
 w:=w
 K:=K
 mg:=mg
 base:=base
 A:=A.deeper (envOfC qual scope s.heap.objs.size f cd)
 N:=N
 s₀:=s
 H₀:=H
 env:=envOfC qual scope s.heap.objs.size f cd
 outer:=outer
 stack:=envOfC qual scope s.heap.objs.size f cd::outer
 ex:=[]
 calm:=true
 fn:=λ_=>true
 pn:=[]
 xe:=λe s' =>wpAny (model P w) (A.deeper (envOfC qual scope s.heap.objs.size f cd)) (leaving (envOfC qual scope s.heap.objs.size f cd) e) (λ_ s'' =>CX outer H s E e s'') (λe' s'' =>CX outer H s E e' s'') s'
theorem pC{sc:Scope}{n:Nat}{x:Str}(h:sc.names.lookup x=some .cell):∃c,(cellsFrom n sc.names []).lookup x=some c:=by
 have q:=PySem.W.cellsFrom_some sc.names n [] (.inl h)
 exact Option.isSome_iff_exists.mp q
theorem ue{CX:CXT}{P:Program}{w:World}{K:PySem.W.Frag}{mg:Str→Option Value}{base:Heap}{N ps:List Str}{qual:Str}{scope:Scope}{f:Addr}{cd:Value}{A:Around}{outer:List Env}{s s1:Shared}{H:Hp}{E:XK}{us:List Value}{vs:List V}
  (S:bS N ps scope)(hd:A.handled=none)(e0:AH P w K mg base A outer s H)(hl:vs.length=ps.length)(r:Vals vs us)
  (x:InCallC s s.heap.objs.size (bindL (envOfC qual scope s.heap.objs.size f cd).kindOf (ps.zip us) λ_=>none) (cellsFrom (s.heap.objs.size+1) scope.names []) (bindC (envOfC qual scope s.heap.objs.size f cd).kindOf (ps.zip us) λ_=>none) s1):
  Inv (qX CX P w K mg base N qual scope f cd A outer s H E) [] (start N vs) H s1:=by
 have hpl:ps.length≤N.length:=by have:=congrArg List.length S.pre;rw[List.length_take] at this;omega
 obtain⟨h1,tk,rfl,hk⟩:=x.done
 have noA:∀b:Addr,b∉(qX CX P w K mg base N qual scope f cd A outer s H E).ex:=λb z=>absurd (show b∈([]:List Addr) from z) (by simp)
 refine⟨⟨e0.mod,S.kind,rfl,rfl,Gaq _,λy z c h1 h2=> ?_,λy hy=> ?_,λy c _ h=> ?_,λ_=>hd,Around.frames_deeper e0.frames,.inr ⟨rfl,rfl⟩,λb z=>absurd z (noA b),e0.bs,e0.bsz,λb _ _=>noA b,λb z=>absurd z (noA b),e0.lp,e0.frf⟩,
  rfl,e0.bare,Un.kept hk,⟨_,x.toInCall.ns,λi y v h1 h2 h3=> ?_⟩,λy c h=> ⟨_,x.cell y c h⟩,e0.hok.fresh (Gaq _),λy c h=> ?_,λp hp=>absurd (show p∈([]:List (Addr×Obj)) from hp) (by simp),e0.hok.kept hk, ?_⟩
 ·exact name_of_addr x.apart (PySem.mem_of_lookup h1) (PySem.mem_of_lookup h2)
 ·have hy:scope.names.lookup y=some .cell∨scope.names.lookup y=some .free:=hy
  rcases hy with hy|hy
  ·exact pC hy
  ·exact absurd rfl (S.DK _ (PySem.mem_of_lookup hy))
 ·exact Gcq (x.above y c (PySem.mem_of_lookup h))
 ·have hi:i<vs.length:=by
   unfold start at h2
   by_cases hi:i<vs.length
   ·exact hi
   ·rw[Gbh (by simpa using hi)] at h2
    rw[Gcv] at h2
    split at h2<;>cases h2
  have ha:vs[i]? =some v:=by
   unfold start at h2
   rw[Gbm (by simpa using hi),Gav] at h2
   cases e:vs[i]? with
   |none=>rw[e] at h2;cases h2
   |some a=>rw[e] at h2;cases h2;rfl
  obtain⟨u,hu,rv⟩:=r.get ha
  have hp:ps[i]? =some y:=by
   rw[←S.pre,GaK (by omega)];exact h1
  have ndP:ps.Nodup:=by rw[←S.pre];exact S.nd.sublist (List.take_sublist _ _)
  refine⟨u,rv, ?_⟩
  rcases S.par y (GaJ hp) with k|k
  ·exact .inl ⟨k,nk ndP hp hu k⟩
  ·obtain⟨c,e⟩:=pC (n:=s.heap.objs.size+1) k
   refine .inr ⟨.inl k,c,e, ?_⟩
   have q:=x.cell y c e
   rw[nq ndP hp hu (by show scope.names.lookup y≠_;rw[k];decide)] at q
   exact q
 ·exact e0.hok.fresh (Gcq (x.above y c (PySem.mem_of_lookup h)))
 ·unfold start
  show _=N.length
  rw[GaR,Gan,Gdy]
  omega
theorem EJ{CX:CXT}{P:Program}{w:World}{K:PySem.W.Frag}{mg:Str→Option Value}{base:Heap}{k:Nat}{f:Addr}{name qual:Str}{params:Arguments}{body:List Stmt}{scope:Scope}{dV kV doc pm cdv ct oc:Value}{an od:Option Addr}
  {osl:Array (Option Value)}{N ps:List Str}{sp:Sp}(lk:K.lookup f=some ⟨oc,od,.func (PySem.W.fnOf name qual params body scope dV kV doc pm an cdv ct),osl⟩)(hcd:PySem.W.codeIn K cdv qual=true)(S:bS N ps scope)
  (len:∀vs H Q E,sp vs H Q E→vs.length=ps.length)
  (hbody:∀(A:Around) (outer:List Env) (s:Shared) (H:Hp) (vs:List V) (Q:VK) (E:XK),dR k (A.deeper (envOfC qual scope s.heap.objs.size f cdv))→sp vs H Q E→
   ∃t,PSs (qX CX P w K mg base N qual scope f cdv A outer s H E) body t∧t {nx:=λ_ H' =>Q .non H',rt:=Q} (start N vs) H):
  fj P w K mg base CX (k+1) f (PySem.W.fnOf name qual params body scope dV kV doc pm an cdv ct) ps sp:=by
 refine⟨len,λA outer s H args us vs Q E hr e0 hb r hsp=> ?_⟩
 have hl:=len _ _ _ _ hsp
 have KX:K.In s.heap:=e0.mod.kin.keeps λb o e=>(e0.bs b o e).1
 have lim:s.heap.NoLimit:=e0.mod.nolimit.keeps λb o e=>(e0.bs b o e).1
 have hkind:∀y∈ps.zip us,scope.names.lookup y.1=some .local∨(scope.names.lookup y.1=some .cell∧((cellsFrom (s.heap.objs.size+1) scope.names []).lookup y.1).isSome=true):=λ⟨n,v⟩ hy=>by
  rcases S.par n (List.of_mem_zip hy).1 with q|q
  ·exact .inl q
  ·exact .inr ⟨q,PySem.W.cellsFrom_some _ _ _ (.inl q)⟩
 refine codeAny_call_function hr.depth (KX _ _ lk) rfl S.co S.gen rfl (PySem.W.codeRec_of KX hcd) (hb _ _ _ _ ?_)
 refine wpAny_newFunctionEnv_cells S.kind hkind λenv he s1 x=> ?_
 subst he
 refine⟨lim.keeps x.toInCall.keep,codeAny_func ?_⟩
 obtain⟨t,ht,hq⟩:=hbody A outer s H vs Q E (hr.deeper _) hsp
 have I:Inv (qX CX P w K mg base N qual scope f cdv A outer s H E) [] (start N vs) H s1:=ue S hr.hd e0 hl r x
 refine GbS (ht [] s1 (start N vs) H _ I hq) (λfl s' hs=> ?_) λe s' hs=>hs
 have fin:∀{σ' :St} {H' :Hp} {v:V} {u:Value},Inv (qX CX P w K mg base N qual scope f cdv A outer s H E) [] σ' H' s' →RelV v u→Q v H' →CE outer P w H s Q u s' :=
  λ{σ' H' v u} J rv q=> ⟨v,H',J.os,J.bare,J.base,J.hok,rv,q⟩
 cases fl with
 |ret u=>
  obtain⟨v,σ',H',J,rv,q⟩:=hs
  exact fin J rv q
 |next=>
  obtain⟨σ',H',J,q⟩:=hs
  exact fin (v:=V.non) (u:=Value.none) J rfl q
 |brk=>
  obtain⟨_,_,_,q⟩:=hs
  exact False.elim q
 |cont=>
  obtain⟨_,_,_,q⟩:=hs
  exact False.elim q
section
variable{X:Cx}{x:Str}{p pos:Pos}{e:Expr}{es:List Expr}{t:TA}{id T:String}{r:List V→Hp→VK→Prop}
noncomputable def tCB(r:List V→Hp→VK→Prop)(t:TA):TE:=λσ H Q=>t σ H λvs H1=>r vs H1 Q
theorem lz(hc:cP X (.builtin id) r)(hg:Gl X x)(hm:X.mg x=none)(hv:bootBuiltins x=some (.builtin id))(ha:PA X (e::es) t)(hn:x≠"__name__":=by decide)(hdb:(x==("__debug__":Str))=false:=by decide)
  (he:starEach (e::es) X.env=(false,eval e X.env)::starEach es X.env:=by rfl)(hpl:(backTo pos (starEach es X.env)).any (·.1)=false:=by rfl):PE X (.Call (.Name x p) (e::es) [] pos) (tCB r t):=by
 intro pins s σ H Q I h
 refine wpAny_Call_Name_kw (om I hg hm hv ?_ hn hdb)
 exact PyProof.Rows.callWith_builtin1 (thn (ha pos pins s σ H _ I h) λus s1 ⟨vs,H1,I1,r1,q1⟩=>hc pins s1 σ H1 vs us Q I1 r1 q1) he hpl
theorem jB(hc:cP X (.type T) r)(hg:Gl X x)(hm:X.mg x=none)(hv:bootBuiltins x=some (.type T))(ha:PA X (e::es) t)(hn:x≠"__name__":=by decide)(hdb:(x==("__debug__":Str))=false:=by decide)
  (he:starEach (e::es) X.env=(false,eval e X.env)::starEach es X.env:=by rfl)(hpl:(backTo pos (starEach es X.env)).any (·.1)=false:=by rfl):PE X (.Call (.Name x p) (e::es) [] pos) (tCB r t):=by
 intro pins s σ H Q I h
 refine wpAny_Call_Name_kw (om I hg hm hv ?_ hn hdb)
 exact PyProof.Rows.callWith_type1 (thn (ha pos pins s σ H _ I h) λus s1 ⟨vs,H1,I1,r1,q1⟩=>hc pins s1 σ H1 vs us Q I1 r1 q1) he hpl
end
end L2
namespace HT
open PySem PyProof.Rows
section
open PySem.SeqAt
open PySem.AutoSeq1 (wpAny_loadPart')
open PySem.MeetsSeq PySem.MeetsSeq2 PySem.MeetsSeq3
end
section
variable{prog:Program}{w:World}{A:Around}{E:Value→Shared→Prop}{s:Shared}
theorem AJ{t b:Addr}{vs ws:List Value}{Q:Value→Shared→Prop}(ht:IsTup s.heap t vs.toArray)(hb:IsTup s.heap b ws.toArray)(hv:vs≠[])
  (h1:ws=[]→Q (.ref t) s)(h2:ws≠[]→Q (.ref s.heap.objs.size) {s with heap:=s.heap.push {cls:= .type "tuple",data:= .seq (vs++ws).toArray}})
  (hsz:vs.length+ws.length≤sizeLine):wpAny (model prog w) A (binaryOp .Add (.ref t) (.ref b)) Q E s:=by
 obtain⟨⟨cls,dd,data,sl⟩,ho,hc,n,hd⟩:=id ht
 obtain⟨⟨cls2,dd2,data2,sl2⟩,ho2,hc2,n2,hd2⟩:=id hb
 simp only at hc hd hc2 hd2
 subst hc hd hc2 hd2
 have e:vs.toArray++ws.toArray=(vs++ws).toArray:=by simp
 by_cases hw:ws=[]
 ·exact concat_meets ⟨_,ho,rfl⟩ ⟨_,ho2,rfl⟩ noFill_tuple_add seq_tuple_add PySem.F.slot_tuple_add PySem.F.entry_tuple_add (PySem.F.args_tuple_add_2 _ _)
   (tuple_addW1 t b vs.toArray ws.toArray n n2 dd dd2 sl sl2 (by simpa using hv) (by simp[hw])) ⟨ho,ho2,h1 hw⟩
 ·refine concat_meets ⟨_,ho,rfl⟩ ⟨_,ho2,rfl⟩ noFill_tuple_add seq_tuple_add PySem.F.slot_tuple_add PySem.F.entry_tuple_add (PySem.F.args_tuple_add_2 _ _)
   (tuple_addW2 t b vs.toArray ws.toArray n n2 dd dd2 sl sl2 (by simpa using hv) (by simpa using hw) (by rw[Gas,Gas];exact hsz)) ⟨ho,ho2, ?_⟩
  rw[e]
  exact h2 hw
end
end HT
namespace L2
open PySem PySem.Spec PyProof.Rows
noncomputable abbrev TO:=St→Hp→(Option Int→Hp→Prop)→Prop
noncomputable def PO(X:Cx)(e:Option Expr)(t:TO):Prop:=
 ∀(pins:List (Addr×Obj)) (s:Shared) (σ:St) (H:Hp) (Q:Option Int→Hp→Prop),Inv X pins σ H s→t σ H Q→
  wpAny (model X.prog X.w) X.A (evalPart e X.env) (λu s' =>∃o H',Inv X pins σ H' s' ∧IsPart u o∧Q o H') X.xe s
section
variable{X:Cx}{e:Expr}{te:TE}{lo hi:Option Expr}{tl th:TO}{pos p2:Pos}
noncomputable def SlR(X:Cx)(r:V→Option Int→Option Int→Hp→VK→Prop):Prop:=
 ∀(pins:List (Addr×Obj)) (s:Shared) (σ:St) (H:Hp) (x:V) (v vl vu:Value) (lo hi:Option Int) (sl:Addr) (Q:VK),Inv X pins σ H s→RelV x v→s.heap.IsSliceOf sl vl vu .none→IsPart vl lo→IsPart vu hi→r x lo hi H Q→
  ∃T id,typeLookup (.type T) "__getitem__"=pure (some (.builtin id))∧s.TypeIs v T∧wpAny (model X.prog X.w) X.A (getItem v (.ref sl)) (EP X pins σ Q) X.xe s
noncomputable def BU(K:PySem.W.Frag):R2:=λx y H Q=>∃a b xs ys,x= .ref a∧y= .ref b∧SqT K H a xs∧SqT K H b ys∧xs≠[]∧xs.length+ys.length≤sizeLine∧
 (ys=[]→Q (.ref a) H)∧(ys≠[]→∀p,H p=none→Q (.ref p) (upd H p (.tup (xs++ys))))
theorem Vals.bD{xs:List V}{us:List Value}(r:Vals xs us):us=[]↔xs=[]:=by
 cases r with
 |nil=>simp
 |cons _ _=>simp
theorem AK:OpR X (binaryOp .Add) (BU X.K):=by
 intro pins s σ H x y v u Q I rx ry h
 obtain⟨a,b,xs,ys,rfl,rfl,ha,hb,hx,hz,q1,q2⟩:=h
 cases rx
 cases ry
 obtain⟨its,r1,p1,_⟩:=I.tuple ha
 obtain⟨its2,r2,p2,_⟩:=I.tuple hb
 refine HT.AJ p1 p2 (λz=>hx (r1.bD.mp z)) (λz=> ⟨.ref a,H,I,rfl,q1 (r2.bD.mp z)⟩) (λz=> ?_) (by rw[←r1.length,←r2.length];exact hz)
 refine⟨.ref s.heap.objs.size,_,I.laid (t' :=s.toks) (o:= .tup (xs++ys)) (λb ob q=>Gad _ q) (Gaq _) ?_,rfl,q2 (λw=>z (r2.bD.mpr w)) _ (I.hok.fresh (Gaq _))⟩
 exact⟨by rw[GaR];exact hz,_,r1.append r2,IsTup.new _ _⟩
end
noncomputable def ixN(n:Nat)(i:Int):Option Nat:=if 0≤i then(if i<n then some i.toNat else none) else if -(n:Int)≤i then some (i+n).toNat else none
noncomputable def atI{α:Type}(xs:List α)(i:Int):Option α:=(ixN xs.length i).bind λj=>xs[j]?
theorem sD{n:Nat}{i:Int}{j:Nat}(h:ixN n i=some j):seqIndex? i n=some j∧j<n∧-(n:Int)≤i∧i<n:=by
 unfold ixN at h
 by_cases h0:0≤i
 ·rw[Gag h0] at h
  by_cases h1:i<n
  ·rw[Gag h1] at h
   have e:i.toNat=j:=Option.some.inj h
   exact⟨by rw[seqIndex_of h0 h1,e],by omega,by omega,h1⟩
  ·rw[Gaf h1] at h;cases h
 ·rw[Gaf h0] at h
  by_cases h1: -(n:Int)≤i
  ·rw[Gag h1] at h
   have e:(i+n).toNat=j:=Option.some.inj h
   exact⟨by rw[seqIndex_neg (by omega) h1,e],by omega,h1,by omega⟩
  ·rw[Gaf h1] at h;cases h
theorem oq{α:Type}{xs:List α}{i:Int}{v:α}(h:atI xs i=some v):∃j,seqIndex? i xs.length=some j∧xs[j]? =some v∧j<xs.length∧-(xs.length:Int)≤i∧i<xs.length:=by
 unfold atI at h
 cases e:ixN xs.length i with
 |none=>rw[e] at h;cases h
 |some j=>
  rw[e] at h
  obtain⟨h1,h2,h3,h4⟩:=sD e
  exact⟨j,h1,h,h2,h3,h4⟩
noncomputable def sE(b:Expr):Prop:=∀o i,subscripted b false o i=operate [o,i] (getItem o i)
noncomputable def IxR(X:Cx)(r:R2):Prop:=
 ∀(value slice:Expr) (pins:List (Addr×Obj)) (s:Shared) (σ:St) (H:Hp) (x y:V) (v u:Value) (Q:VK),Inv X pins σ H s→RelV x v→RelV y u→r x y H Q→
  subscripted slice false v u=operate [v,u] (getItem v u)→wpAny (model X.prog X.w) X.A (subscriptTail value slice v u) (EP X pins σ Q) X.xe s
noncomputable def MtR(X:Cx)(id:String)(r:V→List V→Hp→VK→Prop):Prop:=
 ∀(pins:List (Addr×Obj)) (s:Shared) (σ:St) (H:Hp) (x:V) (xs:List V) (v:Value) (us:List Value) (Q:VK),Inv X pins σ H s→RelV x v→Vals xs us→r x xs H Q→
  wpAny (model X.prog X.w) X.A (call (.builtin id) (v::us)) (EP X pins σ Q) X.xe s
section
variable{X:Cx}{a b:Expr}{ta tb:TE}{pos:Pos}
theorem IxR.or{r r' :R2}(h:IxR X r)(h' :IxR X r'):IxR X (λx y H Q=>r x y H Q∨r' x y H Q):=by
 intro value slice pins s σ H x y v u Q I rx ry q hs
 rcases q with q|q
 ·exact h value slice pins s σ H x y v u Q I rx ry q hs
 ·exact h' value slice pins s σ H x y v u Q I rx ry q hs
theorem EK{r:R2}(hr:IxR X r)(ha:PE X a ta)(hb:PE X b tb)(hs:sE b):PE X (.Subscript a b pos) (tOp r ta tb):=by
 intro pins s σ H Q I h
 exact Subscript_ (Cv ha hb I h λv u s2 x y H2 I2 rx ry q=>hr a b pins s2 σ H2 x y v u Q I2 rx ry q (hs _ _))
noncomputable def EM(K:PySem.W.Frag):R2:=λx y H Q=>∃p xs i v,x= .ref p∧y= .int i∧SqL K H p xs∧atI xs i=some v∧Q v H
noncomputable def EO(K:PySem.W.Frag):R2:=λx y H Q=>∃p xs i v,x= .ref p∧y= .int i∧SqT K H p xs∧atI xs i=some v∧Q v H
noncomputable def ER:R2:=λx y H Q=>∃z i c,x= .str z∧y= .int i∧z.length≤sizeLine∧atI z.cps.toList i=some c∧Q (.str ⟨#[c]⟩) H
theorem AL:IxR X (EM X.K):=by
 intro value slice pins s σ H x y v u Q I rx ry h hs
 obtain⟨p,xs,i,z,rfl,rfl,hq,he,q⟩:=h
 cases rx
 obtain⟨t,rfl⟩:=ry
 obtain⟨its,r,pl,hz⟩:=I.list hq
 obtain⟨j,h1,h2,h3,h4,h5⟩:=oq he
 obtain⟨w,ew,rw'⟩:=r.get h2
 have hl:=r.length
 have hn:=lu
 have fin:EP X pins σ Q w s:=⟨z,H,I,rw',q⟩
 by_cases h0:0≤i
 ·have hj:i.toNat=j:=by
   rw[seqIndex_of h0 h5] at h1
   exact Option.some.inj h1
  exact item_listR pl.isList h0 (by omega) (by rw[hj];simpa using ew) fin hs
 ·have hj:(i+(its.toArray.size:Int)).toNat=j:=by
   rw[seqIndex_neg (by omega) h4] at h1
   rw[Gas,←hl]
   exact Option.some.inj h1
  exact subscriptTail_builtinR (x:=w) pl.isList.typeIs slot_list_getitem.lookup
   (wpAny_getItem_list_neg (Q:=λr s' =>r=w∧EP X pins σ Q r s') pl.isList (by omega) (by rw[Gas]<;>omega) (by omega) (by rw[hj];simpa using ew) ⟨rfl,fin⟩) hs
theorem CI:IxR X (EO X.K):=by
 intro value slice pins s σ H x y v u Q I rx ry h hs
 obtain⟨p,xs,i,z,rfl,rfl,hq,he,q⟩:=h
 cases rx
 obtain⟨t,rfl⟩:=ry
 obtain⟨its,r,pl,hz⟩:=I.tuple hq
 obtain⟨j,h1,h2,h3,h4,h5⟩:=oq he
 obtain⟨w,ew,rw'⟩:=r.get h2
 have hl:=r.length
 have hn:=lu
 have fin:EP X pins σ Q w s:=⟨z,H,I,rw',q⟩
 exact subscriptTail_builtinR (x:=w) pl.typeIs slot_tuple_getitem.lookup
  (getItem_tuple (j:=j) (Q:=λr s' =>r=w∧EP X pins σ Q r s') pl (by omega) (by omega) (by rw[Gas,←hl];exact h1) (by simpa using ew) ⟨rfl,fin⟩) hs
theorem CJ:IxR X ER:=by
 intro value slice pins s σ H x y v u Q I rx ry h hs
 obtain⟨z,i,c,rfl,rfl,hz,he,q⟩:=h
 obtain⟨t,rfl⟩:=rx
 obtain⟨t',rfl⟩:=ry
 obtain⟨j,h1,h2,h3,h4,h5⟩:=oq he
 have hl:z.cps.toList.length=z.length:=by simp[Str.length]
 rw[hl] at h1 h4 h5
 have hn:=lu
 exact tail_any (typeIs_str s z t) slot_str_getitem.lookup (getItem_str (c:=c) (by
  have e1:decide (i< -(2^63:Int))=false:=GaD (by omega)
  have e2:decide (i≥2^63)=false:=GaD (by omega)
  rw[e1,e2,Bool.or_false]) (by rw[h1];simpa using h2) ⟨.str ⟨#[c]⟩,H,I.tok _,⟨_,rfl⟩,q⟩) hs
noncomputable def rIx(K:PySem.W.Frag):R2:=λx y H Q=>EM K x y H Q∨EO K x y H Q∨ER x y H Q
theorem CK:IxR X (rIx X.K):=AL.or (CI.or CJ)
theorem qY(its:List Value)(n j:Nat)(u:Value):Obj.mapSeq (·.setIfInBounds j u) {cls:= .type "list",data:= .seq its.toArray n}={cls:= .type "list",data:= .seq (its.set j u).toArray n}:=by
 simp[Obj.mapSeq]
theorem Inv.lst{pins:List (Addr×Obj)}{σ:St}{H:Hp}{s:Shared}{p:Addr}{xs:List V}(I:Inv X pins σ H s)(h:H p=some (.lst xs)):
  ∃(its:List Value) (n:Nat),Vals xs its∧s.heap.get? p=some {cls:= .type "list",data:= .seq its.toArray n}∧xs.length≤sizeLine:=by
 obtain⟨z,its,n,r,e⟩:=I.hok p _ h
 exact⟨its,n,r,e,z⟩
theorem Inv.CL{pins:List (Addr×Obj)}{σ:St}{H:Hp}{s:Shared}{p:Addr}{xs ys:List V}{its its' :List Value}{n n' :Nat}{f:Obj→Obj}(I:Inv X pins σ H s)(h:H p=some (.lst xs))
  (ho:s.heap.get? p=some {cls:= .type "list",data:= .seq its.toArray n})(hf:f {cls:= .type "list",data:= .seq its.toArray n}={cls:= .type "list",data:= .seq its'.toArray n' })(r:Vals ys its')(hz:ys.length≤sizeLine)(t:Nat):
  Inv X pins σ (upd H p (.lst ys)) {s with heap:=s.heap.update p f,toks:=t}:=by
 have e:(s.heap.update p f).get? p=some {cls:= .type "list",data:= .seq its'.toArray n' }:=by
  rw[GaU f ho (by rw[hf]<;>rfl),hf]
 refine I.write (x:=p) (e:=p) (by rw[h];trivial) (.inl rfl) (λb u hb q=>(GbB _ _ (Gbl hb)).trans q) ⟨_,e⟩ ?_
 exact⟨hz,its',n',r,e⟩
noncomputable def BV:V→V→V→Hp→(Hp→Prop)→Prop:=λo i v H Q=>∃p xs k j,o= .ref p∧i= .int k∧H p=some (.lst xs)∧ixN xs.length k=some j∧Q (upd H p (.lst (xs.set j v)))
theorem set_list:Ex X BV:=by
 intro pins s σ H o i v ov iv u Q I ro ri rv h
 obtain⟨p,xs,k,j,rfl,rfl,hp,hj,q⟩:=h
 cases ro
 obtain⟨t,rfl⟩:=ri
 obtain⟨its,n,r,ho,hz⟩:=I.lst hp
 obtain⟨h1,h2,h3,h4⟩:=sD hj
 have hl:=r.length
 have hn:=lu
 have I' :Inv X pins σ (upd H p (.lst (xs.set j v))) {s with heap:=s.heap.update p (Obj.mapSeq (·.setIfInBounds j u))}:=
  I.CL hp ho (qY its n j u) (r.set rv j) (by rw[GdB];exact hz) s.toks
 by_cases h0:0≤k
 ·have hk:k.toNat=j:=by
   rw[seqIndex_of h0 h4] at h1
   exact Option.some.inj h1
  exact PySem.W.ki_setAt ho h0 (by omega) (by rw[Gas,←hl];exact h4) (by rw[hk];exact⟨_,I',q⟩)
 ·have hk:(k+(its.toArray.size:Int)).toNat=j:=by
   rw[seqIndex_neg (by omega) h3] at h1
   rw[Gas,←hl]
   exact Option.some.inj h1
  exact PySem.W.ki_setBack ho (by omega) (by rw[Gas,←hl];exact h3) (by omega) (by rw[hk];exact⟨_,I',q⟩)
noncomputable def ke:V→Bool
 | .non=>true
 | .bl _=>true
 | .int _=>true
 | .str _=>true
 |_=>false
noncomputable def eqV:V→V→Bool
 | .non,.non=>true
 | .bl a,.bl b=>a==b
 | .bl a,.int b=>(if a then 1 else 0)==b
 | .int a,.bl b=>a==(if b then 1 else 0)
 | .int a,.int b=>a==b
 | .str a,.str b=>a==b
 |_,_=>false
theorem vq{A:Around}{s:Shared}{y x:V}{u v:Value}(ry:RelV y u)(rx:RelV x v)(fy:ke y=true)(fx:ke x=true):SeqAt.EqAt A s u v (eqV y x):=by
 cases y with
 |non=>
  cases ry
  cases x with
  |non=>cases rx;exact SeqAt.EqAt.same _
  |bl b=>cases rx;exact SeqAt.EqAt.none_bool b
  |int b=>obtain⟨t,rfl⟩:=rx;exact SeqAt.EqAt.none_int b t
  |str b=>obtain⟨t,rfl⟩:=rx;exact SeqAt.EqAt.none_str b t
  |_=>exact absurd (show false=true from fx) Gaz
 |bl a=>
  cases ry
  cases x with
  |non=>cases rx;exact SeqAt.EqAt.bool_none a
  |bl b=>cases rx;exact SeqAt.EqAt.bool_bool a b
  |int b=>obtain⟨t,rfl⟩:=rx;exact SeqAt.EqAt.bool_int a b t
  |str b=>obtain⟨t,rfl⟩:=rx;exact SeqAt.EqAt.bool_str a b t
  |_=>exact absurd (show false=true from fx) Gaz
 |int a=>
  obtain⟨t',rfl⟩:=ry
  cases x with
  |non=>cases rx;exact SeqAt.EqAt.int_none a t'
  |bl b=>cases rx;exact SeqAt.EqAt.int_bool a t' b
  |int b=>obtain⟨t,rfl⟩:=rx;exact SeqAt.EqAt.int_int a t' b t
  |str b=>obtain⟨t,rfl⟩:=rx;exact SeqAt.EqAt.int_str a t' b t
  |_=>exact absurd (show false=true from fx) Gaz
 |str a=>
  obtain⟨t',rfl⟩:=ry
  cases x with
  |non=>cases rx;exact SeqAt.EqAt.str_none a t'
  |bl b=>cases rx;exact SeqAt.EqAt.str_bool a t' b
  |int b=>obtain⟨t,rfl⟩:=rx;exact SeqAt.EqAt.str_int a t' b t
  |str b=>obtain⟨t,rfl⟩:=rx;exact SeqAt.EqAt.str_str a t' b t
  |_=>exact absurd (show false=true from fx) Gaz
 |_=>exact absurd (show false=true from fy) Gaz
theorem cP.or{f:Value}{r r' :List V→Hp→VK→Prop}(h:cP X f r)(h' :cP X f r'):cP X f (λxs H Q=>r xs H Q∨r' xs H Q):=by
 intro pins s σ H xs us Q I rs q
 rcases q with q|q
 ·exact h pins s σ H xs us Q I rs q
 ·exact h' pins s σ H xs us Q I rs q
theorem fJ:cP X (.type "list") (λxs H Q=>∃p ys,xs=[.ref p]∧(SqL X.K H p ys∨SqT X.K H p ys)∧∀l,H l=none→Q (.ref l) (upd H l (.lst ys))):=by
 intro pins s σ H xs us Q I r h
 obtain⟨p,ys,rfl,hq,q⟩:=h
 obtain⟨u,rfl,rx⟩:=vals1 r
 cases rx
 have fin:∀(its:List Value),Vals ys its→ys.length≤sizeLine→∀(h' :Heap) (c' :Nat),(∀b o',s.heap.get? b=some o' →h'.get? b=some o')→
   h'.get? s.heap.objs.size=some {cls:= .type "list",dict:=none,data:= .seq its.toArray c',slots:=#[]}→EP X pins σ Q (.ref s.heap.objs.size) {s with heap:=h' }:=λits r' hz h' c' kp e=>
  ⟨.ref s.heap.objs.size,_,I.laid (t' :=s.toks) kp (Gaq _) (show br X.prog X.w _ h' _ (.lst ys) from⟨hz,its,c',r',e⟩),rfl,q _ (I.hok.fresh (Gaq _))⟩
 rcases hq with hq|hq
 ·obtain⟨its,r',pl,hz⟩:=I.list hq
  have hlen:=r'.length
  obtain⟨o,ho,hc,n,hd⟩:=pl.isList
  exact call_list_seq p (.inl rfl) ho hc hd (λh' c' kp e=>fin its r' hz h' c' kp e) (by simp only[Gas]<;>omega)
 ·obtain⟨its,r',pl,hz⟩:=I.tuple hq
  have hlen:=r'.length
  obtain⟨o,ho,hc,n,hd⟩:=pl
  exact call_list_seq p (.inr rfl) ho hc hd (λh' c' kp e=>fin its r' hz h' c' kp e) (by simp only[Gas]<;>omega)
noncomputable def tyV(K:PySem.W.Frag)(T:String)(x:V)(H:Hp):Prop:=match x with
 | .str _=>T="str"
 | .int _=>T="int"
 | .ref p=>(T="list"∧∃xs,SqL K H p xs)∨(T="tuple"∧∃o,K.lookup p=some o∧o.cls= .type "tuple"∧o.dict=none)∨
   (T="dict"∧((∃kvs,H p=some (.dK kvs))∨∃kvs,H p=some (.dT kvs)))∨(T="set"∧∃S n,H p=some (.set S n))
 |_=>False
theorem vt{pins:List (Addr×Obj)}{σ:St}{H:Hp}{s:Shared}{T:String}{x:V}{v:Value}(I:Inv X pins σ H s)(r:RelV x v)(ty:tyV X.K T x H):
  s.TypeIs v T∧∀a,v= .ref a→∃ob,s.heap.get? a=some ob∧ob.dict=none:=by
 cases x with
 |str z=>
  obtain⟨t,rfl⟩:=r
  cases(show T="str" from ty)
  exact⟨typeIs_str s z t,λ_ e=>nomatch e⟩
 |int i=>
  obtain⟨t,rfl⟩:=r
  cases(show T="int" from ty)
  exact⟨typeIs_int s i t,λ_ e=>nomatch e⟩
 |ref p=>
  cases r
  rcases ty with⟨rfl,xs,hq⟩| ⟨rfl,o,hk,hc,hd⟩| ⟨rfl,hk⟩| ⟨rfl,S,n,hk⟩
  ·obtain⟨its,_,pl,_⟩:=I.list hq
   refine⟨pl.isList.typeIs,λa e=> ?_⟩
   cases e
   obtain⟨o,n,e,c,hd,_⟩:=pl
   exact⟨o,e,hd⟩
  ·refine⟨⟨o,I.kIn p o hk,hc⟩,λa e=> ?_⟩
   cases e
   exact⟨o,I.kIn _ o hk,hd⟩
  ·have z:∃o,s.heap.get? p=some o∧o.ExactDict:=by
    rcases hk with⟨kvs,hk⟩| ⟨kvs,hk⟩
    ·obtain⟨_,_,_,_,o,_,_,e,ex,_⟩:=I.hok p _ hk
     exact⟨o,e,ex⟩
    ·obtain⟨_,_,_,_,o,_,_,e,ex,_⟩:=I.hok p _ hk
     exact⟨o,e,ex⟩
   obtain⟨o,e,ex⟩:=z
   refine⟨⟨o,e,ex.1⟩,λa e2=> ?_⟩
   cases e2
   exact⟨o,e,ex.2.1⟩
  ·obtain⟨o,_,_,_,e,ex,_⟩:=I.hok p _ hk
   refine⟨⟨o,e,ex.1⟩,λa e2=> ?_⟩
   cases e2
   exact⟨o,e,ex.2.1⟩
 |_=>exact False.elim ty
noncomputable def GH(K:PySem.W.Frag)(T:String)(r:V→List V→Hp→VK→Prop)(to:TE):TE:=λσ H Q=>to σ H λx H1=>tyV K T x H1∧r x [] H1 Q
noncomputable def tBM(K:PySem.W.Frag)(T:String)(r:V→List V→Hp→VK→Prop)(to:TE)(t:TA):TE:=λσ H Q=>to σ H λx H1=>tyV K T x H1∧t σ H1 λxs H2=>r x xs H2 Q
variable{o e:Expr}{es:List Expr}{to:TE}{t:TA}{name:Str}{apos cpos:Pos}{T id:String}{r:V→List V→Hp→VK→Prop}
theorem qZ(pa:PlainAttrs T)(slot:Slot T name id)(hty:typeOf (.builtin id)=pure (.type "method_descriptor"))(hm:MtR X id r)(ho:PE X o to)
  (hbase:attributeBase o name X.env (eval o X.env)=eval o X.env:=by rfl)(hline:(apos.endLine==cpos.line)=true:=by rfl):PE X (.Call (.Attribute o name apos) [] [] cpos) (GH X.K T r to):=by
 intro pins s σ H Q I h
 refine wpAny_Call_method0_late hbase hline (thn (ho pins s σ H _ I h) λv s1 ⟨x,H1,I1,r1,ty,q1⟩=> ?_)
 obtain⟨h1,h2⟩:=vt I1 r1 ty
 exact⟨T,id,pa,slot,hty,h1,h2,Calls.callWith_builtin rfl (PySem.evalArgs_none (hm pins s1 σ H1 x [] v [] Q I1 r1 .nil q1))⟩
theorem BW(pa:PlainAttrs T)(slot:Slot T name id)(hty:typeOf (.builtin id)=pure (.type "method_descriptor"))(hm:MtR X id r)(ho:PE X o to)(ha:PA X (e::es) t)
  (hbase:attributeBase o name X.env (eval o X.env)=eval o X.env:=by rfl)
  (hfew:((backTo cpos (starEach (e::es) X.env)).all (λx=> !x.1)&&(backToKw cpos (keywordEach [] X.env)).all (λx=>x.1.isSome)
   &&decide ((e::es).length+([]:List Keyword).length+(if([]:List Keyword).isEmpty then 0 else 1)<30))=true:=by rfl)
  (hline:(apos.endLine==cpos.line)=true:=by rfl)(hs:starEach (e::es) X.env=(false,eval e X.env)::starEach es X.env:=by rfl)(hplain:(backTo cpos (starEach es X.env)).any (·.1)=false:=by rfl):
  PE X (.Call (.Attribute o name apos) (e::es) [] cpos) (tBM X.K T r to t):=by
 intro pins s σ H Q I h
 refine wpAny_Call_method_late hbase hfew hline rfl (thn (ho pins s σ H _ I h) λv s1 ⟨x,H1,I1,r1,ty,q1⟩=> ?_)
 obtain⟨h1,h2⟩:=vt I1 r1 ty
 refine⟨T,id,pa,slot,hty,h1,h2, ?_⟩
 have hA:=ha cpos pins s1 σ H1 _ I1 q1
 rw[hs] at hA⊢
 refine Calls.callWith_builtin (by show(false||(backTo cpos (starEach es X.env)).any (·.1))=false;rw[hplain]<;>rfl) (Calls.evalArgs_plain ?_)
 exact thn hA λus s2 ⟨vs,H2,I2,r2,q2⟩=>hm pins s2 σ H2 x vs v us Q I2 r1 r2 q2
end
noncomputable def MtM(X:Cx)(id:String)(r:V→List V→Hp→VK→Prop):Prop:=
 ∀(pins:List (Addr×Obj)) (s:Shared) (σ:St) (H:Hp) (x:V) (xs:List V) (v:Value) (us:List Value) (Q:VK),Inv X pins σ H s→RelV x v→Vals xs us→r x xs H Q→
  wpAny (model X.prog X.w) X.A (call (.builtin id) (v::us)) (EP X pins σ Q) X.xe s
theorem Vals.one:∀{x:V} {us:List Value},Vals [x] us→∃u,us=[u]∧RelV x u
 |_,_,.cons r .nil=> ⟨_,rfl,r⟩
theorem Vals.zero:∀{us:List Value},Vals [] us→us=[]
 |_,.nil=>rfl
theorem Vals.dropLast{xs:List V}{us:List Value}(h:Vals xs us):Vals xs.dropLast us.dropLast:=by
 induction h with
 |nil=>exact .nil
 |cons r t ih=>
  cases t with
  |nil=>exact .nil
  |cons q t' =>exact .cons r ih
theorem Vals.rep{xs:List V}{us:List Value}(h:Vals xs us):∀k:Nat,Vals (List.replicate k xs).flatten (List.replicate k us).flatten
 |0=> .nil
 |k+1=>by
  rw[List.replicate_succ,List.replicate_succ,List.flatten_cons,List.flatten_cons]
  exact Vals.append h (Vals.rep h k)
theorem r6{α:Type}(l:List α):l.eraseIdx (l.length -1)=l.dropLast:=by
 induction l with
 |nil=>rfl
 |cons a r ih=>
  cases r with
  |nil=>rfl
  |cons b r=>
   have e:(a::b::r).length -1=((b::r).length -1)+1:=by
    have h1:(a::b::r).length=r.length+2:=rfl
    have h2:(b::r).length=r.length+1:=rfl
    omega
   rw[e,List.eraseIdx_cons_succ,ih]
   all_goals rfl
section
variable{X:Cx}{pins:List (Addr×Obj)}{σ:St}{H:Hp}{s:Shared}{l b:Addr}{xs ys zs:List V}
theorem Inv.AM{its its' :List Value}{n:Nat}{f:Array Value→Array Value}{t' :Nat}(I:Inv X pins σ H s)(hH:H l=some (.lst xs))
  (e:s.heap.get? l=some {cls:= .type "list",data:= .seq its.toArray n})(hf:f its.toArray=its'.toArray)(hv:Vals ys its')(hz:ys.length≤sizeLine):
  Inv X pins σ (upd H l (.lst ys)) {s with heap:=s.heap.update l (Obj.mapSeq f),toks:=t' }:=by
 have q:=PySem.IsL.update e f
 rw[hf] at q
 refine I.write (x:=l) (e:=l) (by rw[hH];exact trivial) (.inl rfl) (λb' u hb hu=>(GbB s.heap (Obj.mapSeq f) (Gbl hb)).trans hu) ⟨_,q⟩ ?_
 exact⟨hz,its',_,hv,q⟩
theorem Inv.GI{its:List Value}{t' :Nat}(I:Inv X pins σ H s)(hv:Vals ys its)(hz:ys.length≤sizeLine):
  Inv X pins σ (upd H s.heap.objs.size (.lst ys)) {s with heap:=s.heap.push {cls:= .type "list",data:= .seq its.toArray},toks:=t' }:=
 I.laid (λ_ _ q=>Gad _ q) (Gaq _) ⟨hz,its,0,hv,Gaw _ rfl⟩
theorem Inv.fresh(I:Inv X pins σ H s):H s.heap.objs.size=none:=I.hok.fresh (Gaq _)
theorem Inv.AN(I:Inv X pins σ H s)(hH:H l=some (.lst xs)):xs.length≤sizeLine∧∃(its:List Value) (n:Nat),Vals xs its∧xs.length=its.length∧s.heap.get? l=some {cls:= .type "list",data:= .seq its.toArray n}:=by
 obtain⟨z,its,n,r,e⟩:=I.hok l _ hH
 exact⟨z,its,n,r,r.length,e⟩
end
section
variable{X:Cx}
noncomputable def AO:V→List V→Hp→VK→Prop:=λx vs H Q=>∃l xs y,x= .ref l∧vs=[y]∧H l=some (.lst xs)∧xs.length<sizeLine∧Q .non (upd H l (.lst (xs++[y])))
theorem nr:MtM X "list.append" AO:=by
 intro pins s σ H x vs v us Q I rx rv h
 obtain⟨l,xs,y,rfl,rfl,hH,hz,q⟩:=h
 cases rx
 obtain⟨u,rfl,ru⟩:=rv.one
 obtain⟨z,its,n,r,hl,e⟩:=I.AN hH
 refine call_meets F.slot_list_append ⟨_,e,rfl⟩ F.entry_list_append (F.args_list_append_2 _ _) (PySem.list_append l its.toArray n u (by rw[Gas];omega)) ⟨e, ?_⟩
 refine⟨.non,_,I.AM (its' :=its++[u]) hH e (by simp) (r.append (.cons ru .nil)) ?_,rfl,q⟩
 rw[GaR,GcM]
 omega
noncomputable def GJ:V→List V→Hp→VK→Prop:=λx vs H Q=>∃l xs y,x= .ref l∧vs=[]∧H l=some (.lst xs)∧xs[xs.length -1]? =some y∧Q y (upd H l (.lst xs.dropLast))
theorem CM:MtM X "list.pop" GJ:=by
 intro pins s σ H x vs v us Q I rx rv h
 obtain⟨l,xs,y,rfl,rfl,hH,hy,q⟩:=h
 cases rx
 have hus:=rv.zero
 subst hus
 obtain⟨z,its,n,r,hl,e⟩:=I.AN hH
 obtain⟨u,hu,ru⟩:=r.get hy
 have hy' :its.toArray[its.toArray.size -1]? =some u:=by
  show its.toArray[its.length -1]? =some u
  rw[←GaP,←hl]
  exact hu
 refine call_meets F.slot_list_pop ⟨_,e,rfl⟩ F.entry_list_pop (F.args_list_pop_1 _) (MeetsSeq.list_pop_last l its.toArray n u hy' (by rw[Gas];omega)) ⟨e, ?_⟩
 refine⟨y,_,I.AM (its' :=its.dropLast) hH e ?_ r.dropLast ?_,ru,q⟩
 ·show its.toArray.eraseIdxIfInBounds (its.toArray.size -1)=its.dropLast.toArray
  rw[Gas,List.eraseIdxIfInBounds_toArray,r6]
 ·rw[List.length_dropLast]
  omega
noncomputable def CN:V→List V→Hp→VK→Prop:=λx vs H Q=>∃l xs,x= .ref l∧vs=[]∧H l=some (.lst xs)∧Q .non (upd H l (.lst []))
theorem vz:MtM X "list.clear" CN:=by
 intro pins s σ H x vs v us Q I rx rv h
 obtain⟨l,xs,rfl,rfl,hH,q⟩:=h
 cases rx
 have hus:=rv.zero
 subst hus
 obtain⟨z,its,n,r,hl,e⟩:=I.AN hH
 refine call_meets F.slot_list_clear ⟨_,e,rfl⟩ F.entry_list_clear (F.args_list_clear_1 _) (AutoSeq1.list_clear_list_0 l its.toArray n (by rw[Gas];omega)) ⟨e, ?_⟩
 exact⟨.non,_,I.AM (its' :=[]) (ys:=[]) hH e rfl .nil (GaT _),rfl,q⟩
end
section
variable{κ:Type} [DecidableEq κ]
noncomputable def i9(kvs:List (κ×V))(k:κ):Option V:=(kvs.find? λkv=>decide (kv.1=k)).map (·.2)
noncomputable def putK(kvs:List (κ×V))(k:κ)(v:V):List (κ×V):=
 if(kvs.any λkv=>decide (kv.1=k))=true then kvs.map (λkv=>if kv.1=k then(kv.1,v) else kv) else kvs++[(k,v)]
noncomputable def He(kvs:List (κ×V))(k:κ):List (κ×V):=kvs.filter λkv=>decide (kv.1≠k)
theorem iX{p:κ×V}{r:List (κ×V)}{k:κ}(e:p.1=k):i9 (p::r) k=some p.2:=by simp[i9,Gbq,e]
theorem gu{p:κ×V}{r:List (κ×V)}{k:κ}(e:¬p.1=k):i9 (p::r) k=i9 r k:=by simp[i9,Gbq,e]
theorem pD(k:κ):∀kvs:List (κ×V),(kvs.any λkv=>decide (kv.1=k))=(i9 kvs k).isSome
 |[]=>rfl
 |p::r=>by
  rw[Gcx]
  by_cases e:p.1=k
  ·simp only[iX e,GaB e,Bool.true_or,Option.isSome_some]
  ·rw[gu e,GaD e,GdO];exact pD k r
theorem kf(kvs:List (κ×V))(k:κ)(v:V):(putK kvs k v).length≤kvs.length+1:=by
 unfold putK
 split
 ·rw[Gan];omega
 ·rw[GaR,GbC,List.length_nil];omega
theorem lj.jC{o:Option V}{u:Option Value}(r:lj o u):o.isSome=u.isSome:=by
 cases o with
 |none=>cases u with
  |none=>rfl
  |some _=>exact(show False from r).elim
 |some _=>cases u with
  |none=>exact(show False from r).elim
  |some _=>rfl
theorem KV.val{kvs:List (κ×V)}{vs:List (κ×Value)}(r:KV kvs vs)(k:κ):lj (i9 kvs k) (valueAt vs k):=by
 unfold KV at r
 induction r with
 |nil=>exact True.intro
 | @cons p q ps qs h t ih=>
  obtain⟨h1,h2⟩:=h
  by_cases e:p.1=k
  ·have e' :q.1=k:=h1.symm.trans e
   have b:valueAt (q::qs) k=some q.2:=by simp[valueAt,Gbq,e']
   rw[iX e,b];exact h2
  ·have e' :¬q.1=k:=λz=>e (h1.trans z)
   have b:valueAt (q::qs) k=valueAt qs k:=by simp[valueAt,Gbq,e']
   rw[gu e,b];exact ih
theorem KV.any{kvs:List (κ×V)}{vs:List (κ×Value)}(r:KV kvs vs)(k:κ):(kvs.any λkv=>decide (kv.1=k))=vs.any λkv=>decide (kv.1=k):=by
 unfold KV at r
 induction r with
 |nil=>rfl
 |cons h t ih=>rw[Gcx,Gcx,ih,h.1]
theorem KV.CO{kvs:List (κ×V)}{vs:List (κ×Value)}(r:KV kvs vs)(k:κ){y:V}{u:Value}(ry:RelV y u):
  KV (kvs.map λkv=>if kv.1=k then(kv.1,y) else kv) (vs.map λkv=>if kv.1=k then(kv.1,u) else kv):=by
 unfold KV at r⊢
 induction r with
 |nil=>exact .nil
 | @cons p q ps qs h t ih=>
  rw[GaH,GaH]
  refine .cons ?_ ih
  obtain⟨h1,h2⟩:=h
  by_cases e:p.1=k
  ·rw[Gag e,Gag (h1.symm.trans e)];exact⟨h1,ry⟩
  ·rw[Gaf e,Gaf (λz=>e (h1.trans z))];exact⟨h1,h2⟩
theorem KV.put{kvs:List (κ×V)}{vs:List (κ×Value)}(r:KV kvs vs)(k:κ){y:V}{u:Value}(ry:RelV y u):KV (putK kvs k y) (stored vs k u):=by
 unfold putK stored
 rw[r.any k]
 by_cases e:(vs.any λkv=>decide (kv.1=k))=true
 ·rw[Gag e,Gag e];exact r.CO k ry
 ·rw[Gaf e,Gaf e];exact Paired.snoc r ⟨rfl,ry⟩
theorem KV.length{kvs:List (κ×V)}{vs:List (κ×Value)}(r:KV kvs vs):kvs.length=vs.length:=Paired.length r
end
theorem sF{P:Program}{w:World}{k:Key}{u:Value}(r:RelV (kV k) u):(bq P w).is k u=true:=by
 cases k with
 |inl i=>obtain⟨t,e⟩:=(show∃t,u=Value.int i t from r);subst e;exact kb P w i t
 |inr x=>obtain⟨t,e⟩:=(show∃t,u=Value.str x t from r);subst e;exact kc P w x t
theorem nu{P:Program}{w:World}:∀{ks:List Key} {us:List Value},Vals (ks.map kV) us→ItemsAre (bq P w) ks us
 |[],_,r=>by rw[List.map_nil] at r;cases r;exact .nil
 |k::ks,_,r=>by
  rw[GaH] at r
  cases r with
  |cons h t=>exact .cons (sF h) (nu t)
noncomputable abbrev KT (H:Hp):List (List Key×V)→List (List Key×Addr×Value)→Prop:=Paired λp q=>p.1=q.1∧H q.2.1=some (.tup (p.1.map kV))∧RelV p.2 q.2.2
theorem KT.val{H:Hp}{kvs:List (List Key×V)}{xs:List (List Key×Addr×Value)}(r:KT H kvs xs)(k:List Key):lj (i9 kvs k) ((atKey xs k).map (·.2)):=by
 induction r with
 |nil=>exact True.intro
 | @cons p q ps qs h t ih=>
  obtain⟨h1,_,h2⟩:=h
  by_cases e:p.1=k
  ·have e' :q.1=k:=h1.symm.trans e
   have b:atKey (q::qs) k=some q.2:=by simp[atKey,Gbq,e']
   rw[iX e,b];exact h2
  ·have e' :¬q.1=k:=λz=>e (h1.trans z)
   have b:atKey (q::qs) k=atKey qs k:=by simp[atKey,Gbq,e']
   rw[gu e,b];exact ih
theorem KT.CO{H:Hp}{kvs:List (List Key×V)}{xs:List (List Key×Addr×Value)}(r:KT H kvs xs)(k:List Key){y:V}{u:Value}(ry:RelV y u):
  KT H (kvs.map λkv=>if kv.1=k then(kv.1,y) else kv) (xs.map (putAt k u)):=by
 induction r with
 |nil=>exact .nil
 | @cons p q ps qs h t ih=>
  rw[GaH,GaH]
  refine .cons ?_ ih
  obtain⟨h1,h2,h3⟩:=h
  unfold putAt
  by_cases e:p.1=k
  ·rw[Gag e,Gag (h1.symm.trans e)];exact⟨h1,h2,ry⟩
  ·rw[Gaf e,Gaf (λz=>e (h1.trans z))];exact⟨h1,h2,h3⟩
theorem KT.put{H:Hp}{kvs:List (List Key×V)}{xs:List (List Key×Addr×Value)}(r:KT H kvs xs)(k:List Key){b:Addr}{y:V}{u:Value}(hb:H b=some (.tup (k.map kV)))(ry:RelV y u):
  KT H (putK kvs k y) (storedH xs k b u):=by
 have e:(kvs.any λkv=>decide (kv.1=k))=(atKey xs k).isSome:=by
  rw[pD,(r.val k).jC,Option.isSome_map]
 unfold putK storedH
 rw[e]
 by_cases q:(atKey xs k).isSome=true
 ·rw[Gag q,Gag q];exact r.CO k ry
 ·rw[Gaf q,Gaf q];exact Paired.snoc r ⟨rfl,hb,ry⟩
theorem KT.keeps{H H' :Hp}{kvs:List (List Key×V)}{xs:List (List Key×Addr×Value)}(r:KT H kvs xs)(ht:∀b ys,H b=some (.tup ys)→H' b=some (.tup ys)):KT H' kvs xs:=
 Paired.Ce r λ_ _ z=> ⟨z.1,ht _ _ z.2.1,z.2.2⟩
section
variable{P:Program}{w:World}{H:Hp}{h:Heap}{a:Addr}
theorem BX{u:HO}(ok:HOk P w H h)(e:Rd H a u):br P w H h a u:=e.ok ok
theorem nv{kvs:List (Key×V)}(ok:HOk P w H h)(e:Rd H a (.dK kvs)):kvs.length≤sizeLine∧(a==sysModules)=false∧∃vs,KV kvs vs∧h.DictOf (bq P w) a vs:=
 show br P w H h a (.dK kvs) from BX ok e
theorem ES{kvs:List (Key×V)}(ok:HOk P w H h)(e:H a=some (.dK kvs)):kvs.length≤sizeLine∧(a==sysModules)=false∧∃vs,KV kvs vs∧h.DictOf (bq P w) a vs:=nv ok (.inl e)
theorem jD{ks:List Key}(ok:HOk P w H h)(e:H a=some (.tup (ks.map kV))):(tupleKind (bq P w)).is h ks a:=by
 obtain⟨_,its,r,o,h1,h2,n,h3⟩:=(show br P w H h a (.tup (ks.map kV)) from ok a _ e)
 exact⟨o,its.toArray,n,h1,h2,h3,by simpa using nu r⟩
theorem pE{kvs:List (List Key×V)}(ok:HOk P w H h)(e:Rd H a (.dT kvs)):kvs.length≤sizeLine∧(a==sysModules)=false∧
  ∃xs,KT H kvs xs∧h.DictOfH (tupleKind (bq P w)) a xs:=by
 obtain⟨z,y,xs,r,o,es,ep,h1,h2,h3,h4,h5⟩:=(show br P w H h a (.dT kvs) from BX ok e)
 refine⟨z,y,xs,r,o,es,ep,h1,h2,h3,h4,λx hx=> ?_,h5⟩
 have all:∀{l:List (List Key×V)} {m:List (List Key×Addr×Value)},KT H l m→∀x∈m,(tupleKind (bq P w)).is h x.1 x.2.1:=by
  intro l m q
  induction q with
  |nil=>intro x hx;exact nomatch hx
  | @cons p q ps qs hq t ih=>
   intro x hx
   rcases Gar.mp hx with e|hx
   ·subst e
    exact jD ok (by rw[←hq.1];exact hq.2.1)
   ·exact ih x hx
 exact all r x hx
theorem vA{kvs:List (List Key×V)}(ok:HOk P w H h)(e:H a=some (.dT kvs)):kvs.length≤sizeLine∧(a==sysModules)=false∧
  ∃xs,KT H kvs xs∧h.DictOfH (tupleKind (bq P w)) a xs:=pE ok (.inl e)
end
noncomputable def r9(H:Hp)(a:Addr)(y:V)(r:Option V):Prop:=
 (∃kvs k,Rd H a (.dK kvs)∧y=kV k∧r=i9 kvs k)∨∃kvs k b,Rd H a (.dT kvs)∧y= .ref b∧H b=some (.tup (k.map kV))∧r=i9 kvs k
noncomputable def pF(H:Hp)(a:Addr)(y v:V)(H' :Hp):Prop:=
 (∃kvs k,H a=some (.dK kvs)∧y=kV k∧kvs.length<sizeLine∧H' =upd H a (.dK (putK kvs k v)))∨
 ∃kvs k b,H a=some (.dT kvs)∧y= .ref b∧H b=some (.tup (k.map kV))∧kvs.length<sizeLine∧H' =upd H a (.dT (putK kvs k v))
theorem pF.k{H:Hp}{a:Addr}{kvs:List (Key×V)}{k:Key}{v:V}(e:H a=some (.dK kvs))(hl:kvs.length<sizeLine):pF H a (kV k) v (upd H a (.dK (putK kvs k v))):= .inl ⟨kvs,k,e,rfl,hl,rfl⟩
theorem pF.t{H:Hp}{a b:Addr}{kvs:List (List Key×V)}{k:List Key}{v:V}(e:H a=some (.dT kvs))(eb:H b=some (.tup (k.map kV)))(hl:kvs.length<sizeLine):
  pF H a (.ref b) v (upd H a (.dT (putK kvs k v))):= .inr ⟨kvs,k,b,e,rfl,eb,hl,rfl⟩
section
variable{X:Cx}{pins:List (Addr×Obj)}{σ:St}{H:Hp}{s:Shared}{a:Addr}{y v:V}{u r:Value}{o:Option V}{A:Around}{E:Value→Shared→Prop}
theorem Inv.big(I:Inv X pins σ H s):sysModules<s.heap.objs.size:=by
 have h:mainGlobals<s.heap.objs.size:=(I.mod.glob.keeps I.bk).lt
 exact Gdk (by decide) h
theorem uf{Q:Value→Shared→Prop}(hu:A.units+1<cLine)(I:Inv X pins σ H s)(g:r9 H a y (some v))(ry:RelV y u)(h:∀w' s',Inv X pins σ H s' →RelV v w' →Q w' s'):
  wpAny (model X.prog X.w) A (getItem (.ref a) u) Q E s:=by
 rcases g with⟨kvs,k,e,ey,l⟩| ⟨kvs,k,b,e,ey,eb,l⟩
 ·subst ey
  obtain⟨z,hd,vs,rel,dd⟩:=nv I.hok e
  obtain⟨w',hw,rw'⟩:=lj.some_of (v:=v) (o:=valueAt vs k) (by rw[l];exact rel.val k)
  exact wpAny_getItem_of (sF ry) dd.mapOf hw (h w' _ (I.tok _) rw')
 ·subst ey
  cases(show u=Value.ref b from ry)
  obtain⟨z,hd,xs,rel,dd⟩:=pE I.hok e
  obtain⟨w',hw,rw'⟩:=lj.some_of (v:=v) (o:=(atKey xs k).map (·.2)) (by rw[l];exact rel.val k)
  obtain⟨p,hp,hp2⟩:=Gah.mp hw
  refine wpAny_getItem_heap (tupleKind_room_in1 hu) (jD I.hok eb) dd hp ?_
  rw[hp2]
  exact h w' _ (I.tok _) rw'
theorem AQ{Q:Value→Shared→Prop}(hu:A.units+1<cLine)(I:Inv X pins σ H s)(g:r9 H a y o)(ry:RelV y u)(h:∀s',Inv X pins σ H s' →Q (.bool (!o.isSome)) s'):
  wpAny (model X.prog X.w) A (compareOp .NotIn u (.ref a)) Q E s:=by
 rcases g with⟨kvs,k,e,ey,l⟩| ⟨kvs,k,b,e,ey,eb,l⟩
 ·subst ey
  obtain⟨z,hd,vs,rel,dd⟩:=nv I.hok e
  refine wpAny_notIn_of (sF ry) hd dd.mapOf ?_
  rw[←(rel.val k).jC,←l]
  exact h _ (I.tok _)
 ·subst ey
  cases(show u=Value.ref b from ry)
  obtain⟨z,hd,xs,rel,dd⟩:=pE I.hok e
  refine wpAny_notIn_heap (tupleKind_room_in1 hu) (jD I.hok eb) hd dd ?_
  have q:=(rel.val k).jC
  rw[Option.isSome_map] at q
  rw[←q,←l]
  exact h _ (I.tok _)
theorem sG{h' :Heap}{t' :Nat}{ob:HO}(I:Inv X pins σ H s)(mu:Mut (H a))(hs:Heap.SameBut a s.heap h')(he:∃q,h'.get? a=some q)(new:br X.prog X.w (upd H a ob) h' a ob):
  Inv X pins σ (upd H a ob) {s with heap:=h',toks:=t' }:=
 I.write (x:=a) (e:=a) mu (.inl rfl) (λb q hb z=>(hs.2 b hb).trans z) he new
theorem CP{P:Program}{w:World}{H' :Hp}{h' :Heap}{kvs:List (Key×V)}{vs:List (Key×Value)}(z:kvs.length≤sizeLine)(hd:(a==sysModules)=false)(rel:KV kvs vs)(dd:h'.DictOf (bq P w) a vs):
  br P w H' h' a (.dK kvs):=⟨z,hd,vs,rel,dd⟩
theorem ug{H' :Hp}{Q:Unit→Shared→Prop}(hu:A.units+1<cLine)(I:Inv X pins σ H s)(g:pF H a y v H')(ry:RelV y u)(rv:RelV v r)(h:∀s',Inv X pins σ H' s' →Q () s'):
  wpAny (model X.prog X.w) A (setItem (.ref a) u r) Q E s:=by
 rcases g with⟨kvs,k,e,ey,l,eH⟩| ⟨kvs,k,b,e,ey,eb,l,eH⟩
 ·subst ey eH
  obtain⟨z,hd,vs,rel,dd⟩:=ES I.hok e
  have hz:vs.length≤sizeLine:=by rw[←rel.length];exact z
  have hl:(putK kvs k v).length≤sizeLine:=by have:=kf kvs k v;omega
  refine wpAny_setItem_pairs (hsz:=hz) (sF ry) dd λh' dd' hs=>h _ ?_
  have he:∃q,h'.get? a=some q:=let⟨q,_,_,hq,_⟩:=dd';⟨q,hq⟩
  exact sG I (by rw[e];exact True.intro) hs he (CP hl hd (rel.put k rv) dd')
 ·subst ey eH
  cases(show u=Value.ref b from ry)
  obtain⟨z,hd,xs,rel,dd⟩:=vA I.hok e
  have hz:xs.length≤sizeLine:=by rw[←Paired.length rel];exact z
  have hl:(putK kvs k v).length≤sizeLine:=by have:=kf kvs k v;omega
  refine wpAny_setItem_heap (hsz:=hz) (tupleKind_room_in1 hu) (jD I.hok eb) dd λh' dd' hs=>h _ ?_
  obtain⟨q,es,ep,hq,h2,h3,h4,_,h5⟩:=dd'
  refine sG I (by rw[e];exact True.intro) hs ⟨q,hq⟩ ⟨hl,hd,_,(rel.put k eb rv).keeps λc ys ec=> ?_,q,es,ep,hq,h2,h3,h4,h5⟩
  rw[ay (El ec e (λz=>nomatch z))]
  exact ec
end
section
variable{X:Cx}{pins:List (Addr×Obj)}{σ:St}{H:Hp}{s:Shared}{a:Addr}{kvs:List (Key×V)}{k:Key}{u:Value}{A:Around}{E:Value→Shared→Prop}
theorem ET{Q:Value→Shared→Prop}(I:Inv X pins σ H s)(e:Rd H a (.dK kvs))(h:∀t s',Inv X pins σ H s' →Q (.int kvs.length t) s'):wpAny (model X.prog X.w) A (call (.builtin "len") [.ref a]) Q E s:=by
 obtain⟨z,hd,vs,rel,dd⟩:=nv I.hok e
 refine call_len_dict hd dd (by rw[←rel.length];rw[Gbw] at z;omega) ?_
 rw[←rel.length]
 exact h _ _ (I.tok _)
end
theorem pG{X:Cx}{pins:List (Addr×Obj)}{σ:St}{H:Hp}{s:Shared}{a:Addr}{y:V}{o:Option V}(I:Inv X pins σ H s)(g:r9 H a y o):s.TypeIs (.ref a) "dict":=by
 rcases g with⟨kvs,k,e,_,_⟩| ⟨kvs,k,b,e,_,_,_⟩
 ·obtain⟨_,_,vs,_,dd⟩:=nv I.hok e
  exact dd.typeIs
 ·obtain⟨_,_,xs,_,dd⟩:=pE I.hok e
  exact dd.typeIs
theorem vB{P:Program}{w:World}{H:Hp}(h:Heap)(hb:sysModules<h.objs.size):br P w H (h.push {cls:= .type "dict",data:= .dict #[]}) h.objs.size (.dT []):=
 ⟨GaT _,GdI.mpr (Gbl (GaC hb)),[],.nil,_,#[],0,Gaw _ rfl,⟨rfl,rfl,rfl⟩,rfl,rfl,GcN⟩
noncomputable def CQ:TE:=λ_ H Q=>∀p,H p=none→Q (.ref p) (upd H p (.dT []))
section
variable{X:Cx}{pos:Pos}
theorem vC:PE X (.Dict [] [] pos) CQ:=λpins s σ H Q I h=>
 wpAny_Dict_empty ⟨.ref s.heap.objs.size,_,I.laid (a:=s.heap.objs.size) (o:= .dT []) (t' :=s.toks) (λ_ _ q=>Gad _ q) (Gaq _) (vB s.heap I.big),rfl,h _ (I.hok.fresh (Gaq _))⟩
end
noncomputable def GK(kvs more:List (Key×V)):List (Key×V):=more.foldl (λacc kv=>putK acc kv.1 kv.2) kvs
noncomputable def IsD(H:Hp)(a:Addr):Prop:=(∃kvs,Rd H a (.dK kvs))∨∃kvs,Rd H a (.dT kvs)
theorem CS{X:Cx}{pins:List (Addr×Obj)}{σ:St}{H:Hp}{s:Shared}{a:Addr}(I:Inv X pins σ H s)(d:IsD H a):
  s.TypeIs (.ref a) "dict"∧(∀b,Value.ref a= .ref b→∃ob,s.heap.get? b=some ob∧ob.dict=none)∧(a==sysModules)=false:=by
 rcases d with⟨kvs,e⟩| ⟨kvs,e⟩
 ·obtain⟨_,hd,vs,_,dd⟩:=nv I.hok e
  refine⟨dd.typeIs,λb q=> ?_,hd⟩
  cases q
  obtain⟨ob,_,_,h1,h2,_⟩:=dd
  exact⟨ob,h1,h2.2.1⟩
 ·obtain⟨_,hd,xs,_,dd⟩:=pE I.hok e
  refine⟨dd.typeIs,λb q=> ?_,hd⟩
  cases q
  obtain⟨ob,_,_,h1,h2,_⟩:=dd
  exact⟨ob,h1,h2.2.1⟩
end L2
namespace Att
open PySem PySem.W PySem.Calls PyProof.Rows
theorem kH{P:Params}{h:Heap}:∀(ns:List Int) (vs:List Value),WellAll P h vs (ns.map WData.int)→IntsAre vs ns:=by
 intro ns
 induction ns with
 |nil=>
  intro vs w
  rw[List.map_nil] at w
  cases w
  exact .nil
 |cons n ns ih=>
  intro vs w
  rw[GaH] at w
  cases w with
  |cons a b=>
   cases a
   exact .cons _ _ (ih _ b)
theorem uh{l:OpenLaw}{n:Nat}(hn:l.most=some n){P:Params}{h:Heap}{args:List WData}{vals:List Value}
  (hpre:l.row.toRowW.claim.pre args=true)(hwl:WellAll P h vals args):
  ∃a vs ns,vals=[Value.ref a]∧args=[WData.list (ns.map WData.int)]∧h.get? a=some {cls:= .type "list",data:= .seq vs.toArray}∧IntsAre vs ns∧ns.length≤n:=by
 have hsh:WShape.hasAll [] args [.list .int]=true:=(pre_splitW hpre).1
 have hc:l.pre.holds [] {args:=args}=true:=(pre_splitW hpre).2
 obtain⟨d,r,rfl,h1,h2⟩:=hasAllW_cons hsh
 obtain rfl:=hasAllW_nil h2
 obtain⟨xs,rfl,h3⟩:=hasW_list h1
 obtain⟨ns,rfl⟩:=items_int h3
 have hlen:ns.length≤n:=by
  unfold OpenLaw.pre at hc
  have h4:(WTm.not (.lt (.lit (.int (n:Int))) (.len (.arg 0)))).holds [] {args:=[.list (ns.map .int)]}=true:=by
   have h4:=(holds_andW hc).1
   rw[hn] at h4
   exact h4
  have h5:=condW_of h4 (w_not (w_lt w_lit (w_len_list (w_arg rfl))))
  rw[Gan] at h5
  refine Nat.le_of_not_lt λq=> ?_
  have q' :(n:Int)<((ns.length:Nat):Int):=by omega
  first
   |(rw[GaB q'] at h5;exact absurd h5 (by decide))
   |(simp at h5;omega)
 cases hwl with
 |cons w1 w2=>
  cases w2
  cases w1 with
  |list ho hall=>exact⟨_,_,ns,rfl,rfl,ho,kH ns _ hall,hlen⟩
theorem ui(l:OpenLaw)(args:List WData):l.row.toRowW.claim.post args (.bool true) args=true:=
 postW_of (r:=l.row.toRowW) (X:=(true==true))
  (show WShape.has [] (.bool true) .bool=true by first|rfl|decide|simp[WShape.has,WShape.arms,WShape.armsAll])
  (show(WTm.eq .res (.lit (.bool true))).value [] {args:=args,res:=some (.bool true),after:=args}=some (.bool (true==true)) from w_eq_bool (w_res rfl) w_lit) rfl
theorem pH{l:OpenLaw}{n:Nat}{q:Program}{loose:List Str}{XP:(Str→Option Value)→Heap→Prop}{YP:World→Heap→Prop}{d:DefRec}
  (hn:l.most=some n)(hdf:d.params.defaults=[])
  (call:∀(w:World) (s₀ s₁:Shared) (mg mb:Str→Option Value) (fa:Addr) (o:Obj) (pm cd doc:Value) (a:Addr) (vs:List Value) (ns:List Int),
   Ground q loose [] XP w s₀ mg mb s₁.heap→YP w s₁.heap→
   s₁.heap.get? fa=some o→o.data= .func (docDef d.name d.params d.body d.scope pm cd doc)→s₁.heap.CodeRec cd d.name→mg d.name=some (.ref fa)→
   s₁.heap.get? a=some {cls:= .type "list",data:= .seq vs.toArray}→IntsAre vs ns→ns.length≤n→s₁.gens=#[]→
   codeAny (model l.prog w) callerA (.call (.ref fa) ⟨[.ref a],[]⟩) (λr s' =>r= .ok (.ret (.bool true))∧OldK s₁.heap s'.heap∧s'.os=s₁.os∧AllBare s'.gens) s₁):
  WalkO q loose XP YP l.row.toRowW d [] (λf vs=>PySem.call f vs):=by
 intro w s₀ s₁ mg mb G Y fa o pm cd doc dV kV ho hd hcd hD hmg hg args vals as hpre hlay hrd hwl hlo
 obtain rfl:dV= .none:=Dflts.none hD hdf
 obtain rfl:kV= .none:=Dflts.noKw hD
 obtain⟨a,vs,ns,rfl,rfl,hobj,hints,hlen⟩:=uh hn hpre hwl
 refine enter_call (codeAny_mono (call w s₀ s₁ mg mb fa o pm cd doc a vs ns G Y ho (fd_plain hd) hcd hmg hobj hints hlen hg) λr s' hq=> ?_)
 obtain⟨rfl,h2,h3,h4⟩:=hq
 exact⟨.inl ⟨.bool true,.bool true,[],rfl,λ_=>rfl,.bool true,ui l _,λ_=> ⟨List.Pairwise.nil,λ_ hm=>(nomatch hm)⟩⟩,h2,h3,h4⟩
end Att
namespace L2
open PySem PySem.Spec PyProof.Rows
theorem gS:∀{vs:List Value} {ns:List Int},IntsAre vs ns→Vals (ns.map V.int) vs
 |_,_,.nil=> .nil
 |_,_,.cons n t h=> .cons ⟨t,rfl⟩ (gS h)
noncomputable def AR(H:Hp):Prop:=∀b,H b=none∨∃o xs,H b=some (.frz o (.lst xs))
theorem vD{P:Program}{w:World}{K:PySem.W.Frag}{mg mb:Str→Option Value}{CX:CXT}{k:Nat}{fa a:Addr}{fd:FuncData}{x:Str}{sp:Sp}{s₁:Shared}{vs:List Value}{ns:List Int}
  (KX:K.In s₁.heap)(hns:s₁.heap.Ns mainGlobals mg)(hb:s₁.heap.Ns builtinsNs mb)(hbb:∀x:Str,x≠"__name__"→mb x=bootBuiltins x)(hlim:s₁.heap.NoLimit)(hg:s₁.gens=#[])
  (ha:s₁.heap.get? a=some {cls:= .type "list",data:= .seq vs.toArray})(hi:IntsAre vs ns)(hl:ns.length≤sizeLine)(hr:dR k callerA)
  (F:∀base:Heap,K.In base→base.Ns mainGlobals mg→fj P w K mg base CX k fa fd [x] sp)(hbind:∀(s:Shared) (u:Value),BindsTo s fd ⟨[u],[]⟩ [(x,u)])
  (hsp:∀H:Hp,AR H→SqL K H a (ns.map V.int)→sp [.ref a] H (λv _=>v= .bl true) λ_ _ _=>False)
  (hCX:∀H e s',CX [] H s₁ (λ_ _ _=>False) e s' →False):
  codeAny (model P w) callerA (.call (.ref fa) ⟨[.ref a],[]⟩) (λr s' =>r= .ok (.ret (.bool true))∧OldK s₁.heap s'.heap∧s'.os=s₁.os∧AllBare s'.gens) s₁:=by
 have rv:=gS hi
 have lenV:=hi.length
 have core:∀H:Hp,AR H→SqL K H a (ns.map V.int)→HOk P w H s₁.heap→(∀b,H b≠none→b=a)→(H a≠none→K.lookup a=none)→
   codeAny (model P w) callerA (.call (.ref fa) ⟨[.ref a],[]⟩) (λr s' =>r= .ok (.ret (.bool true))∧OldK s₁.heap s'.heap∧s'.os=s₁.os∧AllBare s'.gens) s₁:=by
  intro H hO hS hok hA hK
  have base_of:∀{b:Addr} {o:Obj},s₁.heap.get? b=some o→H b=none→(oj s₁.heap H).get? b=some o:=λe n=>vj e n
  have noA:∀{b:Addr} {o:Obj} {es:Array DictEntry} {ep:Nat},s₁.heap.get? b=some o→o.data= .dict es ep→H b=none:=λ{b o es ep} e d=>by
   cases q:H b with
   |none=>rfl
   |some u=>
    have e' :b=a:=hA b (by rw[q];simp)
    subst e'
    rw[ha] at e;cases e
    have d' :Data.seq vs.toArray _=Data.dict es ep:=d
    cases d'
  have nsK:∀{b:Addr} {m:Str→Option Value},s₁.heap.Ns b m→(oj s₁.heap H).Ns b m:=λ{b m} ⟨o,es,ep,e,d,r⟩=> ⟨o,es,ep,base_of e (noA e d),d,r⟩
  have hKb:K.In (oj s₁.heap H):=λb o e=>base_of (KX b o e) (by
   cases q:H b with
   |none=>rfl
   |some u=>
    have e' :b=a:=hA b (by rw[q];simp)
    subst e'
    rw[hK (by rw[q];simp)] at e;cases e)
  have hM:Mod K mg (oj s₁.heap H):=⟨hKb,nsK hns,⟨mb,nsK hb,hbb⟩,let⟨mc,h1,h2⟩:=hlim;⟨mc,nsK h1,h2⟩⟩
  have e0:AH P w K mg (oj s₁.heap H) callerA [] s₁ H:=⟨rfl,hM,λb o e=>As e,Nat.le_of_eq (u4 _ _),trivial,λb hb=>absurd (show b∈([]:List Addr) from hb) (by simp),hok,.of_eq hg⟩
  refine codeAny_mono ((F _ hKb (nsK hns)).run callerA [] s₁ H ⟨[.ref a],[]⟩ [.ref a] [.ref a] _ _ hr e0 (hbind s₁ (.ref a)) (.cons rfl .nil) (hsp H hO hS)) λr s' h=> ?_
  cases r with
  |error e=>exact(hCX H e s' h).elim
  |ok fl=>
   cases fl with
   |next=>exact False.elim h
   |brk=>exact False.elim h
   |cont=>exact False.elim h
   |ret u=>
    obtain⟨v,H',os,bare,un,hok',r',q⟩:=h
    have q' :v= .bl true:=q
    subst q'
    obtain rfl:u=Value.bool true:=r'
    refine⟨rfl,OldK.of_keep λb o e=> ?_,os,bare⟩
    cases q:H b with
    |none=>exact un.keep b o e q (by intro z;exact absurd (show b∈([]:List Addr) from z) (by simp)) (by simp)
    |some u=>
     rcases hO b with z| ⟨ob,xs,z⟩
     ·rw[q] at z;cases z
     ·have z2:=un.pz b ob _ z
      obtain⟨e1,_⟩:=hok b _ z
      obtain⟨e2,_⟩:=hok' b _ z2
      rw[e] at e1;cases e1
      exact e2
 cases hk:K.lookup a with
 |some o=>
  have e:=KX a o hk
  rw[ha] at e
  cases e
  refine core (λ_=>none) (λ_=> .inl rfl) (.inr ⟨_,vs.toArray,_,hk,rfl,rfl,rfl,by rw[Gas,lenV];exact hl,by simpa using rv⟩) (λb u z=>by have z' :(none:Option HO)=some u:=z;cases z') (λb z=>absurd rfl z) λz=>absurd rfl z
 |none=>
  refine core (λb=>if b=a then some (.frz {cls:= .type "list",data:= .seq vs.toArray} (.lst (ns.map V.int))) else none) (λb=> ?_) (.inl (.inr ⟨{cls:= .type "list",data:= .seq vs.toArray},Gag rfl⟩)) (λb u z=> ?_) (λb z=> ?_) λ_=>hk
  ·by_cases hb:b=a
   ·exact .inr ⟨_,_,Gag hb⟩
   ·exact .inl (Gaf hb)
  ·by_cases hb:b=a
   ·have z' :=(Gag hb).symm.trans z
    cases z'
    subst hb
    exact⟨ha,by rw[Gan];exact hl,vs,_,rv,ha⟩
   ·have z' :=(Gaf hb).symm.trans z
    cases z'
  ·by_cases hb:b=a
   ·exact hb
   ·exact absurd (Gaf hb) z
theorem AS{l:PySem.W.OpenLaw}{n k:Nat}{q:Program}{loose:List Str}{XP:(Str→Option Value)→Heap→Prop}{YP:World→Heap→Prop}{d:DefRec}{K:Params→PySem.W.Frag}{CX:World→CXT}{sp:World→Sp}{x:Str}
  (hn:l.most=some n)(hn2:n≤sizeLine)(hdf:d.params.defaults=[])(hr:dR k callerA)
  (hY:∀(w:World) (h:Heap),YP w h→(K w.params).In h)
  (F:∀(w:World) (mg:Str→Option Value) (fa:Addr) (h:Heap),(K w.params).In h→h.Ns mainGlobals mg→mg d.name=some (.ref fa)→
   ∃fd:FuncData,(∀(s:Shared) (u:Value),BindsTo s fd ⟨[u],[]⟩ [(x,u)])∧
    ∀base:Heap,(K w.params).In base→base.Ns mainGlobals mg→fj l.prog w (K w.params) mg base (CX w) k fa fd [x] (sp w))
  (hsp:∀(w:World) (H:Hp) (a:Addr) (ns:List Int),ns.length≤n→AR H→SqL (K w.params) H a (ns.map V.int)→sp w [.ref a] H (λv _=>v= .bl true) λ_ _ _=>False)
  (hCX:∀(w:World) (H:Hp) (s:Shared) (e:Value) (s' :Shared),CX w [] H s (λ_ _ _=>False) e s' →False):
  PySem.W.WalkO q loose XP YP l.row.toRowW d [] (λf vs=>PySem.call f vs):=by
 refine Att.pH hn hdf λw s₀ s₁ mg mb fa o pm cd doc a vs ns G Y ho hd hcd hmg hobj hints hlen hg=> ?_
 have KX:=hY w _ Y
 obtain⟨fd,hb,hF⟩:=F w mg fa _ KX G.T.g hmg
 exact vD KX G.T.g G.T.b G.T.builtins G.T.nolimit hg hobj hints (GbJ hlen hn2) hr hF hb (λH hO hS=>hsp w H a ns hlen hO hS) λH e s' =>hCX w H s₁ e s'
noncomputable def gT(s:Stmt):Arguments:=match s with
 | .FunctionDef _ a _ _ _ _ _ _ _ _=>a
 |_=>{posonlyargs:=[],args:=[],vararg:=none,kwonlyargs:=[],kw_defaults:=[],kwarg:=none,defaults:=[]}
noncomputable def dU(s:Stmt):List Stmt:=match s with
 | .FunctionDef _ _ b _ _ _ _ _ _ _=>b
 |_=>[]
noncomputable def aN(s:Stmt):Scope:=match s with
 | .FunctionDef _ _ _ _ _ _ sc _ _ _=>sc
 |_=>{kind:= .function,names:=[],isGenerator:=false,isCoroutine:=false}
noncomputable abbrev CX0:CXT:=λ_ _ _ _ _ _=>False
noncomputable abbrev E0:XK:=λ_ _ _=>False
theorem sI{X:Cx}:Passes CX0 X E0:=λ_ _ _ _ _ _ _ h=>h.elim
structure Fun(K:PySem.W.Frag)(x qual:Str)(st:Stmt)(f:Addr)(fd:FuncData):Prop where
 ex:∃(oc:Value) (od:Option Addr) (kV doc pm:Value) (an:Option Addr) (cdv ct:Value) (osl:Array (Option Value)),
  fd=PySem.W.fnOf x qual (gT st) (dU st) (aN st) .none kV doc pm an cdv ct∧K.lookup f=some ⟨oc,od,.func fd,osl⟩∧PySem.W.codeIn K cdv qual=true
 kp:PySem.W.keepIn K (.ref f)=true
section
variable{P:Program}{w:World}{K:PySem.W.Frag}{mg:Str→Option Value}{base:Heap}
theorem Fun.ok{x qual:Str}{st:Stmt}{f:Addr}{fd:FuncData}{N ps:List Str}{k:Nat}{sp:Sp}(F:Fun K x qual st f fd)(S:bS N ps (aN st))(len:∀vs H Q E,sp vs H Q E→vs.length=ps.length)
  (hbody:∀(cdv:Value) (A:Around) (outer:List Env) (s:Shared) (H:Hp) (vs:List V) (Q:VK) (E:XK),dR k (A.deeper (envOfC qual (aN st) s.heap.objs.size f cdv))→sp vs H Q E→
   ∃t,PSs (qX CX0 P w K mg base N qual (aN st) f cdv A outer s H E).nox (dU st) t∧t {nx:=λ_ H' =>Q .non H',rt:=Q} (start N vs) H):fj P w K mg base CX0 (k+1) f fd ps sp:=by
 obtain⟨oc,od,kV,doc,pm,an,cdv,ct,osl,rfl,lk,hcd⟩:=F.ex
 refine EJ lk hcd S len λA outer s H vs Q E hr hsp=> ?_
 obtain⟨t,h,q⟩:=hbody cdv A outer s H vs Q E hr hsp
 exact⟨t,h.nox,q⟩
theorem CT{x qual:Str}{st:Stmt}{f:Addr}{oc:Value}{od an:Option Addr}{osl:Array (Option Value)}{kV doc pm cdv ct:Value}(l:K.lookup f=some ⟨oc,od,.func (PySem.W.fnOf x qual (gT st) (dU st) (aN st) .none kV doc pm an cdv ct),osl⟩)
  (c:PySem.W.codeIn K cdv qual=true)(k:PySem.W.keepIn K (.ref f)=true):Fun K x qual st f (PySem.W.fnOf x qual (gT st) (dU st) (aN st) .none kV doc pm an cdv ct):=⟨⟨oc,od,kV,doc,pm,an,cdv,ct,osl,rfl,l,c⟩,k⟩
end
theorem lA{A:Around}{k:Nat}(hr:dR k A):A.units+1<cLine:=GdM (Nat.add_le_add_left (by decide:1≤64) _) hr.units
section
variable{X:Cx}
theorem pv(i:Nat){x:Str}{pos:Pos}(hN:X.N[i]? =some x:=by rfl)(hv:Vis X.env.scope x:=by first|exact Or.inl rfl|exact Or.inr (Or.inl rfl)|exact Or.inr (Or.inr rfl))(hd:(x==("__debug__":Str))=false:=by decide)
  (hcd:(x==("__classdict__":Str))=false:=by decide):PE X (.Name x pos) (En i):=iA hN hv hd hcd
end
noncomputable def bC(H H' :Hp):Prop:=∀b o,H b=some o→H' b=some o
theorem bC.trans{H H1 H2:Hp}(a:bC H H1)(b:bC H1 H2):bC H H2:=λc o h=>b c o (a c o h)
theorem bC.free{H H' :Hp}(e:bC H H'){l:Addr}(h:H' l=Option.none):H l=Option.none:=by
 cases q:H l with
 |none=>rfl
 |some o=>
  rw[e l o q] at h
  cases h
end L2
namespace DL
open PySem
noncomputable abbrev Key:=Sum Int Str
inductive D where
 |non
 |bl (b:Bool)
 |int (i:Int)
 |str (x:Str)
 |tup (ds:List D)
 |lst (ds:List D)
 |dK (kvs:List (Key×D))
 |dT (kvs:List (List Key×D))
 |scr (ns:List Int)
 deriving Inhabited
mutual
@[simp] noncomputable def D.imm:D→Bool
 | .non=>true
 | .bl _=>true
 | .int _=>true
 | .str _=>true
 | .tup ds=>bH ds
 | .lst _=>false
 | .dK _=>false
 | .dT _=>false
 | .scr _=>true
@[simp] noncomputable def bH:List D→Bool
 |[]=>true
 |d::ds=>d.imm&&bH ds
end
noncomputable def D.gx:D→Bool
 | .lst ds=>bH ds
 | .dK kvs=>bH (kvs.map (·.2))
 | .dT kvs=>bH (kvs.map (·.2))
 |d=>d.imm
noncomputable def D.top:D→Bool
 | .lst _=>true
 | .dK _=>true
 | .dT _=>true
 |_=>false
noncomputable def ao:Nat:=16777216
inductive Slot where
 |sh (d:D)
 |own (d:D)
 |lok (d:D)
 |bor (d:D)
noncomputable abbrev Env:=List (Option Slot)
inductive Cls where
 |c|tn|to|tb
 deriving DecidableEq
structure RV where
 k:Cls
 d:D
noncomputable abbrev DE:=Env→Option RV
noncomputable abbrev DT:=Env→Option Bool
noncomputable abbrev DA:=Env→Option (List RV)
noncomputable abbrev DG:=D→Env→Option Env
inductive Out where
 |nx (e:Env)
 |ret (d:D)
 |bk (e:Env)
 |ct (e:Env)
noncomputable abbrev DS:=Env→Option Out
noncomputable def gp(d:D):RV:=⟨if d.top then .tn else .c,d⟩
noncomputable def RV.free(r:RV):Bool:=match r.k with
 | .c=>true
 | .tn=>true
 |_=>false
@[simp] noncomputable def vE(i:Nat):DE:=λenv=>match env[i]? with
 |some (some (.sh d))=>some ⟨.c,d⟩
 |some (some (.own d))=>some ⟨.to,d⟩
 |some (some (.lok d))=>some ⟨.tb,d⟩
 |some (some (.bor d))=>some ⟨.tb,d⟩
 |_=>none
@[simp] noncomputable def kE(d:D):DE:=λ_=>some ⟨.c,d⟩
@[simp] noncomputable def opE(o:D→D→Option RV)(f g:DE):DE:=λenv=>(f env).bind λx=>(g env).bind λy=>o x.d y.d
noncomputable def bY:D→D→Option RV
 | .int i,.int j=>some ⟨.c,.int (i+j)⟩
 | .str x,.str y=>if x.length+y.length≤ao then some ⟨.c,.str (x++y)⟩ else none
 | .tup x,.tup y=>if x.length+y.length≤ao∧0<x.length then some ⟨.c,.tup (x++y)⟩ else none
 | .lst x,.lst y=>if x.length+y.length≤ao then some ⟨.tn,.lst (x++y)⟩ else none
 |_,_=>none
noncomputable def vF:D→D→Option RV
 | .int i,.int j=>some ⟨.c,.int (i -j)⟩
 |_,_=>none
noncomputable def dv(i j:Int):Bool:=decide (i.natAbs<18446744073709551616)||decide (j.natAbs<18446744073709551616)
noncomputable def jE:D→D→Option RV
 | .int i,.int j=>if dv i j then some ⟨.c,.int (i*j)⟩ else none
 |_,_=>none
noncomputable def pI:D→D→Option RV
 | .int i,.int j=>if 0<j∧j<1073741824 then some ⟨.c,.int (i/j)⟩ else none
 |_,_=>none
noncomputable def d4:D→D→Option RV
 | .int i,.int j=>if 0<j then some ⟨.c,.int (i%j)⟩ else none
 |_,_=>none
noncomputable def vG:D→D→Option RV
 | .int i,.int j=>if 0≤j∧j≤1000∧i.natAbs<1000000 then some ⟨.c,.int (i^j.toNat)⟩ else none
 |_,_=>none
@[simp] noncomputable def a9:Nat→D→Bool
 |_,.non=>true
 |_,.bl _=>true
 |_,.int _=>true
 |_,.str _=>true
 |n+1,.tup ds=>ds.all (a9 n)
 |n+1,.lst ds=>ds.all (a9 n)
 |_,_=>false
@[simp] noncomputable def D.plain(d:D):Bool:=a9 20 d
mutual
@[simp] noncomputable def eqD:D→D→Bool
 | .non,.non=>true
 | .bl a,.bl b=>a==b
 | .bl a,.int b=>(if a then 1 else 0)==b
 | .int a,.bl b=>a==(if b then 1 else 0)
 | .int a,.int b=>a==b
 | .str a,.str b=>a==b
 | .tup a,.tup b=>fK a b
 | .lst a,.lst b=>fK a b
 |_,_=>false
@[simp] noncomputable def fK:List D→List D→Bool
 |[],[]=>true
 |a::as,b::bs=>eqD a b&&fK as bs
 |_,_=>false
end
noncomputable def eqB(x y:D):Option Bool:=if x.plain&&y.plain then some (eqD x y) else none
noncomputable def neB(x y:D):Option Bool:=if x.plain&&y.plain then some (!eqD x y) else none
noncomputable def dw:D→Bool
 | .non=>true
 |_=>false
noncomputable def vH(x y:D):Option Bool:=if dw y then some (dw x) else none
noncomputable def BY(x y:D):Option Bool:=if dw y then some (!dw x) else none
noncomputable def ltB:D→D→Option Bool
 | .int i,.int j=>some (decide (i<j))
 |_,_=>none
noncomputable def leB:D→D→Option Bool
 | .int i,.int j=>some (decide (i≤j))
 |_,_=>none
noncomputable def gtB:D→D→Option Bool
 | .int i,.int j=>some (decide (j<i))
 |_,_=>none
@[simp] noncomputable def dz(o:D→D→Option Bool)(f g:DE):DT:=λenv=>(f env).bind λx=>(g env).bind λy=>o x.d y.d
@[simp] noncomputable def bE(t:DT):DE:=λenv=>(t env).map λb=> ⟨.c,.bl b⟩
@[simp] noncomputable def iC(f:DE):DT:=λenv=>(f env).bind λx=>match x.d with
 | .bl b=>some b
 |_=>none
@[simp] noncomputable def pJ(t u:DT):DT:=λenv=>(t env).bind λb=>if b then u env else some false
@[simp] noncomputable def orT(t u:DT):DT:=λenv=>(t env).bind λb=>if b then some true else u env
@[simp] noncomputable def ou(t:DT):DT:=λenv=>(t env).map (!·)
noncomputable def atD{α:Type}(xs:List α)(i:Int):Option α:=if 0≤i then xs[i.toNat]? else if -(xs.length:Int)≤i then xs[(i+xs.length).toNat]? else none
noncomputable def keyOf:D→Option Key
 | .int i=>some (.inl i)
 | .str x=>some (.inr x)
 |_=>none
@[simp] noncomputable def keysOf:List D→Option (List Key)
 |[]=>some []
 |d::ds=>(keyOf d).bind λk=>(keysOf ds).map (k:: ·)
section
variable{κ:Type} [DecidableEq κ]
noncomputable def look(kvs:List (κ×D))(k:κ):Option D:=(kvs.find? λkv=>decide (kv.1=k)).map (·.2)
noncomputable def put(kvs:List (κ×D))(k:κ)(v:D):List (κ×D):=
 if(kvs.any λkv=>decide (kv.1=k))=true then kvs.map (λkv=>if kv.1=k then(kv.1,v) else kv) else kvs++[(k,v)]
end
noncomputable def ixD:D→D→Option D
 | .lst xs,.int i=>atD xs i
 | .tup xs,.int i=>atD xs i
 | .str x,.int i=>if x.length≤ao then(atD x.cps.toList i).map λc=> .str ⟨#[c]⟩ else none
 | .dK kvs,k=>(keyOf k).bind λk=>look kvs k
 | .dT kvs,.tup ds=>(keysOf ds).bind λk=>look kvs k
 | .scr ns,.int i=>(atD ns i).map .int
 |_,_=>none
@[simp] noncomputable def ixE(f g:DE):DE:=λenv=>(f env).bind λx=>(g env).bind λy=>(ixD x.d y.d).map λd=> ⟨.c,d⟩
@[simp] noncomputable def ax:DA:=λ_=>some []
@[simp] noncomputable def a8(f:DE)(r:DA):DA:=λenv=>(f env).bind λx=>(r env).bind λxs=>some (x::xs)
@[simp] noncomputable def uj(a:DA):DE:=λenv=>(a env).bind λrs=>if rs.all (·.free)&&decide (rs.length≤ao) then some ⟨.c,.tup (rs.map (·.d))⟩ else none
@[simp] noncomputable def rf(a:DA):DE:=λenv=>(a env).bind λrs=>if rs.all (·.free)&&decide (rs.length≤ao) then some ⟨.tn,.lst (rs.map (·.d))⟩ else none
@[simp] noncomputable def aI(sp:List D→Option D)(a:DA):DE:=λenv=>(a env).bind λrs=>(sp (rs.map (·.d))).map gp
@[simp] noncomputable def dA(o:List D→Option RV)(a:DA):DE:=λenv=>(a env).bind λrs=>o (rs.map (·.d))
noncomputable def cC:List D→Option RV
 |[.lst xs]=>some ⟨.c,.int xs.length⟩
 |[.tup xs]=>some ⟨.c,.int xs.length⟩
 |[.str x]=>if x.length≤ao then some ⟨.c,.int x.length⟩ else none
 |[.dK kvs]=>some ⟨.c,.int kvs.length⟩
 |[.scr ns]=>some ⟨.c,.int ns.length⟩
 |_=>none
noncomputable def listS:List D→Option RV
 |[.lst xs]=>some ⟨.tn,.lst xs⟩
 |[.tup xs]=>some ⟨.tn,.lst xs⟩
 |_=>none
@[simp] noncomputable def ox:List D→Option (List Bool)
 |[]=>some []
 | .bl b::ds=>(ox ds).map (b:: ·)
 |_=>none
noncomputable def pK:D→Option (List D)
 | .lst xs=>some xs
 | .tup xs=>some xs
 | .scr ns=>some (ns.map .int)
 |_=>none
noncomputable def one(o:List D→Option RV):List D→Option RV
 |[d]=>(pK d).bind o
 |_=>none
noncomputable def uk:List D→Option RV:=one λds=>(ox ds).map λbs=> ⟨.c,.bl (bs.all id)⟩
noncomputable def ib(T:String):D→Bool
 | .non=>T=="NoneType"
 | .bl _=>T=="bool"||T=="int"
 | .int _=>T=="int"
 | .str _=>T=="str"
 | .tup _=>T=="tuple"
 | .lst _=>T=="list"
 | .dK _=>T=="dict"
 | .dT _=>T=="dict"
 | .scr _=>T=="list"
noncomputable def kg:D→Bool
 | .scr _=>true
 |_=>false
@[simp] noncomputable def lB(T:String)(f:DE):DT:=λenv=>(f env).bind λx=>if kg x.d then none else some (ib T x.d)
noncomputable abbrev DO:=Env→Option (Option Int)
@[simp] noncomputable def noO:DO:=λ_=>some none
@[simp] noncomputable def gN(i:Nat):DG:=λd env=>some (env.set i (some (.sh d)))
@[simp] noncomputable def cw:DS:=λenv=>some (.nx env)
@[simp] noncomputable def oy:DS:=λ_=>none
@[simp] noncomputable def b6(f g:DS):DS:=λenv=>(f env).bind λo=>match o with
 | .nx e=>g e
 |o=>some o
noncomputable def stored(i:Nat)(r:RV)(env:Env):Option Env:=match r.k with
 | .c=>some (env.set i (some (.sh r.d)))
 | .tn=>some (env.set i (some (.own r.d)))
 |_=>none
@[simp] noncomputable def cD(i:Nat)(f:DE):DS:=λenv=>(f env).bind λr=>(stored i r env).map .nx
noncomputable def g8(r:RV):Bool:=match r.k with
 | .c=>r.d.imm
 | .tn=>r.d.gx
 | .to=>r.d.gx
 | .tb=>false
@[simp] noncomputable def retS(f:DE):DS:=λenv=>(f env).bind λr=>if g8 r then some (.ret r.d) else none
@[simp] noncomputable def ifS(t:DT)(f g:DS):DS:=λenv=>(t env).bind λb=>if b then f env else g env
@[simp] noncomputable def forL(g:DG)(body:DS):List D→Env→Option Out
 |[],env=>some (.nx env)
 |d::ds,env=>(g d env).bind λe=>(body e).bind λo=>match o with
  | .nx e=>forL g body ds e
  | .ct e=>forL g body ds e
  | .bk e=>some (.nx e)
  | .ret d=>some (.ret d)
noncomputable abbrev DI:=Env→Option (List D)
@[simp] noncomputable def aK(l:Option Nat)(env:Env):Env:=match l with
 |none=>env
 |some i=>match env[i]? with
  |some (some (.own d))=>env.set i (some (.lok d))
  |_=>env
@[simp] noncomputable def lC(l:Option Nat)(env:Env):Bool:=match l with
 |none=>false
 |some i=>match env[i]? with
  |some (some (.own _))=>true
  |_=>false
@[simp] noncomputable def dB(l:Option Nat)(env:Env):Env:=match l with
 |none=>env
 |some i=>match env[i]? with
  |some (some (.lok d))=>env.set i (some (.own d))
  |_=>env
noncomputable def freed(l:Option Nat)(b:Bool):Out→Out
 | .nx e=> .nx (if b then dB l e else e)
 |o=>o
@[simp] noncomputable def vI(l:Option Nat)(src:DI)(g:DG)(body:DS):DS:=λenv=>(src (aK l env)).bind λds=>(forL g body ds (aK l env)).map (freed l (lC l env))
@[simp] noncomputable def CU(f:DE):DI:=λenv=>(f env).bind λr=>if r.k= .to then none else match r.d with
 | .lst xs=>some xs
 | .tup xs=>some xs
 | .scr ns=>some (ns.map .int)
 |_=>none
noncomputable def aA(lo:Int)(n:Nat):List D:=(List.range n).map λ(k:Nat)=> .int (lo+(k:Int))
noncomputable def bw(i:Int):Bool:=decide (-4611686018427387904≤i)&&decide (i<4611686018427387904)
@[simp] noncomputable def de(f:DE):DI:=λenv=>(f env).bind λr=>match r.d with
 | .int j=>if bw j then some (aA 0 j.toNat) else none
 |_=>none
@[simp] noncomputable def ownAt(i:Nat)(env:Env):Option D:=match env[i]? with
 |some (some (.own d))=>some d
 |_=>none
@[simp] noncomputable def CV(i:Nat)(f:DE):DS:=λenv=>(f env).bind λr=>(ownAt i env).bind λd=>match d with
 | .lst xs=>if r.free&&decide (xs.length<ao) then some (.nx (env.set i (some (.own (.lst (xs++[r.d])))))) else none
 |_=>none
@[simp] noncomputable def vJ(i:Nat):DS:=λenv=>(ownAt i env).bind λd=>match d with
 | .lst _=>some (.nx (env.set i (some (.own (.lst [])))))
 |_=>none
noncomputable def putD(d k v:D):Option D:=match d with
 | .dK kvs=>if kvs.length<ao then(keyOf k).map λk=> .dK (put kvs k v) else none
 | .dT kvs=>match k with
  | .tup ks=>if kvs.length<ao then(keysOf ks).map λk=> .dT (put kvs k v) else none
  |_=>none
 | .lst xs=>match k with
  | .int j=>if 0≤j∧j<xs.length then some (.lst (xs.set j.toNat v)) else if j<0∧-(xs.length:Int)≤j then some (.lst (xs.set (j+xs.length).toNat v)) else none
  |_=>none
 |_=>none
@[simp] noncomputable def rg:DE:=λ_=>some ⟨.tn,.dT []⟩
@[simp] noncomputable def AU(i:Nat)(k v:DE):DS:=λenv=>(v env).bind λx=>(k env).bind λy=>(ownAt i env).bind λd=>if x.free then(putD d y.d x.d).map λd=> .nx (env.set i (some (.own d))) else none
noncomputable def iY:Option Slot→Option Slot
 |some (.sh d)=>some (.sh d)
 |some (.own d)=>some (.bor d)
 |some (.lok d)=>some (.bor d)
 |some (.bor d)=>some (.bor d)
 |none=>none
noncomputable def compEnv(n:Nat)(caps:List Nat)(env:Env):Env:=List.replicate n none++caps.map λi=>iY (env[i]?.getD none)
@[simp] noncomputable def cF(g:DG)(t:DT)(f:DE):List D→Env→Option (List D)
 |[],_=>some []
 |d::ds,env=>(g d env).bind λe=>(t e).bind λb=>if b then(f e).bind λr=>if r.free then(cF g t f ds e).map (r.d:: ·) else none else cF g t f ds e
@[simp] noncomputable def ie(l:Option Nat)(n:Nat)(caps:List Nat)(src:DI)(g:DG)(t:DT)(f:DE):DE:=λenv=>(src (aK l env)).bind λds=>if ds.length≤ao then(cF g t f ds (compEnv n caps env)).map λrs=> ⟨.tn,.lst rs⟩ else none
@[simp] noncomputable def iZ:DT:=λ_=>some true
@[simp] noncomputable def fL(n:Nat)(ds:List D):Env:=ds.map (λd=>some (.sh d))++List.replicate (n -ds.length) none
@[simp] noncomputable def fm(n np:Nat)(body:DS):List D→Option D:=λds=>if ds.length=np then(body (fL n ds)).bind λo=>match o with
  | .ret d=>some d
  | .nx _=>some .non
  |_=>none
 else none
@[simp] theorem AV{a b:String}:Str.ofString a=Str.ofString b↔a=b:=by
 constructor
 ·intro h
  rw[Str.ofString_eq_toList,Str.ofString_eq_toList] at h
  have h1:a.toList.map Char.toNat=b.toList.map Char.toNat:=by
   injection h with h
   exact Gcr.mpr h|>λz=>by simpa using z
  have h2:a.toList=b.toList:=by
   have inj:∀(x y:List Char),x.map Char.toNat=y.map Char.toNat→x=y:=by
    intro x
    induction x with
    |nil=>intro y e;cases y with
     |nil=>rfl
     |cons=>simp at e
    |cons c x ih=>intro y e;cases y with
     |nil=>simp at e
     |cons c' y=>
      simp only[GaH,List.cons.injEq] at e
      rw[ih y e.2,Char.toNat_inj.mp e.1]
   exact inj _ _ h1
  exact String.toList_inj.mp h2
 ·rintro rfl;rfl
section
variable{i j:Int}{x y:Str}{ds es:List D}{d:D}{env:Env}{n:Nat}
@[simp] theorem EU:bY (.int i) (.int j)=some ⟨.c,.int (i+j)⟩:=rfl
@[simp] theorem EV:bY (.str x) (.str y)=if x.length+y.length≤ao then some ⟨.c,.str (x++y)⟩ else none:=rfl
@[simp] theorem EW:bY (.tup ds) (.tup es)=if ds.length+es.length≤ao∧0<ds.length then some ⟨.c,.tup (ds++es)⟩ else none:=rfl
@[simp] theorem EX:bY (.lst ds) (.lst es)=if ds.length+es.length≤ao then some ⟨.tn,.lst (ds++es)⟩ else none:=rfl
@[simp] theorem EY:vF (.int i) (.int j)=some ⟨.c,.int (i -j)⟩:=rfl
@[simp] theorem EZ:jE (.int i) (.int j)=if dv i j then some ⟨.c,.int (i*j)⟩ else none:=rfl
@[simp] theorem DQ:pI (.int i) (.int j)=if 0<j∧j<1073741824 then some ⟨.c,.int (i/j)⟩ else none:=rfl
@[simp] theorem F0:d4 (.int i) (.int j)=if 0<j then some ⟨.c,.int (i%j)⟩ else none:=rfl
@[simp] theorem F1:vG (.int i) (.int j)=if 0≤j∧j≤1000∧i.natAbs<1000000 then some ⟨.c,.int (i^j.toNat)⟩ else none:=rfl
@[simp] theorem G6:ltB (.int i) (.int j)=some (decide (i<j)):=rfl
@[simp] theorem G7:leB (.int i) (.int j)=some (decide (i≤j)):=rfl
@[simp] theorem G8:gtB (.int i) (.int j)=some (decide (j<i)):=rfl
@[simp] theorem G9:eqB (.int i) (.int j)=some (i==j):=rfl
@[simp] theorem AW:eqB (.str x) (.str y)=some (x==y):=rfl
@[simp] theorem GL:eqB .non (.int j)=some false:=rfl
@[simp] theorem GN:eqB (.int j) .non=some false:=rfl
@[simp] theorem GO:eqB .non .non=some true:=rfl
@[simp] theorem Ga:neB (.int i) (.int j)=some (!(i==j)):=rfl
@[simp] theorem Gb:neB (.str x) (.str y)=some (!(x==y)):=rfl
@[simp] theorem GP:neB .non (.int j)=some true:=rfl
@[simp] theorem GQ:neB (.int j) .non=some true:=rfl
@[simp] theorem GR:neB .non .non=some false:=rfl
@[simp] theorem DR:dw .non=true:=rfl
@[simp] theorem DU:dw (.int i)=false:=rfl
@[simp] theorem DV:dw (.str x)=false:=rfl
@[simp] theorem F2{b:Bool}:dw (.bl b)=false:=rfl
@[simp] theorem DW:dw (.tup ds)=false:=rfl
@[simp] theorem DX:dw (.lst ds)=false:=rfl
@[simp] theorem F3:vH d .non=some (dw d):=rfl
@[simp] theorem DY:BY d .non=some (!dw d):=rfl
@[simp] theorem cG:cC [.lst ds]=some ⟨.c,.int ds.length⟩:=rfl
@[simp] theorem pL:cC [.tup ds]=some ⟨.c,.int ds.length⟩:=rfl
@[simp] theorem F4:cC [.str x]=if x.length≤ao then some ⟨.c,.int x.length⟩ else none:=rfl
@[simp] theorem F5{ns:List Int}:cC [.scr ns]=some ⟨.c,.int ns.length⟩:=rfl
@[simp] theorem Gd{kvs:List (Key×D)}:cC [.dK kvs]=some ⟨.c,.int kvs.length⟩:=rfl
@[simp] theorem DZ:listS [.lst ds]=some ⟨.tn,.lst ds⟩:=rfl
@[simp] theorem E5:listS [.tup ds]=some ⟨.tn,.lst ds⟩:=rfl
@[simp] theorem F6{T:String}:ib T .non=(T=="NoneType"):=rfl
@[simp] theorem Ge{T:String}{b:Bool}:ib T (.bl b)=(T=="bool"||T=="int"):=rfl
@[simp] theorem F7{T:String}:ib T (.int i)=(T=="int"):=rfl
@[simp] theorem F8{T:String}:ib T (.str x)=(T=="str"):=rfl
@[simp] theorem F9{T:String}:ib T (.tup ds)=(T=="tuple"):=rfl
@[simp] theorem Fb{T:String}:ib T (.lst ds)=(T=="list"):=rfl
@[simp] theorem E9:kg .non=false:=rfl
@[simp] theorem Fc{b:Bool}:kg (.bl b)=false:=rfl
@[simp] theorem Ea:kg (.int i)=false:=rfl
@[simp] theorem Eb:kg (.str x)=false:=rfl
@[simp] theorem Ec:kg (.tup ds)=false:=rfl
@[simp] theorem Ed:kg (.lst ds)=false:=rfl
@[simp] theorem Fd:stored n ⟨.c,d⟩ env=some (env.set n (some (.sh d))):=rfl
@[simp] theorem Ee:stored n ⟨.tn,d⟩ env=some (env.set n (some (.own d))):=rfl
@[simp] theorem Gf:g8 ⟨.c,d⟩=d.imm:=rfl
@[simp] theorem Fe:g8 ⟨.tn,d⟩=d.gx:=rfl
@[simp] theorem Ff:g8 ⟨.to,d⟩=d.gx:=rfl
@[simp] theorem Ef:(D.lst ds).gx=bH ds:=rfl
@[simp] theorem Fg{kvs:List (List Key×D)}:(D.dT kvs).gx=bH (kvs.map (·.2)):=rfl
@[simp] theorem Fh{kvs:List (Key×D)}:(D.dK kvs).gx=bH (kvs.map (·.2)):=rfl
@[simp] theorem Fi:gp .non=⟨.c,.non⟩:=rfl
@[simp] theorem Gg{b:Bool}:gp (.bl b)=⟨.c,.bl b⟩:=rfl
@[simp] theorem Fj:gp (.int i)=⟨.c,.int i⟩:=rfl
@[simp] theorem Fl:gp (.str x)=⟨.c,.str x⟩:=rfl
@[simp] theorem Fm:gp (.tup ds)=⟨.c,.tup ds⟩:=rfl
@[simp] theorem Fn:gp (.lst ds)=⟨.tn,.lst ds⟩:=rfl
@[simp] theorem Gh{kvs:List (List Key×D)}:gp (.dT kvs)=⟨.tn,.dT kvs⟩:=rfl
@[simp] theorem Gi{kvs:List (Key×D)}:gp (.dK kvs)=⟨.tn,.dK kvs⟩:=rfl
@[simp] theorem GS:RV.free ⟨.c,d⟩=true:=rfl
@[simp] theorem Gj:RV.free ⟨.tn,d⟩=true:=rfl
@[simp] theorem Fo{l:Option Nat}{b:Bool}:freed l b (.nx env)= .nx (if b then dB l env else env):=rfl
@[simp] theorem Eg{l:Option Nat}{b:Bool}:freed l b (.ret d)= .ret d:=rfl
@[simp] theorem Eh:keyOf (.int i)=some (.inl i):=rfl
@[simp] theorem Ej:keyOf (.str x)=some (.inr x):=rfl
@[simp] theorem kL:ixD (.lst ds) (.int i)=atD ds i:=rfl
@[simp] theorem Gk:ixD (.tup ds) (.int i)=atD ds i:=rfl
@[simp] theorem Gm{ns:List Int}:ixD (.scr ns) (.int i)=(atD ns i).map .int:=rfl
@[simp] theorem Gn:ixD (.str x) (.int i)=if x.length≤ao then(atD x.cps.toList i).map λc=> .str ⟨#[c]⟩ else none:=rfl
@[simp] theorem vK{kvs:List (List Key×D)}:ixD (.dT kvs) (.tup ds)=(keysOf ds).bind λk=>look kvs k:=rfl
theorem oz{α:Type}{xs:List α}{k:Nat}:atD xs (k:Int)=xs[k]? :=by
 unfold atD;rw[Gag (by omega)];simp
@[simp] theorem Hf{α:Type}{xs:List α}:atD xs 0=xs[0]? :=rfl
@[simp] theorem Hg{α:Type}{xs:List α}:atD xs 1=xs[1]? :=rfl
@[simp] theorem Hh{α:Type}{xs:List α}:atD xs 2=xs[2]? :=rfl
@[simp] theorem Hj{α:Type}{xs:List α}:atD xs 3=xs[3]? :=rfl
@[simp] theorem Hk{α:Type}{xs:List α}:atD xs 4=xs[4]? :=rfl
@[simp] theorem Hl{α:Type}{xs:List α}:atD xs 5=xs[5]? :=rfl
theorem AX{α:Type}{xs:List α}(h:0≤i):atD xs i=xs[i.toNat]? :=by unfold atD;rw[Gag h]
end
open PySem
noncomputable def ar:D→List Int
 | .non=>[0]
 | .int i=>[1,i]
 | .str x=>2::x.cps.toList.map Int.ofNat
 |_=>[3]
noncomputable def cA{α:Type} [DecidableEq α](lt:α→α→Bool):List α→List α→Bool
 |[],[]=>false
 |[],_::_=>true
 |_::_,[]=>false
 |a::as,b::bs=>if a=b then cA lt as bs else lt a b
noncomputable def ltI(a b:Int):Bool:=decide (a<b)
noncomputable def ltC:List (List Int)→List (List Int)→Bool:=cA (cA ltI)
noncomputable def code:D→List (List Int)
 | .tup ds=>ds.map ar
 |d=>[ar d]
noncomputable def um(d:D):List D→List D
 |[]=>[d]
 |e::es=>if ltC (code d) (code e) then d::e::es else e::um d es
noncomputable def kh:List D→List D
 |[]=>[]
 |d::ds=>um d (kh ds)
noncomputable def tyD:D→Nat
 | .non=>0
 | .int _=>1
 | .str _=>2
 |_=>3
noncomputable def ff(d:D):Bool:=tyD d !=3
noncomputable def j0:List D→List D→Bool
 |a::as,b::bs=>if ar a=ar b then j0 as bs else(tyD a==tyD b&&(tyD a==1||tyD a==2))
 |_,_=>true
noncomputable def uo:D→Bool
 | .int _=>true
 |_=>false
noncomputable def fq(t:Nat):D→Bool
 | .tup (f::r)=>tyD f==t&&r.all ff
 |_=>false
noncomputable def rh:D→D→Bool
 | .tup a,.tup b=>j0 a b
 |_,_=>false
noncomputable def keysOk(ds:List D):Bool:=ds.all uo||((ds.all (fq 1)||ds.all (fq 2))&&ds.all λx=>ds.all λy=>rh x y)
structure oA{α:Type}(lt:α→α→Bool):Prop where
 irr:∀a,lt a a=false
 tr:∀a b c,lt a b=true→lt b c=true→lt a c=true
 tot:∀a b,lt a b=false→lt b a=false→a=b
theorem GU:oA ltI:=⟨λa=>by simp[ltI],λa b c h1 h2=>by simp[ltI] at*;omega,λa b h1 h2=>by simp[ltI] at*;omega⟩
section
variable{α:Type} [DecidableEq α]{lt:α→α→Bool}
theorem oA.lex(L:oA lt):oA (cA lt):=by
 refine⟨λa=> ?_,λa=> ?_,λa=> ?_⟩
 ·induction a with
  |nil=>rfl
  |cons x xs ih=>simp[cA,ih]
 ·induction a with
  |nil=>
   intro b c h1 h2
   cases c with
   |nil=>cases b<;>simp[cA] at h1 h2
   |cons z zs=>rfl
  |cons x xs ih=>
   intro b c h1 h2
   cases b with
   |nil=>simp[cA] at h1
   |cons y ys=>
    cases c with
    |nil=>simp[cA] at h2
    |cons z zs=>
     unfold cA at h1 h2⊢
     by_cases e1:x=y
     ·subst e1
      rw[Gag rfl] at h1
      by_cases e2:x=z
      ·subst e2
       rw[Gag rfl] at h2⊢
       exact ih ys zs h1 h2
      ·rw[Gaf e2] at h2⊢;exact h2
     ·rw[Gaf e1] at h1
      by_cases e2:y=z
      ·subst e2
       rw[Gaf e1];exact h1
      ·rw[Gaf e2] at h2
       by_cases e3:x=z
       ·subst e3
        have:=L.tr x y x h1 h2
        rw[L.irr] at this;cases this
       ·rw[Gaf e3];exact L.tr x y z h1 h2
 ·induction a with
  |nil=>
   intro b h1 h2
   cases b with
   |nil=>rfl
   |cons y ys=>simp[cA] at h1
  |cons x xs ih=>
   intro b h1 h2
   cases b with
   |nil=>simp[cA] at h2
   |cons y ys=>
    unfold cA at h1 h2
    by_cases e:x=y
    ·subst e
     rw[Gag rfl] at h1 h2
     rw[ih ys h1 h2]
    ·rw[Gaf e] at h1
     rw[Gaf (Gbl e)] at h2
     exact absurd (L.tot x y h1 h2) e
theorem oA.nt(L:oA lt){k x y:α}(h1:lt k y=true)(h2:lt x y=false):lt k x=true:=by
 cases h:lt y x with
 |true=>exact L.tr k y x h1 h
 |false=>rw[L.tot x y h2 h];exact h1
theorem oA.Fp(L:oA lt){x y:α}(h:lt x y=true):lt y x=false:=by
 cases q:lt y x with
 |false=>rfl
 |true=>have:=L.tr x y x h q;rw[L.irr] at this;cases this
end
theorem oB:oA ltC:=GU.lex.lex
noncomputable def rank(cs:List (List (List Int)))(i:Nat):Int:=((cs.filter λc=>ltC c (cs[i]?.getD [])).length:Nat)
theorem iD{α:Type}{p q:α→Bool}:∀{l:List α},(∀x∈l,p x=true→q x=true)→(l.filter p).length≤(l.filter q).length
 |[],_=>Gaq _
 |x::l,h=>by
  have ih:=iD (l:=l) λy hy=>h y (Gai _ hy)
  have hx:=h x Gap
  cases hp:p x with
  |false=>
   rw[Gbz,hp]
   simp only[Gax,GaS]
   refine GbJ ih ?_
   rw[Gbz]
   split
   ·rw[GbC];omega
   ·exact Gaq _
  |true=>rw[Gbz,Gbz,hp,hx hp];simp;exact ih
theorem ig{α:Type}{p q:α→Bool}:∀{l:List α} {z:α},z∈l→p z=false→q z=true→(∀x∈l,p x=true→q x=true)→(l.filter p).length<(l.filter q).length
 |[],z,hz,_,_,_=>by cases hz
 |x::l,z,hz,h1,h2,h=>by
  rcases Gar.mp hz with e|hz
  ·subst e
   have:=iD (l:=l) (p:=p) (q:=q) λy hy=>h y (Gai _ hy)
   rw[Gbz,Gbz,h1,h2]
   simp;omega
  ·have ih:=ig hz h1 h2 λy hy=>h y (Gai _ hy)
   have hx:=h x Gap
   cases hp:p x with
   |false=>
    rw[Gbz,hp]
    simp only[Gax,GaS]
    rw[Gbz]
    split
    ·rw[GbC];omega
    ·exact ih
   |true=>rw[Gbz,Gbz,hp,hx hp];simp;exact ih
theorem kM{cs:List (List (List Int))}{i j:Nat}(hi:i<cs.length)(hj:j<cs.length):decide (rank cs i<rank cs j)=ltC cs[i] cs[j]:=by
 unfold rank
 rw[Gaa hi,Gaa hj]
 simp only[Option.getD_some]
 cases h:ltC cs[i] cs[j] with
 |true=>
  refine GaB (Int.ofNat_lt.mpr ?_)
  exact ig (z:=cs[i]) (GaN hi) (oB.irr _) h λc _ hc=>oB.tr _ _ _ hc h
 |false=>
  refine GaD (GcW.mpr (Int.ofNat_le.mpr ?_))
  exact iD λc _ hc=>oB.nt hc h
noncomputable def fM(ds:List D):Prop:=ds.Pairwise λa b=>ltC (code b) (code a)=false
theorem jF(d:D):∀es:List D,(um d es).Perm (d::es)
 |[]=>List.Perm.refl _
 |e::es=>by
  unfold um
  split
  ·exact List.Perm.refl _
  ·exact((jF d es).cons e).trans (List.Perm.swap d e es)
theorem dC:∀ds:List D,(kh ds).Perm ds
 |[]=>List.Perm.refl _
 |d::ds=>(jF d _).trans ((dC ds).cons d)
theorem kl(d:D):∀{es:List D},fM es→fM (um d es)
 |[],_=>GbF _ _
 |e::es,h=>by
  have h' :=Gbd.mp h
  unfold um
  split
  ·rename_i c
   refine Gbd.mpr ⟨λb hb=> ?_,h⟩
   rcases Gar.mp hb with q|q
   ·subst q;exact oB.Fp c
   ·cases z:ltC (code b) (code d) with
    |false=>rfl
    |true=>have:=oB.tr _ _ _ z c;rw[h'.1 b q] at this;cases this
  ·rename_i c
   refine Gbd.mpr ⟨λb hb=> ?_,kl d h'.2⟩
   rcases Gar.mp ((jF d es).mem_iff.mp hb) with q|q
   ·subst q;simpa using c
   ·exact h'.1 b q
theorem fN:∀ds:List D,fM (kh ds)
 |[]=>List.Pairwise.nil
 |d::ds=>kl d (fN ds)
theorem fg:∀{xs ys:List D},xs.Perm ys→fM xs→fM ys→(∀a∈xs,∀b∈xs,code a=code b→a=b)→xs=ys
 |[],ys,hp,_,_,_=>(List.nil_perm.mp hp).symm
 |x::xs,ys,hp,hx,hy,hi=>by
  cases ys with
  |nil=>exact absurd (List.perm_nil.mp hp) (by simp)
  |cons y ys=>
   have px:=Gbd.mp hx
   have py:=Gbd.mp hy
   have e:x=y:=by
    have mx:x∈y::ys:=hp.mem_iff.mp Gap
    have my:y∈x::xs:=hp.mem_iff.mpr Gap
    rcases Gar.mp mx with q|q
    ·exact q
    ·rcases Gar.mp my with r|r
     ·exact r.symm
     ·exact hi x Gap y my (oB.tot _ _ (py.1 x q) (px.1 y r)).symm.symm
   subst e
   rw[fg (List.perm_cons x|>.mp hp) px.2 py.2 λa ha b hb=>hi a (Gai _ ha) b (Gai _ hb)]
open PySem
open PySem
noncomputable def sJ(x:D)(ds:List D):Option Bool:=if a9 10 x&&ds.all (a9 10) then some (ds.any λy=>eqD y x) else none
noncomputable def inB(x y:D):Option Bool:=match y with
 | .dK kvs=>(keyOf x).map λk=>(look kvs k).isSome
 | .dT kvs=>match x with
  | .tup ks=>(keysOf ks).map λk=>(look kvs k).isSome
  |_=>none
 | .lst ds=>sJ x ds
 | .tup ds=>sJ x ds
 |_=>none
noncomputable def pM(x y:D):Option Bool:=(inB x y).map (!·)
@[simp] theorem GV{x:D}{kvs:List (Key×D)}:inB x (.dK kvs)=(keyOf x).map λk=>(look kvs k).isSome:=rfl
@[simp] theorem vL{ks:List D}{kvs:List (List Key×D)}:inB (.tup ks) (.dT kvs)=(keysOf ks).map λk=>(look kvs k).isSome:=rfl
open PySem
noncomputable def dW{α:Type}(xs:List α)(i:Int)(y:α):List α:=xs.take (if i<0 then(i+(xs.length:Int)).toNat else min i.toNat xs.length)++y::xs.drop (if i<0 then(i+(xs.length:Int)).toNat else min i.toNat xs.length)
theorem uq{α:Type}(xs:List α)(i:Int)(y:α):(dW xs i y).length=xs.length+1:=by
 unfold dW
 rw[GaR,GbC,List.length_take,List.length_drop]
 omega
theorem rj{α:Type}(xs:List α)(i:Int)(y:α):(dW xs i y).Perm (y::xs):=by
 unfold dW
 refine Gdx.trans ?_
 rw[GaX]
open PySem
open PySem
noncomputable def isInt:D→Bool
 | .int _=>true
 |_=>false
noncomputable def lD:Key→D
 | .inl i=> .int i
 | .inr x=> .str x
noncomputable def dX(kvs:List (List Key×D)):List D:=kvs.map λp=> .tup (p.1.map lD)
open PySem
open PySem
noncomputable def g9{α:Type}(kvs:List (List Key×α)):List D:=kvs.map λp=> .tup (p.1.map lD)
noncomputable def j1:List D→Option RV
 |[.dT kvs]=>if decide (kvs.length<64)&&keysOk (dX kvs) then some ⟨.tn,.lst (kh (dX kvs))⟩ else none
 |_=>none
open PySem
noncomputable def lE(kvs:List (List Key×D)):List D:=kvs.map λp=> .tup [.tup (p.1.map lD),p.2]
open PySem
@[simp] noncomputable def litE(f:DE):DE:=λenv=>(f env).bind λr=>match r.d with
 | .dT kvs=>if bH (kvs.map (·.2)) then some ⟨.tn,.lst (lE kvs)⟩ else none
 |_=>none
open PySem
noncomputable def iE:D→D
 | .tup (f::_)=>f
 |_=> .non
noncomputable def cdN(d:D):List (List Int):=code (iE d)
noncomputable def pO(cd:D→List (List Int))(d:D):List D→List D
 |[]=>[d]
 |e::es=>if ltC (cd d) (cd e) then d::e::es else e::pO cd d es
noncomputable def gc(cd:D→List (List Int)):List D→List D
 |[]=>[]
 |d::ds=>pO cd d (gc cd ds)
noncomputable def pP{α:Type} [DecidableEq α]:List α→Bool
 |[]=>true
 |a::as=> !(as.any λb=>decide (b=a))&&pP as
noncomputable def cR:D→Bool
 | .tup (_::_)=>true
 |_=>false
noncomputable def cH(ds:List D):Bool:=ds.all cR&&((ds.map iE).all (fq 1)||(ds.map iE).all (fq 2))&&((ds.map iE).all λx=>(ds.map iE).all λy=>rh x y)&&pP (ds.map cdN)
noncomputable def j2:List D→Option RV:=one λds=>if decide (ds.length<64)&&cH ds then some ⟨.tn,.lst (gc cdN ds)⟩ else none
section
variable{cd:D→List (List Int)}
noncomputable def fO(cd:D→List (List Int))(ds:List D):Prop:=ds.Pairwise λa b=>ltC (cd b) (cd a)=false
theorem jG(d:D):∀es:List D,(pO cd d es).Perm (d::es)
 |[]=>List.Perm.refl _
 |e::es=>by
  unfold pO
  split
  ·exact List.Perm.refl _
  ·exact((jG d es).cons e).trans (List.Perm.swap d e es)
theorem iF:∀ds:List D,(gc cd ds).Perm ds
 |[]=>List.Perm.refl _
 |d::ds=>(jG d _).trans ((iF ds).cons d)
theorem km(d:D):∀{es:List D},fO cd es→fO cd (pO cd d es)
 |[],_=>GbF _ _
 |e::es,h=>by
  have h' :=Gbd.mp h
  unfold pO
  split
  ·rename_i c
   refine Gbd.mpr ⟨λb hb=> ?_,h⟩
   rcases Gar.mp hb with q|q
   ·subst q;exact oB.Fp c
   ·cases z:ltC (cd b) (cd d) with
    |false=>rfl
    |true=>have:=oB.tr _ _ _ z c;rw[h'.1 b q] at this;cases this
  ·rename_i c
   refine Gbd.mpr ⟨λb hb=> ?_,km d h'.2⟩
   rcases Gar.mp ((jG d es).mem_iff.mp hb) with q|q
   ·subst q;simpa using c
   ·exact h'.1 b q
theorem df:∀ds:List D,fO cd (gc cd ds)
 |[]=>List.Pairwise.nil
 |d::ds=>km d (df ds)
theorem dD:∀{xs ys:List D},xs.Perm ys→fO cd xs→fO cd ys→(∀a∈xs,∀b∈xs,cd a=cd b→a=b)→xs=ys
 |[],ys,hp,_,_,_=>(List.nil_perm.mp hp).symm
 |x::xs,ys,hp,hx,hy,hi=>by
  cases ys with
  |nil=>exact absurd (List.perm_nil.mp hp) (by simp)
  |cons y ys=>
   have px:=Gbd.mp hx
   have py:=Gbd.mp hy
   have e:x=y:=by
    have mx:x∈y::ys:=hp.mem_iff.mp Gap
    have my:y∈x::xs:=hp.mem_iff.mpr Gap
    rcases Gar.mp mx with q|q
    ·exact q
    ·rcases Gar.mp my with r|r
     ·exact r.symm
     ·exact hi x Gap y my (oB.tot _ _ (py.1 x q) (px.1 y r)).symm.symm
   subst e
   rw[dD (List.perm_cons x|>.mp hp) px.2 py.2 λa ha b hb=>hi a (Gai _ ha) b (Gai _ hb)]
end
theorem dE{α:Type} [DecidableEq α]:∀{l:List α},pP l=true↔l.Nodup
 |[]=>by simp[pP]
 |a::as=>by
  unfold pP
  rw[Gal,dE,Gby]
  simp only[Bool.not_eq_true',GdP,GcH]
  constructor
  ·rintro⟨h1,h2⟩;exact⟨λh=>h1 a h rfl,h2⟩
  ·rintro⟨h1,h2⟩;exact⟨λx hx e=>h1 (e▸hx),h2⟩
theorem fP{α β:Type}{f:α→β}:∀{l:List α},(l.map f).Nodup→∀a∈l,∀b∈l,f a=f b→a=b
 |[],_,a,ha,_,_,_=>by cases ha
 |x::l,h,a,ha,b,hb,e=>by
  rw[GaH,Gby] at h
  rcases Gar.mp ha with q|q
  ·rcases Gar.mp hb with r|r
   ·rw[q,r]
   ·subst q;exact absurd (Gay.mpr ⟨b,r,e.symm⟩) h.1
  ·rcases Gar.mp hb with r|r
   ·subst r;exact absurd (Gay.mpr ⟨a,q,e⟩) h.1
   ·exact fP h.2 a q b r e
open PySem
@[simp] noncomputable def sL(i:Nat)(k:DE):DS:=λenv=>(k env).bind λx=>(ownAt i env).bind λd=>match d,x.d with
 | .lst xs,.int j=>match xs[xs.length -1]? with
  |some y=>if decide (xs.length<ao)&&bw j then some (.nx (env.set i (some (.own (.lst (dW xs.dropLast j y)))))) else none
  |none=>none
 |_,_=>none
open PySem
open PySem
noncomputable abbrev DN:=Env→List (List D)→Option (Env×List (List D))
open PySem
open PySem
open PySem
noncomputable abbrev Rws:=List (List Key×D)
noncomputable abbrev DM:=Env→Rws→Option (Env×Rws)
open PySem
noncomputable def CW:Key→Option Int
 | .inl i=>some (hashInt i)
 | .inr _=>none
noncomputable def sM:List Key→Option (List Int)
 |[]=>some []
 |k::ks=>match CW k,sM ks with
  |some h,some hs=>some (h::hs)
  |_,_=>none
noncomputable def keyHash(ks:List Key):Option Int:=(sM ks).map λhs=>reduceHash (Builtin.Tuple.tupleHashOf hs)
open PySem
noncomputable def imN:Nat→D→Bool
 |_,.int _=>true
 |_,.str _=>true
 |n+1,.tup ds=>ds.all (imN n)
 |_,_=>false
noncomputable def pQ(acc:List D)(d:D):List D:=if acc.any (λe=>eqD e d) then acc else acc++[d]
noncomputable def lF(ds:List D):List D:=ds.foldl pQ []
noncomputable def setOk(ds:List D):Bool:=decide (ds.length<64)&&(ds.all λd=>cR d&&imN 4 d)&&cH (lF ds)
@[simp] noncomputable def dF(f:DE):DE:=λenv=>(f env).bind λr=>match r.d with
 | .lst ds=>if setOk ds then some ⟨.tn,.lst (gc cdN (lF ds))⟩ else none
 |_=>none
@[simp] noncomputable def uu:List Nat→Env→Env
 |[],env=>env
 |i::is,env=>uu is (match env[i]? with
  |some (some (.own d))=>env.set i (some (.sh d))
  |_=>env)
@[simp] noncomputable def Fq(is:List Nat)(f:DS):DS:=λenv=>f (uu is env)
open PySem PySem.Spec PyProof.Rows L2
noncomputable abbrev aa:=PySem.W.Frag
noncomputable abbrev St:=L2.St
noncomputable def isT:HO→Prop
 | .tup _=>True
 | .frz _ _=>True
 |_=>False
noncomputable def Kl(K:aa)(a:Addr)(xs:List V):Prop:=∃(o:Obj) (its:Array Value) (n:Nat),K.lookup a=some o∧o.cls= .type "list"∧o.dict=none∧o.data= .seq its n∧its.size≤sizeLine∧Vals xs its.toList
noncomputable def Scr(K:aa)(H:Hp)(a:Addr)(ns:List Int):Prop:=(∃o,H a=some (.frz o (.lst (ns.map V.int))))∨Kl K a (ns.map V.int)
inductive Rep (K:aa) (F:Addr→Prop) (H:Hp):D→V→Prop where
 |non:Rep K F H .non .non
 |bl (b:Bool):Rep K F H (.bl b) (.bl b)
 |int (i:Int):Rep K F H (.int i) (.int i)
 |str (x:Str):Rep K F H (.str x) (.str x)
 |tup {a:Addr} {vs:List V} {ds:List D} (h:H a=some (.tup vs)) (l:ds.length=vs.length) (r:∀(i:Nat) d v,ds[i]? =some d→vs[i]? =some v→Rep K F H d v):Rep K F H (.tup ds) (.ref a)
 |lst {a:Addr} {vs:List V} {ds:List D} (f:F a) (h:Rd H a (.lst vs)) (l:ds.length=vs.length) (r:∀(i:Nat) d v,ds[i]? =some d→vs[i]? =some v→Rep K F H d v):Rep K F H (.lst ds) (.ref a)
 |scr {a:Addr} {ns:List Int} (h:Scr K H a ns):Rep K F H (.scr ns) (.ref a)
 |dK {a:Addr} {ws:List (Key×V)} {kvs:List (Key×D)} (f:F a) (h:H a=some (.dK ws)) (l:kvs.map (·.1)=ws.map (·.1)) (r:∀(i:Nat) p q,kvs[i]? =some p→ws[i]? =some q→Rep K F H p.2 q.2):Rep K F H (.dK kvs) (.ref a)
 |dT {a:Addr} {ws:List (List Key×V)} {kvs:List (List Key×D)} (f:F a) (h:H a=some (.dT ws)) (l:kvs.map (·.1)=ws.map (·.1)) (r:∀(i:Nat) p q,kvs[i]? =some p→ws[i]? =some q→Rep K F H p.2 q.2):Rep K F H (.dT kvs) (.ref a)
noncomputable def aq(K:aa)(F:Addr→Prop)(H:Hp)(ds:List D)(vs:List V):Prop:=ds.length=vs.length∧∀(i:Nat) d v,ds[i]? =some d→vs[i]? =some v→Rep K F H d v
noncomputable def aJ{κ:Type}(K:aa)(F:Addr→Prop)(H:Hp)(kvs:List (κ×D))(ws:List (κ×V)):Prop:=kvs.map (·.1)=ws.map (·.1)∧∀(i:Nat) p q,kvs[i]? =some p→ws[i]? =some q→Rep K F H p.2 q.2
inductive Inn (K:aa) (F:Addr→Prop) (H:Hp):D→V→Prop where
 |non:Inn K F H .non .non
 |bl (b:Bool):Inn K F H (.bl b) (.bl b)
 |int (i:Int):Inn K F H (.int i) (.int i)
 |str (x:Str):Inn K F H (.str x) (.str x)
 |tup {a:Addr} {vs:List V} {ds:List D} (h:H a=some (.tup vs)) (r:aq K F H ds vs):Inn K F H (.tup ds) (.ref a)
 |lst {a:Addr} {vs:List V} {ds:List D} (h:Rd H a (.lst vs)) (r:aq K F H ds vs):Inn K F H (.lst ds) (.ref a)
 |scr {a:Addr} {ns:List Int} (h:Scr K H a ns):Inn K F H (.scr ns) (.ref a)
 |dK {a:Addr} {ws:List (Key×V)} {kvs:List (Key×D)} (h:H a=some (.dK ws)) (r:aJ K F H kvs ws):Inn K F H (.dK kvs) (.ref a)
 |dT {a:Addr} {ws:List (List Key×V)} {kvs:List (List Key×D)} (h:H a=some (.dT ws)) (r:aJ K F H kvs ws):Inn K F H (.dT kvs) (.ref a)
section
variable{K:aa}{F F' :Addr→Prop}{H H' :Hp}{d:D}{v:V}{ds:List D}{vs:List V}
theorem Rep.inn(h:Rep K F H d v):Inn K F H d v:=by
 cases h with
 |non=>exact .non
 |bl b=>exact .bl b
 |int i=>exact .int i
 |str x=>exact .str x
 |tup h l r=>exact .tup h ⟨l,r⟩
 |lst f h l r=>exact .lst h ⟨l,r⟩
 |scr h=>exact .scr h
 |dK f h l r=>exact .dK h ⟨l,r⟩
 |dT f h l r=>exact .dT h ⟨l,r⟩
theorem Inn.rep(h:Inn K F H d v)(hf:∀a,v= .ref a→d.top=true→F a):Rep K F H d v:=by
 cases h with
 |non=>exact .non
 |bl b=>exact .bl b
 |int i=>exact .int i
 |str x=>exact .str x
 |tup h r=>exact .tup h r.1 r.2
 |lst h r=>exact .lst (hf _ rfl rfl) h r.1 r.2
 |scr h=>exact .scr h
 |dK h r=>exact .dK (hf _ rfl rfl) h r.1 r.2
 |dT h r=>exact .dT (hf _ rfl rfl) h r.1 r.2
noncomputable def gy(F:Addr→Prop)(H H' :Hp):Prop:=∀b o,H b=some o→(F b∨isT o)→H' b=some o
theorem gy.of_same(h:bC H H'):gy F H H' :=λb o e _=>h b o e
theorem gy.tup{a:Addr}(s:gy F H H')(h:H a=some (.tup vs)):H' a=some (.tup vs):=s _ _ h (.inr trivial)
theorem gy.scr{a:Addr}{ns:List Int}(s:gy F H H')(h:Scr K H a ns):Scr K H' a ns:=by
 rcases h with⟨o,h⟩|h
 ·exact .inl ⟨o,s _ _ h (.inr trivial)⟩
 ·exact .inr h
theorem gy.rd{a:Addr}{u:HO}(s:gy F H H')(f:F a)(h:Rd H a u):Rd H' a u:=by
 rcases h with h| ⟨o,h⟩
 ·exact .inl (s _ _ h (.inl f))
 ·exact .inr ⟨o,s _ _ h (.inl f)⟩
theorem Rd.there{a:Addr}{u:HO}(h:Rd H a u):H a≠none:=by
 rcases h with h| ⟨o,h⟩<;>rw[h]<;>simp
theorem Rep.gen(s:gy F H H')(hF:∀b,F b→H b≠none→F' b)(h:Rep K F H d v):Rep K F' H' d v:=by
 induction h with
 |non=>exact .non
 |bl b=>exact .bl b
 |int i=>exact .int i
 |str x=>exact .str x
 |tup h l r ih=>exact .tup (s.tup h) l ih
 |lst f h l r ih=>exact .lst (hF _ f (Rd.there h)) (s.rd f h) l ih
 |scr h=>exact .scr (s.scr h)
 |dK f h l r ih=>exact .dK (hF _ f (by rw[h];simp)) (s _ _ h (.inl f)) l ih
 |dT f h l r ih=>exact .dT (hF _ f (by rw[h];simp)) (s _ _ h (.inl f)) l ih
theorem Rep.same(s:bC H H')(h:Rep K F H d v):Rep K F H' d v:=h.gen (.of_same s) λ_ f _=>f
theorem Rep.imp(hF:∀b,F b→F' b)(h:Rep K F H d v):Rep K F' H d v:=h.gen (.of_same λ_ _ e=>e) λb f _=>hF b f
theorem aq.gen(s:gy F H H')(hF:∀b,F b→H b≠none→F' b)(h:aq K F H ds vs):aq K F' H' ds vs:=⟨h.1,λi d v e1 e2=>(h.2 i d v e1 e2).gen s hF⟩
theorem aJ.gen{κ:Type}{kvs:List (κ×D)}{ws:List (κ×V)}(s:gy F H H')(hF:∀b,F b→H b≠none→F' b)(h:aJ K F H kvs ws):aJ K F' H' kvs ws:=⟨h.1,λi p q e1 e2=>(h.2 i p q e1 e2).gen s hF⟩
theorem Inn.gen(s:gy F H H')(hF:∀b,F b→H b≠none→F' b)(ht:∀a,v= .ref a→d.top=true→∀o,H a=some o→H' a=some o)(h:Inn K F H d v):Inn K F' H' d v:=by
 have rd:∀{a:Addr} {u:HO},(∀o,H a=some o→H' a=some o)→Rd H a u→Rd H' a u:=λk h=>by
  rcases h with h| ⟨o,h⟩
  ·exact .inl (k _ h)
  ·exact .inr ⟨o,k _ h⟩
 cases h with
 |non=>exact .non
 |bl b=>exact .bl b
 |int i=>exact .int i
 |str x=>exact .str x
 |tup h r=>exact .tup (s.tup h) (r.gen s hF)
 |lst h r=>exact .lst (rd (ht _ rfl rfl) h) (r.gen s hF)
 |scr h=>exact .scr (s.scr h)
 |dK h r=>exact .dK (ht _ rfl rfl _ h) (r.gen s hF)
 |dT h r=>exact .dT (ht _ rfl rfl _ h) (r.gen s hF)
theorem Inn.same(s:bC H H')(h:Inn K F H d v):Inn K F H' d v:=h.gen (.of_same s) (λ_ f _=>f) λ_ _ _ o e=>s _ o e
theorem Inn.imp(hF:∀b,F b→F' b)(h:Inn K F H d v):Inn K F' H d v:=h.gen (.of_same λ_ _ e=>e) (λb f _=>hF b f) λ_ _ _ _ e=>e
theorem Inn.any(h:Inn K F H d v):Rep K (λ_=>True) H d v:=(h.imp (F' :=λ_=>True) λ_ _=>trivial).rep λ_ _ _=>trivial
theorem kN{ds:List D}(h:bH ds=true):∀(i:Nat) d,ds[i]? =some d→d.imm=true:=by
 induction ds with
 |nil=>intro i d e;simp at e
 |cons x xs ih=>
  unfold bH at h
  rw[Gal] at h
  intro i d e
  cases i with
  |zero=>simp at e;subst e;exact h.1
  |succ i=>exact ih h.2 i d (by simpa using e)
theorem Rep.imm(h:Rep K F H d v)(hd:d.imm=true):Rep K F' H d v:=by
 induction h with
 |non=>exact .non
 |bl b=>exact .bl b
 |int i=>exact .int i
 |str x=>exact .str x
 |tup h l r ih=>
  unfold D.imm at hd
  exact .tup h l λi d v e1 e2=>ih i d v e1 e2 (kN hd i d e1)
 |lst f h l r ih=>simp[D.imm] at hd
 |scr h=>exact .scr h
 |dK f h l r ih=>simp[D.imm] at hd
 |dT f h l r ih=>simp[D.imm] at hd
theorem Inn.imm(h:Inn K F H d v)(hd:d.imm=true):Rep K F' H d v:=by
 refine Rep.imm (h.rep λa _ ht=> ?_) hd
 cases d<;>simp[D.top] at ht<;>simp[D.imm] at hd
theorem aq.nil:aq K F H [] []:=⟨rfl,λi d v e=>by simp at e⟩
theorem aq.bD(h:aq K F H [] vs):vs=[]:=Gcb h.1.symm
theorem aq.cons(h:Rep K F H d v)(r:aq K F H ds vs):aq K F H (d::ds) (v::vs):=by
 refine⟨by simp[r.1],λi x u e1 e2=> ?_⟩
 cases i with
 |zero=>simp at e1 e2;subst e1;subst e2;exact h
 |succ i=>exact r.2 i x u (by simpa using e1) (by simpa using e2)
theorem aq.cons_inv(h:aq K F H (d::ds) vs):∃v r,vs=v::r∧Rep K F H d v∧aq K F H ds r:=by
 cases vs with
 |nil=>exact absurd h.1 (by simp)
 |cons v r=>exact⟨v,r,rfl,h.2 0 d v rfl rfl,by simpa using h.1,λi x u e1 e2=>h.2 (i+1) x u (by simpa using e1) (by simpa using e2)⟩
theorem aq.append:∀{ds es:List D} {vs us:List V},aq K F H ds vs→aq K F H es us→aq K F H (ds++es) (vs++us)
 |[],es,vs,us,h,r=>by rw[h.bD];exact r
 |d::ds,es,vs,us,h,r=>by
  obtain⟨v,w,rfl,h1,h2⟩:=h.cons_inv
  exact .cons h1 (h2.append r)
theorem aq.take(n:Nat)(h:aq K F H ds vs):aq K F H (ds.take n) (vs.take n):=by
 refine⟨by simp[h.1],λi x u e1 e2=> ?_⟩
 by_cases hi:i<n
 ·rw[GaK hi] at e1 e2;exact h.2 i x u e1 e2
 ·rw[Gbf (by simp;omega)] at e1;cases e1
theorem aq.drop(n:Nat)(h:aq K F H ds vs):aq K F H (ds.drop n) (vs.drop n):=by
 refine⟨by simp[h.1],λi x u e1 e2=> ?_⟩
 rw[GaW] at e1 e2
 exact h.2 _ x u e1 e2
theorem aq.set(h:aq K F H ds vs)(r:Rep K F H d v)(i:Nat):aq K F H (ds.set i d) (vs.set i v):=by
 refine⟨by simp[h.1],λj x u e1 e2=> ?_⟩
 by_cases hj:i=j
 ·subst hj
  have hi:i<ds.length:=by have:=(Gac.mp e1).1;simpa using this
  rw[Gbc hi] at e1
  rw[Gbc (by rw[←h.1];exact hi)] at e2
  cases e1;cases e2;exact r
 ·rw[Gaj hj] at e1 e2
  exact h.2 j x u e1 e2
theorem aq.get{i:Nat}(h:aq K F H ds vs)(e:ds[i]? =some d):∃v,vs[i]? =some v∧Rep K F H d v:=by
 have hi:=(Gac.mp e).1
 have hi' :i<vs.length:=by rw[←h.1];exact hi
 exact⟨vs[i],by simp[hi'],h.2 i d _ e (by simp[hi'])⟩
theorem aq.imm(h:aq K F H ds vs)(hd:bH ds=true):aq K F' H ds vs:=⟨h.1,λi d v e1 e2=>(h.2 i d v e1 e2).imm (kN hd i d e1)⟩
end
noncomputable def aZ:Option (Option Slot)→Prop
 |some (some (.own _))=>True
 |some (some (.lok _))=>True
 |some (some (.bor _))=>True
 |_=>False
noncomputable def uv:Option (Option Slot)→Prop
 |some (some (.own _))=>True
 |some (some (.lok _))=>True
 |_=>False
noncomputable def isO:Option (Option Slot)→Prop
 |some (some (.own _))=>True
 |_=>False
noncomputable def oC:Option (Option Slot)→Prop
 |some (some (.lok _))=>True
 |some (some (.bor _))=>True
 |_=>False
theorem ny{x:Option (Option Slot)}(h:aZ x):isO x∨oC x:=by
 match x,h with
 |some (some (.own _)),_=>exact .inl trivial
 |some (some (.lok _)),_=>exact .inr trivial
 |some (some (.bor _)),_=>exact .inr trivial
theorem oC.top{x:Option (Option Slot)}(h:oC x):aZ x:=by
 match x,h with
 |some (some (.lok _)),_=>trivial
 |some (some (.bor _)),_=>trivial
theorem isO.ol{x:Option (Option Slot)}(h:isO x):uv x:=by
 match x,h with
 |some (some (.own _)),_=>trivial
theorem uv.top{x:Option (Option Slot)}(h:uv x):aZ x:=by
 match x,h with
 |some (some (.own _)),_=>trivial
 |some (some (.lok _)),_=>trivial
noncomputable def Cln(Bad:Addr→Prop)(env:Env)(σ:St)(a:Addr):Prop:=¬Bad a∧∀i:Nat,aZ env[i]? →σ[i]? ≠some (some (V.ref a))
noncomputable def isW:HO→Prop
 | .lst _=>True
 | .dK _=>True
 | .dT _=>True
 |_=>False
noncomputable def Wr(H:Hp)(a:Addr):Prop:=∃o,H a=some o∧isW o
noncomputable def Ow(env:Env)(σ:St)(a:Addr):Prop:=∃i:Nat,isO env[i]? ∧σ[i]? =some (some (.ref a))
structure ak(K:aa)(H₀:Hp)(Bad:Addr→Prop)(env:Env)(σ:St)(H:Hp):Prop where
 same:bC H₀ H
 len:env.length=σ.length
 bad:∀a,Bad a→H a≠none
 sh:∀(i:Nat) d,env[i]? =some (some (.sh d))→∃v,σ[i]? =some (some v)∧Rep K (Cln Bad env σ) H d v
 ow:∀(i:Nat) d,(env[i]? =some (some (.own d))∨env[i]? =some (some (.lok d)))→∃a,σ[i]? =some (some (.ref a))∧H₀ a=none∧¬Bad a∧Wr H a∧d.top=true∧Inn K (Cln Bad env σ) H d (.ref a)
 bo:∀(i:Nat) d,env[i]? =some (some (.bor d))→∃a,σ[i]? =some (some (.ref a))∧Wr H a∧d.top=true∧Inn K (Cln Bad env σ) H d (.ref a)
 dj:∀(i j:Nat) a,uv env[i]? →aZ env[j]? →σ[i]? =some (some (.ref a))→σ[j]? =some (some (.ref a))→i=j
structure Stp(env:Env)(σ:St)(H:Hp)(env' :Env)(σ' :St)(H' :Hp):Prop where
 keep:∀b o,H b=some o→¬Ow env σ b→H' b=some o
 ow:∀b,Ow env' σ' b→Ow env σ b∨H b=none
 lk:∀i:Nat,oC env'[i]? →env'[i]? =env[i]? ∧σ'[i]? =σ[i]?
theorem Stp.refl{env:Env}{σ:St}{H:Hp}:Stp env σ H env σ H:=⟨λ_ _ e _=>e,λ_ h=> .inl h,λ_ _=> ⟨rfl,rfl⟩⟩
theorem Stp.of_same{env:Env}{σ:St}{H H' :Hp}(s:bC H H'):Stp env σ H env σ H' :=⟨λb o e _=>s b o e,λ_ h=> .inl h,λ_ _=> ⟨rfl,rfl⟩⟩
theorem Stp.trans{e1 e2 e3:Env}{s1 s2 s3:St}{H1 H2 H3:Hp}(a:Stp e1 s1 H1 e2 s2 H2)(b:Stp e2 s2 H2 e3 s3 H3):Stp e1 s1 H1 e3 s3 H3:=by
 refine⟨λc o e n=>b.keep c o (a.keep c o e n) λh=> ?_,λc h=> ?_,λi h=> ?_⟩
 ·rcases a.ow c h with q|q
  ·exact n q
  ·rw[e] at q;cases q
 ·rcases b.ow c h with q|q
  ·exact a.ow c q
  ·by_cases z:Ow e1 s1 c
   ·exact .inl z
   ·right
    cases e:H1 c with
    |none=>rfl
    |some o=>rw[a.keep c o e z] at q;cases q
 ·obtain⟨h1,h2⟩:=b.lk i h
  rw[h1] at h
  obtain⟨h3,h4⟩:=a.lk i h
  exact⟨h1.trans h3,h2.trans h4⟩
section
variable{K:aa}{H₀ H H' H1:Hp}{Bad:Addr→Prop}{env env' :Env}{σ σ' :St}{d:D}{v:V}{a:Addr}{i:Nat}
theorem Wr.same(s:bC H H')(w:Wr H a):Wr H' a:=let⟨o,h1,h2⟩:=w;⟨o,s a o h1,h2⟩
theorem Wr.there(w:Wr H a):H a≠none:=let⟨o,h1,_⟩:=w;by rw[h1];simp
theorem ak.mono(E:ak K H₀ Bad env σ H)(s:bC H H'):ak K H₀ Bad env σ H' where
 same:=E.same.trans s
 len:=E.len
 bad:=λa h e=>E.bad a h (s.free e)
 sh:=λi d e=>let⟨v,h1,h2⟩:=E.sh i d e;⟨v,h1,h2.same s⟩
 ow:=λi d e=>let⟨a,h1,h2,h3,h4,h5,h6⟩:=E.ow i d e;⟨a,h1,h2,h3,h4.same s,h5,h6.same s⟩
 bo:=λi d e=>let⟨a,h1,h2,h3,h4⟩:=E.bo i d e;⟨a,h1,h2.same s,h3,h4.same s⟩
 dj:=E.dj
theorem ak.Fs(E:ak K H₀ Bad env σ H)(h:aZ env[i]?):∃d a,d.top=true∧σ[i]? =some (some (.ref a))∧Wr H a∧Inn K (Cln Bad env σ) H d (.ref a):=by
 match e:env[i]?,h with
 |some (some (.own d)),_=>obtain⟨a,h1,_,_,h4,h5,h6⟩:=E.ow i d (.inl e);exact⟨d,a,h5,h1,h4,h6⟩
 |some (some (.lok d)),_=>obtain⟨a,h1,_,_,h4,h5,h6⟩:=E.ow i d (.inr e);exact⟨d,a,h5,h1,h4,h6⟩
 |some (some (.bor d)),_=>obtain⟨a,h1,h4,h5,h6⟩:=E.bo i d e;exact⟨d,a,h5,h1,h4,h6⟩
theorem ak.BZ(E:ak K H₀ Bad env σ H)(h:aZ env[i]?)(e:σ[i]? =some (some (.ref a))):Wr H a:=by
 obtain⟨d,b,h1,h2,h3,h4⟩:=E.Fs h
 rw[e] at h2;cases h2
 exact h3
theorem ak.j3(E:ak K H₀ Bad env σ H)(h:aZ env[i]?)(e:σ[i]? =some (some (.ref a))):H a≠none:=(E.BZ h e).there
theorem ak.oD(E:ak K H₀ Bad env σ H)(h:H a=none):Cln Bad env σ a:=⟨λb=>E.bad a b h,λi t e=>E.j3 t e h⟩
noncomputable def fh(K:aa)(H₀:Hp)(Bad:Addr→Prop)(env:Env)(σ:St)(H H' :Hp)(r:RV)(v:V):Prop:=
 match r.k with
 | .c=>Rep K (Cln Bad env σ) H' r.d v
 | .tn=>∃a,v= .ref a∧H a=none∧Wr H' a∧r.d.top=true∧Inn K (λb=>Cln Bad env σ b∧b≠a) H' r.d v
 | .to=>∃a,v= .ref a∧H₀ a=none∧Wr H' a∧r.d.top=true∧Inn K (Cln Bad env σ) H' r.d v
 | .tb=>Inn K (Cln Bad env σ) H' r.d v∧∀a,v= .ref a→r.d.top=true→¬Ow env σ a
theorem fh.inn{r:RV}(h:fh K H₀ Bad env σ H H' r v):Inn K (Cln Bad env σ) H' r.d v:=by
 obtain⟨k,d⟩:=r
 cases k with
 |c=>exact Rep.inn h
 |tn=>obtain⟨_,_,_,_,_,h⟩:=h;exact h.imp λ_ z=>z.1
 |to=>obtain⟨_,_,_,_,_,h⟩:=h;exact h
 |tb=>exact h.1
theorem fh.rep{r:RV}(h:fh K H₀ Bad env σ H H' r v)(E:ak K H₀ Bad env σ H)(hf:r.free=true):Rep K (Cln Bad env σ) H' r.d v:=by
 obtain⟨k,d⟩:=r
 cases k with
 |c=>exact h
 |tn=>
  obtain⟨a,e,h1,_,_,h2⟩:=h
  exact(h2.imp λ_ z=>z.1).rep λb eb _=>by rw[e] at eb;cases eb;exact E.oD h1
 |to=>simp[RV.free] at hf
 |tb=>simp[RV.free] at hf
theorem fh.same{r:RV}{H2:Hp}(h:fh K H₀ Bad env σ H H' r v)(s:bC H' H2):fh K H₀ Bad env σ H H2 r v:=by
 obtain⟨k,d⟩:=r
 cases k with
 |c=>exact Rep.same s h
 |tn=>obtain⟨a,e,h1,w,t,h2⟩:=h;subst e;exact⟨a,rfl,h1,w.same s,t,h2.same s⟩
 |to=>obtain⟨a,e,h1,w,t,h2⟩:=h;subst e;exact⟨a,rfl,h1,w.same s,t,h2.same s⟩
 |tb=>exact⟨h.1.same s,h.2⟩
theorem fh.from{r:RV}(s:bC H H1)(h:fh K H₀ Bad env σ H1 H' r v):fh K H₀ Bad env σ H H' r v:=by
 obtain⟨k,d⟩:=r
 cases k with
 |c=>exact h
 |tn=>obtain⟨a,e,h1,w,t,h2⟩:=h;exact⟨a,e,s.free h1,w,t,h2⟩
 |to=>exact h
 |tb=>exact h
noncomputable def nz(K:aa)(H₀ H' :Hp)(d:D)(v:V):Prop:=
 (d.top=true→∃a,v= .ref a∧H₀ a=none∧Wr H' a)∧Inn K (λb=>H₀ b=none∧v≠ .ref b) H' d v
theorem nz.rv(E:ak K H₀ Bad env σ H)(h:nz K H H' d v):fh K H₀ Bad env σ H H' (gp d) v:=by
 obtain⟨h1,h2⟩:=h
 unfold gp
 by_cases t:d.top=true
 ·rw[Gag t]
  obtain⟨a,e,n,w⟩:=h1 t
  subst e
  exact⟨a,rfl,n,w,t,h2.imp λb z=> ⟨E.oD z.1,λq=>z.2 (by rw[q])⟩⟩
 ·rw[Gaf t]
  exact(h2.imp λb z=>E.oD z.1).rep λ_ _ z=>absurd z t
end
open PySem PySem.Spec PyProof.Rows L2
noncomputable def tE(X:Cx)(f:DE):TE:=λσ H Q=>∃H₀ Bad env r,ak X.K H₀ Bad env σ H∧f env=some r∧∀v H',bC H H' →fh X.K H₀ Bad env σ H H' r v→Q v H'
noncomputable def tT(X:Cx)(t:DT):TT:=λσ H Q=>∃H₀ Bad env b,ak X.K H₀ Bad env σ H∧t env=some b∧∀H',bC H H' →Q b H'
noncomputable def tA(X:Cx)(a:DA):TA:=λσ H Q=>∃H₀ Bad env rs,ak X.K H₀ Bad env σ H∧a env=some rs∧∀vs H',bC H H' →Paired (fh X.K H₀ Bad env σ H H') rs vs→Q vs H'
noncomputable def Ft(X:Cx)(H₀:Hp)(Bad:Addr→Prop)(env:Env)(σ:St)(H:Hp)(E:Ends):Out→Prop
 | .nx e=>∀σ' H',ak X.K H₀ Bad e σ' H' →Stp env σ H e σ' H' →E.nx σ' H'
 | .bk e=>∀σ' H',ak X.K H₀ Bad e σ' H' →Stp env σ H e σ' H' →E.bk σ' H'
 | .ct e=>∀σ' H',ak X.K H₀ Bad e σ' H' →Stp env σ H e σ' H' →E.ct σ' H'
 | .ret d=>∀v H',bC H₀ H' →nz X.K H₀ H' d v→E.rt v H'
noncomputable def tS(X:Cx)(f:DS):TS:=λE σ H=>∃H₀ Bad env o,ak X.K H₀ Bad env σ H∧f env=some o∧Ft X H₀ Bad env σ H E o
noncomputable def tG(X:Cx)(g:DG):TG:=λv σ H Q=>∃H₀ Bad env d env',ak X.K H₀ Bad env σ H∧g d env=some env' ∧Rep X.K (Cln Bad env σ) H d v∧∀σ' H',ak X.K H₀ Bad env' σ' H' →Stp env σ H env' σ' H' →Q σ' H'
noncomputable abbrev PEd (X:Cx) (e:Expr) (f:DE):Prop:=PE X e (tE X f)
noncomputable abbrev PTd (X:Cx) (e:Expr) (t:DT):Prop:=PT X e (tT X t)
noncomputable abbrev PWd (X:Cx) (e:Expr) (t:DT):Prop:=PW X e (tT X t)
noncomputable abbrev PAd (X:Cx) (es:List Expr) (a:DA):Prop:=PA X es (tA X a)
noncomputable abbrev PSd (X:Cx) (st:Stmt) (f:DS):Prop:=PS X st (tS X f)
noncomputable abbrev gz (X:Cx) (st:List Stmt) (f:DS):Prop:=PSs X st (tS X f)
noncomputable abbrev PGd (X:Cx) (e:Expr) (g:DG):Prop:=PG X e (tG X g)
section
variable{X:Cx}{e a b c:Expr}{f g h:DE}{t u:DT}{pos:Pos}
theorem _root_.L2.PE.aC{t t' :TE}(h:PE X e t')(i:∀σ H Q,t σ H Q→t' σ H Q):PE X e t:=λpins s σ H Q I q=>h pins s σ H Q I (i σ H Q q)
theorem _root_.L2.PT.aC{t t' :TT}(h:PT X e t')(i:∀σ H Q,t σ H Q→t' σ H Q):PT X e t:=λpins s σ H Q I q=>h pins s σ H Q I (i σ H Q q)
theorem _root_.L2.PW.aC{t t' :TT}(h:PW X e t')(i:∀σ H Q,t σ H Q→t' σ H Q):PW X e t:=λwh pins s σ H Q I q=>h wh pins s σ H Q I (i σ H Q q)
theorem _root_.L2.PA.aC{es:List Expr}{t t' :TA}(h:PA X es t')(i:∀σ H Q,t σ H Q→t' σ H Q):PA X es t:=λpos pins s σ H Q I q=>h pos pins s σ H Q I (i σ H Q q)
theorem _root_.L2.PS.aC{st:Stmt}{t t' :TS}(h:PS X st t')(i:∀D σ H,t D σ H→t' D σ H):PS X st t:=λpins s σ H D I q=>h pins s σ H D I (i D σ H q)
theorem _root_.L2.PSs.aC{st:List Stmt}{t t' :TS}(h:PSs X st t')(i:∀D σ H,t D σ H→t' D σ H):PSs X st t:=λpins s σ H D I q=>h pins s σ H D I (i D σ H q)
theorem _root_.L2.PG.aC{t t' :TG}(h:PG X e t')(i:∀v σ H Q,t v σ H Q→t' v σ H Q):PG X e t:=λpins s σ H v u Q I r q=>h pins s σ H v u Q I r (i v σ H Q q)
theorem bF{H:Hp}:bC H H:=λ_ _ e=>e
theorem bind_some{α β:Type}{o:Option α}{k:α→Option β}{y:β}(h:o.bind k=some y):∃x,o=some x∧k x=some y:=Option.bind_eq_some_iff.mp h
theorem cg(i:Nat){x:Str}(hN:X.N[i]? =some x:=by rfl)(hv:Vis X.env.scope x:=by first|exact Or.inl rfl|exact Or.inr (Or.inl rfl)|exact Or.inr (Or.inr rfl))(hd:(x==("__debug__":Str))=false:=by decide)
  (hcd:(x==("__classdict__":Str))=false:=by decide):PEd X (.Name x pos) (vE i):=by
 refine(iA hN hv hd hcd).aC ?_
 rintro σ H Q ⟨H₀,Bad,env,r,E,e,k⟩
 unfold vE at e
 match q:env[i]?,e with
 |some (some (.sh d)),e=>
  cases e
  obtain⟨v,h1,h2⟩:=E.sh i d q
  exact⟨v,h1,k v H bF h2⟩
 |some (some (.own d)),e=>
  cases e
  obtain⟨a,h1,h2,h3,h4,h5,h6⟩:=E.ow i d (.inl q)
  exact⟨_,h1,k _ H bF ⟨a,rfl,h2,h4,h5,h6⟩⟩
 |some (some (.lok d)),e=>
  cases e
  obtain⟨a,h1,h2,h3,h4,h5,h6⟩:=E.ow i d (.inr q)
  refine⟨_,h1,k _ H bF ⟨h6,λb eb _ ⟨j,ho,hj⟩=> ?_⟩⟩
  cases eb
  have:=E.dj j i a ho.ol (by rw[q];trivial) hj h1
  subst this
  rw[q] at ho;exact ho
 |some (some (.bor d)),e=>
  cases e
  obtain⟨a,h1,h4,h5,h6⟩:=E.bo i d q
  refine⟨_,h1,k _ H bF ⟨h6,λb eb _ ⟨j,ho,hj⟩=> ?_⟩⟩
  cases eb
  have:=E.dj j i a ho.ol (by rw[q];trivial) hj h1
  subst this
  rw[q] at ho;exact ho
theorem af{i:Int}{j:Nat}:PEd X (.Constant (.int i) j pos) (kE (.int i)):=Cf.aC λσ H Q ⟨_,_,_,_,_,e,k⟩=>by cases e;exact k _ H bF (.int i)
theorem nA{b:Bool}{j:Nat}:PEd X (.Constant (.bool b) j pos) (kE (.bl b)):=Eo.aC λσ H Q ⟨_,_,_,_,_,e,k⟩=>by cases e;exact k _ H bF (.bl b)
theorem vM{j:Nat}:PEd X (.Constant .none j pos) (kE .non):=Cg.aC λσ H Q ⟨_,_,_,_,_,e,k⟩=>by cases e;exact k _ H bF .non
theorem gA{x:Str}{j:Nat}:PEd X (.Constant (.str x) j pos) (kE (.str x)):=Ci.aC λσ H Q ⟨_,_,_,_,_,e,k⟩=>by cases e;exact k _ H bF (.str x)
noncomputable def RvN(K:aa)(F:Addr→Prop)(H H' :Hp)(r:RV)(v:V):Prop:=
 match r.k with
 | .c=>Rep K F H' r.d v
 | .tn=>∃a,v= .ref a∧H a=none∧Wr H' a∧r.d.top=true∧Inn K (λb=>F b∧b≠a) H' r.d v
 |_=>False
theorem RvN.ok{K:aa}{H₀ H H1 H' :Hp}{Bad:Addr→Prop}{env:Env}{σ:St}{r:RV}{v:V}(h:RvN K (Cln Bad env σ) H1 H' r v)(s:bC H H1):fh K H₀ Bad env σ H H' r v:=by
 obtain⟨k,d⟩:=r
 cases k with
 |c=>exact h
 |tn=>obtain⟨a,e,h1,w,t,h2⟩:=h;exact⟨a,e,s.free h1,w,t,h2⟩
 |to=>exact(show False from h).elim
 |tb=>exact(show False from h).elim
noncomputable def OpD(X:Cx)(o:D→D→Option RV)(r:R2):Prop:=∀(F:Addr→Prop) (H:Hp) (dx dy:D) (x y:V) (rv:RV) (Q:VK),Inn X.K F H dx x→Inn X.K F H dy y→o dx dy=some rv→
 (∀v H',bC H H' →RvN X.K F H H' rv v→Q v H')→r x y H Q
theorem nB{op:Operator}{o:D→D→Option RV}{r:R2}(ho:OpR X (binaryOp op) r)(hd:OpD X o r)(ha:PEd X a f)(hb:PEd X b g):PEd X (.BinOp a op b pos) (opE o f g):=by
 refine(Ez ho ha hb).aC ?_
 rintro σ H Q ⟨H₀,Bad,env,rv,E,e,k⟩
 obtain⟨x,hx,e⟩:=bind_some e
 obtain⟨y,hy,e⟩:=bind_some e
 exact⟨H₀,Bad,env,x,E,hx,λvx H1 s1 R1=> ⟨H₀,Bad,env,y,E.mono s1,hy,λvy H2 s2 R2=>hd _ H2 x.d y.d vx vy rv Q (R1.inn.same s2) R2.inn e λv H3 s3 R3=>
  k v H3 (s1.trans (s2.trans s3)) (R3.ok (s1.trans s2))⟩⟩
theorem CY{o:D→D→Option RV}{gi:Int→Int→Int}(h:∀dx dy rv,o dx dy=some rv→∃i j,dx= .int i∧dy= .int j∧rv=⟨.c,.int (gi i j)⟩):OpD X o (rI0 λi j=> .int (gi i j)):=by
 intro F H dx dy x y rv Q ix iy e k
 obtain⟨i,j,rfl,rfl,rfl⟩:=h dx dy rv e
 cases ix;cases iy
 exact⟨i,j,rfl,rfl,k _ H bF (.int _)⟩
theorem sN{o:D→D→Option RV}{C:Int→Int→Prop}{gi:Int→Int→Int}(h:∀dx dy rv,o dx dy=some rv→∃i j,dx= .int i∧dy= .int j∧C i j∧rv=⟨.c,.int (gi i j)⟩):OpD X o (rI C λi j=> .int (gi i j)):=by
 intro F H dx dy x y rv Q ix iy e k
 obtain⟨i,j,rfl,rfl,hc,rfl⟩:=h dx dy rv e
 cases ix;cases iy
 exact⟨i,j,rfl,rfl,hc,k _ H bF (.int _)⟩
theorem AY:OpD X vF (rI0 λi j=> .int (i -j)):=CY λdx dy rv e=>by
 unfold vF at e
 split at e
 ·cases e;exact⟨_,_,rfl,rfl,rfl⟩
 ·cases e
theorem AZ:OpD X jE (rI AB λi j=> .int (i*j)):=sN λdx dy rv e=>by
 unfold jE at e
 split at e
 ·split at e
  ·rename_i i j q
   cases e
   refine⟨i,j,rfl,rfl, ?_,rfl⟩
   unfold dv at q
   rw[GaZ] at q
   rcases q with q|q
   ·left;have:=GaG q;omega
   ·right;have:=GaG q;omega
  ·cases e
 ·cases e
theorem vN:OpD X pI (rI EC λi j=> .int (i/j)):=sN λdx dy rv e=>by
 unfold pI at e
 split at e
 ·split at e
  ·rename_i i j q
   cases e
   exact⟨i,j,rfl,rfl,q,rfl⟩
  ·cases e
 ·cases e
theorem B0:OpD X d4 (rI (λ_ j=>0<j) λi j=> .int (i%j)):=sN λdx dy rv e=>by
 unfold d4 at e
 split at e
 ·split at e
  ·rename_i i j q
   cases e
   exact⟨i,j,rfl,rfl,q,rfl⟩
  ·cases e
 ·cases e
theorem B1:OpD X vG (rI ED λi j=> .int (i^j.toNat)):=sN λdx dy rv e=>by
 unfold vG at e
 split at e
 ·split at e
  ·rename_i i j q
   cases e
   exact⟨i,j,rfl,rfl,⟨q.1,by omega,by omega⟩,rfl⟩
  ·cases e
 ·cases e
noncomputable def C0:R2:=λx y H Q=>∃l b xs zs,x= .ref l∧y= .ref b∧Rd H l (.lst xs)∧Rd H b (.lst zs)∧xs.length+zs.length≤sizeLine∧∀p,H p=none→Q (.ref p) (upd H p (.lst (xs++zs)))
theorem B2:OpR X (binaryOp .Add) C0:=by
 intro pins s σ H x y v u Q I rx ry h
 obtain⟨l,b,xs,zs,rfl,rfl,hH,hB,hz,q⟩:=h
 cases rx
 cases ry
 obtain⟨z,its,n,r,e⟩:=(show br X.prog X.w H s.heap l (.lst xs) from hH.ok I.hok)
 obtain⟨z2,its2,n2,r2,e2⟩:=(show br X.prog X.w H s.heap b (.lst zs) from hB.ok I.hok)
 have hl:=r.length
 have hl2:=r2.length
 refine PySem.P.add_list e e2 ?_ (by rw[Gas,Gas];omega)
 have ea:its.toArray++its2.toArray=(its++its2).toArray:=by simp
 rw[ea]
 exact⟨.ref _,_,I.GI (t' :=s.toks) (r.append r2) (by rw[GaR];omega),rfl,q _ I.fresh⟩
theorem size_eq:ao=sizeLine:=by rw[Gbw];rfl
theorem aX{H:Hp}{p:Addr}{o:HO}(n:H p=none):bC H (upd H p o):=λb u e=>by rw[ay (cf e n)];exact e
theorem lG{K:aa}{F:Addr→Prop}{H:Hp}{p:Addr}{ds:List D}{vs:List V}(n:H p=none)(r:aq K F H ds vs):Rep K F (upd H p (.tup vs)) (.tup ds) (.ref p):=by
 have r2:=r.gen (F' :=F) (.of_same (aX (o:= .tup vs) n)) λ_ f _=>f
 exact .tup av r2.1 r2.2
theorem cj{K:aa}{F:Addr→Prop}{H:Hp}{p:Addr}{ds:List D}{vs:List V}(n:H p=none)(r:aq K F H ds vs):Inn K (λb=>F b∧b≠p) (upd H p (.lst vs)) (.lst ds) (.ref p):=
 .lst (.inl av) (r.gen (F' :=λb=>F b∧b≠p) (.of_same (aX (o:= .lst vs) n)) λb f hb=> ⟨f,λz=>hb (z▸n)⟩)
theorem jH{H:Hp}{p:Addr}{xs:List V}:Wr (upd H p (.lst xs)) p:=⟨_,av,trivial⟩
noncomputable def C1(K:aa):R2:=λx y H Q=>rI0 (λi j=> .int (i+j)) x y H Q∨(∃i j,x= .str i∧y= .str j∧i.length+j.length≤sizeLine∧Q (.str (i++j)) H)∨C0 x y H Q∨BU K x y H Q
theorem B3:OpR X (binaryOp .Add) (C1 X.K):=Cw.or (qW.or (B2.or AK))
theorem aq.ne{K:aa}{F:Addr→Prop}{H:Hp}{ds:List D}{vs:List V}(r:aq K F H ds vs):vs=[]↔ds=[]:=by
 constructor
 ·intro z;subst z;exact Gcb r.1
 ·intro z;subst z;exact r.bD
theorem B4:OpD X bY (C1 X.K):=by
 intro F H dx dy x y rv Q ix iy e k
 unfold bY at e
 split at e
 ·cases e;cases ix;cases iy
  exact .inl ⟨_,_,rfl,rfl,k _ H bF (.int _)⟩
 ·split at e
  ·rename_i q
   cases e;cases ix;cases iy
   exact .inr (.inl ⟨_,_,rfl,rfl,by rw[←size_eq];exact q,k _ H bF (.str _)⟩)
  ·cases e
 ·split at e
  ·rename_i xs ys q
   cases e
   cases ix with
   |tup hx rx=>
    cases iy with
    |tup hy ry=>
     refine .inr (.inr (.inr ⟨_,_,_,_,rfl,rfl,SqT.of hx,SqT.of hy, ?_, ?_, ?_, ?_⟩))
     ·intro z
      have:=rx.ne.mp z
      subst this
      exact absurd q.2 (by simp)
     ·rw[←rx.1,←ry.1,←size_eq];exact q.1
     ·intro z
      have:=ry.ne.mp z
      subst this
      refine k _ H bF ?_
      rw[GbH]
      exact .tup hx rx.1 rx.2
     ·intro z p n
      exact k _ _ (aX n) (lG n (rx.append ry))
  ·cases e
 ·split at e
  ·rename_i xs ys q
   cases e
   cases ix with
   |lst hx rx=>
    cases iy with
    |lst hy ry=>
     refine .inr (.inr (.inl ⟨_,_,_,_,rfl,rfl,hx,hy,by rw[←rx.1,←ry.1,←size_eq];exact q,λp n=> ?_⟩))
     exact k _ _ (aX n) ⟨p,rfl,n,jH,rfl,cj n (rx.append ry)⟩
  ·cases e
 ·cases e
theorem ba(ha:PEd X a f)(hb:PEd X b g):PEd X (.BinOp a .Add b pos) (opE bY f g):=nB B3 B4 ha hb
theorem CZ(ha:PEd X a f)(hb:PEd X b g):PEd X (.BinOp a .Sub b pos) (opE vF f g):=nB Cy AY ha hb
theorem fQ(ha:PEd X a f)(hb:PEd X b g):PEd X (.BinOp a .Mult b pos) (opE jE f g):=nB Cz AZ ha hb
theorem B5(ha:PEd X a f)(hb:PEd X b g):PEd X (.BinOp a .FloorDiv b pos) (opE pI f g):=nB AD vN ha hb
theorem bO(ha:PEd X a f)(hb:PEd X b g):PEd X (.BinOp a .Mod b pos) (opE d4 f g):=nB CA B0 ha hb
theorem D0(ha:PEd X a f)(hb:PEd X b g):PEd X (.BinOp a .Pow b pos) (opE vG f g):=nB CB B1 ha hb
noncomputable def OpB(X:Cx)(o:D→D→Option Bool)(r:R2):Prop:=∀(F:Addr→Prop) (H:Hp) (dx dy:D) (x y:V) (b:Bool) (Q:VK),Inn X.K F H dx x→Inn X.K F H dy y→o dx dy=some b→Q (.bl b) H→r x y H Q
theorem cS{op:CmpOp}{o:D→D→Option Bool}{r:R2}(ho:OpR X (compareOp op) r)(hd:OpB X o r)(ha:PEd X a f)(hb:PEd X b g)(hm:behindInMarks op b=false):PTd X (.Compare a [op] [b] pos) (dz o f g):=by
 refine(AF ho ha hb hm).aC ?_
 rintro σ H Q ⟨H₀,Bad,env,bb,E,e,k⟩
 obtain⟨x,hx,e⟩:=bind_some e
 obtain⟨y,hy,e⟩:=bind_some e
 exact⟨H₀,Bad,env,x,E,hx,λvx H1 s1 R1=> ⟨H₀,Bad,env,y,E.mono s1,hy,λvy H2 s2 R2=>hd _ H2 x.d y.d vx vy bb _ (R1.inn.same s2) R2.inn e ⟨bb,rfl,k H2 (s1.trans s2)⟩⟩⟩
theorem rl{op:CmpOp}{o:D→D→Option Bool}{r:R2}(ho:OpR X (compareOp op) r)(hd:OpB X o r)(ha:PEd X a f)(hb:PEd X b g)(hm:behindInMarks op b=false):PEd X (.Compare a [op] [b] pos) (bE (dz o f g)):=by
 refine(AE ho ha hb hm).aC ?_
 rintro σ H Q ⟨H₀,Bad,env,rv,E,e,k⟩
 obtain⟨bb,e',rfl⟩:=Gah.mp e
 clear e
 have e:=e'
 clear e'
 obtain⟨x,hx,e⟩:=bind_some e
 obtain⟨y,hy,e⟩:=bind_some e
 exact⟨H₀,Bad,env,x,E,hx,λvx H1 s1 R1=> ⟨H₀,Bad,env,y,E.mono s1,hy,λvy H2 s2 R2=>hd _ H2 x.d y.d vx vy bb _ (R1.inn.same s2) R2.inn e (k _ H2 (s1.trans s2) (.bl bb))⟩⟩
theorem C2{o:D→D→Option Bool}{gb:Int→Int→Bool}(h:∀dx dy b,o dx dy=some b→∃i j,dx= .int i∧dy= .int j∧b=gb i j):OpB X o (rI0 λi j=> .bl (gb i j)):=by
 intro F H dx dy x y b Q ix iy e q
 obtain⟨i,j,rfl,rfl,rfl⟩:=h dx dy b e
 cases ix;cases iy
 exact⟨i,j,rfl,rfl,q⟩
theorem vO:OpB X ltB (rI0 λi j=> .bl (decide (i<j))):=C2 λdx dy b e=>by
 unfold ltB at e;split at e<;>cases e;exact⟨_,_,rfl,rfl,rfl⟩
theorem rm:OpB X gtB (rI0 λi j=> .bl (decide (j<i))):=C2 λdx dy b e=>by
 unfold gtB at e;split at e<;>cases e;exact⟨_,_,rfl,rfl,rfl⟩
theorem uw{K:aa}{F:Addr→Prop}{H:Hp}{d:D}{x:V}(h:Inn K F H d x):decide (x= .non)=dw d:=by
 cases h<;>simp[dw]
theorem sO:OpB X vH (λx y H Q=>y= .non∧Q (.bl (decide (x= .non))) H):=by
 intro F H dx dy x y b Q ix iy e q
 simp only[vH,BY] at e
 split at e
 ·rename_i h
  cases e
  cases iy<;>simp[dw] at h
  exact⟨rfl,by rw[uw ix];exact q⟩
 ·cases e
theorem dG(h:PEd X e f)(he:∀whole,isTrue e X.env whole=(do let v←whole;standAt e.pos;holding [v] (truthy v)):=by intro _;rfl):PTd X e (iC f):=by
 refine(Cj h he).aC ?_
 rintro σ H Q ⟨H₀,Bad,env,bb,E,e,k⟩
 obtain⟨x,hx,e⟩:=bind_some e
 split at e
 ·rename_i b hb
  cases e
  refine⟨H₀,Bad,env,x,E,hx,λvx H1 s1 R1=> ⟨bb, ?_,k H1 s1⟩⟩
  have i:=R1.inn
  rw[hb] at i
  cases i;rfl
 ·cases e
theorem pR(h:PEd X e f):PEd X e (bE (iC f)):=by
 refine h.aC ?_
 rintro σ H Q ⟨H₀,Bad,env,rv,E,e,k⟩
 obtain⟨bb,e',rfl⟩:=Gah.mp e
 clear e
 have e:=e'
 clear e'
 obtain⟨x,hx,e⟩:=bind_some e
 split at e
 ·rename_i b hb
  cases e
  refine⟨H₀,Bad,env,x,E,hx,λvx H1 s1 R1=>k _ H1 s1 ?_⟩
  have i:=R1.inn
  rw[hb] at i
  cases i
  exact .bl _
 ·cases e
theorem sP(ha:PTd X a t):PWd X (.BoolOp .And [a] pos) t:=Ax ha
theorem vP(ha:PTd X a t):PWd X (.BoolOp .Or [a] pos) t:=Ck ha
theorem vQ{rest:List Expr}(ha:PTd X a t)(hb:PWd X (.BoolOp .And (b::rest) pos) u):PWd X (.BoolOp .And (a::b::rest) pos) (pJ t u):=by
 refine(Cm ha hb).aC ?_
 rintro σ H Q ⟨H₀,Bad,env,bb,E,e,k⟩
 obtain⟨x,hx,e⟩:=bind_some e
 refine⟨H₀,Bad,env,x,E,hx,λH1 s1=> ?_⟩
 cases x with
 |true=>rw[Gag rfl];rw[Gag rfl] at e;exact⟨H₀,Bad,env,bb,E.mono s1,e,λH2 s2=>k H2 (s1.trans s2)⟩
 |false=>rw[Gaf Gaz];rw[Gaf Gaz] at e;cases e;exact k H1 s1
theorem C3{rest:List Expr}(ha:PTd X a t)(hb:PWd X (.BoolOp .Or (b::rest) pos) u):PWd X (.BoolOp .Or (a::b::rest) pos) (orT t u):=by
 refine(Ep ha hb).aC ?_
 rintro σ H Q ⟨H₀,Bad,env,bb,E,e,k⟩
 obtain⟨x,hx,e⟩:=bind_some e
 refine⟨H₀,Bad,env,x,E,hx,λH1 s1=> ?_⟩
 cases x with
 |false=>rw[Gaf Gaz];rw[Gaf Gaz] at e;exact⟨H₀,Bad,env,bb,E.mono s1,e,λH2 s2=>k H2 (s1.trans s2)⟩
 |true=>rw[Gag rfl];rw[Gag rfl] at e;cases e;exact k H1 s1
theorem jI(ha:PTd X a t):PTd X (.UnaryOp .Not a pos) (ou t):=by
 refine(Cn ha).aC ?_
 rintro σ H Q ⟨H₀,Bad,env,bb,E,e,k⟩
 obtain⟨x,hx,rfl⟩:=Gah.mp e
 exact⟨H₀,Bad,env,x,E,hx,λH1 s1=>k H1 s1⟩
theorem rn{op:BoolOp}(ha:PEd X a (bE t)):PEd X (.BoolOp op [a] pos) (bE t):=Co ha
theorem oE{rest:List Expr}(ha:PEd X a (bE t))(hb:PEd X (.BoolOp .And (b::rest) pos) (bE u)):PEd X (.BoolOp .And (a::b::rest) pos) (bE (pJ t u)):=by
 refine(Cp ha hb).aC ?_
 rintro σ H Q ⟨H₀,Bad,env,rv,E,e,k⟩
 obtain⟨bb,e',rfl⟩:=Gah.mp e
 clear e
 have e:=e'
 clear e'
 obtain⟨x,hx,e⟩:=bind_some e
 refine⟨H₀,Bad,env,⟨.c,.bl x⟩,E,by unfold bE;rw[hx];rfl,λv H1 s1 R=> ?_⟩
 have R' :Inn X.K (Cln Bad env σ) H1 (.bl x) v:=R.inn
 cases R'
 refine⟨x,rfl, ?_⟩
 cases x with
 |true=>rw[Gag rfl];rw[Gag rfl] at e;exact⟨H₀,Bad,env,⟨.c,.bl bb⟩,E.mono s1,by unfold bE;rw[e];rfl,λv2 H2 s2 R2=>k v2 H2 (s1.trans s2) (R2.from s1)⟩
 |false=>rw[Gaf Gaz];rw[Gaf Gaz] at e;cases e;exact k _ H1 s1 (.bl false)
theorem D1(ha:PEd X a (bE t)):PEd X (.UnaryOp .Not a pos) (bE (ou t)):=by
 refine(Cq ha).aC ?_
 rintro σ H Q ⟨H₀,Bad,env,rv,E,e,k⟩
 obtain⟨bb,e',rfl⟩:=Gah.mp e
 clear e
 have e:=e'
 clear e'
 obtain⟨x,hx,rfl⟩:=Gah.mp e
 refine⟨H₀,Bad,env,⟨.c,.bl x⟩,E,by unfold bE;rw[hx];rfl,λv H1 s1 R=> ?_⟩
 have R' :Inn X.K (Cln Bad env σ) H1 (.bl x) v:=R.inn
 cases R'
 exact⟨x,rfl,k _ H1 s1 (.bl _)⟩
end
open PySem PySem.Spec PyProof.Rows L2
section
variable{X:Cx}{e a b c:Expr}{f g h:DE}{t u:DT}{pos:Pos}
theorem Scr.sq{K:aa}{H:Hp}{a:Addr}{ns:List Int}(h:Scr K H a ns):SqL K H a (ns.map V.int):=by
 rcases h with⟨o,h⟩|h
 ·exact .inl (.inr ⟨o,h⟩)
 ·exact .inr h
theorem vR{K:aa}{F:Addr→Prop}{H:Hp}{ds:List D}{vs:List V}{i:Int}{d:D}(r:aq K F H ds vs)(e:atD ds i=some d):∃v,atI vs i=some v∧Rep K F H d v:=by
 unfold atD at e
 unfold atI ixN
 rw[←r.1]
 split at e
 ·rename_i h0
  obtain⟨v,h1,h2⟩:=r.get e
  have hi:=(Gac.mp e).1
  refine⟨v, ?_,h2⟩
  rw[Gag h0,Gag (by omega)]
  exact h1
 ·rename_i h0
  split at e
  ·rename_i h1
   obtain⟨v,h2,h3⟩:=r.get e
   refine⟨v, ?_,h3⟩
   rw[Gaf h0,Gag h1]
   exact h2
  ·cases e
noncomputable def Fu:R2:=λx y H Q=>∃a v,x= .ref a∧r9 H a y (some v)∧Q v H
theorem B6(hu:X.A.units+1<cLine):IxR X Fu:=by
 intro value slice pins s σ H x y v u Q I rx ry h hs
 obtain⟨a,z,rfl,g,q⟩:=h
 cases rx
 exact tail_any (pG I g) PySem.F.slot_dict_getitem.lookup (uf hu I g ry λw' s3 I3 rw' => ⟨z,H,I3,rw',q⟩) hs
noncomputable def GW(K:aa):R2:=λx y H Q=>rIx K x y H Q∨Fu x y H Q
theorem B7(hu:X.A.units+1<cLine):IxR X (GW X.K):=CK.or (B6 hu)
theorem gB{κ:Type} [DecidableEq κ]{K:aa}{F:Addr→Prop}{H:Hp}:∀{kvs:List (κ×D)} {ws:List (κ×V)} {k:κ} {d:D},aJ K F H kvs ws→look kvs k=some d→∃v,i9 ws k=some v∧Rep K F H d v
 |[],ws,k,d,_,e=>by simp[look] at e
 |p::kvs,[],k,d,r,_=>absurd r.1 (by simp)
 |p::kvs,q::ws,k,d,r,e=>by
  have h1:p.1=q.1∧kvs.map (·.1)=ws.map (·.1):=by have:=r.1;simpa using this
  have r2:aJ K F H kvs ws:=⟨h1.2,λi x y e1 e2=>r.2 (i+1) x y (by simpa using e1) (by simpa using e2)⟩
  by_cases z:p.1=k
  ·have e' :look (p::kvs) k=some p.2:=by simp[look,Gbq,z]
   rw[e'] at e;cases e
   exact⟨q.2,iX (h1.1.symm.trans z),r.2 0 p q rfl rfl⟩
  ·have e' :look (p::kvs) k=look kvs k:=by simp[look,Gbq,z]
   rw[e'] at e
   obtain⟨v,h3,h4⟩:=gB r2 e
   exact⟨v,by rw[gu (λw=>z (h1.1.trans w))];exact h3,h4⟩
theorem jJ{κ:Type} [DecidableEq κ]{K:aa}{F:Addr→Prop}{H:Hp}:∀{kvs:List (κ×D)} {ws:List (κ×V)} {k:κ},aJ K F H kvs ws→look kvs k=none→i9 ws k=none
 |[],[],k,_,_=>rfl
 |[],q::ws,k,r,_=>absurd r.1 (by simp)
 |p::kvs,[],k,r,_=>absurd r.1 (by simp)
 |p::kvs,q::ws,k,r,e=>by
  have h1:p.1=q.1∧kvs.map (·.1)=ws.map (·.1):=by have:=r.1;simpa using this
  have r2:aJ K F H kvs ws:=⟨h1.2,λi x y e1 e2=>r.2 (i+1) x y (by simpa using e1) (by simpa using e2)⟩
  by_cases z:p.1=k
  ·have e' :look (p::kvs) k=some p.2:=by simp[look,Gbq,z]
   rw[e'] at e;cases e
  ·have e' :look (p::kvs) k=look kvs k:=by simp[look,Gbq,z]
   rw[e'] at e
   rw[gu (λw=>z (h1.1.trans w))]
   exact jJ r2 e
theorem jK{K:aa}{F:Addr→Prop}{H:Hp}{d:D}{x:V}{k:Key}(i:Inn K F H d x)(e:keyOf d=some k):x=kV k:=by
 unfold keyOf at e
 split at e<;>cases e<;>cases i<;>rfl
theorem gC{K:aa}{F:Addr→Prop}{H:Hp}:∀{ds:List D} {vs:List V} {ks:List Key},aq K F H ds vs→keysOf ds=some ks→vs=ks.map kV
 |[],vs,ks,r,e=>by cases e;rw[r.bD];rfl
 |d::ds,vs,ks,r,e=>by
  obtain⟨v,w,rfl,h1,h2⟩:=r.cons_inv
  unfold keysOf at e
  obtain⟨k,hk,e⟩:=bind_some e
  obtain⟨ks',hks,rfl⟩:=Gah.mp e
  rw[jK h1.inn hk,gC h2 hks]
  rfl
theorem kO{K:aa}{F:Addr→Prop}{H:Hp}{d k:D}{x y:V}(ix:Inn K F H d x)(iy:Inn K F H k y):
  (∀kvs key,d= .dK kvs→keyOf k=some key→∃a ws,x= .ref a∧aJ K F H kvs ws∧r9 H a y (i9 ws key))∧
  (∀kvs ks key,d= .dT kvs→k= .tup ks→keysOf ks=some key→∃a ws,x= .ref a∧aJ K F H kvs ws∧r9 H a y (i9 ws key)):=by
 refine⟨λkvs key ed ek=> ?_,λkvs ks key ed ek e=> ?_⟩
 ·subst ed
  cases ix with
  |dK h r=>exact⟨_,_,rfl,r,.inl ⟨_,key,.inl h,jK iy ek,rfl⟩⟩
 ·subst ed ek
  cases ix with
  |dT h r=>
   cases iy with
   |tup hy ry=>exact⟨_,_,rfl,r,.inr ⟨_,key,_,.inl h,rfl,by rw[←gC ry e];exact hy,rfl⟩⟩
theorem dH(hu:X.A.units+1<cLine)(ha:PEd X a f)(hb:PEd X b g)(hs:sE b:=by exactλ_ _=>rfl):PEd X (.Subscript a b pos) (ixE f g):=by
 refine(EK (B7 hu) ha hb hs).aC ?_
 rintro σ H Q ⟨H₀,Bad,env,rv,E,e,k⟩
 obtain⟨x,hx,e⟩:=bind_some e
 obtain⟨y,hy,e⟩:=bind_some e
 obtain⟨d,e',rfl⟩:=Gah.mp e
 clear e
 have e:=e'
 clear e'
 refine⟨H₀,Bad,env,x,E,hx,λvx H1 s1 R1=> ⟨H₀,Bad,env,y,E.mono s1,hy,λvy H2 s2 R2=> ?_⟩⟩
 have ix:=R1.inn.same s2
 have iy:=R2.inn
 have fin:∀v,Rep X.K (Cln Bad env σ) H2 d v→Q v H2:=λv r=>k v H2 (s1.trans s2) r
 generalize x.d=dx at ix e
 generalize y.d=dy at iy e
 unfold ixD at e
 split at e
 ·cases iy
  cases ix with
  |lst h r=>
   obtain⟨v,h1,h2⟩:=vR r e
   exact .inl (.inl ⟨_,_,_,v,rfl,rfl,.inl h,h1,fin v h2⟩)
 ·cases iy
  cases ix with
  |tup h r=>
   obtain⟨v,h1,h2⟩:=vR r e
   exact .inl (.inr (.inl ⟨_,_,_,v,rfl,rfl,SqT.of h,h1,fin v h2⟩))
 ·split at e
  ·rename_i hz
   obtain⟨ch,e',rfl⟩:=Gah.mp e
   clear e
   have e:=e'
   clear e'
   cases iy;cases ix
   refine .inl (.inr (.inr ⟨_,_,ch,rfl,rfl,by rw[←size_eq];exact hz, ?_,fin _ (.str _)⟩))
   unfold atD at e
   unfold atI ixN
   split at e
   ·rename_i h0
    have hi:=(Gac.mp e).1
    rw[Gag h0,Gag (by omega)]
    exact e
   ·rename_i h0
    split at e
    ·rename_i h1
     rw[Gaf h0,Gag h1]
     exact e
    ·cases e
  ·cases e
 ·obtain⟨key,hk,e⟩:=bind_some e
  obtain⟨p,ws,rfl,r,dg⟩:=(kO ix iy).1 _ key rfl hk
  obtain⟨v,h1,h2⟩:=gB r e
  rw[h1] at dg
  exact .inr ⟨p,v,rfl,dg,fin v h2⟩
 ·obtain⟨key,hk,e⟩:=bind_some e
  obtain⟨p,ws,rfl,r,dg⟩:=(kO ix iy).2 _ _ key rfl rfl hk
  obtain⟨v,h1,h2⟩:=gB r e
  rw[h1] at dg
  exact .inr ⟨p,v,rfl,dg,fin v h2⟩
 ·obtain⟨n,e',rfl⟩:=Gah.mp e
  clear e
  have e:=e'
  clear e'
  cases iy
  cases ix with
  |scr h=>
   refine .inl (.inl ⟨_,_,_,.int n,rfl,rfl,h.sq, ?_,fin _ (.int n)⟩)
   unfold atD at e
   unfold atI ixN
   rw[Gan]
   split at e
   ·rename_i h0
    have hi:=(Gac.mp e).1
    rw[Gag h0,Gag (by omega)]
    show(List.map V.int _)[_]? =_
    rw[Gav,e];rfl
   ·rename_i h0
    split at e
    ·rename_i h1
     rw[Gaf h0,Gag h1]
     show(List.map V.int _)[_]? =_
     rw[Gav,e];rfl
    ·cases e
 ·cases e
theorem ab:PAd X [] ax:=by
 refine jA.aC ?_
 rintro σ H Q ⟨H₀,Bad,env,rs,E,e,k⟩
 cases e
 exact k [] H bF .nil
theorem kn{K:aa}{H₀ H H1 H' :Hp}{Bad:Addr→Prop}{env:Env}{σ:St}(s:bC H H1):∀{rs:List RV} {vs:List V},Paired (fh K H₀ Bad env σ H1 H') rs vs→Paired (fh K H₀ Bad env σ H H') rs vs
 |_,_,.nil=> .nil
 |_,_,.cons h t=> .cons (h.from s) (kn s t)
theorem a0{es:List Expr}{r:DA}(ha:PEd X e f)(hr:PAd X es r)(hs:starEach (e::es) X.env=(false,eval e X.env)::starEach es X.env:=by rfl):PAd X (e::es) (a8 f r):=by
 refine(dS ha hr hs).aC ?_
 rintro σ H Q ⟨H₀,Bad,env,rs,E,e,k⟩
 obtain⟨x,hx,e⟩:=bind_some e
 obtain⟨xs,hxs,e⟩:=bind_some e
 cases e
 exact⟨H₀,Bad,env,x,E,hx,λvx H1 s1 R1=> ⟨H₀,Bad,env,xs,E.mono s1,hxs,λvs H2 s2 Rs=>k _ H2 (s1.trans s2) (.cons (R1.same s2) (kn s1 Rs))⟩⟩
theorem jL{K:aa}{H₀ H H' :Hp}{Bad:Addr→Prop}{env:Env}{σ:St}(E:ak K H₀ Bad env σ H):∀{rs:List RV} {vs:List V},Paired (fh K H₀ Bad env σ H H') rs vs→rs.all (·.free)=true→aq K (Cln Bad env σ) H' (rs.map (·.d)) vs
 |_,_,.nil,_=>aq.nil
 |r::rs,v::vs,.cons h t,f=>by
  rw[Gbv,Gal] at f
  exact aq.cons (h.rep E f.1) (jL E t f.2)
theorem lH{es:List Expr}{r:DA}{j:Nat}(ha:PAd X es r):PEd X (.Tuple es j pos) (uj r):=by
 refine(CF ha).aC ?_
 rintro σ H Q ⟨H₀,Bad,env,rv,E,e,k⟩
 obtain⟨rs,hr,e⟩:=bind_some e
 split at e
 ·rename_i q
  rw[Gal] at q
  cases e
  refine⟨H₀,Bad,env,rs,E,hr,λvs H1 s1 Rs=> ?_⟩
  have rep:=jL E Rs q.1
  refine⟨by rw[←rep.1,Gan,←size_eq];exact GaG q.2,λp n=> ?_⟩
  exact k _ _ (s1.trans (aX n)) (lG n rep)
 ·cases e
theorem jM{es:List Expr}{r:DA}(ha:PAd X es r):PEd X (.List es pos) (rf r):=by
 refine(CG ha).aC ?_
 rintro σ H Q ⟨H₀,Bad,env,rv,E,e,k⟩
 obtain⟨rs,hr,e⟩:=bind_some e
 split at e
 ·rename_i q
  rw[Gal] at q
  cases e
  refine⟨H₀,Bad,env,rs,E,hr,λvs H1 s1 Rs=> ?_⟩
  have rep:=jL E Rs q.1
  refine⟨by rw[←rep.1,Gan,←size_eq];exact GaG q.2,λp n=> ?_⟩
  exact k _ _ (s1.trans (aX n)) ⟨p,rfl,s1.free n,jH,rfl,cj n rep⟩
 ·cases e
noncomputable def spD(K:aa)(np:Nat)(sp:List D→Option D):Sp:=λvs H Q _=>∃ds d,ds.length=np∧aq K (λ_=>True) H ds vs∧sp ds=some d∧∀v H',bC H H' →nz K H H' d v→Q v H'
theorem nC{K:aa}{H₀ H H' :Hp}{Bad:Addr→Prop}{env:Env}{σ:St}:∀{rs:List RV} {vs:List V},Paired (fh K H₀ Bad env σ H H') rs vs→aq K (λ_=>True) H' (rs.map (·.d)) vs
 |_,_,.nil=>aq.nil
 |r::rs,v::vs,.cons h t=>aq.cons h.inn.any (nC t)
theorem kP{CX:CXT}{k:Nat}{fa:Addr}{fd:FuncData}{ps:List Str}{np:Nat}{sp:List D→Option D}{x:Str}{p:Pos}{es:List Expr}{r:DA}{E:XK}(F:fj X.prog X.w X.K X.mg X.base CX k fa fd ps (spD X.K np sp))(hr:dR k X.A)(hg:Gl X x)
  (hm:X.mg x=some (.ref fa))(hk:PySem.W.keepIn X.K (.ref fa)=true)(hb:Binds X.K fd ps [])(hx:Passes CX X E)(ha:PAd X (e::es) r)(hl:∀env rs,r env=some rs→rs.length=np)
  (hdb:(x==("__debug__":Str))=false:=by decide)(he:starEach (e::es) X.env=(false,eval e X.env)::starEach es X.env:=by rfl)(hpl:(backTo pos (starEach es X.env)).any (·.1)=false:=by rfl):
  PEd X (.Call (.Name x p) (e::es) [] pos) (aI sp r):=by
 refine(AI (dvs:=[]) F hr hg hm hk hb .nil hx ha hdb he hpl).aC ?_
 rintro σ H Q ⟨H₀,Bad,env,rv,E,e,k⟩
 obtain⟨rs,hrs,e⟩:=bind_some e
 obtain⟨d,hd,rfl⟩:=Gah.mp e
 refine⟨H₀,Bad,env,rs,E,hrs,λvs H1 s1 Rs=> ⟨rs.map (·.d),d,by rw[Gan];exact hl env rs hrs, ?_,hd,λv H2 s2 R2=>k v H2 (s1.trans s2) ((R2.rv (E.mono s1)).from s1)⟩⟩
 rw[GbH]
 exact nC Rs
noncomputable def CallD(X:Cx)(o:List D→Option RV)(r:List V→Hp→VK→Prop):Prop:=∀(F:Addr→Prop) (H:Hp) (ds:List D) (vs:List V) (rv:RV) (Q:VK),Paired (Inn X.K F H) ds vs→o ds=some rv→(∀v H',bC H H' →RvN X.K F H H' rv v→Q v H')→r vs H Q
theorem iG{K:aa}{H₀ H H' :Hp}{Bad:Addr→Prop}{env:Env}{σ:St}:∀{rs:List RV} {vs:List V},Paired (fh K H₀ Bad env σ H H') rs vs→Paired (Inn K (Cln Bad env σ) H') (rs.map (·.d)) vs
 |_,_,.nil=> .nil
 |_,_,.cons h t=> .cons h.inn (iG t)
theorem bZ{id:String}{o:List D→Option RV}{r:List V→Hp→VK→Prop}{x:Str}{p:Pos}{es:List Expr}{ra:DA}(hc:cP X (.builtin id) r)(hd:CallD X o r)(hg:Gl X x)(hm:X.mg x=none)(hv:bootBuiltins x=some (.builtin id))(ha:PAd X (e::es) ra)
  (hn:x≠"__name__":=by decide)(hdb:(x==("__debug__":Str))=false:=by decide)(he:starEach (e::es) X.env=(false,eval e X.env)::starEach es X.env:=by rfl)(hpl:(backTo pos (starEach es X.env)).any (·.1)=false:=by rfl):
  PEd X (.Call (.Name x p) (e::es) [] pos) (dA o ra):=by
 refine(lz hc hg hm hv ha hn hdb he hpl).aC ?_
 rintro σ H Q ⟨H₀,Bad,env,rv,E,e,k⟩
 obtain⟨rs,hrs,e⟩:=bind_some e
 exact⟨H₀,Bad,env,rs,E,hrs,λvs H1 s1 Rs=>hd _ H1 _ vs rv Q (iG Rs) e λv H2 s2 R2=>k v H2 (s1.trans s2) (R2.ok s1)⟩
theorem lJ{T:String}{o:List D→Option RV}{r:List V→Hp→VK→Prop}{x:Str}{p:Pos}{es:List Expr}{ra:DA}(hc:cP X (.type T) r)(hd:CallD X o r)(hg:Gl X x)(hm:X.mg x=none)(hv:bootBuiltins x=some (.type T))(ha:PAd X (e::es) ra)
  (hn:x≠"__name__":=by decide)(hdb:(x==("__debug__":Str))=false:=by decide)(he:starEach (e::es) X.env=(false,eval e X.env)::starEach es X.env:=by rfl)(hpl:(backTo pos (starEach es X.env)).any (·.1)=false:=by rfl):
  PEd X (.Call (.Name x p) (e::es) [] pos) (dA o ra):=by
 refine(jB hc hg hm hv ha hn hdb he hpl).aC ?_
 rintro σ H Q ⟨H₀,Bad,env,rv,E,e,k⟩
 obtain⟨rs,hrs,e⟩:=bind_some e
 exact⟨H₀,Bad,env,rs,E,hrs,λvs H1 s1 Rs=>hd _ H1 _ vs rv Q (iG Rs) e λv H2 s2 R2=>k v H2 (s1.trans s2) (R2.ok s1)⟩
theorem cX{R:D→V→Prop}{d:D}{vs:List V}(h:Paired R [d] vs):∃v,vs=[v]∧R d v:=by
 cases h with
 |cons h t=>cases t;exact⟨_,rfl,h⟩
theorem bc:cP X (.builtin "len") (λxs H Q=>∃a kvs,xs=[.ref a]∧Rd H a (.dK kvs)∧Q (.int kvs.length) H):=by
 intro pins s σ H xs us Q I r h
 obtain⟨a,kvs,rfl,e,q⟩:=h
 obtain⟨u,rfl,rx⟩:=vals1 r
 cases rx
 exact ET I e λt s' I' => ⟨.int kvs.length,H,I',⟨t,rfl⟩,q⟩
theorem bh:CallD X cC (λxs H Q=>(∃x n,xs=[x]∧EG X.K x H n∧Q (.int n) H)∨(∃a kvs,xs=[.ref a]∧Rd H a (.dK kvs)∧Q (.int kvs.length) H)):=by
 intro F H ds vs rv Q ps e k
 unfold cC at e
 split at e
 ·cases e
  obtain⟨v,rfl,i⟩:=cX ps
  cases i with
  |lst h r=>exact .inl ⟨_,_,rfl,.inl ⟨_,.inl h,r.1⟩,k _ H bF (.int _)⟩
 ·cases e
  obtain⟨v,rfl,i⟩:=cX ps
  cases i with
  |tup h r=>exact .inl ⟨_,_,rfl,.inr ⟨_,SqT.of h,r.1⟩,k _ H bF (.int _)⟩
 ·split at e
  ·rename_i q
   cases e
   obtain⟨v,rfl,i⟩:=cX ps
   cases i
   exact .inl ⟨_,_,rfl,⟨by rw[←size_eq];exact q,rfl⟩,k _ H bF (.int _)⟩
  ·cases e
 ·cases e
  obtain⟨v,rfl,i⟩:=cX ps
  cases i with
  |dK h r=>
   have hl:=congrArg List.length r.1
   rw[Gan,Gan] at hl
   exact .inr ⟨_,_,rfl,.inl h,by rw[←hl];exact k _ H bF (.int _)⟩
 ·cases e
  obtain⟨v,rfl,i⟩:=cX ps
  cases i with
  |scr h=>exact .inl ⟨_,_,rfl,.inl ⟨_,h.sq,by simp⟩,k _ H bF (.int _)⟩
 ·cases e
theorem iH:CallD X listS (λxs H Q=>∃p ys,xs=[.ref p]∧(SqL X.K H p ys∨SqT X.K H p ys)∧∀l,H l=none→Q (.ref l) (upd H l (.lst ys))):=by
 intro F H ds vs rv Q ps e k
 unfold listS at e
 split at e
 ·cases e
  obtain⟨v,rfl,i⟩:=cX ps
  cases i with
  |lst h r=>
   refine⟨_,_,rfl,.inl (.inl h),λl n=> ?_⟩
   exact k _ _ (aX n) ⟨l,rfl,n,jH,rfl,cj n r⟩
 ·cases e
  obtain⟨v,rfl,i⟩:=cX ps
  cases i with
  |tup h r=>
   refine⟨_,_,rfl,.inr (SqT.of h),λl n=> ?_⟩
   exact k _ _ (aX n) ⟨l,rfl,n,jH,rfl,cj n r⟩
 ·cases e
end
open PySem PySem.Spec PyProof.Rows L2
section
variable{K:aa}{H₀ H H' :Hp}{Bad:Addr→Prop}{env env' :Env}{σ σ' :St}{d:D}{v:V}{a:Addr}{i:Nat}
theorem get_set{α:Type}{l:List α}{i j:Nat}{x y:α}(e:(l.set i x)[j]? =some y):(i=j∧y=x)∨(i≠j∧l[j]? =some y):=by
 by_cases h:i=j
 ·subst h
  have hi:i<l.length:=by have:=(Gac.mp e).1;simpa using this
  rw[Gbc hi] at e
  cases e
  exact .inl ⟨rfl,rfl⟩
 ·rw[Gaj h] at e
  exact .inr ⟨h,e⟩
theorem set_same{α:Type}{l:List α}{i:Nat}{x:α}(e:l[i]? =some x):l.set i x=l:=by
 apply GcI
 intro j
 by_cases h:i=j
 ·subst h
  rw[Gbc (Gac.mp e).1,e]
 ·rw[Gaj h]
theorem bI{α:Type}{l:List α}{i:Nat}{x:α}(h:i<l.length):(l.set i x)[i]? =some x:=Gbc h
theorem cT{j:Nat}(h:aZ (env.set i (some (.sh d)))[j]?):i≠j∧aZ env[j]? :=by
 by_cases q:i=j
 ·subst q
  by_cases z:i<env.length
  ·rw[bI z] at h;exact h.elim
  ·rw[Gbf (by simpa using Nat.le_of_not_lt z)] at h;exact h.elim
 ·rw[Gaj q] at h
  exact⟨q,h⟩
theorem ak.pS(E:ak K H₀ Bad env σ H)(r:Rep K (Cln Bad env σ) H d v):ak K H₀ Bad (env.set i (some (.sh d))) (σ.set i (some v)) H:=by
 have cln:∀b,Cln Bad env σ b→Cln Bad (env.set i (some (.sh d))) (σ.set i (some v)) b:=λb ⟨h1,h2⟩=> ⟨h1,λj t e=>by
  obtain⟨q,t⟩:=cT t
  rw[Gaj q] at e
  exact h2 j t e⟩
 refine⟨E.same,by simp[E.len],E.bad,λj dj e=> ?_,λj dj e=> ?_,λj dj e=> ?_,λj k b t1 t2 e1 e2=> ?_⟩
 ·rcases get_set e with⟨q,e⟩| ⟨q,e⟩
  ·cases e
   subst q
   have hi:i<env.length:=by have:=(Gac.mp e);simpa using this.1
   exact⟨v,bI (by rw[←E.len];exact hi),r.imp cln⟩
  ·obtain⟨w,h1,h2⟩:=E.sh j dj e
   exact⟨w,by rw[Gaj q];exact h1,h2.imp cln⟩
 ·have e' :i≠j∧(env[j]? =some (some (.own dj))∨env[j]? =some (some (.lok dj))):=by
   rcases e with e|e
   ·rcases get_set e with⟨q,e⟩| ⟨q,e⟩
    ·cases e
    ·exact⟨q,.inl e⟩
   ·rcases get_set e with⟨q,e⟩| ⟨q,e⟩
    ·cases e
    ·exact⟨q,.inr e⟩
  obtain⟨b,h1,h2,h3,h4,h5,h6⟩:=E.ow j dj e'.2
  exact⟨b,by rw[Gaj e'.1];exact h1,h2,h3,h4,h5,h6.imp cln⟩
 ·rcases get_set e with⟨q,e⟩| ⟨q,e⟩
  ·cases e
  ·obtain⟨b,h1,hw,h2,h3⟩:=E.bo j dj e
   exact⟨b,by rw[Gaj q];exact h1,hw,h2,h3.imp cln⟩
 ·obtain⟨q1,t1'⟩:=cT t1.top
  obtain⟨q2,t2⟩:=cT t2
  rw[Gaj q1] at e1 t1
  rw[Gaj q2] at e2
  exact E.dj j k b t1 t2 e1 e2
theorem Stp.pS:Stp env σ H (env.set i (some (.sh d))) (σ.set i (some v)) H:=⟨λ_ _ e _=>e,λb ⟨j,h,e⟩=>by
 have h' :aZ (env.set i (some (.sh d)))[j]? :=h.ol.top
 obtain⟨q,_⟩:=cT h'
 rw[Gaj q] at h e
 exact .inl ⟨j,h,e⟩,λj h=>by
 obtain⟨q,_⟩:=cT h.top
 rw[Gaj q,Gaj q]
 exact⟨rfl,rfl⟩⟩
theorem dY{j:Nat}(h:aZ (env.set i (some (.own d)))[j]?)(hi:i<env.length):i=j∨(i≠j∧aZ env[j]?):=by
 by_cases q:i=j
 ·exact .inl q
 ·rw[Gaj q] at h
  exact .inr ⟨q,h⟩
theorem ak.vS(E:ak K H₀ Bad env σ H)(hi:i<env.length)(n0:H₀ a=none)(nb:¬Bad a)(w:Wr H' a)(t:d.top=true)(s:bC H₀ H')(bd:∀b,Bad b→H' b≠none)
  (ne:∀j b,j≠i→aZ env[j]? →σ[j]? =some (some (.ref b))→b≠a∧H' b=H b)
  (inn:Inn K (Cln Bad (env.set i (some (.own d))) (σ.set i (some (.ref a)))) H' d (.ref a))
  (cln:∀b,Cln Bad env σ b→H b≠none→Cln Bad (env.set i (some (.own d))) (σ.set i (some (.ref a))) b)
  (gq:gy (Cln Bad env σ) H H'):
  ak K H₀ Bad (env.set i (some (.own d))) (σ.set i (some (.ref a))) H' :=by
 have keep:∀{j:Nat} {b:Addr} {dj:D},j≠i→aZ env[j]? →σ[j]? =some (some (.ref b))→Inn K (Cln Bad env σ) H dj (.ref b)→Inn K (Cln Bad (env.set i (some (.own d))) (σ.set i (some (.ref a)))) H' dj (.ref b):=λ{j b dj} hj tj ej h=>
  h.gen gq cln λb' eb _ o e=>by cases eb;rw[(ne j b hj tj ej).2];exact e
 refine⟨s,by simp[E.len],bd,λj dj e=> ?_,λj dj e=> ?_,λj dj e=> ?_,λj k b t1 t2 e1 e2=> ?_⟩
 ·rcases get_set e with⟨q,e⟩| ⟨q,e⟩
  ·cases e
  ·obtain⟨u,h1,h2⟩:=E.sh j dj e
   exact⟨u,by rw[Gaj q];exact h1,h2.gen gq cln⟩
 ·have e' :(i=j∧dj=d)∨(i≠j∧(env[j]? =some (some (.own dj))∨env[j]? =some (some (.lok dj)))):=by
   rcases e with e|e
   ·rcases get_set e with⟨q,e⟩| ⟨q,e⟩
    ·cases e;exact .inl ⟨q,rfl⟩
    ·exact .inr ⟨q,.inl e⟩
   ·rcases get_set e with⟨q,e⟩| ⟨q,e⟩
    ·cases e
    ·exact .inr ⟨q,.inr e⟩
  rcases e' with⟨q,rfl⟩| ⟨q,e'⟩
  ·subst q
   exact⟨a,bI (by rw[←E.len];exact hi),n0,nb,w,t,inn⟩
  ·obtain⟨b,h1,h2,h3,h4,h5,h6⟩:=E.ow j dj e'
   have tj:aZ env[j]? :=by rcases e' with e' |e' <;>rw[e']<;>trivial
   refine⟨b,by rw[Gaj q];exact h1,h2,h3, ?_,h5,keep (Gbl q) tj h1 h6⟩
   unfold Wr
   rw[(ne j b (Gbl q) tj h1).2]
   exact h4
 ·rcases get_set e with⟨q,e⟩| ⟨q,e⟩
  ·cases e
  ·obtain⟨b,h1,hw,h2,h3⟩:=E.bo j dj e
   have tj:aZ env[j]? :=by rw[e];trivial
   refine⟨b,by rw[Gaj q];exact h1, ?_,h2,keep (Gbl q) tj h1 h3⟩
   unfold Wr
   rw[(ne j b (Gbl q) tj h1).2]
   exact hw
 ·rcases dY t1.top hi with q1| ⟨q1,t1'⟩
  ·rcases dY t2 hi with q2| ⟨q2,t2'⟩
   ·rw[←q1,←q2]
   ·subst q1
    rw[bI (by rw[←E.len];exact hi)] at e1
    cases e1
    rw[Gaj q2] at e2
    exact absurd rfl (ne k a (Gbl q2) t2' e2).1
  ·rcases dY t2 hi with q2| ⟨q2,t2'⟩
   ·subst q2
    rw[bI (by rw[←E.len];exact hi)] at e2
    cases e2
    rw[Gaj q1] at e1
    exact absurd rfl (ne j a (Gbl q1) t1' e1).1
   ·rw[Gaj q1] at e1 t1
    rw[Gaj q2] at e2
    exact E.dj j k b t1 t2' e1 e2
theorem pT(hi:i<env.length)(hs:env.length=σ.length){b:Addr}(h:Cln Bad env σ b)(hb:b≠a):Cln Bad (env.set i (some (.own d))) (σ.set i (some (.ref a))) b:=⟨h.1,λj t e=>by
 rcases dY t hi with q| ⟨q,t⟩
 ·subst q
  rw[bI (by rw[←hs];exact hi)] at e
  cases e
  exact hb rfl
 ·rw[Gaj q] at e
  exact h.2 j t e⟩
theorem ak.lK(E:ak K H₀ Bad env σ H)(s:bC H H')(hi:i<env.length)(n:H a=none)(w:Wr H' a)(t:d.top=true)(hin:Inn K (λb=>Cln Bad env σ b∧b≠a) H' d (.ref a)):
  ak K H₀ Bad (env.set i (some (.own d))) (σ.set i (some (.ref a))) H' :=by
 have cln:∀b,Cln Bad env σ b→b≠a→Cln Bad (env.set i (some (.own d))) (σ.set i (some (.ref a))) b:=λb h hb=>pT hi E.len h hb
 have cln' :∀b,Cln Bad env σ b→H b≠none→Cln Bad (env.set i (some (.own d))) (σ.set i (some (.ref a))) b:=λb h hb=>cln b h λz=>hb (z▸n)
 refine E.vS (H' :=H') hi (E.same.free n) (λb=>E.bad a b n) w t (E.same.trans s) (λb h e=>E.bad b h (s.free e)) (λj b hj tj ej=> ?_) (hin.imp λb h=>cln b h.1 h.2) cln' (.of_same s)
 have hb:=E.j3 tj ej
 refine⟨λz=>hb (z▸n), ?_⟩
 cases q:H b with
 |none=>exact absurd q hb
 |some o=>exact s b o q
theorem Stp.lK(s:bC H H')(hi:i<env.length)(hs:env.length=σ.length)(n:H a=none):Stp env σ H (env.set i (some (.own d))) (σ.set i (some (.ref a))) H' :=⟨λb o e _=>s b o e,λb ⟨j,h,e⟩=>by
 by_cases q:i=j
 ·subst q
  rw[bI (by rw[←hs];exact hi)] at e
  cases e
  exact .inr n
 ·rw[Gaj q] at h e
  exact .inl ⟨j,h,e⟩,λj h=>by
 by_cases q:i=j
 ·subst q
  rw[bI hi] at h;exact h.elim
 ·rw[Gaj q,Gaj q]
  exact⟨rfl,rfl⟩⟩
theorem ak.change{d' :D}{o:HO}(E:ak K H₀ Bad env σ H)(e:env[i]? =some (some (.own d)))(ea:σ[i]? =some (some (.ref a)))(wo:isW o)(t:d'.top=true)
  (inn:Inn K (Cln Bad env σ) (upd H a o) d' (.ref a)):ak K H₀ Bad (env.set i (some (.own d'))) σ (upd H a o)∧Stp env σ H (env.set i (some (.own d'))) σ (upd H a o):=by
 have hi:i<env.length:=(Gac.mp e).1
 obtain⟨a',h1,h2,h3,h4,h5,h6⟩:=E.ow i d (.inl e)
 rw[ea] at h1;cases h1
 have hσ:σ.set i (some (.ref a))=σ:=set_same ea
 have tops:∀j,aZ (env.set i (some (.own d')))[j]? ↔aZ env[j]? :=λj=>by
  by_cases q:i=j
  ·subst q;rw[bI hi,e];exact⟨λ_=>trivial,λ_=>trivial⟩
  ·rw[Gaj q]
 have clnE:∀b,Cln Bad env σ b→Cln Bad (env.set i (some (.own d'))) σ b:=λb h=> ⟨h.1,λj tj ej=>h.2 j ((tops j).mp tj) ej⟩
 have ca:∀b,Cln Bad env σ b→b≠a:=λb h z=>by subst z;exact h.2 i (by rw[e];trivial) ea
 have gq:gy (Cln Bad env σ) H (upd H a o):=λb x hb q=>by
  have:b≠a:=by
   rintro rfl
   rcases q with q|q
   ·exact ca b q rfl
   ·obtain⟨y,hy,wy⟩:=h4
    rw[hb] at hy;cases hy
    cases x<;>simp[isT] at q<;>exact wy
  rw[ay this];exact hb
 have keepA:∀b x,H b=some x→b≠a→(upd H a o) b=some x:=λb x hb hn=>by rw[ay hn];exact hb
 refine⟨?_,⟨λb x hb n=>keepA b x hb λz=>n ⟨i,by rw[e];trivial,by rw[z];exact ea⟩,λb ⟨j,h,ej⟩=> .inl ?_,λj h=> ?_⟩⟩
 ·have:=E.vS (H' :=upd H a o) (a:=a) (d:=d') hi h2 h3 ⟨o,av,wo⟩ t (λb x hb=>keepA b x (E.same b x hb) λz=>by rw[z,h2] at hb;cases hb)
   (λb hb z=>by
    by_cases q:b=a
    ·subst q;rw[av] at z;cases z
    ·rw[ay q] at z;exact E.bad b hb z)
   (λj b hj tj ej=>by
    have:b≠a:=by rintro rfl;exact hj (E.dj i j b (by rw[e];trivial) tj ea ej).symm
    exact⟨this,by rw[ay this]⟩)
   (by rw[hσ];exact inn.imp clnE) (λb h _=>by rw[hσ];exact clnE b h) gq
  rw[hσ] at this
  exact this
 ·by_cases q:i=j
  ·subst q;exact⟨i,by rw[e];trivial,ej⟩
  ·rw[Gaj q] at h;exact⟨j,h,ej⟩
 ·by_cases q:i=j
  ·subst q;rw[bI hi] at h;exact h.elim
  ·rw[Gaj q];exact⟨rfl,rfl⟩
end
open PySem PySem.Spec PyProof.Rows L2
section
variable{X:Cx}{e a b c:Expr}{f g h:DE}{t u:DT}{pos:Pos}{st:Stmt}{rest:List Stmt}{s1 s2:DS}
theorem bP:gz X [] cw:=by
 refine Ay.aC ?_
 rintro D σ H ⟨H₀,Bad,env,o,E,e,k⟩
 cases e
 exact k σ H E .refl
theorem aj(h1:PSd X st s1)(h2:gz X rest s2):gz X (st::rest) (b6 s1 s2):=by
 refine(vm h1 h2).aC ?_
 rintro D σ H ⟨H₀,Bad,env,o,E,e,k⟩
 obtain⟨o1,h1,e⟩:=bind_some e
 refine⟨H₀,Bad,env,o1,E,h1, ?_⟩
 cases o1 with
 |nx e1=>
  intro σ1 H1 E1 p1
  refine⟨H₀,Bad,e1,o,E1,e, ?_⟩
  cases o with
  |nx e2=>exactλσ2 H2 E2 p2=>k σ2 H2 E2 (p1.trans p2)
  |bk e2=>exactλσ2 H2 E2 p2=>k σ2 H2 E2 (p1.trans p2)
  |ct e2=>exactλσ2 H2 E2 p2=>k σ2 H2 E2 (p1.trans p2)
  |ret d=>exact k
 |bk e1=>cases e;exact k
 |ct e1=>cases e;exact k
 |ret d=>cases e;exact k
theorem aO(h1:PSd X st s1):gz X [st] s1:=Az h1
theorem vT:PSd X st oy:=λ_ _ _ _ _ _ ⟨_,_,_,_,_,e,_⟩=>by cases e
theorem B8{K:aa}{F:Addr→Prop}{H₀ H' :Hp}{d:D}{v:V}(i:Inn K F H' d v)(hd:d.imm=true):nz K H₀ H' d v:=by
 refine⟨λt=> ?_,(i.imm hd).inn⟩
 cases d<;>simp[D.top] at t<;>simp[D.imm] at hd
theorem Fv{κ:Type}{K:aa}{F F' :Addr→Prop}{H:Hp}{kvs:List (κ×D)}{ws:List (κ×V)}(r:aJ K F H kvs ws)(h:bH (kvs.map (·.2))=true):aJ K F' H kvs ws:=
 ⟨r.1,λi p q e1 e2=>(r.2 i p q e1 e2).imm (kN h i p.2 (by rw[Gav,e1];rfl))⟩
theorem sQ{K:aa}{F:Addr→Prop}{H₀ H' :Hp}{d:D}{a:Addr}(i:Inn K F H' d (.ref a))(hd:d.gx=true)(n:H₀ a=none)(w:Wr H' a):nz K H₀ H' d (.ref a):=by
 refine⟨λ_=> ⟨a,rfl,n,w⟩, ?_⟩
 cases i with
 |tup h r=>exact(Inn.imm (.tup h r) (by exact hd)).inn
 |scr h=>exact .scr h
 |lst h r=>exact .lst h (r.imm hd)
 |dK h r=>exact .dK h (Fv r hd)
 |dT h r=>exact .dT h (Fv r hd)
theorem bG(he:PEd X e f):PSd X (.Return (some e) pos) (retS f):=by
 refine(Cr he).aC ?_
 rintro D σ H ⟨H₀,Bad,env,o,E,e,k⟩
 obtain⟨r,hr,e⟩:=bind_some e
 split at e
 ·rename_i ok
  cases e
  refine⟨H₀,Bad,env,r,E,hr,λv H1 s1 R=>k v H1 (E.same.trans s1) ?_⟩
  obtain⟨kd,d⟩:=r
  cases kd with
  |c=>exact B8 R.inn ok
  |tn=>
   have ii:=R.inn
   obtain⟨a,rfl,n,w,t,i⟩:=R
   exact sQ ii ok (E.same.free n) w
  |to=>
   have ii:=R.inn
   obtain⟨a,rfl,n,w,t,i⟩:=R
   exact sQ ii ok n w
  |tb=>exact absurd (show false=true from ok) Gaz
 ·cases e
theorem cQ{xs ys:List Stmt}(hc:PTd X c t)(ha:gz X xs s1)(hb:gz X ys s2):PSd X (.If c xs ys pos) (ifS t s1 s2):=by
 refine(Ew hc ha hb).aC ?_
 rintro D σ H ⟨H₀,Bad,env,o,E,e,k⟩
 obtain⟨x,hx,e⟩:=bind_some e
 refine⟨H₀,Bad,env,x,E,hx,λH1 s1=> ?_⟩
 have st:Stp env σ H env σ H1:= .of_same s1
 have fin:∀{s:DS},s env=some o→tS X s D σ H1:=λ{s} e=> ⟨H₀,Bad,env,o,E.mono s1,e,by
  cases o with
  |nx e2=>exactλσ2 H2 E2 p2=>k σ2 H2 E2 (st.trans p2)
  |bk e2=>exactλσ2 H2 E2 p2=>k σ2 H2 E2 (st.trans p2)
  |ct e2=>exactλσ2 H2 E2 p2=>k σ2 H2 E2 (st.trans p2)
  |ret d=>exact k⟩
 dsimp only
 cases x with
 |true=>rw[Gag rfl];rw[Gag rfl] at e;exact fin e
 |false=>rw[Gaf Gaz];rw[Gaf Gaz] at e;exact fin e
theorem vU{X:Cx}{Bad:Addr→Prop}{env:Env}{σ:St}{H:Hp}{i:Nat}{x:Str}(E:ak X.K H₀ Bad env σ H)(hl:σ.length=X.N.length)(hi:X.N[i]? =some x):i<env.length:=by
 rw[E.len,hl];exact(Gac.mp hi).1
theorem bB{i:Nat}{x:Str}{pos' :Pos}(hN:X.N.Nodup)(hi:X.N[i]? =some x)(hx:Loc X.env.scope x)(he:PEd X e f)(hs:swapsWith e (some (.Name x pos')) pos.line X.env=pure false:=by rfl)
  (hf:X.fn x=true∨X.env.scope.names.lookup x=some .local:=by first|exact .inl rfl|exact .inr rfl|assumption):PSd X (.Assign [.Name x pos'] e pos) (cD i f):=by
 intro pins s σ H D I hw
 have hl:=I.len
 refine(Cs hN hi hx he hs hf) pins s σ H D I ?_
 obtain⟨H₀,Bad,env,o,E,e,k⟩:=hw
 obtain⟨r,hr,e⟩:=bind_some e
 obtain⟨e',hst,rfl⟩:=Gah.mp e
 have hie:i<env.length:=vU E hl hi
 refine⟨H₀,Bad,env,r,E,hr,λv H1 s1 R=> ?_⟩
 have st:Stp env σ H env σ H1:= .of_same s1
 obtain⟨kd,d⟩:=r
 unfold stored at hst
 cases kd with
 |c=>
  cases hst
  exact k _ H1 ((E.mono s1).pS R) (st.trans .pS)
 |tn=>
  cases hst
  obtain⟨a,rfl,n,w,t,i⟩:=R
  exact k _ H1 (E.lK s1 hie n w t i) (.lK s1 hie E.len n)
 |to=>cases hst
 |tb=>cases hst
noncomputable def vV(K:aa)(F N:Addr→Prop)(J:It)(ds:List D)(H1:Hp):Prop:=
 ∀Hi:Hp,(∀b o,H1 b=some o→N b→Hi b=some o)→(∀(i:Nat) d,ds[i]? =some d→J.go i Hi∧∀x H2,J.yld i Hi x H2→bC Hi H2∧Rep K F H2 d x)∧J.stop ds.length Hi
noncomputable def tI(X:Cx)(src:DI):TI:=λσ H R=>∃H₀ Bad env ds,ak X.K H₀ Bad env σ H∧src env=some ds∧∀J H',bC H H' →vV X.K (λb=>Cln Bad env σ b∧H' b≠none) (λb=>¬Ow env σ b) J ds H' →R J H'
noncomputable abbrev PId (X:Cx) (tg iter:Expr) (src:DI):Prop:=PI X tg iter (tI X src)
theorem _root_.L2.PI.aC{tg iter:Expr}{w w' :TI}(h:PI X tg iter w')(i:∀σ H R,w σ H R→w' σ H R):PI X tg iter w:=λpins s σ H R I q=>h pins s σ H R I (i σ H R q)
theorem ak.lock{K:aa}{H₀:Hp}{Bad:Addr→Prop}{env:Env}{σ:St}{H:Hp}(E:ak K H₀ Bad env σ H)(l:Option Nat):ak K H₀ Bad (aK l env) σ H∧(∀b,Ow (aK l env) σ b→Ow env σ b)∧∀i:Nat,aZ (aK l env)[i]? ↔aZ env[i]? :=by
 cases l with
 |none=>exact⟨E,λ_ h=>h,λ_=>Iff.rfl⟩
 |some j=>
  unfold aK
  dsimp only
  split
  ·rename_i d q
   have hj:j<env.length:=(Gac.mp q).1
   have tops:∀i,aZ (env.set j (some (.lok d)))[i]? ↔aZ env[i]? :=λi=>by
    by_cases z:j=i
    ·subst z;rw[bI hj,q];exact⟨λ_=>trivial,λ_=>trivial⟩
    ·rw[Gaj z]
   have cln:∀b,Cln Bad env σ b→Cln Bad (env.set j (some (.lok d))) σ b:=λb h=> ⟨h.1,λi t e=>h.2 i ((tops i).mp t) e⟩
   refine⟨⟨E.same,by simpa using E.len,E.bad,λi di e=> ?_,λi di e=> ?_,λi di e=> ?_,λi k b t1 t2 e1 e2=> ?_⟩,λb ⟨i,h,e⟩=> ?_,tops⟩
   ·rcases get_set e with⟨z,e⟩| ⟨z,e⟩
    ·cases e
    ·obtain⟨v,h1,h2⟩:=E.sh i di e;exact⟨v,h1,h2.imp cln⟩
   ·have e' :env[i]? =some (some (.own di))∨env[i]? =some (some (.lok di)):=by
     rcases e with e|e
     ·rcases get_set e with⟨z,e⟩| ⟨z,e⟩
      ·cases e
      ·exact .inl e
     ·rcases get_set e with⟨z,e⟩| ⟨z,e⟩
      ·cases e;subst z;exact .inl q
      ·exact .inr e
    obtain⟨b,h1,h2,h3,h4,h5,h6⟩:=E.ow i di e'
    exact⟨b,h1,h2,h3,h4,h5,h6.imp cln⟩
   ·rcases get_set e with⟨z,e⟩| ⟨z,e⟩
    ·cases e
    ·obtain⟨b,h1,hw,h2,h3⟩:=E.bo i di e;exact⟨b,h1,hw,h2,h3.imp cln⟩
   ·have t1' :uv env[i]? :=by
     by_cases z:j=i
     ·subst z;rw[q];trivial
     ·rw[Gaj z] at t1;exact t1
    exact E.dj i k b t1' ((tops k).mp t2) e1 e2
   ·by_cases z:j=i
    ·subst z;rw[bI hj] at h;exact h.elim
    ·rw[Gaj z] at h;exact⟨i,h,e⟩
  ·exact⟨E,λ_ h=>h,λ_=>Iff.rfl⟩
theorem ak.free{K:aa}{H₀:Hp}{Bad:Addr→Prop}{env:Env}{σ:St}{H:Hp}(E:ak K H₀ Bad env σ H)(l:Option Nat):ak K H₀ Bad (dB l env) σ H:=by
 cases l with
 |none=>exact E
 |some j=>
  unfold dB
  dsimp only
  split
  ·rename_i d q
   have hj:j<env.length:=(Gac.mp q).1
   have tops:∀i,aZ (env.set j (some (.own d)))[i]? ↔aZ env[i]? :=λi=>by
    by_cases z:j=i
    ·subst z;rw[bI hj,q];exact⟨λ_=>trivial,λ_=>trivial⟩
    ·rw[Gaj z]
   have cln:∀b,Cln Bad env σ b→Cln Bad (env.set j (some (.own d))) σ b:=λb h=> ⟨h.1,λi t e=>h.2 i ((tops i).mp t) e⟩
   refine⟨E.same,by simpa using E.len,E.bad,λi di e=> ?_,λi di e=> ?_,λi di e=> ?_,λi k b t1 t2 e1 e2=> ?_⟩
   ·rcases get_set e with⟨z,e⟩| ⟨z,e⟩
    ·cases e
    ·obtain⟨v,h1,h2⟩:=E.sh i di e;exact⟨v,h1,h2.imp cln⟩
   ·have e' :env[i]? =some (some (.own di))∨env[i]? =some (some (.lok di)):=by
     rcases e with e|e
     ·rcases get_set e with⟨z,e⟩| ⟨z,e⟩
      ·cases e;subst z;exact .inr q
      ·exact .inl e
     ·rcases get_set e with⟨z,e⟩| ⟨z,e⟩
      ·cases e
      ·exact .inr e
    obtain⟨b,h1,h2,h3,h4,h5,h6⟩:=E.ow i di e'
    exact⟨b,h1,h2,h3,h4,h5,h6.imp cln⟩
   ·rcases get_set e with⟨z,e⟩| ⟨z,e⟩
    ·cases e
    ·obtain⟨b,h1,hw,h2,h3⟩:=E.bo i di e;exact⟨b,h1,hw,h2,h3.imp cln⟩
   ·have t1' :uv env[i]? :=by
     by_cases z:j=i
     ·subst z;rw[q];trivial
     ·rw[Gaj z] at t1;exact t1
    exact E.dj i k b t1' ((tops k).mp t2) e1 e2
  ·exact E
end
open PySem PySem.Spec PyProof.Rows L2
section
variable{X:Cx}{e a b c:Expr}{f g h:DE}{t u:DT}{pos:Pos}{st:Stmt}{rest:List Stmt}{s1 s2:DS}
theorem pU{env:Env}{l:Option Nat}{i:Nat}(h:∀j,l=some j→j≠i):(aK l env)[i]? =env[i]? :=by
 unfold aK
 split
 ·rfl
 ·rename_i j
  split
  ·rw[Gaj (h j rfl)]
  ·rfl
theorem Stp.loop{env envN:Env}{σ σN:St}{H HN:Hp}{l:Option Nat}(p:Stp (aK l env) σ H envN σN HN)(lo:∀b,Ow (aK l env) σ b→Ow env σ b):Stp env σ H (if lC l env then dB l envN else envN) σN HN:=by
 have same:lC l env=false→aK l env=env:=λh=>by
  unfold lC at h
  unfold aK
  split at h
  ·rfl
  ·split at h
   ·cases h
   ·rfl
 cases ho:lC l env with
 |false=>
  rw[Gaf Gaz]
  rw[same ho] at p
  exact p
 |true=>
  rw[Gag rfl]
  unfold lC at ho
  split at ho
  ·cases ho
  ·rename_i j
   split at ho
   ·rename_i d q
    have hj:j<env.length:=(Gac.mp q).1
    have lockj:(aK (some j) env)[j]? =some (some (.lok d)):=by unfold aK;simp only[q];exact bI hj
    have other:∀i,j≠i→(aK (some j) env)[i]? =env[i]? :=λi hi=>pU λk e=>by cases e;exact hi
    refine⟨λb o e n=>p.keep b o e λz=>n (lo b z),λb ⟨i,h,e⟩=> ?_,λi h=> ?_⟩
    ·by_cases z:j=i
     ·subst z
      unfold dB at h
      dsimp only at h
      split at h
      ·rename_i d' q'
       obtain⟨h1,h2⟩:=p.lk j (by rw[q'];trivial)
       rw[h2] at e
       exact .inl ⟨j,by rw[q];trivial,e⟩
      ·rcases p.ow b ⟨j,h,e⟩ with w|w
       ·exact .inl (lo b w)
       ·exact .inr w
     ·have h' :isO envN[i]? :=by
       unfold dB at h
       dsimp only at h
       split at h
       ·rw[Gaj z] at h;exact h
       ·exact h
      rcases p.ow b ⟨i,h',e⟩ with w|w
      ·exact .inl (lo b w)
      ·exact .inr w
    ·by_cases z:j=i
     ·subst z
      unfold dB at h⊢
      dsimp only at h⊢
      split at h
      ·rename_i d' q'
       have hj' :j<envN.length:=(Gac.mp q').1
       rw[bI hj'] at h;exact h.elim
      ·rename_i q'
       obtain⟨h1,_⟩:=p.lk j h
       rw[lockj] at h1
       exact absurd h1 (q' d)
     ·have hN:(dB (some j) envN)[i]? =envN[i]? :=by
       unfold dB
       dsimp only
       split
       ·rw[Gaj z]
       ·rfl
      rw[hN] at h⊢
      obtain⟨h1,h2⟩:=p.lk i h
      rw[other i z] at h1
      exact⟨h1,h2⟩
   ·cases ho
theorem ux{Bad:Addr→Prop}{env env' :Env}{σ σ' :St}{H H' :Hp}(p:Stp env σ H env' σ' H'){b:Addr}(h:Cln Bad env σ b)(hb:H b≠none):Cln Bad env' σ' b:=⟨h.1,λi t e=>by
 rcases ny t with o|o
 ·rcases p.ow b ⟨i,o,e⟩ with⟨j,w,ej⟩|w
  ·exact h.2 j w.ol.top ej
  ·exact hb w
 ·obtain⟨h1,h2⟩:=p.lk i o
  rw[h1] at t
  rw[h2] at e
  exact h.2 i t e⟩
theorem oF{tg iter:Expr}{body:List Stmt}{l:Option Nat}{src:DI}{gd:DG}{sb:DS}(hp:PassesOwn (model X.prog X.w) X.A X.env X.xe)(hc:X.calm=true)(hi:PId X tg iter src)(hg:PGd X tg gd)(hb:gz X body sb)
  (hs:∀x,foldedSetIterable iter X.env x=pure x:=by intro _;rfl):PSd X (.For tg iter body [] pos) (vI l src gd sb):=by
 refine(Cu hp hc hi hg hb hs).aC ?_
 rintro D σ H ⟨H₀,Bad,env,o,E,e,k⟩
 obtain⟨ds,hds,e⟩:=bind_some e
 obtain⟨o1,ho1,rfl⟩:=Gah.mp e
 obtain⟨EL,lo,_⟩:=E.lock l
 refine⟨H₀,Bad,aK l env,ds,EL,hds,λJ H1 sH it=> ?_⟩
 have E1:=EL.mono sH
 have st1:Stp env σ H env σ H1:= .of_same sH
 have nxOk:∀envN σN HN,o1= .nx envN→ak X.K H₀ Bad envN σN HN→Stp (aK l env) σ H1 envN σN HN→D.nx σN HN:=λenvN σN HN eo EN pN=>by
  subst eo
  refine k σN HN ?_ (st1.trans (pN.loop lo))
  show ak X.K H₀ Bad (if lC l env then dB l envN else envN) σN HN
  split
  ·exact EN.free l
  ·exact EN
 refine⟨λi m σ' H' =>m=ds.length -i∧i≤ds.length∧∃envi,ak X.K H₀ Bad envi σ' H' ∧Stp (aK l env) σ H1 envi σ' H' ∧forL gd sb (ds.drop i) envi=some o1,
  ⟨ds.length,by simp,GaT _,_,E1,.refl,by simpa using ho1⟩, ?_⟩
 rintro i m σ' H' ⟨rfl,hle,envi,Ei,pi,ei⟩
 obtain⟨items,stop⟩:=it H' λb o hb n=>pi.keep b o hb n
 by_cases hlt:i<ds.length
 ·obtain⟨go,yld⟩:=items i ds[i] (by simp[hlt])
  refine .inr ⟨go,λσ2 H2=>(ds.length -(i+1))=ds.length -(i+1)∧i+1≤ds.length∧∃envi,ak X.K H₀ Bad envi σ2 H2∧Stp (aK l env) σ H1 envi σ2 H2∧forL gd sb (ds.drop (i+1)) envi=some o1,λσ2 H2 q=> ⟨_,by omega,q⟩,λx H2 y=> ?_⟩
  obtain⟨s2,rep⟩:=yld x H2 y
  have hd:ds.drop i=ds[i]::ds.drop (i+1):=Gco hlt
  rw[hd] at ei
  unfold forL at ei
  obtain⟨e2,hg2,ei⟩:=bind_some ei
  obtain⟨o2,hb2,ei⟩:=bind_some ei
  refine⟨H₀,Bad,envi,ds[i],e2,Ei.mono s2,hg2,rep.imp λb q=>ux pi q.1 q.2,λσ3 H3 E3 p3=> ?_⟩
  have p3' :Stp (aK l env) σ H1 e2 σ3 H3:=(pi.trans (.of_same s2)).trans p3
  refine⟨H₀,Bad,e2,o2,E3,hb2, ?_⟩
  cases o2 with
  |nx e4=>exactλσ4 H4 E4 p4=> ⟨rfl,hlt,e4,E4,p3'.trans p4,ei⟩
  |ct e4=>exactλσ4 H4 E4 p4=> ⟨rfl,hlt,e4,E4,p3'.trans p4,ei⟩
  |bk e4=>
   cases ei
   exactλσ4 H4 E4 p4=>nxOk e4 σ4 H4 rfl E4 (p3'.trans p4)
  |ret d=>
   cases ei
   exact k
 ·have hi:i=ds.length:=by omega
  subst hi
  rw[Gcs] at ei
  cases ei
  exact .inl ⟨stop,nxOk envi σ' H' rfl Ei pi⟩
theorem ak.iI{K:aa}{H₀:Hp}{Bad:Addr→Prop}{env:Env}{σ:St}{H:Hp}(E:ak K H₀ Bad env σ H){b:Addr}{o:HO}(h:Ow env σ b)(hb:H b=some o):¬isT o:=by
 intro q
 obtain⟨i,h1,h2⟩:=h
 obtain⟨y,hy,wy⟩:=E.BZ h1.ol.top h2
 rw[hb] at hy;cases hy
 cases o<;>simp[isT] at q<;>exact wy
theorem ak.nD{K:aa}{H₀:Hp}{Bad:Addr→Prop}{env:Env}{σ:St}{H Hi:Hp}{d:D}{v:V}(E:ak K H₀ Bad env σ H)(keep:∀b o,H b=some o→¬Ow env σ b→Hi b=some o)(r:Rep K (Cln Bad env σ) H d v):
  Rep K (λb=>Cln Bad env σ b∧H b≠none) Hi d v:=
 r.gen (λb o hb q=>keep b o hb (by
  rcases q with q|q
  ·exactλ⟨i,h1,h2⟩=>q.2 i h1.ol.top h2
  ·exactλw=>E.iI w hb q)) λb q hb=> ⟨q,hb⟩
noncomputable def GX(K:aa)(tl:TE):TI:=λσ H R=>tl σ H λx H1=>∃a,x= .ref a∧(((∃xs,SqL K H1 a xs)∧R (Itl K a) H1)∨((∃xs,SqT K H1 a xs)∧R (Itt K a) H1))
theorem D2{tg l:Expr}{tl:TE}(hl:PE X l tl):PI X tg l (GX X.K tl):=by
 intro pins s σ H R I h
 refine thn (hl pins s σ H _ I h) λv s1 ⟨x,H1,I1,r1,q1⟩=> ?_
 obtain⟨a,e,q1⟩:=q1
 subst e
 cases r1
 have fp:∀b∈[s1.heap.objs.size],jz X pins H1 b:=λb hb=>by
  have e:b=s1.heap.objs.size:=by simpa using hb
  subst e
  exact I1.Ct (Gaq _) (I1.hok.fresh (Gaq _))
 rcases q1 with⟨⟨xs,hq⟩,q⟩| ⟨⟨xs,hq⟩,q⟩
 ·obtain⟨its,rv,p,hz⟩:=I1.list hq
  refine wpAny_pyIter_list p.isList ?_
  exact⟨s1.heap.objs.size,[s1.heap.objs.size],_,_,H1,rfl,I1.kept (t' :=s1.toks) λb o e=>Gad _ e,u6 a _,⟨_,Gaw _ rfl,rfl,rfl⟩,fp,q⟩
 ·obtain⟨its,rv,p,hz⟩:=I1.tuple hq
  refine wpAny_pyIter_tuple (show s1.heap.IsTuple a its.toArray from p) ?_
  exact⟨s1.heap.objs.size,[s1.heap.objs.size],_,_,H1,rfl,I1.kept (t' :=s1.toks) λb o e=>Gad _ e,qU a _,⟨_,Gaw _ rfl,rfl,rfl⟩,fp,q⟩
theorem B9{Bad:Addr→Prop}{env:Env}{σ:St}{H H1:Hp}{kd:Cls}{d:D}{v:V}(E:ak X.K H₀ Bad env σ H)(ht:d.top=true)(hk:kd≠ .to)(Rv:fh X.K H₀ Bad env σ H H1 ⟨kd,d⟩ v):∀a,v= .ref a→¬Ow env σ a:=λa ea=>by
 cases kd with
 |c=>
  have Rv' :Rep X.K (Cln Bad env σ) H1 d v:=Rv
  have fin:∀b,Cln Bad env σ b→¬Ow env σ b:=λb f ⟨i,h1,h2⟩=>f.2 i h1.ol.top h2
  cases Rv' with
  |tup h l r=>simp[D.top] at ht
  |lst f h l r=>cases ea;exact fin _ f
  |dK f h l r=>cases ea;exact fin _ f
  |dT f h l r=>cases ea;exact fin _ f
  |non=>cases ea
  |bl b=>cases ea
  |int i=>cases ea
  |str x=>cases ea
  |scr h=>simp[D.top] at ht
 |tn=>
  obtain⟨a',e',n,_⟩:=Rv
  rw[e'] at ea;cases ea
  exactλ⟨i,h1,h2⟩=>E.j3 h1.ol.top h2 n
 |to=>exact absurd rfl hk
 |tb=>exact Rv.2 a ea ht
theorem vW{tg:Expr}(he:PEd X e f):PId X tg e (CU f):=by
 refine(D2 he).aC ?_
 rintro σ H R ⟨H₀,Bad,env,ds,E,hf,k⟩
 obtain⟨⟨kd,d⟩,hr,hf⟩:=bind_some hf
 split at hf
 ·cases hf
 rename_i hk
 refine⟨H₀,Bad,env,_,E,hr,λv H1 s1 Rv=> ?_⟩
 have ii:=Rv.inn
 have E1:=E.mono s1
 split at hf
 ·rename_i xs hd
  cases hf
  have hd' :d= .lst ds:=hd
  subst hd'
  have hno:=B9 E rfl hk Rv
  cases ii with
  | @lst la lv _ h r=>
   refine⟨_,rfl,.inl ⟨⟨_,.inl h⟩,k _ H1 s1 λHi keep=> ?_⟩⟩
   have hh:Rd Hi la (.lst lv):=by
    rcases h with h| ⟨o,h⟩
    ·exact .inl (keep _ _ h (hno _ rfl))
    ·exact .inr ⟨o,keep _ _ h (hno _ rfl)⟩
   refine⟨λi d hd=> ?_,⟨_,.inl hh,by rw[r.1];exact Gaq _⟩⟩
   obtain⟨x,h1,h2⟩:=r.get hd
   refine⟨⟨_,x,.inl hh,h1⟩,λy H2 ⟨e2,e3⟩=> ?_⟩
   subst e2
   refine⟨bF, ?_⟩
   have:=e3 _ (.inl hh)
   rw[h1] at this;cases this
   exact E1.nD keep h2
 ·rename_i xs hd
  cases hf
  have hd' :d= .tup ds:=hd
  subst hd'
  cases ii with
  | @tup la lv _ h r=>
   refine⟨_,rfl,.inr ⟨⟨_,SqT.of h⟩,k _ H1 s1 λHi keep=> ?_⟩⟩
   have hh:Hi la=some (.tup lv):=keep _ _ h λw=>E1.iI w h trivial
   refine⟨λi d hd=> ?_,⟨_,SqT.of hh,by rw[r.1];exact Gaq _⟩⟩
   obtain⟨x,h1,h2⟩:=r.get hd
   refine⟨⟨_,x,SqT.of hh,h1⟩,λy H2 ⟨e2,e3⟩=> ?_⟩
   subst e2
   refine⟨bF, ?_⟩
   have:=e3 _ (SqT.of hh)
   rw[h1] at this;cases this
   exact E1.nD keep h2
 ·rename_i ns hd
  cases hf
  have hd' :d= .scr ns:=hd
  subst hd'
  cases ii with
  | @scr la _ h=>
   refine⟨_,rfl,.inl ⟨⟨_,h.sq⟩,k _ H1 s1 λHi keep=> ?_⟩⟩
   have hh:Scr X.K Hi la ns:=by
    rcases h with⟨o,h⟩|h
    ·exact .inl ⟨o,keep _ _ h λw=>E1.iI w h trivial⟩
    ·exact .inr h
   refine⟨λi d hd=> ?_,⟨_,hh.sq,by simp⟩⟩
   rw[Gav] at hd
   cases q:ns[i]? with
   |none=>rw[q] at hd;cases hd
   |some n=>
    rw[q] at hd;cases hd
    refine⟨⟨_,.int n,hh.sq,by rw[Gav,q];rfl⟩,λy H2 ⟨e2,e3⟩=> ?_⟩
    subst e2
    have:=e3 _ hh.sq
    rw[Gav,q] at this;cases this
    exact⟨bF,.int n⟩
 ·cases hf
theorem lq{lo:Int}{n:Nat}{F N:Addr→Prop}{H1:Hp}:vV X.K F N (Itr lo n) (aA lo n) H1:=λHi _=>by
 refine⟨λi d hd=> ?_,by show n≤(aA lo n).length;simp[aA]⟩
 have hi:i<n:=by have:=(Gac.mp hd).1;simpa[aA] using this
 refine⟨hi,λx H2 ⟨e1,e2⟩=> ?_⟩
 subst e1 e2
 have:d= .int (lo+(i:Int)):=by
  unfold aA at hd
  rw[Gav,GdJ hi] at hd
  cases hd;rfl
 subst this
 exact⟨bF,.int _⟩
theorem iJ{i:Int}(h:bw i=true): -(2^62)≤i∧i<2^62:=by
 unfold bw at h
 rw[Gal] at h
 have h1:=GaG h.1
 have h2:=GaG h.2
 omega
theorem dq{tg:Expr}{p:Pos}(hg:Gl X "range")(hm:X.mg "range"=none)(he:PEd X e f)(hs:starEach [e] X.env=[(false,eval e X.env)]:=by rfl):PId X tg (.Call (.Name "range" p) [e] [] pos) (de f):=by
 refine(u7 hg hm (a0 he ab hs) hs).aC ?_
 rintro σ H R ⟨H₀,Bad,env,ds,E,hf,k⟩
 obtain⟨r,hr,hf⟩:=bind_some hf
 split at hf
 ·rename_i j hd
  split at hf
  ·rename_i hz
   cases hf
   refine⟨H₀,Bad,env,[r],E,by unfold a8 ax;rw[hr];rfl,λvs H1 s1 Rs=> ?_⟩
   cases Rs with
   |cons R1 t=>
    cases t
    have i:=R1.inn
    rw[hd] at i
    cases i
    exact⟨j,rfl,(iJ hz).1,(iJ hz).2,k _ H1 s1 lq⟩
  ·cases hf
 ·cases hf
theorem dZ{i:Nat}{x:Str}(hN:X.N.Nodup)(hi:X.N[i]? =some x)(hx:Loc X.env.scope x)(hf:X.fn x=true∨X.env.scope.names.lookup x=some .local:=by first|exact .inl rfl|exact .inr rfl|assumption):PGd X (.Name x pos) (gN i):=by
 refine(AA hN hi hx hf).aC ?_
 rintro v σ H Q ⟨H₀,Bad,env,d,env',E,hg,r,k⟩
 cases hg
 exact k _ H (E.pS r) .pS
end
open PySem PySem.Spec PyProof.Rows L2
section
variable{X:Cx}{e a b c:Expr}{f g h:DE}{t u:DT}{pos:Pos}{st:Stmt}{rest:List Stmt}{s1 s2:DS}
theorem j4{i:Nat}{env:Env}{d:D}(h:ownAt i env=some d):env[i]? =some (some (.own d)):=by
 unfold ownAt at h
 split at h
 ·rename_i d' q;cases h;exact q
 ·cases h
theorem kQ{K:aa}{F:Addr→Prop}{H:Hp}{ds:List D}{a:Addr}(w:Wr H a)(i:Inn K F H (.lst ds) (.ref a)):∃vs,H a=some (.lst vs)∧aq K F H ds vs:=by
 cases i with
 |lst h r=>
  rcases h with h| ⟨o,h⟩
  ·exact⟨_,h,r⟩
  ·obtain⟨y,hy,wy⟩:=w
   rw[h] at hy;cases hy;exact wy.elim
theorem nE{i:Nat}{x:Str}{px apos cpos:Pos}(hN:X.N[i]? =some x)(hv:Vis X.env.scope x)(he:PEd X e f)(hd:(x==("__debug__":Str))=false:=by decide)(hcd:(x==("__classdict__":Str))=false:=by decide)
  (hs1:starEach [e] X.env=[(false,eval e X.env)]:=by rfl)
  (hbase:attributeBase (.Name x px) "append" X.env (eval (.Name x px) X.env)=eval (.Name x px) X.env:=by rfl)
  (hfew:((backTo cpos (starEach [e] X.env)).all (λx=> !x.1)&&(backToKw cpos (keywordEach [] X.env)).all (λx=>x.1.isSome)
   &&decide (([e]:List Expr).length+([]:List Keyword).length+(if([]:List Keyword).isEmpty then 0 else 1)<30))=true:=by rfl)
  (hline:(apos.endLine==cpos.line)=true:=by rfl)(hs:swapsWith (.Call (.Attribute (.Name x px) "append" apos) [e] [] cpos) none pos.line X.env=pure false:=by rfl):
  PSd X (.Expr (.Call (.Attribute (.Name x px) "append" apos) [e] [] cpos) pos) (CV i f):=by
 refine(oo (BW Gcw PySem.F.slot_list_append PySem.F.type_list_append nr (iA hN hv hd hcd) (a0 he ab hs1) hbase hfew hline hs1 rfl) hs).aC ?_
 rintro D σ H ⟨H₀,Bad,env,o,E,e,k⟩
 obtain⟨r,hr,e⟩:=bind_some e
 obtain⟨d,hd,e⟩:=bind_some e
 have q:=j4 hd
 split at e
 ·rename_i xs
  split at e
  ·rename_i z
   rw[Gal] at z
   cases e
   obtain⟨a,h1,h2,h3,h4,h5,h6⟩:=E.ow i _ (.inl q)
   obtain⟨vs,hH,rp⟩:=kQ h4 h6
   refine⟨_,h1,.inl ⟨rfl,vs,.inl (.inl hH)⟩,H₀,Bad,env,[r],E,by unfold a8 ax;rw[hr];rfl,λws H2 s2 Rs=> ?_⟩
   cases Rs with
   | @cons _ v _ _ R1 tl=>
    cases tl
    have hH2:=s2 _ _ hH
    refine⟨a,vs,v,rfl,rfl,hH2,by rw[←rp.1,←size_eq];exact GaG z.2, ?_⟩
    have E2:=E.mono s2
    have rep1:=R1.rep E z.1
    have rp2:aq X.K (Cln Bad env σ) H2 (xs++[r.d]) (vs++[v]):=(rp.gen (.of_same s2) λ_ f _=>f).append (.cons rep1 .nil)
    obtain⟨E3,p3⟩:=E2.change (d' := .lst (xs++[r.d])) (o:= .lst (vs++[v])) q h1 trivial rfl (.lst (.inl av) (rp2.gen (λb o hb w=>by
     have:b≠a:=by
      rintro rfl
      rcases w with w|w
      ·exact w.2 i (by rw[q];trivial) h1
      ·rw[hH2] at hb;cases hb;exact w
     rw[ay this];exact hb) λ_ f _=>f))
    exact k σ _ E3 ((Stp.of_same s2).trans p3)
  ·cases e
 ·cases e
theorem vX{i:Nat}{x:Str}{px apos cpos:Pos}(hN:X.N[i]? =some x)(hv:Vis X.env.scope x)(hd:(x==("__debug__":Str))=false:=by decide)(hcd:(x==("__classdict__":Str))=false:=by decide)
  (hbase:attributeBase (.Name x px) "clear" X.env (eval (.Name x px) X.env)=eval (.Name x px) X.env:=by rfl)
  (hline:(apos.endLine==cpos.line)=true:=by rfl)(hs:swapsWith (.Call (.Attribute (.Name x px) "clear" apos) [] [] cpos) none pos.line X.env=pure false:=by rfl):
  PSd X (.Expr (.Call (.Attribute (.Name x px) "clear" apos) [] [] cpos) pos) (vJ i):=by
 refine(oo (qZ Gcw PySem.F.slot_list_clear PySem.F.type_list_clear vz (iA hN hv hd hcd) hbase hline) hs).aC ?_
 rintro D σ H ⟨H₀,Bad,env,o,E,e,k⟩
 obtain⟨d,hd,e⟩:=bind_some e
 have q:=j4 hd
 split at e
 ·rename_i xs
  cases e
  obtain⟨a,h1,h2,h3,h4,h5,h6⟩:=E.ow i _ (.inl q)
  obtain⟨vs,hH,rp⟩:=kQ h4 h6
  refine⟨_,h1,.inl ⟨rfl,vs,.inl (.inl hH)⟩,a,vs,rfl,rfl,hH, ?_⟩
  obtain⟨E3,p3⟩:=E.change (d' := .lst []) (o:= .lst []) q h1 trivial rfl (.lst (.inl av) .nil)
  exact k σ _ E3 p3
 ·cases e
noncomputable def GY(K:aa):List V→Hp→VK→Prop:=λxs H Q=>∃x T t b,xs=[x,.ty T]∧iB K H x (.type t)∧PySem.W.kitOne K (.type t) (.type T)=some b∧Q (.bl b) H
theorem vY:cP X (.builtin "isinstance") (GY X.K):=by
 intro pins s σ H xs us Q I r h
 obtain⟨x,T,t,bb,rfl,ty,hk,q⟩:=h
 obtain⟨u,w',rfl,r1,r2⟩:=vals2 r
 cases r2
 exact ud I r1 ty hk λtk=> ⟨.bl bb,H,I.tok _,rfl,q⟩
noncomputable def nF(K:aa)(T:String):Prop:=∀t∈["NoneType","bool","int","str","tuple","list","dict"],PySem.W.kitOne K (.type t) (.type T)=some (T==t||(t=="bool"&&T=="int"))
theorem Ba{K:aa}{F:Addr→Prop}{H:Hp}{d:D}{x:V}(i:Inn K F H d x)(hs:kg d=false):∃t∈["NoneType","bool","int","str","tuple","list","dict"],iB K H x (.type t)∧∀S,ib S d=(S==t||(t=="bool"&&S=="int")):=by
 have rdl:∀{a:Addr} {vs:List V},Rd H a (.lst vs)→iB K H (.ref a) (.type "list"):=λh=>by
  rcases h with h| ⟨o,h⟩
  ·exact .lst h
  ·exact .frz h
 cases i with
 |non=>exact⟨"NoneType",by simp,.non,λS=>by simp[ib]⟩
 |bl b=>exact⟨"bool",by simp,.bl b,λS=>by simp[ib]⟩
 |int i=>exact⟨"int",by simp,.int i,λS=>by simp[ib]⟩
 |str x=>exact⟨"str",by simp,.str x,λS=>by simp[ib]⟩
 |tup h r=>exact⟨"tuple",by simp,.tup h,λS=>by simp[ib]⟩
 |lst h r=>exact⟨"list",by simp,rdl h,λS=>by simp[ib]⟩
 |dK h r=>exact⟨"dict",by simp,.dK h,λS=>by simp[ib]⟩
 |dT h r=>exact⟨"dict",by simp,.dT h,λS=>by simp[ib]⟩
 |scr h=>cases hs
theorem fi{T:String}{x:Str}{p p2:Pos}(kit:nF X.K T)(he:PEd X e f)(hg:Gl X "isinstance")(hm:X.mg "isinstance"=none)(hg2:Gl X x)(hm2:X.mg x=none)(hv2:bootBuiltins x=some (.type T))(hn2:x≠"__name__":=by decide)(hd2:(x==("__debug__":Str))=false:=by decide)
  (hs1:starEach [e,.Name x p2] X.env=(false,eval e X.env)::starEach [.Name x p2] X.env:=by rfl)(hs2:starEach [.Name x p2] X.env=(false,eval (.Name x p2) X.env)::starEach [] X.env:=by rfl)(hpl:(backTo pos (starEach [.Name x p2] X.env)).any (·.1)=false:=by rfl):
  PEd X (.Call (.Name "isinstance" p) [e,.Name x p2] [] pos) (bE (lB T f)):=by
 have ht:PE X (.Name x p2) (tC (.ty T)):=Aw hg2 hm2 hv2 rfl hn2 hd2
 refine(lz vY hg hm (by decide+kernel) (dS he (dS ht jA hs2) hs1) (by decide) (by decide) hs1 hpl).aC ?_
 rintro σ H Q ⟨H₀,Bad,env,rv,E,e,k⟩
 obtain⟨bb,e',rfl⟩:=Gah.mp e
 clear e
 have e:=e'
 clear e'
 obtain⟨r,hr,e⟩:=bind_some e
 split at e
 ·cases e
 ·rename_i hs
  cases e
  refine⟨H₀,Bad,env,r,E,hr,λv H1 s1 R=> ?_⟩
  obtain⟨t,ht,ty,hb⟩:=Ba R.inn (by simpa using hs)
  exact⟨v,T,t,_,rfl,ty,kit t ht,by rw[←hb T];exact k _ H1 s1 (.bl _)⟩
theorem au:∀env rs,ax env=some rs→rs.length=0:=λenv rs h=>by cases h;rfl
theorem a7{r:DA}{n:Nat}(h:∀env rs,r env=some rs→rs.length=n):∀env rs,a8 f r env=some rs→rs.length=n+1:=λenv rs e=>by
 obtain⟨x,_,e⟩:=bind_some e
 obtain⟨xs,hx,e⟩:=bind_some e
 cases e
 rw[GbC,h env xs hx]
theorem ak.start{K:aa}{H:Hp}{N:List Str}{ds:List D}{vs:List V}(hl:ds.length≤N.length)(r:aq K (λ_=>True) H ds vs):ak K H (λ_=>False) (fL N.length ds) (start N vs) H:=by
 have nt:∀i:Nat,¬aZ (fL N.length ds)[i]? :=λi h=>by
  unfold fL at h
  by_cases hi:i<ds.length
  ·rw[Gbm (by simpa using hi),Gav] at h
   cases q:ds[i]? with
   |none=>rw[q] at h;exact h
   |some d=>rw[q] at h;exact h
  ·rw[Gbh (by simpa using hi),Gcv] at h
   split at h<;>exact h
 have no:∀{i:Nat} {s:Slot},(fL N.length ds)[i]? =some (some s)→aZ (some (some s))→False:=λ{i s} e h=>nt i (by rw[e];exact h)
 refine⟨λ_ _ e=>e,by simp[fL,L2.start,r.1],λ_ h=>h.elim,λi d e=> ?_,λi d e=> ?_,λi d e=> ?_,λi j a t _ _ _=>(nt i t.top).elim⟩
 ·unfold fL at e
  by_cases hi:i<ds.length
  ·rw[Gbm (by simpa using hi),Gav] at e
   cases q:ds[i]? with
   |none=>rw[q] at e;cases e
   |some d' =>
    rw[q] at e
    have e' :d' =d:=by simpa using e
    subst e'
    obtain⟨v,h1,h2⟩:=r.get q
    refine⟨v, ?_,h2.imp λb _=> ⟨λz=>z,λj t=>(nt j t).elim⟩⟩
    unfold L2.start
    rw[Gbm (by rw[Gan,←r.1];exact hi),Gav,h1];rfl
  ·rw[Gbh (by simpa using hi),Gcv] at e
   split at e<;>cases e
 ·rcases e with e|e
  ·exact(no e trivial).elim
  ·exact(no e trivial).elim
 ·exact(no e trivial).elim
theorem j5{P:Program}{w:World}{K:aa}{mg:Str→Option Value}{base:Heap}{x qual:Str}{sd:Stmt}{fa:Addr}{fd:FuncData}{N ps:List Str}{k np:Nat}{body:DS}(F:Fun K x qual sd fa fd)(S:bS N ps (aN sd))(hnp:ps.length=np)
  (hbody:∀(cdv:Value) (A:Around) (outer:List PySem.Env) (s:Shared) (H:Hp) (E:XK),dR k (A.deeper (envOfC qual (aN sd) s.heap.objs.size fa cdv))→
   gz (qX CX0 P w K mg base N qual (aN sd) fa cdv A outer s H E).nox (dU sd) body):fj P w K mg base CX0 (k+1) fa fd ps (spD K np (fm N.length np body)):=by
 refine F.ok S (λvs H Q E h=> ?_) λcdv A outer s H vs Q E hr h=> ⟨_,hbody cdv A outer s H E hr, ?_⟩
 ·obtain⟨ds,d,h1,h2,_⟩:=h
  rw[←h2.1,h1,hnp]
 ·obtain⟨ds,d,h1,h2,h3,k⟩:=h
  unfold fm at h3
  rw[Gag h1] at h3
  obtain⟨o,ho,h3⟩:=bind_some h3
  have hl:ds.length≤N.length:=by
   have:=congrArg List.length S.pre
   rw[List.length_take] at this
   omega
  refine⟨H,λ_=>False,fL N.length ds,o,ak.start hl h2,ho, ?_⟩
  cases o with
  |ret d' =>cases h3;exactλv H' s' R=>k v H' s' R
  |nx e=>cases h3;exactλσ' H' E' p' =>k .non H' E'.same ⟨λt=>(by cases t),.non⟩
  |bk e=>cases h3
  |ct e=>cases h3
theorem D3{K:aa}{H:Hp}{a:Addr}{ns:List Int}{sp:List D→Option D}{E:XK}(hO:AR H)(hS:SqL K H a (ns.map V.int))(h:sp [.scr ns]=some (.bl true)):spD K 1 sp [.ref a] H (λv _=>v= .bl true) E:=by
 refine⟨[.scr ns],.bl true,rfl,aq.cons (.scr ?_) .nil,h,λv H' _ R=> ?_⟩
 ·rcases hS with(z|z)|z
  ·rcases hO a with q| ⟨o,xs,q⟩<;>rw[z] at q<;>cases q
  ·exact .inl z
  ·exact .inr z
 ·have i:=R.2
  cases i;rfl
end
open PySem PySem.Spec PyProof.Rows L2
theorem plain_all{n:Nat}{ds:List D}(h:ds.all (a9 n)=true){i:Nat}{d:D}(e:ds[i]? =some d):a9 n d=true:=Gao.mp h d (GaJ e)
theorem lL:∀(n:Nat) (d:D),a9 n d=true→eqD d d=true:=by
 intro n
 induction n with
 |zero=>intro d h;cases d<;>simp[a9] at h<;>simp[eqD]
 |succ n ih=>
  have all:∀ds:List D,ds.all (a9 n)=true→fK ds ds=true:=by
   intro ds
   induction ds with
   |nil=>intro _;rfl
   |cons d ds ih2=>
    intro h
    rw[Gbv,Gal] at h
    simp[fK,ih d h.1,ih2 h.2]
  intro d h
  cases d<;>simp only[a9] at h<;>first
   |(simp[eqD];done)
   |(simp only[eqD];exact all _ h)
   |cases h
theorem dI:∀{ds es:List D},ds.length≠es.length→fK ds es=false
 |[],[],h=>absurd rfl h
 |[],_::_,_=>rfl
 |_::_,[],_=>rfl
 |d::ds,e::es,h=>by
  unfold fK
  rw[dI (by simpa using h),Gdo]
theorem ck:∀{ds es:List D},ds.length=es.length→(List.range ds.length).all (λj=>eqD (ds.getD j .non) (es.getD j .non))=fK ds es
 |[],[],_=>rfl
 |[],_::_,h=>by simp at h
 |_::_,[],h=>by simp at h
 |d::ds,e::es,h=>by
  have ih:=ck (ds:=ds) (es:=es) (by simpa using h)
  unfold fK
  rw[GbC,List.range_succ_eq_map,Gbv,List.all_map,←ih]
  rfl
section
variable{X:Cx}{pins:List (Addr×Obj)}{σ:St}{H:Hp}{s:Shared}
theorem sR{K:aa}{F G:Addr→Prop}:∀(n:Nat) {d d' :D} {v:V},a9 n d=true→a9 n d' =true→Rep K F H d v→Rep K G H d' v→d=d' :=by
 intro n
 induction n with
 |zero=>intro d d' v h1 h2 r1 r2;cases r1<;>simp[a9] at h1<;>cases r2<;>simp[a9] at h2<;>rfl
 |succ n ih=>
  have all:∀{ds es:List D} {vs:List V},ds.all (a9 n)=true→es.all (a9 n)=true→ds.length=vs.length→es.length=vs.length→(∀(i:Nat) d v,ds[i]? =some d→vs[i]? =some v→Rep K F H d v)→(∀(i:Nat) d v,es[i]? =some d→vs[i]? =some v→Rep K G H d v)→ds=es:=by
   intro ds es vs p1 p2 l1 l2 r1 r2
   apply GcI
   intro i
   by_cases hi:i<vs.length
   ·have e1:ds[i]? =some ds[i]:=by simp[l1,hi]
    have e2:es[i]? =some es[i]:=by simp[l2,hi]
    have e3:vs[i]? =some vs[i]:=by simp[hi]
    rw[e1,e2,ih (plain_all p1 e1) (plain_all p2 e2) (r1 i _ _ e1 e3) (r2 i _ _ e2 e3)]
   ·rw[Gbf (by omega),Gbf (by omega)]
  intro d d' v h1 h2 r1 r2
  cases r1 with
  |non=>cases r2;rfl
  |bl b=>cases r2;rfl
  |int i=>cases r2;rfl
  |str x=>cases r2;rfl
  |scr h=>simp[a9] at h1
  |dK f h l r=>simp[a9] at h1
  |dT f h l r=>simp[a9] at h1
  |tup h l r=>
   cases r2 with
   |tup h' l' r' =>
    rw[h] at h';cases h'
    rw[all (by simpa[a9] using h1) (by simpa[a9] using h2) l l' r r']
   |lst f h' l' r' =>rcases h' with h' | ⟨o,h'⟩<;>rw[h] at h' <;>cases h'
   |scr h' =>simp[a9] at h2
   |dK f h' l r=>simp[a9] at h2
   |dT f h' l r=>simp[a9] at h2
  |lst f h l r=>
   cases r2 with
   |tup h' l' r' =>rcases h with h| ⟨o,h⟩<;>rw[h] at h' <;>cases h'
   |lst f' h' l' r' =>
    have:∀{xs ys:List V} {a:Addr},Rd H a (.lst xs)→Rd H a (.lst ys)→xs=ys:=λz1 z2=>by
     rcases z1 with z1| ⟨o,z1⟩<;>rcases z2 with z2| ⟨o',z2⟩<;>rw[z1] at z2<;>cases z2<;>rfl
    cases this h h'
    rw[all (by simpa[a9] using h1) (by simpa[a9] using h2) l l' r r']
   |scr h' =>simp[a9] at h2
   |dK f h' l r=>simp[a9] at h2
   |dT f h' l r=>simp[a9] at h2
theorem item_at{ds:List D}{vs:List V}{its:List Value}{K:aa}{F:Addr→Prop}(l:ds.length=vs.length)(r:∀(i:Nat) d v,ds[i]? =some d→vs[i]? =some v→Rep K F H d v)(rv:Vals vs its){j:Nat}(h:j<its.toArray.size):
  ∃d v,ds[j]? =some d∧ds.getD j .non=d∧Rep K F H d v∧RelV v its.toArray[j]:=by
 have hj:j<its.length:=by simpa using h
 have hv:j<vs.length:=by rw[rv.length];exact hj
 have hd:j<ds.length:=by rw[l];exact hv
 obtain⟨u,e1,e2⟩:=rv.get (i:=j) (x:=vs[j]) (by simp[hv])
 refine⟨ds[j],vs[j],by simp[hd],by simp[hd],r j _ _ (by simp[hd]) (by simp[hv]), ?_⟩
 have:its.toArray[j]=u:=by
  have:=e1
  simp[hj] at this
  simpa using this
 rw[this];exact e2
theorem in1_units{A:Around}{n:Nat}(h:A.units+(n+1)<cLine):A.in1.units+n<cLine:=by
 show A.units+1+n<_
 omega
theorem j6(I:Inv X pins σ H s){F G:Addr→Prop}:∀(n:Nat) {dx dy:D} {x y:V} {v u:Value} {A:Around},a9 n dx=true→a9 n dy=true→Rep X.K F H dx x→Rep X.K G H dy y→RelV x v→RelV y u→A.units+n<cLine→SeqAt.EqAt A s v u (eqD dx dy):=by
 have flat:∀{dx dy:D} {x y:V} {v u:Value} {A:Around},Rep X.K F H dx x→Rep X.K G H dy y→RelV x v→RelV y u→ke x=true→ke y=true→SeqAt.EqAt A s v u (eqD dx dy):=by
  intro dx dy x y v u A r1 r2 rv ru fx fy
  have e:eqD dx dy=eqV x y:=by
   cases r1<;>cases r2<;>first|rfl|(simp[ke] at fx)|(simp[ke] at fy)
  rw[e]
  exact vq rv ru fx fy
 intro n
 induction n with
 |zero=>
  intro dx dy x y v u A p1 p2 r1 r2 rv ru hu
  refine flat r1 r2 rv ru ?_ ?_
  ·cases r1<;>first|rfl|(simp[a9] at p1)
  ·cases r2<;>first|rfl|(simp[a9] at p2)
 |succ n ih=>
  intro dx dy x y v u A p1 p2 r1 r2 rv ru hu
  have hu0:A.units<cLine:=by omega
  cases r1 with
  |scr h=>simp[a9] at p1
  |dK f h l r=>simp[a9] at p1
  |dT f h l r=>simp[a9] at p1
  | @tup a vs1 ds1 h l r=>
   cases rv
   obtain⟨its,rvs,ht,_⟩:=I.tuple (SqT.of h)
   cases r2 with
   |scr h' =>simp[a9] at p2
   |dK f h' l r=>simp[a9] at p2
   |dT f h' l r=>simp[a9] at p2
   |non=>cases ru;exact SeqAt.EqAt.tuple_none ht hu0
   |bl b=>cases ru;exact SeqAt.EqAt.tuple_bool b ht hu0
   |int i=>obtain⟨t,rfl⟩:=ru;exact SeqAt.EqAt.tuple_int i t ht hu0
   |str z=>obtain⟨t,rfl⟩:=ru;exact SeqAt.EqAt.tuple_str z t ht hu0
   |lst f' h' l' r' =>
    cases ru
    obtain⟨its2,rvs2,pl,_⟩:=I.list (.inl h')
    exact SeqAt.EqAt.tuple_list ht pl.isList hu0
   | @tup b vs2 ds2 h' l' r' =>
    cases ru
    by_cases hab:a=b
    ·subst hab
     have:=sR (n+1) p1 p2 (Rep.tup h l r) (Rep.tup h' l' r')
     rw[←this,lL _ _ p1]
     exact SeqAt.EqAt.same _
    ·obtain⟨its2,rvs2,ht2,_⟩:=I.tuple (SqT.of h')
     have hs1:its.toArray.size=ds1.length:=by rw[Gas,←rvs.length,l]
     have hs2:its2.toArray.size=ds2.length:=by rw[Gas,←rvs2.length,l']
     have key:=SeqAt.RcAt.tuples (e:=λj=>eqD (ds1.getD j .non) (ds2.getD j .non)) ht ht2 hu0 λj h1 h2=>by
      obtain⟨d1,v1,q1,q2,q3,q4⟩:=item_at l r rvs h1
      obtain⟨d2,v2,w1,w2,w3,w4⟩:=item_at l' r' rvs2 h2
      rw[q2,w2]
      exact ih (plain_all (by simpa[a9] using p1) q1) (plain_all (by simpa[a9] using p2) w1) q3 w3 q4 w4 (in1_units hu)
     refine SeqAt.EqAt.of_refs hab ?_
     show SeqAt.RcAt A s (.ref a) (.ref b) (fK ds1 ds2)
     rw[hs1,hs2] at key
     by_cases hl:ds1.length=ds2.length
     ·rw[←hl,GdC,ck hl] at key
      simpa using key
     ·rw[dI hl]
      have:(ds1.length==ds2.length)=false:=by simpa using hl
      rw[this,Gdo] at key
      exact key
  | @lst a vs1 ds1 f h l r=>
   cases rv
   obtain⟨its,rvs,pl,_⟩:=I.list (.inl h)
   have ht:=pl.isList
   cases r2 with
   |scr h' =>simp[a9] at p2
   |dK f h' l r=>simp[a9] at p2
   |dT f h' l r=>simp[a9] at p2
   |non=>cases ru;exact SeqAt.EqAt.list_none ht hu0
   |bl b=>cases ru;exact SeqAt.EqAt.list_bool b ht hu0
   |int i=>obtain⟨t,rfl⟩:=ru;exact SeqAt.EqAt.list_int i t ht hu0
   |str z=>obtain⟨t,rfl⟩:=ru;exact SeqAt.EqAt.list_str z t ht hu0
   |tup h' l' r' =>
    cases ru
    obtain⟨its2,rvs2,ht2,_⟩:=I.tuple (SqT.of h')
    exact SeqAt.EqAt.list_tuple ht ht2 hu0
   | @lst b vs2 ds2 f' h' l' r' =>
    cases ru
    by_cases hab:a=b
    ·subst hab
     have:=sR (n+1) p1 p2 (Rep.lst f h l r) (Rep.lst f' h' l' r')
     rw[←this,lL _ _ p1]
     exact SeqAt.EqAt.same _
    ·obtain⟨its2,rvs2,pl2,_⟩:=I.list (.inl h')
     have ht2:=pl2.isList
     have hs1:its.toArray.size=ds1.length:=by rw[Gas,←rvs.length,l]
     have hs2:its2.toArray.size=ds2.length:=by rw[Gas,←rvs2.length,l']
     refine SeqAt.EqAt.of_refs hab ?_
     show SeqAt.RcAt A s (.ref a) (.ref b) (fK ds1 ds2)
     by_cases hl:ds1.length=ds2.length
     ·have key:=SeqAt.RcAt.lists (e:=λj=>eqD (ds1.getD j .non) (ds2.getD j .non)) ht ht2 (by rw[hs1,hs2,hl]) hu0 λj h1 h2=>by
       obtain⟨d1,v1,q1,q2,q3,q4⟩:=item_at l r rvs h1
       obtain⟨d2,v2,w1,w2,w3,w4⟩:=item_at l' r' rvs2 h2
       rw[q2,w2]
       exact ih (plain_all (by simpa[a9] using p1) q1) (plain_all (by simpa[a9] using p2) w1) q3 w3 q4 w4 (in1_units hu)
      rw[hs1,ck hl] at key
      exact key
     ·rw[dI hl]
      exact SeqAt.RcAt.lists_lengths ht ht2 (by rw[hs1,hs2];simpa using hl) hu0
  |non=>
   cases rv
   cases r2 with
   |scr h' =>simp[a9] at p2
   |dK f h' l r=>simp[a9] at p2
   |dT f h' l r=>simp[a9] at p2
   |tup h' l' r' =>cases ru;obtain⟨its2,rvs2,ht2,_⟩:=I.tuple (SqT.of h');exact SeqAt.EqAt.none_tuple ht2 hu0
   |lst f' h' l' r' =>cases ru;obtain⟨its2,rvs2,pl2,_⟩:=I.list (.inl h');exact SeqAt.EqAt.none_list pl2.isList hu0
   |_=>exact flat .non (by first|exact .non|exact .bl _|exact .int _|exact .str _) rfl ru rfl rfl
  |bl b=>
   cases r2 with
   |scr h' =>simp[a9] at p2
   |dK f h' l r=>simp[a9] at p2
   |dT f h' l r=>simp[a9] at p2
   |tup h' l' r' =>cases rv;cases ru;obtain⟨its2,rvs2,ht2,_⟩:=I.tuple (SqT.of h');exact SeqAt.EqAt.bool_tuple b ht2 hu0
   |lst f' h' l' r' =>cases rv;cases ru;obtain⟨its2,rvs2,pl2,_⟩:=I.list (.inl h');exact SeqAt.EqAt.bool_list b pl2.isList hu0
   |_=>exact flat (.bl b) (by first|exact .non|exact .bl _|exact .int _|exact .str _) rv ru rfl rfl
  |int i=>
   cases r2 with
   |scr h' =>simp[a9] at p2
   |dK f h' l r=>simp[a9] at p2
   |dT f h' l r=>simp[a9] at p2
   |tup h' l' r' =>obtain⟨t,rfl⟩:=rv;cases ru;obtain⟨its2,rvs2,ht2,_⟩:=I.tuple (SqT.of h');exact SeqAt.EqAt.int_tuple i t ht2 hu0
   |lst f' h' l' r' =>obtain⟨t,rfl⟩:=rv;cases ru;obtain⟨its2,rvs2,pl2,_⟩:=I.list (.inl h');exact SeqAt.EqAt.int_list i t pl2.isList hu0
   |_=>exact flat (.int i) (by first|exact .non|exact .bl _|exact .int _|exact .str _) rv ru rfl rfl
  |str z=>
   cases r2 with
   |scr h' =>simp[a9] at p2
   |dK f h' l r=>simp[a9] at p2
   |dT f h' l r=>simp[a9] at p2
   |tup h' l' r' =>obtain⟨t,rfl⟩:=rv;cases ru;obtain⟨its2,rvs2,ht2,_⟩:=I.tuple (SqT.of h');exact SeqAt.EqAt.str_tuple z t ht2 hu0
   |lst f' h' l' r' =>obtain⟨t,rfl⟩:=rv;cases ru;obtain⟨its2,rvs2,pl2,_⟩:=I.list (.inl h');exact SeqAt.EqAt.str_list z t pl2.isList hu0
   |_=>exact flat (.str z) (by first|exact .non|exact .bl _|exact .int _|exact .str _) rv ru rfl rfl
theorem pV(I:Inv X pins σ H s){F G:Addr→Prop}{n:Nat}{dx dy:D}{x y:V}{v u:Value}{A:Around}(p1:a9 n dx=true)(p2:a9 n dy=true)(r1:Rep X.K F H dx x)(r2:Rep X.K G H dy y)(rv:RelV x v)(ru:RelV y u)(hu:A.units+n<cLine):
  SeqAt.RcAt A s v u (eqD dx dy)∧SeqAt.RcNeAt A s v u (!eqD dx dy):=by
 have hu0:A.units<cLine:=by omega
 have tupAt:∀{a:Addr} {vs:List V},H a=some (.tup vs)→∃its:List Value,s.heap.IsTuple a its.toArray:=λh=>let⟨its,_,ht,_⟩:=I.tuple (SqT.of h);⟨its,ht⟩
 have lstAt:∀{a:Addr} {vs:List V},Rd H a (.lst vs)→∃its:List Value,s.heap.IsList a its.toArray:=λh=>let⟨its,_,pl,_⟩:=I.list (.inl h);⟨its,pl.isList⟩
 cases r1 with
 |scr h=>cases n<;>simp[a9] at p1
 |dK f h l r=>cases n<;>simp[a9] at p1
 |dT f h l r=>cases n<;>simp[a9] at p1
 |non=>
  cases rv
  cases r2 with
  |scr h' =>cases n<;>simp[a9] at p2
  |dK f h' l r=>cases n<;>simp[a9] at p2
  |dT f h' l r=>cases n<;>simp[a9] at p2
  |non=>cases ru;exact⟨.none_none,.none_none⟩
  |bl b=>cases ru;exact⟨.none_bool b,.none_bool b⟩
  |int i=>obtain⟨t,rfl⟩:=ru;exact⟨.none_int i t,.none_int i t⟩
  |str z=>obtain⟨t,rfl⟩:=ru;exact⟨.none_str z t,.none_str z t⟩
  |tup h' l' r' =>cases ru;obtain⟨its,ht⟩:=tupAt h';exact⟨.none_tuple ht hu0,.none_tuple ht hu0⟩
  |lst f' h' l' r' =>cases ru;obtain⟨its,ht⟩:=lstAt h';exact⟨.none_list ht hu0,.none_list ht hu0⟩
 |bl b=>
  cases rv
  cases r2 with
  |scr h' =>cases n<;>simp[a9] at p2
  |dK f h' l r=>cases n<;>simp[a9] at p2
  |dT f h' l r=>cases n<;>simp[a9] at p2
  |non=>cases ru;exact⟨.bool_none b,.bool_none b⟩
  |bl b' =>cases ru;exact⟨.bool_bool b b',.bool_bool b b'⟩
  |int i=>obtain⟨t,rfl⟩:=ru;exact⟨.bool_int b i t,.bool_int b i t⟩
  |str z=>obtain⟨t,rfl⟩:=ru;exact⟨.bool_str b z t,.bool_str b z t⟩
  |tup h' l' r' =>cases ru;obtain⟨its,ht⟩:=tupAt h';exact⟨.bool_tuple b ht hu0,.bool_tuple b ht hu0⟩
  |lst f' h' l' r' =>cases ru;obtain⟨its,ht⟩:=lstAt h';exact⟨.bool_list b ht hu0,.bool_list b ht hu0⟩
 |int i=>
  obtain⟨t,rfl⟩:=rv
  cases r2 with
  |scr h' =>cases n<;>simp[a9] at p2
  |dK f h' l r=>cases n<;>simp[a9] at p2
  |dT f h' l r=>cases n<;>simp[a9] at p2
  |non=>cases ru;exact⟨.int_none i t,.int_none i t⟩
  |bl b' =>cases ru;exact⟨.int_bool i t b',.int_bool i t b'⟩
  |int j=>obtain⟨t',rfl⟩:=ru;exact⟨.int_int i t j t',.int_int i t j t'⟩
  |str z=>obtain⟨t',rfl⟩:=ru;exact⟨.int_str i t z t',.int_str i t z t'⟩
  |tup h' l' r' =>cases ru;obtain⟨its,ht⟩:=tupAt h';exact⟨.int_tuple i t ht hu0,.int_tuple i t ht hu0⟩
  |lst f' h' l' r' =>cases ru;obtain⟨its,ht⟩:=lstAt h';exact⟨.int_list i t ht hu0,.int_list i t ht hu0⟩
 |str z=>
  obtain⟨t,rfl⟩:=rv
  cases r2 with
  |scr h' =>cases n<;>simp[a9] at p2
  |dK f h' l r=>cases n<;>simp[a9] at p2
  |dT f h' l r=>cases n<;>simp[a9] at p2
  |non=>cases ru;exact⟨.str_none z t,.str_none z t⟩
  |bl b' =>cases ru;exact⟨.str_bool z t b',.str_bool z t b'⟩
  |int j=>obtain⟨t',rfl⟩:=ru;exact⟨.str_int z t j t',.str_int z t j t'⟩
  |str z' =>obtain⟨t',rfl⟩:=ru;exact⟨.str_str z t z' t',.str_str z t z' t'⟩
  |tup h' l' r' =>cases ru;obtain⟨its,ht⟩:=tupAt h';exact⟨.str_tuple z t ht hu0,.str_tuple z t ht hu0⟩
  |lst f' h' l' r' =>cases ru;obtain⟨its,ht⟩:=lstAt h';exact⟨.str_list z t ht hu0,.str_list z t ht hu0⟩
 | @tup a vs1 ds1 h l r=>
  cases n with
  |zero=>simp[a9] at p1
  |succ n=>
   cases rv
   obtain⟨its,rvs,ht,_⟩:=I.tuple (SqT.of h)
   cases r2 with
   |scr h' =>simp[a9] at p2
   |dK f h' l r=>simp[a9] at p2
   |dT f h' l r=>simp[a9] at p2
   |non=>cases ru;exact⟨.tuple_none ht hu0,.tuple_none ht hu0⟩
   |bl b=>cases ru;exact⟨.tuple_bool b ht hu0,.tuple_bool b ht hu0⟩
   |int i=>obtain⟨t,rfl⟩:=ru;exact⟨.tuple_int i t ht hu0,.tuple_int i t ht hu0⟩
   |str z=>obtain⟨t,rfl⟩:=ru;exact⟨.tuple_str z t ht hu0,.tuple_str z t ht hu0⟩
   |lst f' h' l' r' =>cases ru;obtain⟨its2,ht2⟩:=lstAt h';exact⟨.tuple_list ht ht2 hu0,.tuple_list ht ht2 hu0⟩
   | @tup b vs2 ds2 h' l' r' =>
    cases ru
    obtain⟨its2,rvs2,ht2,_⟩:=I.tuple (SqT.of h')
    have hs1:its.toArray.size=ds1.length:=by rw[Gas,←rvs.length,l]
    have hs2:its2.toArray.size=ds2.length:=by rw[Gas,←rvs2.length,l']
    have items:∀j (h1:j<its.toArray.size) (h2:j<its2.toArray.size),SeqAt.EqAt A.in1 s its.toArray[j] its2.toArray[j] ((λj=>eqD (ds1.getD j .non) (ds2.getD j .non)) j):=λj h1 h2=>by
     obtain⟨d1,v1,q1,q2,q3,q4⟩:=item_at l r rvs h1
     obtain⟨d2,v2,w1,w2,w3,w4⟩:=item_at l' r' rvs2 h2
     dsimp only
     rw[q2,w2]
     exact j6 I n (plain_all (by simpa[a9] using p1) q1) (plain_all (by simpa[a9] using p2) w1) q3 w3 q4 w4 (in1_units hu)
    have k1:=SeqAt.RcAt.tuples ht ht2 hu0 items
    have k2:=SeqAt.RcNeAt.tuples ht ht2 hu0 items
    have e:((List.range (min its.toArray.size its2.toArray.size)).all (λj=>eqD (ds1.getD j .non) (ds2.getD j .non))&&its.toArray.size==its2.toArray.size)=fK ds1 ds2:=by
     rw[hs1,hs2]
     by_cases hl:ds1.length=ds2.length
     ·rw[←hl,GdC,ck hl];simp
     ·rw[dI hl]
      have:(ds1.length==ds2.length)=false:=by simpa using hl
      rw[this,Gdo]
    rw[e] at k1 k2
    exact⟨k1,k2⟩
 | @lst a vs1 ds1 f h l r=>
  cases n with
  |zero=>simp[a9] at p1
  |succ n=>
   cases rv
   obtain⟨its,rvs,pl,_⟩:=I.list (.inl h)
   have ht:=pl.isList
   cases r2 with
   |scr h' =>simp[a9] at p2
   |dK f h' l r=>simp[a9] at p2
   |dT f h' l r=>simp[a9] at p2
   |non=>cases ru;exact⟨.list_none ht hu0,.list_none ht hu0⟩
   |bl b=>cases ru;exact⟨.list_bool b ht hu0,.list_bool b ht hu0⟩
   |int i=>obtain⟨t,rfl⟩:=ru;exact⟨.list_int i t ht hu0,.list_int i t ht hu0⟩
   |str z=>obtain⟨t,rfl⟩:=ru;exact⟨.list_str z t ht hu0,.list_str z t ht hu0⟩
   |tup h' l' r' =>cases ru;obtain⟨its2,ht2⟩:=tupAt h';exact⟨.list_tuple ht ht2 hu0,.list_tuple ht ht2 hu0⟩
   | @lst b vs2 ds2 f' h' l' r' =>
    cases ru
    obtain⟨its2,rvs2,pl2,_⟩:=I.list (.inl h')
    have ht2:=pl2.isList
    have hs1:its.toArray.size=ds1.length:=by rw[Gas,←rvs.length,l]
    have hs2:its2.toArray.size=ds2.length:=by rw[Gas,←rvs2.length,l']
    have items:∀j (h1:j<its.toArray.size) (h2:j<its2.toArray.size),SeqAt.EqAt A.in1 s its.toArray[j] its2.toArray[j] ((λj=>eqD (ds1.getD j .non) (ds2.getD j .non)) j):=λj h1 h2=>by
     obtain⟨d1,v1,q1,q2,q3,q4⟩:=item_at l r rvs h1
     obtain⟨d2,v2,w1,w2,w3,w4⟩:=item_at l' r' rvs2 h2
     dsimp only
     rw[q2,w2]
     exact j6 I n (plain_all (by simpa[a9] using p1) q1) (plain_all (by simpa[a9] using p2) w1) q3 w3 q4 w4 (in1_units hu)
    show SeqAt.RcAt A s (.ref a) (.ref b) (fK ds1 ds2)∧SeqAt.RcNeAt A s (.ref a) (.ref b) (!fK ds1 ds2)
    by_cases hl:ds1.length=ds2.length
    ·have k1:=SeqAt.RcAt.lists ht ht2 (by rw[hs1,hs2,hl]) hu0 items
     have k2:=SeqAt.RcNeAt.lists ht ht2 (by rw[hs1,hs2,hl]) hu0 items
     rw[hs1,ck hl] at k1 k2
     exact⟨k1,k2⟩
    ·rw[dI hl]
     exact⟨SeqAt.RcAt.lists_lengths ht ht2 (by rw[hs1,hs2];simpa using hl) hu0,SeqAt.RcNeAt.lists_lengths ht ht2 (by rw[hs1,hs2];simpa using hl) hu0⟩
end
section
variable{X:Cx}
noncomputable def Bb(K:aa)(neg:Bool):R2:=λx y H Q=>∃F dx dy,Inn K F H dx x∧Inn K F H dy y∧dx.plain=true∧dy.plain=true∧Q (.bl (if neg then !eqD dx dy else eqD dx dy)) H
theorem lM(hu:X.A.units+20<cLine):OpR X (compareOp .Eq) (Bb X.K false):=by
 intro pins s σ H x y v u Q I rx ry h
 obtain⟨F,dx,dy,i1,i2,p1,p2,q⟩:=h
 exact(pV I (n:=20) p1 p2 i1.any i2.any rx ry hu).1 X.prog X.w _ _ ⟨.bl (eqD dx dy),H,I,rfl,q⟩
theorem vZ(hu:X.A.units+20<cLine):OpR X (compareOp .NotEq) (Bb X.K true):=by
 intro pins s σ H x y v u Q I rx ry h
 obtain⟨F,dx,dy,i1,i2,p1,p2,q⟩:=h
 exact(pV I (n:=20) p1 p2 i1.any i2.any rx ry hu).2 X.prog X.w _ _ ⟨.bl (!eqD dx dy),H,I,rfl,q⟩
theorem lN:OpB X eqB (Bb X.K false):=by
 intro F H dx dy x y b Q ix iy e q
 unfold eqB at e
 split at e
 ·rename_i z
  rw[Gal] at z
  cases e
  exact⟨F,dx,dy,ix,iy,z.1,z.2,q⟩
 ·cases e
theorem w5:OpB X neB (Bb X.K true):=by
 intro F H dx dy x y b Q ix iy e q
 unfold neB at e
 split at e
 ·rename_i z
  rw[Gal] at z
  cases e
  exact⟨F,dx,dy,ix,iy,z.1,z.2,q⟩
 ·cases e
theorem j7{A:Around}{k:Nat}(hr:dR k A):A.units+20<cLine:=GdM (Nat.add_le_add_left (by decide:20≤64) _) hr.units
theorem d8:bootBuiltins "len"=some (.builtin "len"):=by decide+kernel
theorem D4:bootBuiltins "all"=some (.builtin "all"):=by decide+kernel
theorem jN:bootBuiltins "sorted"=some (.builtin "sorted"):=by decide+kernel
theorem D5:bootBuiltins "int"=some (.type "int"):=by decide+kernel
theorem Bc:bootBuiltins "bool"=some (.type "bool"):=by decide+kernel
theorem w6:bootBuiltins "str"=some (.type "str"):=by decide+kernel
theorem lO:bootBuiltins "tuple"=some (.type "tuple"):=by decide+kernel
theorem fR:bootBuiltins "list"=some (.type "list"):=by decide+kernel
theorem Bd{K:aa}:nF K "int":=by
 intro t ht
 simp only[Gar,Gce,GdL] at ht
 rcases ht with rfl|rfl|rfl|rfl|rfl|rfl|rfl<;>rfl
theorem sS{K:aa}:nF K "str":=by
 intro t ht
 simp only[Gar,Gce,GdL] at ht
 rcases ht with rfl|rfl|rfl|rfl|rfl|rfl|rfl<;>rfl
theorem kit_tuple{K:aa}:nF K "tuple":=by
 intro t ht
 simp only[Gar,Gce,GdL] at ht
 rcases ht with rfl|rfl|rfl|rfl|rfl|rfl|rfl<;>rfl
theorem lP{K:aa}:nF K "list":=by
 intro t ht
 simp only[Gar,Gce,GdL] at ht
 rcases ht with rfl|rfl|rfl|rfl|rfl|rfl|rfl<;>rfl
theorem w8{K:aa}:nF K "bool":=by
 intro t ht
 simp only[Gar,Gce,GdL] at ht
 rcases ht with rfl|rfl|rfl|rfl|rfl|rfl|rfl<;>rfl
end
open PySem PySem.Spec PyProof.Rows L2
section
variable{X:Cx}{sts:List Stmt}{f:DS}
theorem ai(i:Nat)(x:Str)(k:(∀pos,PEd X (.Name x pos) (vE i))→gz X sts f)(hN:X.N[i]? =some x:=by rfl)(hv:Vis X.env.scope x:=by first|exact Or.inl rfl|exact Or.inr (Or.inl rfl)|exact Or.inr (Or.inr rfl))(hd:(x==("__debug__":Str))=false:=by decide)
  (hcd:(x==("__classdict__":Str))=false:=by decide):gz X sts f:=k λ_=>cg i hN hv hd hcd
theorem aV(i:Nat)(x:Str)(k:Loc X.env.scope x→gz X sts f)(hx:Loc X.env.scope x:=by first|exact Or.inl rfl|exact Or.inr rfl):gz X sts f:=k hx
theorem oG(i:Nat)(x:Str)(k:Vis X.env.scope x→gz X sts f)(hv:Vis X.env.scope x:=by first|exact Or.inl rfl|exact Or.inr (Or.inl rfl)|exact Or.inr (Or.inr rfl)):gz X sts f:=k hv
theorem aH(x:Str)(k:Gl X x→gz X sts f)(hg:Gl X x:=by rfl):gz X sts f:=k hg
end
open PySem PySem.Spec PyProof.Rows L2
theorem iK{env:PySem.Env}:∀(names:List (Str×NameKind)),(∀y∈names,y.2= .free→∃c,env.cells.lookup y.1=some c)→∀(cs:List (Str×Addr)),(∀n c,cs.lookup n=some c→env.cells.lookup n=some c)→
  ∃cl:List (Str×Addr),(forIn names cs λx r=>(do
    if(x.2==NameKind.free)=true then pure (ForInStep.yield ((x.1,←cellOf env x.1)::r)) else pure (ForInStep.yield r):Sem (ForInStep (List (Str×Addr)))))=pure cl∧
   (∀n c,cl.lookup n=some c→env.cells.lookup n=some c)∧(∀y∈names,y.2= .free→∃c,cl.lookup y.1=some c)∧∀n c,cs.lookup n=some c→∃c',cl.lookup n=some c'
 |[],_,cs,h=>by
  refine⟨cs,rfl,h, ?_,λn c e=> ⟨c,e⟩⟩
  intro y hy;cases hy
 |(x,k)::names,hf,cs,h=>by
  by_cases hk:k= .free
  ·subst hk
   obtain⟨c,hc⟩:=hf (x,.free) Gap rfl
   have hcell:cellOf env x=pure c:=by unfold cellOf;rw[hc]<;>rfl
   obtain⟨cl,h1,h2,h3,h4⟩:=iK names (λy hy=>hf y (Gai _ hy)) ((x,c)::cs) (λn c' e=>by
    by_cases z:n=x
    ·subst z;simp[GaQ] at e;subst e;exact hc
    ·have z' :(n==x)=false:=by simpa using z
     simp[GaQ,z'] at e;exact h n c' e)
   refine⟨cl, ?_,h2,λy hy hyf=> ?_,λn c' e=> ?_⟩
   ·rw[GdD]
    simp only[hcell]
    exact h1
   ·rcases Gar.mp hy with rfl|hy
    ·exact h4 x c (by simp[GaQ])
    ·exact h3 y hy hyf
   ·by_cases z:n=x
    ·subst z;exact h4 n c (by simp[GaQ])
    ·have z' :(n==x)=false:=by simpa using z
     exact h4 n c' (by simp[GaQ,z',e])
  ·have hk' :(k==NameKind.free)=false:=by simpa using hk
   obtain⟨cl,h1,h2,h3,h4⟩:=iK names (λy hy=>hf y (Gai _ hy)) cs h
   refine⟨cl, ?_,h2,λy hy hyf=> ?_,h4⟩
   ·rw[GdD]
    simp only[hk']
    exact h1
   ·rcases Gar.mp hy with rfl|hy
    ·exact absurd hyf hk
    ·exact h3 y hy hyf
theorem ip{env:PySem.Env}{scope:Scope}(hf:∀y∈scope.names,y.2= .free→∃c,env.cells.lookup y.1=some c):
  ∃cl:List (Str×Addr),closureFor scope env=pure cl∧(∀n c,cl.lookup n=some c→env.cells.lookup n=some c)∧∀y∈scope.names,y.2= .free→∃c,cl.lookup y.1=some c:=by
 obtain⟨cl,h1,h2,h3,_⟩:=iK scope.names hf [] (λn c e=>by simp at e)
 refine⟨cl, ?_,h2,h3⟩
 unfold closureFor
 exact(congrArg (λm=>m>>=pure) h1).trans (by rfl)
theorem mem_of_lookup{x:Str}{k:NameKind}:∀{l:List (Str×NameKind)},l.lookup x=some k→(x,k)∈l
 |[],h=>by simp at h
 |(n,k')::r,h=>by
  rw[GaQ] at h
  cases hx:x==n with
  |true=>rw[hx] at h;cases h;rw[GbT] at hx;subst hx;exact Gap
  |false=>rw[hx] at h;exact Gai _ (mem_of_lookup h)
theorem iL{env:PySem.Env}{x:Str}:∀{names:List (Str×NameKind)},(∀y∈names,y.2≠ .cell)→((names.map λ(n,k)=>if(k==NameKind.free&&env.scope.kind== .function&&env.kindOf n==some .cell) then(n,NameKind.cell) else(n,k)).lookup x=some .cell∨
   (names.map λ(n,k)=>if(k==NameKind.free&&env.scope.kind== .function&&env.kindOf n==some .cell) then(n,NameKind.cell) else(n,k)).lookup x=some .free)→(x,NameKind.free)∈names
 |[],_,h=>by simp at h
 |(n,k)::r,hc,h=>by
  have hk:k≠ .cell:=hc (n,k) Gap
  rw[GaH] at h
  dsimp only at h
  split at h
  ·rename_i q
   have q1:k= .free:=by
    rw[Gal,Gal] at q
    simpa using q.1.1
   subst q1
   rw[GaQ] at h
   cases hx:x==n with
   |true=>rw[GbT] at hx;subst hx;exact Gap
   |false=>rw[hx] at h;exact Gai _ (iL (λy hy=>hc y (Gai _ hy)) h)
  ·rw[GaQ] at h
   cases hx:x==n with
   |true=>
    rw[hx] at h
    rw[GbT] at hx;subst hx
    rcases h with h|h
    ·cases h;exact absurd rfl hk
    ·cases h;exact Gap
   |false=>rw[hx] at h;exact Gai _ (iL (λy hy=>hc y (Gai _ hy)) h)
theorem dh{env:PySem.Env}{x:Str}:∀{names:List (Str×NameKind)},names.lookup x=some .free→((names.map λ(n,k)=>if(k==NameKind.free&&env.scope.kind== .function&&env.kindOf n==some .cell) then(n,NameKind.cell) else(n,k)).lookup x=some .cell∨
   (names.map λ(n,k)=>if(k==NameKind.free&&env.scope.kind== .function&&env.kindOf n==some .cell) then(n,NameKind.cell) else(n,k)).lookup x=some .free)
 |[],h=>by simp at h
 |(n,k)::r,h=>by
  rw[GaQ] at h
  rw[GaH]
  dsimp only
  cases hx:x==n with
  |true=>
   rw[hx] at h;cases h
   split
   ·left;rw[GaQ,hx]
   ·right;rw[GaQ,hx]
  |false=>
   rw[hx] at h
   split
   ·rw[GaQ,hx];exact dh h
   ·rw[GaQ,hx];exact dh h
noncomputable def blk(X:Cx)(scope:Scope)(cl:List (Str×Addr))(C:Addr)(N:List Str)(s:Shared)(H:Hp)(ex:List Addr):Cx:=
 {X with N:=N,s₀:=s,H₀:=H,env:=compEnvC scope cl C X.env,outer:=X.stack,ex:=ex,fn:=λ_=>false,pn:=[],xe:=λ_ _=>False}
noncomputable def Fw:Option NameKind→Bool
 |some .cell=>true
 |some .free=>true
 |_=>false
structure gD(X:Cx)(scope:Scope)(N:List Str)(n:Nat)(caps:List Nat):Prop where
 cell:(scope.names.all λy=>y.2 != .cell)=true
 kind:scope.kind= .function
 names:(scope.names.all λy=>y.2 != .local||scope.names.lookup y.1==some .local)=true
 free:(scope.names.all λy=>y.2 != .free||Fw (X.env.kindOf y.1))=true
 cap:N.drop n=caps.map λi=>(X.N[i]?).getD ("":Str)
 le:n≤N.length
 lt:(caps.all λi=>decide (i<X.N.length))=true
 fr:((N.drop n).all λx=>scope.names.lookup x==some .free)=true
noncomputable def kR(X:Cx)(ifs:List Expr)(tt:TT):Prop:=∀(pins:List (Addr×Obj)) (s:Shared) (σ:St) (H:Hp) (Q:Bool→Hp→Prop),Inv X pins σ H s→tt σ H Q→
 wpAny (model X.prog X.w) X.A (forIn ifs true λc r=>if r=true then do let ok←isTrue c X.env (eval c X.env);pure (ForInStep.yield ok) else pure (ForInStep.yield r)) (TP X pins σ Q) X.xe s
theorem nG{X:Cx}:kR X [] (tT X iZ):=λpins s σ H Q I ⟨_,_,_,_,_,e,k⟩=>by
 cases e
 exact wpAny_tests_nil ⟨H,I,k H bF⟩
theorem nH{X:Cx}{c:Expr}{t:DT}(h:PTd X c t):kR X [c] (tT X t):=λpins s σ H Q I q=>wpAny_tests_one (h pins s σ H Q I q)
theorem kS{caps:List Nat}{n j:Nat}{α:Type}{f:Nat→Option α}{y:α}(h:(List.replicate n (none:Option α)++caps.map f)[j]? =some (some y)):∃i,caps[j -n]? =some i∧n≤j∧f i=some y:=by
 by_cases hj:j<n
 ·rw[Gbm (by simpa using hj),Gcv] at h
  rw[Gag hj] at h;cases h
 ·rw[Gbh (by simp;omega),Gdy,Gav] at h
  cases q:caps[j -n]? with
  |none=>rw[q] at h;cases h
  |some i=>rw[q] at h;simp only[GbU,Gdq] at h;exact⟨i,rfl,by omega,h⟩
theorem w9{caps:List Nat}{n j i:Nat}{α:Type}{f:Nat→Option α}(h1:caps[j -n]? =some i)(h2:n≤j):(List.replicate n (none:Option α)++caps.map f)[j]? =some (f i):=by
 rw[Gbh (by simp;omega),Gdy,Gav,h1];rfl
noncomputable def gE(n:Nat)(caps:List Nat)(σ:St):St:=List.replicate n none++caps.map λi=>σ[i]?.getD none
noncomputable def iq(Bad:Addr→Prop)(env:Env)(σ:St)(p:Addr):Addr→Prop:=λa=>a=p∨¬Cln Bad env σ a
theorem getD_some{α:Type}{o:Option (Option α)}{y:α}(h:o.getD none=some y):o=some (some y):=by
 cases o with
 |none=>cases h
 |some z=>simp only[Option.getD_some] at h;rw[h]
theorem pW{caps:List Nat}{n j:Nat}{env:Env}{sl:Slot}(e:(compEnv n caps env)[j]? =some (some sl)):∃i,caps[j -n]? =some i∧n≤j∧iY (env[i]?.getD none)=some sl:=kS e
theorem sT{caps:List Nat}{n j:Nat}{env:Env}{σ:St}{a:Addr}(t:aZ (compEnv n caps env)[j]?)(e:(gE n caps σ)[j]? =some (some (.ref a))):∃i:Nat,aZ env[i]? ∧σ[i]? =some (some (.ref a)):=by
 cases q:(compEnv n caps env)[j]? with
 |none=>rw[q] at t;exact t.elim
 |some z=>
  cases z with
  |none=>rw[q] at t;exact t.elim
  |some sl=>
   obtain⟨i,e1,e2,e3⟩:=pW q
   obtain⟨i',e1',_,e3'⟩:=kS e
   rw[e1] at e1';cases e1'
   refine⟨i, ?_,getD_some e3'⟩
   rw[q] at t
   cases r:env[i]? with
   |none=>rw[r] at e3;cases e3
   |some z=>cases z with
    |none=>rw[r] at e3;cases e3
    |some z=>
     rw[r] at e3
     cases z with
     |sh d=>cases e3;exact t.elim
     |own d=>trivial
     |lok d=>trivial
     |bor d=>trivial
theorem Be{caps:List Nat}{n j:Nat}{env:Env}:¬isO (compEnv n caps env)[j]? :=λt=>by
 match q:(compEnv n caps env)[j]?,t with
 |some (some (.own d)),_=>
  obtain⟨i,_,_,e3⟩:=pW q
  cases q:env[i]?.getD none with
  |none=>rw[q] at e3;cases e3
  |some z=>rw[q] at e3;cases z<;>cases e3
theorem ak.block{K:aa}{H₀:Hp}{Bad:Addr→Prop}{env:Env}{σ:St}{H:Hp}(E:ak K H₀ Bad env σ H)(n:Nat)(caps:List Nat){p:Addr}(hp:H p=none):
  ak K H (iq Bad env σ p) (compEnv n caps env) (gE n caps σ) (upd H p (.lst [])):=by
 have sm:bC H (upd H p (.lst [])):=aX hp
 have slot:∀(j:Nat) (sl:Slot),(compEnv n caps env)[j]? =some (some sl)→∃i,caps[j -n]? =some i∧n≤j∧iY (env[i]?.getD none)=some sl:=λj sl e=>kS e
 have noO:∀(j:Nat) d,(compEnv n caps env)[j]? ≠some (some (.own d))∧(compEnv n caps env)[j]? ≠some (some (.lok d)):=λj d=>by
  constructor<;>
  ·intro e
   obtain⟨i,_,_,e3⟩:=slot j _ e
   cases q:env[i]?.getD none with
   |none=>rw[q] at e3;cases e3
   |some z=>rw[q] at e3;cases z<;>cases e3
 have topAd:∀(j:Nat) a,aZ (compEnv n caps env)[j]? →(gE n caps σ)[j]? =some (some (.ref a))→∃i:Nat,aZ env[i]? ∧σ[i]? =some (some (.ref a)):=λj a t e=>sT t e
 have cln:∀b,Cln Bad env σ b→H b≠none→Cln (iq Bad env σ p) (compEnv n caps env) (gE n caps σ) b:=λb h hb=>by
  refine⟨λz=> ?_,λj t e=> ?_⟩
  ·rcases z with z|z
   ·subst z;exact hb hp
   ·exact z h
  ·obtain⟨i,t',e'⟩:=topAd j b t e
   exact h.2 i t' e'
 refine⟨sm, ?_, ?_, ?_, ?_, ?_, ?_⟩
 ·simp[compEnv,gE]
 ·intro a ha
  rcases ha with ha|ha
  ·subst ha;rw[av];simp
  ·intro z
   refine ha ⟨λb=>E.bad a b (sm.free z),λi t e=>E.j3 t e (sm.free z)⟩
 ·intro j d e
  obtain⟨i,e1,e2,e3⟩:=slot j _ e
  have q:env[i]? =some (some (.sh d)):=by
   cases r:env[i]? with
   |none=>rw[r] at e3;cases e3
   |some z=>cases z with
    |none=>rw[r] at e3;cases e3
    |some z=>rw[r] at e3;cases z<;>cases e3;rfl
  obtain⟨v,h1,h2⟩:=E.sh i d q
  refine⟨v, ?_,h2.gen (.of_same sm) cln⟩
  unfold gE
  rw[w9 e1 e2,h1];rfl
 ·intro j d e
  rcases e with e|e
  ·exact absurd e (noO j d).1
  ·exact absurd e (noO j d).2
 ·intro j d e
  obtain⟨i,e1,e2,e3⟩:=slot j _ e
  have q:aZ env[i]? ∧(env[i]? =some (some (.own d))∨env[i]? =some (some (.lok d))∨env[i]? =some (some (.bor d))):=by
   cases r:env[i]? with
   |none=>rw[r] at e3;cases e3
   |some z=>cases z with
    |none=>rw[r] at e3;cases e3
    |some z=>
     rw[r] at e3
     cases z with
     |sh d=>cases e3
     |own d=>cases e3;exact⟨trivial,.inl rfl⟩
     |lok d=>cases e3;exact⟨trivial,.inr (.inl rfl)⟩
     |bor d=>cases e3;exact⟨trivial,.inr (.inr rfl)⟩
  have fact:∃a,σ[i]? =some (some (.ref a))∧Wr H a∧d.top=true∧Inn K (Cln Bad env σ) H d (.ref a):=by
   rcases q.2 with q|q|q
   ·obtain⟨a,h1,_,_,h4,h5,h6⟩:=E.ow i d (.inl q);exact⟨a,h1,h4,h5,h6⟩
   ·obtain⟨a,h1,_,_,h4,h5,h6⟩:=E.ow i d (.inr q);exact⟨a,h1,h4,h5,h6⟩
   ·exact E.bo i d q
  obtain⟨a,h1,h4,h5,h6⟩:=fact
  refine⟨a, ?_,h4.same sm,h5,h6.gen (.of_same sm) cln λ_ _ _ o e=>sm _ o e⟩
  unfold gE
  rw[w9 e1 e2,h1];rfl
 ·intro j k a t
  exfalso
  cases q:(compEnv n caps env)[j]? with
  |none=>rw[q] at t;exact t
  |some z=>cases z with
   |none=>rw[q] at t;exact t
   |some z=>cases z with
    |sh d=>rw[q] at t;exact t
    |own d=>exact(noO j d).1 q
    |lok d=>exact(noO j d).2 q
    |bor d=>rw[q] at t;exact t
theorem ak.grow{K:aa}{H₀:Hp}{Bad:Addr→Prop}{env:Env}{σ:St}{H:Hp}{p:Addr}{vs us:List V}(E:ak K H₀ Bad env σ H)(hb:Bad p)(h0:H₀ p=none)(hp:H p=some (.lst vs))(hl:∀i:Nat,oC env[i]? →σ[i]? ≠some (some (.ref p))):ak K H₀ Bad env σ (upd H p (.lst us)):=by
 have gq:gy (Cln Bad env σ) H (upd H p (.lst us)):=λb o e q=>by
  refine(ay ?_).trans e
  rintro rfl
  rcases q with q|q
  ·exact q.1 hb
  ·rw[hp] at e;cases e;exact q
 have wr:∀{a},Wr H a→Wr (upd H p (.lst us)) a:=λ{a} ⟨o,h1,h2⟩=>by
  by_cases z:a=p
  ·subst z;exact⟨_,av,trivial⟩
  ·exact⟨o,(ay z).trans h1,h2⟩
 refine⟨λb o e=>(ay λz=>by subst z;rw[h0] at e;cases e).trans (E.same b o e),E.len,λa ha=> ?_,λi d e=> ?_,λi d e=> ?_,λi d e=> ?_,E.dj⟩
 ·by_cases z:a=p
  ·subst z;rw[av];simp
  ·rw[ay z];exact E.bad a ha
 ·obtain⟨v,h1,h2⟩:=E.sh i d e
  exact⟨v,h1,h2.gen gq λ_ f _=>f⟩
 ·obtain⟨a,h1,h2,h3,h4,h5,h6⟩:=E.ow i d e
  refine⟨a,h1,h2,h3,wr h4,h5,h6.gen gq (λ_ f _=>f) λb eb _ o q=> ?_⟩
  cases eb
  exact(ay (λz:a=p=>h3 (by rw[z];exact hb))).trans q
 ·obtain⟨a,h1,h4,h5,h6⟩:=E.bo i d e
  refine⟨a,h1,wr h4,h5,h6.gen gq (λ_ f _=>f) λb eb _ o q=> ?_⟩
  cases eb
  exact(ay (λz:a=p=>hl i (by rw[e];trivial) (by rw[←z];exact h1))).trans q
open PySem PySem.Spec PyProof.Rows L2
theorem ex7{a b c d e f g:Type}{P:a→b→c→d→e→f→g→Prop}{G:Prop}(h:∀x1 x2 x3 x4 x5 x6 x7,P x1 x2 x3 x4 x5 x6 x7→G):(∃x1 x2 x3 x4 x5 x6 x7,P x1 x2 x3 x4 x5 x6 x7)→G:=λ⟨x1,x2,x3,x4,x5,x6,x7,q⟩=>h x1 x2 x3 x4 x5 x6 x7 q
structure CoI(X:Cx)(scope:Scope)(cl:List (Str×Addr))(C:Addr)(N:List Str)(s:Shared)(H:Hp)(fp:List Addr)(tn:Nat→Heap→Prop)(Bad:Addr→Prop)(env:Env)(σ:St)(p:Addr)(gd:DG)(t:DT)(f:DE)(ds rs:List D)(m:Nat)(s' :Shared)(i:Nat)(σi:St)(Hi:Hp)(envi:Env)(vs:List V)(done rest:List D):Prop where
 em:m=ds.length -i
 hi:i≤ds.length
 Ii:Inv (blk X scope cl C N s H fp) [] σi Hi s'
 sti:tn i s'.heap
 fri:∀b∈fp,Hi b=none
 Ei:ak X.K H (iq Bad env σ p) envi σi Hi
 hpi:Hi p=some (.lst vs)
 ri:aq X.K (λb=>Cln Bad env σ b∧b≠p) Hi done vs
 owi:∀j:Nat,¬isO envi[j]?
 lbi:∀(j:Nat) a,oC envi[j]? →σi[j]? =some (some (.ref a))→¬Cln Bad env σ a
 dl:done.length≤i
 ci:cF gd t f (ds.drop i) envi=some rest
 eqi:done++rest=rs
section
variable{X:Cx}{pos:Pos}
theorem dJ{env:PySem.Env}{scope:Scope}{x:Str}(h:scope.names.lookup x=some .local):(relabel scope env).names.lookup x=some .local:=lookup_relabel_local h
theorem cU{scope:Scope}{cl:List (Str×Addr)}{C:Addr}{N:List Str}{s:Shared}{H:Hp}{ex:List Addr}{x:Str}(h:scope.names.lookup x=some .local):Vis (blk X scope cl C N s H ex).env.scope x:= .inl (dJ h)
theorem gU{scope:Scope}{cl:List (Str×Addr)}{C:Addr}{N:List Str}{s:Shared}{H:Hp}{ex:List Addr}{x:Str}(h:scope.names.lookup x=some .local):Loc (blk X scope cl C N s H ex).env.scope x:= .inl (dJ h)
theorem dM{scope:Scope}{cl:List (Str×Addr)}{C:Addr}{N:List Str}{s:Shared}{H:Hp}{ex:List Addr}{x:Str}(h:scope.names.lookup x=some .free):Vis (blk X scope cl C N s H ex).env.scope x:= .inr (dh h)
theorem uy{scope:Scope}{cl:List (Str×Addr)}{N:List Str}{n:Nat}{caps:List Nat}{pins:List (Addr×Obj)}{σ:St}{H:Hp}{s:Shared}{fp:List Addr}{h₁:Heap}{tk:Nat}{C:Addr}(S:gD X scope N n caps)(I:Inv X pins σ H s)
  (hcl:∀x c,cl.lookup x=some c→X.env.cells.lookup x=some c)(hfr:∀y∈scope.names,y.2= .free→∃c,cl.lookup y.1=some c)(hf:∀b∈fp,jz X pins H b)(hfo:∀b∈fp,b<s.heap.objs.size)
  (hC:s.heap.objs.size+1=C)(hns:h₁.Ns C λ_=>none)(old:∀b o,s.heap.get? b=some o→h₁.get? b=some o)(hacc:h₁.get? s.heap.objs.size=some {cls:= .type "list",data:= .seq ([]:List Value).toArray}):
  Inv (blk X scope cl C N s H fp) [] (gE n caps σ) (upd H s.heap.objs.size (.lst [])) {s with heap:=h₁,toks:=tk}:=by
 have hpn:=I.fresh
 have hCn:H C=none:=I.hok.fresh (by omega)
 have hne:C≠s.heap.objs.size:=λz=>by rw[z] at hC;exact Nat.succ_ne_self _ hC
 have hcell:∀y∈scope.names,y.2≠ .cell:=λy hy z=>by
  have:=Gao.mp S.cell y hy
  rw[z] at this;simp at this
 have cells:∀x c,cl.lookup x=some c→∃v,s.heap.IsCell c v:=λx c e=>I.cell x c (hcl x c e)
 have cNe:∀x c,cl.lookup x=some c→c≠s.heap.objs.size:=λx c e z=>by
  obtain⟨v,q⟩:=cells x c e
  exact absurd q.lt (by rw[z];exact Gbb _)
 refine⟨⟨I.ok.mod,S.kind,I.ok.glob,I.ok.blt,by show s.heap.objs.size≤C;omega,λx y c e1 e2=>I.ok.inj x y c (hcl x c e1) (hcl y c e2),λx hx=> ?_,λx c e=>(by cases e),I.ok.hd,I.ok.frames,.inl rfl,λb hb=> ⟨?_,λx c e=>(hf b hb).2.2.2.2.1 x c (hcl x c e)⟩,
  I.bs,GbJ I.ok.bsz I.sz,λb o e hb=> ?_,λb hb hs=> ?_,I.stack,I.sv⟩,rfl,I.bare,Un.laid old (Gaq _) hpn,⟨_,hns,λj x v e1 e2 e3=> ?_⟩,λx c e=> ?_,(ay hne).trans hCn,λx c e=>(ay (cNe x c e)).trans (I.gQ x c (hcl x c e)),λp hp=> ?_, ?_, ?_⟩
 ·obtain⟨c,hc⟩:=hfr (x,.free) (iL hcell hx) rfl
  exact⟨c,hc⟩
 ·intro z
  have:=hfo b hb
  have z' :b=C:=z
  rw[z',←hC] at this
  exact Gbb _ (Nat.lt_of_succ_lt this)
 ·rcases(hf b hb).2.2.2.1 with z|z
  ·exact I.ok.Ap b o e z
  ·exact absurd (GaF (Gam e) (GbJ I.ok.bsz z)) (Gbb _)
 ·have hs' :b∈frs X.stack:=hs
  rcases Gar.mp (I.qT b hs') with z|z
  ·exact(hf b hb).2.1 z
  ·exact(hf b hb).2.2.1 z
 ·
  obtain⟨i,f1,f2,f3⟩:=kS e2
  have f3' :=getD_some f3
  have e1' :N[j]? =some x:=e1
  have hd:(N.drop n)[j -n]? =some x:=by rw[GaW];rw[show n+(j -n)=j by omega];exact e1'
  have hxf:scope.names.lookup x=some .free:=by
   have:=Gao.mp S.fr x (GaJ hd)
   simpa using this
  rw[S.cap,Gav,f1] at hd
  have hi:i<X.N.length:=GaG (Gao.mp S.lt i (GaJ f1))
  have hXN:X.N[i]? =some x:=by
   simp only[GbU,Gdq] at hd
   rw[Gaa hi] at hd⊢
   simpa using hd
  have hk:Fw (X.env.kindOf x)=true:=by
   have:=Gao.mp S.free (x,.free) (mem_of_lookup hxf)
   simpa using this
  have hk' :X.env.kindOf x=some .cell∨X.env.kindOf x=some .free:=by
   cases q:X.env.kindOf x with
   |none=>rw[q] at hk;cases hk
   |some z=>rw[q] at hk;cases z<;>first|(cases hk;done)|exact .inl rfl|exact .inr rfl
  obtain⟨m,hm,look⟩:=I.loc
  have hv:Vis X.env.scope x:= .inr hk'
  obtain⟨u,ru,l⟩:=look i x v hXN f3' hv
  refine⟨u,ru,.inr ⟨?_, ?_⟩⟩
  ·exact dh hxf
  ·rcases l with⟨l,_⟩| ⟨_,c,hc,o,ho,hdt⟩
   ·rcases hk' with z|z<;>rw[l] at z<;>cases z
   ·obtain⟨c',hc'⟩:=hfr (x,.free) (mem_of_lookup hxf) rfl
    have:=hcl x c' hc'
    rw[hc] at this;cases this
    exact⟨c,hc',o,old _ _ ho,hdt⟩
 ·obtain⟨v,o,ho,hdt⟩:=cells x c e
  exact⟨v,o,old _ _ ho,hdt⟩
 ·cases hp
 ·exact I.hok.laid old (Gaq _) ⟨GaT _,[],0,.nil,hacc⟩
 ·show(gE n caps σ).length=N.length
  have:=congrArg List.length S.cap
  rw[List.length_drop,Gan] at this
  have:=S.le
  simp[gE]
  omega
theorem Bf{scope:Scope}{cl:List (Str×Addr)}{N:List Str}{C:Addr}{pins pins' :List (Addr×Obj)}{σ σ' :St}{H H' :Hp}{s s' :Shared}{fp:List Addr}(I:Inv X pins σ H s)(hf:∀b∈fp,jz X pins H b)
  (I' :Inv (blk X scope cl C N s H fp) pins' σ' H' s'):Inv X pins σ H' s' :=
 I.Em I'.os I'.base I'.hok I'.bare λb hb=> ⟨(hf b hb).2.2.2.1,(hf b hb).2.1,(hf b hb).2.2.2.2.1,(hf b hb).2.2.2.2.2⟩
noncomputable def Fx(K:aa)(H H' :Hp)(F:Addr→Prop)(p:Addr)(rs:List D):Prop:=bC H H' ∧H p=none∧∃vs,H' p=some (.lst vs)∧aq K (λb=>F b∧b≠p) H' rs vs
noncomputable def sU(gd:DG):Prop:=∀d e e',gd d e=some e' →(∀j:Nat,¬isO e[j]?)→∀j:Nat,¬isO e'[j]?
theorem Bg{e:Env}{i:Nat}{d:D}(h:∀j:Nat,¬isO e[j]?):∀j:Nat,¬isO (e.set i (some (.sh d)))[j]? :=λj z=>by
 by_cases q:i=j
 ·subst q
  by_cases hl:i<e.length
  ·rw[Gbc hl] at z;exact z
  ·rw[Gbf (by simp;omega)] at z;exact z
 ·rw[Gaj q] at z;exact h j z
theorem j8{i:Nat}:sU (gN i):=λd e e' h n=>by cases h;exact Bg n
theorem nI{scope:Scope}{cl:List (Str×Addr)}{N:List Str}{n:Nat}{caps:List Nat}{pins:List (Addr×Obj)}{σ:St}{H H₀:Hp}{s:Shared}{fp:List Addr}{it:Addr}{tn:Nat→Heap→Prop}{J:It}{tg iter elt:Expr}{ifs:List Expr}{E:Value→Shared→Prop}
  {gd:DG}{t:DT}{f:DE}{ds rs:List D}{Bad:Addr→Prop}{env:Env}{RR:Value→Addr→Result→Shared→Prop}(hc:X.calm=true)(S:gD X scope N n caps)(I:Inv X pins σ H s)
  (hcl:∀x c,cl.lookup x=some c→X.env.cells.lookup x=some c)(hfr:∀y∈scope.names,y.2= .free→∃c,cl.lookup y.1=some c)(hf:∀b∈fp,jz X pins H b)(T:Turn X.prog X.w X.K tg J fp it tn)(st:tn 0 s.heap)
  (hg:∀C s' H',PGd (blk X scope cl C N s' H' fp) tg gd)(ht:∀C s' H',kR (blk X scope cl C N s' H' fp) ifs (tT X t))(he:∀C s' H',PEd (blk X scope cl C N s' H' fp) elt f)
  (EE:ak X.K H₀ Bad env σ H)(io:vV X.K (λb=>Cln Bad env σ b∧H b≠none) (λb=>¬Ow env σ b) J ds H)(hgo:sU gd)(hz:ds.length≤ao)(hl:cF gd t f ds (compEnv n caps env)=some rs)
  (hRR:∀p C s' H' m,Inv X pins σ H' s' →s'.heap.Ns C m→s.heap.objs.size≤C→jz X pins H' C→Fx X.K H H' (Cln Bad env σ) p rs→RR (.ref p) C (.ok .next) s'):
  wpAny (model X.prog X.w) X.A (newList []) (λacc s₃=>wpAny (model X.prog X.w) X.A (newFunctionEnv scope X.env.globals cl [] X.env.qual none .none (some X.env)) (λcenv s₄=>
   codeAny (model X.prog X.w) X.A (.compStart (.ListComp elt [⟨tg,iter,ifs,0⟩] scope pos) 0 (.ref it) acc {cenv with scope:=relabel scope X.env}) (RR acc cenv.locals) s₄) E s₃) E s:=by
 have hcell:∀y∈scope.names,y.2≠ .cell:=λy hy z=>by
  have:=Gao.mp S.cell y hy
  rw[z] at this;simp at this
 refine GbY (wpAny_newFunctionEnv hcell (by intro y hy;simp at hy) (λh₁ hns₁ hsb₁=> ?_) S.kind)
 dsimp only at hns₁ hsb₁⊢
 generalize hH2:s.heap.push {cls:= .type "list",dict:=none,data:= .seq ([]:List Value).toArray}=H2 at hns₁ hsb₁⊢
 have hC:s.heap.objs.size+1=H2.objs.size:=by rw[←hH2,GcO]
 have hDC:s.heap.objs.size≠H2.objs.size:=by rw[←hC];exact GaC (Gcf _)
 have hCle:s.heap.objs.size≤H2.objs.size:=by rw[←hC];exact GcD _
 have old:∀b o,s.heap.get? b=some o→h₁.get? b=some o:=λb o e=>hsb₁.extBut b o (by rw[←hC];exact GaC (GbZ (Gam e))) (Gad _ (hH2▸Gad _ e))
 have hacc:h₁.get? s.heap.objs.size=some {cls:= .type "list",data:= .seq ([]:List Value).toArray}:=hsb₁.extBut _ _ hDC (Gad _ (hH2▸Gaw _ rfl))
 have hfo:∀b∈fp,b<s.heap.objs.size:=λb hb=>by obtain⟨o,e,_⟩:=T.obj 0 _ st b hb;exact Gam e
 have st₁:tn 0 h₁:=T.keep 0 _ _ st λb _ o e=>old b o e
 have hpn:=I.fresh
 generalize hC' :H2.objs.size=C at*
 have I1:Inv (blk X scope cl C N s H fp) [] (gE n caps σ) (upd H s.heap.objs.size (.lst [])) {s with heap:=h₁,toks:=s.toks+([]:List (Str×Value)).length}:=uy S I hcl hfr hf hfo hC (by
  have z:(λx:Str=>([]:List (Str×Value)).reverse.lookup x)=λ_=>none:=by funext x;rfl
  rw[z] at hns₁;exact hns₁) old hacc
 have E1:=EE.block n caps hpn
 generalize hp:s.heap.objs.size=p at*
 have loop:codeAny (model X.prog X.w) X.A (.compLoop (.ListComp elt [⟨tg,iter,ifs,0⟩] scope pos) 0 (.ref it) (.ref p) (compEnvC scope cl C X.env)) (RR (.ref p) C) {s with heap:=h₁,toks:=s.toks+([]:List (Str×Value)).length}:=by
  refine codeAny_loop rfl (λm s' =>∃i σi Hi envi vs done rest,CoI X scope cl C N s H fp tn Bad env σ p gd t f ds rs m s' i σi Hi envi vs done rest) ?_ ds.length ?_
  ·refineλm s' =>ex7 λi σi Hi envi vs done rest J0=> ?_
   have e0:=J0.em
   subst e0
   have hi:=J0.hi
   have Ii:=J0.Ii
   have sti:=J0.sti
   have fri:=J0.fri
   have Ei:=J0.Ei
   have hpi:=J0.hpi
   have ri:=J0.ri
   have owi:=J0.owi
   have lbi:=J0.lbi
   have dl:=J0.dl
   have ci:=J0.ci
   have eqi:=J0.eqi
   have hfi:∀{H' :Hp},(∀b∈fp,H' b=none)→∀b∈fp,jz (blk X scope cl C N s H fp) [] H' b:=λhn b hb=>by
    refine⟨hn b hb,(Ii.ok.exf b hb).1,Ii.ok.Aq b hb,.inl hb,(Ii.ok.exf b hb).2,λq hq=>(by cases hq)⟩
   have keepAll:∀b o,H b=some o→Hi b=some o:=Ei.same
   obtain⟨items,stop⟩:=io Hi λb o hb _=>keepAll b o hb
   show wpAny _ X.A ((compTurn (.ListComp elt [⟨tg,iter,ifs,0⟩] scope pos) 0 (.ref it) (.ref p) (compEnvC scope cl C X.env)).onRaise (λx=>do noteFrame x (compEnvC scope cl C X.env);theTreesLotGoes x)) _ _ s'
   refine wpAny_noted ?_
   rw[compTurn_list]
   refine Gab (wpAny_standAt (Gab ?_))
   by_cases hlt:i<ds.length
   ·obtain⟨go,yld⟩:=items i ds[i] (by simp[hlt])
    refine thn (T.item (blk X scope cl C N s H fp) rfl rfl rfl hc i [] s' σi Hi _ Ii (hfi fri) sti go) λr s4 ⟨u,hr,h4⟩=> ?_
    subst hr
    refine Gab (thn h4 λ_ s5 ⟨x,H5,I5,r5,y5,st5,fr5⟩=> ?_)
    obtain⟨s2,rep⟩:=yld x H5 y5
    have I5' :=I5.pinned (hfi fr5) (T.obj _ _ st5)
    have hd:ds.drop i=ds[i]::ds.drop (i+1):=Gco hlt
    rw[hd] at ci
    unfold cF at ci
    obtain⟨e2,hg2,ci⟩:=bind_some ci
    obtain⟨bb,ht2,ci⟩:=bind_some ci
    have clnIn:∀b,Cln Bad env σ b∧H b≠none→Cln (iq Bad env σ p) envi σi b:=λb ⟨q1,q2⟩=>by
     refine⟨λz=>z.elim (λz=>q2 (by rw[z];exact hpn)) λz=>z q1,λj tj ej=> ?_⟩
     rcases ny tj with o|o
     ·exact owi j o
     ·exact lbi j b o ej q1
    refine Gab (thn (GbS (hg C s H _ s5 σi H5 x u (λσ6 H6=>ak X.K H (iq Bad env σ p) e2 σ6 H6∧Stp envi σi H5 e2 σ6 H6) I5' r5 ⟨H,iq Bad env σ p,envi,ds[i],e2,Ei.mono s2,hg2,rep.imp clnIn,λσ' H' E' p' => ⟨E',p'⟩⟩) (λ_ _ q=>q) λ_ _ q=>q.elim) λ_ s6 ⟨σ6,H6,I6,E6,p6⟩=> ?_)
    have noO6:=hgo _ _ _ hg2 owi
    have s56:bC H5 H6:=λb o e=>p6.keep b o e λ⟨j,z,_⟩=>owi j z
    have lb6:∀(j:Nat) a,oC e2[j]? →σ6[j]? =some (some (.ref a))→¬Cln Bad env σ a:=λj a z ej=>by
     obtain⟨q1,q2⟩:=p6.lk j z
     rw[q1] at z;rw[q2] at ej
     exact lbi j a z ej
    have again:∀{H7:Hp} {s7:Shared} {vs' :List V} {done' rest' :List D},Inv (blk X scope cl C N s H fp) ([]++lr fp s5.heap) σ6 H7 s7→ak X.K H (iq Bad env σ p) e2 σ6 H7→H7 p=some (.lst vs')→aq X.K (λb=>Cln Bad env σ b∧b≠p) H7 done' vs' →
      done'.length≤i+1→cF gd t f (ds.drop (i+1)) e2=some rest' →done' ++rest' =rs→
      ∃m,m<ds.length -i∧∃i σi Hi envi vs done rest,CoI X scope cl C N s H fp tn Bad env σ p gd t f ds rs m s7 i σi Hi envi vs done rest:=by
     intro H7 s7 vs' done' rest' I7 E7 hp7 r7 dl7 c7 q7
     refine⟨ds.length -(i+1),by omega,i+1,σ6,H7,e2,vs',done',rest',⟨rfl,hlt,I7.iW,T.keep _ _ _ st5 λb hb o e=>(I7.pin (b,o) (Gbe _ (Gbe _ (fI hb e)))).1,λb hb=> ?_,E7,hp7,r7,noO6,lb6,dl7,c7,q7⟩⟩
     obtain⟨o,e,d⟩:=T.obj _ _ st5 b hb
     exact(I7.pin (b,o) (Gbe _ (Gbe _ (fI hb e)))).2.1
    refine Gab (thn (GbS (ht C s H _ s6 σ6 H6 (λb' H7=>b' =bb∧bC H6 H7) I6 ⟨H,iq Bad env σ p,e2,bb,E6,ht2,λH' s' => ⟨rfl,s'⟩⟩) (λ_ _ q=>q) λ_ _ q=>q.elim) λok s7 ⟨H7,I7,hok,s67⟩=> ?_)
    subst hok
    have sAll:bC Hi H7:=s2.trans (s56.trans s67)
    have E7:=E6.mono s67
    have hp7:H7 p=some (.lst vs):=sAll _ _ hpi
    have r7:=ri.gen (F' :=λb=>Cln Bad env σ b∧b≠p) (.of_same sAll) λ_ q _=>q
    cases ok with
    |false=>
     rw[Gaf Gaz] at ci
     exact Gae ⟨rfl,again I7 E7 hp7 r7 (Nat.le_succ_of_le dl) ci eqi⟩
    |true=>
     rw[Gag rfl] at ci
     obtain⟨r,hr,ci⟩:=bind_some ci
     split at ci
     ·rename_i hfree
      obtain⟨rest',c8,rfl⟩:=Gah.mp ci
      refine Gab (Gab (thn (GbS (he C s H _ s7 σ6 H7 (λv H8=>bC H7 H8∧fh X.K H (iq Bad env σ p) e2 σ6 H7 H8 r v) I7 ⟨H,iq Bad env σ p,e2,r,E7,hr,λv H' s' R=> ⟨s',R⟩⟩) (λ_ _ q=>q) λ_ _ q=>q.elim) λy s8 ⟨v,H8,I8,ry,s78,R⟩=> ?_))
      have E8:=E7.mono s78
      have hp8:H8 p=some (.lst vs):=s78 _ _ hp7
      have r8:=(r7.gen (F' :=λb=>Cln Bad env σ b∧b≠p) (.of_same s78) λ_ q _=>q)
      have vr:Rep X.K (λb=>Cln Bad env σ b∧b≠p) H8 r.d v:=(R.rep E7 hfree).imp λb q=> ⟨Classical.byContradiction λz=>q.1 (.inr z),λz=>q.1 (.inl z)⟩
      have hlen:vs.length<sizeLine:=by
       rw[←size_eq,←ri.1];omega
      refine Gab (thn (GbS (nr (X:=blk X scope cl C N s H fp) _ s8 σ6 H8 (.ref p) [v] (.ref p) [y] (λ_ H9=>H9=upd H8 p (.lst (vs++[v]))) I8 rfl (.cons ry .nil) ⟨p,vs,v,rfl,rfl,hp8,hlen,rfl⟩) (λ_ _ q=>q) λ_ _ q=>q.elim) λ_ s9 ⟨_,H9,I9,_,h9⟩=> ?_)
      subst h9
      have lbp:∀j:Nat,oC e2[j]? →σ6[j]? ≠some (some (.ref p)):=λj z ej=>lb6 j p z ej (EE.oD hpn)
      have gq:gy (λb=>Cln Bad env σ b∧b≠p) H8 (upd H8 p (.lst (vs++[v]))):=λb o e q=>by
       refine(ay ?_).trans e
       rintro rfl
       rcases q with q|q
       ·exact q.2 rfl
       ·rw[hp8] at e;cases e;exact q
      refine Gae (Gae ⟨rfl,again I9 (E8.grow (.inl rfl) hpn hp8 lbp) av ((r8.append (aq.cons vr .nil)).gen gq λ_ q _=>q) (by simp;omega) c8 ?_⟩)
      rw[←eqi,GaA];rfl
     ·cases ci
   ·have hi' :i=ds.length:=by omega
    subst hi'
    rw[Gcs] at ci
    cases ci
    rw[GbH] at eqi
    subst eqi
    refine thn (T.done (blk X scope cl C N s H fp) rfl rfl rfl hc ds.length [] s' σi Hi _ Ii (hfi fri) sti stop) λr s4 ⟨hr,I4⟩=> ?_
    subst hr
    obtain⟨m,hm,_⟩:=I4.loc
    have IX:=Bf I hf I4
    exact Gae (hRR p C s4 Hi m IX hm hCle ⟨I4.free,(I.Ct (by rw[hp];exact hCle) (I.hok.fresh (by rw[hp];exact hCle))).2⟩ ⟨keepAll,hpn,vs,hpi,ri⟩)
  ·exact⟨0,_,_,_,[],[],rs,⟨by simp,GaT _,I1,st₁,λb hb=>(ay (by rintro rfl;exact Gbb _ (hfo _ hb))).trans (hf b hb).1,E1,av,aq.nil,λj=>Be,λj a z e=>by
    obtain⟨i,t1,t2⟩:=sT z.top e
    exactλq=>q.2 i t1 t2,Gaq _,by simpa using hl,rfl⟩⟩
 exact codeAny_compStart_list loop (T.self X.A 0 _ _ _ st₁ loop)
end
open PySem PySem.Spec PyProof.Rows L2
section
variable{X:Cx}{pos:Pos}
theorem j9{n:Nat}{caps:List Nat}{l:Option Nat}{env:Env}:compEnv n caps (aK l env)=compEnv n caps env:=by
 cases l with
 |none=>rfl
 |some j=>
  unfold aK
  dsimp only
  split
  ·rename_i d q
   unfold compEnv
   congr 1
   apply GdK
   intro i _
   by_cases z:j=i
   ·subst z
    rw[Gbc (Gac.mp q).1,q];rfl
   ·rw[Gaj z]
  ·rfl
theorem gD.cells{scope:Scope}{N:List Str}{n:Nat}{caps:List Nat}{pins:List (Addr×Obj)}{σ:St}{H:Hp}{s:Shared}(S:gD X scope N n caps)(I:Inv X pins σ H s):∀y∈scope.names,y.2= .free→∃c,X.env.cells.lookup y.1=some c:=λy hy hf=>by
 have hk:=Gao.mp S.free y hy
 rw[hf] at hk
 simp only[bne_self_eq_false,GdO] at hk
 refine I.ok.has y.1 ?_
 cases q:X.env.kindOf y.1 with
 |none=>rw[q] at hk;cases hk
 |some z=>rw[q] at hk;cases z<;>first|(cases hk;done)|exact .inl rfl|exact .inr rfl
theorem gD.wa{scope:Scope}{N:List Str}{n:Nat}{caps:List Nat}(S:gD X scope N n caps):∀y∈scope.names,y.2= .local→scope.names.lookup y.1=some .local:=λy hy hl=>by
 have:=Gao.mp S.names y hy
 rw[hl] at this
 simpa using this
structure Blk(X:Cx)(scope:Scope)(N:List Str)(tg elt:Expr)(ifs:List Expr)(gd:DG)(t:DT)(f:DE):Prop where
 g:∀cl C s H ex,PGd (blk X scope cl C N s H ex) tg gd
 t:∀cl C s H ex,kR (blk X scope cl C N s H ex) ifs (tT X t)
 e:∀cl C s H ex,PEd (blk X scope cl C N s H ex) elt f
theorem _root_.L2.Inv.C4{pins:List (Addr×Obj)}{σ:St}{H:Hp}{s:Shared}{C:Addr}{h' :Heap}(I:Inv X pins σ H s)(F:jz X pins H C)(hs:Heap.SameBut C s.heap h'):Inv X pins σ H {s with heap:=h' }:=
 I.turned (t' :=s.toks) (λb o hb e=>(hs.2 b hb).trans e) F.1 F.2.1 F.2.2.2.1 F.2.2.2.2.1 F.2.2.2.2.2
theorem sV{tg iter elt:Expr}{ifs:List Expr}{scope:Scope}{N:List Str}{n:Nat}{caps:List Nat}{l:Option Nat}{src:DI}{gd:DG}{t:DT}{f:DE}(hc:X.calm=true)(S:gD X scope N n caps)(hi:PId X tg iter src)(hgo:sU gd)(B:Blk X scope N tg elt ifs gd t f)
  (hs:∀x,foldedSetIterable iter X.env x=pure x:=by intro _;rfl):PEd X (.ListComp elt [⟨tg,iter,ifs,0⟩] scope pos) (ie l n caps src gd t f):=by
 intro pins s σ H Q I hw
 obtain⟨H₀,Bad,env,r,E,e,k⟩:=hw
 unfold ie at e
 obtain⟨ds,hds,e⟩:=bind_some e
 split at e
 ·rename_i hz
  obtain⟨rs,hrs,rfl⟩:=Gah.mp e
  obtain⟨EL,lo,tops⟩:=E.lock l
  obtain⟨cl,h1,h2,h3⟩:=ip (S.cells I)
  rw[eval_ListComp]
  refine wpAny_comprehension_free (use:=none) rfl hs h1 S.kind S.wa ?_
  refine thn (hi pins s σ H (λJ H' =>bC H H' ∧vV X.K (λb=>Cln Bad (aK l env) σ b∧H' b≠none) (λb=>¬Ow (aK l env) σ b) J ds H') I ⟨H₀,Bad,aK l env,ds,EL,hds,λJ H' s' io=> ⟨s',io⟩⟩) λv s1 q1=>thn q1 λitv s2 q2=> ?_
  obtain⟨it,fp,tn,J,H2,e,I2,T,st2,f2,sH,io⟩:=q2
  subst e
  refine nI (RR:=λacc C=>compPost (model X.prog X.w) X.A X.xe none (EP X pins σ Q) acc C) hc S I2 h2 h3 f2 T st2 (λC s' H' =>B.g cl C s' H' fp) (λC s' H' =>B.t cl C s' H' fp) (λC s' H' =>B.e cl C s' H' fp) (EL.mono sH) io hgo hz (by rw[j9];exact hrs) ?_
  intro p C s' H' m IX hm hC hF G
  refine⟨m,hm,λh' hs' => ⟨.ref p,H',IX.C4 hF hs',rfl, ?_⟩⟩
  obtain⟨g1,g2,vs,g3,g4⟩:=G
  exact k _ H' (sH.trans g1) ⟨p,rfl,sH.free g2,⟨_,g3,trivial⟩,rfl,.lst (.inl g3) (g4.gen (.of_same bF) λb q _=> ⟨⟨q.1.1,λi ti ei=>q.1.2 i ((tops i).mpr ti) ei⟩,q.2⟩)⟩
 ·cases e
theorem sW{i:Nat}{x:Str}{pos' lpos:Pos}{tg iter elt:Expr}{ifs:List Expr}{scope:Scope}{N:List Str}{n:Nat}{caps:List Nat}{l:Option Nat}{src:DI}{gd:DG}{t:DT}{f:DE}(hN:X.N.Nodup)(hi' :X.N[i]? =some x)(hx:Loc X.env.scope x)(hc:X.calm=true)(S:gD X scope N n caps)
  (hi:PId X tg iter src)(hgo:sU gd)(B:Blk X scope N tg elt ifs gd t f)
  (hsw:swapsWith (.ListComp elt [⟨tg,iter,ifs,0⟩] scope lpos) (some (.Name x pos')) pos.line X.env=pure true:=by rfl)(hs:∀x,foldedSetIterable iter X.env x=pure x:=by intro _;rfl)
  (hf:X.fn x=true∨X.env.scope.names.lookup x=some .local:=by first|exact .inl rfl|exact .inr rfl|assumption):PSd X (.Assign [.Name x pos'] (.ListComp elt [⟨tg,iter,ifs,0⟩] scope lpos) pos) (cD i (ie l n caps src gd t f)):=by
 intro pins s σ H D I hw
 have hl:=I.len
 obtain⟨H₀,Bad,env,o,E,e,k⟩:=hw
 obtain⟨r,hr,e⟩:=bind_some e
 obtain⟨e',hst,rfl⟩:=Gah.mp e
 have hie:i<env.length:=vU E hl hi'
 unfold ie at hr
 obtain⟨ds,hds,hr⟩:=bind_some hr
 split at hr
 ·rename_i hz
  obtain⟨rs,hrs,rfl⟩:=Gah.mp hr
  cases hst
  obtain⟨EL,lo,tops⟩:=E.lock l
  obtain⟨cl,h1,h2,h3⟩:=ip (S.cells I)
  rw[exec_Assign_Name_used _ _ _ _ hsw]
  refine Gab (wpAny_standAt (Gab ?_))
  show wpAny _ X.A (do let _←comprehension (.ListComp elt [⟨tg,iter,ifs,0⟩] scope lpos) scope X.env _ (newList []) false (eval iter X.env) (some (assign (.Name x pos') X.env))) _ _ s
  refine Gab (GbS (wpAny_comprehension_free (use:=some (assign (.Name x pos') X.env)) (Q:=λ_ s' =>SP X pins D .next s') rfl hs h1 S.kind S.wa ?_) (λ_ s' hq=>Gae (Gae hq)) λ_ _ e=>e)
  refine thn (hi pins s σ H (λJ H' =>bC H H' ∧vV X.K (λb=>Cln Bad (aK l env) σ b∧H' b≠none) (λb=>¬Ow (aK l env) σ b) J ds H') I ⟨H₀,Bad,aK l env,ds,EL,hds,λJ H' s' io=> ⟨s',io⟩⟩) λv s1 q1=>thn q1 λitv s2 q2=> ?_
  obtain⟨it,fp,tn,J,H2,e,I2,T,st2,f2,sH,io⟩:=q2
  subst e
  refine nI (RR:=λacc C=>compPost (model X.prog X.w) X.A X.xe (some (assign (.Name x pos') X.env)) (λ_ s' =>SP X pins D .next s') acc C) hc S I2 h2 h3 f2 T st2 (λC s' H' =>B.g cl C s' H' fp) (λC s' H' =>B.t cl C s' H' fp) (λC s' H' =>B.e cl C s' H' fp) (EL.mono sH) io hgo hz (by rw[j9];exact hrs) ?_
  intro p C s' H' m IX hm hC hF G
  obtain⟨g1,g2,vs,g3,g4⟩:=G
  show wpAny _ X.A (assign (.Name x pos') X.env (.ref p)) _ _ _
  refine wpAny_assign_Name (nh IX hN hi' hx (v:= .ref p) rfl (λs'' I'' ⟨a,hsb,ha⟩=> ?_) hf)
  have hCa:C≠a:=by
   rcases ha with ha|ha
   ·rw[ha];exact hF.2.1
   ·exactλz=>hF.2.2.2.2.1 x a ha z.symm
  refine⟨m,hm.sameBut hsb hCa,λh' hs' => ⟨_,H',I''.C4 hF hs', ?_⟩⟩
  exact k _ H' (E.lK (sH.trans g1) hie (sH.free g2) ⟨_,g3,trivial⟩ rfl (.lst (.inl g3) (g4.gen (.of_same bF) λb q _=> ⟨⟨q.1.1,λi ti ei=>q.1.2 i ((tops i).mpr ti) ei⟩,q.2⟩))) (.lK (sH.trans g1) hie E.len (sH.free g2))
 ·cases hr
end
open PySem PySem.Spec PyProof.Rows L2
theorem iM{env:PySem.Env}{x:Str}:∀{names:List (Str×NameKind)},names.lookup x=some .globalImplicit→(names.map λ(n,k)=>if(k==NameKind.free&&env.scope.kind== .function&&env.kindOf n==some .cell) then(n,NameKind.cell) else(n,k)).lookup x=some .globalImplicit
 |[],h=>by simp at h
 |(n,k)::r,h=>by
  rw[GaQ] at h
  rw[GaH]
  dsimp only
  cases hx:x==n with
  |true=>
   rw[hx] at h;cases h
   rw[Gaf (by simp),GaQ,hx]
  |false=>
   rw[hx] at h
   split
   ·rw[GaQ,hx];exact iM h
   ·rw[GaQ,hx];exact iM h
section
variable{X:Cx}{scope:Scope}{cl:List (Str×Addr)}{C:Addr}{N:List Str}{s:Shared}{H:Hp}{ex:List Addr}{x:Str}
theorem rq(h:scope.names.lookup x=some .globalImplicit):Gl (blk X scope cl C N s H ex) x:=iM h
theorem oH(h:N.Nodup):(blk X scope cl C N s H ex).N.Nodup:=h
theorem oI(h:scope.names.lookup x=some .local):(blk X scope cl C N s H ex).fn x=true∨(blk X scope cl C N s H ex).env.scope.names.lookup x=some .local:= .inr (dJ h)
end
open PySem PySem.Spec PyProof.Rows L2
section
variable{X:Cx}{e a b c:Expr}{f g h:DE}{pos:Pos}
theorem wb{pins:List (Addr×Obj)}{σ:St}{H:Hp}{s:Shared}{p:Addr}{ys:List V}{Q:Value→Shared→Prop}{E:Value→Shared→Prop}(hc:X.calm=true)(I:Inv X pins σ H s)(h:SqL X.K H p ys∨SqT X.K H p ys)
  (k:∀(It:Addr) fp wr P St (s₂:Shared),Walks X.prog X.w X.A.in1 It fp wr ys.length P St→St 0 s₂.heap→(∀b∈fp,b<s₂.heap.objs.size)→(∀(i:Nat) v,P i v→∃y,ys[i]? =some y∧RelV y v)→
   (∀h' tk,(∀b o,b∉wr→s₂.heap.get? b=some o→h'.get? b=some o)→Inv X pins σ H {s₂ with heap:=h',toks:=tk})→Q (.ref It) s₂):wpAny (model X.prog X.w) X.A.in1 (pyIter (.ref p)) Q E s:=by
 have hh:X.A.in1.handled=none:=I.ok.hd hc
 have kept:∀{oi:Obj} {h' :Heap} {tk:Nat},(∀b o,b∉[s.heap.objs.size]→(s.heap.push oi).get? b=some o→h'.get? b=some o)→Inv X pins σ H {s with heap:=h',toks:=tk}:=λ{oi h' tk} hk=>
  I.kept λb o e=>hk b o (by simp only[GaV];exact GaC (Gam e)) (Gad _ e)
 have get:∀{its:List Value},Vals ys its→∀(i:Nat) v,its.toArray[i]? =some v→∃y,ys[i]? =some y∧RelV y v:=λ{its} r i v e=>by
  have e' :its[i]? =some v:=by simpa using e
  obtain⟨hi,_⟩:=Gac.mp e'
  have hi' :i<ys.length:=by rw[r.length];exact hi
  obtain⟨u,hu,ru⟩:=r.get (x:=ys[i]) (i:=i) (by simp[hi'])
  rw[e'] at hu;cases hu
  exact⟨ys[i],by simp[hi'],ru⟩
 have lts:∀{oi:Obj},p<s.heap.objs.size→∀b∈[s.heap.objs.size,p],b<(s.heap.push oi).objs.size:=λ{oi} hp b hb=>by
  rw[GcO]
  rcases Gar.mp hb with rfl|hb
  ·exact Gcf _
  ·rcases Gar.mp hb with rfl|hb
   ·exact GbZ hp
   ·cases hb
 rcases h with hq|hq
 ·obtain⟨its,rv,pl,hz⟩:=I.list hq
  have hlt:p<s.heap.objs.size:=by obtain⟨_,e,_⟩:=pl.isList;exact Gam e
  have W:=Walks.list (prog:=X.prog) (w:=X.w) hh s.heap.objs.size p (GaC hlt) its.toArray
  have hsz:its.toArray.size=ys.length:=by rw[Gas,rv.length]
  rw[hsz] at W
  exact wpAny_pyIter_list pl.isList (k _ _ _ _ _ _ W ⟨⟨_,Gaw _ rfl,rfl,rfl⟩,pl.isList.push _⟩ (lts hlt) (get rv) λh' tk hk=>kept hk)
 ·obtain⟨its,rv,pl,hz⟩:=I.tuple hq
  have pl' :s.heap.IsTuple p its.toArray:=pl
  have hlt:p<s.heap.objs.size:=by obtain⟨_,e,_⟩:=pl';exact Gam e
  have W:=Walks.tuple (prog:=X.prog) (w:=X.w) hh s.heap.objs.size p (GaC hlt) its.toArray
  have hsz:its.toArray.size=ys.length:=by rw[Gas,rv.length]
  rw[hsz] at W
  exact wpAny_pyIter_tuple pl' (k _ _ _ _ _ _ W ⟨⟨_,Gaw _ rfl,rfl,rfl⟩,pl'.at λo e=>Gad _ e⟩ (lts hlt) (get rv) λh' tk hk=>kept hk)
theorem range_all(bs:List Bool):(List.range bs.length).all (λi=>bs[i]?.getD false)=bs.all id:=by
 rw[Gdf]
 simp only[Gao,GaO,id]
 constructor
 ·intro h b hb
  obtain⟨i,hi,rfl⟩:=Gcc hb
  have:=h i hi
  rw[Gaa hi] at this
  exact this
 ·intro h i hi
  rw[Gaa hi]
  exact h _ (GaN hi)
theorem pX{A:Around}{P:Nat→Value→Prop}{bs:List Bool}(hP:∀(i:Nat) v,P i v→∃y,(bs.map V.bl)[i]? =some y∧RelV y v):TruthOf X.prog X.w A P (λi=>bs[i]?.getD false):=by
 intro i v s Q E p q
 obtain⟨y,hy,r⟩:=hP i v p
 rw[Gav] at hy
 cases hb:bs[i]? with
 |none=>rw[hb] at hy;cases hy
 |some b=>
  rw[hb] at hy;cases hy
  cases r
  refine GcG ?_
  have q' :Q (bs[i]?.getD false) s:=q
  rw[hb] at q';exact q'
theorem uz(hc:X.calm=true):cP X (.builtin "all") (λxs H Q=>∃(p:Addr) (bs:List Bool),xs=[.ref p]∧(SqL X.K H p (bs.map V.bl)∨SqT X.K H p (bs.map V.bl))∧Q (.bl (bs.all id)) H):=by
 intro pins s σ H xs us Q I rv h
 obtain⟨p,bs,rfl,hq,q⟩:=h
 obtain⟨u,rfl,ru⟩:=rv.one
 cases ru
 refine call_all_walk (wb hc I hq λIt fp wr P St s₂ W st lt hP kept=> ⟨It,fp,wr,_,P,St,_,rfl,W,st,pX hP,λh' tk hk=> ?_⟩)
 rw[Gan,range_all]
 exact⟨.bl (bs.all id),H,kept h' tk hk,rfl,q⟩
theorem pY{K:aa}{F:Addr→Prop}{H:Hp}:∀{ds:List D} {vs:List V} {bs:List Bool},aq K F H ds vs→ox ds=some bs→vs=bs.map V.bl
 |[],vs,bs,r,e=>by cases e;exact r.bD
 |d::ds,vs,bs,r,e=>by
  obtain⟨v,w,rfl,h1,h2⟩:=r.cons_inv
  cases d<;>try (cases e;done)
  obtain⟨bs',e',rfl⟩:=Gah.mp e
  cases h1
  rw[pY h2 e'];rfl
theorem wc{K:aa}{F:Addr→Prop}{H:Hp}{d:D}{v:V}{ds:List D}(i:Inn K F H d v)(e:pK d=some ds):∃p vs,v= .ref p∧(SqL K H p vs∨SqT K H p vs)∧aq K F H ds vs:=by
 unfold pK at e
 split at e
 ·cases e
  cases i with
  |lst h r=>exact⟨_,_,rfl,.inl (.inl h),r⟩
 ·cases e
  cases i with
  |tup h r=>exact⟨_,_,rfl,.inr (SqT.of h),r⟩
 ·rename_i ns
  cases e
  cases i with
  |scr h=>
   refine⟨_,_,rfl,.inl h.sq,by simp,λi d v e1 e2=> ?_⟩
   rw[Gav] at e1 e2
   cases q:ns[i]? with
   |none=>rw[q] at e1;cases e1
   |some n=>rw[q] at e1 e2;cases e1;cases e2;exact .int n
 ·cases e
theorem wd{o:List D→Option RV}{ds:List D}{rv:RV}(h:one o ds=some rv):∃d xs,ds=[d]∧pK d=some xs∧o xs=some rv:=by
 unfold one at h
 split at h
 ·obtain⟨xs,h1,h2⟩:=bind_some h
  exact⟨_,xs,rfl,h1,h2⟩
 ·cases h
theorem uA:CallD X uk (λxs H Q=>∃(p:Addr) (bs:List Bool),xs=[.ref p]∧(SqL X.K H p (bs.map V.bl)∨SqT X.K H p (bs.map V.bl))∧Q (.bl (bs.all id)) H):=by
 intro F H ds vs rv Q ps e k
 obtain⟨d,xs,rfl,h1,h2⟩:=wd e
 obtain⟨bs,hb,rfl⟩:=Gah.mp h2
 obtain⟨v,rfl,i⟩:=cX ps
 obtain⟨p,vs,rfl,hs,r⟩:=wc i h1
 rw[pY r hb] at hs
 exact⟨p,bs,rfl,hs,k _ H bF (.bl _)⟩
end
open PySem PySem.Spec PyProof.Rows L2
section
variable{X:Cx}{e a b c:Expr}{f g h:DE}{pos:Pos}
theorem aJ.cons{κ:Type}{K:aa}{F:Addr→Prop}{H:Hp}{kvs:List (κ×D)}{ws:List (κ×V)}{k:κ}{d:D}{v:V}(h:Rep K F H d v)(r:aJ K F H kvs ws):aJ K F H ((k,d)::kvs) ((k,v)::ws):=by
 refine⟨by simp[r.1],λi x u e1 e2=> ?_⟩
 cases i with
 |zero=>simp at e1 e2;subst e1;subst e2;exact h
 |succ i=>exact r.2 i x u (by simpa using e1) (by simpa using e2)
theorem aJ.cons_inv{κ:Type}{K:aa}{F:Addr→Prop}{H:Hp}{kvs:List (κ×D)}{ws:List (κ×V)}{k:κ}{d:D}(h:aJ K F H ((k,d)::kvs) ws):∃v r,ws=(k,v)::r∧Rep K F H d v∧aJ K F H kvs r:=by
 cases ws with
 |nil=>exact absurd h.1 (by simp)
 |cons q r=>
  obtain⟨k',v⟩:=q
  have h1:k=k' ∧kvs.map (·.1)=r.map (·.1):=by have:=h.1;simpa using this
  obtain⟨rfl,h2⟩:=h1
  exact⟨v,r,rfl,h.2 0 (k,d) (k,v) rfl rfl,h2,λi x y e1 e2=>h.2 (i+1) x y (by simpa using e1) (by simpa using e2)⟩
theorem aJ.nil{κ:Type}{K:aa}{F:Addr→Prop}{H:Hp}:aJ K F H ([]:List (κ×D)) []:=⟨rfl,λi p q e=>by simp at e⟩
theorem aJ.bD{κ:Type}{K:aa}{F:Addr→Prop}{H:Hp}{ws:List (κ×V)}(h:aJ K F H [] ws):ws=[]:=by
 cases ws with
 |nil=>rfl
 |cons q r=>exact absurd h.1 (by simp)
theorem aJ.len{κ:Type}{K:aa}{F:Addr→Prop}{H:Hp}{kvs:List (κ×D)}{ws:List (κ×V)}(h:aJ K F H kvs ws):kvs.length=ws.length:=by
 have:=congrArg List.length h.1
 simpa using this
theorem aJ.over{κ:Type} [DecidableEq κ]{K:aa}{F:Addr→Prop}{H:Hp}{k:κ}{d:D}{v:V}(hv:Rep K F H d v):∀{kvs:List (κ×D)} {ws:List (κ×V)},aJ K F H kvs ws→
  aJ K F H (kvs.map λkv=>if kv.1=k then(kv.1,d) else kv) (ws.map λkv=>if kv.1=k then(kv.1,v) else kv)
 |[],ws,r=>by rw[r.bD];exact .nil
 |(k',d')::kvs,ws,r=>by
  obtain⟨v',w,rfl,h1,h2⟩:=r.cons_inv
  rw[GaH,GaH]
  dsimp only
  split
  ·exact .cons hv (aJ.over hv h2)
  ·exact .cons h1 (aJ.over hv h2)
theorem aJ.snoc{κ:Type}{K:aa}{F:Addr→Prop}{H:Hp}{k:κ}{d:D}{v:V}(hv:Rep K F H d v):∀{kvs:List (κ×D)} {ws:List (κ×V)},aJ K F H kvs ws→aJ K F H (kvs++[(k,d)]) (ws++[(k,v)])
 |[],ws,r=>by rw[r.bD];exact .cons hv .nil
 |(k',d')::kvs,ws,r=>by
  obtain⟨v',w,rfl,h1,h2⟩:=r.cons_inv
  exact .cons h1 (aJ.snoc hv h2)
theorem aJ.any{κ:Type} [DecidableEq κ]{K:aa}{F:Addr→Prop}{H:Hp}{k:κ}:∀{kvs:List (κ×D)} {ws:List (κ×V)},aJ K F H kvs ws→(kvs.any λkv=>decide (kv.1=k))=(ws.any λkv=>decide (kv.1=k))
 |[],ws,r=>by rw[r.bD];rfl
 |(k',d')::kvs,ws,r=>by
  obtain⟨v',w,rfl,h1,h2⟩:=r.cons_inv
  rw[Gcx,Gcx,aJ.any h2]
theorem aJ.put{κ:Type} [DecidableEq κ]{K:aa}{F:Addr→Prop}{H:Hp}{kvs:List (κ×D)}{ws:List (κ×V)}{k:κ}{d:D}{v:V}(r:aJ K F H kvs ws)(hv:Rep K F H d v):aJ K F H (put kvs k d) (putK ws k v):=by
 unfold DL.put putK
 rw[r.any]
 split
 ·exact r.over hv
 ·exact r.snoc hv
theorem D6{K:aa}{F:Addr→Prop}{H:Hp}{kvs:List (Key×D)}{a:Addr}(i:Inn K F H (.dK kvs) (.ref a)):∃ws,H a=some (.dK ws)∧aJ K F H kvs ws:=by
 cases i with
 |dK h r=>exact⟨_,h,r⟩
theorem D7{K:aa}{F:Addr→Prop}{H:Hp}{kvs:List (List Key×D)}{a:Addr}(i:Inn K F H (.dT kvs) (.ref a)):∃ws,H a=some (.dT ws)∧aJ K F H kvs ws:=by
 cases i with
 |dT h r=>exact⟨_,h,r⟩
noncomputable def C5:V→V→V→Hp→(Hp→Prop)→Prop:=λo i v H Q=>BV o i v H Q∨∃a H4,o= .ref a∧pF H a i v H4∧Q H4
theorem Bh(hu:X.A.units+1<cLine):Ex X C5:=by
 intro pins s σ H o i v ov iv u Q I ro ri rv h
 rcases h with h| ⟨a,H4,rfl,g,q⟩
 ·exact set_list pins s σ H o i v ov iv u Q I ro ri rv h
 ·cases ro
  exact ug hu I g ri rv λs4 I4=> ⟨H4,I4,q⟩
noncomputable def GZ(td ty tv:TE):TS:=λD σ H=>tv σ H λv H1=>td σ H1 λx H2=>ty σ H2 λy H3=>C5 x y v H3 λH4=>D.nx σ H4
theorem D8{o i value:Expr}{td ty tv:TE}{pos' :Pos}(hu:X.A.units+1<cLine)(ho:PE X o td)(hi:PE X i ty)(hv:PE X value tv)(hs:swapsWith value (some (.Subscript o i pos')) pos.line X.env=pure false):PS X (.Assign [.Subscript o i pos'] value pos) (GZ td ty tv):=by
 intro pins s σ H D I h
 refine wpAny_Assign_Subscript (thn (hv pins s σ H _ I h) λr s1 ⟨v,H1,I1,rv,q1⟩=>thn (ho pins s1 σ H1 _ I1 q1) λu s2 ⟨x,H2,I2,rx,q2⟩=>thn (hi pins s2 σ H2 _ I2 q2) λiv s3 ⟨y,H3,I3,ry,q3⟩=> ?_) hs
 exact thn (Bh hu pins s3 σ H3 x y v u iv r _ I3 rx ry rv q3) λ_ s4 ⟨H4,I4,q4⟩=> ⟨σ,H4,I4,q4⟩
theorem ja{Bad:Addr→Prop}{env:Env}{σ:St}{H:Hp}{i:Nat}{a:Addr}{d:D}{o o' :HO}(q:env[i]? =some (some (.own d)))(h1:σ[i]? =some (some (.ref a)))(hH:H a=some o')(hw:isW o'):gy (Cln Bad env σ) H (upd H a o):=λb x hb w=>by
 have:b≠a:=by
  rintro rfl
  rcases w with w|w
  ·exact w.2 i (by rw[q];trivial) h1
  ·rw[hH] at hb;cases hb
   cases o' <;>simp[isT] at w<;>exact hw
 rw[ay this];exact hb
theorem wg{i:Nat}{x:Str}{px pos' :Pos}{k value:Expr}{fk fv:DE}(hu:X.A.units+1<cLine)(hN:X.N[i]? =some x)(hv:Vis X.env.scope x)(hk:PEd X k fk)(he:PEd X value fv)(hd:(x==("__debug__":Str))=false:=by decide)(hcd:(x==("__classdict__":Str))=false:=by decide)
  (hs:swapsWith value (some (.Subscript (.Name x px) k pos')) pos.line X.env=pure false:=by rfl):PSd X (.Assign [.Subscript (.Name x px) k pos'] value pos) (AU i fk fv):=by
 refine(D8 hu (iA hN hv hd hcd) hk he hs).aC ?_
 rintro D σ H ⟨H₀,Bad,env,o,E,e,kk⟩
 obtain⟨r,hr,e⟩:=bind_some e
 obtain⟨y,hy,e⟩:=bind_some e
 obtain⟨d,hd,e⟩:=bind_some e
 have q:=j4 hd
 split at e
 ·rename_i hfree
  obtain⟨d',hp,rfl⟩:=Gah.mp e
  refine⟨H₀,Bad,env,r,E,hr,λv H1 s1 R=> ?_⟩
  have E1:=E.mono s1
  obtain⟨a,h1,h2,h3,h4,h5,h6⟩:=E1.ow i _ (.inl q)
  refine⟨_,h1,H₀,Bad,env,y,E1,hy,λvy H3 s3 Ry=> ?_⟩
  have E3:=E1.mono s3
  have rep:=(R.rep E hfree).same s3
  have i6:=h6.same s3
  have iy:=Ry.inn
  have fin:∀(o' :HO) (o'' :HO),H3 a=some o'' →isW o'' →isW o' →d'.top=true→Inn X.K (Cln Bad env σ) (upd H3 a o') d' (.ref a)→D.nx σ (upd H3 a o'):=λo' o'' hH hw hw' ht inn=>by
   obtain⟨E4,p4⟩:=E3.change (d' :=d') (o:=o') q h1 hw' ht inn
   exact kk σ _ E4 (((Stp.of_same s1).trans (.of_same s3)).trans p4)
  unfold putD at hp
  split at hp
  ·rename_i kvs
   split at hp
   ·rename_i hz
    obtain⟨key,hkey,rfl⟩:=Gah.mp hp
    obtain⟨ws,hH,rp⟩:=D6 i6
    have hy' :=jK iy hkey
    subst hy'
    refine .inr ⟨a,_,rfl,pF.k hH (by rw[←rp.len,←size_eq];exact hz),fin _ _ hH trivial trivial rfl ?_⟩
    exact .dK av ((rp.put rep).gen (ja q h1 hH trivial) λ_ f _=>f)
   ·cases hp
  ·rename_i kvs
   split at hp
   ·rename_i ks hks
    split at hp
    ·rename_i hz
     obtain⟨key,hkey,rfl⟩:=Gah.mp hp
     obtain⟨ws,hH,rp⟩:=D7 i6
     rw[hks] at iy
     cases iy with
     |tup hb rb=>
      have:=gC rb hkey
      subst this
      refine .inr ⟨a,_,rfl,pF.t hH hb (by rw[←rp.len,←size_eq];exact hz),fin _ _ hH trivial trivial rfl ?_⟩
      exact .dT av ((rp.put rep).gen (ja q h1 hH trivial) λ_ f _=>f)
    ·cases hp
   ·cases hp
  ·rename_i xs
   split at hp
   ·rename_i j hj
    rw[hj] at iy
    cases iy
    obtain⟨vs,hH,rp⟩:=kQ (h4.same s3) i6
    split at hp
    ·rename_i hb
     cases hp
     refine .inl ⟨a,vs,j,j.toNat,rfl,rfl,hH, ?_,fin _ _ hH trivial trivial rfl ?_⟩
     ·unfold ixN
      rw[Gag hb.1,Gag (by rw[←rp.1];exact hb.2)]
     ·exact .lst (.inl av) ((rp.set rep j.toNat).gen (ja q h1 hH trivial) λ_ f _=>f)
    ·split at hp
     ·rename_i hb
      cases hp
      refine .inl ⟨a,vs,j,(j+xs.length).toNat,rfl,rfl,hH, ?_,fin _ _ hH trivial trivial rfl ?_⟩
      ·unfold ixN
       rw[Gaf (by omega),Gag (by rw[←rp.1];omega),rp.1]
      ·exact .lst (.inl av) ((rp.set rep _).gen (ja q h1 hH trivial) λ_ f _=>f)
     ·cases hp
   ·cases hp
  ·cases hp
 ·cases e
theorem pZ:PEd X (.Dict [] [] pos) rg:=vC.aC λσ H Q ⟨_,_,_,_,E,e,k⟩ p n=>by
 cases e
 exact k _ _ (aX n) ⟨p,rfl,n,⟨_,av,trivial⟩,rfl,.dT av .nil⟩
end
open PySem PySem.Spec PyProof.Rows L2
open PySem.W (KasT kas_rev kas_asc kas_desc kas_tail3 kas_descPart kas_count kas_place kas_bin kas_sort)
section
variable{rk:Nat→Int}{N:Nat}
noncomputable def Asks(rk:Nat→Int)(N:Nat){α:Type}:KasT α→(α→Prop)→Prop
 | .ret a,Q=>Q a
 | .ask i j k,Q=>i<N∧j<N∧Asks rk N (k (decide (rk i<rk j))) Q
theorem Asks.mono{α:Type}{Q Q' :α→Prop}(hq:∀a,Q a→Q' a):∀(t:KasT α),Asks rk N t Q→Asks rk N t Q'
 | .ret a,h=>hq a h
 | .ask i j k,h=> ⟨h.1,h.2.1,Asks.mono hq _ h.2.2⟩
theorem Asks.then{α β:Type}{f:α→KasT β}{Q:β→Prop}:∀(t:KasT α),Asks rk N t (λa=>Asks rk N (f a) Q)→Asks rk N (t.bind f) Q
 | .ret a,h=>h
 | .ask i j k,h=> ⟨h.1,h.2.1,Asks.then _ h.2.2⟩
theorem Asks.wp{α:Type}{cmp:Nat→Nat→(Bool→Shared→Prop)→Shared→Prop}{s:Shared}(hc:∀i j C,i<N→j<N→C (decide (rk i<rk j)) s→cmp i j C s){Q:α→Prop}{G:α→Shared→Prop}(hG:∀a,Q a→G a s):
  ∀(t:KasT α),Asks rk N t Q→t.kasWp cmp G s
 | .ret a,h=>hG a h
 | .ask i j k,h=>hc i j _ h.1 h.2.1 (Asks.wp hc hG _ h.2.2)
noncomputable def Ord(N:Nat)(p:Array Nat):Prop:=p.toList.Perm (List.range N)
theorem Ord.size{p:Array Nat}(h:Ord N p):p.size=N:=by
 have:=List.Perm.length_eq h
 simpa using this
theorem Ord.lt{p:Array Nat}(h:Ord N p){i:Nat}(hN:0<N):p.getD i 0<N:=by
 by_cases hi:i<p.size
 ·have e:p.getD i 0=p[i]:=by simp[Array.getD,hi]
  rw[e]
  have m:p[i]∈p.toList:=by simp
  exact GaO.mp (h.mem_iff.mp m)
 ·have e:p.getD i 0=0:=by simp[Array.getD,hi]
  rw[e];exact hN
theorem Ord.sX{p p' :Array Nat}(h:Ord N p)(q:p'.Perm p):Ord N p' :=List.Perm.trans (Array.perm_iff_toList_perm.mp q) h
noncomputable def b4(rk:Nat→Int)(p:Array Nat)(i:Nat):Int:=rk (p.getD i 0)
theorem dN{p p' :Array Nat}{i j:Nat}(h:p'[i]? =p[j]?):b4 rk p' i=b4 rk p j:=by
 unfold b4
 have e:p'.getD i 0=p.getD j 0:=by
  rw[GaI,GaI,h]
 rw[e]
noncomputable def Up(rk:Nat→Int)(p:Array Nat)(k:Nat):Prop:=∀u v,u≤v→v<k→b4 rk p u≤b4 rk p v
noncomputable def Down(rk:Nat→Int)(p:Array Nat)(k:Nat):Prop:=∀u v,u≤v→v<k→b4 rk p v≤b4 rk p u
theorem rz{p:Array Nat}{i j:Nat}(hj:j≤p.size)(k:Nat):b4 rk (kas_rev p i j) k=if i≤k∧k<j then b4 rk p (i+j -1 -k) else b4 rk p k:=by
 have g:=getElem?_mirror_all (i:=i) hj k
 split
 ·rename_i c
  rw[Gag c] at g
  exact dN g
 ·rename_i c
  rw[Gaf c] at g
  exact dN g
theorem ft{p:Array Nat}{i j:Nat}(hj:j≤p.size)(he:∀k,i≤k→k<j→b4 rk p k=b4 rk p (j -1))(k:Nat):b4 rk (kas_rev p i j) k=b4 rk p k:=by
 rw[rz hj]
 split
 ·rename_i c
  rw[he (i+j -1 -k) (by omega) (by omega),he k c.1 c.2]
 ·rfl
theorem jb{p:Array Nat}{i j:Nat}(h:Ord N p):Ord N (kas_rev p i j):=h.sX (mirror_perm p i j ((j -i)/2))
theorem rA{p:Array Nat}(hp:Ord N p)(hN:0<N):∀(f n:Nat),1≤n→Up rk p n→Asks rk N (kas_asc p f n) λm=>n≤m∧m≤n+f∧Up rk p m∧(m=n+f∨b4 rk p m<b4 rk p (m -1))
 |0,n,h1,hu=> ⟨Gaq n,Gaq n,hu,.inl rfl⟩
 |f+1,n,h1,hu=>by
  refine⟨hp.lt hN,hp.lt hN, ?_⟩
  by_cases c:rk (p.getD n 0)<rk (p.getD (n -1) 0)
  ·rw[GaB c];dsimp only;rw[Gag rfl]
   exact⟨Gaq n,by omega,hu,.inr c⟩
  ·rw[GaD c];dsimp only;rw[Gaf Gaz]
   have nxt:Up rk p (n+1):=λu v huv hv=>by
    rcases GaY v n with hvn|hvn
    ·exact hu u v huv hvn
    ·have ev:v=n:=by omega
     subst ev
     have c' :b4 rk p (v -1)≤b4 rk p v:=GcW.mp c
     rcases Gdl huv with e|e
     ·subst e;exact Gbo _
     ·exact Int.le_trans (hu u (v -1) (by omega) (by omega)) c'
   refine Asks.mono (λm hm=> ?_) _ (rA hp hN f (n+1) (by omega) nxt)
   obtain⟨q1,q2,q3,q4⟩:=hm
   refine⟨by omega,by omega,q3, ?_⟩
   rcases q4 with q4|q4
   ·left;omega
   ·exact .inr q4
theorem Down.snoc{p p' :Array Nat}{k:Nat}(hd:Down rk p k)(hk:1≤k)(e:∀i,b4 rk p' i=b4 rk p i)(c:b4 rk p k≤b4 rk p (k -1)):Down rk p' (k+1):=λu v huv hv=>by
 rw[e,e]
 rcases GaY v k with hvk|hvk
 ·exact hd u v huv hvk
 ·have ev:v=k:=by omega
  subst ev
  rcases Gdl huv with q|q
  ·subst q;exact Gbo _
  ·exact Int.le_trans c (hd u (v -1) (by omega) (by omega))
theorem kT(hN:0<N):∀(f:Nat) (p:Array Nat) (n q:Nat),Ord N p→1≤n→n+f≤N→Down rk p n→q+1≤n→(∀i,n -(q+1)≤i→i<n→b4 rk p i=b4 rk p (n -1))→
  Asks rk N (kas_desc f p n q) λr=>Ord N r.1∧n≤r.2.1∧r.2.1≤n+f∧Down rk r.1 r.2.1∧r.2.2+1≤r.2.1∧∀i,r.2.1 -(r.2.2+1)≤i→i<r.2.1→b4 rk r.1 i=b4 rk r.1 (r.2.1 -1)
 |0,p,n,q,hp,h1,hnf,hd,hq,he=> ⟨hp,Gaq n,Gaq n,hd,hq,he⟩
 |f+1,p,n,q,hp,h1,hnf,hd,hq,he=>by
  have sz:=hp.size
  refine⟨hp.lt hN,hp.lt hN, ?_⟩
  by_cases c:rk (p.getD n 0)<rk (p.getD (n -1) 0)
  ·rw[GaB c];dsimp only;rw[Gag rfl]
   have c' :b4 rk p n≤b4 rk p (n -1):=GdT c
   by_cases z:q>0
   ·rw[Gag z]
    have eq:=λk=>ft (rk:=rk) (i:=n -(q+1)) (by omega) he k
    exact Asks.mono (λr ⟨a1,a2,a3,a4⟩=> ⟨a1,by omega,by omega,a4⟩) _ (kT hN f _ (n+1) 0 (jb hp) (by omega) (by omega) (hd.snoc h1 eq c') (by omega) λi i1 i2=>by rw[show i=n+1 -1 by omega])
   ·rw[Gaf z]
    exact Asks.mono (λr ⟨a1,a2,a3,a4⟩=> ⟨a1,by omega,by omega,a4⟩) _ (kT hN f p (n+1) 0 hp (by omega) (by omega) (hd.snoc h1 (λ_=>rfl) c') (by omega) λi i1 i2=>by rw[show i=n+1 -1 by omega])
  ·rw[GaD c];dsimp only;rw[Gaf Gaz]
   refine⟨hp.lt hN,hp.lt hN, ?_⟩
   by_cases g:rk (p.getD (n -1) 0)<rk (p.getD n 0)
   ·rw[GaB g];dsimp only;rw[Gag rfl]
    exact⟨hp,Gaq n,Nat.le_add_right n (f+1),hd,hq,he⟩
   ·rw[GaD g];dsimp only;rw[Gaf Gaz]
    have eq:b4 rk p n=b4 rk p (n -1):=Int.le_antisymm (GcW.mp g) (GcW.mp c)
    refine Asks.mono (λr ⟨a1,a2,a3,a4⟩=> ⟨a1,by omega,by omega,a4⟩) _ (kT hN f p (n+1) (q+1) hp (by omega) (by omega) (hd.snoc h1 (λ_=>rfl) (Int.le_of_eq eq)) (by omega) λi i1 i2=> ?_)
    rcases GaY i n with hi|hi
    ·rw[he i (by omega) hi,show n+1 -1=n by omega,eq]
    ·rw[show i=n+1 -1 by omega]
theorem sY{p:Array Nat}{n M:Nat}(hp:Ord N p)(hN:0<N)(h1:1≤n)(hn:n≤M)(hM:M≤N)(hd:Down rk p n):Asks rk N (kas_tail3 n M p) λr=>Ord N r.2∧1≤r.1∧r.1≤M∧Up rk r.2 r.1:=by
 have sz:=hp.size
 refine Asks.then _ (Asks.mono (λm ⟨a1,a2,a3,_⟩=> ⟨jb hp,by omega,by omega,a3⟩) _ (rA (jb hp) hN (M -n) n h1 λu v huv hv=> ?_))
 rw[rz (by omega),rz (by omega),Gag ⟨GaT _,by omega⟩,Gag ⟨GaT _,hv⟩]
 exact hd _ _ (by omega) (by omega)
theorem ko{p:Array Nat}{n M:Nat}(hp:Ord N p)(hN:0<N)(h1:1≤n)(hn:n+1≤M)(hM:M≤N)(hd:Down rk p (n+1)):Asks rk N (kas_descPart n M p) λr=>Ord N r.2∧1≤r.1∧r.1≤M∧Up rk r.2 r.1:=by
 have sz:=hp.size
 refine Asks.then _ (Asks.mono (λr ⟨a1,a2,a3,a4,a5,a6⟩=> ?_) _ (kT hN (M -(n+1)) p (n+1) 0 hp (by omega) (by omega) hd (by omega) λi i1 i2=>by rw[show i=n+1 -1 by omega]))
 have s1:=a1.size
 split
 ·refine sY (jb a1) hN (by omega) (by omega) hM λu v huv hv=> ?_
  rw[ft (by omega) a6,ft (by omega) a6]
  exact a4 u v huv hv
 ·exact sY a1 hN (by omega) (by omega) hM a4
theorem wk{p:Array Nat}{M:Nat}(hp:Ord N p)(hM1:1≤M)(hM:M≤N):Asks rk N (kas_count M p) λr=>Ord N r.2∧1≤r.1∧r.1≤M∧Up rk r.2 r.1:=by
 have hN:0<N:=by omega
 have sz:=hp.size
 refine Asks.then _ (Asks.mono (λn ⟨a1,a2,a3,a4⟩=> ?_) _ (rA hp hN (M -1) 1 (Gaq 1) λu v huv hv=>by rw[show u=v by omega];exact Gbo _))
 by_cases c:(n==M)=true
 ·rw[Gag c]
  exact⟨hp,a1,by omega,a3⟩
 ·rw[Gaf c]
  have cn:n≠M:=λz=>c (by simp[z])
  have fall:b4 rk p n<b4 rk p (n -1):=by
   rcases a4 with z|z
   ·omega
   ·exact z
  by_cases g:n>1
  ·rw[Gag g]
   refine⟨hp.lt hN,hp.lt hN, ?_⟩
   by_cases r:rk (p.getD 0 0)<rk (p.getD (n -1) 0)
   ·rw[GaB r];dsimp only;rw[Gag rfl]
    exact⟨hp,a1,by omega,a3⟩
   ·rw[GaD r];dsimp only;rw[Gaf Gaz]
    have all:∀k,0≤k→k<n→b4 rk p k=b4 rk p (n -1):=λk _ hk=>by
     have b1:=a3 0 k (GaT _) hk
     have b2:=a3 k (n -1) (by omega) (by omega)
     have b3:b4 rk p (n -1)≤b4 rk p 0:=GcW.mp r
     omega
    refine ko (jb hp) hN a1 (by omega) hM λu v huv hv=> ?_
    rw[ft (by omega) all,ft (by omega) all]
    rcases GaY v n with hvn|hvn
    ·rw[all u (GaT _) (by omega),all v (GaT _) hvn];exact Gbo _
    ·have ev:v=n:=by omega
     subst ev
     rcases Gdl huv with q|q
     ·subst q;exact Gbo _
     ·rw[all u (GaT _) q];exact GdT fall
  ·rw[Gaf g]
   have en:n=1:=by omega
   subst en
   refine ko hp hN (Gaq 1) (by omega) hM λu v huv hv=> ?_
   rcases Gdl huv with q|q
   ·subst q;exact Gbo _
   ·have eu:u=0:=by omega
    have ev:v=1:=by omega
    subst eu ev
    exact GdT fall
theorem lQ{p:Array Nat}{k:Nat}(hp:Ord N p)(hN:0<N)(hu:Up rk p k):∀(f l r:Nat),l≤r→r≤k→r -l≤f→(∀i,i<l→b4 rk p i≤b4 rk p k)→(∀i,r≤i→i<k→b4 rk p k<b4 rk p i)→
  Asks rk N (kas_place p k f l r) λm=>m≤k∧(∀i,i<m→b4 rk p i≤b4 rk p k)∧∀i,m≤i→i<k→b4 rk p k<b4 rk p i
 |0,l,r,h1,h2,h3,h4,h5=>by
  have e:l=r:=by omega
  subst e
  exact⟨h2,h4,h5⟩
 |f+1,l,r,h1,h2,h3,h4,h5=>by
  unfold kas_place
  by_cases c:l≥r
  ·rw[Gag c]
   have e:l=r:=by omega
   subst e
   exact⟨h2,h4,h5⟩
  ·rw[Gaf c]
   refine⟨hp.lt hN,hp.lt hN, ?_⟩
   by_cases g:rk (p.getD k 0)<rk (p.getD ((l+r)/2) 0)
   ·rw[GaB g];dsimp only;rw[Gag rfl]
    exact lQ hp hN hu f l ((l+r)/2) (by omega) (by omega) (by omega) h4 λi i1 i2=>Int.lt_of_lt_of_le g (hu ((l+r)/2) i i1 i2)
   ·rw[GaD g];dsimp only;rw[Gaf Gaz]
    exact lQ hp hN hu f ((l+r)/2+1) r (by omega) h2 (by omega) (λi i1=>Int.le_trans (hu i ((l+r)/2) (by omega) (by omega)) (GcW.mp g)) h5
theorem D9{p:Array Nat}{k d:Nat}(hk:k<p.size)(hd:d≤k)(i:Nat):b4 rk (bubble p k d) i=if i=k -d then b4 rk p k else if k -d<i∧i≤k then b4 rk p (i -1) else b4 rk p i:=by
 have g:=getElem?_bubble hk d hd i
 split
 ·rename_i c
  rw[Gag c] at g
  exact dN g
 ·rename_i c
  rw[Gaf c] at g
  split
  ·rename_i c2
   rw[Gag c2] at g
   exact dN g
  ·rename_i c2
   rw[Gaf c2] at g
   exact dN g
theorem wm(hN:0<N):∀(f:Nat) (p:Array Nat) (k:Nat),Ord N p→k+f=N→Up rk p k→Asks rk N (kas_bin f p k) λr=>Ord N r∧Up rk r N
 |0,p,k,hp,hk,hu=>by
  have e:k=N:=by omega
  subst e
  exact⟨hp,hu⟩
 |f+1,p,k,hp,hk,hu=>by
  have sz:=hp.size
  refine Asks.then _ (Asks.mono (λm ⟨a1,a2,a3⟩=> ?_) _ (lQ hp hN hu k 0 k (GaT _) (Gaq _) (by omega) (λi hi=>by omega) λi i1 i2=>by omega))
  refine wm hN f _ (k+1) (hp.sX (bubble_perm p k (k -m))) (by omega) λu v huv hv=> ?_
  have B:=λi=>D9 (rk:=rk) (p:=p) (k:=k) (d:=k -m) (by omega) (by omega) i
  rw[B u,B v]
  have em:k -(k -m)=m:=by omega
  rw[em]
  by_cases u1:u=m
  ·rw[Gag u1]
   by_cases v1:v=m
   ·rw[Gag v1];exact Gbo _
   ·rw[Gaf v1]
    rw[Gag ⟨by omega,by omega⟩]
    exact GdT (a3 (v -1) (by omega) (by omega))
  ·rw[Gaf u1]
   by_cases u2:m<u∧u≤k
   ·rw[Gag u2,Gaf (show¬v=m by omega),Gag ⟨by omega,by omega⟩]
    exact hu (u -1) (v -1) (by omega) (by omega)
   ·rw[Gaf u2]
    by_cases v1:v=m
    ·rw[Gag v1]
     exact a2 u (by omega)
    ·rw[Gaf v1]
     by_cases v2:m<v∧v≤k
     ·rw[Gag v2]
      exact hu u (v -1) (by omega) (by omega)
     ·rw[Gaf v2]
      exact hu u v huv (by omega)
theorem Bi(hN:1≤N):Asks rk N (kas_sort N) λr=>Ord N r∧Up rk r N:=by
 have h0:Ord N (List.toArray (List.range N)):=List.Perm.refl _
 refine Asks.then _ (Asks.mono (λr ⟨a1,a2,a3,a4⟩=> ?_) _ (wk h0 hN (Gaq N)))
 split
 ·exact wm (by omega) _ _ _ a1 (by omega) (by rw[show max r.1 1=r.1 by omega];exact a4)
 ·rename_i c
  have e:r.1=N:=by omega
  rw[e] at a4
  exact⟨a1,a4⟩
end
open PySem PySem.Spec PyProof.Rows L2
noncomputable def FO(h:Heap)(a:Addr)(T:String)(vs:Array Value):Prop:=∃o,h.get? a=some o∧o.cls= .type T∧o.data= .fields vs
noncomputable def fu(h:Heap)(d:Addr)(es:Array DictEntry)(ep:Nat):Prop:=∃o,h.get? d=some o∧o.ExactDict∧o.data= .dict es ep
theorem fu.at{h h' :Heap}{d:Addr}{es:Array DictEntry}{ep:Nat}(x:fu h d es ep)(e:∀o,h.get? d=some o→h'.get? d=some o):fu h' d es ep:=let⟨o,ho,r⟩:=x;⟨o,e _ ho,r⟩
section
variable{prog:Program}{w:World}{A:Around}{E:Value→Shared→Prop}{z:Shared}
theorem fu.ty{d:Addr}{es:Array DictEntry}{ep:Nat}(x:fu z.heap d es ep):z.TypeIs (.ref d) "dict":=let⟨o,ho,hc,_⟩:=x;⟨o,ho,hc.1⟩
theorem oJ{d:Addr}{es:Array DictEntry}{ep:Nat}{p:Option Value}{Q:Array DictEntry→Shared→Prop}(x:fu z.heap d es ep)(h:Q es z):wpAny (model prog w) A (dictEntries d p) Q E z:=let⟨_,ho,_,hd⟩:=x;wpAny_dictEntries ho hd h
theorem sZ{d:Addr}{es:Array DictEntry}{ep:Nat}{p:Option Value}{Q:Nat→Shared→Prop}(x:fu z.heap d es ep)(h:Q ep z):wpAny (model prog w) A (dictEpoch d p) Q E z:=let⟨_,ho,_,hd⟩:=x;wpAny_dictEpoch ho hd h
theorem FO.ty{a:Addr}{T:String}{vs:Array Value}(x:FO z.heap a T vs):z.TypeIs (.ref a) T:=let⟨o,ho,hc,_⟩:=x;⟨o,ho,hc⟩
theorem lR{a:Addr}{T:String}{vs:Array Value}{Q:Array Value→Shared→Prop}(x:FO z.heap a T vs)(h:Q vs z):wpAny (model prog w) A (fieldsOf (.ref a)) Q E z:=let⟨_,ho,_,hd⟩:=x;wpAny_fieldsOf ho hd h
theorem cV{a:Addr}{T:String}{vs:Array Value}{k:Nat}{x:Value}{Q:Unit→Shared→Prop}(f:FO z.heap a T vs)(h:∀h',FO h' a T (vs.setIfInBounds k x)∧Heap.SameBut a z.heap h' →Q () {z with heap:=h' })(hk:k<vs.size):
  wpAny (model prog w) A (setField (.ref a) k x) Q E z:=by
 obtain⟨⟨c,dc,dt,sl⟩,ho,hc,hd⟩:=f
 cases hc;cases hd
 exact GcP ho rfl hk (h _ ⟨⟨_,GaU _ ho rfl,rfl,rfl⟩,GbI ..⟩)
theorem FO.at{h h' :Heap}{a:Addr}{T:String}{vs:Array Value}(x:FO h a T vs)(k:∀o,h.get? a=some o→h'.get? a=some o):FO h' a T vs:=let⟨o,q,r⟩:=x;⟨o,k o q,r⟩
theorem FO.lt{h:Heap}{a:Addr}{T:String}{vs:Array Value}(x:FO h a T vs):a<h.objs.size:=let⟨_,q,_⟩:=x;Gam q
theorem jO{a:Addr}{T:String}{vs:Array Value}{i:Nat}{x:Value}{Q:Value→Shared→Prop}(f:FO z.heap a T vs)(e:vs[i]? =some x)(h:Q x z):wpAny (model prog w) A (field (.ref a) i) Q E z:=let⟨_,ho,_,hd⟩:=f;wpAny_field ho hd e h
theorem wq{α:Type}{Q:α→Shared→Prop}(hh:A.handled=none)(h:∀h' a,(∀b o,z.heap.get? b=some o→h'.get? b=some o)∧(∃o,h'.get? a=some o∧o.cls= .type "StopIteration")→E (.ref a) {z with heap:=h' }):
  wpAny (model prog w) A (newExc (.type "StopIteration") []>>=λe=>(raiseNew e:Sem α)) Q E z:=by
 obtain⟨hp,g,dr,tk,os⟩:=z
 wp_walk using GbY
 ·unfold raiseNew
  wp_walk
  exact h _ _ ⟨λb o e=>Gad _ (Gad _ e),_,Gaw _ rfl,rfl⟩
 all_goals size_fits
theorem oK{e:Addr}{Q:Bool→Shared→Prop}(x:∃o,z.heap.get? e=some o∧o.cls= .type "StopIteration")(h:Q true z):wpAny (model prog w) A (isInstance (.ref e) (.type "StopIteration")) Q E z:=
 wpAny_isInstance (T:="StopIteration") x isSubtype_stop h
theorem C6(es:Array DictEntry)(i:Nat):(if(i:Int)<0 then none else es[(i:Int).toNat]?)=es[i]? :=by simp;omega
noncomputable def Emp(h:Heap)(S:Addr):Prop:=∃c,h.get? S=some {cls:= .type "list",data:= .seq #[] c}
theorem on{α:Type}{t:Sem α}{Q Q' :α→Shared→Prop}(h:wpAny (model prog w) A t Q E z)(k:∀a s,Q a s→Q' a s):wpAny (model prog w) A t Q' E z:=GbS h k λ_ _ x=>x
theorem touched{S:Addr}{Q:Unit→Shared→Prop}(e:Emp z.heap S)(h:∀h2,Emp h2 S∧(∀b o,b≠S→z.heap.get? b=some o→h2.get? b=some o)→Q () {z with heap:=h2}):wpAny (model prog w) A (Builtin.List.listTouch (.ref S)) Q E z:=by
 obtain⟨c,e⟩:=e
 have e1:=GaU (Obj.mapSeq (·.push Value.none)) e rfl
 refine Gab (GdE e rfl (GdE (hz:=by seq_fits) e1 rfl (h _ ⟨⟨_,GaU (Obj.mapSeq (·.pop)) e1 rfl⟩,λb o n k=> ?_⟩)))
 rw[GbB _ _ (Gbl n),GbB _ _ (Gbl n),k]
theorem lT{T:String}{S:Addr}{v res:Value}{R:Result→Shared→Prop}(hT:z.TypeIs v T)(n1:(Value.type T== .type "list")=false)(n2:(Value.type T== .type "tuple")=false)(n3:Builtin.List.listSameRef (.ref S) v=false)
  (h:wpAny (model prog w) A.in1 (pyIter v) (λi s1=>wpAny (model prog w) A.in1 (Builtin.List.listLengthHint v) (λ_ s2=>Emp s2.heap S∧∀h2,Emp h2 S→(∀b o,b≠S→s2.heap.get? b=some o→h2.get? b=some o)→
   codeAny (model prog w) A (.builtin "list.extend.loop" ⟨[.ref S,i,res],[]⟩) R {s2 with heap:=h2}) (λe s' =>R (.error e) s') s1) (λe s' =>R (.error e) s') z):
  wpAny (model prog w) A.in1 (Builtin.List.listExtendWith (.ref S) v res) (λfin s' =>match fin with| .done f=>R (.ok f) s' | .again c' =>c'.quiet=true∧codeAny (model prog w) A c' R s') (λe s' =>R (.error e) s') z:=by
 wp_walk using wpAny_typeOf hT,on h
 intro i s1 q
 wp_walk using on q
 rintro b s2 ⟨e,q⟩
 have quiet:Code.quiet (.builtin "list.extend.loop" ⟨[.ref S,i,res],[]⟩)=true:=plainId_quiet Gdd _
 apply Gdg<;>intro _
 ·wp_walk using touched e
  exactλh2 k=>Gae ⟨quiet,q h2 k.1 k.2⟩
 ·exact Gae ⟨quiet,q _ e λ_ _ _ k=>k⟩
theorem uB{v:Value}{Q:Value→Shared→Prop}
  (h:∀h1:Heap,Emp h1 z.heap.objs.size→(∀b o,z.heap.get? b=some o→h1.get? b=some o)→z.heap.objs.size<h1.objs.size→wpAny (model prog w) A.in1.in1 (Builtin.List.listExtendWith (.ref z.heap.objs.size) v .none)
   (λfin s' =>match fin with| .done f=>wants (λr s₂=>r= .none∧Q (.ref z.heap.objs.size) s₂) E (.ok f) s' | .again c' =>c'.quiet=true∧codeAny (model prog w) A.in1 c' (wants (λr s₂=>r= .none∧Q (.ref z.heap.objs.size) s₂) E) s')
   (λe s' =>wants (λr s₂=>r= .none∧Q (.ref z.heap.objs.size) s₂) E (.error e) s') {z with heap:=h1}):wpAny (model prog w) A (call (.type "list") [v]) Q E z:=by
 apply callType_codes (Q₁:=λo s=>o= .ref z.heap.objs.size∧s={z with heap:=z.heap.push {cls:= .type "list",data:= .seq #[]}}) F.called_list (F.typeCall_list_1 _) F.entry_list_init (code_list_new _ ⟨rfl,rfl⟩)
 rintro _ _ ⟨rfl,rfl⟩
 have e:(z.heap.push {cls:= .type "list",data:= .seq #[]}).get? z.heap.objs.size=some {cls:= .type "list",data:= .seq #[]}:=Gaw _ rfl
 refine⟨⟨_,e,rfl⟩,F.args_list_init_2 _ _,Gab (Gab (GcQ e rfl (Gae (Gab (GdE e rfl (Gab (wpAny_letGo ?_)))))))⟩
 have e2:=GaU (Obj.mapSeq λ_=>(#[]:Array Value)) e rfl
 refine h _ ⟨_,e2⟩ (λb o k=> ?_) (Gam e2)
 rw[GbB _ _ (Gbj (Gam k))]
 exact Gad _ k
theorem Bj{c:Code}{Q:Value→Shared→Prop}(h:∀R:Result→Shared→Prop,(∀v s',Q v s' →R (.ok (.ret v)) s')→codeAny (model prog w) A c R z):wpAny (model prog w) A (runValue c) Q E z:=wpAny_runValue (h _ λ_ _ q=>q)
theorem gather{v:Value}{Q:List Value→Shared→Prop}
  (h:∀R:Result→Shared→Prop,(∀s' acc c,s'.heap.get? z.heap.objs.size=some {cls:= .type "list",dict:=none,data:= .seq acc c,slots:=#[]}→Q acc.toList s' →R (.ok (.ret (.ref z.heap.objs.size))) s')→
   wpAny (model prog w) A.in1 (Builtin.List.listExtendWith (.ref z.heap.objs.size) v (.ref z.heap.objs.size)) (λfin s' =>match fin with| .done f=>R (.ok f) s' | .again c' =>c'.quiet=true∧codeAny (model prog w) A c' R s') (λe s' =>R (.error e) s') {z with heap:=z.heap.push (seqObj "list" #[] 0)}):
  wpAny (model prog w) A (collect v) Q E z:=by
 unfold collect
 apply Gab
 apply Bj
 intro R r
 apply GbV entry_proto_collect'
 apply Gab
 refine Gdv (Gae ⟨Code.quiet_builtin _ (by decide+kernel), ?_⟩)
 apply GbV entry_list_iadd'
 rw[GbW (by decide+kernel:plainId "list.__iadd__"=true)]
 exact h R λs' acc c k q=>r _ _ (Gab (wpAny_load k (Gae q)))
theorem jc{v:Value}{Q:List Value→Shared→Prop}
  (h:∀h1:Heap,Emp h1 z.heap.objs.size→(∀b o,z.heap.get? b=some o→h1.get? b=some o)→∀R:Result→Shared→Prop,
   (∀s' acc c,s'.heap.get? z.heap.objs.size=some {cls:= .type "list",dict:=none,data:= .seq acc c,slots:=#[]}→Q acc.toList s' →R (.ok (.ret (.ref z.heap.objs.size))) s')→
   wpAny (model prog w) A.in1 (Builtin.List.listExtendWith (.ref z.heap.objs.size) v (.ref z.heap.objs.size)) (λfin s' =>match fin with| .done f=>R (.ok f) s' | .again c' =>c'.quiet=true∧codeAny (model prog w) A c' R s') (λe s' =>R (.error e) s') {z with heap:=h1}):
  wpAny (model prog w) A (collect v) Q E z:=gather (h _ ⟨0,Gaw _ rfl⟩ λb o=>Gad _)
noncomputable def Dc(h:Heap)(S:Addr)(acc:Array Value):Prop:=∃c,h.get? S=some {cls:= .type "list",dict:=none,data:= .seq acc c,slots:=#[]}
theorem q0{S I:Addr}{res:Value}{R:Result→Shared→Prop}{n:Nat}(J:Nat→Array Value→Shared→Prop)(hn:n≤sizeLine)
  (step:∀i acc s Q E,i<n→J i acc s→(∀v s',Dc s'.heap S acc→acc.size=i→(∀h2,Dc h2 S (acc.push v)→(∀b o,b≠S→s'.heap.get? b=some o→h2.get? b=some o)→J (i+1) (acc.push v) {s' with heap:=h2})→Q (some v) s')→wpAny (model prog w) A.in1 (pyNext (.ref I)) Q E s)
  (stop:∀acc s Q E,J n acc s→(∀s',R (.ok (.ret res)) s' →Q none s')→wpAny (model prog w) A.in1 (pyNext (.ref I)) Q E s):
  ∀k i acc s,i+k=n→J i acc s→codeAny (model prog w) A (.builtin "list.extend.loop" ⟨[.ref S,.ref I,res],[]⟩) R s
 |0,i,acc,s,hk,j=>by
  subst hk
  apply GbV F.entry_extend_loop
  rw[GbW Gdd]
  exact Gab (stop acc s _ _ j λs' r=>Gae r)
 |k+1,i,acc,s,hk,j=>by
  have lt:i<n:=by omega
  apply GbV F.entry_extend_loop
  rw[GbW Gdd]
  refine Gab (step i acc s _ _ lt j λv s' ⟨c,e⟩ sz up=>Gab ?_)
  refine GdE e rfl (Gae ⟨plainId_quiet Gdd _,q0 J hn step stop k (i+1) (acc.push v) _ (by omega) (up _ ⟨_,GaU _ e rfl⟩ λb o n q=> ?_)⟩) (by omega) (by rw[Array.size_push];omega)
  rw[GbB _ _ (Gbl n),q]
end
open PySem PySem.Spec PyProof.Rows L2
open PySem.W (KatLex KatTups kas_sort kas_ask kat_kind kat_lt kat_one kat_run kat_snds BoolBack kat_lt_int)
noncomputable def FlV:D→Value→Prop
 | .non,v=>v= .none
 | .int i,v=>∃t,v= .int i t
 | .str x,v=>∃t,v= .str x t
 |_,_=>False
noncomputable def ic(h:Heap):D→Value→Prop
 | .int i,v=>∃t,v= .int i t
 | .tup fs,v=>∃a o n us,v= .ref a∧h.get? a=some o∧o.cls= .type "tuple"∧o.data= .seq (List.toArray us) n∧Paired FlV fs us
 |_,_=>False
theorem ic.keep{h h' :Heap}{d:D}{v:Value}(k:ic h d v)(e:∀b o,h.get? b=some o→h'.get? b=some o):ic h' d v:=by
 cases d with
 |int i=>exact k
 |tup fs=>obtain⟨a,o,n,us,h1,h2,h3⟩:=k;exact⟨a,o,n,us,h1,e _ _ h2,h3⟩
 |_=>exact k
theorem gF{α β:Type}{R S:α→β→Prop}(h:∀a b,R a b→S a b):∀{xs:List α} {ys:List β},Paired R xs ys→Paired S xs ys
 |_,_,.nil=> .nil
 |_,_,.cons p t=> .cons (h _ _ p) (gF h t)
theorem Bk{xs ys:List Nat}(h:xs.map Int.ofNat=ys.map Int.ofNat):xs=ys:=by
 induction xs generalizing ys with
 |nil=>cases ys with
  |nil=>rfl
  |cons=>simp at h
 |cons x xs ih=>cases ys with
  |nil=>simp at h
  |cons y ys=>
   simp only[GaH,List.cons.injEq] at h
   rw[ih h.2,Int.ofNat_inj.mp h.1]
theorem Bl{x y:Str}(h:x.cps.toList=y.cps.toList):x=y:=by
 cases x;cases y
 simp only at h
 rw[Gcr.mp h]
theorem jP{a b:D}(ha:ff a=true)(hb:ff b=true)(h:ar a=ar b):a=b:=by
 cases a<;>cases b<;>simp[ff,tyD] at ha hb<;>simp[ar] at h
 ·rfl
 ·rw[h]
 ·have:=Bl (Bk h)
  rw[this]
theorem jQ:∀{as bs:List D},as.all ff=true→bs.all ff=true→as.map ar=bs.map ar→as=bs
 |[],[],_,_,_=>rfl
 |[],_::_,_,_,h=>by simp at h
 |_::_,[],_,_,h=>by simp at h
 |a::as,b::bs,ha,hb,h=>by
  rw[Gbv,Gal] at ha hb
  simp only[GaH,List.cons.injEq] at h
  rw[jP ha.1 hb.1 h.1,jQ ha.2 hb.2 h.2]
theorem Dd{a:D}{t:Nat}(h:(tyD a==t)=true)(ht:t≠3):ff a=true:=by
 unfold ff
 rw[GbT] at h
 rw[h]
 simpa using ht
theorem fS{t:Nat}{d:D}(ht:t≠3)(h:fq t d=true):∃f r,d= .tup (f::r)∧tyD f=t∧(f::r).all ff=true:=by
 unfold fq at h
 split at h
 ·rename_i f r
  rw[Gal] at h
  refine⟨f,r,rfl,GbT.mp h.1, ?_⟩
  rw[Gbv,Gal]
  exact⟨Dd h.1 ht,h.2⟩
 ·cases h
theorem fw{d:D}(h:uo d=true):∃i,d= .int i:=by
 unfold uo at h
 split at h
 ·exact⟨_,rfl⟩
 ·cases h
theorem wt{ds:List D}(h:keysOk ds=true):∀a∈ds,∀b∈ds,code a=code b→a=b:=by
 intro a ha b hb e
 unfold keysOk at h
 rw[GaZ,Gal,GaZ] at h
 have tup:∀t,t≠3→ds.all (fq t)=true→a=b:=λt ht hk=>by
  obtain⟨f,r,rfl,_,q1⟩:=fS ht (Gao.mp hk a ha)
  obtain⟨f',r',rfl,_,q2⟩:=fS ht (Gao.mp hk b hb)
  rw[jQ q1 q2 e]
 rcases h with h| ⟨h|h,_⟩
 ·obtain⟨i,rfl⟩:=fw (Gao.mp h a ha)
  obtain⟨j,rfl⟩:=fw (Gao.mp h b hb)
  simp[code,ar] at e
  rw[e]
 ·exact tup 1 (by decide) h
 ·exact tup 2 (by decide) h
theorem oM{i j:Int}:cA ltI (ar (.int i)) (ar (.int j))=decide (i<j):=by
 unfold ar
 simp only[cA,Gbp]
 by_cases e:i=j
 ·subst e;simp
 ·rw[Gaf e];rfl
theorem t5:∀(xs ys:List Nat),cA ltI (xs.map Int.ofNat) (ys.map Int.ofNat)=decide (xs<ys)
 |[],[]=>by simp[cA]
 |[],y::ys=>by simp[cA]
 |x::xs,[]=>by simp[cA]
 |x::xs,y::ys=>by
  simp only[GaH,cA]
  by_cases e:x=y
  ·subst e
   rw[Gag rfl,t5 xs ys]
   simp[List.cons_lt_cons_iff]
  ·rw[Gaf (λz:Int.ofNat x=Int.ofNat y=>e (Int.ofNat_inj.mp z))]
   have:(x::xs<y::ys)↔x<y:=by rw[List.cons_lt_cons_iff];simp[e]
   unfold ltI
   simp[this]
theorem t6{x y:Str}:cA ltI (ar (.str x)) (ar (.str y))=decide (x.cps.toList<y.cps.toList):=by
 unfold ar
 simp only[cA,Gbp]
 exact t5 _ _
section
variable{prog:Program}{w:World}{A:Around}{E:Value→Shared→Prop}{s:Shared}
theorem C7{a b:D}{u v:Value}{Q:Bool→Shared→Prop}(ha:FlV a u)(hb:FlV b v)(ht:tyD a=tyD b)(h:Q (decide (ar a=ar b)) s):wpAny (model prog w) A (eqBool u v) Q E s:=by
 cases a<;>cases b<;>simp[tyD] at ht<;>try exact ha.elim
 ·cases ha;cases hb
  unfold eqBool
  refine Gca ?_
  simp only[ar,decide_true] at h
  rw[Gag (by rfl)]
  exact Gab (GcX (Gae h))
 ·obtain⟨t,rfl⟩:=ha
  obtain⟨t',rfl⟩:=hb
  refine wpAny_eqBool_int ?_
  rename_i i j
  have e:decide (ar (.int i)=ar (.int j))=(i==j):=by
   simp only[ar]
   by_cases q:i=j
   ·subst q;simp
   ·simp[q]
  rw[e] at h;exact h
 ·obtain⟨t,rfl⟩:=ha
  obtain⟨t',rfl⟩:=hb
  refine eqBool_str ?_
  rename_i i j
  have e:decide (ar (.str i)=ar (.str j))=(i==j):=by
   by_cases q:i=j
   ·subst q;simp
   ·have:¬ar (.str i)=ar (.str j):=λz=>q (by
     have:=jP (a:= .str i) (b:= .str j) rfl rfl z
     cases this;rfl)
    simp[q,this]
  rw[e] at h;exact h
theorem Fy{a b:D}{u v:Value}{one:Bool}{Q:Bool→Shared→Prop}(ha:FlV a u)(hb:FlV b v)(ht:tyD a=tyD b)(hk:tyD a=1∨tyD a=2)(h:Q (cA ltI (ar a) (ar b)) s):wpAny (model prog w) A (oneLt' one u v) Q E s:=by
 cases a<;>cases b<;>simp[tyD] at ht hk
 ·obtain⟨t,rfl⟩:=ha
  obtain⟨t',rfl⟩:=hb
  rw[oM] at h
  cases one with
  |true=>exact oneLt_int h
  |false=>exact kat_one _ _ (PyProof.Rows.lt_int h)
 ·obtain⟨t,rfl⟩:=ha
  obtain⟨t',rfl⟩:=hb
  rw[t6] at h
  cases one with
  |true=>exact oneLt_str h
  |false=>exact kat_one _ _ (PyProof.Rows.lt_str h)
theorem wu{b fin:Bool}{Q:Bool→Shared→Prop}:∀{as bs:List D} {us vs:List Value} (i:Nat),Paired FlV as us→Paired FlV bs vs→j0 as bs=true→fin=decide (as.length<bs.length)→Q (ltC (as.map ar) (bs.map ar)) s→KatLex prog w A b fin Q (us.zip vs) i s
 |[],[],_,_,i,.nil,.nil,_,hf,h=>by
  have h' :Q fin s:=by rw[hf];exact h
  exact h'
 |[],_::_,_,_,i,.nil,.cons _ _,_,hf,h=>by
  have h' :Q fin s:=by rw[hf,GaB (by simp)];exact h
  exact h'
 |_::_,[],_,_,i,.cons _ _,.nil,_,hf,h=>by
  have h' :Q fin s:=by rw[hf,GaD (by simp)];exact h
  exact h'
 |a::as,c::cs,_,_,i,.cons (b:=u) ha ta,.cons (b:=v) hb tb,hc,hf,h=>by
  unfold j0 at hc
  have h0:ltC ((a::as).map ar) ((c::cs).map ar)=if ar a=ar c then ltC (as.map ar) (cs.map ar) else cA ltI (ar a) (ar c):=rfl
  rw[h0] at h
  have ht:tyD a=tyD c:=by
   split at hc
   ·rename_i e
    cases a<;>cases c<;>simp[ar] at e<;>first|rfl|exact ha.elim|exact hb.elim
   ·rw[Gal] at hc;exact GbT.mp hc.1
  show wpAny _ _ (eqBool u v) _ _ s
  refine C7 ha hb ht ?_
  by_cases e:ar a=ar c
  ·rw[GaB e,Gag rfl]
   rw[Gag e] at h hc
   exact wu (i+1) ta tb hc (by rw[hf];simp) h
  ·rw[GaD e,Gaf Gaz]
   rw[Gaf e] at h hc
   rw[Gal,GaZ] at hc
   exact Fy ha hb ht (hc.2.imp GbT.mp GbT.mp) h
theorem wx{ds:List D}{vs:List Value}{κ:SortKind}(hK:Paired (ic s.heap) ds vs)(hok:keysOk ds=true)(hκ:(ds.all uo=true∧κ=oneType')∨((ds.all (fq 1)||ds.all (fq 2))=true∧(ds.all λx=>ds.all λy=>rh x y)=true∧κ=tuples' true)):
  ∀i j C,i<ds.length→j<ds.length→C (decide (rank (ds.map code) i<rank (ds.map code) j)) s→kas_ask prog w A κ vs i j C s:=by
 intro i j C hi hj h
 have hl:=hK.length
 rw[kM (by simpa using hi) (by simpa using hj)] at h
 simp only[GbM] at h
 unfold kas_ask
 have gi:vs.getD i Value.none=vs[i]:=by simp[←hl,hi]
 have gj:vs.getD j Value.none=vs[j]:=by simp[←hl,hj]
 rw[gi,gj]
 have at_:∀{ds:List D} {vs:List Value},Paired (ic s.heap) ds vs→∀(i:Nat) (h1:i<ds.length) (h2:i<vs.length),ic s.heap ds[i] vs[i]:=by
  intro ds vs hK
  induction hK with
  |nil=>intro i h1;simp at h1
  |cons h t ih=>
   intro i h1 h2
   cases i with
   |zero=>exact h
   |succ i=>exact ih i (by simpa using h1) (by simpa using h2)
 have ki:=at_ hK i hi (by omega)
 have kj:=at_ hK j hj (by omega)
 rcases hκ with⟨a1,rfl⟩| ⟨a1,a2,rfl⟩
 ·obtain⟨x,hx⟩:=fw (Gao.mp a1 ds[i] (GaN hi))
  obtain⟨y,hy⟩:=fw (Gao.mp a1 ds[j] (GaN hj))
  rw[hx] at ki h
  rw[hy] at kj h
  obtain⟨t,ei⟩:=ki
  obtain⟨t',ej⟩:=kj
  rw[ei,ej]
  refine kat_lt_int ?_
  have e:ltC (code (.int x)) (code (.int y))=decide (x<y):=by
   show cA (cA ltI) [ar (.int x)] [ar (.int y)]=_
   unfold cA
   split
   ·rename_i z
    have:=jP (a:= .int x) (b:= .int y) rfl rfl z
    cases this
    simp[cA]
   ·exact oM
  rw[e] at h;exact h
 ·have tup:∀d∈ds,∃fs,d= .tup fs:=λd hd=>by
   rw[GaZ] at a1
   rcases a1 with a1|a1
   ·obtain⟨f,r,e,_⟩:=fS (by decide) (Gao.mp a1 d hd);exact⟨_,e⟩
   ·obtain⟨f,r,e,_⟩:=fS (by decide) (Gao.mp a1 d hd);exact⟨_,e⟩
  have cm:=Gao.mp (Gao.mp a2 ds[i] (GaN hi)) ds[j] (GaN hj)
  obtain⟨xs,hx⟩:=tup ds[i] (GaN hi)
  obtain⟨ys,hy⟩:=tup ds[j] (GaN hj)
  rw[hx] at ki h cm
  rw[hy] at kj h cm
  obtain⟨a,o,n,us,ei,h1,h2,h3,h4⟩:=ki
  obtain⟨a',o',n',us',ej,h1',h2',h3',h4'⟩:=kj
  rw[ei,ej]
  refine kat_lt h1 h3 h1' h3' ?_
  exact wu 0 h4 h4' cm (by rw[Gas,Gas,h4.length,h4'.length]) h
theorem jR{t:Nat}(ht:t≠3):∀{ds:List D} {vs:List Value},Paired (ic s.heap) ds vs→ds.all (fq t)=true→∃fs:List Value,∃gs:List D,KatTups s.heap vs fs∧Paired FlV gs fs∧(∀g∈gs,tyD g=t)∧fs.length=vs.length
 |[],_,.nil,_=> ⟨[],[],trivial,.nil,(by intro g hg;cases hg),rfl⟩
 |d::ds,_,.cons h tl,hk=>by
  rw[Gbv,Gal] at hk
  obtain⟨fs,gs,h1,h2,h3,h4⟩:=jR ht tl hk.2
  obtain⟨f,r,rfl,q1,q2⟩:=fS ht hk.1
  obtain⟨a,o,n,us,rfl,g1,g2,g3,g4⟩:=h
  cases g4 with
  |cons p t=>
   refine⟨_::fs,f::gs,KatTups.cons g1 g2 g3 (by simp) h1,.cons p h2,λg hg=> ?_,by simp[h4]⟩
   rcases Gar.mp hg with e|e
   ·subst e;exact q1
   ·exact h3 g e
theorem t7{M:Model}{h:Heap}{d:D}{v:Value}{t:Nat}(hd:FlV d v)(ht:tyD d=t):(t=1→PySem.W.Looks M h (typeOf v) (.type "int"))∧(t=2→PySem.W.Looks M h (typeOf v) (.type "str")):=by
 subst ht
 cases d<;>simp[tyD]<;>try exact hd.elim
 ·obtain⟨u,rfl⟩:=hd
  exact PySem.W.Looks.of_pure rfl
 ·obtain⟨u,rfl⟩:=hd
  exact PySem.W.Looks.of_pure rfl
theorem uC{ds:List D}{vs:List Value}{Q:SortKind→Shared→Prop}(hK:Paired (ic s.heap) ds vs)(hok:keysOk ds=true)(h2:2≤ds.length)
  (h:∀κ,((ds.all uo=true∧κ=oneType')∨((ds.all (fq 1)||ds.all (fq 2))=true∧(ds.all λx=>ds.all λy=>rh x y)=true∧κ=tuples' true))→Q κ s):wpAny (model prog w) A (keyKind' vs.toArray) Q E s:=by
 have hl:=hK.length
 unfold keysOk at hok
 rw[GaZ,Gal] at hok
 rcases hok with hok| ⟨hok,hc⟩
 ·have ia:∀{ds:List D} {vs:List Value},Paired (ic s.heap) ds vs→ds.all uo=true→∃ns,IntsAre vs ns:=by
   intro ds vs hK
   induction hK with
   |nil=>intro _;exact⟨[],.nil⟩
   |cons p t ih=>
    intro hk
    rw[Gbv,Gal] at hk
    obtain⟨ns,q⟩:=ih hk.2
    obtain⟨i,rfl⟩:=fw hk.1
    obtain⟨u,rfl⟩:=p
    exact⟨i::ns,.cons i u q⟩
  obtain⟨ns,q⟩:=ia hK hok
  match vs,hl,q with
  |[],e,_=>rw[List.length_nil] at e;omega
  |[_],e,_=>rw[GcM] at e;omega
  |v1::v2::vr,_,q=>
   rw[keyKind_ints q]
   exact Gae (h _ (.inl ⟨hok,rfl⟩))
 ·have hok' :=hok
  rw[GaZ] at hok'
  rcases hok' with a1|a1
  ·obtain⟨fs,gs,q1,q2,q3,q4⟩:=jR (s:=s) (by decide) hK a1
   refine kat_kind (T:= .type "int") q1 (by rw[q4,←hl];omega) (λv hv=> ?_) (by rfl) (h _ (.inr ⟨hok,hc,rfl⟩))
   obtain⟨g,hg,hgv⟩:∃g∈gs,FlV g v:=by
    clear q1 q3 q4
    induction q2 with
    |nil=>cases hv
    |cons p t ih=>
     rcases Gar.mp hv with e|e
     ·subst e;exact⟨_,Gap,p⟩
     ·obtain⟨g,h1,h2⟩:=ih e;exact⟨g,Gai _ h1,h2⟩
   exact(t7 hgv (q3 g hg)).1 rfl
  ·obtain⟨fs,gs,q1,q2,q3,q4⟩:=jR (s:=s) (by decide) hK a1
   refine kat_kind (T:= .type "str") q1 (by rw[q4,←hl];omega) (λv hv=> ?_) (by rfl) (h _ (.inr ⟨hok,hc,rfl⟩))
   obtain⟨g,hg,hgv⟩:∃g∈gs,FlV g v:=by
    clear q1 q3 q4
    induction q2 with
    |nil=>cases hv
    |cons p t ih=>
     rcases Gar.mp hv with e|e
     ·subst e;exact⟨_,Gap,p⟩
     ·obtain⟨g,h1,h2⟩:=ih e;exact⟨g,Gai _ h1,h2⟩
   exact(t7 hgv (q3 g hg)).2 rfl
theorem wz(vs:List Value):(vs.toArray.zip vs.toArray).map (·.2)=vs.toArray:=by
 apply Gcr.mp
 rw[Array.toList_map,Array.toList_zip]
 exact List.map_snd_zip (Gaq _)
theorem lU{a:Addr}{vs:List Value}{n:Nat}{P:PySem.Fin→Shared→Prop}{Ok:Array Value→Prop}(ho:s.heap.get? a=some (seqObj "list" vs.toArray n))(sz:vs.length≤sizeLine)(one:vs.length<2→Ok vs.toArray)(len:∀out,Ok out→out.size=vs.length)
  (big:∀G:Heap,(∀b o,b≠a→s.heap.get? b=some o→G.get? b=some o)→2≤vs.length→wpAny (model prog w) A (keyKind' vs.toArray) (λκ s1=>wpAny (model prog w) A (sortRuns'.run (SortSt.mk' κ (vs.toArray.zip vs.toArray) #[] 7 none)) (λr s2=>s2={s with heap:=G}∧failedOf r.2=none∧Ok ((arrOf r.2).map (·.2))) E s1) E {s with heap:=G})
  (h:∀out,Ok out→P (.done (.ret .none)) {s with heap:=sortedHeap s.heap a vs out}):wpAny (model prog w) A (Builtin.«list.sort» ⟨[.ref a],[]⟩) P E s:=by
 have⟨ep,e1⟩:∃ep,(s.heap.update a (Obj.mapSeq λ_=>(#[]:Array Value))).get? a=some (seqObj "list" #[] ep):=⟨_,get?_update_seq ho _⟩
 rw[list_sort_plain]
 refine Gab (listItems_at ho rfl (Gab (listUpdate_at ho rfl (Gab (seqEpoch_at e1 rfl (Gab (wpAny_newTuple (Gab (Gdv (Gca ?_) (GaT _))) sz)))) (by simpa using sz) (GaT _))))
 have e2:=Gad (seqObj "list" #[] 0) (Gad (seqObj "tuple" vs.toArray 0) e1)
 have last:∀st:SortSt,failedOf st=none→Ok ((arrOf st).map (·.2))→wpAny (model prog w) A (do
   let touched:=(←seqEpoch a) !=ep
   Builtin.List.listUpdate (.ref a) λ_=>(arrOf st).map (·.2)
   if let some e:=failedOf st then rule "list.sort.comparison-raised";throw e
   if touched then rule "list.sort.modified";raiseError "ValueError" "list modified during sort"
   ret .none) P E {s with heap:=((s.heap.update a (Obj.mapSeq λ_=>(#[]:Array Value))).push (seqObj "tuple" vs.toArray 0)).push (seqObj "list" #[] 0)}:=λst f ok=>by
  refine Gab (seqEpoch_at e2 rfl (Gab (listUpdate_at e2 rfl ?_ (GaT _) (by rw[len _ ok];omega))))
  rw[f]
  wp_walk
  exact h _ ok
 by_cases c:vs.length<2
 ·have c' :vs.toArray.size<2:=by simpa using c
  rw[Gag c',Gag c']
  refine Gab (Gae (Gab (Gae (last (SortSt.mk' general' (vs.toArray.zip vs.toArray) #[] 7 none) rfl ?_))))
  show Ok ((vs.toArray.zip vs.toArray).map (·.2))
  rw[wz]
  exact one c
 ·have c' :¬vs.toArray.size<2:=by simpa using c
  rw[Gaf c',Gaf c']
  refine Gab (on (big _ (λb o n q=>Gad _ (Gad _ ((GbB _ _ (Gbl n)).trans q))) (by omega)) λκ s1 q=>Gab (on q ?_))
  rintro⟨⟨⟩,st⟩ s2 ⟨rfl,f,ok⟩
  exact last st f ok
noncomputable def cY(cs:List (List (List Int)))(vs:List Value)(out:Array Value):Prop:=∃p:Array Nat,Ord vs.length p∧Up (rank cs) p vs.length∧out=List.toArray (p.toList.map λi=>vs.getD i Value.none)
theorem cY.len{cs:List (List (List Int))}{vs:List Value}{out:Array Value}(x:cY cs vs out):out.size=vs.length:=by
 obtain⟨p,h1,_,rfl⟩:=x
 rw[Gas,Gan,GaE,h1.size]
theorem cY.one{cs:List (List (List Int))}{vs:List Value}(c:vs.length<2):cY cs vs vs.toArray:=by
 refine⟨List.toArray (List.range vs.length),List.Perm.refl _,λu v q r=> ?_, ?_⟩
 ·rw[show u=v by omega];exact Gbo _
 ·rcases vs with _| ⟨x,_| ⟨y,t⟩⟩
  ·rfl
  ·rfl
  ·exact absurd c (by simp)
noncomputable def jd(prog:Program)(w:World)(A:Around)(E:Value→Shared→Prop)(s:Shared)(cs:List (List (List Int)))(vs:List Value):Prop:=
 2≤vs.length→∀Q:SortKind→Shared→Prop,(∀κ,(∀i j C,i<vs.length→j<vs.length→C (decide (rank cs i<rank cs j)) s→kas_ask prog w A κ vs i j C s)→Q κ s)→wpAny (model prog w) A (keyKind' vs.toArray) Q E s
theorem ir{a:Addr}{vs:List Value}{cs:List (List (List Int))}{n:Nat}{P:PySem.Fin→Shared→Prop}(ho:s.heap.get? a=some (seqObj "list" vs.toArray n))(h64:vs.length<64)
  (hK:∀G:Heap,(∀b o,b≠a→s.heap.get? b=some o→G.get? b=some o)→jd prog w A E {s with heap:=G} cs vs)
  (h:∀p:Array Nat,Ord vs.length p→Up (rank cs) p vs.length→P (.done (.ret .none)) {s with heap:=sortedHeap s.heap a vs (List.toArray (p.toList.map λi=>vs.getD i Value.none))}):wpAny (model prog w) A (Builtin.«list.sort» ⟨[.ref a],[]⟩) P E s:=by
 refine lU (Ok:=cY cs vs) ho (by rw[Gbw];omega) cY.one (λ_ q=>q.len) (λG kp c=>hK G kp c _ λκ hκ=> ?_) λ_ ⟨p,h1,h2,e⟩=>e▸h p h1 h2
 refine GbS (kat_run (E:=E) (Q:=λst s2=>s2={s with heap:=G}∧failedOf st=none∧cY cs vs ((arrOf st).map (·.2))) (G:=λp s' =>s' ={s with heap:=G}∧Ord vs.length p∧Up (rank cs) p vs.length) rfl (by omega) h64 (λp st s' q1 q2 q3 q4=> ?_) (Asks.wp (s:={s with heap:=G}) (λi j C hi hj=>hκ i j C hi hj) (λp hp=> ⟨rfl,hp.1,hp.2⟩) _ (Bi (by omega)))) (λr s' q=>q) λ_ _ e=>e
 exact⟨q4.1,q3,p,q4.2.1,q4.2.2,kat_snds rfl q2⟩
theorem oN{a:Addr}{vs:List Value}{ds:List D}{n:Nat}{P:PySem.Fin→Shared→Prop}(ho:s.heap.get? a=some (seqObj "list" vs.toArray n))(h64:vs.length<64)(hK:Paired (ic s.heap) ds vs)(hok:keysOk ds=true)
  (h:∀p:Array Nat,Ord vs.length p→Up (rank (ds.map code)) p vs.length→P (.done (.ret .none)) {s with heap:=sortedHeap s.heap a vs (List.toArray (p.toList.map λi=>vs.getD i Value.none))}):wpAny (model prog w) A (Builtin.«list.sort» ⟨[.ref a],[]⟩) P E s:=by
 have hl:=hK.length
 refine ir ho h64 (λG kp c Q q=> ?_) h
 have one:∀{d:D} {v:Value},ic s.heap d v→ic G d v:=λ{d v} k=>by
  cases d with
  |tup fs=>
   obtain⟨b,o,m,us,h1,h2,h3,h4⟩:=k
   refine⟨b,o,m,us,h1,kp b o (λz=> ?_) h2,h3,h4⟩
   rw[z,ho] at h2
   cases h2
   exact absurd h3 (by simp[seqObj])
  |_=>exact k
 have hKG:=gF (λ_ _=>one) hK
 exact uC (s:={s with heap:=G}) hKG hok (by omega) λκ hκ=>q κ λi j C hi hj hc=>wx (s:={s with heap:=G}) hKG hok hκ i j C (by omega) (by omega) hc
theorem q8{l:Addr}{o:Obj}{vs:List Value}{n:Nat}{T:String}{Q:List Value→Shared→Prop}(ho:s.heap.get? l=some o)(hc:o.cls= .type T)(hT:T="list"∨T="tuple")(hd:o.data= .seq vs.toArray n)
  (h:Q vs {s with heap:=(s.heap.push (seqObj "list" #[] 0)).update s.heap.objs.size (Obj.mapSeq (· ++vs.toArray))})(hsz:vs.length≤sizeLine):wpAny (model prog w) A (collect (.ref l)) Q E s:=by
 have e0:(s.heap.push (seqObj "list" #[] 0)).get? s.heap.objs.size=some (seqObj "list" #[] 0):=Gaw _ rfl
 have el:=Gad (seqObj "list" #[] 0) ho
 have up:(#[]++vs.toArray:Array Value)=vs.toArray:=by simp
 have ek:((s.heap.push (seqObj "list" #[] 0)).update s.heap.objs.size (Obj.mapSeq (· ++vs.toArray))).get? s.heap.objs.size=some (seqObj "list" (#[]++vs.toArray) _):=get?_update_seq e0 _
 rw[up] at ek
 refine gather λR r=> ?_
 have c:(Builtin.List.listSameRef (.ref s.heap.objs.size) (.ref l)||Value.type T== .type "list"||Value.type T== .type "tuple")=true:=by rcases hT with rfl|rfl<;>rw[GaZ,GaZ]<;>simp
 exact Gab (wpAny_typeOf ⟨o,el,hc⟩ (wpAny_ite_true (by rw[c];rfl) (Gab (listItems_at el hd (Gab (listItems_at e0 rfl (GbX (by simp) (Gab (listUpdate_at e0 rfl (Gae (r _ vs.toArray _ ek h)) (GaT _) (by rw[up,Gas];omega))))))))))
end
section
variable{X:Cx}
theorem Fz{K:aa}{F:Addr→Prop}{H:Hp}{d:D}{v:V}{u:Value}(r:Rep K F H d v)(hf:ff d=true)(ru:RelV v u):FlV d u:=by
 cases r<;>simp[ff,tyD] at hf
 ·cases ru;rfl
 ·exact ru
 ·exact ru
theorem rB{K:aa}{F:Addr→Prop}{H:Hp}:∀{ds:List D} {vs:List V} {us:List Value},aq K F H ds vs→ds.all ff=true→Vals vs us→Paired FlV ds us
 |[],vs,us,r,_,ru=>by
  have:=r.bD
  subst this
  cases ru
  exact .nil
 |d::ds,vs,us,r,hf,ru=>by
  obtain⟨v,w,rfl,h1,h2⟩:=r.cons_inv
  rw[Gbv,Gal] at hf
  cases ru with
  |cons r1 r2=>exact .cons (Fz h1 hf.1 r1) (rB h2 hf.2 r2)
noncomputable def isKey(d:D):Bool:=match d with
 | .int _=>true
 | .tup fs=>fs.all ff
 |_=>false
theorem jD{pins:List (Addr×Obj)}{σ:St}{F:Addr→Prop}{H:Hp}{s:Shared}{d:D}{v:V}{u:Value}(I:Inv X pins σ H s)(r:Rep X.K F H d v)(hk:isKey d=true)(ru:RelV v u):ic s.heap d u:=by
 cases r<;>simp[isKey] at hk
 ·exact ru
 ·rename_i a vs fs h l r
  cases ru
  obtain⟨its,rv,⟨o,h1,h2,n,h3⟩,_⟩:=I.tuple (SqT.of h)
  exact⟨a,o,n,its,rfl,h1,h2,h3,rB ⟨l,r⟩ (Gao.mpr hk) rv⟩
theorem t8{pins:List (Addr×Obj)}{σ:St}{F:Addr→Prop}{H:Hp}{s:Shared}(I:Inv X pins σ H s):∀{ds:List D} {vs:List V} {us:List Value},aq X.K F H ds vs→ds.all isKey=true→Vals vs us→Paired (ic s.heap) ds us
 |[],vs,us,r,_,ru=>by
  have:=r.bD
  subst this
  cases ru
  exact .nil
 |d::ds,vs,us,r,hf,ru=>by
  obtain⟨v,w,rfl,h1,h2⟩:=r.cons_inv
  rw[Gbv,Gal] at hf
  cases ru with
  |cons r1 r2=>exact .cons (jD I h1 hf.1 r1) (t8 I h2 hf.2 r2)
theorem wA{ds:List D}(h:keysOk ds=true):ds.all isKey=true:=by
 unfold keysOk at h
 rw[GaZ,Gal,GaZ] at h
 refine Gao.mpr λd hd=> ?_
 have tup:∀t,t≠3→ds.all (fq t)=true→isKey d=true:=λt ht hk=>by
  obtain⟨f,r,rfl,_,q1⟩:=fS ht (Gao.mp hk d hd)
  exact q1
 rcases h with h| ⟨h|h,_⟩
 ·obtain⟨i,rfl⟩:=fw (Gao.mp h d hd);rfl
 ·exact tup 1 (by decide) h
 ·exact tup 2 (by decide) h
theorem range_getD{α:Type}{xs:List α}{d:α}:(List.range xs.length).map (λi=>xs.getD i d)=xs:=by
 apply GcY
 ·simp
 ·intro i h1 h2
  simp[h2]
theorem cI{α:Type}{xs:List α}{d:α}{p:Array Nat}(h:Ord xs.length p):(p.toList.map λi=>xs.getD i d).Perm xs:=by
 have:=List.Perm.map (λi=>xs.getD i d) h
 rw[range_getD] at this
 exact this
theorem oO{n:Nat}{p:Array Nat}(h:Ord n p){i:Nat}(hi:i<p.toList.length):p.toList[i]<n:=GaO.mp (h.mem_iff.mp (GaN hi))
theorem rC{ds:List D}{p:Array Nat}(h:Ord ds.length p)(hu:Up (rank (ds.map code)) p ds.length):fM (p.toList.map λi=>ds.getD i .non):=by
 refine GbQ.mpr λi j hi hj hij=> ?_
 rw[Gan] at hi hj
 rw[GbM,GbM]
 have bi:=oO h hi
 have bj:=oO h hj
 have hs:=h.size
 have hi' :i<p.size:=by simpa using hi
 have hj' :j<p.size:=by simpa using hj
 have u:=hu i j (Gcq hij) (by omega)
 unfold b4 at u
 have ei:p.getD i 0=p.toList[i]:=by simp[Array.getD,hi']
 have ej:p.getD j 0=p.toList[j]:=by simp[Array.getD,hj']
 rw[ei,ej] at u
 have r:=kM (cs:=ds.map code) (i:=p.toList[j]) (j:=p.toList[i]) (by simpa using bj) (by simpa using bi)
 rw[GaD (GcW.mpr u)] at r
 simp only[GbM] at r
 have gd:∀{k:Nat} (hk:k<ds.length),ds.getD k .non=ds[k]:=λ{k} hk=>by simp[hk]
 have gi:=gd bi
 have gj:=gd bj
 rw[gi,gj]
 exact r.symm
theorem lV{K:aa}{F:Addr→Prop}{H:Hp}{ds:List D}{vs:List V}{p:Array Nat}(h:Ord ds.length p)(r:aq K F H ds vs):aq K F H (p.toList.map λi=>ds.getD i .non) (p.toList.map λi=>vs.getD i .non):=by
 refine⟨by simp,λi d v e1 e2=> ?_⟩
 rw[Gav] at e1 e2
 cases q:p.toList[i]? with
 |none=>rw[q] at e1;cases e1
 |some k=>
  rw[q] at e1 e2
  have hk:k<ds.length:=GaO.mp (h.mem_iff.mp (GaJ q))
  have hk2:k<vs.length:=by rw[←r.1];exact hk
  cases e1;cases e2
  exact r.2 k _ _ (by simp[hk]) (by simp[hk2])
theorem lW{vs:List V}{us:List Value}{p:Array Nat}(h:Ord vs.length p)(r:Vals vs us):Vals (p.toList.map λi=>vs.getD i .non) (p.toList.map λi=>us.getD i Value.none):=by
 have hl:=r.length
 have all:∀(l:List Nat),(∀i∈l,i<vs.length)→Vals (l.map λi=>vs.getD i .non) (l.map λi=>us.getD i Value.none):=by
  intro l
  induction l with
  |nil=>intro _;exact .nil
  |cons i l ih=>
   intro hm
   have hi:=hm i Gap
   obtain⟨u,hu,ru⟩:=r.get (x:=vs[i]) (i:=i) (by simp[hi])
   refine .cons ?_ (ih λj hj=>hm j (Gai _ hj))
   have e1:vs.getD i .non=vs[i]:=by simp[hi]
   have e2:us.getD i Value.none=u:=by simp[hu]
   show RelV (vs.getD i .non) (us.getD i Value.none)
   rw[e1,e2];exact ru
 exact all _ λi hi=>GaO.mp (h.mem_iff.mp hi)
end
open PySem PySem.Spec PyProof.Rows L2
open PySem PySem.Spec PyProof.Rows L2
section
variable{X:Cx}{e a b c:Expr}{f g h:DE}{pos:Pos}
noncomputable def FA(neg:Bool):R2:=λx y H Q=>∃a o,y= .ref a∧r9 H a x o∧Q (.bl (if neg then !o.isSome else o.isSome)) H
theorem rD(hu:X.A.units+1<cLine):OpR X (compareOp .NotIn) (FA true):=by
 intro pins s σ H x y v u Q I rx ry h
 obtain⟨p,o,rfl,g,q⟩:=h
 cases ry
 exact AQ hu I g rx λs' I' => ⟨.bl (!o.isSome),H,I',rfl,q⟩
theorem Bm{K:aa}{F:Addr→Prop}{H:Hp}:∀(n:Nat) {d d' :D} {v:V},a9 n d=true→a9 n d' =true→Rep K F H d v→Rep K F H d' v→d=d' :=by
 have go:∀(n:Nat) {ds ds' :List D} {vs:List V},(∀{d d' :D} {v:V},a9 n d=true→a9 n d' =true→Rep K F H d v→Rep K F H d' v→d=d')→ds.all (a9 n)=true→ds'.all (a9 n)=true→aq K F H ds vs→aq K F H ds' vs→ds=ds' :=by
  intro n ds ds' vs ih
  induction ds generalizing ds' vs with
  |nil=>
   intro _ _ r r'
   have e:=r.bD
   subst e
   exact(Gcb r'.1).symm
  |cons d ds ih2=>
   intro p p' r r'
   obtain⟨v,w,rfl,h1,h2⟩:=r.cons_inv
   cases ds' with
   |nil=>cases r'.1
   |cons d' ds' =>
    obtain⟨v',w',e,h1',h2'⟩:=r'.cons_inv
    cases e
    rw[Gbv,Gal] at p p'
    rw[ih p.1 p'.1 h1 h1',ih2 p.2 p'.2 h2 h2']
 intro n
 induction n with
 |zero=>
  intro d d' v p p' r r'
  cases r<;>simp at p<;>cases r' <;>simp at p' <;>rfl
 |succ n ih=>
  intro d d' v p p' r r'
  cases r with
  |non=>cases r';rfl
  |bl b=>cases r';rfl
  |int i=>cases r';rfl
  |str x=>cases r';rfl
  |tup h l r=>
   cases r' with
   |tup h' l' r' =>
    rw[h] at h';cases h'
    rw[go n ih (by simpa using p) (by simpa using p') ⟨l,r⟩ ⟨l',r'⟩]
   |lst f' h' l' r' =>
    rcases h' with h' | ⟨o,h'⟩
    ·rw[h] at h';cases h'
    ·rw[h] at h';cases h'
   |_=>simp at p'
  |lst f h l r=>
   cases r' with
   |lst f' h' l' r' =>
    have e:∀{a:Addr} {u w:List V},Rd H a (.lst u)→Rd H a (.lst w)→u=w:=by
     intro a u w h1 h2
     rcases h1 with h1| ⟨o,h1⟩<;>rcases h2 with h2| ⟨o',h2⟩<;>rw[h1] at h2<;>cases h2<;>rfl
    have ee:=e h h'
    subst ee
    rw[go n ih (by simpa using p) (by simpa using p') ⟨l,r⟩ ⟨l',r'⟩]
   |tup h' l' r' =>
    rcases h with h| ⟨o,h⟩
    ·rw[h] at h';cases h'
    ·rw[h] at h';cases h'
   |_=>simp at p'
  |_=>simp at p
noncomputable def FC:Value→V
 | .bool b=> .bl b
 | .int i _=> .int i
 | .str x _=> .str x
 | .bytes b _=> .byt b
 | .float b _=> .flt b
 | .ref a=> .ref a
 | .type n=> .ty n
 |_=> .non
theorem q9{v:V}{u:Value}(h:RelV v u):FC u=v:=by
 cases v<;>first|(obtain⟨t,rfl⟩:=h;rfl)|(have h' :=h;unfold RelV at h';subst h';rfl)
theorem wB{v v' :V}{u:Value}(h:RelV v u)(h' :RelV v' u):v=v' :=(q9 h).symm.trans (q9 h')
noncomputable def FD(K:aa)(neg:Bool):R2:=λx y H Q=>∃p xs dx ds,y= .ref p∧(SqL K H p xs∨SqT K H p xs)∧a9 10 dx=true∧ds.all (a9 10)=true∧Rep K (λ_=>True) H dx x∧aq K (λ_=>True) H ds xs∧Q (.bl (if neg then !ds.any (λy=>eqD y dx) else ds.any (λy=>eqD y dx))) H
theorem qa{pins:List (Addr×Obj)}{σ:L2.St}{H:Hp}{z:Shared}(I:Inv X pins σ H z)(hu:X.A.units+20<cLine){xs:List V}{its:List Value}{dx:D}{ds:List D}{x:V}{v:Value}(r:Vals xs its)(hx:a9 10 dx=true)(hs:ds.all (a9 10)=true)
  (rx:Rep X.K (λ_=>True) H dx x)(rs:aq X.K (λ_=>True) H ds xs)(rv:RelV x v):∃ev:Value→Bool,(∀w∈its,SeqAt.EqAt X.A.in1 z w v (ev w))∧its.any ev=ds.any λy=>eqD y dx:=by
 classical
 have hll:=r.length
 have tri:∀(i:Nat) (w:Value),its[i]? =some w→∃d u,ds[i]? =some d∧xs[i]? =some u∧RelV u w∧Rep X.K (λ_=>True) H d u∧a9 10 d=true:=λi w hw=>by
  have hi:i<its.length:=(Gac.mp hw).1
  have hd:ds[i]? =some (ds[i]'(by rw[rs.1,hll];exact hi)):=Gaa _
  obtain⟨u,hu1,hu2⟩:=rs.get hd
  obtain⟨w',hw1,hw2⟩:=r.get hu1
  rw[hw] at hw1;cases hw1
  exact⟨_,u,hd,hu1,hw2,hu2,Gao.mp hs _ (GaJ hd)⟩
 refine⟨λw=>decide (∃(i:Nat) (d:D),its[i]? =some w∧ds[i]? =some d∧eqD d dx=true),λw hw=> ?_, ?_⟩
 ·obtain⟨i,hi⟩:=List.getElem?_of_mem hw
  obtain⟨d,u,h1,h2,h3,h4,h5⟩:=tri i w hi
  have key:decide (∃(i:Nat) (d:D),its[i]? =some w∧ds[i]? =some d∧eqD d dx=true)=eqD d dx:=by
   cases q:eqD d dx with
   |true=>exact GaB ⟨i,d,hi,h1,q⟩
   |false=>
    refine GaD ?_
    rintro⟨j,d',g1,g2,g3⟩
    obtain⟨d2,u2,k1,k2,k3,k4,k5⟩:=tri j w g1
    rw[g2] at k1;cases k1
    have eu:=wB h3 k3
    subst eu
    rw[Bm 10 h5 k5 h4 k4] at q
    rw[q] at g3;cases g3
  show SeqAt.EqAt X.A.in1 z w v (decide _)
  rw[key]
  exact j6 I 10 h5 hx h4 rx h3 rv (by show X.A.units+1+10<_;omega)
 ·rw[Gdf,Gcg,Gcg]
  constructor
  ·rintro⟨w,hw,e⟩
   obtain⟨i,d,_,h2,h3⟩:=GaG e
   exact⟨d,GaJ h2,h3⟩
  ·rintro⟨d,hd,e⟩
   obtain⟨i,hi⟩:=List.getElem?_of_mem hd
   have hl:i<its.length:=by rw[←hll,←rs.1];exact(Gac.mp hi).1
   exact⟨its[i],GaN hl,GaB ⟨i,d,Gaa hl,hi,e⟩⟩
theorem Bn(hu:X.A.units+20<cLine):OpR X (compareOp .NotIn) (FD X.K true):=by
 intro pins z σ H x y v u Q I rx ry h
 obtain⟨p,xs,dx,ds,rfl,hq,fx,fs,r1,r2,q⟩:=h
 cases ry
 rcases hq with hq|hq
 ·obtain⟨its,r,pl,hz⟩:=I.list hq
  obtain⟨ev,e1,e2⟩:=qa I hu r fx fs r1 r2 rx
  refine SeqAt.notIn_listAt ev pl.isList (λw hw=>e1 w (by simpa using hw)) ⟨.bl _,H,I,rfl, ?_⟩
  rw[show its.toArray.any ev=its.any ev by simp,e2]
  exact q
 ·obtain⟨its,r,pl,hz⟩:=I.tuple hq
  obtain⟨ev,e1,e2⟩:=qa I hu r fx fs r1 r2 rx
  refine SeqAt.notIn_tupleAt ev pl (λw hw=>e1 w (by simpa using hw)) ⟨.bl _,H,I,rfl, ?_⟩
  rw[show its.toArray.any ev=its.any ev by simp,e2]
  exact q
noncomputable def Bo(K:aa)(neg:Bool):R2:=λx y H Q=>FD K neg x y H Q∨FA neg x y H Q
theorem t9(hu:X.A.units+20<cLine):OpR X (compareOp .NotIn) (Bo X.K true):=(Bn hu).or (rD (by omega))
theorem Bp{neg:Bool}{F:Addr→Prop}{H:Hp}{dx dy:D}{x y:V}{b:Bool}{Q:VK}(ix:Inn X.K F H dx x)(iy:Inn X.K F H dy y)(e:inB dx dy=some b)(q:Q (.bl (if neg then !b else b)) H):Bo X.K neg x y H Q:=by
 have seq:∀{ds:List D} {p:Addr} {vs:List V},y= .ref p→(SqL X.K H p vs∨SqT X.K H p vs)→aq X.K F H ds vs→sJ dx ds=some b→Bo X.K neg x y H Q:=λ{ds p vs} ey hs r hb=>by
  unfold sJ at hb
  split at hb
  ·rename_i c
   rw[Gal] at c
   cases hb
   exact .inl ⟨p,vs,dx,ds,ey,hs,c.1,c.2,ix.any,⟨r.1,λi d v e1 e2=>(r.2 i d v e1 e2).inn.any⟩,q⟩
  ·cases hb
 unfold inB at e
 split at e
 ·obtain⟨k,hk,rfl⟩:=Gah.mp e
  obtain⟨g1,g2⟩:=kO iy ix
  obtain⟨p,ws,ey,r,g⟩:=g1 _ k rfl hk
  refine .inr ⟨p,_,ey,g, ?_⟩
  rename_i kvs
  have:(i9 ws k).isSome=(look kvs k).isSome:=by
   cases z:look kvs k with
   |none=>rw[jJ r z];rfl
   |some d=>obtain⟨v,h1,_⟩:=gB r z;rw[h1];rfl
  rw[this];exact q
 ·split at e
  ·rename_i _ kvs _ ks
   obtain⟨k,hk,rfl⟩:=Gah.mp e
   obtain⟨g1,g2⟩:=kO iy ix
   obtain⟨p,ws,ey,r,g⟩:=g2 _ _ k rfl rfl hk
   refine .inr ⟨p,_,ey,g, ?_⟩
   have:(i9 ws k).isSome=(look kvs k).isSome:=by
    cases z:look kvs k with
    |none=>rw[jJ r z];rfl
    |some d=>obtain⟨v,h1,_⟩:=gB r z;rw[h1];rfl
   rw[this];exact q
  ·cases e
 ·cases iy with
  |lst h r=>exact seq rfl (.inl (.inl h)) r e
 ·cases iy with
  |tup h r=>exact seq rfl (.inr (SqT.of h)) r e
 ·cases e
theorem tf:OpB X pM (Bo X.K true):=λF H dx dy x y b Q ix iy e q=>by
 obtain⟨b',e',rfl⟩:=Gah.mp e
 exact Bp (neg:=true) ix iy e' q
end
open PySem PySem.Spec PyProof.Rows L2
namespace Fr
end Fr
noncomputable def Hm(h:Heap)(it a:Addr)(i:Int):Prop:=∃o,h.get? it=some o∧o.cls= .type "reversed"∧o.data= .fields #[.ref a,rawInt i]
open PySem PySem.Spec PyProof.Rows L2
section
variable{X:Cx}{e a b c:Expr}{f g h:DE}{pos:Pos}
theorem wC{xs:List V}{its:List Value}(r:Vals xs its){x:V}{u:Value}(hx:RelV x u)(j:Int):Vals (dW xs j x) (PySem.W.kl_ins its j u):=by
 have hl:=r.length
 unfold dW PySem.W.kl_ins
 rw[hl]
 have tk:∀{xs:List V} {its:List Value} (r:Vals xs its) (n:Nat),Vals (xs.take n) (its.take n):=by
  intro xs its r
  induction r with
  |nil=>intro n;simp;exact .nil
  |cons h t ih=>intro n;cases n with
   |zero=>exact .nil
   |succ n=>exact .cons h (ih n)
 have dr:∀{xs:List V} {its:List Value} (r:Vals xs its) (n:Nat),Vals (xs.drop n) (its.drop n):=by
  intro xs its r
  induction r with
  |nil=>intro n;simp;exact .nil
  |cons h t ih=>intro n;cases n with
   |zero=>exact .cons h t
   |succ n=>exact ih n
 exact(tk r _).append (.cons hx (dr r _))
noncomputable def Bq:V→List V→Hp→VK→Prop:=λx vs H Q=>∃l xs j y,x= .ref l∧vs=[.int j,y]∧H l=some (.lst xs)∧xs.length<sizeLine∧-(2^62)≤j∧j<2^62∧Q .non (upd H l (.lst (dW xs j y)))
theorem uD:MtM X "list.insert" Bq:=by
 intro pins z σ H x vs v us Q I rx rv h
 obtain⟨l,xs,j,y,rfl,rfl,hH,hz,h1,h2,q⟩:=h
 cases rx
 cases rv with
 |cons r1 t1=>
  cases t1 with
  |cons r2 t2=>
   cases t2
   obtain⟨t,rfl⟩:=r1
   rename_i u
   obtain⟨_,its,n,r,hl,e⟩:=I.AN hH
   have hfit:Builtin.List.listFitsIndex j=true:=by simp[Builtin.List.listFitsIndex];omega
   refine call_meets F.slot_list_insert ⟨_,e,rfl⟩ F.entry_list_insert (F.args_list_insert_3 _ _ _) (PySem.AutoSeq1.list_insert_list_int_val_1 l its.toArray n j t u (by simp[hfit]) (by rw[Gas];omega)) ⟨e, ?_⟩
   refine⟨.non,_,I.AM (its' :=PySem.W.kl_ins its j u) hH e ?_ (wC r r2 j) ?_,rfl,q⟩
   ·show(its.toArray.extract 0 _).push u++its.toArray.extract _=_
    rw[PySem.W.kl_ins_eq]
    simp only[Gas]
    rfl
   ·rw[uq];omega
theorem iN{α β:Type}{F:α→β→Prop}:∀{xs:List α} {ys:List β},xs.length=ys.length→(∀(i:Nat) x y,xs[i]? =some x→ys[i]? =some y→F x y)→Paired F xs ys
 |[],[],_,_=> .nil
 |[],_::_,h,_=>by cases h
 |_::_,[],h,_=>by cases h
 |x::xs,y::ys,h,g=> .cons (g 0 x y rfl rfl) (iN (by simpa using h) λi a b ha hb=>g (i+1) a b (by simpa using ha) (by simpa using hb))
theorem lX{K:aa}{F:Addr→Prop}{H:Hp}{α:Type}{dd:α→D}{vv:α→V}(h:∀n,Rep K F H (dd n) (vv n)):∀{l:List α},aq K F H (l.map dd) (l.map vv)
 |[]=> .nil
 |x::l=> .cons (h x) (lX h)
theorem uE{b:List Stmt}:gz X b oy:=by
 rintro pins z σ H D I ⟨H₀,Bad,env,o,E,e,k⟩
 cases e
end
noncomputable def FE(op:CmpOp)(A:Around)(z:Shared)(x y:Value)(r:Bool):Prop:=∀(prog:Program) (w:World) (E:Value→Shared→Prop) (Q:Value→Shared→Prop),Q (.bool r) z→wpAny (model prog w) A (richCompare op x y) Q E z
noncomputable def Ans(op:CmpOp)(A:Around)(z:Shared)(fin:Bool):List (Value×Value)→Bool→Prop
 |[],r=>r=fin
 |(x,y)::ps,r=>∃b,SeqAt.EqAt A z x y b∧((b=true∧Ans op A z fin ps r)∨(b=false∧FE op A z x y r))
theorem rE(l b:Addr)(items items2:Array Value)(n n2:Nat)(dd dd2:Option Addr)(sl sl2:Array (Option Value))(r:Bool):
  Meets (Builtin.«tuple.__lt__» ⟨[.ref l,.ref b],[]⟩)
   (λA R z=>z.heap.get? l=some {cls:= .type "tuple",dict:=dd,data:= .seq items n,slots:=sl}∧z.heap.get? b=some {cls:= .type "tuple",dict:=dd2,data:= .seq items2 n2,slots:=sl2}∧
    Ans .Lt A.in1 z (decide (items.size<items2.size)) (items.toList.zip items2.toList) r∧R (.ok (.ret (.bool r))) z):=
 .of_wp λprog w A R z h=>by
  obtain⟨hp,g,d,tk,os⟩:=z;obtain⟨hl,hb,he,h⟩:=h
  have f2:=AutoSeq1.sub_tuple_tuple
  wp_walk using AutoSeq1.wpAny_loadPart' hl,AutoSeq1.wpAny_loadPart' hb,wpAny_forIn_list _ (λrest b s' =>b.1=none∧s' =⟨hp,g,d,tk,os⟩∧Ans .Lt A.in1 ⟨hp,g,d,tk,os⟩ (decide (items.size<items2.size)) rest r) _
  case turn=>
   rintro⟨y,x⟩ rest b s' ⟨hb',rfl,c,ec,hc⟩
   refine Gab (ec prog w _ _ ?_)
   rcases hc with⟨rfl,hc⟩| ⟨rfl,hc⟩
   ·wp_walk
    exact⟨rfl,rfl,hc⟩
   ·have hc' :∀(E:Value→Shared→Prop) (Q:Value→Shared→Prop),Q (.bool r) ⟨hp,g,d,tk,os⟩→wpAny (model prog w) A.in1 (richCompare .Lt y x) Q E ⟨hp,g,d,tk,os⟩:=λE Q hq=>hc prog w E Q hq
    wp_walk using hc' _ _
    exact⟨_,rfl,h⟩
  case fin=>
   rintro⟨b1,b2⟩ s' ⟨hb',rfl,hR⟩
   simp only at hb'
   subst hb'
   wp_walk
   have hR' :r=decide (items.size<items2.size):=hR
   exact⟨_,rfl,by rw[hR'] at h;simpa[Builtin.Tuple.tupleCompareSizes] using h⟩
  case h=>exact⟨rfl,rfl,he⟩
theorem FF{A:Around}{z:Shared}{l b:Addr}{its its2:Array Value}{r:Bool}(hl:z.heap.IsTuple l its)(hb:z.heap.IsTuple b its2)(hu:A.units<cLine)(he:Ans .Lt A.in1 z (decide (its.size<its2.size)) (its.toList.zip its2.toList) r):FE .Lt A z (.ref l) (.ref b) r:=λprog w E Q h=>by
 obtain⟨⟨cls,dd,data,sl⟩,ho,hc,n,hd⟩:=id hl
 obtain⟨⟨cls2,dd2,data2,sl2⟩,ho2,hc2,n2,hd2⟩:=id hb
 simp only at hc hd hc2 hd2
 subst hc hd hc2 hd2
 exact richCompare_meets_room (op:= .Lt) ⟨_,ho,rfl⟩ ⟨_,ho2,rfl⟩ F.slot_tuple_lt F.entry_tuple_lt (F.args_tuple_lt_2 _ _) (rE l b its its2 n n2 dd dd2 sl sl2 r) ⟨ho,ho2,he,show Value.bool r≠Value.notImplemented∧Q (.bool r) z from⟨(λx=>nomatch x),h⟩⟩ hu
section
variable{prog:Program}{w:World}{A:Around}{E:Value→Shared→Prop}{z:Shared}
theorem wD{d:Addr}{es:Array DictEntry}{ep:Nat}{Q:Value→Shared→Prop}(hd:(d==sysModules)=false)(hm:fu z.heap d es ep)
  (hQ:Q (.ref z.heap.objs.size) {z with heap:=z.heap.push {cls:= .type "dict_keyiterator",data:= .fields #[.ref d,.int 0 0,.int es.size 0,.int ep 0]}}):wpAny (model prog w) A (pyIter (.ref d)) Q E z:=by
 have hT:=hm.ty
 apply Gdr hT F.slot_dict_iter
 apply Gba F.slot_dict_iter hT F.entry_dict_iter (ha:=F.args_dict_iter_1 _)
 wp_walk using wpAny_notOrdered_dict hT,oJ hm,sZ hm,GbY
 ·exact⟨_,rfl,_,_,⟨_,Gaw _ rfl,rfl⟩,GcR.lookup,hQ⟩
 ·size_fits
theorem qc{it d:Addr}{i ep:Nat}{es:Array DictEntry}{Q:Option Value→Shared→Prop}(hh:A.handled=none)(hit:z.heap.IsKeyIter it d i es.size ep)(hm:fu z.heap d es ep)
  (hQ:∀e h',es[i]? =some e→h'.IsKeyIter it d (i+1) es.size ep→Heap.SameBut it z.heap h' →Q (some e.key) {z with heap:=h' })(hE:∀h',es.size≤i→Heap.ExtBut it z.heap h' →Q none {z with heap:=h' }):
  wpAny (model prog w) A (pyNext (.ref it)) Q E z:=by
 have hT:=hit.typeIs
 have hf:FO z.heap it _ _:=hit
 wp_walk using GbG hT GcR,Gba GcR hT F.entry_dict_keyiterator_next (ha:=F.args_dict_keyiterator_next_1 _),oJ hm,sZ hm,lR hf,GcE hT
 rw[C6]
 cases h:es[i]? with
 |some e=>
  wp_walk using GcE hT,wpAny_isOneOf_keyiter hT,cV hf
  ·rintro h' ⟨f,hs⟩
   wp_walk using wpAny_isOneOf_keyiter f.ty
   exact⟨_,rfl,Gae (hQ e h' h f hs)⟩
  ·show _<4;decide
 |none=>
  wp_walk using GcE hT,cV hf
  ·rintro h' ⟨f,hs⟩
   refine wq hh λh2 a k=>Gab (oK k.2 (Gae (hE h2 (by simpa using h) λb o n e=>k.1 b o (hs.extBut b o n e))))
  ·show _<4;decide
theorem uF(hh:A.handled=none)(I d:Addr)(hne:d≠I)(es:Array DictEntry)(ep:Nat):Walks prog w A I [I,d] [I] es.size (λi v=>∃e,es[i]? =some e∧v=e.key) (λi h=>h.IsKeyIter I d i es.size ep∧fu h d es ep):=by
 have out:∀{b:Addr},b∉[I]→b≠I:=λh e=>h (e▸List.mem_singleton_self _)
 refine⟨by simp,λi h h' st k=> ⟨let⟨o,q,r⟩:=st.1;⟨o,k I (by simp) o q,r⟩,st.2.at (k d (by simp))⟩,λi z Q E hi st hQ=> ?_,λz Q E st hQ=> ?_,λ_ _ _ _ st q=>wpAny_pyIter_keyiter st.1 q⟩
 ·exact qc hh st.1 st.2 (λe h' h f s=>hQ _ h' z.toks ⟨e,h,rfl⟩ ⟨f,st.2.at λo=>s.extBut d o hne⟩ λb o hb=>s.extBut b o (out hb)) λ_ h=>absurd hi (Nat.not_lt.mpr h)
 ·exact qc hh st.1 st.2 (λe h' h=>absurd (Gbi.mp h).1 (Gbb _)) λh' _ s=>hQ h' z.toks λb o hb=>s b o (out hb)
theorem rF{R:Result→Shared→Prop}{d:Addr}{es:Array DictEntry}{ep:Nat}(hh:A.handled=none)(hds:(d==sysModules)=false)(hm:fu z.heap d es ep)(hlen:es.size≤sizeLine)(S:Addr)(res:Value)(hS:Emp z.heap S)(hSd:S≠d)
  (hR:∀h' tk acc' c',(∀b o,b≠S→z.heap.get? b=some o→h'.get? b=some o)→h'.get? S=some {cls:= .type "list",dict:=none,data:= .seq acc' c',slots:=#[]}→ItemsOf (λi v=>∃e,es[i]? =some e∧v=e.key) acc' es.size→R (.ok (.ret res)) {z with heap:=h',toks:=tk}):
  wpAny (model prog w) A.in1 (Builtin.List.listExtendWith (.ref S) (.ref d) res) (λfin s' =>match fin with| .done f=>R (.ok f) s' | .again c' =>c'.quiet=true∧codeAny (model prog w) A c' R s') (λe s' =>R (.error e) s') z:=by
 have lS:S<z.heap.objs.size:=let⟨_,e⟩:=hS;Gam e
 have ld:d<z.heap.objs.size:=let⟨o,ho,_⟩:=hm;Gam ho
 have W:=(uF (prog:=prog) (w:=w) (A:=A.in1) hh z.heap.objs.size d (GaC ld) es ep).toS
 have nS:S∉[z.heap.objs.size,d]:=by simp[hSd,GaC lS]
 refine lT hm.ty rfl rfl (by simp[Builtin.List.listSameRef,hSd]) (wD hds hm (PySem.W.kdl_hint_dict (fu.ty (hm.at λo=>Gad _)) ⟨let⟨c,e⟩:=hS;⟨c,Gad _ e⟩,λh2 ⟨c,e⟩ k=> ?_⟩))
 refine codeAny_extend_loopS W hlen S nS res es.size 0 _ #[] c rfl (GaT _) ⟨⟨_,k _ _ (Gbj lS) (Gaw _ rfl),rfl,rfl⟩,hm.at λo e=>k d o (Gbl hSd) (Gad _ e)⟩ e (ItemsOf.nil _) λs' acc' c' mv e' it=> ?_
 rw[Moved.eq_with mv]
 refine hR _ _ acc' c' (λb o n e=>mv.heap b o (λm=> ?_) (k b o n (Gad _ e))) e' it
 have:=Gam e
 simp only[Gar,Gce,GdL] at m
 rcases m with rfl|rfl
 ·exact n rfl
 ·exact Gbb _ this
end
section
variable{X:Cx}{e a b c:Expr}{f g h:DE}{pos:Pos}
noncomputable def rG(H:Hp)(kvs:List (List Key×V))(ks:List V):Prop:=ks.length=kvs.length∧∀(i:Nat) p v,kvs[i]? =some p→ks[i]? =some v→∃b,v= .ref b∧H b=some (.tup (p.1.map kV))
theorem De{pins:List (Addr×Obj)}{σ:L2.St}{H:Hp}{z:Shared}{d:Addr}{kvs:List (List Key×V)}(I:Inv X pins σ H z)(e:H d=some (.dT kvs)):kvs.length≤sizeLine∧(d==sysModules)=false∧∃(es:Array DictEntry) (ep:Nat) (bs:List Addr),fu z.heap d es ep∧es.size=kvs.length∧bs.length=kvs.length∧
  (∀(i:Nat) p b,kvs[i]? =some p→bs[i]? =some b→H b=some (.tup (p.1.map kV)))∧∀(i:Nat) en b,es[i]? =some en→bs[i]? =some b→en.key= .ref b:=by
 obtain⟨h1,h2,xs,kt,o,es,ep,ho,hx,hd,he,_⟩:=vA I.hok e
 have hl:kvs.length=xs.length:=Paired.length kt
 have hs:es.size=xs.length:=by rw[←GaE,he,Gan]
 refine⟨h1,h2,es,ep,xs.map (·.2.1),⟨o,ho,hx,hd⟩,by omega,by simp[hl], ?_, ?_⟩
 ·have all:∀{l:List (List Key×V)} {m:List (List Key×Addr×Value)},KT H l m→∀(i:Nat) p b,l[i]? =some p→(m.map (·.2.1))[i]? =some b→H b=some (.tup (p.1.map kV)):=by
   intro l m q
   induction q with
   |nil=>intro i p b h;simp at h
   | @cons p q ps qs hq t ih=>
    intro i p' b h1 h2
    cases i with
    |zero=>
     simp at h1 h2
     subst h1 h2
     exact hq.2.1
    |succ i=>exact ih i p' b (by simpa using h1) (by simpa using h2)
  exact all kt
 ·intro i en b h3 h4
  have h5:es.toList[i]? =some en:=by simpa using h3
  rw[he,Gav] at h5
  rw[Gav] at h4
  cases q:xs[i]? with
  |none=>rw[q] at h4;cases h4
  |some x=>
   rw[q] at h4 h5
   cases h4;cases h5
   rfl
theorem tm{K:aa}{F:Addr→Prop}{H:Hp}(k:Key):Rep K F H (lD k) (kV k):=by
 cases k with
 |inl i=>exact .int i
 |inr x=>exact .str x
theorem uG{K:aa}{F:Addr→Prop}{H:Hp}{kvs:List (List Key×D)}{ws:List (List Key×V)}{ks:List V}(h:kvs.map (·.1)=ws.map (·.1))(hk:rG H ws ks):aq K F H (dX kvs) ks:=by
 have hl:kvs.length=ws.length:=by have:=congrArg List.length h;simpa using this
 refine⟨by unfold dX;rw[Gan,hl,hk.1],λi d v e1 e2=> ?_⟩
 unfold dX at e1
 rw[Gav] at e1
 obtain⟨p,hp,rfl⟩:=Gah.mp e1
 have hi:i<ws.length:=by rw[←hl];exact(Gac.mp hp).1
 have hq:ws[i]? =some ws[i]:=Gaa hi
 have ep:p.1=ws[i].1:=by
  have:=congrArg (λl=>l[i]?) h
  simp only[Gav,hp,hq,GbU,Gdq] at this
  exact this
 obtain⟨b,rfl,hb⟩:=hk.2 i _ _ hq e2
 have rs:aq K F H (p.1.map lD) (ws[i].1.map kV):=by rw[ep];exact lX λk=>tm k
 exact .tup hb rs.1 rs.2
end
section
variable{prog:Program}{w:World}{A:Around}{E:Value→Shared→Prop}{z:Shared}
theorem qd{d:Addr}{es:Array DictEntry}{ep:Nat}{Q:List Value→Shared→Prop}(hh:A.handled=none)(hds:(d==sysModules)=false)(hm:fu z.heap d es ep)(hlen:es.size≤sizeLine)
  (h:∀h' tk acc,z.heap.objs.size<h'.objs.size→(∀b o,z.heap.get? b=some o→h'.get? b=some o)→ItemsOf (λi v=>∃e,es[i]? =some e∧v=e.key) acc es.size→Q acc.toList {z with heap:=h',toks:=tk}):wpAny (model prog w) A (collect (.ref d)) Q E z:=by
 have old:∀{b o},z.heap.get? b=some o→b≠z.heap.objs.size:=λe=>GaC (Gam e)
 refine jc λh1 e k R r=>rF (z:={z with heap:=h1}) hh hds (hm.at (k d)) hlen _ _ e (let⟨o,ho,_⟩:=hm;Gbl (old ho)) λh' tk acc c k' e' it=> ?_
 exact r _ acc c e' (h h' tk acc (Gam e') (λb o q=>k' b o (old q) (k b o q)) it)
theorem rH{d:Addr}{es:Array DictEntry}{ep:Nat}{ds:List D}{Q:Value→Shared→Prop}(hh:A.handled=none)(hds:(d==sysModules)=false)(hm:fu z.heap d es ep)(h64:es.size<64)(hK:Paired (ic z.heap) ds (es.toList.map (·.key)))(hok:keysOk ds=true)
  (h:∀(p:Array Nat) a h' tk c,Ord es.size p→Up (rank (ds.map code)) p es.size→z.heap.objs.size≤a→(∀b o,z.heap.get? b=some o→h'.get? b=some o)→h'.get? a=some (seqObj "list" (List.toArray (p.toList.map λi=>(es.toList.map (·.key)).getD i Value.none)) c)→Q (.ref a) {z with heap:=h',toks:=tk}):
  wpAny (model prog w) A (call (.builtin "sorted") [.ref d]) Q E z:=by
 have hlen:es.size≤sizeLine:=by rw[Gbw];omega
 refine Gdh kind_sorted plain_sorted entry_sorted (args_sorted1 _) ?_
 unfold Builtin.«sorted»
 refine Gab (m:=checkCount "sorted" 1 1 _) (Gae (Gab (qd (A:=A.in1) hh hds hm hlen λh' tk acc hlt hk hacc=> ?_)))
 have ev:acc.toList=es.toList.map (·.key):=by
  apply GcI
  intro i
  by_cases hi:i<es.size
  ·have ha:acc[i]? =some (acc[i]'(by rw[hacc.1];exact hi)):=Gau _
   obtain⟨en,h1,h2⟩:=hacc.2 i _ ha
   rw[GaP,ha,Gav,GaP,h1,h2];rfl
  ·rw[Gbf (by rw[GaE,hacc.1];omega),Gbf (by simp;omega)]
 rw[ev]
 generalize hvs:es.toList.map (·.key)=vs at*
 have hvl:vs.length=es.size:=by rw[←hvs];simp
 refine Gab (Gdv ?_ (by omega))
 have hoL:(h'.push (seqObj "list" vs.toArray 0)).get? h'.objs.size=some (seqObj "list" vs.toArray 0):=Gaw _ rfl
 have keep:∀b o,z.heap.get? b=some o→(h'.push (seqObj "list" vs.toArray 0)).get? b=some o:=λb o e=>Gad _ (hk b o e)
 have hKG:Paired (ic (h'.push (seqObj "list" vs.toArray 0))) ds vs:=gF (λ_ _ p=>p.keep keep) hK
 have zle:z.heap.objs.size≤h'.objs.size:=Gcq hlt
 refine Gab (Gca (Gba slot_list_sort ⟨_,hoL,rfl⟩ entry_list_sort (oN (s:={z with heap:=h'.push (seqObj "list" vs.toArray 0),toks:=tk}) hoL (by omega) hKG hok λp h1 h2=> ⟨_,rfl, ?_⟩) (args_list_sort _)))
 rw[hvl] at h1 h2
 obtain⟨c,hat⟩:=sortedHeap_at (h:=h'.push (seqObj "list" vs.toArray 0)) (a:=h'.objs.size) (vs:=vs) (n:=0) (out:=List.toArray (p.toList.map λi=>vs.getD i Value.none)) hoL
 refine Gae ⟨_,rfl,h p h'.objs.size _ tk c h1 h2 zle (λb o e=> ?_) hat⟩
 have hb:=Gam (hk b o e)
 exact(sortedHeap_old (GaC hb) (Gdk hb (by rw[size_push'];exact Gcf _))).trans (keep b o e)
end
section
variable{X:Cx}{e a b c:Expr}{f g h:DE}{pos:Pos}
theorem qe{H:Hp}{kvs:List (List Key×V)}{bs:List Addr}(e2:bs.length=kvs.length)(e3:∀(i:Nat) p b,kvs[i]? =some p→bs[i]? =some b→H b=some (.tup (p.1.map kV))):rG H kvs (bs.map V.ref):=
 ⟨by rw[Gan,e2],λi p v hp hv=>by
  rw[Gav] at hv
  obtain⟨b,hb,rfl⟩:=Gah.mp hv
  exact⟨b,rfl,e3 i p b hp hb⟩⟩
theorem rJ{K:aa}{F:Addr→Prop}{H:Hp}{ws:List (List Key×V)}{ks:List V}(hk:rG H ws ks):aq K F H (g9 ws) ks:=by
 have:=uG (K:=K) (F:=F) (kvs:=ws.map λp=>(p.1,D.non)) (by simp) hk
 have e:dX (ws.map λp=>(p.1,D.non))=g9 ws:=by unfold dX g9;simp
 rwa[e] at this
noncomputable def qf(K:aa):List V→Hp→VK→Prop:=λxs H Q=>∃(a:Addr) (kvs:List (List Key×V)),xs=[.ref a]∧H a=some (.dT kvs)∧kvs.length<64∧keysOk (g9 kvs)=true∧
 ∀l out,H l=none→(∀F,aq K F H (kh (g9 kvs)) out)→Q (.ref l) (upd H l (.lst out))
theorem lY(hc:X.calm=true):cP X (.builtin "sorted") (qf X.K):=by
 intro pins z σ H xs us Q I r h
 obtain⟨d,kvs,rfl,hp,h64,hok,q⟩:=h
 obtain⟨u,rfl,rx⟩:=vals1 r
 cases rx
 obtain⟨h1,h2,es,ep,bs,hr,e1,e2,e3,e4⟩:=De I hp
 have hka:=qe e2 e3
 have hrep:∀F,aq X.K F H (g9 kvs) (bs.map V.ref):=λF=>rJ hka
 have hvals:Vals (bs.map V.ref) (es.toList.map (·.key)):=by
  refine iN (by simp;omega) λi x y hx hy=> ?_
  rw[Gav] at hx hy
  obtain⟨b,hb,rfl⟩:=Gah.mp hx
  obtain⟨en,hen,rfl⟩:=Gah.mp hy
  exact e4 i en b (by simpa using hen) hb
 have hK:=t8 I (hrep λ_=>False) (wA hok) hvals
 have ln:(g9 kvs).length=es.size:=by unfold g9;rw[Gan];omega
 refine rH (I.ok.hd hc) h2 hr (by omega) hK hok λod a h' tk c h3 h4 h5 h6 h7=> ?_
 rw[←ln] at h3 h4
 have uniq:(od.toList.map λi=>(g9 kvs).getD i .non)=kh (g9 kvs):=fg ((cI h3).trans (dC _).symm) (rC h3 h4) (fN _) λx hx y hy=>wt hok x ((cI h3).mem_iff.mp hx) y ((cI h3).mem_iff.mp hy)
 have h3v:Ord (bs.map V.ref).length od:=by rw[Gan,e2,←e1,←ln];exact h3
 have fresh:H a=none:=I.hok.fresh h5
 refine⟨.ref a,_,I.laid (a:=a) (o:= .lst (od.toList.map λi=>(bs.map V.ref).getD i .non)) (t' :=tk) h6 h5 ?_,rfl,q _ _ fresh λF' => ?_⟩
 ·refine⟨?_,_,c,lW h3v hvals,h7⟩
  rw[Gan,GaE,h3v.size,Gan,e2,Gbw]
  omega
 ·rw[←uniq]
  exact lV h3 (hrep F')
theorem n4:CallD X j1 (qf X.K):=by
 intro F H ds vs rv Q ps e k
 unfold j1 at e
 split at e
 ·rename_i kvs
  split at e
  ·rename_i hc
   rw[Gal] at hc
   cases e
   obtain⟨v,rfl,i⟩:=cX ps
   cases i with
   | @dT p kvs' _ h r=>
    have er:=r.1
    have el:kvs.length=kvs'.length:=by have:=congrArg List.length er;simpa using this
    have ek:g9 kvs' =dX kvs:=by
     unfold g9 dX
     have:(kvs'.map (·.1)).map (λk=>D.tup (k.map lD))=(kvs.map (·.1)).map (λk=>D.tup (k.map lD)):=by rw[er]
     rw[Gbr,Gbr] at this;exact this
    refine⟨_,_,rfl,h,by rw[←el];exact GaG hc.1,by rw[ek];exact hc.2,λl out hl ho=>k _ _ (aX hl) ⟨l,rfl,hl,jH,rfl,cj hl ?_⟩⟩
    rw[←ek]
    exact ho F
  ·cases e
 ·cases e
end
section
variable{prog:Program}{w:World}{A:Around}{E:Value→Shared→Prop}{s:Shared}
theorem kI(d:Addr)(hd:(d==sysModules)=false):MeetsIn prog w (Builtin.«dict.items» ⟨[.ref d],[]⟩) (λ_ R s=>s.TypeIs (.ref d) "dict"∧R (.ok (.ret (.ref s.heap.objs.size))) {s with heap:=s.heap.push {cls:= .type "dict_items",data:= .fields #[.ref d]}}):=by
 apply MeetsIn.of_wp
 rintro A R s ⟨hm,h⟩
 wp_walk using wpAny_notOrdered_dict hm,GbY
 ·exact⟨_,rfl,h⟩
 ·size_fits
theorem lZ{v d:Addr}{es:Array DictEntry}{ep:Nat}{Q:Value→Shared→Prop}(hv:s.heap.IsItemsView v d)(hm:fu s.heap d es ep)
  (hQ:Q (.ref s.heap.objs.size) {s with heap:=s.heap.push {cls:= .type "dict_itemiterator",data:= .fields #[.none,.bool false,.ref d,.int 0 0,.int es.size 0,.int ep 0,.none,.none]}}):wpAny (model prog w) A (pyIter (.ref v)) Q E s:=by
 have f:FO s.heap v _ _:=hv
 apply Gdr f.ty F.slot_dict_items_iter
 apply Gba F.slot_dict_items_iter f.ty F.entry_dict_items_iter (ha:=F.args_dict_items_iter_1 _)
 wp_walk using jO (i:=0) (x:= .ref d) f rfl,oJ hm,sZ hm,GbY
 ·exact⟨_,rfl,_,_,⟨_,Gaw _ rfl,rfl⟩,GcF.lookup,hQ⟩
 ·simp[sizeOk,Builtin.Dict_items.ownsTuple,Builtin.Dict_items.ownedTupleFields,Gbw]
noncomputable abbrev ItI (h:Heap) (it d:Addr) (i n ep:Nat) (f0 f1 ok ov:Value):Prop:=FO h it "dict_itemiterator" #[f0,f1,.ref d,.int i 0,.int n 0,.int ep 0,ok,ov]
noncomputable def Kept(h:Heap)(it:Addr)(f0 f1:Value):Prop:=f0= .none∨∃(a:Addr) (oa:Obj) (f:Bool),f0=rawInt a∧f1= .bool f∧h.get? a=some oa∧a≠it
theorem uH{it:Addr}{x2 x3 x4 x5 f0 f1 ok ov k v:Value}{Q:Value→Shared→Prop}(f:FO s.heap it "dict_itemiterator" #[f0,f1,x2,x3,x4,x5,ok,ov])(hf:Kept s.heap it f0 f1)
  (h:∀h' g0 g1 ok' ov',FO h' it "dict_itemiterator" #[g0,g1,x2,x3,x4,x5,ok',ov']→((f0= .none∧g0=rawInt s.heap.objs.size∧g1= .bool false)∨(f0≠ .none∧g0=f0∧g1= .bool true))→
   h'.get? s.heap.objs.size=some {cls:= .type "tuple",data:= .seq #[k,v]}→h'.objs.size=s.heap.objs.size+1→(∀b o,b≠it→s.heap.get? b=some o→h'.get? b=some o)→Q (.ref s.heap.objs.size) {s with heap:=h' }):
  wpAny (model prog w) A (Builtin.Dict_items.pairFromOwner (.ref it) 6 k v) Q E s:=by
 have ne:s.heap.objs.size≠it:=Gbj f.lt
 apply Gab
 refine wpAny_newTuple ?_
 have f2:=f.at λo=>Gad {cls:= .type "tuple",data:= .seq #[k,v]}
 have t2:(s.heap.push {cls:= .type "tuple",data:= .seq #[k,v]}).get? s.heap.objs.size=_:=Gaw _ rfl
 have k2:∀b o,s.heap.get? b=some o→(s.heap.push {cls:= .type "tuple",data:= .seq #[k,v]}).get? b=some o:=λb o=>Gad _
 have z2:(s.heap.push {cls:= .type "tuple",data:= .seq #[k,v]}).objs.size=s.heap.objs.size+1:=GcO ..
 generalize s.heap.push {cls:= .type "tuple",data:= .seq #[k,v]}=p at*
 have fin:∀h',Heap.SameBut it p h' →h'.get? s.heap.objs.size=some {cls:= .type "tuple",data:= .seq #[k,v]}∧h'.objs.size=s.heap.objs.size+1∧∀b o,b≠it→s.heap.get? b=some o→h'.get? b=some o:=λh' sb=> ⟨sb.extBut _ _ ne t2,sb.1.trans z2,λb o n e=>sb.extBut b o n (k2 b o e)⟩
 rcases hf with rfl| ⟨a,oa,b,rfl,rfl,ha,hai⟩
 ·wp_walk using jO (i:=0) (x:= .none) f2 rfl,jO (i:=6) (x:=ok) f2 rfl,jO (i:=7) (x:=ov) f2 rfl,cV f2
  ·rintro h3 ⟨f3,s3⟩
   refine Gab (cV f3 (λh4 ⟨f4,s4⟩=>Gab (cV f4 (λh5 ⟨f5,s5⟩=>Gab (cV f5 (λh6 ⟨f6,s6⟩=>Gab (wpAny_letGo (Gae ?_))) (by simp))) (by simp))) (by simp))
   obtain⟨q1,q2,q3⟩:=fin h6 (((s3.trans s4).trans s5).trans s6)
   exact h h6 _ _ _ _ f6 (.inl ⟨rfl,rfl,rfl⟩) q1 q2 q3
  ·show _<8;decide
 ·wp_walk using jO (i:=0) (x:=rawInt a) f2 rfl,PySem.W.kdx_alive (k2 a oa ha),jO (i:=1) (x:= .bool b) f2 rfl
  have q1:(Value.bool b !=Value.bool true)= !b:=by cases b<;>rfl
  rw[q1]
  have no:rawInt (a:Int)≠Value.none:=by simp[rawInt]
  cases b with
  |true=>
   wp_walk
   obtain⟨q1,q2,q3⟩:=fin p (Heap.SameBut.refl _ _)
   exact h p _ _ _ _ f2 (.inr ⟨no,rfl,rfl⟩) q1 q2 q3
  |false=>
   wp_walk using cV f2
   ·rintro h3 ⟨f3,s3⟩
    wp_walk
    obtain⟨q1,q2,q3⟩:=fin h3 s3
    exact h h3 _ _ _ _ f3 (.inr ⟨no,rfl,rfl⟩) q1 q2 q3
   ·show _<8;decide
theorem gG{it d:Addr}{i ep:Nat}{es:Array DictEntry}{f0 f1 ok ov:Value}{Q:Option Value→Shared→Prop}(hh:A.handled=none)(hit:ItI s.heap it d i es.size ep f0 f1 ok ov)(hm:fu s.heap d es ep)(hf:Kept s.heap it f0 f1)
  (hQ:∀e h' g0 g1 ok' ov',es[i]? =some e→ItI h' it d (i+1) es.size ep g0 g1 ok' ov' →((f0= .none∧g0=rawInt s.heap.objs.size∧g1= .bool false)∨(f0≠ .none∧g0=f0∧g1= .bool true))→
   h'.get? s.heap.objs.size=some {cls:= .type "tuple",data:= .seq #[e.key,e.val]}→(∀b o,b≠it→s.heap.get? b=some o→h'.get? b=some o)→Q (some (.ref s.heap.objs.size)) {s with heap:=h' })
  (hE:∀h',es.size≤i→Heap.ExtBut it s.heap h' →Q none {s with heap:=h' }):wpAny (model prog w) A (pyNext (.ref it)) Q E s:=by
 have hT:=hit.ty
 wp_walk using GbG hT GcF,Gba GcF hT F.entry_dict_itemiterator_next (ha:=F.args_dict_itemiterator_next_1 _),oJ hm,sZ hm,lR hit,Gcz hT
 rw[C6]
 cases h:es[i]? with
 |some e=>
  wp_walk using Gcz hT,wpAny_isOneOf_itemiter hT,cV hit
  ·rintro h1 ⟨f,hs⟩
   replace f:ItI h1 it d (i+1) es.size ep f0 f1 ok ov:=f
   have kp:Kept h1 it f0 f1:=hf.imp id λ⟨a,o,b,q1,q2,q3,q4⟩=> ⟨a,o,b,q1,q2,hs.extBut a o q4 q3,q4⟩
   wp_walk using wpAny_isOneOf_itemiter f.ty,uH f kp
   intro h' g0 g1 ok' ov' f' g t _ k
   rw[show h1.objs.size=s.heap.objs.size from hs.1] at*
   exact Gae ⟨_,rfl,Gae (hQ e h' g0 g1 ok' ov' h f' g t λb o n q=>k b o n (hs.extBut b o n q))⟩
  ·show _<8;decide
 |none=>
  wp_walk using Gcz hT,cV hit
  ·rintro h' ⟨f,hs⟩
   exact wq hh λh2 a k=>Gab (oK k.2 (Gae (hE h2 (by simpa using h) λb o n e=>k.1 b o (hs.extBut b o n e))))
  ·show _<8;decide
end
section
variable{X:Cx}{e a b c:Expr}{f g h:DE}{pos:Pos}
theorem nJ{κ:Type}{K:aa}{F:Addr→Prop}{H:Hp}{kvs:List (κ×D)}{ws:List (κ×V)}(r:aJ K F H kvs ws):kvs.length=ws.length:=by
 have:=congrArg List.length r.1
 simpa using this
theorem uI{κ:Type}{K:aa}{F:Addr→Prop}{H:Hp}{kvs:List (κ×D)}{ws:List (κ×V)}(r:aJ K F H kvs ws){i:Nat}{p:κ×D}(e:kvs[i]? =some p):∃q,ws[i]? =some q∧p.1=q.1∧Rep K F H p.2 q.2:=by
 have hi:i<ws.length:=by rw[←nJ r];exact(Gac.mp e).1
 have hq:ws[i]? =some ws[i]:=Gaa hi
 refine⟨ws[i],hq, ?_,r.2 i p _ e hq⟩
 have:=congrArg (λl=>l[i]?) r.1
 simp only[Gav,e,hq,GbU,Gdq] at this
 exact this
end
section
variable{prog:Program}{w:World}{A:Around}{E:Value→Shared→Prop}{s:Shared}{es:Array DictEntry}{ep:Nat}
noncomputable def Prs(es:Array DictEntry)(lo:Addr)(h:Heap)(as:List Addr):Prop:=as.Nodup∧∀(j:Nat) (a:Addr),as[j]? =some a→lo<a∧∃en,es[j]? =some en∧h.get? a=some {cls:= .type "tuple",data:= .seq #[en.key,en.val]}
theorem Prs.at{lo:Addr}{h h' :Heap}{as:List Addr}(x:Prs es lo h as)(k:∀a o,lo<a→h.get? a=some o→h'.get? a=some o):Prs es lo h' as:=
 ⟨x.1,λj a e=>let⟨l,en,q,r⟩:=x.2 j a e;⟨l,en,q,k a _ l r⟩⟩
theorem Prs.snoc{lo a:Addr}{h:Heap}{as:List Addr}{en:DictEntry}(x:Prs es lo h as)(e:es[as.length]? =some en)(l:lo<a)(n:a∉as)(t:h.get? a=some {cls:= .type "tuple",data:= .seq #[en.key,en.val]}):Prs es lo h (as++[a]):=by
 refine⟨by rw[Gds];exact⟨x.1,by simp,λb hb c hc q=>n (by simp at hc;rwa[←hc,←q])⟩,λj b hj=> ?_⟩
 rw[List.getElem?_append] at hj
 split at hj
 ·exact x.2 j b hj
 ·rw[List.getElem?_singleton] at hj
  split at hj
  ·cases hj
   have:j=as.length:=by omega
   exact⟨l,en,this▸e,t⟩
  ·cases hj
theorem Prs.lt{lo a:Addr}{h:Heap}{as:List Addr}(x:Prs es lo h as)(m:a∈as):a<h.objs.size:=by
 obtain⟨j,hj⟩:=Gbn.mp m
 obtain⟨_,_,_,q⟩:=x.2 j a hj
 exact Gam q
theorem oP{R:Result→Shared→Prop}{r d:Addr}(hh:A.handled=none)(hv:s.heap.IsItemsView r d)(hm:fu s.heap d es ep)(S:Addr)(hSr:S≠r)(hSd:S≠d)(res:Value)(hS:Emp s.heap S)(hn:es.size≤sizeLine)
  (hR:∀h' tk acc c as,(∀b o,b≠S→s.heap.get? b=some o→h'.get? b=some o)→h'.get? S=some {cls:= .type "list",dict:=none,data:= .seq acc c,slots:=#[]}→as.length=es.size→Prs es s.heap.objs.size h' as→acc.toList=as.map Value.ref→R (.ok (.ret res)) {s with heap:=h',toks:=tk}):
  wpAny (model prog w) A.in1 (Builtin.List.listExtendWith (.ref S) (.ref r) res) (λfin s' =>match fin with| .done f=>R (.ok f) s' | .again c' =>c'.quiet=true∧codeAny (model prog w) A c' R s') (λe s' =>R (.error e) s') s:=by
 have fv:FO s.heap r _ _:=hv
 have lS:S<s.heap.objs.size:=let⟨_,e⟩:=hS;Gam e
 have ld:d<s.heap.objs.size:=let⟨_,e,_⟩:=hm;Gam e
 generalize hI:s.heap.objs.size=I at*
 refine lT fv.ty rfl rfl (by simp[Builtin.List.listSameRef,hSr]) (lZ hv hm (PySem.W.kdx_hint (FO.ty (fv.at λo=>Gad _)) ⟨let⟨c,e⟩:=hS;⟨c,Gad _ e⟩,λh2 e2 k2=> ?_⟩))
 rw[hI]
 have old:∀b o,b≠S→s.heap.get? b=some o→h2.get? b=some o:=λb o n q=>k2 b o n (Gad _ q)
 have f2:ItI h2 I d 0 es.size ep .none (.bool false) .none .none:=⟨_,k2 I _ (Gbj lS) (hI▸Gaw _ rfl),rfl,rfl⟩
 let J:Nat→Array Value→Shared→Prop:=λi acc z=>∃h tk as f0 f1 ok ov,z={s with heap:=h,toks:=tk}∧as.length=i∧acc.toList=as.map Value.ref∧Dc h S acc∧ItI h I d i es.size ep f0 f1 ok ov∧(f0= .none∨∃a f,f0=rawInt (a:Addr)∧f1= .bool f∧a∈as)∧fu h d es ep∧Prs es I h as∧∀b o,b≠S→s.heap.get? b=some o→h.get? b=some o
 refine q0 J hn ?_ ?_ es.size 0 #[] _ (Gdm _) ⟨h2,s.toks,[],_,_,_,_,rfl,rfl,rfl,e2,f2,.inl rfl,hm.at λo=>old d o (Gbl hSd),⟨.nil,by simp⟩,old⟩
 ·rintro i acc _ Q E hi ⟨h,tk,as,f0,f1,ok,ov,rfl,hl,ha,hL,f,hf,hD,hP,hk⟩ up
  have lI:=f.lt
  have kp:Kept h I f0 f1:=hf.imp id λ⟨a,b,q1,q2,q3⟩=>by
   obtain⟨j,hj⟩:=Gbn.mp q3
   obtain⟨l,_,_,t⟩:=hP.2 j a hj
   exact⟨a,_,b,q1,q2,t,Gbj l⟩
  refine gG (s:={s with heap:=h,toks:=tk}) (A:=A.in1) hh f hD kp (λen h' g0 g1 ok' ov' he f' hg ht hk' => ?_) λ_ q=>absurd hi (Nat.not_lt.mpr q)
  have out:S≠I:=GaC lS
  refine up _ {s with heap:=h',toks:=tk} (let⟨c,e⟩:=hL;⟨c,hk' S _ out e⟩) (by rw[←GaE,ha,Gan,hl]) λh3 e3 k3=> ?_
  have big:S<h.objs.size:=let⟨_,e⟩:=hL;Gam e
  have t3:=k3 _ _ (Gbj big) ht
  have pr:=(hP.at λa o l q=>k3 a o (Gbj (Gdk lS l)) (hk' a o (Gbj l) q)).snoc (a:=h.objs.size) (hl▸he) lI (λm=>Gbb _ (hP.lt m)) t3
  refine⟨h3,tk,as++[h.objs.size],g0,g1,ok',ov',rfl,by simp[hl],by simp[ha],e3,f'.at λo=>k3 I o (Gbl out),.inr ?_,hD.at λo q=>k3 d o (Gbl hSd) (hk' d o (GaC ld) q),pr,λb o n q=>k3 b o n (hk' b o ?_ (hk b o n q))⟩
  ·rcases hg with⟨_,q2,q3⟩| ⟨q1,q2,q3⟩
   ·exact⟨_,_,q2,q3,by simp⟩
   ·rcases hf with q| ⟨a,b,r1,r2,r3⟩
    ·exact absurd q q1
    ·exact⟨a,true,q2.trans r1,q3,by simp[r3]⟩
  ·rintro rfl
   exact Gbb _ (hI▸Gam q)
 ·rintro acc _ Q E ⟨h,tk,as,f0,f1,ok,ov,rfl,hl,ha,hL,f,hf,hD,hP,hk⟩ fin
  have kp:Kept h I f0 f1:=hf.imp id λ⟨a,b,q1,q2,q3⟩=>by
   obtain⟨j,hj⟩:=Gbn.mp q3
   obtain⟨l,_,_,t⟩:=hP.2 j a hj
   exact⟨a,_,b,q1,q2,t,Gbj l⟩
  refine gG (s:={s with heap:=h,toks:=tk}) (A:=A.in1) hh f hD kp (λ_ _ _ _ _ _ q=>absurd (Gbi.mp q).1 (Gbb _)) λh' _ ex=>fin _ ?_
  obtain⟨c,e⟩:=hL
  refine hR h' tk acc c as (λb o n q=>ex b o ?_ (hk b o n q)) (ex S _ (GaC lS) e) hl (hP.at λa o l q=>ex a o (Gbj l) q) ha
  rintro rfl
  exact Gbb _ (hI▸Gam q)
theorem m8{Q:Value→Shared→Prop}{r d:Addr}(hh:A.handled=none)(hv:s.heap.IsItemsView r d)(hm:fu s.heap d es ep)(hn:es.size≤sizeLine)
  (hQ:∀h' tk acc c as,(∀b o,s.heap.get? b=some o→h'.get? b=some o)→h'.get? s.heap.objs.size=some {cls:= .type "list",dict:=none,data:= .seq acc c,slots:=#[]}→as.length=es.size→Prs es s.heap.objs.size h' as→
   acc.toList=as.map Value.ref→Q (.ref s.heap.objs.size) {s with heap:=h',toks:=tk}):wpAny (model prog w) A (call (.type "list") [.ref r]) Q E s:=by
 have old:∀{b o},s.heap.get? b=some o→b≠s.heap.objs.size:=λe=>GaC (Gam e)
 have fv:FO s.heap r _ _:=hv
 refine uB λh1 e k lt=>oP (s:={s with heap:=h1}) (A:=A.in1) hh (fv.at λo=>k r o) (hm.at (k d)) _ (Gbj fv.lt) (let⟨o,ho,_⟩:=hm;Gbl (old ho)) _ e hn λh' tk acc c as k' e' hl hP ha=> ?_
 exact⟨rfl,hQ h' tk acc c as (λb o q=>k' b o (old q) (k b o q)) e' hl ⟨hP.1,λj a q=> ⟨Gdk lt (hP.2 j a q).1,(hP.2 j a q).2⟩⟩ ha⟩
end
section
variable{X:Cx}{e a b c:Expr}{f g h:DE}{pos:Pos}{pins:List (Addr×Obj)}{σ:St}{H:Hp}{s:Shared}
theorem _root_.L2.Inv.Br{H' :Hp}{h' :Heap}{t' :Nat}(I:Inv X pins σ H s)(k:∀b u,s.heap.get? b=some u→h'.get? b=some u)(same:∀b,b<s.heap.objs.size→H' b=H b)(new:∀b u,s.heap.objs.size≤b→H' b=some u→br X.prog X.w H' h' b u):Inv X pins σ H' {s with heap:=h',toks:=t' }:=by
 have low:∀b u,H b=some u→H' b=some u:=λb u q=>by rw[same b (I.hok.lt q)];exact q
 refine I.un ⟨λb u q _ _ _=>k b u q,λb u q _ _ _=> ⟨u.slots,k b u q⟩,λb u q n _=>by rw[same b (Gam q)];exact n,λb u q _=> ⟨u,k b u q⟩,λb xs q=>low b _ q,λb o u q=>low b _ q,λb ps q=> ⟨#[],by rw[low b _ q];simp⟩⟩ λb u q=> ?_
 rcases GaY b s.heap.objs.size with z|z
 ·rw[same b z] at q
  exact(I.hok b u q).gq (λc v _ q=>k c v q) (λc q=>low c _ q) λc xs q=>low c _ q
 ·exact new b u z q
noncomputable def wF(v d:Addr):HO:= .ext λh=>h.IsItemsView v d
theorem wG:MtR X "dict.items" (λo xs H Q=>∃d kvs,o= .ref d∧xs=[]∧H d=some (.dT kvs)∧∀v,H v=none→Q (.ref v) (upd H v (wF v d))):=by
 intro pins s σ H x xs v us Q I r1 r2 h
 obtain⟨d,kvs,rfl,rfl,hd,q⟩:=h
 cases r1
 cases r2
 obtain⟨t1,t2,hds⟩:=CS I (.inr ⟨kvs,.inl hd⟩)
 refine call_meetsIn PySem.F.slot_dict_items t1 PySem.F.entry_dict_items (PySem.F.args_dict_items_1 _) (kI d hds) ⟨t1, ?_⟩
 refine⟨.ref s.heap.objs.size,_,I.laid (a:=s.heap.objs.size) (o:=wF s.heap.objs.size d) (λb o e=>Gad _ e) (Gaq _) ?_,rfl,q _ I.fresh⟩
 exact⟨⟨_,Gaw _ rfl,rfl,rfl⟩,⟨_,Gaw _ rfl⟩,λh1 h2 ⟨o,ho,r⟩ k=> ⟨o,k o ho,r⟩⟩
noncomputable def H0:List V→Hp→VK→Prop:=λxs H Q=>∃(v d:Addr) (kvs:List (List Key×V)),xs=[.ref v]∧H v=some (wF v d)∧H d=some (.dT kvs)∧
 ∀(l:Addr) (vs:List V) (H' :Hp),bC H H' →H l=none→H' l=some (.lst vs)→vs.length=kvs.length→(∀(i:Nat) p u,kvs[i]? =some p→vs[i]? =some u→∃q b,u= .ref q∧H' q=some (.tup [.ref b,p.2])∧H b=some (.tup (p.1.map kV)))→Q (.ref l) H'
theorem kJ(hc:X.calm=true):cP X (.type "list") H0:=by
 intro pins z σ H xs us Q I r h
 obtain⟨v,d,kvs,rfl,hv,hd,q⟩:=h
 obtain⟨u,rfl,rx⟩:=vals1 r
 cases rx
 obtain⟨iv,_,_⟩:=I.hok v _ hv
 obtain⟨h1,h2,xs,kt,o,es,ep,ho,hx,hdt,he,_⟩:=vA I.hok hd
 have hl:kvs.length=xs.length:=Paired.length kt
 have hs:es.size=xs.length:=by rw[←GaE,he,Gan]
 have rel:∀{l:List (List Key×V)} {m:List (List Key×Addr×Value)},KT H l m→∀(i:Nat) p q,l[i]? =some p→m[i]? =some q→H q.2.1=some (.tup (p.1.map kV))∧RelV p.2 q.2.2:=by
  intro l m q
  induction q with
  |nil=>intro i p q h;simp at h
  |cons hq t ih=>
   intro i p' q' h1 h2
   cases i with
   |zero=>simp at h1 h2;subst h1 h2;exact hq.2
   |succ i=>exact ih i p' q' (by simpa using h1) (by simpa using h2)
 refine m8 (I.ok.hd hc) iv ⟨o,ho,hx,hdt⟩ (by omega) λh' tk acc cc as hk hS hal hP hacc=> ?_
 let S:=z.heap.objs.size
 let T:Addr→Option HO:=λb=>if b=S then some (.lst (as.map V.ref)) else match as.findIdx? (λa=>a==b) with
  |some j=>match xs[j]?,kvs[j]? with
   |some x,some p=>some (.tup [.ref x.2.1,p.2])
   |_,_=>H b
  |none=>H b
 have hlt:∀a∈as,S<a:=λa ha=>by
  obtain⟨j,hj⟩:=Gbn.mp ha
  exact(hP.2 j a hj).1
 have atj:∀(j:Nat) a,as[j]? =some a→∃x p,xs[j]? =some x∧kvs[j]? =some p∧T a=some (.tup [.ref x.2.1,p.2]):=λj a hj=>by
  have hj' :j<as.length:=(Gac.mp hj).1
  have e1:xs[j]? =some xs[j]:=by simp
  have e2:kvs[j]? =some kvs[j]:=by simp
  refine⟨_,_,e1,e2, ?_⟩
  have hne:a≠S:=Gbj (hlt a (GaJ hj))
  show(if a=S then _ else _)=_
  rw[Gaf hne]
  have ix:as.findIdx? (λy=>y==a)=some j:=by
   rw[Gdu]
   refine⟨hj', ?_,λk hk=> ?_⟩
   ·have:=(Gac.mp hj).2
    simp[this]
   ·have e:=(Gac.mp hj).2
    simp only[GbT]
    intro z
    have:=(List.getElem_inj hP.1).mp (z.trans e.symm)
    omega
  rw[ix]
  dsimp only
  rw[e1,e2]
 have low:∀b,b<S→T b=H b:=λb hb=>by
  show(if b=S then _ else _)=_
  rw[Gaf (GaC hb)]
  have:as.findIdx? (λy=>y==b)=none:=by
   rw[List.findIdx?_eq_none_iff]
   intro y hy
   have:=hlt y hy
   simp only[GdI]
   omega
  rw[this]
 have tS:T S=some (.lst (as.map V.ref)):=Gag rfl
 have hi:∀b u,S≤b→T b=some u→(b=S∧u= .lst (as.map V.ref))∨∃(j:Nat) (x:List Key×Addr×Value) (p:List Key×V),as[j]? =some b∧xs[j]? =some x∧kvs[j]? =some p∧u= .tup [.ref x.2.1,p.2]:=λb u hb e=>by
  by_cases z:b=S
  ·subst z;rw[tS] at e;cases e;exact .inl ⟨rfl,rfl⟩
  ·right
   have e' :(match as.findIdx? (λa=>a==b) with
    |some j=>match xs[j]?,kvs[j]? with
     |some x,some p=>some (HO.tup [.ref x.2.1,p.2])
     |_,_=>H b
    |none=>H b)=some u:=by
    have:T b=_:=Gaf z
    rw[this] at e;exact e
   have hn:H b=none:=I.hok.fresh hb
   cases q:as.findIdx? (λa=>a==b) with
   |none=>rw[q] at e';rw[hn] at e';cases e'
   |some j=>
    rw[q] at e'
    obtain⟨hj,hj2,_⟩:=Gdu.mp q
    have e1:xs[j]? =some xs[j]:=by simp
    have e2:kvs[j]? =some kvs[j]:=by simp
    dsimp only at e'
    rw[e1,e2] at e'
    cases e'
    exact⟨j,_,_,by rw[Gaa hj];simpa using hj2,e1,e2,rfl⟩
 have sm:bC H T:=λb u q=>by rw[low b (I.hok.lt q)];exact q
 have I1:Inv X pins σ T {z with heap:=h',toks:=tk}:=I.Br hk low λb u hb e=>by
  rcases hi b u hb e with⟨rfl,rfl⟩| ⟨j,x,p,e1,e2,e3,rfl⟩
  ·refine⟨by rw[Gan,hal];omega,acc.toList,cc, ?_,by simpa using hS⟩
   rw[hacc]
   exact iN (by simp) λi x y hx hy=>by
    rw[Gav] at hx hy
    obtain⟨b,hb,rfl⟩:=Gah.mp hx
    rw[hb] at hy
    cases hy
    rfl
  ·obtain⟨_,en,q1,q2⟩:=hP.2 j b e1
   have q1' :es.toList[j]? =some en:=by simpa using q1
   rw[he,Gav,e2] at q1'
   cases q1'
   obtain⟨r1,r2⟩:=rel kt j p x e3 e2
   exact⟨by simp[Gbw],[.ref x.2.1,x.2.2],.cons rfl (.cons r2 .nil),_,q2,rfl,0,rfl⟩
 refine⟨.ref S,T,I1,rfl,q S (as.map V.ref) T sm I.fresh tS (by rw[Gan];omega) λi p u hp hu=> ?_⟩
 rw[Gav] at hu
 obtain⟨a,ha,rfl⟩:=Gah.mp hu
 obtain⟨x,p',e1,e2,e3⟩:=atj i a ha
 rw[hp] at e2;cases e2
 exact⟨a,x.2.1,rfl,e3,(rel kt i p x hp e1).1⟩
theorem uJ{p:Pos}{o:Expr}{apos cpos:Pos}(hc:X.calm=true)(hg:Gl X "list")(hm:X.mg "list"=none)(ho:PEd X o f)
  (hbase:attributeBase o "items" X.env (eval o X.env)=eval o X.env:=by rfl)(hline:(apos.endLine==cpos.line)=true:=by rfl)
  (hs2:starEach [.Call (.Attribute o "items" apos) [] [] cpos] X.env=[(false,eval (.Call (.Attribute o "items" apos) [] [] cpos) X.env)]:=by rfl):
  PEd X (.Call (.Name "list" p) [.Call (.Attribute o "items" apos) [] [] cpos] [] pos) (litE f):=by
 refine(jB (kJ hc) hg hm fR (dS (qZ PySem.F.plainAttrs_dict PySem.F.slot_dict_items PySem.F.type_dict_items wG ho hbase hline) jA hs2) (by decide) (by decide) hs2 rfl).aC ?_
 rintro σ H Q ⟨H₀,Bad,env,rv,E,e,k⟩
 obtain⟨r,hr,e⟩:=bind_some e
 split at e
 ·rename_i kvs hd
  split at e
  ·rename_i him
   cases e
   refine⟨H₀,Bad,env,r,E,hr,λv H1 s1 R1=> ?_⟩
   have i:=R1.inn
   rw[hd] at i
   cases i with
   | @dT a ws _ h rk=>
    refine⟨.inr (.inr (.inl ⟨rfl,.inr ⟨ws,h⟩⟩)),a,ws,rfl,rfl,h,λvw hvw=> ?_⟩
    have ne:a≠vw:=cf h hvw
    refine⟨vw,a,ws,rfl,av,by rw[ay ne];exact h,λl vs H' sm hl hH' hlen hitems=> ?_⟩
    have s13:bC H1 H' :=(aX hvw).trans sm
    have hl1:H1 l=none:=by
     by_cases z:l=vw
     ·subst z;exact hvw
     ·rw[ay z] at hl;exact hl
    refine k _ H' (s1.trans s13) ⟨l,rfl,s1.free hl1,⟨_,hH',trivial⟩,rfl,.lst (.inl hH') ⟨?_,λj d u e1 e2=> ?_⟩⟩
    ·unfold lE;rw[Gan,nJ rk,hlen]
    ·unfold lE at e1
     rw[Gav] at e1
     obtain⟨pd,hpd,rfl⟩:=Gah.mp e1
     obtain⟨q,h1,h2,h3⟩:=uI rk hpd
     obtain⟨t,b,rfl,ht,hb⟩:=hitems j q u h1 e2
     have hb1:H1 b=some (.tup (q.1.map kV)):=by
      by_cases z:b=vw
      ·subst z;rw[av] at hb;cases hb
      ·rw[ay z] at hb;exact hb
     have hb' :H' b=some (.tup (q.1.map kV)):=s13 _ _ hb1
     have him' :pd.2.imm=true:=kN him j pd.2 (by rw[Gav,hpd];rfl)
     have r2:Rep X.K (λb=>Cln Bad env σ b∧b≠l) H' pd.2 q.2:=(h3.imm (F' :=λb=>Cln Bad env σ b∧b≠l) him').same s13
     have rs:aq X.K (λb=>Cln Bad env σ b∧b≠l) H' (pd.1.map lD) (q.1.map kV):=by rw[h2];exact lX λk=>tm k
     have r1:Rep X.K (λb=>Cln Bad env σ b∧b≠l) H' (.tup (pd.1.map lD)) (.ref b):= .tup hb' rs.1 rs.2
     have rr:aq X.K (λb=>Cln Bad env σ b∧b≠l) H' [.tup (pd.1.map lD),pd.2] [.ref b,q.2]:= .cons r1 (.cons r2 .nil)
     exact .tup ht rr.1 rr.2
  ·cases e
 ·cases e
end
open PySem.W (KatLex KatTups kas_sort kas_ask kat_kind kat_lt kat_one kat_run kat_snds BoolBack kat_lt_int)
section
variable{prog:Program}{w:World}{A:Around}{E:Value→Shared→Prop}{s:Shared}
theorem rK{l:Addr}{o:Obj}{vs:List Value}{cs:List (List (List Int))}{n:Nat}{T:String}{Q:Value→Shared→Prop}(ho:s.heap.get? l=some o)(hc:o.cls= .type T)(hT:T="list"∨T="tuple")(hd:o.data= .seq vs.toArray n)(h64:vs.length<64)
  (hK:∀G:Heap,(∀b o,s.heap.get? b=some o→G.get? b=some o)→∀A' :Around,A'.units=A.units+2→jd prog w A' E {s with heap:=G} cs vs)
  (h:∀p:Array Nat,Ord vs.length p→Up (rank cs) p vs.length→Q (.ref (s.heap.objs.size+1)) {s with heap:=sortedAll s.heap vs (List.toArray (p.toList.map λi=>vs.getD i Value.none))}):wpAny (model prog w) A (call (.builtin "sorted") [.ref l]) Q E s:=by
 have szl:vs.length≤sizeLine:=by rw[Gbw];omega
 refine Gdh kind_sorted plain_sorted entry_sorted (args_sorted1 _) ?_
 unfold Builtin.«sorted»
 refine Gab (m:=checkCount "sorted" 1 1 _) (Gae (Gab (q8 ho hc hT hd ?_ szl)))
 refine Gab (Gdv ?_ szl)
 generalize hG:(s.heap.push (seqObj "list" #[] 0)).update s.heap.objs.size (Obj.mapSeq (· ++vs.toArray))=G
 have hsz:G.objs.size=s.heap.objs.size+1:=by rw[←hG,Heap.size_update,size_push']
 have hoL:(G.push (seqObj "list" vs.toArray 0)).get? (s.heap.objs.size+1)=some (seqObj "list" vs.toArray 0):=by rw[←hsz];exact Gaw _ rfl
 have keep:∀b o,s.heap.get? b=some o→(G.push (seqObj "list" vs.toArray 0)).get? b=some o:=λb o e=>by
  have hlt:=Gam e
  refine Gad _ ?_
  rw[←hG,Heap.get?_update_ne _ _ _ _ (GaC hlt)]
  exact Gad _ e
 show wpAny _ _ _ _ _ {s with heap:=G.push (seqObj "list" vs.toArray 0)}
 rw[hsz]
 refine Gab (Gca (Gba slot_list_sort ⟨_,hoL,rfl⟩ entry_list_sort (ir (cs:=cs) (s:={s with heap:=G.push (seqObj "list" vs.toArray 0)}) hoL h64 (λG' kG=> ?_) λp h1 h2=> ⟨_,rfl, ?_⟩) (args_list_sort _)))
 ·exact hK G' (λb o e=>kG b o (GaC (GbZ (Gam e))) (keep b o e)) _ rfl
 ·have:=h p h1 h2
  unfold sortedAll at this
  rw[hG] at this
  exact Gae ⟨_,rfl,this⟩
theorem wH{A:Around}{z:Shared}:∀{as bs:List D} {us vs:List Value},Paired FlV as us→Paired FlV bs vs→j0 as bs=true→Ans .Lt A z (decide (as.length<bs.length)) (us.zip vs) (ltC (as.map ar) (bs.map ar))
 |[],[],_,_,.nil,.nil,_=>rfl
 |[],_::_,_,_,.nil,.cons _ _,_=>by
  show ltC [] _=_
  simp[ltC,cA]
 |_::_,[],_,_,.cons _ _,.nil,_=>by
  show ltC (_::_) []=_
  simp[ltC,cA]
 |a::as,c::cs,_,_,.cons (b:=u) ha ta,.cons (b:=v) hb tb,hc=>by
  unfold j0 at hc
  have h0:ltC ((a::as).map ar) ((c::cs).map ar)=if ar a=ar c then ltC (as.map ar) (cs.map ar) else cA ltI (ar a) (ar c):=rfl
  have ht:tyD a=tyD c:=by
   split at hc
   ·rename_i e
    cases a<;>cases c<;>simp[ar] at e<;>first|rfl|exact ha.elim|exact hb.elim
   ·rw[Gal] at hc;exact GbT.mp hc.1
  refine⟨decide (ar a=ar c),λprog w E Q h=>C7 ha hb ht h, ?_⟩
  rw[h0]
  by_cases e:ar a=ar c
  ·rw[Gag e] at hc⊢
   refine .inl ⟨GaB e, ?_⟩
   have l:decide ((a::as).length<(c::cs).length)=decide (as.length<cs.length):=by simp
   rw[l]
   exact wH ta tb hc
  ·rw[Gaf e] at hc⊢
   refine .inr ⟨GaD e, ?_⟩
   rw[Gal,GaZ] at hc
   have hk:=hc.2.imp GbT.mp GbT.mp
   cases a<;>cases c<;>simp[tyD] at ht hk
   ·obtain⟨t,rfl⟩:=ha
    obtain⟨t',rfl⟩:=hb
    rw[oM]
    exactλprog w E Q h=>PyProof.Rows.lt_int h
   ·obtain⟨t,rfl⟩:=ha
    obtain⟨t',rfl⟩:=hb
    rw[t6]
    exactλprog w E Q h=>PyProof.Rows.lt_str h
theorem tq:∀{as bs:List D},as.all ff=true→bs.all ff=true→fK as bs=true→as=bs
 |[],[],_,_,_=>rfl
 |[],_::_,_,_,h=>by simp at h
 |_::_,[],_,_,h=>by simp at h
 |a::as,b::bs,ha,hb,h=>by
  rw[Gbv,Gal] at ha hb
  simp only[fK,Gal] at h
  rw[tq ha.2 hb.2 h.2]
  have:a=b:=by
   have h1:=ha.1
   have h2:=hb.1
   have h3:=h.1
   cases a<;>simp[ff,tyD] at h1<;>cases b<;>simp[ff,tyD] at h2<;>simp at h3
   ·rfl
   ·rw[h3]
   ·rw[h3]
  rw[this]
theorem kq{b fin:Bool}{Q:Bool→Shared→Prop}:∀(l:List Value) (i:Nat),Q fin s→KatLex prog w A b fin Q (l.zip l) i s
 |[],_,h=>h
 |v::l,i,h=>by
  show wpAny _ _ (eqBool v v) _ _ s
  refine SeqAt.EqAt.same v prog w _ _ ?_
  rw[Gag rfl]
  exact kq l (i+1) h
end
section
variable{X:Cx}{pins:List (Addr×Obj)}{σ:St}{H:Hp}{z:Shared}{F:Addr→Prop}
theorem m9(I:Inv X pins σ H z){d:D}{y:V}{v:Value}{t:Nat}(r:Rep X.K F H d y)(rv:RelV y v)(h1:cR d=true)(h2:fq t (iE d)=true)(ht:t≠3):
  ∃(a:Addr) (its:List Value) (u:Value) (ur:List Value) (b:Addr) (fs:List D) (us:List Value),v= .ref a∧z.heap.IsTuple a its.toArray∧its=u::ur∧u= .ref b∧iE d= .tup fs∧fs.all ff=true∧z.heap.IsTuple b us.toArray∧Paired FlV fs us∧
   ∃x,Rep X.K F H (iE d) x∧RelV x u:=by
 cases r with
 | @tup a vs ds h l q=>
  cases ds with
  |nil=>simp[cR] at h1
  |cons f rr=>
   cases rv
   obtain⟨its,rvs,pt,_⟩:=I.tuple (SqT.of h)
   have h2' :fq t f=true:=h2
   obtain⟨f0,fr,ef,_,fl⟩:=fS ht h2'
   cases vs with
   |nil=>simp at l
   |cons x xs=>
    have rx:Rep X.K F H f x:=q 0 f x rfl rfl
    cases rvs with
    | @cons _ u _ ur ru _=>
     subst ef
     have rx' :=rx
     cases rx' with
     | @tup b ws _ hb lb qb=>
      have ru' :=ru
      cases ru'
      obtain⟨us,rus,pb,_⟩:=I.tuple (SqT.of hb)
      exact⟨a,_,_,_,b,f0::fr,us,rfl,pt,rfl,rfl,rfl,fl,pb,rB ⟨lb,qb⟩ fl rus,_,rx,ru⟩
 |_=>simp[cR] at h1
theorem kr(I:Inv X pins σ H z){M:Model}{t:Nat}(ht:t≠3):∀{ds:List D} {ys:List V} {vs:List Value},aq X.K F H ds ys→Vals ys vs→ds.all cR=true→(ds.map iE).all (fq t)=true→∃fs:List Value,KatTups z.heap vs fs∧fs.length=vs.length∧∀v∈fs,PySem.W.Looks M z.heap (typeOf v) (.type "tuple")
 |[],ys,vs,r,rv,_,_=>by
  have:=r.bD
  subst this
  cases rv
  exact⟨[],trivial,rfl,λv hv=>by cases hv⟩
 |d::ds,ys,vs,r,rv,h1,h2=>by
  obtain⟨y,yr,rfl,r1,r2⟩:=r.cons_inv
  rw[Gbv,Gal] at h1
  rw[GaH,Gbv,Gal] at h2
  cases rv with
  | @cons _ v _ vr rv1 rv2=>
   obtain⟨fs,g1,g2,g3⟩:=kr I (M:=M) ht r2 rv2 h1.2 h2.2
   obtain⟨a,its,u,ur,b,fds,us,rfl,p1,rfl,rfl,_,_,p2,_⟩:=m9 I r1 rv1 h1.1 h2.1 ht
   obtain⟨o,ho,hc,n,hd⟩:=p1
   obtain⟨ob,hob,hcb,_⟩:=p2
   refine⟨.ref b::fs,KatTups.cons ho hc hd (by simp) g1,by simp[g2],λv hv=> ?_⟩
   rcases Gar.mp hv with e|e
   ·subst e
    have:PySem.W.Looks M z.heap (typeOf (.ref b)) ob.cls:=(PySem.W.Looks.ld hob).andThen .now
    rw[hcb] at this;exact this
   ·exact g3 v e
theorem ma(I:Inv X pins σ H z){E:Value→Shared→Prop}{A:Around}(hu:A.units+12<cLine){ds:List D}{ys:List V}{vs:List Value}(r:aq X.K F H ds ys)(rv:Vals ys vs)(hok:cH ds=true):jd X.prog X.w A E z (ds.map cdN) vs:=by
 intro h2 Q hq
 unfold cH at hok
 rw[Gal,Gal,Gal,GaZ] at hok
 obtain⟨⟨⟨o1,o2⟩,o3⟩,o4⟩:=hok
 have hl:vs.length=ds.length:=by rw[←rv.length,r.1]
 obtain⟨t,ht,o2⟩:∃t,t≠3∧(ds.map iE).all (fq t)=true:=by
  rcases o2 with q|q
  ·exact⟨1,by decide,q⟩
  ·exact⟨2,by decide,q⟩
 obtain⟨fs,g1,g2,g3⟩:=kr I (M:=model X.prog X.w) ht r rv o1 o2
 refine kat_kind (T:= .type "tuple") g1 (by omega) g3 (by rfl) (hq _ λi j C hi hj hC=> ?_)
 have bf:(Value.type "tuple" !=Value.type "tuple")=false:=by decide
 rw[bf]
 unfold kas_ask
 have gi:vs.getD i Value.none=vs[i]:=by simp[hi]
 have gj:vs.getD j Value.none=vs[j]:=by simp[hj]
 rw[gi,gj]
 have hi' :i<ds.length:=by omega
 have hj' :j<ds.length:=by omega
 have hyi:i<ys.length:=by rw[←r.1];exact hi'
 have hyj:j<ys.length:=by rw[←r.1];exact hj'
 have at_:∀{ys:List V} {vs:List Value},Vals ys vs→∀(i:Nat) (h1:i<ys.length) (h2:i<vs.length),RelV ys[i] vs[i]:=by
  intro ys vs hv
  induction hv with
  |nil=>intro i h1;simp at h1
  |cons h t ih=>
   intro i h1 h2
   cases i with
   |zero=>exact h
   |succ i=>exact ih i (by simpa using h1) (by simpa using h2)
 have keyAll:∀(i:Nat) (h:i<ds.length),fq t (iE ds[i])=true:=λi h=>Gao.mp o2 _ (Gay.mpr ⟨ds[i],GaN h,rfl⟩)
 obtain⟨a,its,u,ur,b,fds,us,ev,p1,eits,eu,ef,fl,p2,pf,x,rx,rxu⟩:=m9 I (r.2 i ds[i] ys[i] (by simp[hi']) (by simp[hyi])) (at_ rv i hyi hi) (Gao.mp o1 _ (GaN hi')) (keyAll i hi') ht
 obtain⟨a',its',u',ur',b',fds',us',ev',p1',eits',eu',ef',fl',p2',pf',x',rx',rxu'⟩:=m9 I (r.2 j ds[j] ys[j] (by simp[hj']) (by simp[hyj])) (at_ rv j hyj hj) (Gao.mp o1 _ (GaN hj')) (keyAll j hj') ht
 rw[ev,ev']
 obtain⟨o,ho,hc,n,hd⟩:=p1
 obtain⟨o',ho',hc',n',hd'⟩:=p1'
 refine kat_lt ho hd ho' hd' ?_
 have plain:∀{l:List D},l.all ff=true→a9 10 (.tup l)=true:=λ{l} hl=>by
  show l.all (a9 9)=true
  refine Gao.mpr λd hd=> ?_
  have:=Gao.mp hl d hd
  cases d<;>simp[ff,tyD] at this<;>rfl
 have nod:=dE.mp o4
 have cmp:=Gao.mp (Gao.mp o3 _ (Gay.mpr ⟨ds[i],GaN hi',rfl⟩)) _ (Gay.mpr ⟨ds[j],GaN hj',rfl⟩)
 have eq:=j6 I 10 (A:=A) (by rw[ef];exact plain fl) (by rw[ef'];exact plain fl') rx rx' rxu rxu' (by omega)
 have rk:=kM (cs:=ds.map cdN) (i:=i) (j:=j) (by simpa using hi') (by simpa using hj')
 simp only[GbM] at rk
 rw[ef,ef'] at eq cmp
 by_cases ee:eqD (.tup fds) (.tup fds')=true
 ·have e1:fds=fds' :=tq fl fl' (by simpa using ee)
  have e2:cdN ds[i]=cdN ds[j]:=by unfold cdN;rw[ef,ef',e1]
  have ij:i=j:=by
   have:=(List.getElem_inj (i:=i) (j:=j) (h₀:=by simpa using hi') (h₁:=by simpa using hj') nod).mp (by simpa using e2)
   exact this
  subst ij
  rw[ev] at ev'
  cases ev'
  rw[ho] at ho';cases ho'
  rw[hd] at hd'
  have es:its' =its:=by
   have:its'.toArray=its.toArray:=by injection hd' with z;exact z.symm
   simpa using this
  subst es
  refine kq _ _ ?_
  rw[GaD (Int.lt_irrefl _)] at hC
  simpa using hC
 ·have en:eqD (.tup fds) (.tup fds')=false:=by simpa using ee
  rw[en] at eq
  subst eits eits'
  show wpAny _ _ (eqBool u u') _ _ z
  refine eq X.prog X.w _ _ ?_
  rw[Gaf Gaz]
  show wpAny _ _ (oneLt' (false&&(0:Nat)==0) u u') _ _ z
  rw[Bool.false_and]
  refine kat_one _ _ ?_
  have an:=wH (A:=A.in1) (z:=z) pf pf' cmp
  rw[pf.length,pf'.length] at an
  subst eu eu'
  refine FF (A:=A) p2 p2' (by omega) (by simpa using an) X.prog X.w _ _ ?_
  rw[rk] at hC
  unfold cdN at hC
  rw[ef,ef'] at hC
  exact hC
theorem ku{cd:D→List (List Int)}{ds:List D}{p:Array Nat}(h:Ord ds.length p)(hu:Up (rank (ds.map cd)) p ds.length):fO cd (p.toList.map λi=>ds.getD i .non):=by
 refine GbQ.mpr λi j hi hj hij=> ?_
 rw[Gan] at hi hj
 rw[GbM,GbM]
 have bi:=oO h hi
 have bj:=oO h hj
 have hs:=h.size
 have hi' :i<p.size:=by simpa using hi
 have hj' :j<p.size:=by simpa using hj
 have u:=hu i j (Gcq hij) (by omega)
 unfold b4 at u
 have ei:p.getD i 0=p.toList[i]:=by simp[Array.getD,hi']
 have ej:p.getD j 0=p.toList[j]:=by simp[Array.getD,hj']
 rw[ei,ej] at u
 have r:=kM (cs:=ds.map cd) (i:=p.toList[j]) (j:=p.toList[i]) (by simpa using bj) (by simpa using bi)
 rw[GaD (GcW.mpr u)] at r
 simp only[GbM] at r
 have gd:∀{k:Nat} (hk:k<ds.length),ds.getD k .non=ds[k]:=λ{k} hk=>by simp[hk]
 have gi:=gd bi
 have gj:=gd bj
 rw[gi,gj]
 exact r.symm
noncomputable def qg(K:aa):List V→Hp→VK→Prop:=λxs H Q=>∃(p:Addr) (ds:List D) (vs:List V) (F:Addr→Prop),xs=[.ref p]∧(SqL K H p vs∨SqT K H p vs)∧aq K F H ds vs∧ds.length<64∧cH ds=true∧
 ∀l out,H l=none→(∀F',aq K F' H ds vs→aq K F' H (gc cdN ds) out)→Q (.ref l) (upd H l (.lst out))
theorem je(hu:X.A.units+20<cLine):cP X (.builtin "sorted") (qg X.K):=by
 intro pins s σ H xs us Q I rv h
 obtain⟨p,ds,vs,F,rfl,hq,hr,h64,hok,q⟩:=h
 obtain⟨u,rfl,ru⟩:=rv.one
 cases ru
 obtain⟨o,T,n,its,ho,hc,hT,hd,rvs⟩:∃(o:Obj) (T:String) (n:Nat) (its:List Value),s.heap.get? p=some o∧o.cls= .type T∧(T="list"∨T="tuple")∧o.data= .seq its.toArray n∧Vals vs its:=by
  rcases hq with hq|hq
  ·obtain⟨its,rvs,pl,_⟩:=I.list hq
   obtain⟨o,h1,h2,n,h3⟩:=pl.isList
   exact⟨o,"list",n,its,h1,h2,.inl rfl,h3,rvs⟩
  ·obtain⟨its,rvs,⟨o,h1,h2,n,h3⟩,_⟩:=I.tuple hq
   exact⟨o,"tuple",n,its,h1,h2,.inr rfl,h3,rvs⟩
 have e1:its.length=ds.length:=by rw[←rvs.length,hr.1]
 refine rK (cs:=ds.map cdN) ho hc hT hd (by omega) (λG keep A' hA' =>ma (I.kept (t' :=s.toks) keep) (by omega) hr rvs hok) λod h1 h2=> ?_
 have h1' :Ord ds.length od:=by rw[←e1];exact h1
 have h2' :Up (rank (ds.map cdN)) od ds.length:=by rw[←e1];exact h2
 have nod:(ds.map cdN).Nodup:=by
  unfold cH at hok
  rw[Gal] at hok
  exact dE.mp hok.2
 have uniq:(od.toList.map λi=>ds.getD i .non)=gc cdN ds:=dD ((cI h1').trans (iF ds).symm) (ku h1' h2') (df ds) λa ha b hb=>fP nod a ((cI h1').mem_iff.mp ha) b ((cI h1').mem_iff.mp hb)
 obtain⟨c,hat⟩:=sortedAll_at s.heap its (List.toArray (od.toList.map λi=>its.getD i Value.none))
 have fresh:H (s.heap.objs.size+1)=none:=I.hok.fresh (GcD _)
 have h1v:Ord vs.length od:=by rw[←hr.1];exact h1'
 refine⟨.ref (s.heap.objs.size+1),_,I.laid (a:=s.heap.objs.size+1) (o:= .lst (od.toList.map λi=>vs.getD i .non)) (t' :=s.toks) (λb ob e=>sortedAll_old e) (GcD _) ?_,rfl,q _ _ fresh λF' r=> ?_⟩
 ·refine⟨?_,_,c,lW h1v rvs,hat⟩
  rw[Gan,GaE,h1v.size,←hr.1,Gbw]
  omega
 ·rw[←uniq]
  exact lV h1' r
theorem iu:CallD X j2 (qg X.K):=by
 intro F H ds vs rv Q ps e k
 obtain⟨d,xs,rfl,h1,h2⟩:=wd e
 split at h2
 ·rename_i c
  rw[Gal] at c
  cases h2
  obtain⟨v,rfl,i⟩:=cX ps
  obtain⟨p,vs,rfl,hs,r⟩:=wc i h1
  exact⟨p,xs,vs,F,rfl,hs,r,GaG c.1,c.2,λl out hl hr=>k _ _ (aX hl) ⟨l,rfl,hl,jH,rfl,cj hl (hr F r)⟩⟩
 ·cases h2
end
section
variable{X:Cx}{e a b c:Expr}{f g h:DE}{pos:Pos}
theorem aq.dropLast{K:aa}{F:Addr→Prop}{H:Hp}{ds:List D}{vs:List V}(h:aq K F H ds vs):aq K F H ds.dropLast vs.dropLast:=by
 rw[List.dropLast_eq_take,List.dropLast_eq_take,←h.1]
 exact h.take _
theorem uK{i:Nat}{x:Str}{px apos cpos px2 apos2 cpos2:Pos}(hN:X.N[i]? =some x)(hv:Vis X.env.scope x)(he:PEd X e f)(hd:(x==("__debug__":Str))=false:=by decide)(hcd:(x==("__classdict__":Str))=false:=by decide)
  (hs1:starEach [e,.Call (.Attribute (.Name x px2) "pop" apos2) [] [] cpos2] X.env=(false,eval e X.env)::starEach [.Call (.Attribute (.Name x px2) "pop" apos2) [] [] cpos2] X.env:=by rfl)
  (hs2:starEach [.Call (.Attribute (.Name x px2) "pop" apos2) [] [] cpos2] X.env=[(false,eval (.Call (.Attribute (.Name x px2) "pop" apos2) [] [] cpos2) X.env)]:=by rfl)
  (hbase:attributeBase (.Name x px) "insert" X.env (eval (.Name x px) X.env)=eval (.Name x px) X.env:=by rfl)
  (hbase2:attributeBase (.Name x px2) "pop" X.env (eval (.Name x px2) X.env)=eval (.Name x px2) X.env:=by rfl)
  (hfew:((backTo cpos (starEach [e,.Call (.Attribute (.Name x px2) "pop" apos2) [] [] cpos2] X.env)).all (λx=> !x.1)&&(backToKw cpos (keywordEach [] X.env)).all (λx=>x.1.isSome)
   &&decide (([e,.Call (.Attribute (.Name x px2) "pop" apos2) [] [] cpos2]:List Expr).length+([]:List Keyword).length+(if([]:List Keyword).isEmpty then 0 else 1)<30))=true:=by rfl)
  (hline:(apos.endLine==cpos.line)=true:=by rfl)(hline2:(apos2.endLine==cpos2.line)=true:=by rfl)
  (hs:swapsWith (.Call (.Attribute (.Name x px) "insert" apos) [e,.Call (.Attribute (.Name x px2) "pop" apos2) [] [] cpos2] [] cpos) none pos.line X.env=pure false:=by rfl):
  PSd X (.Expr (.Call (.Attribute (.Name x px) "insert" apos) [e,.Call (.Attribute (.Name x px2) "pop" apos2) [] [] cpos2] [] cpos) pos) (sL i f):=by
 refine(oo (BW Gcw PySem.F.slot_list_insert PySem.F.type_list_insert uD (iA hN hv hd hcd)
  (dS he (dS (qZ Gcw PySem.F.slot_list_pop PySem.F.type_list_pop CM (iA hN hv hd hcd) hbase2 hline2) jA hs2) hs1) hbase hfew hline hs1 (by rw[hs2];rfl)) hs).aC ?_
 rintro D σ H ⟨H₀,Bad,env,o,E,e,k⟩
 obtain⟨r,hr,e⟩:=bind_some e
 obtain⟨d,hd,e⟩:=bind_some e
 have q:=j4 hd
 obtain⟨kd,rd⟩:=r
 split at e
 ·rename_i xs j hj
  have hj' :rd= .int j:=hj
  split at e
  ·rename_i y hy
   split at e
   ·rename_i z
    rw[Gal] at z
    obtain⟨z2,z3⟩:=z
    cases e
    subst hj'
    obtain⟨a,h1,h2,h3,h4,h5,h6⟩:=E.ow i _ (.inl q)
    obtain⟨vs,hH,rp⟩:=kQ h4 h6
    refine⟨_,h1,.inl ⟨rfl,vs,.inl (.inl hH)⟩,H₀,Bad,env,⟨kd,.int j⟩,E,hr,λv1 H2 s2 R1=> ?_⟩
    have i1:=R1.inn
    cases i1
    have hH2:=s2 _ _ hH
    have rp1:aq X.K (Cln Bad env σ) H2 xs vs:=rp.gen (.of_same s2) λ_ f _=>f
    obtain⟨yv,hyv,ry⟩:=rp1.get hy
    rw[rp1.1] at hyv
    refine⟨_,h1,.inl ⟨rfl,vs,.inl (.inl hH2)⟩,a,vs,yv,rfl,rfl,hH2,hyv, ?_⟩
    have sj:=iJ z3
    refine⟨a,vs.dropLast,j,yv,rfl,rfl,av, ?_,sj.1,sj.2, ?_⟩
    ·have:=GaG z2
     rw[List.length_dropLast,←rp1.1,←size_eq]
     omega
    ·rw[Ar]
     have E2:=E.mono s2
     have rpd:=rp1.dropLast
     have rp2:aq X.K (Cln Bad env σ) H2 (dW xs.dropLast j y) (dW vs.dropLast j yv):=by
      unfold dW
      rw[←rpd.1]
      exact(rpd.take _).append (.cons ry (rpd.drop _))
     obtain⟨E3,p3⟩:=E2.change (d' := .lst (dW xs.dropLast j y)) (o:= .lst (dW vs.dropLast j yv)) q h1 trivial rfl (.lst (.inl av) (rp2.gen (λb o hb w=>by
      have:b≠a:=by
       rintro rfl
       rcases w with w|w
       ·exact w.2 i (by rw[q];trivial) h1
       ·rw[hH2] at hb;cases hb;exact w
      rw[ay this];exact hb) λ_ f _=>f))
     exact k σ _ E3 ((Stp.of_same s2).trans p3)
   ·cases e
  ·cases e
 ·cases e
end
structure Hq(K:aa)(Bad:Addr→Prop)(env:Env)(σ:St)(H:Hp)(i:Nat)(p:Addr)(as:List Addr)(rows:List (List D)):Prop where
 at_:σ[i]? =some (some (.ref p))
 hid:env[i]? =some none
 top:H p=some (.lst (as.map V.ref))
 nd:(p::as).Nodup
 len:as.length=rows.length
 row:∀(k:Nat) a ds,as[k]? =some a→rows[k]? =some ds→∃vs,H a=some (.lst vs)∧aq K (Cln Bad env σ) H ds vs
 bad:∀b∈p::as,Bad b
structure Hr(as:List Addr)(env:Env)(σ:St)(H:Hp)(env' :Env)(σ' :St)(H' :Hp):Prop where
 keep:∀b o,H b=some o→¬Ow env σ b→b∉as→H' b=some o
 ow:∀b,Ow env' σ' b→Ow env σ b∨H b=none
 lk:∀i:Nat,oC env'[i]? →env'[i]? =env[i]? ∧σ'[i]? =σ[i]?
 th:∀b∈as,H' b≠none
section
variable{K:aa}{H₀ H H' H1:Hp}{Bad Bad' :Addr→Prop}{env env' :Env}{σ σ' :St}{d:D}{v:V}{a p:Addr}{i j:Nat}{as:List Addr}{rows:List (List D)}
theorem Ek{b:Addr}(h:Cln Bad env σ b):Cln Bad (env.set j (some (.sh d))) (σ.set j (some v)) b:=⟨h.1,λk t e=>by
 obtain⟨q,t⟩:=cT t
 rw[Gaj q] at e
 exact h.2 k t e⟩
end
open PySem PyProof.Rows
noncomputable abbrev SM:=StateT SortSt Sem
noncomputable def gf:Bool→Keyed→Array Keyed→Nat→Nat→Nat→SM (Option Nat):=sortPriv%PySem.Builtin.gallop
noncomputable def Bs(far:Nat→SM (Option Bool))(n l0 r0:Nat):SM (Option Nat):=do
 let mut lo:=l0
 let mut hi:=r0
 for _ in [0:n] do
  if lo≥hi then break
  let md:=lo+(hi -lo)/2
  let some mo←far md|return none
  if mo then lo:=md+1 else hi:=md
 return some hi
noncomputable def Df(far:Nat→SM (Option Bool))(n h0:Nat):SM (Option Nat):=do
 let some rt←far h0|return none
 if rt then
  let mut lst:=0
  let mut nxt:=1
  for _ in [0:n] do
   if nxt≥n -h0 then break
   let some mo←far (h0+nxt)|return none
   if !mo then break
   lst:=nxt
   nxt:=2*nxt+1
  Bs far n (h0+lst+1) (h0+min nxt (n -h0))
 else
  let mut lst:=0
  let mut nxt:=1
  for _ in [0:n] do
   if nxt≥h0+1 then break
   let some fd←far (h0 -nxt)|return none
   if fd then break
   lst:=nxt
   nxt:=2*nxt+1
  Bs far n (h0+1 -min nxt (h0+1)) (h0 -lst)
noncomputable def C8(lf:Bool)(kx:Keyed)(xs:Array Keyed)(b0 u:Nat):SM (Option Bool):=do
 let y←elem' xs (b0+u)
 if lf then lt' y kx else return(←lt' kx y).map (!·)
theorem wI(lf:Bool)(kx:Keyed)(xs:Array Keyed)(b0 n h0:Nat):gf lf kx xs b0 n h0=Df (C8 lf kx xs b0) n h0:=rfl
theorem bQ{M:Model}{A:Around}{E:Value→Shared→Prop}{s:Shared}{σ α:Type}{c:Prop}{_:Decidable c}{x y:StateT σ Sem α}{Q:α→σ→Prop}{st:σ}(h1:c→wpS M A E s x Q st)(h2:¬c→wpS M A E s y Q st):wpS M A E s (if c then x else y) Q st:=by
 by_cases h:c
 ·rw[Gag h];exact h1 h
 ·rw[Gaf h];exact h2 h
section
variable{M:Model}{A:Around}{E:Value→Shared→Prop}{s:Shared}{st:SortSt}{far:Nat→SM (Option Bool)}{n:Nat}{B:Nat→Bool}{Q:Option Nat→SortSt→Prop}
noncomputable def Cut(B:Nat→Bool)(n k:Nat):Prop:=k≤n∧(∀u,u<k→B u=true)∧∀u,k≤u→u<n→B u=false
theorem tu{lo hi:Nat}(hf:∀u,u<n→∀R:Option Bool→SortSt→Prop,R (some (B u)) st→wpS M A E s (far u) R st)(mB:∀u v,u≤v→v<n→B v=true→B u=true)(h1:lo≤hi)(h2:hi≤n)
  (hlo:∀u,u<lo→B u=true)(hhi:∀u,hi≤u→u<n→B u=false)(h:∀k,Cut B n k→Q (some k) st):wpS M A E s (Bs far n lo hi) Q st:=by
 unfold Bs
 refine Gak (GbA (Gbk (I:=λi c z=>z=st∧∃lo hi,c=(none,lo,hi)∧lo≤hi∧hi≤n∧hi -lo≤n -i∧(∀u,u<lo→B u=true)∧(∀u,hi≤u→u<n→B u=false))
  (Q:=λc z=>z=st∧∃lo hi,c=(none,lo,hi)∧Cut B n hi) ?step ?fin ⟨rfl,lo,hi,rfl,h1,h2,by omega,hlo,hhi⟩) ?post)
 case fin=>
  rintro c z ⟨rfl,lo,hi,rfl,q1,q2,q3,q4,q5⟩
  have:lo=hi:=by
   have:max 0 n=n:=by omega
   omega
  subst this
  exact⟨rfl,_,_,rfl,q2,q4,q5⟩
 case step=>
  rintro i c z _ hi' ⟨rfl,lo,hi,rfl,q1,q2,q3,q4,q5⟩
  dsimp only
  by_cases g:lo≥hi
  ·rw[Gag g]
   have:lo=hi:=by omega
   subst this
   exact Gat ⟨rfl,_,_,rfl,q2,q4,q5⟩
  ·rw[Gaf g]
   refine Gak (hf _ (by omega) _ ?_)
   dsimp only
   cases b:B (lo+(hi -lo)/2) with
   |true=>
    simp only[Gbp]
    exact Gat ⟨rfl,_,_,rfl,by omega,q2,by omega,λu hu=>mB u _ (by omega) (by omega) b,q5⟩
   |false=>
    simp only[Gax,GaS]
    refine Gat ⟨rfl,_,_,rfl,by omega,by omega,by omega,q4,λu hu hn=> ?_⟩
    cases b' :B u with
    |false=>rfl
    |true=>rw[mB _ u hu hn b'] at b;cases b
 case post=>
  rintro c z ⟨rfl,lo,hi,rfl,q⟩
  exact Gat (h hi q)
theorem Bt{h0:Nat}(hf:∀u,u<n→∀R:Option Bool→SortSt→Prop,R (some (B u)) st→wpS M A E s (far u) R st)(mB:∀u v,u≤v→v<n→B v=true→B u=true)(hh:h0<n)
  (h:∀k,Cut B n k→Q (some k) st):wpS M A E s (Df far n h0) Q st:=by
 unfold Df
 refine Gak (hf _ hh _ ?_)
 dsimp only
 cases b:B h0 with
 |true=>
  simp only[Gbp]
  refine Gak (GbA (Gbk (I:=λi c z=>z=st∧∃l o,c=(none,l,o)∧l<o∧l<n -h0∧i+1≤o∧B (h0+l)=true)
   (Q:=λc z=>z=st∧∃l o,c=(none,l,o)∧l<o∧l<n -h0∧B (h0+l)=true∧(o≥n -h0∨B (h0+o)=false)) ?step ?fin ⟨rfl,0,1,rfl,by omega,by omega,by omega,b⟩) ?post)
  case fin=>
   rintro c z ⟨rfl,l,o,rfl,q1,q2,q3,q4⟩
   exact⟨rfl,l,o,rfl,q1,q2,q4,.inl (by omega)⟩
  case step=>
   rintro i c z _ hi' ⟨rfl,l,o,rfl,q1,q2,q3,q4⟩
   dsimp only
   by_cases g:o≥n -h0
   ·rw[Gag g]
    exact Gat ⟨rfl,l,o,rfl,q1,q2,q4,.inl g⟩
   ·rw[Gaf g]
    refine Gak (hf _ (by omega) _ ?_)
    dsimp only
    cases b' :B (h0+o) with
    |false=>
     simp only[Bool.not_false,Gbp]
     exact Gat ⟨rfl,l,o,rfl,q1,q2,q4,.inr b'⟩
    |true=>
     simp only[Gcy,Gax,GaS]
     exact Gat ⟨rfl,o,2*o+1,rfl,by omega,by omega,by omega,b'⟩
  case post=>
   rintro c z ⟨rfl,l,o,rfl,q1,q2,q3,q4⟩
   dsimp only
   refine tu hf mB (by omega) (by omega) (λu hu=>mB u (h0+l) (by omega) (by omega) q3) (λu hu hn=> ?_) h
   rcases q4 with q4|q4
   ·omega
   ·by_cases w:o≥n -h0
    ·omega
    ·cases b' :B u with
     |false=>rfl
     |true=>rw[mB (h0+o) u (by omega) hn b'] at q4;cases q4
 |false=>
  simp only[Gax,GaS]
  refine Gak (GbA (Gbk (I:=λi c z=>z=st∧∃l o,c=(none,l,o)∧l<o∧l<h0+1∧i+1≤o∧B (h0 -l)=false)
   (Q:=λc z=>z=st∧∃l o,c=(none,l,o)∧l<o∧l<h0+1∧B (h0 -l)=false∧(o≥h0+1∨B (h0 -o)=true)) ?step ?fin ⟨rfl,0,1,rfl,by omega,by omega,by omega,b⟩) ?post)
  case fin=>
   rintro c z ⟨rfl,l,o,rfl,q1,q2,q3,q4⟩
   exact⟨rfl,l,o,rfl,q1,q2,q4,.inl (by omega)⟩
  case step=>
   rintro i c z _ hi' ⟨rfl,l,o,rfl,q1,q2,q3,q4⟩
   dsimp only
   by_cases g:o≥h0+1
   ·rw[Gag g]
    exact Gat ⟨rfl,l,o,rfl,q1,q2,q4,.inl g⟩
   ·rw[Gaf g]
    refine Gak (hf _ (by omega) _ ?_)
    dsimp only
    cases b' :B (h0 -o) with
    |true=>
     simp only[Gbp]
     exact Gat ⟨rfl,l,o,rfl,q1,q2,q4,.inr b'⟩
    |false=>
     simp only[Gax,GaS]
     exact Gat ⟨rfl,o,2*o+1,rfl,by omega,by omega,by omega,b'⟩
  case post=>
   rintro c z ⟨rfl,l,o,rfl,q1,q2,q3,q4⟩
   dsimp only
   refine tu hf mB (by omega) (by omega) (λu hu=> ?_) (λu hu hn=> ?_) h
   ·rcases q4 with q4|q4
    ·omega
    ·by_cases w:o≥h0+1
     ·omega
     ·exact mB u (h0 -o) (by omega) (by omega) q4
   ·cases b' :B u with
    |false=>rfl
    |true=>rw[mB (h0 -l) u (by omega) hn b'] at q3;cases q3
end
open PySem.W (kas_item)
noncomputable def me:Nat→SM Unit:=sortPriv%PySem.Builtin.setMinGallop
theorem jf(g:Nat):me g=modify (λz=>SortSt.mk' (kindOf z) (arrOf z) (pendingOf z) g (failedOf z)):=rfl
noncomputable def Srt(rk:Nat→Int)(p:List Nat):Prop:=p.Pairwise λx y=>rk x≤rk y
noncomputable def d9(prog:Program)(w:World)(A:Around)(s:Shared)(κ:SortKind)(it:Array Keyed)(rk:Nat→Int):Prop:=
 ∀i j,i<it.size→j<it.size→∀C:Bool→Shared→Prop,C (decide (rk i<rk j)) s→wpAny (model prog w) A (keyLt' κ (kas_item it i).1 (kas_item it j).1) C (λ_ _=>False) s
noncomputable def aB(it:Array Keyed)(a:Array Keyed)(p:List Nat):Prop:=a=(p.map (kas_item it)).toArray∧∀i∈p,i<it.size
noncomputable def aP(z z' :SortSt):Prop:=kindOf z' =kindOf z∧arrOf z' =arrOf z∧pendingOf z' =pendingOf z∧failedOf z' =failedOf z
theorem aP.refl{z:SortSt}:aP z z:=⟨rfl,rfl,rfl,rfl⟩
theorem aP.trans{x y z:SortSt}(a:aP x y)(b:aP y z):aP x z:=⟨b.1.trans a.1,b.2.1.trans a.2.1,b.2.2.1.trans a.2.2.1,b.2.2.2.trans a.2.2.2⟩
section
variable{it:Array Keyed}{a b:Array Keyed}{p q:List Nat}
theorem aB.size(R:aB it a p):a.size=p.length:=by rw[R.1];simp
theorem aB.get{k i:Nat}(R:aB it a p)(h:p[k]? =some i):a[k]? =some (kas_item it i):=by rw[R.1];simp[h]
theorem aB.lt{k i:Nat}(R:aB it a p)(h:p[k]? =some i):i<it.size:=R.2 i (GaJ h)
theorem aB.push{i:Nat}(R:aB it a p)(hi:i<it.size):aB it (a.push (kas_item it i)) (p++[i]):=⟨by rw[R.1];simp,λj hj=>by
 rcases GaL.mp hj with h|h
 ·exact R.2 j h
 ·simp at h;subst h;exact hi⟩
theorem aB.append(R:aB it a p)(S:aB it b q):aB it (a++b) (p++q):=⟨by rw[R.1,S.1];simp,λj hj=>(GaL.mp hj).elim (R.2 j) (S.2 j)⟩
theorem aB.sub(R:aB it a p){l:List Nat}(h:∀x∈l,x∈p){c:Array Keyed}(e:c=(l.map (kas_item it)).toArray):aB it c l:=⟨e,λj hj=>R.2 j (h j hj)⟩
theorem aB.extract(R:aB it a p)(i j:Nat):aB it (a.extract i j) ((p.drop i).take (j -i)):=by
 refine R.sub (λx hx=>GbE (Gbs hx)) ?_
 apply Gcr.mp
 rw[R.1]
 simp[List.map_take,List.map_drop,List.extract_eq_take_drop]
theorem aB.drop(R:aB it a p)(i:Nat):aB it (a.extract i a.size) (p.drop i):=by
 have:=R.extract i a.size
 rw[R.size,Gci (by simp)] at this
 rw[R.size];exact this
theorem aB.reverse(R:aB it a p):aB it a.reverse p.reverse:=by
 refine R.sub (λx hx=>GbN.mp hx) ?_
 rw[R.1];simp
end
section
variable{prog:Program}{w:World}{A:Around}{E:Value→Shared→Prop}{s:Shared}{st:SortSt}{κ:SortKind}{it:Array Keyed}{rk:Nat→Int}
theorem qh{i j:Nat}{Q:Option Bool→SortSt→Prop}(hA:d9 prog w A s κ it rk)(hk:kindOf st=κ)(hi:i<it.size)(hj:j<it.size)(h:Q (some (decide (rk i<rk j))) st):wpS (model prog w) A E s (lt' (kas_item it i) (kas_item it j)) Q st:=by
 rw[lt'_eq]
 refine Gak (GcS ?_)
 rw[hk]
 refine Gak (wpS_lift (wpAny_attempt (GbS (hA i j hi hj (λb z=>z=s∧b=decide (rk i<rk j)) ⟨rfl,rfl⟩) (λb z hb=> ⟨hb.1, ?_⟩) λ_ _ f=>f.elim)))
 rw[hb.2]
 exact Gat h
theorem aQ{a:Array Keyed}{p:List Nat}{k i:Nat}{Q:Keyed→SortSt→Prop}(R:aB it a p)(hk:p[k]? =some i)(h:Q (kas_item it i) st):wpS (model prog w) A E s (elem' a k) Q st:=by
 rw[elem'_eq,R.get hk]
 exact Gat h
theorem kU{l:List Nat}(h:Srt rk l):∀{u v x y:Nat},u≤v→l[u]? =some x→l[v]? =some y→rk x≤rk y:=by
 intro u v x y huv hx hy
 rcases GaY u v with c|c
 ·obtain⟨h1,rfl⟩:=Gac.mp hx
  obtain⟨h2,rfl⟩:=Gac.mp hy
  exact GbQ.mp h u v h1 h2 c
 ·have:u=v:=by omega
  subst this
  rw[hx] at hy;cases hy;exact Gbo _
theorem jS{lf:Bool}{xs:Array Keyed}{ps:List Nat}{ik b0 n h0:Nat}{Q:Option Nat→SortSt→Prop}(hA:d9 prog w A s κ it rk)(hk:kindOf st=κ)(R:aB it xs ps)(hi:ik<it.size)(hn:b0+n≤ps.length)(hs:Srt rk ((ps.drop b0).take n))(hh:h0<n)
  (h:∀k,k≤n→(∀x∈((ps.drop b0).take n).take k,if lf=true then rk x<rk ik else rk x≤rk ik)→(∀x∈((ps.drop b0).take n).drop k,if lf=true then rk ik≤rk x else rk ik<rk x)→Q (some k) st):
  wpS (model prog w) A E s (gf lf (kas_item it ik) xs b0 n h0) Q st:=by
 rw[wI]
 have len:((ps.drop b0).take n).length=n:=by simp;omega
 have at_:∀u,u<n→∃x,((ps.drop b0).take n)[u]? =some x∧ps[b0+u]? =some x:=λu hu=>by
  have h1:u<((ps.drop b0).take n).length:=by rw[len];exact hu
  refine⟨((ps.drop b0).take n)[u],Gaa h1, ?_⟩
  have:=Gaa h1
  rw[GaK hu,GaW] at this
  exact this
 have fin:∀B:Nat→Bool,(∀u x,((ps.drop b0).take n)[u]? =some x→B u=if lf=true then decide (rk x<rk ik) else !decide (rk ik<rk x))→∀k,Cut B n k→Q (some k) st:=by
  intro B hB k ⟨c1,c2,c3⟩
  refine h k c1 (λx hx=> ?_) (λx hx=> ?_)
  ·obtain⟨u,hu⟩:=Gbn.mp hx
   have hu' :u<k:=by have:=(Gac.mp hu).1;simp at this;omega
   rw[GaK hu'] at hu
   have b:=c2 u hu'
   rw[hB u x hu] at b
   cases lf with
   |true=>simpa using b
   |false=>simpa using b
  ·obtain⟨u,hu⟩:=Gbn.mp hx
   rw[GaW] at hu
   have hu' :k+u<n:=by have:=(Gac.mp hu).1;rw[len] at this;exact this
   have b:=c3 (k+u) (by omega) hu'
   rw[hB _ x hu] at b
   cases lf with
   |true=>simpa using b
   |false=>simpa using b
 refine Bt (B:=λu=>if lf=true then decide (rk (((ps.drop b0).take n).getD u 0)<rk ik) else !decide (rk ik<rk (((ps.drop b0).take n).getD u 0))) (λu hu R' hR=> ?_) (λu v huv hv b=> ?_) hh (fin _ λu x hx=>by simp[List.getD,hx])
 ·obtain⟨x,h1,h2⟩:=at_ u hu
  have e:((ps.drop b0).take n).getD u 0=x:=by simp[List.getD,h1]
  simp only[e] at hR
  unfold C8
  refine Gak (aQ R h2 ?_)
  cases lf with
  |true=>
   simp only[Gbp] at hR⊢
   exact qh hA hk (R.lt h2) hi hR
  |false=>
   simp only[Gax,GaS] at hR⊢
   exact Gak (qh hA hk hi (R.lt h2) (Gat hR))
 ·obtain⟨x,h1,_⟩:=at_ u (by omega)
  obtain⟨y,h2,_⟩:=at_ v hv
  have e1:((ps.drop b0).take n).getD u 0=x:=by simp[List.getD,h1]
  have e2:((ps.drop b0).take n).getD v 0=y:=by simp[List.getD,h2]
  have le:=kU hs huv h1 h2
  simp only[e1,e2] at b⊢
  cases lf with
  |true=>simp at b⊢;omega
  |false=>simp at b⊢;omega
end
noncomputable def Dg:Array Keyed→Array Keyed→SM (Array Keyed):=sortPriv%PySem.Builtin.mergeLo
theorem Bu(a b:Array Keyed):Dg a b=(do
 rule "list.sort.merge-lo"
 let tot:=a.size+b.size
 let fin (o:Array Keyed) (u v:Nat):=o++a.extract u a.size++b.extract v b.size
 let las (o:Array Keyed) (u v:Nat):=o++b.extract v b.size++a.extract u a.size
 let mut o:Array Keyed:=#[←elem' b 0]
 let mut u:=0
 let mut v:=1
 if v==b.size then return fin o u v
 if u+1==a.size then return las o u v
 let mut mg:=gallopOf (←get)
 for _ in [0:tot] do
  let mut ca:=0
  let mut cb:=0
  for _ in [0:tot] do
   let some w←lt' (←elem' b v) (←elem' a u)|return fin o u v
   if w then
    o:=o.push (←elem' b v);v:=v+1;cb:=cb+1;ca:=0
    if v==b.size then return fin o u v
    if cb≥mg then break
   else
    o:=o.push (←elem' a u);u:=u+1;ca:=ca+1;cb:=0
    if u+1==a.size then return las o u v
    if ca≥mg then break
  rule "list.sort.gallop"
  mg:=mg+1
  for _ in [0:tot] do
   if mg>1 then mg:=mg -1
   me mg
   let some k←gf false (←elem' b v) a u (a.size -u) 0|return fin o u v
   ca:=k
   if k>0 then
    o:=o++a.extract u (u+k);u:=u+k
    if u+1==a.size then return las o u v
    if u==a.size then return fin o u v
   o:=o.push (←elem' b v);v:=v+1
   if v==b.size then return fin o u v
   let some k←gf true (←elem' a u) b v (b.size -v) 0|return fin o u v
   cb:=k
   if k>0 then
    o:=o++b.extract v (v+k);v:=v+k
    if v==b.size then return fin o u v
   o:=o.push (←elem' a u);u:=u+1
   if u+1==a.size then return las o u v
   if ca<7&&cb<7 then break
  mg:=mg+1
  me mg
 unsupported "internal:list.sort.merge-bound"):=rfl
noncomputable abbrev rL:=Option (Array Keyed)×Array Keyed×Nat×Nat×Nat×Nat×Nat
noncomputable def loC(a b:Array Keyed)(mg ca cb:Nat)(o:Array Keyed)(u v:Nat):SM (ForInStep rL):=do
 let e←elem' a u
 if(u+1+1==a.size)=true then pure (.done (some (o.push e++b.extract v b.size++a.extract (u+1) a.size),o.push e,u+1,v,mg,ca,cb))
 else if(decide (ca<7)&&decide (cb<7))=true then pure (.done (none,o.push e,u+1,v,mg,ca,cb))
 else pure (.yield (none,o.push e,u+1,v,mg,ca,cb))
noncomputable def loB(a b:Array Keyed)(mg ca cb:Nat)(o:Array Keyed)(u v:Nat):SM (ForInStep rL):=do
 let e←elem' b v
 if(v+1==b.size)=true then pure (.done (some (o.push e++a.extract u a.size++b.extract (v+1) b.size),o.push e,u,v+1,mg,ca,cb))
 else do
  let e2←elem' a u
  let f←gf true e2 b (v+1) (b.size -(v+1)) 0
  match f with
  |some k=>
   if k>0 then
    if(v+1+k==b.size)=true then pure (.done (some (o.push e++b.extract (v+1) (v+1+k)++a.extract u a.size++b.extract (v+1+k) b.size),o.push e++b.extract (v+1) (v+1+k),u,v+1+k,mg,ca,k))
    else loC a b mg ca k (o.push e++b.extract (v+1) (v+1+k)) u (v+1+k)
   else loC a b mg ca k (o.push e) u (v+1)
  |_=>pure (.done (some (o.push e++a.extract u a.size++b.extract (v+1) b.size),o.push e,u,v+1,mg,ca,cb))
noncomputable def loA(a b:Array Keyed)(mg ca cb:Nat)(o:Array Keyed)(u v:Nat):SM (ForInStep rL):=do
 me mg
 let e←elem' b v
 let f←gf false e a u (a.size -u) 0
 match f with
 |some k=>
  if k>0 then
   if(u+k+1==a.size)=true then pure (.done (some (o++a.extract u (u+k)++b.extract v b.size++a.extract (u+k) a.size),o++a.extract u (u+k),u+k,v,mg,k,cb))
   else if(u+k==a.size)=true then pure (.done (some (o++a.extract u (u+k)++a.extract (u+k) a.size++b.extract v b.size),o++a.extract u (u+k),u+k,v,mg,k,cb))
   else loB a b mg k cb (o++a.extract u (u+k)) (u+k) v
  else loB a b mg k cb o u v
 |_=>pure (.done (some (o++a.extract u a.size++b.extract v b.size),o,u,v,mg,ca,cb))
structure LoI(rk:Nat→Int)(p q o:List Nat)(u v:Nat):Prop where
 pm:o.Perm (p.take u++q.take v)
 so:Srt rk o
 oa:∀x∈o,∀y∈p.drop u,rk x≤rk y
 ob:∀x∈o,∀y∈q.drop v,rk x≤rk y
section
variable{rk:Nat→Int}{p q o:List Nat}{u v k:Nat}
theorem bR{l m:List Nat}(h:Srt rk l)(h2:Srt rk m)(h3:∀x∈l,∀y∈m,rk x≤rk y):Srt rk (l++m):=List.pairwise_append.mpr ⟨h,h2,h3⟩
theorem c6{l:List Nat}(h:Srt rk l)(n:Nat):Srt rk (l.drop n):=h.sublist (List.drop_sublist _ _)
theorem cJ{l:List Nat}(h:Srt rk l)(n:Nat):Srt rk (l.take n):=h.sublist (List.take_sublist _ _)
theorem kW{l:List Nat}(h:Srt rk l)(n:Nat):∀x∈l.take n,∀y∈l.drop n,rk x≤rk y:=by
 have:=h
 rw[←GaX n l] at this
 exact(List.pairwise_append.mp this).2.2
theorem uL{l:List Nat}{n k:Nat}{x:Nat}(h:x∈l.drop (n+k)):x∈l.drop n:=by
 rw[←GbO] at h
 exact GbE h
theorem LoI.rM(I:LoI rk p q o u v)(sp:Srt rk p)(h:∀x∈(p.drop u).take k,∀y∈q.drop v,rk x≤rk y):LoI rk p q (o++(p.drop u).take k) (u+k) v:=by
 refine⟨?_,bR I.so (cJ (c6 sp u) k) λx hx y hy=>I.oa x hx y (Gbs hy),λx hx y hy=> ?_,λx hx y hy=> ?_⟩
 ·rw[List.take_add]
  refine(I.pm.append_right _).trans ?_
  rw[GaA,GaA]
  exact Gbg.append_left _
 ·rcases GaL.mp hx with hx|hx
  ·exact I.oa x hx y (uL hy)
  ·rw[←GbO] at hy
   exact kW (c6 sp u) k x hx y hy
 ·rcases GaL.mp hx with hx|hx
  ·exact I.ob x hx y hy
  ·exact h x hx y hy
theorem LoI.swap(I:LoI rk p q o u v):LoI rk q p o v u:=⟨I.pm.trans Gbg,I.so,I.ob,I.oa⟩
theorem LoI.Dh(I:LoI rk p q o u v)(sq:Srt rk q)(h:∀x∈(q.drop v).take k,∀y∈p.drop u,rk x≤rk y):LoI rk p q (o++(q.drop v).take k) u (v+k):=(I.swap.rM sq h).swap
theorem take1{l:List Nat}{n x:Nat}(h:l[n]? =some x):(l.drop n).take 1=[x]:=by
 obtain⟨h1,rfl⟩:=Gac.mp h
 rw[Gco h1]
 rfl
theorem LoI.mf{x:Nat}(I:LoI rk p q o u v)(sp:Srt rk p)(hx:p[u]? =some x)(h:∀y∈q.drop v,rk x≤rk y):LoI rk p q (o++[x]) (u+1) v:=by
 have:=I.rM (k:=1) sp (by rw[take1 hx];intro z hz;simp at hz;subst hz;exact h)
 rw[take1 hx] at this
 exact this
theorem LoI.qi{x:Nat}(I:LoI rk p q o u v)(sq:Srt rk q)(hx:q[v]? =some x)(h:∀y∈p.drop u,rk x≤rk y):LoI rk p q (o++[x]) u (v+1):=(I.swap.mf sq hx h).swap
theorem LoI.done(I:LoI rk p q o u v)(sp:Srt rk p)(sq:Srt rk q)(h:v=q.length∨u=p.length):(o++p.drop u++q.drop v).Perm (p++q)∧Srt rk (o++p.drop u++q.drop v):=by
 constructor
 ·refine(Gbu _ (Gbu _ I.pm)).trans ?_
  have e:p++q=(p.take u++p.drop u)++(q.take v++q.drop v):=by rw[GaX,GaX]
  rw[e,GaA,GaA,GaA]
  refine GbP _ ?_
  rw[←GaA,←GaA]
  exact Gbu _ Gbg
 ·rcases h with rfl|rfl
  ·rw[Gcs,GbH]
   exact bR I.so (c6 sp u) I.oa
  ·rw[Gcs,GbH]
   exact bR I.so (c6 sq v) I.ob
theorem LoI.last(I:LoI rk p q o u v)(sq:Srt rk q)(h:u+1=p.length)(hl:∀x,p[u]? =some x→∀y∈q,rk y≤rk x):(o++q.drop v++p.drop u).Perm (p++q)∧Srt rk (o++q.drop v++p.drop u):=by
 have hu:u<p.length:=by omega
 have e:p.drop u=[p[u]]:=by rw[Gco hu,h,Gcs]
 constructor
 ·have pm:=I.pm
  refine(Gbu _ (Gbu _ pm)).trans ?_
  rw[GaA,GaA,←GaA (List.take v q),GaX]
  refine(GbP _ Gbg).trans ?_
  rw[←GaA,GaX]
 ·refine bR (bR I.so (c6 sq v) I.ob) (by rw[e];exact GbF _ _) λx hx y hy=> ?_
  rw[e] at hy
  simp at hy
  subst hy
  rcases GaL.mp hx with hx|hx
  ·exact I.oa x hx _ (by rw[e];simp)
  ·exact hl _ (Gaa hu) x (GbE hx)
end
section
variable{prog:Program}{w:World}{A:Around}{E:Value→Shared→Prop}{s:Shared}{st:SortSt}{κ:SortKind}{it:Array Keyed}{rk:Nat→Int}{a b:Array Keyed}{p q:List Nat}
noncomputable def bL(it:Array Keyed)(rk:Nat→Int)(p q:List Nat)(r:Array Keyed):Prop:=∃l,aB it r l∧l.Perm (p++q)∧Srt rk l
theorem gV{l:List Nat}{x y n:Nat}(h:Srt rk l)(hx:l[n]? =some x)(hy:y∈l.drop n):rk x≤rk y:=by
 obtain⟨k,hk⟩:=Gbn.mp hy
 rw[GaW] at hk
 exact kU h (by omega) hx hk
structure LoP(it:Array Keyed)(rk:Nat→Int)(p q:List Nat)(o:Array Keyed)(u v:Nat):Prop where
 ex:∃l,aB it o l∧LoI rk p q l u v
 bu:u+1<p.length
 bv:v<q.length
noncomputable def tw(it:Array Keyed)(rk:Nat→Int)(p q:List Nat)(N:Nat):ForInStep rL→Prop
 | .done c=>(∃r t,c=(some r,t)∧bL it rk p q r)∨∃o u v mg ca cb,c=(none,o,u,v,mg,ca,cb)∧LoP it rk p q o u v∧N≤u+v
 | .yield c=>∃o u v mg ca cb,c=(none,o,u,v,mg,ca,cb)∧LoP it rk p q o u v∧N≤u+v
structure LoX(prog:Program)(w:World)(A:Around)(s:Shared)(κ:SortKind)(it:Array Keyed)(rk:Nat→Int)(a b:Array Keyed)(p q:List Nat):Prop where
 hA:d9 prog w A s κ it rk
 Ra:aB it a p
 Rb:aB it b q
 sp:Srt rk p
 sq:Srt rk q
 hl:∀x,p[p.length -1]? =some x→∀y∈q,rk y≤rk x
theorem LoX.done{o:Array Keyed}{l:List Nat}{u v:Nat}(X:LoX prog w A s κ it rk a b p q)(Ro:aB it o l)(I:LoI rk p q l u v)(hh:v=q.length∨u=p.length):bL it rk p q (o++a.extract u a.size++b.extract v b.size):=
 ⟨_,(Ro.append (X.Ra.drop _)).append (X.Rb.drop _),(I.done X.sp X.sq hh).1,(I.done X.sp X.sq hh).2⟩
theorem LoX.last{o:Array Keyed}{l:List Nat}{u v:Nat}(X:LoX prog w A s κ it rk a b p q)(Ro:aB it o l)(I:LoI rk p q l u v)(hh:u+1=p.length):bL it rk p q (o++b.extract v b.size++a.extract u a.size):=by
 have hl' :∀x,p[u]? =some x→∀y∈q,rk y≤rk x:=by
  have:=X.hl
  rw[show p.length -1=u by omega] at this;exact this
 exact⟨_,(Ro.append (X.Rb.drop _)).append (X.Ra.drop _),(I.last X.sq hh hl').1,(I.last X.sq hh hl').2⟩
theorem wJ{mg ca cb u v N:Nat}{o:Array Keyed}{l:List Nat}{R:ForInStep rL→SortSt→Prop}(X:LoX prog w A s κ it rk a b p q)(Ro:aB it o l)(I:LoI rk p q l u v)(bu:u+1<p.length)(bv:v<q.length)
  (hx:∀x,p[u]? =some x→∀y∈q.drop v,rk x≤rk y)(hN:N≤u+v+1)(h:∀r,tw it rk p q N r→R r st):wpS (model prog w) A E s (loC a b mg ca cb o u v) R st:=by
 have sza:=X.Ra.size
 unfold loC
 obtain⟨x,ex⟩:∃x,p[u]? =some x:=⟨_,Gaa (by omega)⟩
 refine Gak (aQ X.Ra ex ?_)
 have I' :=I.mf X.sp ex (hx x ex)
 have Ro' :=Ro.push (X.Ra.lt ex)
 by_cases e:(u+1+1==a.size)=true
 ·rw[Gag e]
  have:u+1+1=a.size:=by simpa using e
  exact Gat (h _ (.inl ⟨_,_,rfl,X.last Ro' I' (by omega)⟩))
 ·rw[Gaf e]
  have e' :u+1+1≠a.size:=by simpa using e
  by_cases e2:(decide (ca<7)&&decide (cb<7))=true
  ·rw[Gag e2]
   exact Gat (h _ (.inr ⟨_,_,_,_,_,_,rfl,⟨⟨_,Ro',I'⟩,by omega,bv⟩,by omega⟩))
  ·rw[Gaf e2]
   exact Gat (h _ ⟨_,_,_,_,_,_,rfl,⟨⟨_,Ro',I'⟩,by omega,bv⟩,by omega⟩)
theorem wK{mg ca cb u v N:Nat}{o:Array Keyed}{l:List Nat}{R:ForInStep rL→SortSt→Prop}(X:LoX prog w A s κ it rk a b p q)(hk:kindOf st=κ)(Ro:aB it o l)(I:LoI rk p q l u v)(bu:u+1<p.length)(bv:v<q.length)
  (hx:∀x,q[v]? =some x→∀y∈p.drop u,rk x≤rk y)(hN:N≤u+v+2)(h:∀r,tw it rk p q N r→R r st):wpS (model prog w) A E s (loB a b mg ca cb o u v) R st:=by
 have szb:=X.Rb.size
 unfold loB
 obtain⟨y,ey⟩:∃x,q[v]? =some x:=⟨_,Gaa bv⟩
 obtain⟨x,ex⟩:∃x,p[u]? =some x:=⟨_,Gaa (by omega)⟩
 refine Gak (aQ X.Rb ey ?_)
 have I1:=I.qi X.sq ey (hx y ey)
 have Ro1:=Ro.push (X.Rb.lt ey)
 by_cases e:(v+1==b.size)=true
 ·rw[Gag e]
  have:v+1=b.size:=by simpa using e
  exact Gat (h _ (.inl ⟨_,_,rfl,X.done Ro1 I1 (.inl (by omega))⟩))
 rw[Gaf e]
 have e' :v+1≠b.size:=by simpa using e
 refine Gak (aQ X.Ra ex ?_)
 have full:(q.drop (v+1)).take (b.size -(v+1))=q.drop (v+1):=Gci (by simp;omega)
 refine Gak (jS X.hA hk X.Rb (X.Ra.lt ex) (by omega) (by rw[full];exact c6 X.sq _) (by omega) λk hk1 t1 t2=> ?_)
 rw[full] at t1 t2
 simp only[Gbp] at t1 t2
 dsimp only
 have I2:=I1.Dh (k:=k) X.sq λz hz t ht=>by have:=t1 z hz;have:=gV X.sp ex ht;omega
 have Ro2:=Ro1.append (X.Rb.extract (v+1) (v+1+k))
 rw[show v+1+k -(v+1)=k by omega] at Ro2
 have hx2:∀z,p[u]? =some z→∀t∈q.drop (v+1+k),rk z≤rk t:=λz hz t ht=>by
  rw[ex] at hz;cases hz
  rw[←GbO] at ht
  exact t2 t ht
 by_cases g:k>0
 ·rw[Gag g]
  by_cases e2:(v+1+k==b.size)=true
  ·rw[Gag e2]
   have:v+1+k=b.size:=by simpa using e2
   exact Gat (h _ (.inl ⟨_,_,rfl,X.done Ro2 I2 (.inl (by omega))⟩))
  ·rw[Gaf e2]
   have e2' :v+1+k≠b.size:=by simpa using e2
   exact wJ X Ro2 I2 bu (by omega) hx2 (by omega) h
 ·rw[Gaf g]
  have k0:k=0:=by omega
  subst k0
  exact wJ X Ro1 I1 bu (by omega) hx2 (by omega) h
theorem Di{mg ca cb u v N:Nat}{o:Array Keyed}{l:List Nat}{R:ForInStep rL→SortSt→Prop}(X:LoX prog w A s κ it rk a b p q)(hk:kindOf st=κ)(Ro:aB it o l)(I:LoI rk p q l u v)(bu:u+1<p.length)(bv:v<q.length)
  (hN:N≤u+v+2)(h:∀r z,aP st z→tw it rk p q N r→R r z):wpS (model prog w) A E s (loA a b mg ca cb o u v) R st:=by
 have sza:=X.Ra.size
 unfold loA
 rw[jf]
 refine Gak (GbL ?_)
 generalize hz:SortSt.mk' (kindOf st) (arrOf st) (pendingOf st) mg (failedOf st)=z
 have sz:aP st z:=by rw[←hz];exact⟨rfl,rfl,rfl,rfl⟩
 have hkz:kindOf z=κ:=sz.1.trans hk
 have h' :∀r,tw it rk p q N r→R r z:=λr hr=>h r z sz hr
 obtain⟨y,ey⟩:∃x,q[v]? =some x:=⟨_,Gaa bv⟩
 refine Gak (aQ X.Rb ey ?_)
 have full:(p.drop u).take (a.size -u)=p.drop u:=Gci (by simp;omega)
 refine Gak (jS X.hA hkz X.Ra (X.Rb.lt ey) (by omega) (by rw[full];exact c6 X.sp _) (by omega) λk hk1 t1 t2=> ?_)
 rw[full] at t1 t2
 simp only[Gax,GaS] at t1 t2
 dsimp only
 have I1:=I.rM (k:=k) X.sp λz hz t ht=>by have:=t1 z hz;have:=gV X.sq ey ht;omega
 have Ro1:=Ro.append (X.Ra.extract u (u+k))
 rw[show u+k -u=k by omega] at Ro1
 have hx:∀z,q[v]? =some z→∀t∈p.drop (u+k),rk z≤rk t:=λz hz t ht=>by
  rw[ey] at hz;cases hz
  rw[←GbO] at ht
  have:=t2 t ht;omega
 by_cases g:k>0
 ·rw[Gag g]
  by_cases e1:(u+k+1==a.size)=true
  ·rw[Gag e1]
   have:u+k+1=a.size:=by simpa using e1
   exact Gat (h' _ (.inl ⟨_,_,rfl,X.last Ro1 I1 (by omega)⟩))
  rw[Gaf e1]
  have e1' :u+k+1≠a.size:=by simpa using e1
  by_cases e2:(u+k==a.size)=true
  ·rw[Gag e2]
   have:u+k=a.size:=by simpa using e2
   exact Gat (h' _ (.inl ⟨_,_,rfl,X.done Ro1 I1 (.inr (by omega))⟩))
  rw[Gaf e2]
  have e2' :u+k≠a.size:=by simpa using e2
  exact wK X hkz Ro1 I1 (by omega) bv hx (by omega) h'
 ·rw[Gaf g]
  have k0:k=0:=by omega
  subst k0
  exact wK X hkz Ro I bu bv hx (by omega) h'
theorem Bv{G:Nat→Option (Array Keyed)×Array Keyed×Nat×Nat×Nat→SortSt→Prop}{n m:Nat}(h:∀i z o u v mg l,i<m→aP st z→aB it o l→LoI rk p q l u v→u+1<p.length→v<q.length→i+1≤u+v→G i (none,o,u,v,mg) z):∀i c z,n≤i→i<m→(aP st z∧∃o u v mg l,c=(none,o,u,v,mg)∧aB it o l∧LoI rk p q l u v∧u+1<p.length∧v<q.length∧i+1≤u+v)→G i c z:=by
 rintro i c z _ hi ⟨hz,o,u,v,mg,l,rfl,Ro,I,g1,g2,g3⟩
 exact h i z o u v mg l hi hz Ro I g1 g2 g3
theorem FG{G:Nat→Option (Array Keyed)×Array Keyed×Nat×Nat×Nat×Nat→SortSt→Prop}{n m t:Nat}{z:SortSt}(h:∀j o u v ca cb l,j<m→aB it o l→LoI rk p q l u v→u+1<p.length→v<q.length→t+j≤u+v→G j (none,o,u,v,ca,cb) z):∀j c z',n≤j→j<m→(z' =z∧∃o u v ca cb l,c=(none,o,u,v,ca,cb)∧aB it o l∧LoI rk p q l u v∧u+1<p.length∧v<q.length∧t+j≤u+v)→G j c z' :=by
 rintro j c z' _ hj ⟨rfl,o,u',v',ca,cb,l,rfl,Ro,I,k1,k2,k3⟩
 exact h j o u' v' ca cb l hj Ro I k1 k2 k3
theorem FH{G:Option (Array Keyed)×Array Keyed×Nat×Nat×Nat×Nat→SortSt→Prop}{n:Nat}{z:SortSt}(h1:∀r t,bL it rk p q r→G (some r,t) z)(h2:∀o u v ca cb l,aB it o l→LoI rk p q l u v→u+1<p.length→v<q.length→n≤u+v→G (none,o,u,v,ca,cb) z):∀c z',(z' =z∧((∃r t,c=(some r,t)∧bL it rk p q r)∨∃o u v ca cb l,c=(none,o,u,v,ca,cb)∧aB it o l∧LoI rk p q l u v∧u+1<p.length∧v<q.length∧n≤u+v))→G c z' :=by
 rintro c z' ⟨rfl,⟨r,t,rfl,g⟩| ⟨o1,u1,v1,ca1,cb1,l1,rfl,Ro1,I1,k1,k2,k3⟩⟩
 ·exact h1 r t g
 ·exact h2 o1 u1 v1 ca1 cb1 l1 Ro1 I1 k1 k2 k3
theorem FI{G:Nat→Option (Array Keyed)×Array Keyed×Nat×Nat×Nat×Nat×Nat→SortSt→Prop}{n m t:Nat}(h:∀j y o u v mg ca cb l,j<m→aP st y→aB it o l→LoI rk p q l u v→u+1<p.length→v<q.length→t+j≤u+v→G j (none,o,u,v,mg,ca,cb) y):∀j c y,n≤j→j<m→(aP st y∧∃o u v mg ca cb l,c=(none,o,u,v,mg,ca,cb)∧aB it o l∧LoI rk p q l u v∧u+1<p.length∧v<q.length∧t+j≤u+v)→G j c y:=by
 rintro j c y _ hj ⟨hy,o,u',v',mg',ca,cb,l,rfl,Ro,I,n1,n2,n3⟩
 exact h j y o u' v' mg' ca cb l hj hy Ro I n1 n2 n3
theorem FJ{G:Option (Array Keyed)×Array Keyed×Nat×Nat×Nat×Nat×Nat→SortSt→Prop}{n:Nat}(h1:∀y r t,aP st y→bL it rk p q r→G (some r,t) y)(h2:∀y o u v mg ca cb l,aP st y→aB it o l→LoI rk p q l u v→u+1<p.length→v<q.length→n≤u+v→G (none,o,u,v,mg,ca,cb) y):∀c y,(aP st y∧((∃r t,c=(some r,t)∧bL it rk p q r)∨∃o u v mg ca cb l,c=(none,o,u,v,mg,ca,cb)∧aB it o l∧LoI rk p q l u v∧u+1<p.length∧v<q.length∧n≤u+v))→G c y:=by
 rintro c y ⟨hy,⟨r,t,rfl,g⟩| ⟨o1,u1,v1,mg1,ca1,cb1,l1,rfl,Ro1,I1,k1,k2,k3⟩⟩
 ·exact h1 y r t hy g
 ·exact h2 y o1 u1 v1 mg1 ca1 cb1 l1 hy Ro1 I1 k1 k2 k3
theorem FK{Q:Array Keyed→SortSt→Prop}(hA:d9 prog w A s κ it rk)(hk:kindOf st=κ)(Ra:aB it a p)(Rb:aB it b q)(sp:Srt rk p)(sq:Srt rk q)(hp:0<p.length)(hq:0<q.length)
  (h0:∀x,q[0]? =some x→∀y∈p,rk x≤rk y)(hl:∀x,p[p.length -1]? =some x→∀y∈q,rk y≤rk x)(h:∀r z,aP st z→bL it rk p q r→Q r z):wpS (model prog w) A E s (Dg a b) Q st:=by
 rw[Bu]
 refine Gak (wpS_lift (GcX ⟨rfl, ?_⟩))
 obtain⟨x0,hx0⟩:∃x,q[0]? =some x:=⟨_,Gaa hq⟩
 refine Gak (aQ Rb hx0 ?_)
 have I0:LoI rk p q [x0] 0 1:=by
  refine⟨?_,GbF _ _,λx hx y hy=> ?_,λx hx y hy=> ?_⟩
  ·have:=take1 hx0
   rw[Gch] at this
   rw[this];simp
  ·simp at hx;subst hx;exact h0 _ hx0 y (GbE hy)
  ·simp at hx;subst hx;exact gV sq hx0 (GbE hy)
 have R0:aB it #[kas_item it x0] [x0]:=⟨rfl,λj hj=>by simp at hj;subst hj;exact Rb.lt hx0⟩
 have sza:=Ra.size
 have szb:=Rb.size
 have X:LoX prog w A s κ it rk a b p q:=⟨hA,Ra,Rb,sp,sq,hl⟩
 refine bQ (λc1=> ?_) λc1=> ?_
 ·have:1=b.size:=by simpa using c1
  exact Gat (h _ _ .refl (X.done R0 I0 (.inl (by omega))))
 have c1' :1≠b.size:=by simpa using c1
 refine bQ (λc2=> ?_) λc2=> ?_
 ·have:0+1=a.size:=by simpa using c2
  exact Gat (h _ _ .refl (X.last R0 I0 (by omega)))
 have c2' :0+1≠a.size:=by simpa using c2
 refine Gak (GcS ?_)
 refine Gak (GbA (Gbk (I:=λi c z=>aP st z∧∃o u v mg l,c=(none,o,u,v,mg)∧aB it o l∧LoI rk p q l u v∧u+1<p.length∧v<q.length∧i+1≤u+v)
  (Q:=λc z=>aP st z∧∃r t,c=(some r,t)∧bL it rk p q r) ?step ?fin ⟨.refl,_,0,1,_,[x0],rfl,R0,I0,by omega,by omega,by omega⟩) ?post)
 case fin=>
  rintro c z ⟨_,o,u,v,mg,l,rfl,_,_,g1,g2,g3⟩
  exfalso
  omega
 case post=>
  rintro c z ⟨hz,r,t,rfl,g⟩
  exact Gat (h r z hz g)
 case step=>
  refine Bv λi z o u v mg l hi hz Ro I g1 g2 g3=> ?_
  have hkz:kindOf z=κ:=hz.1.trans hk
  refine Gak (GbA (Gbk (I:=λj c z' =>z' =z∧∃o u' v' ca cb l,c=(none,o,u',v',ca,cb)∧aB it o l∧LoI rk p q l u' v' ∧u' +1<p.length∧v' <q.length∧u+v+j≤u' +v')
   (Q:=λc z' =>z' =z∧((∃r t,c=(some r,t)∧bL it rk p q r)∨∃o u' v' ca cb l,c=(none,o,u',v',ca,cb)∧aB it o l∧LoI rk p q l u' v' ∧u' +1<p.length∧v' <q.length∧u+v+1≤u' +v')) ?s1 ?f1 ⟨rfl,o,u,v,0,0,l,rfl,Ro,I,g1,g2,by omega⟩) ?p1)
  case f1=>
   rintro c z' ⟨_,o,u',v',ca,cb,l,rfl,_,_,k1,k2,k3⟩
   exfalso
   omega
  case s1=>
   refine FG λj o u' v' ca cb l hj Ro I k1 k2 k3=> ?_
   obtain⟨y,hy⟩:∃x,q[v']? =some x:=⟨_,Gaa k2⟩
   obtain⟨x,hx⟩:∃x,p[u']? =some x:=⟨_,Gaa (by omega)⟩
   refine Gak (aQ Rb hy (Gak (aQ Ra hx (Gak (qh hA hkz (Rb.lt hy) (Ra.lt hx) ?_)))))
   dsimp only
   refine bQ (λlt=> ?_) λlt=> ?_
   ·replace lt:=GaG lt
    refine Gak (aQ Rb hy ?_)
    have I' :=I.qi sq hy λt ht=>by have:=gV sp hx ht;omega
    have Ro' :=Ro.push (Rb.lt hy)
    refine bQ (λe=> ?_) λe=> ?_
    ·have:v' +1=b.size:=by simpa using e
     exact Gat ⟨rfl,.inl ⟨_,_,rfl,X.done Ro' I' (.inl (by omega))⟩⟩
    ·have e' :v' +1≠b.size:=by simpa using e
     refine bQ (λe2=> ?_) λe2=> ?_
     ·exact Gat ⟨rfl,.inr ⟨_,_,_,_,_,_,rfl,Ro',I',k1,by omega,by omega⟩⟩
     ·exact Gat ⟨rfl,_,_,_,_,_,_,rfl,Ro',I',k1,by omega,by omega⟩
   ·replace lt:=of_decide_eq_false (GdQ.mpr lt)
    refine Gak (aQ Ra hx ?_)
    have I' :=I.mf sp hx λt ht=>by have:=gV sq hy ht;omega
    have Ro' :=Ro.push (Ra.lt hx)
    refine bQ (λe=> ?_) λe=> ?_
    ·have:u' +1+1=a.size:=by simpa using e
     exact Gat ⟨rfl,.inl ⟨_,_,rfl,X.last Ro' I' (by omega)⟩⟩
    ·have e' :u' +1+1≠a.size:=by simpa using e
     refine bQ (λe2=> ?_) λe2=> ?_
     ·exact Gat ⟨rfl,.inr ⟨_,_,_,_,_,_,rfl,Ro',I',by omega,k2,by omega⟩⟩
     ·exact Gat ⟨rfl,_,_,_,_,_,_,rfl,Ro',I',by omega,k2,by omega⟩
  case p1=>
   refine FH (λr t g=>Gat ⟨hz,r,_,rfl,g⟩) λo1 u1 v1 ca1 cb1 l1 Ro1 I1 k1 k2 k3=> ?_
   refine Gak (wpS_lift (GcX ⟨rfl, ?_⟩))
   refine Gak (GbA (Gbk (I:=λj c y=>aP st y∧∃o u' v' mg ca cb l,c=(none,o,u',v',mg,ca,cb)∧aB it o l∧LoI rk p q l u' v' ∧u' +1<p.length∧v' <q.length∧u1+v1+j≤u' +v')
    (Q:=λc y=>aP st y∧((∃r t,c=(some r,t)∧bL it rk p q r)∨∃o u' v' mg ca cb l,c=(none,o,u',v',mg,ca,cb)∧aB it o l∧LoI rk p q l u' v' ∧u' +1<p.length∧v' <q.length∧u1+v1≤u' +v')) ?s2 ?f2 ⟨hz,o1,u1,v1,_,ca1,cb1,l1,rfl,Ro1,I1,k1,k2,by omega⟩) ?p2)
   case f2=>
    rintro c y ⟨_,o,u',v',mg,ca,cb,l,rfl,_,_,n1,n2,n3⟩
    exfalso
    omega
   case p2=>
    refine FJ (λy r t hy g=>Gat ⟨hy,r,_,rfl,g⟩) λy o2 u2 v2 mg2 ca2 cb2 l2 hy Ro2 I2 n1 n2 n3=> ?_
    dsimp only
    rw[jf]
    refine Gak (GbL (Gat ⟨hy.trans ⟨rfl,rfl,rfl,rfl⟩,o2,u2,v2,_,l2,rfl,Ro2,I2,n1,n2,by omega⟩))
   case s2=>
    refine FI λj y o u' v' mg' ca cb l hj hy Ro I n1 n2 n3=> ?_
    have fin:∀g,wpS (model prog w) A E s (loA a b g ca cb o u' v') (λr y' =>match r with
      | .done c=>aP st y' ∧((∃r t,c=(some r,t)∧bL it rk p q r)∨∃o u' v' mg ca cb l,c=(none,o,u',v',mg,ca,cb)∧aB it o l∧LoI rk p q l u' v' ∧u' +1<p.length∧v' <q.length∧u1+v1≤u' +v')
      | .yield c=>aP st y' ∧∃o u' v' mg ca cb l,c=(none,o,u',v',mg,ca,cb)∧aB it o l∧LoI rk p q l u' v' ∧u' +1<p.length∧v' <q.length∧u1+v1+(j+1)≤u' +v') y:=λg=>by
     refine Di X (hy.1.trans hk) Ro I n1 n2 (N:=u' +v' +2) (Gaq _) λr z' sz hr=> ?_
     cases r with
     |done c=>
      rcases hr with hr| ⟨o,u,v,mg,ca,cb,e,P,hn⟩
      ·exact⟨hy.trans sz,.inl hr⟩
      ·obtain⟨l,h1,h2⟩:=P.ex
       exact⟨hy.trans sz,.inr ⟨o,u,v,mg,ca,cb,l,e,h1,h2,P.bu,P.bv,by omega⟩⟩
     |yield c=>
      obtain⟨o,u,v,mg,ca,cb,e,P,hn⟩:=hr
      obtain⟨l,h1,h2⟩:=P.ex
      exact⟨hy.trans sz,o,u,v,mg,ca,cb,l,e,h1,h2,P.bu,P.bv,by omega⟩
    show wpS (model prog w) A E s (if mg' >1 then loA a b (mg' -1) ca cb o u' v' else loA a b mg' ca cb o u' v') _ y
    split
    ·exact GbA (fin _) λr y' hr=>by cases r<;>exact hr
    ·exact GbA (fin _) λr y' hr=>by cases r<;>exact hr
end
noncomputable def Dj:Array Keyed→Array Keyed→SM (Array Keyed):=sortPriv%PySem.Builtin.mergeHi
theorem Bw(a b:Array Keyed):Dj a b=(do
 rule "list.sort.merge-hi"
 let tot:=a.size+b.size
 let fin (o:Array Keyed) (u v:Nat):=a.extract 0 u++b.extract 0 v++o.reverse
 let fst (o:Array Keyed) (u v:Nat):=b.extract 0 v++a.extract 0 u++o.reverse
 let mut u:=a.size -1
 let mut v:=b.size
 let mut o:Array Keyed:=#[←elem' a u]
 if u==0 then return fin o u v
 if v==1 then return fst o u v
 let mut mg:=gallopOf (←get)
 for _ in [0:tot] do
  let mut ca:=0
  let mut cb:=0
  for _ in [0:tot] do
   let some w←lt' (←elem' b (v -1)) (←elem' a (u -1))|return fin o u v
   if w then
    u:=u -1;o:=o.push (←elem' a u);ca:=ca+1;cb:=0
    if u==0 then return fin o u v
    if ca≥mg then break
   else
    v:=v -1;o:=o.push (←elem' b v);cb:=cb+1;ca:=0
    if v==1 then return fst o u v
    if cb≥mg then break
  rule "list.sort.gallop"
  mg:=mg+1
  for _ in [0:tot] do
   if mg>1 then mg:=mg -1
   me mg
   let some c←gf false (←elem' b (v -1)) a 0 u (u -1)|return fin o u v
   let k:=u -c
   ca:=k
   if k>0 then
    o:=o++(a.extract c u).reverse;u:=c
    if u==0 then return fin o u v
   v:=v -1;o:=o.push (←elem' b v)
   if v==1 then return fst o u v
   let some c←gf true (←elem' a (u -1)) b 0 v (v -1)|return fin o u v
   let k:=v -c
   cb:=k
   if k>0 then
    o:=o++(b.extract c v).reverse;v:=c
    if v==1 then return fst o u v
    if v==0 then return fin o u v
   u:=u -1;o:=o.push (←elem' a u)
   if u==0 then return fin o u v
   if ca<7&&cb<7 then break
  mg:=mg+1
  me mg
 unsupported "internal:list.sort.merge-bound"):=rfl
noncomputable abbrev rN:=Option (Array Keyed)×Nat×Nat×Array Keyed×Nat×Nat×Nat
noncomputable def hiC(a b:Array Keyed)(mg ca cb:Nat)(o:Array Keyed)(u v:Nat):SM (ForInStep rN):=do
 let e←elem' a (u -1)
 if(u -1==0)=true then pure (.done (some (a.extract 0 (u -1)++b.extract 0 v++(o.push e).reverse),u -1,v,o.push e,mg,ca,cb))
 else if(decide (ca<7)&&decide (cb<7))=true then pure (.done (none,u -1,v,o.push e,mg,ca,cb))
 else pure (.yield (none,u -1,v,o.push e,mg,ca,cb))
noncomputable def hiB(a b:Array Keyed)(mg ca cb:Nat)(o:Array Keyed)(u v:Nat):SM (ForInStep rN):=do
 let e←elem' b (v -1)
 if(v -1==1)=true then pure (.done (some (b.extract 0 (v -1)++a.extract 0 u++(o.push e).reverse),u,v -1,o.push e,mg,ca,cb))
 else do
  let e2←elem' a (u -1)
  let f←gf true e2 b 0 (v -1) (v -1 -1)
  match f with
  |some c=>
   if v -1 -c>0 then
    if(c==1)=true then pure (.done (some (b.extract 0 c++a.extract 0 u++(o.push e++(b.extract c (v -1)).reverse).reverse),u,c,o.push e++(b.extract c (v -1)).reverse,mg,ca,v -1 -c))
    else if(c==0)=true then pure (.done (some (a.extract 0 u++b.extract 0 c++(o.push e++(b.extract c (v -1)).reverse).reverse),u,c,o.push e++(b.extract c (v -1)).reverse,mg,ca,v -1 -c))
    else hiC a b mg ca (v -1 -c) (o.push e++(b.extract c (v -1)).reverse) u c
   else hiC a b mg ca (v -1 -c) (o.push e) u (v -1)
  |_=>pure (.done (some (a.extract 0 u++b.extract 0 (v -1)++(o.push e).reverse),u,v -1,o.push e,mg,ca,cb))
noncomputable def hiA(a b:Array Keyed)(mg ca cb:Nat)(o:Array Keyed)(u v:Nat):SM (ForInStep rN):=do
 me mg
 let e←elem' b (v -1)
 let f←gf false e a 0 u (u -1)
 match f with
 |some c=>
  if u -c>0 then
   if(c==0)=true then pure (.done (some (a.extract 0 c++b.extract 0 v++(o++(a.extract c u).reverse).reverse),c,v,o++(a.extract c u).reverse,mg,u -c,cb))
   else hiB a b mg (u -c) cb (o++(a.extract c u).reverse) c v
  else hiB a b mg (u -c) cb o u v
 |_=>pure (.done (some (a.extract 0 u++b.extract 0 v++o.reverse),u,v,o,mg,ca,cb))
structure HiI(rk:Nat→Int)(p q o:List Nat)(u v:Nat):Prop where
 pm:o.Perm (p.drop u++q.drop v)
 so:Srt rk o.reverse
 oa:∀x∈o,∀y∈p.take u,rk y≤rk x
 ob:∀x∈o,∀y∈q.take v,rk y≤rk x
section
variable{rk:Nat→Int}{p q o:List Nat}{u v c:Nat}
theorem uM{l:List Nat}{m n:Nat}{x:Nat}(h:m≤n)(hx:x∈l.take m):x∈l.take n:=by
 have:l.take m=(l.take n).take m:=by rw[Gcp,Gdi h]
 rw[this] at hx
 exact Gbs hx
theorem wL{l:List Nat}{m n:Nat}{x:Nat}(h:m≤n)(hx:x∈(l.drop m).take (n -m)):x∈l.take n:=by
 rw[←GcT] at hx
 exact GbE hx
theorem wM{l:List Nat}{m n:Nat}(h:m≤n):l.drop m=(l.drop m).take (n -m)++l.drop n:=by
 conv=>lhs;rw[←GaX (n -m) (l.drop m)]
 rw[GbO,show m+(n -m)=n by omega]
theorem HiI.rM(I:HiI rk p q o u v)(sp:Srt rk p)(hc:c≤u)(h:∀x∈(p.drop c).take (u -c),∀y∈q.take v,rk y≤rk x):HiI rk p q (o++((p.drop c).take (u -c)).reverse) c v:=by
 refine⟨?_, ?_,λx hx y hy=> ?_,λx hx y hy=> ?_⟩
 ·have e:p.drop c++q.drop v=((p.drop c).take (u -c)++p.drop u)++q.drop v:=by rw[←wM hc]
  rw[e]
  refine(Gbg.trans ?_)
  rw[GaA]
  exact(List.reverse_perm _).append I.pm
 ·rw[List.reverse_append,List.reverse_reverse]
  exact bR (cJ (c6 sp c) _) I.so λx hx y hy=>I.oa y (GbN.mp hy) x (wL hc hx)
 ·rcases GaL.mp hx with hx|hx
  ·exact I.oa x hx y (uM hc hy)
  ·exact kW sp c y hy x (Gbs (GbN.mp hx))
 ·rcases GaL.mp hx with hx|hx
  ·exact I.ob x hx y hy
  ·exact h x (GbN.mp hx) y hy
theorem HiI.swap(I:HiI rk p q o u v):HiI rk q p o v u:=⟨I.pm.trans Gbg,I.so,I.ob,I.oa⟩
theorem HiI.Dh(I:HiI rk p q o u v)(sq:Srt rk q)(hc:c≤v)(h:∀x∈(q.drop c).take (v -c),∀y∈p.take u,rk y≤rk x):HiI rk p q (o++((q.drop c).take (v -c)).reverse) u c:=(I.swap.rM sq hc h).swap
theorem HiI.mf{x:Nat}(I:HiI rk p q o u v)(sp:Srt rk p)(hu:0<u)(hx:p[u -1]? =some x)(h:∀y∈q.take v,rk y≤rk x):HiI rk p q (o++[x]) (u -1) v:=by
 have e:(p.drop (u -1)).take (u -(u -1))=[x]:=by rw[show u -(u -1)=1 by omega];exact take1 hx
 have:=I.rM (c:=u -1) sp (by omega) (by rw[e];intro z hz;simp at hz;subst hz;exact h)
 rw[e] at this
 exact this
theorem HiI.qi{x:Nat}(I:HiI rk p q o u v)(sq:Srt rk q)(hv:0<v)(hx:q[v -1]? =some x)(h:∀y∈p.take u,rk y≤rk x):HiI rk p q (o++[x]) u (v -1):=(I.swap.mf sq hv hx h).swap
theorem HiI.perm(I:HiI rk p q o u v):(p.take u++q.take v++o.reverse).Perm (p++q):=by
 refine(GbP _ ((List.reverse_perm _).trans I.pm)).trans ?_
 have e:p++q=(p.take u++p.drop u)++(q.take v++q.drop v):=by rw[GaX,GaX]
 rw[e,GaA,GaA]
 refine GbP _ ?_
 rw[←GaA,←GaA]
 exact Gbu _ Gbg
theorem HiI.done(I:HiI rk p q o u v)(sp:Srt rk p)(sq:Srt rk q)(h:u=0∨v=0):(p.take u++q.take v++o.reverse).Perm (p++q)∧Srt rk (p.take u++q.take v++o.reverse):=by
 refine⟨I.perm, ?_⟩
 rcases h with rfl|rfl
 ·rw[List.take_zero,List.nil_append]
  exact bR (cJ sq v) I.so λx hx y hy=>I.ob y (GbN.mp hy) x hx
 ·rw[List.take_zero,GbH]
  exact bR (cJ sp u) I.so λx hx y hy=>I.oa y (GbN.mp hy) x hx
theorem HiI.first(I:HiI rk p q o u v)(sp:Srt rk p)(h:v=1)(h0:∀x,q[0]? =some x→∀y∈p,rk x≤rk y):(q.take v++p.take u++o.reverse).Perm (p++q)∧Srt rk (q.take v++p.take u++o.reverse):=by
 refine⟨(Gbu _ Gbg).trans I.perm, ?_⟩
 subst h
 refine bR (bR ?_ (cJ sp u) λx hx y hy=> ?_) I.so λx hx y hy=> ?_
 ·cases q with
  |nil=>exact List.Pairwise.nil
  |cons z t=>exact GbF _ _
 ·cases q with
  |nil=>cases hx
  |cons z t=>
   have:x=z:=by simpa using hx
   subst this
   exact h0 x rfl y (Gbs hy)
 ·rcases GaL.mp hx with hx|hx
  ·exact I.ob y (GbN.mp hy) x hx
  ·exact I.oa y (GbN.mp hy) x hx
end
section
variable{prog:Program}{w:World}{A:Around}{E:Value→Shared→Prop}{s:Shared}{st:SortSt}{κ:SortKind}{it:Array Keyed}{rk:Nat→Int}{a b:Array Keyed}{p q:List Nat}
theorem aB.take{a:Array Keyed}{p:List Nat}(R:aB it a p)(n:Nat):aB it (a.extract 0 n) (p.take n):=by
 have:=R.extract 0 n
 rw[Gch,Nat.sub_zero] at this
 exact this
theorem gW{l:List Nat}{x y n:Nat}(h:Srt rk l)(hx:l[n -1]? =some x)(hy:y∈l.take n):rk y≤rk x:=by
 obtain⟨k,hk⟩:=Gbn.mp hy
 have hkn:k<n:=by have:=(Gac.mp hk).1;simp at this;omega
 rw[GaK hkn] at hk
 exact kU h (by omega) hk hx
structure HiP(it:Array Keyed)(rk:Nat→Int)(p q:List Nat)(o:Array Keyed)(u v:Nat):Prop where
 ex:∃l,aB it o l∧HiI rk p q l u v
 bu:0<u
 bv:1<v
 cu:u≤p.length
 cv:v≤q.length
noncomputable def tx(it:Array Keyed)(rk:Nat→Int)(p q:List Nat)(N:Nat):ForInStep rN→Prop
 | .done c=>(∃r t,c=(some r,t)∧bL it rk p q r)∨∃o u v mg ca cb,c=(none,u,v,o,mg,ca,cb)∧HiP it rk p q o u v∧u+v≤N
 | .yield c=>∃o u v mg ca cb,c=(none,u,v,o,mg,ca,cb)∧HiP it rk p q o u v∧u+v≤N
structure HiX(prog:Program)(w:World)(A:Around)(s:Shared)(κ:SortKind)(it:Array Keyed)(rk:Nat→Int)(a b:Array Keyed)(p q:List Nat):Prop where
 hA:d9 prog w A s κ it rk
 Ra:aB it a p
 Rb:aB it b q
 sp:Srt rk p
 sq:Srt rk q
 h0:∀x,q[0]? =some x→∀y∈p,rk x≤rk y
theorem HiX.done{o:Array Keyed}{l:List Nat}{u v:Nat}(X:HiX prog w A s κ it rk a b p q)(Ro:aB it o l)(I:HiI rk p q l u v)(hh:u=0∨v=0):bL it rk p q (a.extract 0 u++b.extract 0 v++o.reverse):=
 ⟨_,((X.Ra.take _).append (X.Rb.take _)).append Ro.reverse,(I.done X.sp X.sq hh).1,(I.done X.sp X.sq hh).2⟩
theorem HiX.first{o:Array Keyed}{l:List Nat}{u v:Nat}(X:HiX prog w A s κ it rk a b p q)(Ro:aB it o l)(I:HiI rk p q l u v)(hh:v=1):bL it rk p q (b.extract 0 v++a.extract 0 u++o.reverse):=
 ⟨_,((X.Rb.take _).append (X.Ra.take _)).append Ro.reverse,(I.first X.sp hh X.h0).1,(I.first X.sp hh X.h0).2⟩
theorem wN{mg ca cb u v N:Nat}{o:Array Keyed}{l:List Nat}{R:ForInStep rN→SortSt→Prop}(X:HiX prog w A s κ it rk a b p q)(Ro:aB it o l)(I:HiI rk p q l u v)(bu:0<u)(bv:1<v)(cu:u≤p.length)(cv:v≤q.length)
  (hx:∀x,p[u -1]? =some x→∀y∈q.take v,rk y≤rk x)(hN:u+v≤N+1)(h:∀r,tx it rk p q N r→R r st):wpS (model prog w) A E s (hiC a b mg ca cb o u v) R st:=by
 unfold hiC
 obtain⟨x,ex⟩:∃x,p[u -1]? =some x:=⟨_,Gaa (by omega)⟩
 refine Gak (aQ X.Ra ex ?_)
 have I' :=I.mf X.sp bu ex (hx x ex)
 have Ro' :=Ro.push (X.Ra.lt ex)
 by_cases e:(u -1==0)=true
 ·rw[Gag e]
  have:u -1=0:=by simpa using e
  exact Gat (h _ (.inl ⟨_,_,rfl,X.done Ro' I' (.inl this)⟩))
 ·rw[Gaf e]
  have e' :u -1≠0:=by simpa using e
  by_cases e2:(decide (ca<7)&&decide (cb<7))=true
  ·rw[Gag e2]
   exact Gat (h _ (.inr ⟨_,_,_,_,_,_,rfl,⟨⟨_,Ro',I'⟩,by omega,bv,by omega,cv⟩,by omega⟩))
  ·rw[Gaf e2]
   exact Gat (h _ ⟨_,_,_,_,_,_,rfl,⟨⟨_,Ro',I'⟩,by omega,bv,by omega,cv⟩,by omega⟩)
theorem wO{mg ca cb u v N:Nat}{o:Array Keyed}{l:List Nat}{R:ForInStep rN→SortSt→Prop}(X:HiX prog w A s κ it rk a b p q)(hk:kindOf st=κ)(Ro:aB it o l)(I:HiI rk p q l u v)(bu:0<u)(bv:1<v)(cu:u≤p.length)(cv:v≤q.length)
  (hx:∀x,q[v -1]? =some x→∀y∈p.take u,rk y≤rk x)(hN:u+v≤N+2)(h:∀r,tx it rk p q N r→R r st):wpS (model prog w) A E s (hiB a b mg ca cb o u v) R st:=by
 unfold hiB
 obtain⟨y,ey⟩:∃x,q[v -1]? =some x:=⟨_,Gaa (by omega)⟩
 obtain⟨x,ex⟩:∃x,p[u -1]? =some x:=⟨_,Gaa (by omega)⟩
 refine Gak (aQ X.Rb ey ?_)
 have I1:=I.qi X.sq (by omega) ey (hx y ey)
 have Ro1:=Ro.push (X.Rb.lt ey)
 by_cases e:(v -1==1)=true
 ·rw[Gag e]
  have:v -1=1:=by simpa using e
  exact Gat (h _ (.inl ⟨_,_,rfl,X.first Ro1 I1 this⟩))
 rw[Gaf e]
 have e' :v -1≠1:=by simpa using e
 refine Gak (aQ X.Ra ex ?_)
 refine Gak (jS X.hA hk X.Rb (X.Ra.lt ex) (by omega) (by rw[Gch];exact cJ X.sq _) (by omega) λc hc1 t1 t2=> ?_)
 rw[Gch] at t1 t2
 simp only[Gbp] at t1 t2
 dsimp only
 have t2' :∀z∈(q.drop c).take (v -1 -c),rk x≤rk z:=λz hz=>t2 z (by rw[GcT];exact hz)
 have t1' :∀z∈q.take c,rk z<rk x:=λz hz=>t1 z (by rw[Gcp,Gdi hc1];exact hz)
 have I2:=I1.Dh (c:=c) X.sq hc1 λz hz t ht=>by have:=t2' z hz;have:=gW X.sp ex ht;omega
 have Ro2:=Ro1.append (X.Rb.extract c (v -1)).reverse
 have hx2:∀z,p[u -1]? =some z→∀t∈q.take c,rk t≤rk z:=λz hz t ht=>by
  rw[ex] at hz;cases hz
  have:=t1' t ht;omega
 by_cases g:v -1 -c>0
 ·rw[Gag g]
  by_cases e2:(c==1)=true
  ·rw[Gag e2]
   have:c=1:=by simpa using e2
   exact Gat (h _ (.inl ⟨_,_,rfl,X.first Ro2 I2 this⟩))
  rw[Gaf e2]
  have e2' :c≠1:=by simpa using e2
  by_cases e3:(c==0)=true
  ·rw[Gag e3]
   have:c=0:=by simpa using e3
   exact Gat (h _ (.inl ⟨_,_,rfl,X.done Ro2 I2 (.inr this)⟩))
  rw[Gaf e3]
  have e3' :c≠0:=by simpa using e3
  exact wN X Ro2 I2 bu (by omega) cu (by omega) hx2 (by omega) h
 ·rw[Gaf g]
  have k0:c=v -1:=by omega
  rw[k0] at hx2
  exact wN X Ro1 I1 bu (by omega) cu (by omega) hx2 (by omega) h
theorem Dk{mg ca cb u v N:Nat}{o:Array Keyed}{l:List Nat}{R:ForInStep rN→SortSt→Prop}(X:HiX prog w A s κ it rk a b p q)(hk:kindOf st=κ)(Ro:aB it o l)(I:HiI rk p q l u v)(bu:0<u)(bv:1<v)(cu:u≤p.length)(cv:v≤q.length)
  (hN:u+v≤N+2)(h:∀r z,aP st z→tx it rk p q N r→R r z):wpS (model prog w) A E s (hiA a b mg ca cb o u v) R st:=by
 unfold hiA
 rw[jf]
 refine Gak (GbL ?_)
 generalize hz:SortSt.mk' (kindOf st) (arrOf st) (pendingOf st) mg (failedOf st)=z
 have sz:aP st z:=by rw[←hz];exact⟨rfl,rfl,rfl,rfl⟩
 have hkz:kindOf z=κ:=sz.1.trans hk
 have h' :∀r,tx it rk p q N r→R r z:=λr hr=>h r z sz hr
 obtain⟨y,ey⟩:∃x,q[v -1]? =some x:=⟨_,Gaa (by omega)⟩
 refine Gak (aQ X.Rb ey ?_)
 refine Gak (jS X.hA hkz X.Ra (X.Rb.lt ey) (by omega) (by rw[Gch];exact cJ X.sp _) (by omega) λc hc1 t1 t2=> ?_)
 rw[Gch] at t1 t2
 simp only[Gax,GaS] at t1 t2
 dsimp only
 have t2' :∀z∈(p.drop c).take (u -c),rk y<rk z:=λz hz=>t2 z (by rw[GcT];exact hz)
 have t1' :∀z∈p.take c,rk z≤rk y:=λz hz=>t1 z (by rw[Gcp,Gdi hc1];exact hz)
 have I1:=I.rM (c:=c) X.sp hc1 λz hz t ht=>by have:=t2' z hz;have:=gW X.sq ey ht;omega
 have Ro1:=Ro.append (X.Ra.extract c u).reverse
 have hx:∀z,q[v -1]? =some z→∀t∈p.take c,rk t≤rk z:=λz hz t ht=>by
  rw[ey] at hz;cases hz
  exact t1' t ht
 by_cases g:u -c>0
 ·rw[Gag g]
  by_cases e1:(c==0)=true
  ·rw[Gag e1]
   have:c=0:=by simpa using e1
   exact Gat (h' _ (.inl ⟨_,_,rfl,X.done Ro1 I1 (.inl this)⟩))
  rw[Gaf e1]
  have e1' :c≠0:=by simpa using e1
  exact wO X hkz Ro1 I1 (by omega) bv (by omega) cv hx (by omega) h'
 ·rw[Gaf g]
  have k0:c=u:=by omega
  rw[k0] at hx
  exact wO X hkz Ro I bu bv cu cv hx (by omega) h'
theorem Bx{G:Nat→Option (Array Keyed)×Nat×Nat×Array Keyed×Nat→SortSt→Prop}{n m:Nat}(h:∀i z o u v mg,i<m→aP st z→HiP it rk p q o u v→u+v+i+1≤p.length+q.length→G i (none,u,v,o,mg) z):∀i c z,n≤i→i<m→(aP st z∧∃o u v mg,c=(none,u,v,o,mg)∧HiP it rk p q o u v∧u+v+i+1≤p.length+q.length)→G i c z:=by
 rintro i c z _ hi ⟨hz,o,u,v,mg,rfl,P,g3⟩
 exact h i z o u v mg hi hz P g3
theorem FL{G:Nat→Option (Array Keyed)×Nat×Nat×Array Keyed×Nat×Nat→SortSt→Prop}{n m t:Nat}{z:SortSt}(h:∀j o u v ca cb,j<m→HiP it rk p q o u v→u+v+j≤t→G j (none,u,v,o,ca,cb) z):∀j c z',n≤j→j<m→(z' =z∧∃o u v ca cb,c=(none,u,v,o,ca,cb)∧HiP it rk p q o u v∧u+v+j≤t)→G j c z' :=by
 rintro j c z' _ hj ⟨rfl,o,u',v',ca,cb,rfl,P,k3⟩
 exact h j o u' v' ca cb hj P k3
theorem FN{G:Option (Array Keyed)×Nat×Nat×Array Keyed×Nat×Nat→SortSt→Prop}{n:Nat}{z:SortSt}(h1:∀r t,bL it rk p q r→G (some r,t) z)(h2:∀o u v ca cb,HiP it rk p q o u v→u+v+1≤n→G (none,u,v,o,ca,cb) z):∀c z',(z' =z∧((∃r t,c=(some r,t)∧bL it rk p q r)∨∃o u v ca cb,c=(none,u,v,o,ca,cb)∧HiP it rk p q o u v∧u+v+1≤n))→G c z' :=by
 rintro c z' ⟨rfl,⟨r,t,rfl,g⟩| ⟨o1,u1,v1,ca1,cb1,rfl,P1,k3⟩⟩
 ·exact h1 r t g
 ·exact h2 o1 u1 v1 ca1 cb1 P1 k3
theorem FP{G:Nat→Option (Array Keyed)×Nat×Nat×Array Keyed×Nat×Nat×Nat→SortSt→Prop}{n m t:Nat}(h:∀j y o u v mg ca cb,j<m→aP st y→HiP it rk p q o u v→u+v+j≤t→G j (none,u,v,o,mg,ca,cb) y):∀j c y,n≤j→j<m→(aP st y∧∃o u v mg ca cb,c=(none,u,v,o,mg,ca,cb)∧HiP it rk p q o u v∧u+v+j≤t)→G j c y:=by
 rintro j c y _ hj ⟨hy,o,u',v',mg',ca,cb,rfl,P,n3⟩
 exact h j y o u' v' mg' ca cb hj hy P n3
theorem FQ{G:Option (Array Keyed)×Nat×Nat×Array Keyed×Nat×Nat×Nat→SortSt→Prop}{n:Nat}(h1:∀y r t,aP st y→bL it rk p q r→G (some r,t) y)(h2:∀y o u v mg ca cb,aP st y→HiP it rk p q o u v→u+v≤n→G (none,u,v,o,mg,ca,cb) y):∀c y,(aP st y∧((∃r t,c=(some r,t)∧bL it rk p q r)∨∃o u v mg ca cb,c=(none,u,v,o,mg,ca,cb)∧HiP it rk p q o u v∧u+v≤n))→G c y:=by
 rintro c y ⟨hy,⟨r,t,rfl,g⟩| ⟨o1,u1,v1,mg1,ca1,cb1,rfl,P1,k3⟩⟩
 ·exact h1 y r t hy g
 ·exact h2 y o1 u1 v1 mg1 ca1 cb1 hy P1 k3
theorem FR{Q:Array Keyed→SortSt→Prop}(hA:d9 prog w A s κ it rk)(hk:kindOf st=κ)(Ra:aB it a p)(Rb:aB it b q)(sp:Srt rk p)(sq:Srt rk q)(hp:0<p.length)(hq:0<q.length)
  (h0:∀x,q[0]? =some x→∀y∈p,rk x≤rk y)(hl:∀x,p[p.length -1]? =some x→∀y∈q,rk y≤rk x)(h:∀r z,aP st z→bL it rk p q r→Q r z):wpS (model prog w) A E s (Dj a b) Q st:=by
 rw[Bw]
 refine Gak (wpS_lift (GcX ⟨rfl, ?_⟩))
 have sza:=Ra.size
 have szb:=Rb.size
 obtain⟨x0,hx0⟩:∃x,p[p.length -1]? =some x:=⟨_,Gaa (by omega)⟩
 rw[sza,szb]
 refine Gak (aQ Ra hx0 ?_)
 have I0:HiI rk p q [x0] (p.length -1) q.length:=by
  refine⟨?_,GbF _ _,λx hx y hy=> ?_,λx hx y hy=> ?_⟩
  ·have:=take1 hx0
   rw[Gcs,GbH]
   have e:p.drop (p.length -1)=[x0]:=by
    rw[←this,Gci (by simp;omega)]
   rw[e]
  ·simp at hx;subst hx;exact gW sp hx0 (by rw[List.take_length];exact Gbs hy)
  ·simp at hx;subst hx;exact hl _ hx0 y (Gbs hy)
 have R0:aB it #[kas_item it x0] [x0]:=⟨rfl,λj hj=>by simp at hj;subst hj;exact Ra.lt hx0⟩
 have X:HiX prog w A s κ it rk a b p q:=⟨hA,Ra,Rb,sp,sq,h0⟩
 refine bQ (λc1=> ?_) λc1=> ?_
 ·have:p.length -1=0:=by simpa using c1
  exact Gat (h _ _ .refl (X.done R0 I0 (.inl this)))
 have c1' :p.length -1≠0:=by simpa using c1
 refine bQ (λc2=> ?_) λc2=> ?_
 ·have:q.length=1:=by simpa using c2
  exact Gat (h _ _ .refl (X.first R0 I0 this))
 have c2' :q.length≠1:=by simpa using c2
 refine Gak (GcS ?_)
 refine Gak (GbA (Gbk (I:=λi c z=>aP st z∧∃o u v mg,c=(none,u,v,o,mg)∧HiP it rk p q o u v∧u+v+i+1≤p.length+q.length)
  (Q:=λc z=>aP st z∧∃r t,c=(some r,t)∧bL it rk p q r) ?step ?fin ⟨.refl,_,_,_,_,rfl,⟨⟨_,R0,I0⟩,by omega,by omega,by omega,by omega⟩,by omega⟩) ?post)
 case fin=>
  rintro c z ⟨_,o,u,v,mg,rfl,P,g3⟩
  have:=P.bu
  exfalso
  omega
 case post=>
  rintro c z ⟨hz,r,t,rfl,g⟩
  exact Gat (h r z hz g)
 case step=>
  refine Bx λi z o u v mg hi hz P g3=> ?_
  have hkz:kindOf z=κ:=hz.1.trans hk
  refine Gak (GbA (Gbk (I:=λj c z' =>z' =z∧∃o u' v' ca cb,c=(none,u',v',o,ca,cb)∧HiP it rk p q o u' v' ∧u' +v' +j≤u+v)
   (Q:=λc z' =>z' =z∧((∃r t,c=(some r,t)∧bL it rk p q r)∨∃o u' v' ca cb,c=(none,u',v',o,ca,cb)∧HiP it rk p q o u' v' ∧u' +v' +1≤u+v)) ?s1 ?f1 ⟨rfl,o,u,v,0,0,rfl,P,by omega⟩) ?p1)
  case f1=>
   rintro c z' ⟨_,o,u',v',ca,cb,rfl,P',k3⟩
   have:=P'.bu
   have:=P.cu
   have:=P.cv
   exfalso
   omega
  case s1=>
   refine FL λj o u' v' ca cb hj P' k3=> ?_
   have⟨⟨l,Ro,I⟩,bu,bv,cu,cv⟩:=P'
   obtain⟨y,hy⟩:∃x,q[v' -1]? =some x:=⟨_,Gaa (by omega)⟩
   obtain⟨x,hx⟩:∃x,p[u' -1]? =some x:=⟨_,Gaa (by omega)⟩
   refine Gak (aQ Rb hy (Gak (aQ Ra hx (Gak (qh hA hkz (Rb.lt hy) (Ra.lt hx) ?_)))))
   dsimp only
   refine bQ (λlt=> ?_) λlt=> ?_
   ·replace lt:=GaG lt
    refine Gak (aQ Ra hx ?_)
    have I' :=I.mf sp bu hx λt ht=>by have:=gW sq hy ht;omega
    have Ro' :=Ro.push (Ra.lt hx)
    refine bQ (λe=> ?_) λe=> ?_
    ·have:u' -1=0:=by simpa using e
     exact Gat ⟨rfl,.inl ⟨_,_,rfl,X.done Ro' I' (.inl this)⟩⟩
    ·have e' :u' -1≠0:=by simpa using e
     refine bQ (λe2=> ?_) λe2=> ?_
     ·exact Gat ⟨rfl,.inr ⟨_,_,_,_,_,rfl,⟨⟨_,Ro',I'⟩,by omega,bv,by omega,cv⟩,by omega⟩⟩
     ·exact Gat ⟨rfl,_,_,_,_,_,rfl,⟨⟨_,Ro',I'⟩,by omega,bv,by omega,cv⟩,by omega⟩
   ·replace lt:=of_decide_eq_false (GdQ.mpr lt)
    refine Gak (aQ Rb hy ?_)
    have I' :=I.qi sq (by omega) hy λt ht=>by have:=gW sp hx ht;omega
    have Ro' :=Ro.push (Rb.lt hy)
    refine bQ (λe=> ?_) λe=> ?_
    ·have:v' -1=1:=by simpa using e
     exact Gat ⟨rfl,.inl ⟨_,_,rfl,X.first Ro' I' this⟩⟩
    ·have e' :v' -1≠1:=by simpa using e
     refine bQ (λe2=> ?_) λe2=> ?_
     ·exact Gat ⟨rfl,.inr ⟨_,_,_,_,_,rfl,⟨⟨_,Ro',I'⟩,bu,by omega,cu,by omega⟩,by omega⟩⟩
     ·exact Gat ⟨rfl,_,_,_,_,_,rfl,⟨⟨_,Ro',I'⟩,bu,by omega,cu,by omega⟩,by omega⟩
  case p1=>
   refine FN (λr t g=>Gat ⟨hz,r,_,rfl,g⟩) λo1 u1 v1 ca1 cb1 P1 k3=> ?_
   refine Gak (wpS_lift (GcX ⟨rfl, ?_⟩))
   refine Gak (GbA (Gbk (I:=λj c y=>aP st y∧∃o u' v' mg ca cb,c=(none,u',v',o,mg,ca,cb)∧HiP it rk p q o u' v' ∧u' +v' +j≤u1+v1)
    (Q:=λc y=>aP st y∧((∃r t,c=(some r,t)∧bL it rk p q r)∨∃o u' v' mg ca cb,c=(none,u',v',o,mg,ca,cb)∧HiP it rk p q o u' v' ∧u' +v' ≤u1+v1)) ?s2 ?f2 ⟨hz,o1,u1,v1,_,ca1,cb1,rfl,P1,by omega⟩) ?p2)
   case f2=>
    rintro c y ⟨_,o,u',v',mg,ca,cb,rfl,P',n3⟩
    have:=P'.bu
    have:=P1.cu
    have:=P1.cv
    exfalso
    omega
   case p2=>
    refine FQ (λy r t hy g=>Gat ⟨hy,r,_,rfl,g⟩) λy o2 u2 v2 mg2 ca2 cb2 hy P2 n3=> ?_
    dsimp only
    rw[jf]
    exact Gak (GbL (Gat ⟨hy.trans ⟨rfl,rfl,rfl,rfl⟩,o2,u2,v2,_,rfl,P2,by omega⟩))
   case s2=>
    refine FP λj y o u' v' mg' ca cb hj hy P' n3=> ?_
    have⟨⟨l,Ro,I⟩,bu,bv,cu,cv⟩:=P'
    have fin:∀g,wpS (model prog w) A E s (hiA a b g ca cb o u' v') (λr y' =>match r with
      | .done c=>aP st y' ∧((∃r t,c=(some r,t)∧bL it rk p q r)∨∃o u' v' mg ca cb,c=(none,u',v',o,mg,ca,cb)∧HiP it rk p q o u' v' ∧u' +v' ≤u1+v1)
      | .yield c=>aP st y' ∧∃o u' v' mg ca cb,c=(none,u',v',o,mg,ca,cb)∧HiP it rk p q o u' v' ∧u' +v' +(j+1)≤u1+v1) y:=λg=>by
     refine Dk X (hy.1.trans hk) Ro I bu bv cu cv (N:=u' +v' -2) (by omega) λr z' sz hr=> ?_
     cases r with
     |done c=>
      rcases hr with hr| ⟨o,u,v,mg,ca,cb,e,P,hn⟩
      ·exact⟨hy.trans sz,.inl hr⟩
      ·exact⟨hy.trans sz,.inr ⟨o,u,v,mg,ca,cb,e,P,by omega⟩⟩
     |yield c=>
      obtain⟨o,u,v,mg,ca,cb,e,P,hn⟩:=hr
      exact⟨hy.trans sz,o,u,v,mg,ca,cb,e,P,by omega⟩
    show wpS (model prog w) A E s (if mg' >1 then hiA a b (mg' -1) ca cb o u' v' else hiA a b mg' ca cb o u' v') _ y
    split
    ·exact GbA (fin _) λr y' hr=>by cases r<;>exact hr
    ·exact GbA (fin _) λr y' hr=>by cases r<;>exact hr
end
open PySem.W (kas_item kas_swaps_map)
noncomputable abbrev Dl:=Option (Option Nat)×Nat
noncomputable abbrev Dm:=Option (Option Nat)×Nat×Nat
noncomputable def wQ(lo a nrem:Nat):SM Dl:=forIn [a:nrem] ((none,a):Dl) λ_ z=>do
 let x←ltAt' (lo+z.2) (lo+z.2 -1)
 match x with
 |some c=>if c=true then pure (.done (none,z.2)) else pure (.yield (none,z.2+1))
 |_=>pure (.done (some none,z.2))
noncomputable def qj(lo n nrem:Nat):SM (Option Nat):=do
 reverseSlice' lo (lo+n)
 let z←wQ lo n nrem
 match z.1 with
 |some r=>pure r
 |none=>pure (some z.2)
noncomputable def tD(lo n nrem:Nat):SM Dm:=forIn [n:nrem] ((none,n,0):Dm) λ_ z=>do
 let x←ltAt' (lo+z.2.1) (lo+z.2.1 -1)
 match x with
 |some c=>
  if c=true then
   if z.2.2>0 then do
    reverseSlice' (lo+z.2.1 -(z.2.2+1)) (lo+z.2.1)
    pure (.yield (none,z.2.1+1,0))
   else pure (.yield (none,z.2.1+1,0))
  else do
   let y←ltAt' (lo+z.2.1 -1) (lo+z.2.1)
   match y with
   |some d=>if d=true then pure (.done (none,z.2.1,z.2.2)) else pure (.yield (none,z.2.1+1,z.2.2+1))
   |_=>pure (.done (some none,z.2.1,z.2.2))
 |_=>pure (.done (some none,z.2.1,z.2.2))
noncomputable def mh(lo n nrem:Nat):SM (Option Nat):=do
 rule "list.sort.descending-run"
 let z←tD lo (n+1) nrem
 match z.1 with
 |some r=>pure r
 |none=>
  if z.2.2>0 then
   reverseSlice' (lo+z.2.1 -(z.2.2+1)) (lo+z.2.1)
   qj lo z.2.1 nrem
  else qj lo z.2.1 nrem
noncomputable def Dn(lo nrem:Nat):SM (Option Nat):=do
 let z←wQ lo 1 nrem
 match z.1 with
 |some r=>pure r
 |none=>
  if(z.2==nrem)=true then pure (some z.2)
  else if z.2>1 then
   let x←ltAt' lo (lo+z.2 -1)
   match x with
   |some c=>
    if c=true then pure (some z.2)
    else
     reverseSlice' lo (lo+z.2)
     mh lo z.2 nrem
   |_=>pure none
  else mh lo z.2 nrem
theorem oQ(lo nrem:Nat):countRun' lo nrem=Dn lo nrem:=by
 rw[countRun'_eq]
 dsimp only
 unfold Dn mh qj tD wQ
 refine congrArg (bind _) (funext λz=> ?_)
 obtain⟨r,n⟩:=z
 cases r with
 |some r=>rfl
 |none=>
  dsimp only
  split
  ·rfl
  ·split
   ·congr 1
    funext x
    cases x with
    |none=>rfl
    |some c=>
     dsimp only
     split
     ·rfl
     ·congr 1
      funext _r
      congr 1
      funext _u
      congr 1
      congr 1
      funext z2
      obtain⟨r2,n2,q2⟩:=z2
      cases r2 with
      |some r2=>rfl
      |none=>
       dsimp only
       split
       ·congr 1
        funext _v
        congr 1
        funext _w
        congr 1
        funext z3
        obtain⟨r3,n3⟩:=z3
        cases r3<;>rfl
       ·congr 1
        funext _w
        congr 1
        funext z3
        obtain⟨r3,n3⟩:=z3
        cases r3<;>rfl
   ·congr 1
    funext _u
    congr 1
    congr 1
    funext z2
    obtain⟨r2,n2,q2⟩:=z2
    cases r2 with
    |some r2=>rfl
    |none=>
     dsimp only
     split
     ·congr 1
      funext _v
      congr 1
      funext _w
      congr 1
      funext z3
      obtain⟨r3,n3⟩:=z3
      cases r3<;>rfl
     ·congr 1
      funext _w
      congr 1
      funext z3
      obtain⟨r3,n3⟩:=z3
      cases r3<;>rfl
structure SS(κ:SortKind)(it:Array Keyed)(z:SortSt)(p:Array Nat):Prop where
 kind:kindOf z=κ
 arr:arrOf z=p.map (kas_item it)
 fail:failedOf z=none
 ok:∀i∈p.toList,i<it.size
noncomputable def gH(z z' :SortSt):Prop:=pendingOf z' =pendingOf z
noncomputable def Rk(rk:Nat→Int)(p:Array Nat)(i:Nat):Int:=rk (p.getD i 0)
noncomputable def Up'(rk:Nat→Int)(p:Array Nat)(lo hi:Nat):Prop:=∀u v,lo≤u→u≤v→v<hi→Rk rk p u≤Rk rk p v
noncomputable def Dn'(rk:Nat→Int)(p:Array Nat)(lo hi:Nat):Prop:=∀u v,lo≤u→u≤v→v<hi→Rk rk p v≤Rk rk p u
structure Ag(lo hi:Nat)(p p' :Array Nat):Prop where
 perm:p'.Perm p
 out:∀k,k<lo∨hi≤k→p'[k]? =p[k]?
theorem Ag.refl{lo hi:Nat}{p:Array Nat}:Ag lo hi p p:=⟨Array.Perm.refl _,λ_ _=>rfl⟩
theorem Ag.trans{lo hi:Nat}{p q r:Array Nat}(a:Ag lo hi p q)(b:Ag lo hi q r):Ag lo hi p r:=⟨b.perm.trans a.perm,λk h=>(b.out k h).trans (a.out k h)⟩
theorem Ag.size{lo hi:Nat}{p q:Array Nat}(a:Ag lo hi p q):q.size=p.size:=by
 have:=a.perm.toList.length_eq
 simpa using this
theorem Ag.mono{lo hi hi' :Nat}{p q:Array Nat}(a:Ag lo hi p q)(h:hi≤hi'):Ag lo hi' p q:=⟨a.perm,λk z=>a.out k (by omega)⟩
theorem Ag.rk{rk:Nat→Int}{lo hi k:Nat}{p q:Array Nat}(a:Ag lo hi p q)(h:k<lo∨hi≤k):Rk rk q k=Rk rk p k:=by
 unfold Rk
 have:=a.out k h
 simp only[GaI,this]
theorem gX{lo hi:Nat}{p:Array Nat}(h:hi≤p.size):Ag lo hi p (mirror p lo hi ((hi -lo)/2)):=⟨mirror_perm _ _ _ _,λk z=>by
 rw[getElem?_mirror_all h,Gaf (by omega)]⟩
theorem jT{rk:Nat→Int}{i j k:Nat}{p:Array Nat}(h:j≤p.size):Rk rk (mirror p i j ((j -i)/2)) k=if i≤k∧k<j then Rk rk p (i+j -1 -k) else Rk rk p k:=by
 unfold Rk
 simp only[GaI,getElem?_mirror_all h]
 split<;>rfl
theorem cK{rk:Nat→Int}{i j k:Nat}{p:Array Nat}(h:j≤p.size)(e:∀u,i≤u→u<j→Rk rk p u=Rk rk p (j -1)):Rk rk (mirror p i j ((j -i)/2)) k=Rk rk p k:=by
 rw[jT h]
 split
 ·rename_i z
  rw[e _ (by omega) (by omega),e k z.1 z.2]
 ·rfl
section
variable{prog:Program}{w:World}{A:Around}{E:Value→Shared→Prop}{s:Shared}{st:SortSt}{κ:SortKind}{it:Array Keyed}{rk:Nat→Int}{p:Array Nat}
theorem SS.rep(S:SS κ it st p):aB it (arrOf st) p.toList:=⟨by rw[S.arr];apply Gcr.mp;simp,S.ok⟩
theorem SS.move{p' :Array Nat}{xs:Array Keyed}(S:SS κ it st p)(pm:p'.Perm p)(e:xs=p'.map (kas_item it)):SS κ it (setArr st xs) p' :=⟨S.kind,e,S.fail,λi hi=>S.ok i (by
 have:=pm.toList.mem_iff (a:=i)
 exact this.mp hi)⟩
theorem wp_at{i j:Nat}{Q:Option Bool→SortSt→Prop}(hA:d9 prog w A s κ it rk)(S:SS κ it st p)(hi:i<p.size)(hj:j<p.size)(h:Q (some (decide (Rk rk p i<Rk rk p j))) st):wpS (model prog w) A E s (ltAt' i j) Q st:=by
 rw[ltAt'_eq]
 refine Gak (GcS ?_)
 have gi:p.toList[i]? =some (p.getD i 0):=by simp[Array.getD,hi]
 have gj:p.toList[j]? =some (p.getD j 0):=by simp[Array.getD,hj]
 exact Gak (aQ S.rep gi (Gak (aQ S.rep gj (qh hA S.kind (S.rep.lt gi) (S.rep.lt gj) h))))
theorem oR{i j:Nat}{Q:Unit→SortSt→Prop}(S:SS κ it st p)(h:∀z,SS κ it z (mirror p i j ((j -i)/2))→gH st z→Q () z):wpS (model prog w) A E s (reverseSlice' i j) Q st:=by
 rw[reverseSlice'_eq]
 refine GbL (h _ (S.move (mirror_perm _ _ _ _) ?_) rfl)
 rw[S.arr]
 exact kas_swaps_map (kas_item it) (λk=>i+k) (λk=>j -1 -k) _ p
theorem tF{lo a nrem:Nat}{Q:Dl→SortSt→Prop}(hA:d9 prog w A s κ it rk)(S:SS κ it st p)(h1:1≤a)(ha:a≤nrem)(hz:lo+nrem≤p.size)(hu:Up' rk p lo (lo+a))
  (h:∀m,a≤m→m≤nrem→Up' rk p lo (lo+m)→(m=nrem∨Rk rk p (lo+m)<Rk rk p (lo+m -1))→Q (none,m) st):wpS (model prog w) A E s (wQ lo a nrem) Q st:=by
 unfold wQ
 refine Gbk (I:=λx c z=>z=st∧c=(none,x)∧Up' rk p lo (lo+x)) ?step ?fin ⟨rfl,rfl,hu⟩
 case fin=>
  rintro c z ⟨rfl,rfl,q⟩
  rw[show max a nrem=nrem by omega] at q⊢
  exact h nrem ha (Gaq _) q (.inl rfl)
 case step=>
  rintro x c z h2 h3 ⟨rfl,rfl,q⟩
  dsimp only
  refine Gak (wp_at hA S (by omega) (by omega) ?_)
  dsimp only
  by_cases lt:Rk rk p (lo+x)<Rk rk p (lo+x -1)
  ·rw[GaB lt]
   simp only[Gbp]
   exact Gat (h x h2 (by omega) q (.inr lt))
  ·rw[GaD lt]
   simp only[Gax,GaS]
   refine Gat ⟨rfl,rfl,λu v a1 a2 a3=> ?_⟩
   by_cases hv:v<lo+x
   ·exact q u v a1 a2 hv
   ·have e:v=lo+x:=by omega
    subst e
    by_cases hu:u=lo+x
    ·subst hu;exact Gbo _
    ·have:=q u (lo+x -1) a1 (by omega) (by omega)
     omega
theorem qk{lo n nrem:Nat}{Q:Option Nat→SortSt→Prop}(hA:d9 prog w A s κ it rk)(S:SS κ it st p)(h1:1≤n)(hn:n≤nrem)(hz:lo+nrem≤p.size)(hd:Dn' rk p lo (lo+n))
  (h:∀m z p',SS κ it z p' →gH st z→Ag lo (lo+nrem) p p' →1≤m→m≤nrem→Up' rk p' lo (lo+m)→Q (some m) z):wpS (model prog w) A E s (qj lo n nrem) Q st:=by
 unfold qj
 refine Gak (oR S λz S' hp=> ?_)
 have ag:Ag lo (lo+n) p (mirror p lo (lo+n) ((lo+n -lo)/2)):=gX (by omega)
 refine Gak (tF hA S' h1 hn (by rw[ag.size];exact hz) (λu v a1 a2 a3=> ?_) λm m1 m2 m3 _=> ?_)
 ·rw[jT (by omega),jT (by omega),Gag (by omega),Gag (by omega)]
  exact hd _ _ (by omega) (by omega) (by omega)
 ·exact Gat (h m z _ S' hp (ag.mono (by omega)) (by omega) m2 m3)
theorem wR{lo n nrem:Nat}{Q:Dm→SortSt→Prop}(hA:d9 prog w A s κ it rk)(S:SS κ it st p)(h1:1≤n)(hn:n≤nrem)(hz:lo+nrem≤p.size)(hd:Dn' rk p lo (lo+n))
  (h:∀m e z p',SS κ it z p' →gH st z→Ag lo (lo+nrem) p p' →n≤m→m≤nrem→Dn' rk p' lo (lo+m)→e+1≤m→(∀u,lo+m -(e+1)≤u→u<lo+m→Rk rk p' u=Rk rk p' (lo+m -1))→Q (none,m,e) z):wpS (model prog w) A E s (tD lo n nrem) Q st:=by
 unfold tD
 refine Gbk (I:=λx c z=>∃e p',c=(none,x,e)∧SS κ it z p' ∧gH st z∧Ag lo (lo+nrem) p p' ∧Dn' rk p' lo (lo+x)∧e+1≤x∧(∀u,lo+x -(e+1)≤u→u<lo+x→Rk rk p' u=Rk rk p' (lo+x -1))) ?step ?fin
  ⟨0,p,rfl,S,rfl,.refl,hd,by omega,λu a1 a2=>by rw[show u=lo+n -1 by omega]⟩
 case fin=>
  rintro c z ⟨e,p',rfl,S',hp,ag,d,e1,e2⟩
  rw[show max n nrem=nrem by omega] at d e1 e2⊢
  exact h nrem e z p' S' hp ag hn (Gaq _) d e1 e2
 case step=>
  rintro x c z h2 h3 ⟨e,p',rfl,S',hp,ag,d,e1,e2⟩
  have sz:=ag.size
  dsimp only
  refine Gak (wp_at hA S' (by omega) (by omega) ?_)
  dsimp only
  by_cases lt:Rk rk p' (lo+x)<Rk rk p' (lo+x -1)
  ·rw[GaB lt]
   simp only[Gbp]
   have dn:∀r:Array Nat,(∀k,Rk rk r k=Rk rk p' k)→Dn' rk r lo (lo+(x+1)):=λr hr u v a1 a2 a3=>by
    rw[hr,hr]
    by_cases hv:v<lo+x
    ·exact d u v a1 a2 hv
    ·have ev:v=lo+x:=by omega
     subst ev
     by_cases hu:u=lo+x
     ·subst hu;exact Gbo _
     ·have:=d u (lo+x -1) a1 (by omega) (by omega)
      omega
   by_cases g:e>0
   ·rw[Gag g]
    refine Gak (oR S' λz' S2 hp2=>Gat ⟨0,_,rfl,S2,hp2.trans hp,ag.trans ?_,dn _ λk=>cK (by omega) e2,by omega,λu a1 a2=>by rw[show u=lo+(x+1)-1 by omega]⟩)
    have am:Ag (lo+x -(e+1)) (lo+x) p' (mirror p' (lo+x -(e+1)) (lo+x) ((lo+x -(lo+x -(e+1)))/2)):=gX (by omega)
    exact⟨am.perm,λk hk=>am.out k (by omega)⟩
   ·rw[Gaf g]
    exact Gat ⟨0,p',rfl,S',hp,ag,dn p' λ_=>rfl,by omega,λu a1 a2=>by rw[show u=lo+(x+1)-1 by omega]⟩
  ·rw[GaD lt]
   simp only[Gax,GaS]
   refine Gak (wp_at hA S' (by omega) (by omega) ?_)
   dsimp only
   by_cases gt:Rk rk p' (lo+x -1)<Rk rk p' (lo+x)
   ·rw[GaB gt]
    simp only[Gbp]
    exact Gat (h x e z p' S' hp ag h2 (by omega) d e1 e2)
   ·rw[GaD gt]
    simp only[Gax,GaS]
    have eq:Rk rk p' (lo+x)=Rk rk p' (lo+x -1):=by omega
    refine Gat ⟨e+1,p',rfl,S',hp,ag,λu v a1 a2 a3=> ?_,by omega,λu a1 a2=> ?_⟩
    ·by_cases hv:v<lo+x
     ·exact d u v a1 a2 hv
     ·have ev:v=lo+x:=by omega
      subst ev
      by_cases hu:u=lo+x
      ·subst hu;exact Gbo _
      ·have:=d u (lo+x -1) a1 (by omega) (by omega)
       omega
    ·rw[show lo+(x+1)-1=lo+x by omega,eq]
     by_cases hu:u=lo+x
     ·subst hu;exact eq
     ·exact e2 u (by omega) (by omega)
theorem nK{lo n nrem:Nat}{Q:Option Nat→SortSt→Prop}(hA:d9 prog w A s κ it rk)(S:SS κ it st p)(h1:1≤n)(hn:n+1≤nrem)(hz:lo+nrem≤p.size)(hd:Dn' rk p lo (lo+(n+1)))
  (h:∀m z p',SS κ it z p' →gH st z→Ag lo (lo+nrem) p p' →1≤m→m≤nrem→Up' rk p' lo (lo+m)→Q (some m) z):wpS (model prog w) A E s (mh lo n nrem) Q st:=by
 unfold mh
 refine Gak (wpS_lift (GcX ⟨rfl, ?_⟩))
 refine Gak (wR hA S (by omega) hn hz hd λm e z p' S' hp ag m1 m2 d e1 e2=> ?_)
 have sz:=ag.size
 dsimp only
 by_cases g:e>0
 ·rw[Gag g]
  refine Gak (oR S' λz2 S2 hp2=> ?_)
  have am:Ag (lo+m -(e+1)) (lo+m) p' (mirror p' (lo+m -(e+1)) (lo+m) ((lo+m -(lo+m -(e+1)))/2)):=gX (by omega)
  have am' :Ag lo (lo+nrem) p' (mirror p' (lo+m -(e+1)) (lo+m) ((lo+m -(lo+m -(e+1)))/2)):=⟨am.perm,λk hk=>am.out k (by omega)⟩
  refine qk hA S2 (by omega) m2 (by rw[am.size];omega) (λu v a1 a2 a3=> ?_) λm' z3 p3 S3 hp3 ag3=>h m' z3 p3 S3 ((hp3.trans hp2).trans hp) ((ag.trans am').trans ag3)
  rw[cK (by omega) e2,cK (by omega) e2]
  exact d u v a1 a2 a3
 ·rw[Gaf g]
  exact qk hA S' (by omega) m2 (by omega) d λm' z3 p3 S3 hp3 ag3=>h m' z3 p3 S3 (hp3.trans hp) (ag.trans ag3)
theorem wU{lo nrem:Nat}{Q:Option Nat→SortSt→Prop}(hA:d9 prog w A s κ it rk)(S:SS κ it st p)(h1:1≤nrem)(hz:lo+nrem≤p.size)
  (h:∀m z p',SS κ it z p' →gH st z→Ag lo (lo+nrem) p p' →1≤m→m≤nrem→Up' rk p' lo (lo+m)→Q (some m) z):wpS (model prog w) A E s (countRun' lo nrem) Q st:=by
 rw[oQ]
 unfold Dn
 refine Gak (tF hA S (Gaq _) h1 hz (λu v a1 a2 a3=>by rw[show u=v by omega];exact Gbo _) λn n1 n2 up stop=> ?_)
 dsimp only
 by_cases c1:(n==nrem)=true
 ·rw[Gag c1]
  exact Gat (h n st p S rfl .refl n1 n2 up)
 rw[Gaf c1]
 have c1' :n≠nrem:=by simpa using c1
 have lt:Rk rk p (lo+n)<Rk rk p (lo+n -1):=stop.resolve_left c1'
 by_cases c2:n>1
 ·rw[Gag c2]
  refine Gak (wp_at hA S (by omega) (by omega) ?_)
  dsimp only
  by_cases ro:Rk rk p lo<Rk rk p (lo+n -1)
  ·rw[GaB ro]
   simp only[Gbp]
   exact Gat (h n st p S rfl .refl n1 n2 up)
  ·rw[GaD ro]
   simp only[Gax,GaS]
   have eq:∀u,lo≤u→u<lo+n→Rk rk p u=Rk rk p (lo+n -1):=λu a1 a2=>by
    have b1:=up lo u (Gaq _) a1 a2
    have b2:=up u (lo+n -1) a1 (by omega) (by omega)
    omega
   refine Gak (oR S λz S' hp=> ?_)
   have am:Ag lo (lo+n) p (mirror p lo (lo+n) ((lo+n -lo)/2)):=gX (by omega)
   refine nK hA S' n1 (by omega) (by rw[am.size];exact hz) (λu v a1 a2 a3=> ?_) λm' z3 p3 S3 hp3 ag3=>h m' z3 p3 S3 (hp3.trans hp) ((am.mono (by omega)).trans ag3)
   rw[cK (by omega) eq,cK (by omega) eq]
   by_cases hv:v<lo+n
   ·rw[eq u a1 (by omega),eq v (by omega) hv];exact Gbo _
   ·rw[show v=lo+n by omega]
    by_cases hu:u=lo+n
    ·subst hu;exact Gbo _
    ·rw[eq u a1 (by omega)];omega
 ·rw[Gaf c2]
  have n1' :n=1:=by omega
  subst n1'
  refine nK hA S (Gaq _) (by omega) hz (λu v a1 a2 a3=> ?_) h
  by_cases e1:u=v
  ·subst e1;exact Gbo _
  ·rw[show v=lo+1 by omega,show u=lo+1 -1 by omega];omega
end
theorem nL{rk:Nat→Int}{src d k:Nat}{p:Array Nat}(h:src<p.size)(hd:d≤src):Rk rk (bubble p src d) k=if k=src -d then Rk rk p src else if src -d<k∧k≤src then Rk rk p (k -1) else Rk rk p k:=by
 unfold Rk
 simp only[GaI,getElem?_bubble h d hd]
 split
 ·rfl
 ·split<;>rfl
section
variable{prog:Program}{w:World}{A:Around}{E:Value→Shared→Prop}{s:Shared}{st:SortSt}{κ:SortKind}{it:Array Keyed}{rk:Nat→Int}{p:Array Nat}
theorem By{src dst:Nat}{Q:Unit→SortSt→Prop}(S:SS κ it st p)(h:∀z,SS κ it z (bubble p src (src -dst))→gH st z→Q () z):wpS (model prog w) A E s (moveDown' src dst) Q st:=by
 rw[moveDown'_eq]
 refine GbL (h _ (S.move (bubble_perm _ _ _) ?_) rfl)
 rw[S.arr]
 exact kas_swaps_map (kas_item it) (λk=>src -k) (λk=>src -k -1) _ p
theorem Dp{lo n ok:Nat}{Q:Bool→SortSt→Prop}(hA:d9 prog w A s κ it rk)(S:SS κ it st p)(hz:lo+n≤p.size)(h1:1≤ok)(hok:ok≤n)(hu:Up' rk p lo (lo+ok))
  (h:∀z p',SS κ it z p' →gH st z→Ag lo (lo+n) p p' →Up' rk p' lo (lo+n)→Q true z):wpS (model prog w) A E s (binarySort' lo n ok) Q st:=by
 rw[binarySort'_eq]
 refine Gak (GbA (Gbk (I:=λk c z=>∃p',c=(none,())∧SS κ it z p' ∧gH st z∧Ag lo (lo+n) p p' ∧Up' rk p' lo (lo+k))
  (Q:=λc z=>∃p',c=(none,())∧SS κ it z p' ∧gH st z∧Ag lo (lo+n) p p' ∧Up' rk p' lo (lo+n)) ?step ?fin ⟨p,rfl,S,rfl,.refl,by rw[show max ok 1=ok by omega];exact hu⟩) ?post)
 case post=>
  rintro c z ⟨p',rfl,S',hp,ag,up⟩
  exact Gat (h z p' S' hp ag up)
 case fin=>
  rintro c z ⟨p',rfl,S',hp,ag,up⟩
  rw[show max (max ok 1) n=n by omega] at up
  exact⟨p',rfl,S',hp,ag,up⟩
 case step=>
  rintro k c z k1 k2 ⟨p',rfl,S',hp,ag,up⟩
  have sz:=ag.size
  refine Gak (GbA (Gbk (I:=λi c z' =>z' =z∧∃l r,c=(none,l,r)∧l≤r∧r≤k∧r -l≤k -i∧(∀u,u<l→Rk rk p' (lo+u)≤Rk rk p' (lo+k))∧(∀u,r≤u→u<k→Rk rk p' (lo+k)≤Rk rk p' (lo+u)))
   (Q:=λc z' =>z' =z∧∃l,c=(none,l,l)∧l≤k∧(∀u,u<l→Rk rk p' (lo+u)≤Rk rk p' (lo+k))∧(∀u,l≤u→u<k→Rk rk p' (lo+k)≤Rk rk p' (lo+u))) ?s1 ?f1 ⟨rfl,0,k,rfl,by omega,by omega,by omega,λu hu=>by omega,λu a1 a2=>by omega⟩) ?p1)
  case f1=>
   rintro c z' ⟨rfl,l,r,rfl,q1,q2,q3,q4,q5⟩
   have:l=r:=by omega
   subst this
   exact⟨rfl,l,rfl,q2,q4,q5⟩
  case s1=>
   rintro i c z' _ hi ⟨rfl,l,r,rfl,q1,q2,q3,q4,q5⟩
   dsimp only
   by_cases g:l≥r
   ·rw[Gag g]
    have:l=r:=by omega
    subst this
    exact Gat ⟨rfl,l,rfl,q2,q4,q5⟩
   rw[Gaf g]
   refine Gak (wp_at hA S' (by omega) (by omega) ?_)
   by_cases lt:Rk rk p' (lo+k)<Rk rk p' (lo+(l+r)/2)
   ·rw[GaB lt]
    simp only[Gbp]
    refine Gat ⟨rfl,l,(l+r)/2,rfl,by omega,by omega,by omega,q4,λu a1 a2=> ?_⟩
    have:=up (lo+(l+r)/2) (lo+u) (by omega) (by omega) (by omega)
    omega
   ·rw[GaD lt]
    simp only[Gax,GaS]
    refine Gat ⟨rfl,(l+r)/2+1,r,rfl,by omega,by omega,by omega,λu a1=> ?_,q5⟩
    have:=up (lo+u) (lo+(l+r)/2) (by omega) (by omega) (by omega)
    omega
  case p1=>
   rintro c z' ⟨rfl,l,rfl,l1,l2,l3⟩
   refine Gak (By S' λz2 S2 hp2=>Gat ⟨_,rfl,S2,hp2.trans hp,ag.trans ⟨bubble_perm _ _ _,λj hj=> ?_⟩,λu v a1 a2 a3=> ?_⟩)
   ·rw[getElem?_bubble (by omega) _ (by omega),Gaf (by omega),Gaf (by omega)]
   ·rw[nL (by omega) (by omega),nL (by omega) (by omega)]
    have e:lo+k -(lo+k -(lo+l))=lo+l:=by omega
    rw[e]
    by_cases u1:u=lo+l
    ·rw[Gag u1]
     by_cases v1:v=lo+l
     ·rw[Gag v1];exact Gbo _
     ·rw[Gaf v1,Gag (by omega)]
      have:=l3 (v -1 -lo) (by omega) (by omega)
      rw[show lo+(v -1 -lo)=v -1 by omega] at this
      exact this
    ·rw[Gaf u1]
     by_cases u2:lo+l<u∧u≤lo+k
     ·rw[Gag u2,Gaf (by omega),Gag (by omega)]
      exact up _ _ (by omega) (by omega) (by omega)
     ·rw[Gaf u2]
      have hu' :u<lo+l:=by omega
      by_cases v1:v=lo+l
      ·rw[Gag v1]
       have:=l2 (u -lo) (by omega)
       rw[show lo+(u -lo)=u by omega] at this
       exact this
      ·rw[Gaf v1]
       by_cases v2:lo+l<v∧v≤lo+k
       ·rw[Gag v2]
        exact up _ _ (by omega) (by omega) (by omega)
       ·rw[Gaf v2]
        exact up _ _ a1 a2 (by omega)
end
theorem Dq{rk:Nat→Int}{p:Array Nat}{k x:Nat}(h:p.toList[k]? =some x):Rk rk p k=rk x:=by
 unfold Rk
 have h' :p[k]? =some x:=by simpa using h
 simp[GaI,h']
theorem oS{rk:Nat→Int}{p:Array Nat}{lo n:Nat}(hz:lo+n≤p.size):Up' rk p lo (lo+n)↔Srt rk ((p.toList.drop lo).take n):=by
 have len:((p.toList.drop lo).take n).length=n:=by simp;omega
 have at_:∀u,u<n→∃x,((p.toList.drop lo).take n)[u]? =some x∧Rk rk p (lo+u)=rk x:=λu hu=>by
  have h1:u<((p.toList.drop lo).take n).length:=by rw[len];exact hu
  refine⟨((p.toList.drop lo).take n)[u],Gaa h1, ?_⟩
  have:=Gaa h1
  rw[GaK hu,GaW] at this
  exact Dq this
 constructor
 ·intro h
  unfold Srt
  rw[GbQ]
  intro i j hi hj hij
  rw[len] at hi hj
  obtain⟨x,e1,e2⟩:=at_ i hi
  obtain⟨y,e3,e4⟩:=at_ j hj
  obtain⟨_,e5⟩:=Gac.mp e1
  obtain⟨_,e6⟩:=Gac.mp e3
  rw[e5,e6,←e2,←e4]
  exact h _ _ (by omega) (by omega) (by omega)
 ·intro h u v a1 a2 a3
  obtain⟨x,e1,e2⟩:=at_ (u -lo) (by omega)
  obtain⟨y,e3,e4⟩:=at_ (v -lo) (by omega)
  rw[show lo+(u -lo)=u by omega] at e2
  rw[show lo+(v -lo)=v by omega] at e4
  rw[e2,e4]
  exact kU h (by omega) e1 e3
theorem ql{α:Type}(c:Nat):∀(m:List α) (n:Nat) (a:Array α),c+n+m.length≤a.size→((m.zipIdx n).foldl (λa (x:α×Nat)=>a.setIfInBounds (c+x.2) x.1) a).toList=a.toList.take (c+n)++m++a.toList.drop (c+n+m.length)
 |[],n,a,_=>by simp
 |x::m,n,a,h=>by
  rw[List.zipIdx_cons,GcA]
  simp only[GbC] at h
  rw[ql c m (n+1) _ (by rw[Array.size_setIfInBounds];omega),Gda]
  have hc:c+n<a.toList.length:=by simp;omega
  have e1:(a.toList.set (c+n) x).take (c+(n+1))=a.toList.take (c+n)++[x]:=by
   rw[show c+(n+1)=c+n+1 by omega,List.take_succ,List.take_set_of_le (Gaq _),Gbc hc]
   rfl
  have e2:(a.toList.set (c+n) x).drop (c+(n+1)+m.length)=a.toList.drop (c+n+(x::m).length):=by
   rw[List.drop_set_of_lt (by omega)]
   congr 1
   simp only[GbC];omega
  rw[e1,e2]
  simp
theorem Bz{M:Model}{A:Around}{E:Value→Shared→Prop}{s:Shared}{σ:Type}{x st:σ}{Q:PUnit→σ→Prop}(h:Q ⟨⟩ x):wpS M A E s (set x:StateT σ Sem PUnit) Q st:=by
 unfold wpS;rw[StateT.run_set];exact Gae ⟨rfl,h⟩
theorem BA(i:Nat):mergeAt' i=(do
 let z←get
 let(some (sa,na,w0),some (sb,nb,_)):=((pendingOf z)[i]?,(pendingOf z)[i+1]?)|unsupported "internal:list.sort.pending"
 set (setPending z (((pendingOf z).setIfInBounds i (sa,na+nb,w0)).eraseIdxIfInBounds (i+1)))
 let some k←gf false (←elem' (arrOf z) sb) (arrOf z) sa na 0|return false
 let(sc,nc):=(sa+k,na -k)
 if nc==0 then return true
 let some nd←gf true (←elem' (arrOf z) (sc+nc -1)) (arrOf z) sb nb (nb -1)|return false
 if nd==0 then return true
 let x:=(arrOf z).extract sc sb
 let y:=(arrOf z).extract sb (sb+nd)
 let mm←if nc≤nd then Dg x y else Dj x y
 modify λz=>setArr z (mm.toList.zipIdx.foldl (λa (q,j)=>a.setIfInBounds (sc+j) q) (arrOf z))
 return(failedOf (←get)).isNone):=rfl
section
variable{prog:Program}{w:World}{A:Around}{E:Value→Shared→Prop}{s:Shared}{st:SortSt}{κ:SortKind}{it:Array Keyed}{rk:Nat→Int}{p:Array Nat}
theorem BB{l:List Nat}{a b:Nat}(h:a≤b):l=l.take a++(l.drop a).take (b -a)++l.drop b:=by
 rw[GaA,←wM h,GaX]
theorem rO{i sa na sb nb w0 w1:Nat}{Q:Bool→SortSt→Prop}(hA:d9 prog w A s κ it rk)(S:SS κ it st p)(e1:(pendingOf st)[i]? =some (sa,na,w0))(e2:(pendingOf st)[i+1]? =some (sb,nb,w1))(hb:sb=sa+na)(ha0:0<na)(hb0:0<nb)(hz:sb+nb≤p.size)
  (ua:Up' rk p sa sb)(ub:Up' rk p sb (sb+nb))
  (h:∀z p',SS κ it z p' →pendingOf z=((pendingOf st).setIfInBounds i (sa,na+nb,w0)).eraseIdxIfInBounds (i+1)→Ag sa (sb+nb) p p' →Up' rk p' sa (sb+nb)→Q true z):wpS (model prog w) A E s (mergeAt' i) Q st:=by
 rw[BA]
 refine Gak (GcS ?_)
 rw[e1,e2]
 refine Gak (Bz ?_)
 generalize hz1:setPending st (((pendingOf st).setIfInBounds i (sa,na+nb,w0)).eraseIdxIfInBounds (i+1))=z1
 have S1:SS κ it z1 p:=by rw[←hz1];exact⟨S.kind,S.arr,S.fail,S.ok⟩
 have pe:pendingOf z1=((pendingOf st).setIfInBounds i (sa,na+nb,w0)).eraseIdxIfInBounds (i+1):=by rw[←hz1]
 have R:=S.rep
 have szl:p.toList.length=p.size:=by simp
 subst hb
 have sA:Srt rk ((p.toList.drop sa).take na):=(oS (by omega)).mp ua
 have sB:Srt rk ((p.toList.drop (sa+na)).take nb):=(oS (by omega)).mp ub
 have whole:∀l:List Nat,(p.toList.drop sa).take (na+nb)=l→Srt rk l→Up' rk p sa (sa+na+nb):=λl hl hs=>by
  rw[Gdw]
  exact(oS (by omega)).mpr (by rw[hl];exact hs)
 have split:(p.toList.drop sa).take (na+nb)=(p.toList.drop sa).take na++(p.toList.drop (sa+na)).take nb:=by
  rw[List.take_add,GbO]
 obtain⟨y0,ey0⟩:∃x,p.toList[sa+na]? =some x:=⟨_,Gaa (by omega)⟩
 refine Gak (aQ R ey0 ?_)
 refine Gak (jS hA S1.kind R (R.lt ey0) (by omega) sA ha0 λk k1 t1 t2=> ?_)
 simp only[Gax,GaS] at t1 t2
 dsimp only
 have hB0:((p.toList.drop (sa+na)).take nb)[0]? =some y0:=by
  rw[GaK hb0,GaW];exact ey0
 have leB:∀y∈(p.toList.drop (sa+na)).take nb,rk y0≤rk y:=λy hy=>gV sB hB0 (by rw[Gch];exact hy)
 by_cases c1:(na -k==0)=true
 ·rw[Gag c1]
  have:na -k=0:=by simpa using c1
  have kk:k=na:=by omega
  subst kk
  refine Gat (h z1 p S1 pe .refl (whole _ split (bR sA sB λx hx y hy=> ?_)))
  have q1:=t1 x (by rw[Gcp,GdC];exact hx)
  have q2:=leB y hy
  omega
 rw[Gaf c1]
 have c1' :na -k≠0:=by simpa using c1
 obtain⟨x1,ex1⟩:∃x,p.toList[sa+k+(na -k)-1]? =some x:=⟨_,Gaa (by omega)⟩
 refine Gak (aQ R ex1 ?_)
 refine Gak (jS hA S1.kind R (R.lt ex1) (by omega) sB (by omega) λnd d1 t3 t4=> ?_)
 simp only[Gbp] at t3 t4
 dsimp only
 have hAl:((p.toList.drop sa).take na)[na -1]? =some x1:=by
  rw[GaK (by omega),GaW,show sa+(na -1)=sa+k+(na -k)-1 by omega]
  exact ex1
 have leA:∀x∈(p.toList.drop sa).take na,rk x≤rk x1:=λx hx=>by
  refine gW (n:=na) sA hAl ?_
  rw[Gcp,GdC];exact hx
 by_cases c2:(nd==0)=true
 ·rw[Gag c2]
  have nd0:nd=0:=by simpa using c2
  subst nd0
  refine Gat (h z1 p S1 pe .refl (whole _ split (bR sA sB λx hx y hy=> ?_)))
  have q1:=leA x hx
  have q2:=t4 y (by rw[Gch];exact hy)
  omega
 rw[Gaf c2]
 have c2' :nd≠0:=by simpa using c2
 have Rx:aB it ((arrOf st).extract (sa+k) (sa+na)) ((p.toList.drop (sa+k)).take (na -k)):=by
  have:=R.extract (sa+k) (sa+na)
  rw[show sa+na -(sa+k)=na -k by omega] at this
  exact this
 have Ry:aB it ((arrOf st).extract (sa+na) (sa+na+nd)) ((p.toList.drop (sa+na)).take nd):=by
  have:=R.extract (sa+na) (sa+na+nd)
  rw[show sa+na+nd -(sa+na)=nd by omega] at this
  exact this
 have ePx:(p.toList.drop (sa+k)).take (na -k)=((p.toList.drop sa).take na).drop k:=by rw[GcT,GbO]
 have ePy:(p.toList.drop (sa+na)).take nd=((p.toList.drop (sa+na)).take nb).take nd:=by rw[Gcp,Gdi d1]
 have sx:Srt rk ((p.toList.drop (sa+k)).take (na -k)):=by rw[ePx];exact c6 sA k
 have sy:Srt rk ((p.toList.drop (sa+na)).take nd):=by rw[ePy];exact cJ sB nd
 have lx:((p.toList.drop (sa+k)).take (na -k)).length=na -k:=by simp;omega
 have ly:((p.toList.drop (sa+na)).take nd).length=nd:=by simp;omega
 have f0:∀x,((p.toList.drop (sa+na)).take nd)[0]? =some x→∀y∈(p.toList.drop (sa+k)).take (na -k),rk x≤rk y:=λx hx y hy=>by
  rw[GaK (by omega),GaW] at hx
  have:p.toList[sa+na]? =some x:=hx
  rw[ey0] at this;cases this
  rw[ePx] at hy
  have:=t2 y hy
  omega
 have fl:∀x,((p.toList.drop (sa+k)).take (na -k))[((p.toList.drop (sa+k)).take (na -k)).length -1]? =some x→∀y∈(p.toList.drop (sa+na)).take nd,rk y≤rk x:=λx hx y hy=>by
  rw[lx,GaK (by omega),GaW,show sa+k+(na -k -1)=sa+k+(na -k)-1 by omega,ex1] at hx
  cases hx
  rw[ePy] at hy
  have:=t3 y hy
  omega
 have fin:∀mm z,aP z1 z→bL it rk ((p.toList.drop (sa+k)).take (na -k)) ((p.toList.drop (sa+na)).take nd) mm→
   wpS (model prog w) A E s (do
    modify λz=>setArr z (mm.toList.zipIdx.foldl (λa (x:Keyed×Nat)=>a.setIfInBounds (sa+k+x.2) x.1) (arrOf z))
    let z' ←get
    pure (failedOf z').isNone) Q z:=by
  rintro mm z sg ⟨m,Rm,pm,sm⟩
  have lm:m.length=na -k+nd:=by have:=pm.length_eq;rw[GaR,lx,ly] at this;exact this
  refine Gak (GbL (Gak (GcS (Gat ?_))))
  have ea:arrOf z=arrOf st:=sg.2.1.trans (by rw[S1.arr,S.arr])
  have hmm:mm.toList=m.map (kas_item it):=by rw[Rm.1]
  have hw:((mm.toList.zipIdx.foldl (λa (x:Keyed×Nat)=>a.setIfInBounds (sa+k+x.2) x.1) (arrOf z))).toList=(p.toList.take (sa+k)++m++p.toList.drop (sa+na+nd)).map (kas_item it):=by
   rw[hmm,ea]
   have:=ql (sa+k) (m.map (kas_item it)) 0 (arrOf st) (by rw[Gan,lm,R.size,szl];omega)
   rw[this,R.1]
   simp only[GcB,List.map_take,List.map_drop,Gan,lm,Nat.add_zero]
   rw[show sa+k+(na -k+nd)=sa+na+nd by omega]
  have fz:failedOf (setArr z (mm.toList.zipIdx.foldl (λa (x:Keyed×Nat)=>a.setIfInBounds (sa+k+x.2) x.1) (arrOf z)))=none:=sg.2.2.2.trans S1.fail
  have pieces:p.toList=p.toList.take (sa+k)++((p.toList.drop (sa+k)).take (na -k)++(p.toList.drop (sa+na)).take nd)++p.toList.drop (sa+na+nd):=by
   conv=>lhs;rw[BB (l:=p.toList) (show sa+k≤sa+na+nd by omega)]
   congr 2
   rw[show sa+na+nd -(sa+k)=(na -k)+nd by omega,List.take_add,GbO,show sa+k+(na -k)=sa+na by omega]
  generalize hl' :p.toList.take (sa+k)++m++p.toList.drop (sa+na+nd)=l' at hw
  have pl:l'.Perm p.toList:=by
   rw[←hl']
   conv=>rhs;rw[pieces]
   exact Gbu _ (GbP _ pm)
  have S2:SS κ it (setArr z (mm.toList.zipIdx.foldl (λa (x:Keyed×Nat)=>a.setIfInBounds (sa+k+x.2) x.1) (arrOf z))) l'.toArray:=by
   refine⟨sg.1.trans S1.kind, ?_,fz,λj hj=>S.ok j (pl.mem_iff.mp hj)⟩
   apply Gcr.mp
   show(mm.toList.zipIdx.foldl (λa (x:Keyed×Nat)=>a.setIfInBounds (sa+k+x.2) x.1) (arrOf z)).toList=_
   rw[hw];simp
  have lt1:(p.toList.take (sa+k)).length=sa+k:=by simp;omega
  have ag:Ag sa (sa+na+nb) p l'.toArray:=by
   refine⟨⟨pl⟩,λj hj=> ?_⟩
   show l'.toArray[j]? =p[j]?
   have g1:l'.toArray[j]? =l'[j]? :=by simp
   have g2:p[j]? =p.toList[j]? :=by simp
   rw[g1,g2,←hl']
   rcases hj with hj|hj
   ·rw[GaA,Gbm (by rw[lt1];omega),GaK (by omega)]
   ·rw[Gbh (by rw[GaR,lt1,lm];omega),GaR,lt1,lm,GaW]
    congr 1;omega
  have nn:failedOf (setArr z (mm.toList.zipIdx.foldl (λa (x:Keyed×Nat)=>a.setIfInBounds (sa+k+x.2) x.1) (arrOf z)))=none:=fz
  have goal:=h _ l'.toArray S2 (sg.2.2.1.trans pe) ag ?_
  ·rw[nn];exact goal
  ·rw[Gdw]
   refine(oS (by rw[Gas,pl.length_eq,szl];omega)).mpr ?_
   have seg:(l'.drop sa).take (na+nb)=((p.toList.drop sa).take na).take k++m++((p.toList.drop (sa+na)).take nb).drop nd:=by
    rw[←hl',GaA,List.drop_append_of_le_length (by rw[lt1];omega)]
    have q1:(p.toList.take (sa+k)).drop sa=((p.toList.drop sa).take na).take k:=by rw[GcT,Gcp,show sa+k -sa=k by omega,Gdi k1]
    rw[q1]
    have lk:(((p.toList.drop sa).take na).take k).length=k:=by simp;omega
    rw[←GaA,List.take_append,GaR,lk,lm,Gci (by rw[GaR,lk,lm];omega)]
    congr 1
    rw[GcT,GbO]
    congr 1
    omega
   show Srt rk ((l'.toArray.toList.drop sa).take (na+nb))
   show Srt rk ((l'.drop sa).take (na+nb))
   rw[seg]
   refine bR (bR (cJ sA k) sm λx hx y hy=> ?_) (c6 sB nd) λx hx y hy=> ?_
   ·rcases GaL.mp (pm.mem_iff.mp hy) with hy|hy
    ·rw[ePx] at hy
     exact kW sA k x hx y hy
    ·rw[ePy] at hy
     have b1:=t1 x hx
     have b2:=leB y (Gbs hy)
     omega
   ·rcases GaL.mp hx with hx|hx
    ·have b1:=leA x (Gbs hx)
     have b2:=t4 y hy
     omega
    ·rcases GaL.mp (pm.mem_iff.mp hx) with hx|hx
     ·rw[ePx] at hx
      have b1:=leA x (GbE hx)
      have b2:=t4 y hy
      omega
     ·rw[ePy] at hx
      exact kW sB nd x hx y hy
 by_cases c3:na -k≤nd
 ·rw[Gag c3]
  exact Gak (FK hA S1.kind Rx Ry sx sy (by omega) (by omega) f0 fl fin)
 ·rw[Gaf c3]
  exact Gak (FR hA S1.kind Rx Ry sx sy (by omega) (by omega) f0 fl fin)
end
noncomputable abbrev Run:=Nat×Nat×Nat
noncomputable def chain:Nat→List Run→Nat→Prop
 |a,[],b=>a=b
 |a,r::t,b=>r.1=a∧0<r.2.1∧chain (a+r.2.1) t b
theorem jg:∀{l:List Run} {a b:Nat},chain a l b→a+l.length≤b
 |[],a,b,h=>by have:a=b:=h;simp;omega
 |r::t,a,b,h=>by
  have:=jg h.2.2
  have:=h.2.1
  simp only[GbC];omega
theorem jU:∀{l:List Run} {a b:Nat} {r:Run},chain a l b→r∈l→a≤r.1∧r.1+r.2.1≤b∧0<r.2.1
 |q::t,a,b,r,h,hr=>by
  rcases Gar.mp hr with e|e
  ·subst e
   have:=jg h.2.2
   have:=h.1
   exact⟨by omega,by omega,h.2.1⟩
  ·have:=jU h.2.2 e
   exact⟨by omega,this.2.1,this.2.2⟩
theorem mi:∀{l:List Run} {a b:Nat} {n w0:Nat},chain a l b→0<n→chain a (l++[(b,n,w0)]) (b+n)
 |[],a,b,n,w0,h,hn=>by have:a=b:=h;subst this;exact⟨rfl,hn,rfl⟩
 |r::t,a,b,n,w0,h,hn=> ⟨h.1,h.2.1,mi h.2.2 hn⟩
theorem jh{f:Run→Run}(hf:∀r,(f r).1=r.1∧(f r).2.1=r.2.1):∀{l:List Run} {a b:Nat} (i:Nat),chain a l b→chain a (l.modify i f) b
 |[],a,b,i,h=>by simpa using h
 |r::t,a,b,0,h=>by
  rw[List.modify_zero_cons]
  exact⟨(hf r).1.trans h.1,by rw[(hf r).2];exact h.2.1,by rw[(hf r).2];exact h.2.2⟩
 |r::t,a,b,i+1,h=>by
  rw[List.modify_succ_cons]
  exact⟨h.1,h.2.1,jh hf i h.2.2⟩
theorem mem_modify{f:Run→Run}(hf:∀r,(f r).1=r.1∧(f r).2.1=r.2.1):∀{l:List Run} {i:Nat} {r:Run},r∈l.modify i f→∃r' ∈l,r'.1=r.1∧r'.2.1=r.2.1
 |[],i,r,h=>by simp at h
 |q::t,0,r,h=>by
  rw[List.modify_zero_cons] at h
  rcases Gar.mp h with e|e
  ·subst e;exact⟨q,Gap,(hf q).1.symm,(hf q).2.symm⟩
  ·exact⟨r,Gai _ e,rfl,rfl⟩
 |q::t,i+1,r,h=>by
  rw[List.modify_succ_cons] at h
  rcases Gar.mp h with e|e
  ·subst e;exact⟨r,Gap,rfl,rfl⟩
  ·obtain⟨r',h1,h2⟩:=mem_modify hf e
   exact⟨r',Gai _ h1,h2⟩
theorem ky:∀{l:List Run} {a b:Nat} {i sa na w0 sb nb w1:Nat},chain a l b→l[i]? =some (sa,na,w0)→l[i+1]? =some (sb,nb,w1)→
  sb=sa+na∧0<na∧0<nb∧a≤sa∧sb+nb≤b∧chain a ((l.set i (sa,na+nb,w0)).eraseIdx (i+1)) b∧∀r∈(l.set i (sa,na+nb,w0)).eraseIdx (i+1),r=(sa,na+nb,w0)∨(r∈l∧(r.1+r.2.1≤sa∨sb+nb≤r.1))
 |r::r2::t,a,b,0,sa,na,w0,sb,nb,w1,h,e1,e2=>by
  simp at e1 e2
  subst e1 e2
  obtain⟨h1,h2,h3,h4,h5⟩:=h
  have h1' :sa=a:=h1
  have h3' :sb=a+na:=h3
  have h2' :0<na:=h2
  have h4' :0<nb:=h4
  have le:=jg h5
  refine⟨by omega,h2',h4',by omega, ?_, ?_,λq hq=> ?_⟩
  ·have:a+na+nb≤b:=by
    have:a+(sa,na,w0).2.1+(sb,nb,w1).2.1+t.length≤b:=le
    have:a+na+nb+t.length≤b:=this
    omega
   omega
  ·show chain a ((sa,na+nb,w0)::t) b
   refine⟨h1,by show 0<na+nb;omega, ?_⟩
   show chain (a+(na+nb)) t b
   rw[←Gdw]
   exact h5
  ·have hq' :q=(sa,na+nb,w0)∨q∈t:=by simpa using hq
   rcases hq' with e|e
   ·exact .inl e
   ·refine .inr ⟨Gai _ (Gai _ e),.inr ?_⟩
    have:=(jU h5 e).1
    have:a+na+nb≤q.1:=this
    omega
 |r::t,a,b,i+1,sa,na,w0,sb,nb,w1,h,e1,e2=>by
  rw[Gdp] at e1 e2
  obtain⟨g1,g2,g3,g4,g5,g6,g7⟩:=ky h.2.2 e1 e2
  have:=h.2.1
  refine⟨g1,g2,g3,by omega,g5,⟨h.1,h.2.1, ?_⟩,λq hq=> ?_⟩
  ·exact g6
  ·have hq' :q=r∨q∈(t.set i (sa,na+nb,w0)).eraseIdx (i+1):=by simpa using hq
   rcases hq' with e|e
   ·subst e
    refine .inr ⟨Gap,.inl ?_⟩
    have:=h.1
    omega
   ·rcases g7 q e with z| ⟨z1,z2⟩
    ·exact .inl z
    ·exact .inr ⟨Gai _ z1,z2⟩
section
variable{prog:Program}{w:World}{A:Around}{E:Value→Shared→Prop}{s:Shared}{st:SortSt}{κ:SortKind}{it:Array Keyed}{rk:Nat→Int}{p0 p:Array Nat}
structure Pd(κ:SortKind)(it:Array Keyed)(rk:Nat→Int)(p0:Array Nat)(lo:Nat)(z:SortSt)(p:Array Nat):Prop where
 ss:SS κ it z p
 perm:p.Perm p0
 ch:chain 0 (pendingOf z).toList lo
 up:∀r∈(pendingOf z).toList,Up' rk p r.1 (r.1+r.2.1)
 le:lo≤p0.size
theorem Pd.size{lo:Nat}{z:SortSt}(P:Pd κ it rk p0 lo z p):p.size=p0.size:=by
 have:=P.perm.toList.length_eq
 simpa using this
theorem mj{lo i:Nat}{Q:Bool→SortSt→Prop}(hA:d9 prog w A s κ it rk)(P:Pd κ it rk p0 lo st p)(hi:i+1<(pendingOf st).size)
  (h:∀z p',Pd κ it rk p0 lo z p' →Ag 0 lo p p' →(pendingOf z).size+1=(pendingOf st).size→Q true z):wpS (model prog w) A E s (mergeAt' i) Q st:=by
 obtain⟨⟨sa,na,w0⟩,e1⟩:∃x,(pendingOf st)[i]? =some x:=⟨_,Gau (by omega)⟩
 obtain⟨⟨sb,nb,w1⟩,e2⟩:∃x,(pendingOf st)[i+1]? =some x:=⟨_,Gau hi⟩
 have e1' :(pendingOf st).toList[i]? =some (sa,na,w0):=by simpa using e1
 have e2' :(pendingOf st).toList[i+1]? =some (sb,nb,w1):=by simpa using e2
 obtain⟨g1,g2,g3,g4,g5,g6,g7⟩:=ky P.ch e1' e2'
 have le:=P.le
 have sz:=P.size
 have u1:=P.up _ (GaJ e1')
 have u2:=P.up _ (GaJ e2')
 refine rO hA P.ss e1 e2 g1 g2 g3 (by omega) (by rw[g1];exact u1) u2 λz p' S' pe ag up' => ?_
 have tl:(pendingOf z).toList=((pendingOf st).toList.set i (sa,na+nb,w0)).eraseIdx (i+1):=by
  rw[pe]
  simp[Array.toList_eraseIdxIfInBounds,Gda]
 have aL:Ag 0 lo p p' :=⟨ag.perm,λk hk=>ag.out k (by omega)⟩
 refine h z p' ⟨S',ag.perm.trans P.perm,by rw[tl];exact g6,λr hr=> ?_,P.le⟩ aL ?_
 ·rw[tl] at hr
  rcases g7 r hr with e| ⟨hr1,hr2⟩
  ·subst e
   show Up' rk p' sa (sa+(na+nb))
   rw[←Gdw,←g1];exact up'
  ·intro u v a1 a2 a3
   rw[ag.rk (by omega),ag.rk (by omega)]
   exact P.up r hr1 u v a1 a2 a3
 ·have l1:(pendingOf z).size=(pendingOf z).toList.length:=by simp
  have l2:(pendingOf st).size=(pendingOf st).toList.length:=by simp
  rw[l1,l2,tl,Gdb (by rw[GdB,←l2];exact hi),GdB]
  omega
end
section
variable{prog:Program}{w:World}{A:Around}{E:Value→Shared→Prop}{s:Shared}{st:SortSt}{κ:SortKind}{it:Array Keyed}{rk:Nat→Int}{p0 p:Array Nat}
theorem Pd.push{lo n:Nat}{z:SortSt}(P:Pd κ it rk p0 lo z p)(hn:0<n)(hz:lo+n≤p0.size)(hu:Up' rk p lo (lo+n)):Pd κ it rk p0 (lo+n) (setPending z ((pendingOf z).push (lo,n,0))) p:=by
 refine⟨⟨P.ss.kind,P.ss.arr,P.ss.fail,P.ss.ok⟩,P.perm, ?_,λr hr=> ?_,hz⟩
 ·show chain 0 ((pendingOf z).push (lo,n,0)).toList (lo+n)
  rw[GdR]
  exact mi P.ch hn
 ·have hr' :r∈((pendingOf z).push (lo,n,0)).toList:=hr
  rw[GdR] at hr'
  rcases GaL.mp hr' with e|e
  ·exact P.up r e
  ·simp at e;subst e;exact hu
theorem Pd.modify{lo i:Nat}{z:SortSt}{f:Run→Run}(P:Pd κ it rk p0 lo z p)(hf:∀r,(f r).1=r.1∧(f r).2.1=r.2.1):Pd κ it rk p0 lo (setPending z ((pendingOf z).modify i f)) p:=by
 refine⟨⟨P.ss.kind,P.ss.arr,P.ss.fail,P.ss.ok⟩,P.perm, ?_,λr hr=> ?_,P.le⟩
 ·show chain 0 ((pendingOf z).modify i f).toList lo
  rw[Array.toList_modify]
  exact jh hf i P.ch
 ·have hr' :r∈((pendingOf z).modify i f).toList:=hr
  rw[Array.toList_modify] at hr'
  obtain⟨r',h1,h2,h3⟩:=mem_modify hf hr'
  rw[←h2,←h3]
  exact P.up r' h1
theorem BC{Q:Unit→SortSt→Prop}(hA:d9 prog w A s κ it rk)(S:SS κ it st p0)(hp:pendingOf st=#[])(h1:1≤p0.size)
  (h:∀z p,SS κ it z p→p.Perm p0→Up' rk p 0 p0.size→Q () z):wpS (model prog w) A E s sortRuns' Q st:=by
 rw[sortRuns'_eq]
 refine Gak (GcS ?_)
 dsimp only
 have sz:(arrOf st).size=p0.size:=by rw[S.arr];simp
 rw[sz]
 generalize minRun' p0.size p0.size 0=mr
 have P0:Pd κ it rk p0 0 st p0:=⟨S,Array.Perm.refl _,by rw[hp];rfl,λr hr=>(by rw[hp] at hr;cases hr),by omega⟩
 refine Gak (GbA (Gbk (I:=λx c z=>∃lo p,c=(none,lo)∧Pd κ it rk p0 lo z p∧(x≤lo))
  (Q:=λc z=>∃p,c=(none,p0.size)∧Pd κ it rk p0 p0.size z p) ?step ?fin ⟨0,p0,rfl,P0,Gaq _⟩) ?post)
 case fin=>
  rintro c z ⟨lo,p,rfl,P,hx⟩
  have:=P.le
  have e:lo=p0.size:=by
   have:max 0 p0.size=p0.size:=by omega
   omega
  subst e
  exact⟨p,rfl,P⟩
 case step=>
  rintro x c z _ hx ⟨lo,p,rfl,P,hlo⟩
  have le:=P.le
  have szp:=P.size
  by_cases c1:lo≥p0.size
  ·rw[Gag c1]
   have e:lo=p0.size:=by omega
   subst e
   exact Gat ⟨p,rfl,P⟩
  rw[Gaf c1]
  refine Gak (wU hA P.ss (by omega) (by omega) λm z1 p1 S1 hp1 ag1 m1 m2 up1=> ?_)
  dsimp only
  have carry:∀{n:Nat} {z2:SortSt} {p2:Array Nat},SS κ it z2 p2→gH z z2→Ag lo (lo+n) p p2→lo+n≤p0.size→Pd κ it rk p0 lo z2 p2:=λ{n z2 p2} S2 hp2 ag2 hn=>by
   have hp2' :pendingOf z2=pendingOf z:=hp2
   refine⟨S2,ag2.perm.trans P.perm,by rw[hp2'];exact P.ch,λr hr=> ?_,le⟩
   rw[hp2'] at hr
   have:=(jU P.ch hr).2.1
   intro u v a1 a2 a3
   rw[ag2.rk (by omega),ag2.rk (by omega)]
   exact P.up r hr u v a1 a2 a3
  by_cases c2:m<mr
  ·rw[Gag c2]
   refine Gak (wpS_lift (GcX ⟨rfl, ?_⟩))
   have sz1:=ag1.size
   refine Gak (Dp hA S1 (by omega) m1 (by omega) up1 λz2 p2 S2 hp2 ag2 up2=> ?_)
   simp only[Gcy,Gax,GaS]
   obtain⟨n,hnn⟩:∃n,n=min (p0.size -lo) mr:=⟨_,rfl⟩
   have P2:Pd κ it rk p0 lo z2 p2:=carry S2 (hp2.trans hp1) (ag1.trans (ag2.mono (by omega))|>.mono (hi' :=lo+(p0.size -lo)) (by omega)) (by omega)
   rw[←hnn] at up2⊢
   have n0:0<n:=by omega
   have hn:lo+n≤p0.size:=by omega
   refine Gak (GcS ?_)
   cases hb:(pendingOf z2).back? with
   |none=>
    exact Gak (GbL (Gat ⟨lo+n,p2,rfl,P2.push n0 hn up2,by omega⟩))
   |some r=>
    obtain⟨s1,n1,w1⟩:=r
    refine Gak (GbA (Gbk (I:=λ_ c y=>c=(none,⟨⟩)∧∃p3,Pd κ it rk p0 lo y p3∧Up' rk p3 lo (lo+n)) (Q:=λc y=>c=(none,⟨⟩)∧∃p3,Pd κ it rk p0 lo y p3∧Up' rk p3 lo (lo+n)) ?s1 (λ_ _ z=>z) ⟨rfl,p2,P2,up2⟩) ?p1)
    case p1=>
     rintro c y ⟨rfl,p3,P3,up3⟩
     refine Gak (GbL (Gak (GbL (Gat ⟨lo+n,p3,rfl, ?_,by omega⟩))))
     exact(P3.modify (f:=λx=>(x.1,x.2.1,power' p0.size (2*s1+n1) (2*s1+n1+n1+n) p0.size)) (λr=> ⟨rfl,rfl⟩)).push n0 hn up3
    case s1=>
     rintro i c y _ _ ⟨rfl,p3,P3,up3⟩
     refine Gak (GcS ?_)
     by_cases g:(pendingOf y).size>1
     ·rw[Gag g]
      obtain⟨⟨t1,t2,t3⟩,ht⟩:∃x,(pendingOf y)[(pendingOf y).size -2]? =some x:=⟨_,Gau (by omega)⟩
      rw[ht]
      dsimp only
      split
      ·exact Gat ⟨rfl,p3,P3,up3⟩
      ·refine Gak (mj hA P3 (by omega) λy2 p4 P4 ag4 _=> ?_)
       simp only[Gcy,Gax,GaS]
       refine Gat ⟨rfl,p4,P4,λu v a1 a2 a3=> ?_⟩
       rw[ag4.rk (by omega),ag4.rk (by omega)]
       exact up3 u v a1 a2 a3
     ·rw[Gaf g]
      exact Gat ⟨rfl,p3,P3,up3⟩
  ·rw[Gaf c2]
   obtain⟨n,hnn⟩:∃n,n=m:=⟨_,rfl⟩
   rw[←hnn] at up1⊢
   have P2:Pd κ it rk p0 lo z1 p1:=carry S1 hp1 (ag1.mono (hi' :=lo+(p0.size -lo)) (by omega)) (by omega)
   have n0:0<n:=by omega
   have hn:lo+n≤p0.size:=by omega
   refine Gak (GcS ?_)
   cases hb:(pendingOf z1).back? with
   |none=>
    exact Gak (GbL (Gat ⟨lo+n,p1,rfl,P2.push n0 hn up1,by omega⟩))
   |some r=>
    obtain⟨s1,n1,w1⟩:=r
    refine Gak (GbA (Gbk (I:=λ_ c y=>c=(none,⟨⟩)∧∃p3,Pd κ it rk p0 lo y p3∧Up' rk p3 lo (lo+n)) (Q:=λc y=>c=(none,⟨⟩)∧∃p3,Pd κ it rk p0 lo y p3∧Up' rk p3 lo (lo+n)) ?s1 (λ_ _ z=>z) ⟨rfl,p1,P2,up1⟩) ?pp)
    case pp=>
     rintro c y ⟨rfl,p3,P3,up3⟩
     refine Gak (GbL (Gak (GbL (Gat ⟨lo+n,p3,rfl, ?_,by omega⟩))))
     exact(P3.modify (f:=λx=>(x.1,x.2.1,power' p0.size (2*s1+n1) (2*s1+n1+n1+n) p0.size)) (λr=> ⟨rfl,rfl⟩)).push n0 hn up3
    case s1=>
     rintro i c y _ _ ⟨rfl,p3,P3,up3⟩
     refine Gak (GcS ?_)
     by_cases g:(pendingOf y).size>1
     ·rw[Gag g]
      obtain⟨⟨t1,t2,t3⟩,ht⟩:∃x,(pendingOf y)[(pendingOf y).size -2]? =some x:=⟨_,Gau (by omega)⟩
      rw[ht]
      dsimp only
      split
      ·exact Gat ⟨rfl,p3,P3,up3⟩
      ·refine Gak (mj hA P3 (by omega) λy2 p4 P4 ag4 _=> ?_)
       simp only[Gcy,Gax,GaS]
       refine Gat ⟨rfl,p4,P4,λu v a1 a2 a3=> ?_⟩
       rw[ag4.rk (by omega),ag4.rk (by omega)]
       exact up3 u v a1 a2 a3
     ·rw[Gaf g]
      exact Gat ⟨rfl,p3,P3,up3⟩
 case post=>
  rintro c z ⟨p,rfl,P⟩
  refine Gak (GbA (Gbk (I:=λx c y=>c=(none,())∧∃p,Pd κ it rk p0 p0.size y p∧(pendingOf y).size+x≤p0.size) (Q:=λc y=>c=(none,())∧∃p,Pd κ it rk p0 p0.size y p∧(pendingOf y).size≤1) ?s2 ?f2 ⟨rfl,p,P, ?i2⟩) ?p2)
  case i2=>
   have:=jg P.ch
   simp at this
   omega
  case f2=>
   rintro c y ⟨rfl,p,P,hs⟩
   refine⟨rfl,p,P, ?_⟩
   have:max 0 p0.size=p0.size:=by omega
   omega
  case p2=>
   rintro c y ⟨rfl,p,P,hs⟩
   refine Gat (h y p P.ss P.perm ?_)
   have ch:=P.ch
   have up:=P.up
   have l1:(pendingOf y).toList.length≤1:=by simpa using hs
   generalize (pendingOf y).toList=l at ch up l1
   match l,l1 with
   |[],_=>
    have:0=p0.size:=ch
    omega
   |[r],_=>
    obtain⟨c1,c2,c3⟩:=ch
    have c3' :0+r.2.1=p0.size:=c3
    have:=up r (by simp)
    rw[c1,c3'] at this
    exact this
  case s2=>
   rintro x c y _ hx ⟨rfl,p,P,hs⟩
   refine Gak (GcS ?_)
   by_cases g:(pendingOf y).size≤1
   ·rw[Gag g]
    exact Gat ⟨rfl,p,P,g⟩
   rw[Gaf g]
   have go:∀i,i+1<(pendingOf y).size→wpS (model prog w) A E s (do
     let b←mergeAt' i
     if(!b)=true then pure (ForInStep.done ((some ⟨⟩,()):Option PUnit×PUnit)) else pure (ForInStep.yield (none,()))) (λr z' =>match r with
     | .done c=>c=(none,())∧∃p,Pd κ it rk p0 p0.size z' p∧(pendingOf z').size≤1
     | .yield c=>c=(none,())∧∃p,Pd κ it rk p0 p0.size z' p∧(pendingOf z').size+(x+1)≤p0.size) y:=λi hi=>by
    refine Gak (mj hA P hi λy2 p4 P4 ag4 hs4=> ?_)
    simp only[Gcy,Gax,GaS]
    exact Gat ⟨rfl,p4,P4,by omega⟩
   refine GbA (go _ ?_) λr z' hr=>by cases r<;>exact hr
   by_cases i0:(pendingOf y).size -2>0
   ·rw[Gag i0]
    split<;>omega
   ·rw[Gaf i0]
    simp only[Option.any_none,Gax,GaS]
    omega
end
section
variable{prog:Program}{w:World}{A:Around}{E:Value→Shared→Prop}{s:Shared}
theorem n5{a:Addr}{vs:List Value}{cs:List (List (List Int))}{n:Nat}{P:PySem.Fin→Shared→Prop}(ho:s.heap.get? a=some (seqObj "list" vs.toArray n))(h64:vs.length<1000000)
  (hK:∀G:Heap,(∀b o,b≠a→s.heap.get? b=some o→G.get? b=some o)→jd prog w A E {s with heap:=G} cs vs)
  (h:∀p:Array Nat,Ord vs.length p→Up (rank cs) p vs.length→P (.done (.ret .none)) {s with heap:=sortedHeap s.heap a vs (List.toArray (p.toList.map λi=>vs.getD i Value.none))}):wpAny (model prog w) A (Builtin.«list.sort» ⟨[.ref a],[]⟩) P E s:=by
 have hz:(vs.toArray.zip vs.toArray).size=vs.length:=by simp
 have zr:(List.toArray (List.range vs.length)).size=vs.length:=by simp
 refine lU (Ok:=cY cs vs) ho (by rw[Gbw];omega) cY.one (λ_ q=>q.len) (λG kp c=>hK G kp c _ λκ hκ=> ?_) λ_ ⟨p,h1,h2,e⟩=>e▸h p h1 h2
 refine GbS (BC (prog:=prog) (w:=w) (A:=A) (κ:=κ) (E:=E) (s:={s with heap:=G}) (st:=SortSt.mk' κ (vs.toArray.zip vs.toArray) #[] 7 none) (it:=vs.toArray.zip vs.toArray) (rk:=rank cs) (p0:=List.toArray (List.range vs.length))
  (Q:=λ_ st=>failedOf st=none∧cY cs vs ((arrOf st).map (·.2))) (λi j hi hj C hc=> ?_) ⟨rfl, ?_,rfl,λi hi=> ?_⟩ rfl (by omega) λz p S pm up=> ?_) (λr s' q=> ?_) λ_ _ e=>e
 ·have:=hκ i j C (by omega) (by omega) hc
  rwa[PySem.W.kat_ask_eq (ks:=vs) (vs:=vs) rfl] at this
 ·have e:=PySem.W.kas_range (vs.toArray.zip vs.toArray)
  rw[hz] at e
  exact e.symm
 ·simpa using hi
 ·rw[zr] at up
  exact⟨S.fail,p,pm.toList,λu v q r=>up u v (GaT _) q r,kat_snds rfl S.arr⟩
 ·exact q
end
open PySem
noncomputable def Ris(xs:Array Nat):Prop:=∀i j:Nat,i<j→∀x y,xs[i]? =some x→xs[j]? =some y→x<y
noncomputable def Bel(xs:Array Nat)(j r:Nat):Prop:=r≤xs.size∧(∀(i x:Nat),i<r→xs[i]? =some x→x<j)∧∀(i x:Nat),r≤i→xs[i]? =some x→j≤x
theorem mq{xs:Array Nat}{j:Nat}(hr:Ris xs):∀(f lo hi:Nat),lo≤hi→hi≤xs.size→hi -lo≤f→(∀(i x:Nat),i<lo→xs[i]? =some x→x<j)→(∀(i x:Nat),hi≤i→xs[i]? =some x→j≤x)→Bel xs j (SetTable.below.go xs j f lo hi)
 |0,lo,hi,h1,h2,h3,h4,h5=>by
  have e:lo=hi:=by omega
  subst e
  exact⟨h2,h4,h5⟩
 |f+1,lo,hi,h1,h2,h3,h4,h5=>by
  unfold SetTable.below.go
  by_cases c:lo<hi
  ·rw[Gag c]
   have hm:(lo+hi)/2<xs.size:=by omega
   have gm:xs[(lo+hi)/2]? =some xs[(lo+hi)/2]:=Gau hm
   have gd:xs.getD ((lo+hi)/2) j=xs[(lo+hi)/2]:=by simp[Array.getD,hm]
   dsimp only
   rw[gd]
   by_cases c2:xs[(lo+hi)/2]<j
   ·rw[Gag c2]
    refine mq hr f _ _ (by omega) h2 (by omega) (λi x hi' hx=> ?_) h5
    rcases GaY i ((lo+hi)/2) with q|q
    ·have:=hr i _ q x _ hx gm;omega
    ·rw[show i=(lo+hi)/2 by omega,gm] at hx;cases hx;exact c2
   ·rw[Gaf c2]
    refine mq hr f _ _ (by omega) (by omega) (by omega) h4 (λi x hi' hx=> ?_)
    rcases GaY ((lo+hi)/2) i with q|q
    ·have:=hr _ i q _ x gm hx;omega
    ·rw[show i=(lo+hi)/2 by omega,gm] at hx;cases hx;omega
  ·rw[Gaf c]
   have e:lo=hi:=by omega
   subst e
   exact⟨h2,h4,h5⟩
theorem fA{xs:Array Nat}{j:Nat}(hr:Ris xs):Bel xs j (SetTable.below xs j):=
 mq hr xs.size 0 xs.size (GaT _) (Gaq _) (by omega) (λi x hi=>by omega) (λi x hi hx=>by
  rw[GbK hi] at hx;cases hx)
theorem oT{xs:Array Nat}{p j i:Nat}(hp:p≤xs.size):(SetTable.insertAt xs p j)[i]? =if i<p then xs[i]? else if i=p then some j else xs[i -1]? :=by
 have e:(SetTable.insertAt xs p j)[i]? =(SetTable.insertAt xs p j).toList[i]? :=by simp
 rw[e,Gct]
 have l1:(xs.toList.take p).length=p:=by simp;omega
 by_cases c:i<p
 ·rw[Gag c,Gbm (by rw[l1];exact c),GaK c]
  simp
 ·rw[Gaf c,Gbh (by rw[l1];omega),l1]
  by_cases c2:i=p
  ·rw[Gag c2,c2,Nat.sub_self];rfl
  ·rw[Gaf c2,show i -p=(i -p -1)+1 by omega,Gdp,GaW,show p+(i -p -1)=i -1 by omega]
   simp
theorem rP{xs:Array Nat}{j:Nat}(hr:Ris xs)(hn:xs[SetTable.below xs j]? ≠some j):Ris (SetTable.insertAt xs (SetTable.below xs j) j):=by
 obtain⟨b1,b2,b3⟩:=fA (j:=j) hr
 generalize SetTable.below xs j=p at*
 have b3' :∀(i x:Nat),p≤i→xs[i]? =some x→j<x:=λi x hi hx=>by
  have h1:=b3 i x hi hx
  rcases GaY j x with q|q
  ·exact q
  ·have e:x=j:=by omega
   subst e
   rcases GaY p i with c|c
   ·obtain⟨y,hy⟩:∃y,xs[p]? =some y:=⟨xs[p]'(by
     have:i<xs.size:=by
      rcases GaY i xs.size with z|z
      ·exact z
      ·rw[GbK z] at hx;cases hx
     omega),Gau _⟩
    have h2:=b3 p y (Gaq _) hy
    have h3:=hr p i c y x hy hx
    omega
   ·rw[show i=p by omega] at hx;exact absurd hx hn
 intro i k hik x y hx hy
 rw[oT b1] at hx hy
 by_cases c1:i<p
 ·rw[Gag c1] at hx
  by_cases c2:k<p
  ·rw[Gag c2] at hy;exact hr i k hik x y hx hy
  ·rw[Gaf c2] at hy
   have h1:=b2 i x c1 hx
   by_cases c3:k=p
   ·rw[Gag c3] at hy;cases hy;exact h1
   ·rw[Gaf c3] at hy
    have:=b3' (k -1) y (by omega) hy
    omega
 ·rw[Gaf c1,] at hx
  rw[Gaf (by omega)] at hy
  by_cases c2:i=p
  ·rw[Gag c2] at hx;cases hx
   rw[Gaf (by omega)] at hy
   exact b3' (k -1) y (by omega) hy
  ·rw[Gaf c2] at hx
   rw[Gaf (by omega)] at hy
   exact hr (i -1) (k -1) (by omega) x y hx hy
noncomputable def Tb(bt:Bool)(t:SetTable):Prop:=t.led= !bt∧(t.plain=true→Ris t.place)
theorem qm{n:Nat}{g:Nat→Option Nat}:Ris (((List.range n).filterMap λj=>(g j).map λk=>(j,k)).map (·.1)).toArray:=by
 have pw:∀(l:List Nat),l.Pairwise (· < ·)→((l.filterMap λj=>(g j).map λk=>(j,k)).map (·.1)).Pairwise (· < ·):=by
  intro l
  induction l with
  |nil=>intro _;exact List.Pairwise.nil
  |cons a l ih=>
   intro h
   have h' :=Gbd.mp h
   rw[Gcu]
   cases hg:g a with
   |none=>simpa[hg] using ih h'.2
   |some k=>
    simp only[hg,GbU,GaH]
    refine Gbd.mpr ⟨λb hb=> ?_,ih h'.2⟩
    obtain⟨q,hq,rfl⟩:=Gay.mp hb
    obtain⟨j,hj,e⟩:=Gdj.mp hq
    cases hgj:g j with
    |none=>rw[hgj] at e;cases e
    |some k' =>rw[hgj] at e;cases e;exact h'.1 j hj
 have:=pw (List.range n) List.pairwise_lt_range
 intro i j hij x y hx hy
 generalize ((List.range n).filterMap λj=>(g j).map λk=>(j,k)).map (·.1)=l at*
 have hx' :l[i]? =some x:=by simpa using hx
 have hy' :l[j]? =some y:=by simpa using hy
 obtain⟨h1,rfl⟩:=Gac.mp hx'
 obtain⟨h2,rfl⟩:=Gac.mp hy'
 exact GbQ.mp this i j h1 h2 hij
open PySem PySem.Spec PyProof.Rows
noncomputable def kOf(e:Int×Value):Int:=match e.2 with
 | .int k _=>k
 |_=>0
section
variable{prog:Program}{w:World}{A:Around}{E:Value→Shared→Prop}{z:Shared}
noncomputable def Ha(prog:Program)(w:World)(es:Array (Int×Value))(ks:List Int):Prop:=(∀e∈es.toList,∃k t,e=((intKind prog w).hash k,Value.int k t))∧(es.toList.map kOf).Perm ks
noncomputable def SetT(prog:Program)(w:World)(bt:Bool)(g:Heap)(a:Addr)(ks:List Int):Prop:=
 ∃o es ep t,g.get? a=some o∧o.ExactSet∧o.data= .set es ep t∧Ha prog w es ks∧es.size<scanBound∧t.fits es.size=true∧Tb bt t
noncomputable def SAt(g:Heap)(a:Addr)(es:Array (Int×Value))(t:SetTable):Prop:=∃o ep,g.get? a=some o∧o.ExactSet∧o.data= .set es ep t
theorem tH{a:Addr}{es fs:Array (Int×Value)}{t u:SetTable}{Q:Unit→Shared→Prop}(x:SAt z.heap a es t)(b:fs.size≤sizeLine)(h:∀g,SAt g a fs u∧Heap.SameBut a z.heap g→Q () {z with heap:=g}):wpAny (model prog w) A (storeSet a fs u) Q E z:=by
 obtain⟨o,ep,ho,hx,hd⟩:=x
 have q:=GaU (Obj.putSet fs u) ho (by rw[putSet_of fs u hd];rfl)
 rw[putSet_of fs u hd] at q
 exact wpAny_storeSet_of ho hd (h _ ⟨⟨_,_,q,hx,rfl⟩,GbI ..⟩) b
end
section
variable{prog:Program}{w:World}{A:Around}{R:Result→Shared→Prop}
theorem nM{S I:Addr}{n:Nat}(J:Nat→Shared→Prop)
  (step:∀i s Q E,i<n→J i s→(∀v s',(∀(Q' :Bool→Shared→Prop) E',(∀b y,J (i+1) y→Q' b y)→wpAny (model prog w) A.in1 (setAdd S v) Q' E' s')→Q (some v) s')→wpAny (model prog w) A.in1 (pyNext (.ref I)) Q E s)
  (stop:∀s Q E,J n s→(∀s',R (.ok (.ret .none)) s' →Q none s')→wpAny (model prog w) A.in1 (pyNext (.ref I)) Q E s):
  ∀k i s,i+k=n→J i s→codeAny (model prog w) A (.builtin "set.update.loop" ⟨[.ref S,.ref I],[]⟩) R s
 |0,i,s,hk,j=>by
  subst hk
  apply GbV Gdn
  rw[GbW Gck]
  exact Gab (stop s _ _ j λs' r=>Gae r)
 |k+1,i,s,hk,j=>by
  apply GbV Gdn
  rw[GbW Gck]
  exact Gab (step i s _ _ (by omega) j λv s' add=>Gab (Gca (add _ _ λb y q=>Gae ⟨plainId_quiet Gck _,nM J step stop k (i+1) y (by omega) q⟩)))
end
noncomputable def gI(w:World):Bool:=w.params.followText "set-order"
section
variable{prog:Program}{w:World}{A:Around}{E:Value→Shared→Prop}{z:Shared}
noncomputable abbrev mw(w:World):Obj:={cls:= .type "set",dict:=none,data:= .set #[] 0 (.fresh 0 0 (!gI w))}
theorem after{c:Code}{Q:Value→Shared→Prop}{R:Result→Shared→Prop}(h:codeAny (model prog w) A c (wants Q E) z)(k:∀v s',Q v s' →R (.ok (.ret v)) s')(e:∀x s',E x s' →R (.error x) s'):codeAny (model prog w) A c R z:=by
 refine codeAny_mono h ?_
 rintro(x|(v|_|_|_)) s' q
 ·exact e x s' q
 all_goals first|exact k _ s' q|exact q.elim
theorem wV(a:Value){R:Value→Shared→Prop}(h:R (.ref z.heap.objs.size) {z with heap:=z.heap.push (mw w)}):codeAny (model prog w) A (.call (.builtin "set.__new__") ⟨[.type "set",a],[]⟩) (wants R E) z:=by
 have c:=PySem.F.newCall_set_1 a
 have q:Code.quiet (.builtin "set.__new__" ⟨[.type "set",a],[]⟩)=true:=plainId_quiet PySem.F.plain_set_new _
 have sub:=PySem.sub_set_self
 apply codeAny_of_tree
 refine Gab (wpAny_of_eq c (Gae ⟨q,GbV PySem.F.entry_set_new ?_⟩))
 rw[GbW PySem.F.plain_set_new]
 wp_walk using wpAny_askSetting
 exact h
theorem Dr{l:Addr}{items:Array Value}{R:Value→Shared→Prop}(hl:z.heap.IsList l items)
  (h:∀h1:Heap,h1.get? z.heap.objs.size=some (mw w)→h1.IsListIter (z.heap.objs.size+1) l 0→(∀b o,z.heap.get? b=some o→h1.get? b=some o)→
   codeAny (model prog w) A.in1.in1 (.builtin "set.update.loop" ⟨[.ref z.heap.objs.size,.ref (z.heap.objs.size+1)],[]⟩) (wants (λ_ s' =>R (.ref z.heap.objs.size) s') E) {z with heap:=h1}):
  wpAny (model prog w) A (call (.type "set") [.ref l]) R E z:=by
 obtain⟨c,tl,mro⟩:=GbD.mro
 have made:=GbD.made
 have sub:=GbD.sub
 have nt:=GbD.notType
 have cc:=GbD.canCreate
 have ct:=PySem.F.typeCall_set_1 (.ref l)
 apply wpAny_call
 apply codeAny_of_tree
 refine Gae ⟨Code.quiet_builtin _ (by decide+kernel), ?_⟩
 apply GbV PySem.F.entry_type_call
 rw[Around.under_plain (weight_type_call_type "set" [.ref l] []) rfl]
 wp_walk
 refine after (wV (.ref l) (R:=λo y=>o= .ref z.heap.objs.size∧y={z with heap:=z.heap.push (mw w)}) ⟨rfl,rfl⟩) ?_ λ_ _ q=>q
 rintro _ _ ⟨rfl,rfl⟩
 have eS:(z.heap.push (mw w)).get? z.heap.objs.size=some (mw w):=Gaw _ rfl
 have tS:Shared.TypeIs {z with heap:=z.heap.push (mw w)} (.ref z.heap.objs.size) "set":=⟨_,eS,rfl⟩
 have lo:=GbD.init.lookup
 have bi:=GbD.init.bind (.ref z.heap.objs.size)
 wp_walk
 refine after (Q:=λr s' =>r= .none∧R (.ref z.heap.objs.size) s') (E:=E) ?_ (λv s' q=> ?_) λ_ _ q=>q
 ·apply codeAny_call_builtin GbD.init.plain PySem.F.entry_set_init
  apply PySem.check_set_init_1 tS
  obtain⟨⟨oc,od,dt,sl⟩,ho,hc,n,hd⟩:=hl
  cases hc;cases hd
  have el:=Gad (mw w) ho
  have s1:=PySem.F.sub_list_set
  have s2:=PySem.F.sub_list_frozenset
  have nd:(Value.type "list"==Value.type "dict")=false:=rfl
  have il:(z.heap.push (mw w)).IsList l items:=⟨_,el,rfl,n,rfl⟩
  clear mro made nt cc ct lo bi
  wp_walk using wpAny_pyIter_list il
  have sz:(z.heap.push (mw w)).objs.size=z.heap.objs.size+1:=GcO ..
  rw[show Shared.heap {z with heap:=z.heap.push (mw w)}=z.heap.push (mw w) from rfl,sz]
  exact after (h _ (Gad _ eS) ⟨_,sz▸Gaw _ rfl,rfl,rfl⟩ λb o q=>Gad _ (Gad _ q)) (λv s' q=>Gae (Gae ⟨rfl,q⟩)) λ_ _ q=>q
 ·obtain⟨rfl,q⟩:=q
  wp_walk
  exact q
end
namespace Fr
theorem nN:Manifest.owners.lookup (String.ofList ['r', 'o', 't', 'a', 'r', 'e', 't', 'i', '_', 't', 'e', 's'].reverse)=some Manifest.sig_set_iterator:=by kernel_rfl
theorem mz:isSubtype (.type "set_iterator") (.type "set_iterator")=pure true:=by rw[isSubtype_type];kernel_rfl
theorem b7:PySem.Slot "set_iterator" "__next__" "set_iterator.__next__":=
 .of (owner:="set_iterator") (n:="__next__") (by rw[GdF,GcU];kernel_rfl) (by decide+kernel) (by decide+kernel) (by decide+kernel) (.inl (by decide+kernel)) mz
theorem bT:entryFor table "set_iterator.__next__"=some Builtin.«set_iterator.__next__» :=entryFor_of_tree (by kernel_rfl)
theorem c9(a:Value):argsOk "set_iterator.__next__" ⟨[a],[]⟩:=by
 unfold argsOk
 rw[signature?_of (id:="set_iterator.__next__") (n:=['_', '_', 't', 'x', 'e', 'n', '_', '_']) (o:=['r', 'o', 't', 'a', 'r', 'e', 't', 'i', '_', 't', 'e', 's']) (by kernel_rfl) nN]
 kernel_rfl
theorem mC:PySem.Slot "set_iterator" "__iter__" "set_iterator.__iter__":=
 .of (owner:="set_iterator") (n:="__iter__") (by rw[GdF,GcU];kernel_rfl) (by decide+kernel) (by decide+kernel) (by decide+kernel) (.inl (by decide+kernel)) mz
theorem kK(a:Value):argsOk "set_iterator.__iter__" ⟨[a],[]⟩:=by
 unfold argsOk
 rw[signature?_of (id:="set_iterator.__iter__") (n:=['_', '_', 'r', 'e', 't', 'i', '_', '_']) (o:=['r', 'o', 't', 'a', 'r', 'e', 't', 'i', '_', 't', 'e', 's']) (by kernel_rfl) nN]
 kernel_rfl
theorem jV:entryFor table "set_iterator.__iter__"=some Builtin.«dict_keyiterator.__iter__» :=
 entryFor_alias (id' :="dict_keyiterator.__iter__") (by kernel_rfl) (by decide+kernel) (by decide+kernel) (by kernel_rfl)
theorem mD:isSubtype (.type "set") (.type "set")=pure true:=by rw[isSubtype_type];kernel_rfl
theorem BD:Manifest.owners.lookup (String.ofList ['t', 'e', 's'].reverse)=some Manifest.sig_set:=by kernel_rfl
theorem qo:PySem.Slot "set" "__iter__" "set.__iter__":=
 .of (owner:="set") (n:="__iter__") (by rw[GdF,GcU];kernel_rfl) (by decide+kernel) (by decide+kernel) (by decide+kernel) (.inl (by decide+kernel)) mD
theorem BE:PySem.Slot "set" "__len__" "set.__len__":=
 .of (owner:="set") (n:="__len__") (by rw[GdF,GcU];kernel_rfl) (by decide+kernel) (by decide+kernel) (by decide+kernel) (.inl (by decide+kernel)) mD
theorem n6(a:Value):argsOk "set.__iter__" ⟨[a],[]⟩:=by
 unfold argsOk
 rw[signature?_of (id:="set.__iter__") (n:=['_', '_', 'r', 'e', 't', 'i', '_', '_']) (o:=['t', 'e', 's']) (by kernel_rfl) BD]
 kernel_rfl
theorem mE:entryFor table "set.__iter__"=some Builtin.«frozenset.__iter__» :=
 entryFor_alias (id' :="frozenset.__iter__") (by kernel_rfl) (by decide+kernel) (by decide+kernel) (by kernel_rfl)
end Fr
theorem iO{α:Type}:∀(xs:List α) (i:Nat) (h:i<xs.length),(xs[i]::xs.eraseIdx i).Perm xs
 |x::xs,0,h=>by simp
 |x::xs,i+1,h=>by
  have h' :i<xs.length:=by simpa using h
  simp only[List.getElem_cons_succ,List.eraseIdx_cons_succ]
  exact(List.Perm.swap _ _ _).trans ((iO xs i h').cons x)
theorem tJ{α:Type}{next:Nat→Nat}:∀(f k:Nat) (left:List α) (out:Array α),left.length=f→(pickOrder.go next f k left out).toList.Perm (out.toList++left)
 |0,k,left,out,e=>by
  have:left=[]:=List.length_eq_zero_iff.mp e
  subst this
  simp[pickOrder.go]
 |f+1,k,left,out,e=>by
  have hl:next k%left.length<left.length:=GcZ _ (by omega)
  unfold pickOrder.go
  rw[Gaa hl]
  dsimp only
  refine(tJ f (k+1) _ _ (by rw[Gdb hl];omega)).trans ?_
  rw[GdR,GaA]
  refine GbP _ ?_
  exact(iO _ _ hl)
theorem nO{α:Type}(next:Nat→Nat)(xs:Array α):(pickOrder next xs).toList.Perm xs.toList:=by
 have:=tJ (next:=next) xs.size 0 xs.toList #[] (by simp)
 simpa[pickOrder] using this
section
variable{prog:Program}{w:World}{A:Around}{E:Value→Shared→Prop}{z:Shared}
theorem ji{α:Type}:∀(n:Nat) (xs:List α) (z:Shared) (Q:List α→Shared→Prop),xs.length=n→(∀ys d,ys.Perm xs→Q ys {z with drawn:=d})→wpAny (model prog w) A (drawOrder n xs) Q E z
 |0,xs,z,Q,e,h=>by
  have:xs=[]:=List.length_eq_zero_iff.mp e
  subst this
  exact Gae (h [] z.drawn (List.Perm.refl _))
 |n+1,x::xs,z,Q,e,h=>by
  unfold drawOrder
  refine Gab (λΓ p hΓ=> ⟨Nat.succ_ne_zero _, ?_⟩)
  suffices hs:∀(i:Nat),i<(x::xs).length→wpAny (model prog w) A (match(x::xs)[i]? with|some y=>(do return y::(←drawOrder n ((x::xs).eraseIdx i)))|none=>unsupported "internal:drawOrder") Q E {z with drawn:=z.drawn.bump .order} from hs _ (GcZ _ (GcV _))
  intro i hi
  rw[Gaa hi]
  dsimp only
  refine Gab (ji n _ _ _ (by rw[Gdb hi];omega) λys d hp=> ?_)
  exact Gae (h _ d ((hp.cons _).trans (iO _ _ hi)))
noncomputable def iP(h:Heap)(a:Addr)(es:Array (Int×Value))(ep:Nat)(t:SetTable):Prop:=∃o,h.get? a=some o∧o.ExactSet∧o.data= .set es ep t
theorem iP.at{h h' :Heap}{a:Addr}{es:Array (Int×Value)}{ep:Nat}{t:SetTable}(x:iP h a es ep t)(e:∀o,h.get? a=some o→h'.get? a=some o):iP h' a es ep t:=let⟨o,ho,r⟩:=x;⟨o,e _ ho,r⟩
theorem iP.ty{a:Addr}{es:Array (Int×Value)}{ep:Nat}{t:SetTable}(x:iP z.heap a es ep t):z.TypeIs (.ref a) "set":=let⟨o,ho,hc,_⟩:=x;⟨o,ho,hc.1⟩
inductive Way (w:World) (a:Addr) (es:Array (Int×Value)) (ep:Nat) (t:SetTable) (h:Heap) (tp:Addr):Value→Nat→List (Int×Value)→Prop
 |text {i:Nat}:gI w=true→Way w a es ep t h tp (rawInt 0) i (pickOrder (w.params.setOrder a ep) es).toList
 |drawn {i:Nat} {ps:List Nat}:IsTup h tp (ps.map λ(j:Nat)=>rawInt j).toArray→ps.Perm (List.range es.size)→Way w a es ep t h tp (.ref tp) i (ps.map λj=>es.getD j (0,.none))
 |plain {i:Nat} {s:Nat}:gI w=false→¬(t.plain=false∧es.size>1)→Ris t.place→t.led=true→(s=if i=0 then 0 else t.place.getD (i -1) 0+1)→Way w a es ep t h tp (rawInt s) i es.toList
noncomputable def dm(w:World)(h:Heap)(it a tp:Addr)(es:Array (Int×Value))(ep:Nat)(t:SetTable)(xs:List (Int×Value))(i:Nat):Prop:=
 ∃o first,h.get? it=some o∧o.cls= .type "set_iterator"∧o.data= .fields #[first,rawInt i,.ref a,rawInt es.size,rawInt ep]∧Way w a es ep t h tp first i xs
theorem Way.perm{a tp:Addr}{es:Array (Int×Value)}{ep i:Nat}{t:SetTable}{h:Heap}{f:Value}{xs:List (Int×Value)}(x:Way w a es ep t h tp f i xs):xs.Perm es.toList:=by
 cases x with
 |text _=>exact nO _ _
 |drawn _ hp=>
  refine(hp.map _).trans ?_
  have:(List.range es.size).map (λj=>es.getD j (0,Value.none))=es.toList:=by
   apply GcY
   ·simp
   ·intro i h1 h2
    simp at h1 h2⊢
    simp[Array.getD,h2]
  rw[this]
 |plain _ _ _ _ _=>exact List.Perm.refl _
theorem below_at{xs:Array Nat}{i:Nat}(hr:Ris xs)(hi:i≤xs.size):SetTable.below xs (if i=0 then 0 else xs.getD (i -1) 0+1)=i:=by
 obtain⟨h1,h2,h3⟩:=fA (j:=if i=0 then 0 else xs.getD (i -1) 0+1) hr
 generalize SetTable.below xs (if i=0 then 0 else xs.getD (i -1) 0+1)=r at*
 by_cases c:i=0
 ·subst c
  simp only[Gag] at h2
  rcases Nat.eq_zero_or_pos r with q|q
  ·exact q
  ·have:=h2 0 xs[0] q (Gau _)
   exact absurd this (Nat.not_lt_zero _)
 ·simp only[Gaf c] at h2 h3
  have hg:xs.getD (i -1) 0=xs[i -1]'(by omega):=by simp[Array.getD,show i -1<xs.size by omega]
  rw[hg] at h2 h3
  have g1:xs[i -1]? =some (xs[i -1]'(by omega)):=Gau _
  have a1:i≤r:=by
   rcases GaY r i with q|q
   ·have:=h3 (i -1) _ (by omega) g1;omega
   ·exact q
  have a2:r≤i:=by
   rcases GaY i r with q|q
   ·have g2:xs[i]? =some (xs[i]'(by omega)):=Gau _
    have b1:=h2 i _ q g2
    have b2:=hr (i -1) i (by omega) _ _ g1 g2
    omega
   ·exact q
  omega
theorem dm.ty{it a tp:Addr}{es:Array (Int×Value)}{ep i:Nat}{t:SetTable}{xs:List (Int×Value)}(x:dm w z.heap it a tp es ep t xs i):z.TypeIs (.ref it) "set_iterator":=let⟨o,f,ho,hc,_⟩:=x;⟨o,ho,hc⟩
theorem gY{Q:Bool→Shared→Prop}(h:Q (gI w) z):wpAny (model prog w) A setsByText Q E z:=Gab (wpAny_askSetting (Gae h))
theorem mF{a:Addr}{es:Array (Int×Value)}{ep i s:Nat}{t:SetTable}{Q:Option (Value×Nat)→Shared→Prop}(hm:iP z.heap a es ep t)(hf:t.fits es.size=true)
  (h1:gI w=false)(h2:¬(t.plain=false∧es.size>1))(h3:Ris t.place)(h4:t.led=true)(hi:i≤es.size)(hs:s=if i=0 then 0 else t.place.getD (i -1) 0+1)
  (h:Q (es[i]?.map λe=>(e.2,t.place.getD i 0+1)) z):wpAny (model prog w) A (setNext a s i ep) Q E z:=by
 obtain⟨o,ho,hx,hd⟩:=hm
 have hsz:t.place.size=es.size:=by
  unfold SetTable.fits at hf
  simp at hf
  omega
 unfold setNext
 refine Gab (GaM ho hd hf (Gab (gY ?_)))
 dsimp only
 rw[h1]
 simp only[Gax,GaS]
 show wpAny _ _ (if(!t.plain&&decide (es.size>1))=true then _ else _) _ _ z
 rw[Gaf (by intro q;simp at q;exact h2 q)]
 show wpAny _ _ ((if(!t.led&& !es.isEmpty)=true then unsupported "set:maker-not-led" else pure ())>>=_) _ _ z
 rw[Gaf (by rw[h4];simp)]
 refine Gab (Gae ?_)
 have hb:SetTable.below t.place s=i:=by rw[hs];exact below_at h3 (by omega)
 rw[hb]
 refine Gae ?_
 rcases GaY i es.size with c|c
 ·rw[Gau c] at h⊢
  rw[Gau (show i<t.place.size by omega)]
  have:t.place.getD i 0=t.place[i]'(by omega):=by simp[Array.getD,show i<t.place.size by omega]
  rw[this] at h
  exact h
 ·rw[GbK c] at h⊢
  exact h
theorem nP{a:Addr}{es:Array (Int×Value)}{ep i s:Nat}{t:SetTable}{Q:Option (Value×Nat)→Shared→Prop}(hm:iP z.heap a es ep t)(hf:t.fits es.size=true)
  (h1:gI w=true)(h:Q ((pickOrder (w.params.setOrder a ep) es)[i]?.map λe=>(e.2,s)) z):wpAny (model prog w) A (setNext a s i ep) Q E z:=by
 obtain⟨o,ho,hx,hd⟩:=hm
 unfold setNext
 refine Gab (GaM ho hd hf (Gab (gY ?_)))
 dsimp only
 rw[h1]
 simp only[Gbp]
 rw[Gaf (by simp)]
 refine Gab ?_
 unfold setWalk
 refine Gab (GaM ho hd hf (Gab (gY ?_)))
 try dsimp only
 rw[h1]
 simp only[Gbp]
 refine Gab (wpAny_askSetting (Gae ?_))
 exact Gae h
theorem rQ{a:Addr}{es:Array (Int×Value)}{ep j:Nat}{t:SetTable}{Q:Value→Shared→Prop}(hm:iP z.heap a es ep t)(hf:t.fits es.size=true)(hj:j<es.size)
  (h:Q es[j].2 z):wpAny (model prog w) A (setNextDrawn a j ep) Q E z:=by
 obtain⟨o,ho,hx,hd⟩:=hm
 unfold setNextDrawn
 refine Gab (GaM ho hd hf ?_)
 try dsimp only
 rw[Gaf (by simp),Gau hj]
 exact Gae h
theorem uN{h h' :Heap}{tp it:Addr}{vs:Array Value}(x:IsTup h tp vs)(hne:tp≠it)(sb:Heap.SameBut it h h'):IsTup h' tp vs:=by
 obtain⟨o,ho,r⟩:=x
 exact⟨o,(sb.2 tp hne).trans ho,r⟩
theorem wW{it a tp:Addr}{es:Array (Int×Value)}{ep i:Nat}{t:SetTable}{xs:List (Int×Value)}{e:Int×Value}{Q:Option Value→Shared→Prop}(hit:dm w z.heap it a tp es ep t xs i)(hm:iP z.heap a es ep t)(hf:t.fits es.size=true)(hne:tp≠it)(hx:xs[i]? =some e)
  (hQ:∀h',dm w h' it a tp es ep t xs (i+1)→Heap.SameBut it z.heap h' →Q (some e.2) {z with heap:=h' }):wpAny (model prog w) A (pyNext (.ref it)) Q E z:=by
 obtain⟨o,first,ho,hc,hd,hw⟩:=id hit
 obtain⟨os,hos,hxs,hds⟩:=id hm
 have hl:i<es.size:=by
  have h1:=(Gac.mp hx).1
  have:=hw.perm.length_eq
  simp at this
  omega
 unfold pyNext
 refine Gab (wpAny_attempt (GbG (name:=Str.ofString "__next__") hit.ty Fr.b7 (Gba Fr.b7 hit.ty Fr.bT ?_ (Fr.c9 _))))
 unfold Builtin.«set_iterator.__next__»
 refine Gab (wpAny_of_eq (a:=(Value.ref it,[])) rfl ?_)
 dsimp only
 refine Gab (wpAny_fieldsOf ho hd ?_)
 dsimp only[rawInt]
 refine Gab (Gab (GaM hos hds hf (Gae ?_)))
 dsimp only
 rw[Gaf (by simp)]
 have up:∀(f:Value),Way w a es ep t z.heap tp f (i+1) xs→∀h' o',h'.get? it=some o' →o'.cls= .type "set_iterator"→o'.data= .fields #[f,rawInt ((i+1:Nat):Int),.ref a,rawInt es.size,rawInt ep]→Heap.SameBut it z.heap h' →dm w h' it a tp es ep t xs (i+1):=λf hf' h' o' g1 g2 g3 sb=>by
  refine⟨o',f,g1,g2,g3, ?_⟩
  cases hf' with
  |text q=>exact .text q
  |drawn q1 q2=>exact .drawn (uN q1 hne sb) q2
  |plain q1 q2 q3 q4 q5=>exact .plain q1 q2 q3 q4 q5
 cases hw with
 |text hb=>
  dsimp only[rawInt]
  refine Gab (nP hm hf hb ?_)
  have hx' :(pickOrder (w.params.setOrder a ep) es)[i]? =some e:=by simpa using hx
  simp only[GcJ,hx',GbU]
  refine Gab (GcP ho hd (by simp) ?_)
  have ho2:=GaU (Obj.mapFields (·.setIfInBounds 0 (rawInt ((Int.toNat 0:Nat):Int)))) ho (Gcm (Gbt hd _))
  have hd2:=Gbt hd (·.setIfInBounds 0 (rawInt ((Int.toNat 0:Nat):Int)))
  refine Gab (GcP (s:={z with heap:=_}) ho2 hd2 (by simp) ?_)
  have sb:=(GbI z.heap it (Obj.mapFields (·.setIfInBounds 0 (rawInt ((Int.toNat 0:Nat):Int))))).trans (GbI _ it (Obj.mapFields (·.setIfInBounds 1 (rawInt ((i:Int)+1)))))
  refine Gae ⟨e.2,rfl,Gae (hQ _ (up (rawInt 0) (.text hb) _ _ (GaU _ ho2 (Gcm (Gbt hd2 _))) ((GcK ..).trans ((GcK ..).trans hc)) (by rw[Gbt hd2];simp[rawInt]) sb) sb)⟩
 | @drawn _ ps ht hp=>
  obtain⟨p,hpi,rfl⟩:∃p,ps[i]? =some p∧es.getD p (0,Value.none)=e:=by
   rw[Gav] at hx
   obtain⟨p,h1,h2⟩:=Gah.mp hx
   exact⟨p,h1,h2⟩
  have hpl:p<es.size:=by
   have:=hp.mem_iff.mp (GaJ hpi)
   simpa using this
  dsimp only
  obtain⟨ot,hot,hct,n,hdt⟩:=id ht
  refine Gab (GcQ hot hdt ?_)
  have hq:(List.map (λ(j:Nat)=>rawInt j) ps).toArray[i]? =some (rawInt p):=by simp[hpi]
  simp only[GcJ,hq]
  dsimp only[rawInt]
  simp only[GcJ]
  refine Gab (rQ hm hf hpl ?_)
  refine Gab (GcP ho hd (by simp) ?_)
  have sb:=(GbI z.heap it (Obj.mapFields (·.setIfInBounds 1 (rawInt ((i:Int)+1)))))
  have eg:es.getD p (0,Value.none)=es[p]:=by simp[Array.getD,hpl]
  rw[eg] at hQ
  refine Gae ⟨es[p].2,rfl,Gae (hQ _ (up (.ref tp) (.drawn ht hp) _ _ (GaU _ ho (Gcm (Gbt hd _))) ((GcK ..).trans hc) (by rw[Gbt hd];simp[rawInt]) sb) sb)⟩
 | @plain _ s q1 q2 q3 q4 q5=>
  dsimp only[rawInt]
  simp only[GcJ]
  have hx' :es[i]? =some e:=by simpa using hx
  refine Gab (mF hm hf q1 q2 q3 q4 (Gcq hl) q5 ?_)
  rw[hx']
  simp only[GbU]
  refine Gab (GcP ho hd (by simp) ?_)
  have ho2:=GaU (Obj.mapFields (·.setIfInBounds 0 (rawInt ((t.place.getD i 0+1:Nat):Int)))) ho (Gcm (Gbt hd _))
  have hd2:=Gbt hd (·.setIfInBounds 0 (rawInt ((t.place.getD i 0+1:Nat):Int)))
  refine Gab (GcP (s:={z with heap:=_}) ho2 hd2 (by simp) ?_)
  have sb:=(GbI z.heap it (Obj.mapFields (·.setIfInBounds 0 (rawInt ((t.place.getD i 0+1:Nat):Int))))).trans (GbI _ it (Obj.mapFields (·.setIfInBounds 1 (rawInt ((i:Int)+1)))))
  refine Gae ⟨e.2,rfl,Gae (hQ _ (up (rawInt ((t.place.getD i 0+1:Nat):Int)) (.plain q1 q2 q3 q4 (by simp)) _ _ (GaU _ ho2 (Gcm (Gbt hd2 _))) ((GcK ..).trans ((GcK ..).trans hc)) (by rw[Gbt hd2];simp[rawInt]) sb) sb)⟩
end
open PySem PySem.Spec PyProof.Rows
section
variable{prog:Program}{w:World}{A:Around}{E:Value→Shared→Prop}{z:Shared}
theorem BF{it a tp:Addr}{es:Array (Int×Value)}{ep i:Nat}{t:SetTable}{xs:List (Int×Value)}{Q:Option Value→Shared→Prop}(hh:A.handled=none)(hit:dm w z.heap it a tp es ep t xs i)(hm:iP z.heap a es ep t)(hf:t.fits es.size=true)(hi:i=es.size)
  (hQ:∀h',Heap.ExtBut it z.heap h' →Q none {z with heap:=h' }):wpAny (model prog w) A (pyNext (.ref it)) Q E z:=by
 obtain⟨o,first,ho,hc,hd,hw⟩:=id hit
 obtain⟨os,hos,hxs,hds⟩:=id hm
 have f:FO z.heap it "set_iterator" _:=⟨o,ho,hc,hd⟩
 have out:∀h1 (P:PySem.Fin→Shared→Prop),Heap.SameBut it z.heap h1→wpAny (model prog w) A.in1 (newExc (.type "StopIteration") []>>=λe=>(raiseNew e:Sem PySem.Fin)) P (λe s' =>wpAny (model prog w) A (isInstance e (.type "StopIteration")>>=λb=>if b=true then pure none else throw e) Q E s') {z with heap:=h1}:=λh1 P sb=>
  wq hh λh2 e k=>Gab (oK k.2 (Gae (hQ h2 λb o n q=>k.1 b o (sb.extBut b o n q))))
 cases hw with
 |text hb=>
  have no:(pickOrder (w.params.setOrder a ep) es)[i]? =none:=GbK (by
   have:=(nO (w.params.setOrder a ep) es).length_eq
   simp only[GaE] at this
   omega)
  have r:∀{Q' :Option (Value×Nat)→Shared→Prop} {E'},Q' none z→wpAny (model prog w) A.in1 (setNext a (Int.toNat 0) (i:Int).toNat (ep:Int).toNat) Q' E' z:=λq=>nP (i:=(i:Int).toNat) hm hf hb (by simp only[GcJ,no,Option.map_none];exact q)
  wp_walk using GbG f.ty Fr.b7,Gba Fr.b7 f.ty Fr.bT (ha:=Fr.c9 _),lR f,GaM hos hds hf,r,cV f
  ·exactλh1 k=>out h1 _ k.2
  ·show _<5;decide
 | @drawn _ ps ht hp=>
  obtain⟨ot,hot,hct,n,hdt⟩:=id ht
  have no:(List.map (λ(j:Nat)=>rawInt j) ps).toArray[(i:Int).toNat]? =none:=by
   have:=hp.length_eq
   simp at this
   simp;omega
  wp_walk using GbG f.ty Fr.b7,Gba Fr.b7 f.ty Fr.bT (ha:=Fr.c9 _),lR f,GaM hos hds hf,GcQ hot hdt
  rw[no]
  exact Gab (cV f (λh1 ⟨f1,s1⟩=>Gab (cV f1 (λh2 ⟨f2,s2⟩=>out h2 _ (s1.trans s2)) (by simp))) (by simp))
 | @plain _ s q1 q2 q3 q4 q5=>
  have r:∀{Q' :Option (Value×Nat)→Shared→Prop} {E'},Q' none z→wpAny (model prog w) A.in1 (setNext a (s:Int).toNat (i:Int).toNat (ep:Int).toNat) Q' E' z:=λq=>mF (i:=i) hm hf q1 q2 q3 q4 (Nat.le_of_eq hi) q5 (by rw[GbK (by omega)];exact q)
  wp_walk using GbG f.ty Fr.b7,Gba Fr.b7 f.ty Fr.bT (ha:=Fr.c9 _),lR f,GaM hos hds hf,r,cV f
  ·exactλh1 k=>out h1 _ k.2
  ·show _<5;decide
theorem rR{it a tp:Addr}{es:Array (Int×Value)}{ep i:Nat}{t:SetTable}{xs:List (Int×Value)}{Q:Value→Shared→Prop}(hit:dm w z.heap it a tp es ep t xs i)(h:Q (.ref it) z):wpAny (model prog w) A (pyIter (.ref it)) Q E z:=
 Gdr hit.ty Fr.mC (Gba Fr.mC hit.ty Fr.jV (Gae ⟨_,rfl,_,_,hit.ty,Fr.b7.lookup,h⟩) (Fr.kK _))
theorem Way.at{a tp:Addr}{es:Array (Int×Value)}{ep i:Nat}{t:SetTable}{h h' :Heap}{f:Value}{xs:List (Int×Value)}(x:Way w a es ep t h tp f i xs)(k:∀o,h.get? tp=some o→h'.get? tp=some o):Way w a es ep t h' tp f i xs:=by
 cases x with
 |text q=>exact .text q
 |drawn q1 q2=>
  obtain⟨o,ho,r⟩:=q1
  exact .drawn ⟨o,k o ho,r⟩ q2
 |plain q1 q2 q3 q4 q5=>exact .plain q1 q2 q3 q4 q5
theorem uO(hh:A.handled=none)(I a tp:Addr)(hne:a≠I)(hnt:tp≠I)(es:Array (Int×Value))(ep:Nat)(t:SetTable)(hf:t.fits es.size=true)(xs:List (Int×Value))(hxs:xs.length=es.size):
  Walks prog w A I [I,a,tp] [I] es.size (λi v=>∃e,xs[i]? =some e∧v=e.2) (λi h=>dm w h I a tp es ep t xs i∧iP h a es ep t) where
 sub:=λb hb=>by simp at hb;simp[hb]
 frame:=λi h h' st hk=>by
  obtain⟨⟨o,f,ho,hc,hd,hw⟩,hs⟩:=st
  exact⟨⟨o,f,hk I (by simp) o ho,hc,hd,hw.at λo e=>hk tp (by simp) o e⟩,hs.at λo e=>hk a (by simp) o e⟩
 item:=λi z Q E hi st hQ=>by
  have hx:xs[i]? =some (xs[i]'(by omega)):=Gaa _
  exact wW st.1 st.2 hf hnt hx λh' hit' hs' =>hQ _ h' z.toks ⟨_,hx,rfl⟩ ⟨hit',st.2.at λo e=>hs'.extBut a o hne e⟩ λb o hb e=>hs'.extBut b o (λh=>hb (by simp[h])) e
 done:=λz Q E st hQ=>BF hh st.1 st.2 hf rfl λh' he' =>hQ h' z.toks λb o hb e=>he' b o (λh=>hb (by simp[h])) e
 self:=λ_ _ _ _ st hQ=>rR st.1 hQ
theorem wX{a:Addr}{es:Array (Int×Value)}{ep:Nat}{t:SetTable}{Q:Value→Shared→Prop}(hm:iP z.heap a es ep t)(hf:t.fits es.size=true)(hT:Tb (gI w) t)(hlen:es.size≤sizeLine)
  (hQ:∀(h' :Heap) (it tp:Addr) (d:Drawn) (xs:List (Int×Value)),z.heap.objs.size≤it→tp≠it→z.heap.objs.size≤tp→(∀b o,z.heap.get? b=some o→h'.get? b=some o)→dm w h' it a tp es ep t xs 0→xs.length=es.size→xs.Perm es.toList→Q (.ref it) {z with heap:=h',drawn:=d}):
  wpAny (model prog w) A (pyIter (.ref a)) Q E z:=by
 obtain⟨o,ho,hx,hd⟩:=id hm
 have hTy:z.TypeIs (.ref a) "set":=hm.ty
 have hsz:t.place.size=es.size:=by
  unfold SetTable.fits at hf
  simp at hf
  omega
 refine Gdr hTy Fr.qo (Gba Fr.qo hTy Fr.mE ?_ (Fr.n6 _))
 unfold Builtin.«frozenset.__iter__»
 refine Gab (m:=Builtin.Frozenset.slot0 "__iter__" ⟨[.ref a],[]⟩) (wpAny_of_eq (a:=a) rfl ?_)
 unfold Builtin.Frozenset.sizeOf
 refine Gab (Gab (Gab (GaM ho hd hf (Gae (Gae ?_)))))
 dsimp only
 refine Gab ?_
 unfold setDrawn
 refine Gab (GaM ho hd hf (Gab (gY ?_)))
 try dsimp only
 refine Gae ?_
 by_cases c:(!gI w&&(!t.plain&&decide (es.size>1)))=true
 ·show wpAny _ _ (if(!gI w&&(!t.plain&&decide (es.size>1)))=true then _ else _) _ _ z
  rw[Gag c]
  refine Gab (ji es.size (List.range es.size) z _ (by simp) λps d hp=> ?_)
  have hpl:ps.length=es.size:=by rw[hp.length_eq];simp
  refine Gab (wpAny_newTuple ?_ (by rw[Gan];omega))
  have ho1:(z.heap.push {cls:= .type "tuple",data:= .seq (ps.map λ(i:Nat)=>rawInt i).toArray}).get? a=some o:=Gad _ ho
  refine Gab (m:=setEpoch a) (Gab (GaM (s:={z with heap:=_,drawn:=d}) ho1 hd hf (Gae ?_)))
  dsimp only
  unfold newFields
  refine Gab (GbY (Gae ⟨_,rfl,"set_iterator",_,⟨_,Gaw _ rfl,rfl⟩,Fr.b7.lookup, ?_⟩) (by size_fits))
  refine hQ _ _ z.heap.objs.size d (ps.map λj=>es.getD j (0,.none)) (by rw[GcO];exact GcD _) (by rw[GcO];exact GaC (Gcf _)) (Gaq _) (λb o e=>Gad _ (Gad _ e)) ?_ (by simp[hpl]) (Way.perm (w:=w) (a:=a) (ep:=ep) (i:=0) (t:=t) (.drawn (h:=z.heap.push {cls:= .type "tuple",data:= .seq (ps.map λ(i:Nat)=>rawInt i).toArray}) (tp:=z.heap.objs.size) ⟨_,Gaw _ rfl,rfl,0,rfl⟩ hp))
  exact⟨_,_,Gaw _ rfl,rfl,rfl,.drawn ⟨_,Gad _ (Gaw _ rfl),rfl,0,rfl⟩ hp⟩
 ·show wpAny _ _ (if(!gI w&&(!t.plain&&decide (es.size>1)))=true then _ else _) _ _ z
  rw[Gaf c]
  refine Gab (Gae ?_)
  refine Gab (m:=setEpoch a) (Gab (GaM ho hd hf (Gae ?_)))
  dsimp only
  unfold newFields
  refine Gab (GbY (Gae ⟨_,rfl,"set_iterator",_,⟨_,Gaw _ rfl,rfl⟩,Fr.b7.lookup, ?_⟩) (by size_fits))
  obtain⟨xs,hW⟩:∃xs,Way w a es ep t (z.heap.push {cls:= .type "set_iterator",data:= .fields #[rawInt 0,rawInt 0,.ref a,rawInt es.size,rawInt ep]}) (z.heap.objs.size+1) (rawInt 0) 0 xs:=by
   cases hb:gI w with
   |true=>exact⟨_,.text hb⟩
   |false=>
    have c' :¬(t.plain=false∧es.size>1):=λq=>c (by rw[hb,q.1];simp[q.2])
    refine⟨_,.plain (s:=0) hb c' ?_ (by rw[hT.1,hb];rfl) (by simp)⟩
    cases hp:t.plain with
    |true=>exact hT.2 hp
    |false=>
     intro i j hij x y hx hy
     have:es.size≤1:=by
      rcases GaY 1 es.size with q|q
      ·exact absurd ⟨hp,q⟩ c'
      ·exact q
     have h2:=(Gbi.mp hy).1
     omega
  exact hQ _ _ (z.heap.objs.size+1) z.drawn xs (Gaq _) (Gbj (Gcf _)) (GcD _) (λb o e=>Gad _ e) ⟨_,_,Gaw _ rfl,rfl,rfl,hW⟩ (by have:=hW.perm.length_eq;simpa using this) hW.perm
theorem wY{d:Addr}{Q:Bool→Shared→Prop}(hT:z.TypeIs (.ref d) "set")(h:Q false z):wpAny (model prog w) A (Builtin.List.listLengthHint (.ref d)) Q E z:=by
 have sp:splitId "set.__len__"=some ("set","__len__"):=by decide+kernel
 apply Gab
 apply GdG hT Fr.BE.lookup
 dsimp only
 rw[sp]
 wp_walk using wpAny_isInstance hT Fr.mD,wpAny_typeOf hT
 exact h
theorem rS{R:Result→Shared→Prop}{a:Addr}{es:Array (Int×Value)}{ep:Nat}{t:SetTable}(hh:A.handled=none)(hm:iP z.heap a es ep t)(hf:t.fits es.size=true)(hT:Tb (gI w) t)(hlen:es.size≤sizeLine)(S:Addr)(res:Value)(hS:Emp z.heap S)(hSd:S≠a)
  (hR:∀h' tk d acc' c' (xs:List (Int×Value)),(∀b o,b≠S→z.heap.get? b=some o→h'.get? b=some o)→h'.get? S=some {cls:= .type "list",dict:=none,data:= .seq acc' c',slots:=#[]}→xs.Perm es.toList→acc'.toList=xs.map (·.2)→R (.ok (.ret res)) {z with heap:=h',toks:=tk,drawn:=d}):
  wpAny (model prog w) A.in1 (Builtin.List.listExtendWith (.ref S) (.ref a) res) (λfin s' =>match fin with| .done f=>R (.ok f) s' | .again c' =>c'.quiet=true∧codeAny (model prog w) A c' R s') (λe s' =>R (.error e) s') z:=by
 have lS:S<z.heap.objs.size:=let⟨_,e⟩:=hS;Gam e
 have la:a<z.heap.objs.size:=let⟨o,ho,_⟩:=hm;Gam ho
 refine lT hm.ty rfl rfl (by simp[Builtin.List.listSameRef,hSd]) (wX hm hf hT hlen λh1 it tp d xs gi ne gt k1 hI xl xp=>wY (z:={z with heap:=h1,drawn:=d}) (let⟨o,ho,hc,_⟩:=hm;⟨o,k1 _ _ ho,hc.1⟩) ⟨let⟨c,e⟩:=hS;⟨c,k1 _ _ e⟩,λh2 ⟨c,e⟩ k=> ?_⟩)
 have W:=(uO (prog:=prog) (w:=w) (A:=A.in1) hh it a tp (GaC (GaF la gi)) ne es ep t hf xs xl).toS
 have nit:it≠S:=Gbj (GaF lS gi)
 have ntp:tp≠S:=Gbj (GaF lS gt)
 refine codeAny_extend_loopS W hlen S (by simp[Gbl nit,Gbl ntp,hSd]) res es.size 0 _ #[] c rfl (GaT _) ⟨let⟨o,f,ho,hc,hd,hw⟩:=hI;⟨o,f,k it o nit ho,hc,hd,hw.at λo=>k tp o ntp⟩,hm.at λo q=>k a o (Gbl hSd) (k1 _ _ q)⟩ e (ItemsOf.nil _) λs' acc' c' mv e' items=> ?_
 rw[Moved.eq_with mv]
 refine hR s'.heap s'.toks d acc' c' xs (λb o n q=>mv.heap b o (λm=> ?_) (k b o n (k1 _ _ q))) e' xp (GcI λi=> ?_)
 ·have lb:=Gam q
  simp only[Gar,Gce,GdL] at m
  rcases m with rfl|rfl
  ·exact n rfl
  ·exact Gbb _ (GaF lb gi)
 ·rw[GaP,Gav]
  cases q:acc'[i]? with
  |some v=>
   obtain⟨en,h1,rfl⟩:=items.2 i v q
   rw[h1];rfl
  |none=>
   have:es.size≤i:=by rw[←items.1];simpa using q
   rw[Gbf (by omega)];rfl
theorem qp{a:Addr}{es:Array (Int×Value)}{ep:Nat}{t:SetTable}{Q:List Value→Shared→Prop}(hh:A.handled=none)(hm:iP z.heap a es ep t)(hf:t.fits es.size=true)(hT:Tb (gI w) t)(hlen:es.size≤sizeLine)
  (h:∀h' tk d (xs:List (Int×Value)),z.heap.objs.size<h'.objs.size→(∀b o,z.heap.get? b=some o→h'.get? b=some o)→xs.Perm es.toList→Q (xs.map (·.2)) {z with heap:=h',toks:=tk,drawn:=d}):wpAny (model prog w) A (collect (.ref a)) Q E z:=by
 have old:∀{b o},z.heap.get? b=some o→b≠z.heap.objs.size:=λe=>GaC (Gam e)
 refine jc λh1 e k R r=>rS (z:={z with heap:=h1}) hh (hm.at (k a)) hf hT hlen _ _ e (let⟨o,ho,_⟩:=hm;Gbl (old ho)) λh' tk d acc c xs k' e' xp ha=> ?_
 exact r _ acc c e' (ha▸h h' tk d xs (Gam e') (λb o q=>k' b o (old q) (k b o q)) xp)
end
open PySem PySem.Spec PyProof.Rows L2
section
variable{X:Cx}{pins:List (Addr×Obj)}{σ:St}{H:Hp}{s:Shared}
theorem _root_.L2.Inv.draw(I:Inv X pins σ H s)(d:Drawn):Inv X pins σ H {s with drawn:=d}:=⟨I.ok,I.os,I.bare,I.base,I.loc,I.cell,I.free,I.gQ,I.pin,I.hok,I.len⟩
end
section
variable{X:Cx}{e a b c:Expr}{f g h:DE}{pos:Pos}{pins:List (Addr×Obj)}{σ:St}{H:Hp}{s:Shared}
theorem gS:∀{ns:List Int} {us:List Value},Vals (ns.map V.int) us→IntsAre us ns
 |[],_,.nil=> .nil
 |n::ns,_,.cons h t=>by
  obtain⟨k,rfl⟩:=h
  exact .cons n k (gS t)
end
namespace Fr
end Fr
open PySem PySem.Spec PyProof.Rows L2
structure Hn(K:aa)(Bad:Addr→Prop)(env:Env)(σ:St)(H:Hp)(i:Nat)(p:Addr)(ws:List (List Key×V))(kvs:Rws):Prop where
 at_:σ[i]? =some (some (.ref p))
 hid:env[i]? =some none
 top:H p=some (.dT ws)
 keys:kvs.map (·.1)=ws.map (·.1)
 row:∀(j:Nat) k v d,ws[j]? =some (k,v)→kvs[j]? =some (k,d)→∃a ds vs,v= .ref a∧d= .lst ds∧a≠p∧H a=some (.lst vs)∧aq K (λ_=>False) H ds vs
 inj:∀(j j' :Nat) k k' a,ws[j]? =some (k,V.ref a)→ws[j']? =some (k',V.ref a)→j=j'
noncomputable def Hs(H H' :Hp):Prop:=∀b o,H b=some o→isT o→H' b=some o
theorem qq{N P:List Str}{sc:Scope}(a:sc.kind= .function:=by rfl)(b:sc.isCoroutine=false:=by rfl)(c:sc.isGenerator=false:=by rfl)(d:N.Nodup:=by decide+kernel)(e:N.take P.length=P:=by rfl)(f:∀x∈P,sc.names.lookup x=some .local∨sc.names.lookup x=some .cell:=by decide+kernel)(g:∀y∈sc.names,y.2≠ .free:=by decide+kernel):bS N P sc:=⟨a,b,c,d,e,f,g⟩
noncomputable def Ho{κ β:Type} [DecidableEq κ](kvs:List (κ×β))(k:κ):List (κ×β):=kvs.filter λkv=> !decide (kv.1=k)
open PySem
noncomputable def da(mask:Nat):Nat→Nat×Nat→Nat×Nat
 |0,x=>x
 |n+1,x=>da mask n (SetTable.leap mask x.1 x.2)
theorem nQ(mask:Nat):∀(m n:Nat) (x:Nat×Nat),da mask (m+n) x=da mask n (da mask m x)
 |0,n,x=>by rw[Gdm];rfl
 |m+1,n,x=>by
  rw[Nat.succ_add]
  exact nQ mask m n (SetTable.leap mask x.1 x.2)
noncomputable def lcg(mask:Nat):Nat→Nat→Nat
 |0,i=>i
 |n+1,i=>lcg mask n ((i*5+1)%(mask+1))
theorem qr(mask:Nat):∀(n i:Nat),da mask n (i,0)=(lcg mask n i,0)
 |0,i=>rfl
 |n+1,i=>by
  show da mask n (SetTable.leap mask i 0)=_
  have:SetTable.leap mask i 0=((i*5+1)%(mask+1),0):=by simp[SetTable.leap]
  rw[this,qr mask n]
  rfl
theorem jj(mask:Nat):∀(n:Nat) (x:Nat×Nat),(da mask n x).2=x.2/32^n
 |0,x=>by simp[da]
 |n+1,x=>by
  show(da mask n (SetTable.leap mask x.1 x.2)).2=_
  rw[jj mask n]
  show x.2/32/32^n=_
  rw[Nat.div_div_eq_div_mul,Nat.pow_succ,Nat.mul_comm]
theorem tK(mask:Nat):∀(n:Nat) (x:Nat×Nat),x.1≤mask→(da mask n x).1≤mask
 |0,x,h=>h
 |n+1,x,h=>tK mask n _ (Gcn (GcZ _ (GcV _)))
noncomputable def mG(mask:Nat):Nat→Nat→List Nat
 |0,_=>[]
 |n+1,i=>i::mG mask n ((i*5+1)%(mask+1))
theorem qt(mask:Nat):∀(n i m:Nat),m<n→(mG mask n i)[m]? =some (lcg mask m i)
 |0,i,m,h=>by omega
 |n+1,i,0,h=>rfl
 |n+1,i,m+1,h=>by
  show(mG mask n ((i*5+1)%(mask+1)))[m]? =_
  exact qt mask n _ m (by omega)
theorem mH(mask:Nat):∀(n i:Nat),(mG mask n i).length=n
 |0,i=>rfl
 |n+1,i=>by show(mG mask n _).length+1=n+1;rw[mH mask n]
theorem kX(mask:Nat):∀(m n i:Nat),lcg mask (m+n) i=lcg mask n (lcg mask m i)
 |0,n,i=>by rw[Gdm];rfl
 |m+1,n,i=>by
  rw[Nat.succ_add]
  exact kX mask m n _
noncomputable def bJ(mask:Nat):Bool:=((List.range (mask+1)).all λe=>(mG mask (mask+1) 0).contains e)&&lcg mask (mask+1) 0==0
theorem FT:bJ 31=true:=by decide+kernel
theorem Ds:bJ 127=true:=by decide+kernel
theorem wZ{mask e:Nat}(h:bJ mask=true)(he:e≤mask):∃m,m≤mask∧lcg mask m 0=e:=by
 unfold bJ at h
 rw[Gal] at h
 have h2:=Gao.mp h.1 e (GaO.mpr (by omega))
 have h3:e∈mG mask (mask+1) 0:=by simpa using h2
 obtain⟨m,hm,e1⟩:=Gcc h3
 rw[mH] at hm
 refine⟨m,by omega, ?_⟩
 have:=qt mask (mask+1) 0 m hm
 rw[Gaa (by rw[mH];exact hm),e1] at this
 exact(Option.some.inj this).symm
theorem Dt{mask i e:Nat}(h:bJ mask=true)(hi:i≤mask)(he:e≤mask):∃m,m≤mask∧lcg mask m i=e:=by
 obtain⟨a,ha,ea⟩:=wZ h hi
 obtain⟨b,hb,eb⟩:=wZ h he
 by_cases c:a≤b
 ·refine⟨b -a,by omega, ?_⟩
  rw[←ea,←kX,show a+(b -a)=b by omega]
  exact eb
 ·refine⟨mask+1 -a+b,by omega, ?_⟩
  have z:lcg mask (mask+1) 0=0:=by
   unfold bJ at h
   rw[Gal] at h
   simpa using h.2
  have e0:lcg mask (mask+1 -a) i=0:=by
   rw[←ea,←kX,show a+(mask+1 -a)=mask+1 by omega]
   exact z
  rw[kX,e0]
  exact eb
theorem nR{mask i p e:Nat}(h:bJ mask=true)(hi:i≤mask)(hp:p<2^64)(he:e≤mask):∃n,1≤n∧n≤mask+13∧(da mask n (i,p)).1=e:=by
 have z:(da mask 13 (i,p)).2=0:=by
  rw[jj]
  exact Nat.div_eq_of_lt (GaF hp (by decide))
 have l:=tK mask 13 (i,p) hi
 obtain⟨m,hm,e1⟩:=Dt h l he
 refine⟨13+m,by omega,by omega, ?_⟩
 rw[nQ]
 have:da mask 13 (i,p)=((da mask 13 (i,p)).1,0):=Prod.ext rfl z
 rw[this,qr]
 exact e1
theorem jW(mask i:Nat):SetTable.runEnd mask i -i≤9:=by
 unfold SetTable.runEnd
 split<;>omega
structure POk(t:SetTable)(p:SetTable.Probe):Prop where
 i:p.i≤t.mask
 more:p.more≤9
 DP:p.perturb<2^64
theorem POk.start(t:SetTable)(h:Int):POk t (t.probeStart h):=by
 refine⟨?_,jW _ _, ?_⟩
 ·exact Gcn (GcZ _ (GcV _))
 ·show SetTable.bits h<2^64
  unfold SetTable.bits
  have h1:0≤h%(2^64:Int):=GcC _ (by decide)
  have h2:h%(2^64:Int)<2^64:=Gcl _ (by decide)
  omega
theorem POk.adv{t:SetTable}{p:SetTable.Probe}(h:POk t p):POk t (t.advance p):=by
 unfold SetTable.advance
 split
 ·exact⟨h.i,by show p.more -1≤9;have:=h.more;omega,h.DP⟩
 ·refine⟨?_,jW _ _, ?_⟩
  ·exact Gcn (GcZ _ (GcV _))
  ·show p.perturb/32<2^64
   exact GdM (Nat.div_le_self _ _) h.DP
theorem uP(t:SetTable)(p:SetTable.Probe)(d:Option Nat):(t.advance {p with dummy:=d})={t.advance p with dummy:=d}:=by
 unfold SetTable.advance
 dsimp only
 split<;>rfl
theorem qu(t:SetTable)(p:SetTable.Probe):{t.advance p with dummy:=p.dummy}=t.advance p:=by
 unfold SetTable.advance
 dsimp only
 split<;>rfl
theorem mI{t:SetTable}{hashAt:Nat→Int}{h:Int}{e:Nat}(he:t.slot e= .empty):∀(fuel n:Nat) (p:SetTable.Probe),1≤n→p.more≤9→(da t.mask n (p.i,p.perturb)).1=e→p.more+10*(n -1)+1<fuel→(SetTable.probe.go t hashAt h fuel p).isSome=true
 |0,n,p,_,_,_,hf=>by omega
 |fuel+1,n,p,hn,hm,hl,hf=>by
  have rec_:∀d:Option Nat,(SetTable.probe.go t hashAt h fuel {t.advance p with dummy:=d}).isSome=true:=λd=>by
   by_cases c:p.more>0
   ·have ea:t.advance p={p with j:=p.j+1,more:=p.more -1}:=by
     unfold SetTable.advance
     rw[Gag c]
    rw[ea]
    exact mI he fuel n _ hn (by show p.more -1≤9;omega) hl (by show p.more -1+10*(n -1)+1<fuel;omega)
   ·have ea:t.advance p={p with j:=(SetTable.leap t.mask p.i p.perturb).1,more:=SetTable.runEnd t.mask (SetTable.leap t.mask p.i p.perturb).1 -(SetTable.leap t.mask p.i p.perturb).1,i:=(SetTable.leap t.mask p.i p.perturb).1,perturb:=(SetTable.leap t.mask p.i p.perturb).2}:=by
     unfold SetTable.advance
     rw[Gaf c]
    rw[ea]
    have hr:=jW t.mask (SetTable.leap t.mask p.i p.perturb).1
    by_cases c1:n=1
    ·subst c1
     have hj:(SetTable.leap t.mask p.i p.perturb).1=e:=hl
     cases fuel with
     |zero=>omega
     |succ fuel=>
      unfold SetTable.probe.go
      dsimp only
      rw[hj,he]
      rfl
    ·obtain⟨n',rfl⟩:∃n',n=n' +1:=⟨n -1,by omega⟩
     refine mI he fuel n' _ (by omega) hr hl ?_
     show SetTable.runEnd t.mask (SetTable.leap t.mask p.i p.perturb).1 -(SetTable.leap t.mask p.i p.perturb).1+10*(n' -1)+1<fuel
     omega
  unfold SetTable.probe.go
  cases q:t.slot p.j with
  |empty=>rfl
  |dummy=>
   dsimp only
   rw[uP]
   exact rec_ _
  |live i=>
   dsimp only
   split
   ·rfl
   ·have:=rec_ p.dummy
    rw[qu] at this
    exact this
theorem rT{t:SetTable}{hashAt:Nat→Int}{h:Int}{e:Nat}{p:SetTable.Probe}(hc:bJ t.mask=true)(hp:POk t p)(he:t.slot e= .empty)(hem:e≤t.mask):(t.probe hashAt h p).isSome=true:=by
 obtain⟨n,h1,h2,h3⟩:=nR hc hp.i hp.DP hem
 unfold SetTable.probe SetTable.turns
 exact mI he _ n p h1 hp.more h3 (by have:=hp.more;omega)
theorem mJ{mask:Nat}{owner:Array (Option Nat)}{e:Nat}(he:owner[e]? =some none):∀(fuel n i p:Nat),n<fuel→(da mask n (i,p)).1=e→∃j,SetTable.layClean.free mask owner fuel i p=some j∧owner[j]? =some none
 |0,n,i,p,hf,_=>by omega
 |fuel+1,n,i,p,hf,hl=>by
  unfold SetTable.layClean.free
  cases q:(List.range (SetTable.runEnd mask i+1 -i)).find? λk=>(owner.getD (i+k) (some 0)).isNone with
  |some k=>
   refine⟨i+k,rfl, ?_⟩
   have h1:(owner.getD (i+k) (some 0)).isNone=true:=by simpa using List.find?_some q
   rw[GaI] at h1
   cases z:owner[i+k]? with
   |none=>rw[z] at h1;simp at h1
   |some o=>
    rw[z] at h1
    simp at h1
    rw[h1]
  |none=>
   dsimp only
   cases n with
   |zero=>
    exfalso
    have hi:i=e:=hl
    have:=GdN.mp q 0 (GaO.mpr (by unfold SetTable.runEnd;split<;>omega))
    rw[Nat.add_zero,hi,GaI,he] at this
    simp at this
   |succ n=>exact mJ he fuel n _ _ (by omega) hl
theorem uQ{mask:Nat}{owner:Array (Option Nat)}{e:Nat}{h:Int}(hc:bJ mask=true)(he:owner[e]? =some none)(hem:e≤mask):∃j,SetTable.layClean.free mask owner (SetTable.turns mask) (SetTable.bits h%(mask+1)) (SetTable.bits h)=some j∧owner[j]? =some none:=by
 have hp:SetTable.bits h<2^64:=by
  unfold SetTable.bits
  have h1:0≤h%(2^64:Int):=GcC _ (by decide)
  have h2:h%(2^64:Int)<2^64:=Gcl _ (by decide)
  omega
 obtain⟨n,h1,h2,h3⟩:=nR (i:=SetTable.bits h%(mask+1)) hc (Gcn (GcZ _ (GcV _))) hp hem
 exact mJ he _ n _ _ (by unfold SetTable.turns;omega) h3
theorem tL:∀{l:List (Option Nat)} {j m:Nat},l[j]? =some none→((l.set j (some m)).filterMap id).Perm (m::l.filterMap id)
 |[],j,m,h=>by simp at h
 |x::l,0,m,h=>by
  simp at h
  subst h
  simp
 |x::l,j+1,m,h=>by
  have h' :l[j]? =some none:=by simpa using h
  have ih:=tL (m:=m) h'
  rw[List.set_cons_succ]
  cases x with
  |none=>simpa using ih
  |some y=>
   show(y::(l.set j (some m)).filterMap id).Perm (m::y::l.filterMap id)
   exact(List.Perm.cons y ih).trans (List.Perm.swap m y _)
theorem has_none:∀{l:List (Option Nat)},(l.filterMap id).length<l.length→∃e:Nat,l[e]? =some none
 |[],h=>by simp at h
 |none::l,_=> ⟨0,rfl⟩
 |some x::l,h=>by
  have:(l.filterMap id).length<l.length:=by
   simp at h
   simpa using h
  obtain⟨e,he⟩:=has_none this
  exact⟨e+1,by simpa using he⟩
structure Laid(mask m:Nat)(owner:Array (Option Nat)):Prop where
 size:owner.size=mask+1
 occ:(owner.toList.filterMap id).Perm (List.range m)
theorem rU(mask:Nat):Laid mask 0 (Array.replicate (mask+1) none):=by
 refine⟨by simp, ?_⟩
 have:((Array.replicate (mask+1) (none:Option Nat)).toList.filterMap id)=[]:=by
  rw[Array.toList_replicate,List.filterMap_eq_nil_iff]
  intro x hx
  rw[List.eq_of_mem_replicate hx]
  rfl
 rw[this]
 exact List.Perm.refl _
theorem uR(owner:Array (Option Nat)):∀n,n=owner.size→((List.range n).filterMap λj=>(owner.getD j none).map λk=>(j,k)).map (·.2)=owner.toList.filterMap id:=by
 intro n hn
 subst hn
 have e:owner.toList=(List.range owner.size).map λj=>owner.getD j none:=by
  apply GcI
  intro i
  rw[Gav,GaP]
  by_cases c:i<owner.size
  ·rw[GdJ c,Gau c,GbU,GaI,Gau c]
   rfl
  ·rw[GbK (by omega),Gbf (by simp;omega)]
   rfl
 rw[e,List.filterMap_map,List.map_filterMap]
 congr 1
 funext j
 show Option.map _ (Option.map _ _)=id (owner.getD j none)
 cases owner.getD j none<;>rfl
inductive Im (h:Heap):Nat→D→Value→Prop where
 |int (n:Nat) (i:Int) (t:Tok):Im h n (.int i) (.int i t)
 |str (n:Nat) (x:Str) (t:Tok):Im h n (.str x) (.str x t)
 |tup {n m:Nat} {a:Addr} {o:Obj} {items:Array Value} {ds:List D} (ho:h.get? a=some o) (hc:o.cls= .type "tuple") (hd:o.data= .seq items m) (hl:ds.length=items.toList.length) (hi:∀(i:Nat) d v,ds[i]? =some d→items.toList[i]? =some v→Im h n d v):Im h (n+1) (.tup ds) (.ref a)
noncomputable def aR(w:World):Nat→D→Int
 |_,.int i=>hashInt i
 |_,.str x=>hashStr w x
 |n+1,.tup ds=>reduceHash (Builtin.Tuple.tupleHashOf (ds.map (aR w n)))
 |_,_=>0
section
variable{prog:Program}{w:World}{A:Around}{E:Value→Shared→Prop}{s:Shared}
noncomputable def oU(prog:Program)(w:World)(A:Around)(s:Shared)(v:Value)(h:Int):Prop:=∀(tk:Nat) (R:Int→Shared→Prop) (E:Value→Shared→Prop),(∀tk',tk≤tk' →R h {s with toks:=tk' })→wpAny (model prog w) A (pyHash v) R E {s with toks:=tk}
theorem mK{n:Nat}:∀{vs:List Value} {ds:List D} (acc:Array Int) (tk:Nat) {Q:Array Int→Shared→Prop},ds.length=vs.length→(∀(i:Nat) d v,ds[i]? =some d→vs[i]? =some v→oU prog w A s v (aR w n d))→(∀tk',tk≤tk' →Q (acc++(ds.map (aR w n)).toArray) {s with toks:=tk' })→
  wpAny (model prog w) A (forIn vs acc λx hs=>pyHash x>>=λh=>pure (ForInStep.yield (hs.push h))) Q E {s with toks:=tk}
 |[],[],acc,tk,Q,_,_,h=>Gae (by simpa using h tk (Gaq _))
 |v::vs,d::ds,acc,tk,Q,hl,hi,h=>by
  rw[GdD]
  refine Gab (Gab (hi 0 d v rfl rfl tk _ _ λtk1 le=>Gae ?_))
  refine mK (acc.push (aR w n d)) tk1 (by simpa using hl) (λi d v e1 e2=>hi (i+1) d v e1 e2) λtk2 le2=> ?_
  have:=h tk2 (GbJ le le2)
  simpa using this
theorem rV{n:Nat}{a:Addr}{o:Obj}{items:Array Value}{m:Nat}{ds:List D}(hu:A.units<cLine)(ho:s.heap.get? a=some o)(hc:o.cls= .type "tuple")(hd:o.data= .seq items m)(hl:ds.length=items.toList.length)
  (hi:∀(i:Nat) d v,ds[i]? =some d→items.toList[i]? =some v→oU prog w A.in1 s v (aR w n d)):oU prog w A s (.ref a) (aR w (n+1) (.tup ds)):=by
 intro tk Q E h
 have hT:({s with toks:=tk}:Shared).TypeIs (.ref a) "tuple":=⟨o,ho,hc⟩
 have nn:(some (Value.builtin "tuple.__hash__")==some Value.none)=false:=beq_builtin_none _
 unfold pyHash
 wp_walk using wpAny_cRoomFor_or (.inr hu),GdG hT Gdt.lookup,wpAny_callSpecialIfBoundUnlessNone?_slot hT Gdt,Gba Gdt hT F.entry_tuple_hash (ha:=F.args_tuple_hash_1 _),wpAny_tupleItemsOf ho hd
 rw[hd]
 refine Gae (Gae (Gab ?_))
 rw[←Array.forIn_toList]
 refine mK #[] tk hl hi λtk1 le=>wpAny_ret_mkInt ?_
 rw[show(#[]++(ds.map (aR w n)).toArray:Array Int).toList=ds.map (aR w n) by simp]
 have q:∀t,tk≤t→Q (reduceHash (Builtin.Tuple.tupleHashOf (ds.map (aR w n)))) {s with toks:=t}:=h
 unfold reduceHash at q
 have le2:=Nat.le_succ_of_le le
 refine Gdg (λc=>Gae ?_) (λc=>Gab (GcX (Gae ?_)))
 ·rw[Gag c] at q
  first|exact q _ le2|exact q _ le
 ·rw[Gaf c] at q
  first|exact q _ le2|exact q _ le
theorem tM:∀{n:Nat} {d:D} {v:Value} {A:Around},Im s.heap n d v→A.units+n<cLine→oU prog w A s v (aR w n d)
 |n,_,_,A,.int _ i t,hu=>λtk R E h=>by
  have e:aR w n (.int i)=(bq prog w).hash (.inl i):=by cases n<;>rfl
  rw[e] at h
  exact(bq prog w).pyHash (k:= .inl i) (kb prog w i t) (h _ (by first|exact Gaq _|exact GcD _))
 |n,_,_,A,.str _ x t,hu=>λtk R E h=>by
  have e:aR w n (.str x)=(bq prog w).hash (.inr x):=by cases n<;>rfl
  rw[e] at h
  exact(bq prog w).pyHash (k:= .inr x) (kc prog w x t) (h _ (by first|exact Gaq _|exact GcD _))
 |n+1,_,_,A,.tup ho hc hd hl hi,hu=>rV (by omega) ho hc hd hl λi d v e1 e2=>tM (hi i d v e1 e2) (by show A.units+1+n<cLine;omega)
end
section
variable{prog:Program}{w:World}{A:Around}{E:Value→Shared→Prop}{s:Shared}
theorem jX{β:Type}{body:Value→β→Sem (ForInStep β)}{b0:β}{Q:β→Shared→Prop}{items:Array Value}(step:∀v∈items.toList,∀P:ForInStep β→Shared→Prop,P (.yield b0) s→(∀b,Q b s→P (.done b) s)→wpAny (model prog w) A (body v b0) P E s)(fin:Q b0 s):wpAny (model prog w) A (forIn items b0 body) Q E s:=by
 rw[←Array.forIn_toList]
 suffices∀l:List Value,(∀v∈l,v∈items.toList)→wpAny (model prog w) A (forIn l b0 body) Q E s from this _ λ_ q=>q
 intro l
 induction l with
 |nil=>exactλ_=>Gae fin
 |cons v l ih=>
  intro all
  rw[GdD]
  exact Gab (step v (all v Gap) _ (ih λx m=>all x (Gai _ m)) λb q=>Gae q)
theorem Im.item{n:Nat}{ds:List D}{items:Array Value}(hl:ds.length=items.toList.length)(hi:∀(i:Nat) d v,ds[i]? =some d→items.toList[i]? =some v→Im s.heap n d v){v:Value}(m:v∈items.toList):∃d,Im s.heap n d v:=by
 obtain⟨i,h⟩:=Gbn.mp m
 have lt:i<ds.length:=by rw[hl];exact(Gac.mp h).1
 exact⟨_,hi i ds[i] v (Gaa lt) h⟩
theorem mL:∀(n:Nat) {k:Nat} {d:D} {v:Value} {E:Value→Shared→Prop} {Q:Bool→Shared→Prop},Im s.heap n d v→n≤k→Q true s→wpAny (model prog w) A (eqIsQuiet k v) Q E s
 |_,_,_,_,_,_,.int ..,_,h=>by rw[eqIsQuiet_byValue _ rfl];exact Gae h
 |_,_,_,_,_,_,.str ..,_,h=>by rw[eqIsQuiet_byValue _ rfl];exact Gae h
 |n+1,k+1,_,.ref a,_,_,.tup ho hc hd hl hi,hk,h=>by
  have hT:s.TypeIs (.ref a) "tuple":=⟨_,ho,hc⟩
  unfold eqIsQuiet
  apply Gab
  apply GdG hT F.slot_tuple_eq.lookup
  refine Gab (wpAny_isInstance hT isSubtype_tuple_tuple (GbX rfl (Gab (GcQ ho hd (Gab (jX (λv m P yes _=> ?_) ?_))))))
  ·obtain⟨d,im⟩:=Im.item hl hi m
   exact Gab (mL n im (by omega) (GbX rfl (Gae yes)))
  ·exact Gae h
theorem mM:∀(n:Nat) {k:Nat} {d:D} {v:Value} {E:Value→Shared→Prop} {Q:Bool→Shared→Prop},Im s.heap n d v→n≤k→Q false s→wpAny (model prog w) A (ofAClassStatement k v) Q E s
 |_,_,_,_,_,_,.int ..,_,h=>by unfold ofAClassStatement;exact Gae h
 |_,_,_,_,_,_,.str ..,_,h=>by unfold ofAClassStatement;exact Gae h
 |n+1,k+1,_,.ref a,_,_,.tup ho hc hd hl hi,hk,h=>by
  have hT:s.TypeIs (.ref a) "tuple":=⟨_,ho,hc⟩
  unfold ofAClassStatement
  refine Gab (wpAny_typeOf hT (wpAny_ite_true rfl (Gab (Gae (GbX rfl (Gab (GcQ ho hd (Gab (jX (λv m P yes _=> ?_) ?_)))))))))
  ·obtain⟨d,im⟩:=Im.item hl hi m
   exact Gab (mM n im (by omega) (GbX rfl (Gae yes)))
  ·exact Gae h
theorem A0:∀(n:Nat) {k:Nat} {d:D} {v:Value} {E:Value→Shared→Prop} {Q:Bool→Shared→Prop},Im s.heap n d v→n≤k→(∀b,Q b s)→wpAny (model prog w) A (hashByValue k v) Q E s
 |_,k,_,_,_,_,.int ..,_,h=>by cases k<;>exact Gae (h _)
 |_,k,_,_,_,_,.str ..,_,h=>by cases k<;>exact Gae (h _)
 |n+1,k+1,_,.ref a,_,_,.tup ho hc hd hl hi,hk,h=>by
  have hT:s.TypeIs (.ref a) "tuple":=⟨_,ho,hc⟩
  unfold hashByValue
  apply Gab
  apply GdG hT Gdt.lookup
  refine Gab (GcQ ho hd (Gab (jX (λv m P yes no=> ?_) ?_)))
  ·obtain⟨d,im⟩:=Im.item hl hi m
   refine Gab (A0 n im (by omega) λb=> ?_)
   cases b
   ·exact wpAny_ite_true rfl (Gae (no _ (Gae (h _))))
   ·exact GbX rfl (Gae yes)
  ·exact Gae (h _)
end
section
variable{s:Shared}
theorem A1(n:Nat):∀{d:D} {v:Value},Im s.heap n d v→a9 n d=true:=by
 induction n with
 |zero=>
  intro d v im
  cases im<;>rfl
 |succ n ih=>
  intro d v im
  cases im with
  |int _ i t=>rfl
  |str _ x t=>rfl
  | @tup _ m a o items ds ho hc hd hl hi=>
   show ds.all (a9 n)=true
   rw[Gao]
   intro d hdm
   obtain⟨i,hi1,rfl⟩:=Gcc hdm
   exact ih (hi i ds[i] items.toList[i] (Gaa hi1) (Gaa (by omega)))
theorem mN(n:Nat):∀{d e:D} {v:Value},Im s.heap n d v→Im s.heap n e v→d=e:=by
 induction n with
 |zero=>
  intro d e v i1 i2
  cases i1<;>cases i2<;>rfl
 |succ n ih=>
  intro d e v i1 i2
  cases i1 with
  |int _ i t=>cases i2;rfl
  |str _ x t=>cases i2;rfl
  | @tup _ m a o items ds ho hc hd hl hi=>
   cases i2 with
   | @tup _ m' _ o' items' ds' ho' hc' hd' hl' hi' =>
    rw[ho] at ho'
    cases ho'
    rw[hd] at hd'
    cases hd'
    congr 1
    apply GcY (by omega)
    intro i h1 h2
    exact ih (hi i _ items.toList[i] (Gaa h1) (Gaa (by omega))) (hi' i _ _ (Gaa h2) (Gaa (by omega)))
theorem FU(n:Nat):∀{dx dy:D} {v u:Value} {A:Around},Im s.heap n dx v→Im s.heap n dy u→A.units+n<cLine→SeqAt.EqAt A s v u (eqD dx dy):=by
 have flat:∀{x y:V} {v u:Value} {A:Around} {b:Bool},RelV x v→RelV y u→ke x=true→ke y=true→b=eqV x y→SeqAt.EqAt A s v u b:=by
  intro x y v u A b rv ru fx fy e
  rw[e]
  exact vq rv ru fx fy
 induction n with
 |zero=>
  intro dx dy v u A i1 i2 hu
  cases i1 with
  |int _ i t=>
   cases i2 with
   |int _ j t' =>exact flat (x:= .int i) (y:= .int j) ⟨t,rfl⟩ ⟨t',rfl⟩ rfl rfl rfl
   |str _ y t' =>exact flat (x:= .int i) (y:= .str y) ⟨t,rfl⟩ ⟨t',rfl⟩ rfl rfl rfl
  |str _ x t=>
   cases i2 with
   |int _ j t' =>exact flat (x:= .str x) (y:= .int j) ⟨t,rfl⟩ ⟨t',rfl⟩ rfl rfl rfl
   |str _ y t' =>exact flat (x:= .str x) (y:= .str y) ⟨t,rfl⟩ ⟨t',rfl⟩ rfl rfl rfl
 |succ n ih=>
  intro dx dy v u A i1 i2 hu
  have hu0:A.units<cLine:=by omega
  cases i1 with
  |int _ i t=>
   cases i2 with
   |int _ j t' =>exact flat (x:= .int i) (y:= .int j) ⟨t,rfl⟩ ⟨t',rfl⟩ rfl rfl rfl
   |str _ y t' =>exact flat (x:= .int i) (y:= .str y) ⟨t,rfl⟩ ⟨t',rfl⟩ rfl rfl rfl
   |tup ho hc hd hl hi=>exact SeqAt.EqAt.int_tuple i t ⟨_,ho,hc,_,hd⟩ hu0
  |str _ x t=>
   cases i2 with
   |int _ j t' =>exact flat (x:= .str x) (y:= .int j) ⟨t,rfl⟩ ⟨t',rfl⟩ rfl rfl rfl
   |str _ y t' =>exact flat (x:= .str x) (y:= .str y) ⟨t,rfl⟩ ⟨t',rfl⟩ rfl rfl rfl
   |tup ho hc hd hl hi=>exact SeqAt.EqAt.str_tuple x t ⟨_,ho,hc,_,hd⟩ hu0
  | @tup _ m a o items ds ho hc hd hl hi=>
   have ht:IsTup s.heap a items:=⟨_,ho,hc,_,hd⟩
   have i1' :Im s.heap (n+1) (.tup ds) (.ref a):= .tup ho hc hd hl hi
   cases i2 with
   |int _ j t' =>exact SeqAt.EqAt.tuple_int j t' ht hu0
   |str _ y t' =>exact SeqAt.EqAt.tuple_str y t' ht hu0
   | @tup _ m' b o' items' ds' ho' hc' hd' hl' hi' =>
    have i2' :Im s.heap (n+1) (.tup ds') (.ref b):= .tup ho' hc' hd' hl' hi'
    by_cases hab:a=b
    ·subst hab
     have:=mN (n+1) i1' i2'
     rw[←this,lL _ _ (A1 _ i1')]
     exact SeqAt.EqAt.same _
    ·have ht2:IsTup s.heap b items' :=⟨_,ho',hc',_,hd'⟩
     have hs1:items.size=ds.length:=by rw[hl];simp
     have hs2:items'.size=ds'.length:=by rw[hl'];simp
     have key:=SeqAt.RcAt.tuples (e:=λj=>eqD (ds.getD j .non) (ds'.getD j .non)) ht ht2 hu0 λj h1 h2=>by
      have e1:ds.getD j .non=ds[j]'(by omega):=by rw[Gdc,Gaa (by omega)];rfl
      have e2:ds'.getD j .non=ds'[j]'(by omega):=by rw[Gdc,Gaa (by omega)];rfl
      rw[e1,e2]
      exact ih (hi j _ _ (Gaa (by omega)) (by rw[GaP];exact Gau h1)) (hi' j _ _ (Gaa (by omega)) (by rw[GaP];exact Gau h2)) (in1_units hu)
     refine SeqAt.EqAt.of_refs hab ?_
     show SeqAt.RcAt A s (.ref a) (.ref b) (fK ds ds')
     rw[hs1,hs2] at key
     by_cases hll:ds.length=ds'.length
     ·rw[←hll,GdC,ck hll] at key
      simpa using key
     ·rw[dI hll]
      have:(ds.length==ds'.length)=false:=by simpa using hll
      rw[this,Gdo] at key
      exact key
end
noncomputable def aM(t:SetTable):Nat→SetTable.Probe→SetTable.Probe
 |0,p=>p
 |n+1,p=>aM t n (t.advance p)
theorem fB(t:SetTable):∀(m n:Nat) (p:SetTable.Probe),aM t (m+n) p=aM t n (aM t m p)
 |0,n,p=>by rw[Gdm];rfl
 |m+1,n,p=>by
  rw[Nat.succ_add]
  exact fB t m n _
theorem fC(t:SetTable)(n:Nat)(p:SetTable.Probe):aM t (n+1) p=t.advance (aM t n p):=fB t n 1 p
structure TOk(t:SetTable)(n:Nat):Prop where
 cov:bJ t.mask=true
 odd:t.mask%2=1
 dum:t.dummies=#[]
 size:t.place.size=n
 few:n≤t.mask
theorem fT{t:SetTable}(h:t.dummies=#[])(j:Nat):t.slot j= .empty∨∃i,t.slot j= .live i∧t.place[i]? =some j:=by
 unfold SetTable.slot
 dsimp only
 split
 ·rename_i c
  exact .inr ⟨_,rfl,by simpa using c⟩
 ·rw[h]
  left
  have:SetTable.has #[] j=false:=by
   unfold SetTable.has
   simp
  rw[this]
  simp
theorem tN:∀(N:Nat) (l:List Nat),l.length<N→∃e,e<N∧e∉l
 |0,l,h=>by omega
 |N+1,l,h=>by
  by_cases c:N∈l
  ·obtain⟨e,he,hn⟩:=tN N (l.erase N) (by rw[List.length_erase_of_mem c];have:=List.length_pos_of_mem c;omega)
   refine⟨e,by omega,λz=>hn ?_⟩
   exact(List.mem_erase_of_ne (by omega)).mpr z
  ·exact⟨N,by omega,c⟩
theorem TOk.hole{t:SetTable}{n:Nat}(h:TOk t n):∃e,e≤t.mask∧t.slot e= .empty:=by
 obtain⟨e,he,hn⟩:=tN (t.mask+1) t.place.toList (by rw[GaE,h.size];have:=h.few;omega)
 refine⟨e,by omega, ?_⟩
 rcases fT h.dum e with q| ⟨i,_,hp⟩
 ·exact q
 ·exfalso
  apply hn
  have:t.place.toList[i]? =some e:=by rw[GaP];exact hp
  exact GaJ this
theorem f7{t:SetTable}{hashAt:Nat→Int}{h:Int}(hd:t.dummies=#[]):∀(fuel:Nat) (p:SetTable.Probe) (met:SetTable.Met),p.dummy=none→SetTable.probe.go t hashAt h fuel p=some met→
  ∃m,m<fuel∧(∀m',m' <m→∃i,t.slot (aM t m' p).j= .live i∧hashAt i≠h)∧((met= .empty (aM t m p).j none∧t.slot (aM t m p).j= .empty)∨∃i,met= .candidate (aM t m p).j i (t.advance (aM t m p))∧t.slot (aM t m p).j= .live i∧hashAt i=h)
 |0,p,met,_,e=>by cases e
 |fuel+1,p,met,hp,e=>by
  unfold SetTable.probe.go at e
  rcases fT hd p.j with q| ⟨i,q,_⟩
  ·rw[q] at e
   cases e
   exact⟨0,by omega,λm' h=>by omega,.inl ⟨by rw[hp];rfl,q⟩⟩
  ·rw[q] at e
   dsimp only at e
   split at e
   ·rename_i c
    cases e
    exact⟨0,by omega,λm' h=>by omega,.inr ⟨i,rfl,q,by simpa using c⟩⟩
   ·rename_i c
    have hne:hashAt i≠h:=by simpa using c
    have hp' :(t.advance p).dummy=none:=by
     have:=qu t p
     unfold SetTable.advance
     split<;>exact hp
    obtain⟨m,h0,h1,h2⟩:=f7 hd fuel (t.advance p) met hp' e
    refine⟨m+1,by omega,λm' hm' => ?_,h2⟩
    cases m' with
    |zero=>exact⟨i,q,hne⟩
    |succ m' =>exact h1 m' (by omega)
theorem mO{t:SetTable}{n:Nat}{hashAt:Nat→Int}{h:Int}{p:SetTable.Probe}(T:TOk t n)(hp:POk t p)(hd:p.dummy=none):∃met m,m<10*SetTable.turns t.mask∧t.probe hashAt h p=some met∧(∀m',m' <m→∃i,t.slot (aM t m' p).j= .live i∧hashAt i≠h)∧
  ((met= .empty (aM t m p).j none∧t.slot (aM t m p).j= .empty)∨∃i,met= .candidate (aM t m p).j i (t.advance (aM t m p))∧t.slot (aM t m p).j= .live i∧hashAt i=h):=by
 obtain⟨e,he,hs⟩:=T.hole
 have hsome:=rT (hashAt:=hashAt) (h:=h) T.cov hp hs he
 obtain⟨met,hm⟩:=Option.isSome_iff_exists.mp hsome
 obtain⟨m,h0,h1,h2⟩:=f7 T.dum _ p met hd hm
 exact⟨met,m,h0,hm,h1,h2⟩
theorem POk.aM{t:SetTable}{p:SetTable.Probe}(h:POk t p):∀n,POk t (aM t n p)
 |0=>h
 |n+1=>by
  rw[fC]
  exact(POk.aM h n).adv
theorem A2{t:SetTable}{n:Nat}(T:TOk t n)(h:Int):∃K,K<10*SetTable.turns t.mask∧t.slot (aM t K (t.probeStart h)).j= .empty∧∀k,k<K→∃i,t.slot (aM t k (t.probeStart h)).j= .live i:=by
 obtain⟨met,m,h0,_,h1,h2⟩:=mO (hashAt:=λ_=>h+1) (h:=h) (p:=t.probeStart h) T (.start t h) rfl
 refine⟨m,h0, ?_,λk hk=> ?_⟩
 ·rcases h2 with⟨_,q⟩| ⟨i,_,_,q⟩
  ·exact q
  ·exfalso;omega
 ·obtain⟨i,q,_⟩:=h1 k hk
  exact⟨i,q⟩
noncomputable def A3(t:SetTable)(h:Int)(j:Nat):Prop:=∃k,(aM t k (t.probeStart h)).j=j∧∀k',k' <k→∃i,t.slot (aM t k' (t.probeStart h)).j= .live i
section
variable{prog:Program}{w:World}{A:Around}{E:Value→Shared→Prop}{s:Shared}
theorem BG{n:Nat}{dx:D}{x:Value}{stored:List Value}{Q:Bool→Shared→Prop}(hx:Im s.heap n dx x)(hs:∀y∈stored,∃d,Im s.heap n d y)(hn:n≤8)(h:Q false s):wpAny (model prog w) A (searchCouldBeSeen x stored) Q E s:=by
 unfold searchCouldBeSeen
 refine Gab ?_
 refine wpAny_forIn_list _ (λrest r s' =>r.1=none∧s' =s∧∀y∈rest,y∈stored) _ ?_ ?_ _ _ ⟨rfl,rfl,λy hy=>hy⟩
 ·rintro y rest r s' ⟨hr,hs',hall⟩
  obtain⟨d,hy⟩:=hs y (hall y Gap)
  have more:∀z∈rest,z∈stored:=λz hz=>hall z (Gai _ hz)
  rw[hs']
  dsimp only
  split
  all_goals
   split
   ·exact Gae ⟨rfl,rfl,more⟩
   ·refine Gab (mL n hx hn ?_)
    simp only[Gcy,Gax,GaS]
    refine Gab (mL n hy hn ?_)
    simp only[Gcy,Gax,GaS]
    refine Gab (mM n hx hn ?_)
    simp only[Gax,GaS]
    refine Gab (mM n hy hn ?_)
    simp only[Gax,GaS]
    exact Gae ⟨rfl,rfl,more⟩
 ·rintro⟨r1,r2⟩ s' ⟨hr,hs',_⟩
  simp only at hr
  subst hr
  rw[hs']
  exact Gae h
structure iQ(w:World)(g:Heap)(n:Nat)(es:Array (Int×Value))(t:SetTable):Prop where
 tok:TOk t es.size
 el:∀(i:Nat) h v,es[i]? =some (h,v)→∃b d,v= .ref b∧Im g n d v∧h=aR w n d
 ris:Ris t.place
 way:∀(i:Nat) h v j,es[i]? =some (h,v)→t.place[i]? =some j→A3 t h j
end
section
variable{prog:Program}{w:World}{A:Around}{E:Value→Shared→Prop}{s:Shared}
noncomputable def storedAt(es:Array (Int×Value))(i:Nat):Int:=(es[i]?.map (·.1)).getD 0
theorem qv(t:SetTable)(h:Int):∀k,(aM t k (t.probeStart h)).dummy=none
 |0=>rfl
 |k+1=>by
  have ih:=qv t h k
  rw[fC]
  unfold SetTable.advance
  split<;>exact ih
noncomputable def iR(g:Heap)(n:Nat)(es:Array (Int×Value))(dx:D)(i:Nat):Prop:=∀h v d,es[i]? =some (h,v)→Im g n d v→eqD d dx=false
theorem oV{t:SetTable}{i j:Nat}(hr:Ris t.place)(h:t.place[i]? =some j):t.slot j= .live i:=by
 obtain⟨_,b2,b3⟩:=fA (j:=j) hr
 have e:SetTable.below t.place j=i:=by
  rcases GdS i (SetTable.below t.place j) with z|z|z
  ·exact absurd (b2 i j z h) (Gbb _)
  ·exact z.symm
  ·have hi:=(Gbi.mp h).1
   have g:t.place[SetTable.below t.place j]? =some (t.place[SetTable.below t.place j]'(by omega)):=Gau (by omega)
   have h1:=b3 _ _ (Gaq _) g
   have h2:=hr _ _ z _ _ g h
   omega
 unfold SetTable.slot
 dsimp only
 rw[e,h]
 simp
theorem tO(n:Nat):∀{d e:D} {v u:Value},Im s.heap n d v→Im s.heap n e u→eqD d e=true→d=e:=by
 induction n with
 |zero=>
  intro d e v u i1 i2 h
  cases i1<;>cases i2<;>simp at h<;>simp[h]
 |succ n ih=>
  intro d e v u i1 i2 h
  cases i1 with
  |int _ i t=>cases i2<;>simp at h<;>simp[h]
  |str _ x t=>cases i2<;>simp at h<;>simp[h]
  | @tup _ m a o items ds ho hc hd hl hi=>
   cases i2 with
   |int _ i t=>simp at h
   |str _ x t=>simp at h
   | @tup _ m' b o' items' ds' ho' hc' hd' hl' hi' =>
    have h' :fK ds ds' =true:=by simpa using h
    have hll:ds.length=ds'.length:=by
     rcases Nat.decEq ds.length ds'.length with z|z
     ·rw[dI z] at h';cases h'
     ·exact z
    rw[←ck hll] at h'
    congr 1
    refine GcY hll λi h1 h2=> ?_
    have:=Gao.mp h' i (GaO.mpr h1)
    have e1:ds.getD i .non=ds[i]:=by simp[h1]
    have e2:ds'.getD i .non=ds'[i]:=by simp[h2]
    rw[e1,e2] at this
    exact ih (hi i _ items.toList[i] (Gaa h1) (Gaa (by omega))) (hi' i _ items'.toList[i] (Gaa h2) (Gaa (by omega))) this
theorem rW{es:Array (Int×Value)}{t:SetTable}{n:Nat}{dx:D}{x:Value}(X:iQ w s.heap n es t)(hx:Im s.heap n dx x){k:Nat}(hk:t.slot (aM t k (t.probeStart (aR w n dx))).j= .empty)
  (past:∀k',k' <k→∃i,t.slot (aM t k' (t.probeStart (aR w n dx))).j= .live i∧iR s.heap n es dx i)(i:Nat):iR s.heap n es dx i:=by
 intro h v d he im
 cases hq:eqD d dx with
 |false=>rfl
 |true=>
  exfalso
  have ed:=tO n im hx hq
  subst ed
  have hi:i<t.place.size:=by
   rw[X.tok.size]
   exact(Gbi.mp he).1
  have hp:t.place[i]? =some t.place[i]:=Gau hi
  obtain⟨b,d',hv,im',hh⟩:=X.el i h v he
  have:=mN n im im'
  subst this
  subst hh
  obtain⟨k2,e2,before⟩:=X.way i _ v _ he hp
  have sl:=oV X.ris hp
  rcases GdS k2 k with z|z|z
  ·obtain⟨i',q,un⟩:=past k2 z
   rw[e2,sl] at q
   cases q
   have:=un _ v d he im
   rw[this] at hq
   cases hq
  ·subst z
   rw[e2,sl] at hk
   cases hk
  ·obtain⟨i',q⟩:=before k z
   rw[hk] at q
   cases q
theorem qw{a:Addr}{o:Obj}{es:Array (Int×Value)}{ep:Nat}{t:SetTable}{n:Nat}{b:Addr}{dx:D}{R:SetFound→Shared→Prop}(ho:s.heap.get? a=some o)(hd:o.data= .set es ep t)(hf:t.fits es.size=true)(X:iQ w s.heap n es t)(hx:Im s.heap n dx (.ref b))(hn:n≤8)(hu:A.units+n<cLine)
  {K:Nat}(hK:t.slot (aM t K (t.probeStart (aR w n dx))).j= .empty)
  (h1:(∃i,¬iR s.heap n es dx i)→R (.there none) s)
  (h2:∀k,t.slot (aM t k (t.probeStart (aR w n dx))).j= .empty→(∀k',k' <k→∃i,t.slot (aM t k' (t.probeStart (aR w n dx))).j= .live i)→(∀i,iR s.heap n es dx i)→R (.free (aM t k (t.probeStart (aR w n dx))).j false) s):
  ∀(fuel k:Nat) (stand:Option SetTable.Probe),stand.getD (t.probeStart (aR w n dx))=aM t k (t.probeStart (aR w n dx))→K -k<fuel→(∀k',k' <k→∃i,t.slot (aM t k' (t.probeStart (aR w n dx))).j= .live i∧iR s.heap n es dx i)→
   wpAny (model prog w) A (setSearchFrom a (.ref b) (aR w n dx) true fuel stand) R E s:=by
 have hK' :=hK
 have na:=λk=>rW (k:=k) X hx
 generalize hhe:aR w n dx=hh at*
 intro fuel
 induction fuel with
 |zero=>intro k stand _ hlt;omega
 |succ fuel ih=>
  intro k stand hst hlt past
  have hkK:k≤K:=by
   rcases GaY K k with z|z
   ·obtain⟨i,q,_⟩:=past K z
    rw[hK] at q
    cases q
   ·exact z
  unfold setSearchFrom
  refine Gab (GaM ho hd hf ?_)
  dsimp only
  have gw:t.gaveWay=false:=by
   unfold SetTable.gaveWay
   rw[X.tok.odd]
   rfl
  rw[gw]
  simp only[Gax,GaS]
  rw[hst]
  have pk:POk t (aM t k (t.probeStart hh)):=(POk.start t _).aM k
  obtain⟨met,m,_,hm,p1,p2⟩:=mO (hashAt:=storedAt es) (h:=hh) X.tok pk (qv t hh k)
  erw[hm]
  rw[←fB] at p2
  have past2:∀k',k' <k+m→∃i,t.slot (aM t k' (t.probeStart hh)).j= .live i∧iR s.heap n es dx i:=λk' hk' =>by
   rcases GaY k' k with z|z
   ·exact past k' z
   ·obtain⟨i,q,hne⟩:=p1 (k' -k) (by omega)
    rw[←fB,show k+(k' -k)=k' by omega] at q
    refine⟨i,q,λh v d he im=> ?_⟩
    cases hq:eqD d dx with
    |false=>rfl
    |true=>
     exfalso
     have ed:=tO n im hx hq
     subst ed
     obtain⟨b',d',hv,im',hh'⟩:=X.el i h v he
     have:=mN n im im'
     subst this
     apply hne
     unfold storedAt
     rw[he,←hhe,←hh']
     rfl
  rcases p2 with⟨rfl,q⟩| ⟨i,rfl,q,hi⟩
  ·dsimp only
   exact Gae (h2 _ q (λk' z=>let⟨i,q,_⟩:=past2 k' z;⟨i,q⟩) (na _ q past2))
  ·have hj:t.place[i]? =some (aM t (k+m) (t.probeStart hh)).j:=by
    rcases fT X.tok.dum (aM t (k+m) (t.probeStart hh)).j with z| ⟨i',z,hp⟩
    ·rw[q] at z;cases z
    ·rw[q] at z;cases z;exact hp
   have hlt2:i<es.size:=by
    have:=(Gbi.mp hj).1
    rw[X.tok.size] at this
    exact this
   have hes:es[i]? =some (es[i].1,es[i].2):=Gau hlt2
   obtain⟨c,d,hv,im,hh'⟩:=X.el i _ _ hes
   have hkm:k+m<K:=by
    rcases GdS (k+m) K with z|z|z
    ·exact z
    ·rw[z,hK] at q;cases q
    ·obtain⟨i',q',_⟩:=past2 K z
     rw[hK] at q';cases q'
   have sm:t.sameMemory t.moves t.mask=some true:=by
    unfold SetTable.sameMemory
    simp
   have nx:t.advance (aM t (k+m) (t.probeStart hh))=aM t (k+m+1) (t.probeStart hh):=(fC t _ _).symm
   have hseen:∀y∈((es.filter (·.1==hh)).toList.map (·.2)),∃d,Im s.heap n d y:=λy hy=>by
    obtain⟨e,he,rfl⟩:=Gay.mp hy
    have he' :e∈es:=(Array.mem_filter.mp (GdA.mp he)).1
    obtain⟨i',hi',rfl⟩:=Array.getElem_of_mem he'
    obtain⟨_,d',_,im',_⟩:=X.el i' es[i'].1 es[i'].2 (Gau hi')
    exact⟨d',im'⟩
   dsimp only
   rw[hes,nx]
   rw[hv] at im
   dsimp only
   rw[hv]
   refine Gdg (λ_=>Gab (BG hx hseen hn ?_)) (λ_=> ?_)
   all_goals
    try simp only[Gax,GaS]
    refine Gab (Gca (FU n im hx hu prog w _ _ ?_))
    refine Gab (GaM ho hd hf ?_)
    dsimp only
    cases hq:eqD d dx with
    |true=>
     simp only[Bool.and_self,Gbp]
     refine Gae (h1 ⟨i,λz=> ?_⟩)
     have:=z _ _ d hes (by rw[hv];exact im)
     rw[hq] at this
     cases this
    |false=>
     simp only[Gdo,Gax,GaS]
     rw[sm]
     simp only[Gbp]
     rw[q]
     dsimp only
     rw[hes]
     dsimp only
     rw[hv]
     refine Gab (wpAny_isSame_ref_self (Gab (Gae ?_)))
     simp only[Gbp]
     refine ih (k+m+1) _ rfl (by omega) λk' hk' => ?_
     rcases GaY k' (k+m) with z|z
     ·exact past2 k' z
     ·refine⟨i,by rw[show k' =k+m by omega];exact q,λh v d' he im' => ?_⟩
      rw[hes] at he
      cases he
      rw[hv] at im'
      have:=mN n im im'
      rw[←this]
      exact hq
end
theorem gZ{t u:SetTable}(h:t.mask=u.mask):∀(n:Nat) (p:SetTable.Probe),aM t n p=aM u n p
 |0,p=>rfl
 |n+1,p=>by
  have e:t.advance p=u.advance p:=by
   unfold SetTable.advance
   rw[h]
  show aM t n (t.advance p)=aM u n (u.advance p)
  rw[e]
  exact gZ h n _
theorem iS{t u:SetTable}(h:t.mask=u.mask)(x:Int):t.probeStart x=u.probeStart x:=by
 unfold SetTable.probeStart
 rw[h]
theorem qx{t u:SetTable}{h:Int}{j:Nat}(hm:t.mask=u.mask)(hk:∀j i,t.slot j= .live i→∃i',u.slot j= .live i')(x:A3 t h j):A3 u h j:=by
 obtain⟨k,e,b⟩:=x
 refine⟨k,by rw[←gZ hm,←iS hm];exact e,λk' hk' => ?_⟩
 obtain⟨i,q⟩:=b k' hk'
 rw[←gZ hm,←iS hm]
 exact hk _ _ q
theorem i3{α:Type}{xs:Array α}{p i:Nat}{j:α}(hp:p≤xs.size):(SetTable.insertAt xs p j)[i]? =if i<p then xs[i]? else if i=p then some j else xs[i -1]? :=by
 have e:(SetTable.insertAt xs p j)[i]? =(SetTable.insertAt xs p j).toList[i]? :=by simp
 rw[e,Gct]
 have l1:(xs.toList.take p).length=p:=by simp;omega
 by_cases c:i<p
 ·rw[Gag c,Gbm (by rw[l1];exact c),GaK c]
  simp
 ·rw[Gaf c,Gbh (by rw[l1];omega),l1]
  by_cases c2:i=p
  ·rw[Gag c2,c2,Nat.sub_self];rfl
  ·rw[Gaf c2,show i -p=(i -p -1)+1 by omega,Gdp,GaW,show p+(i -p -1)=i -1 by omega]
   simp
theorem iT{α:Type}{xs:Array α}{p:Nat}{j:α}(hp:p≤xs.size):(SetTable.insertAt xs p j).size=xs.size+1:=by
 have:(SetTable.insertAt xs p j).size=(SetTable.insertAt xs p j).toList.length:=by simp
 rw[this,Gct]
 simp
 omega
theorem rX{α:Type}{xs:Array α}{p:Nat}{j:α}:(SetTable.insertAt xs p j).toList.Perm (j::xs.toList):=by
 rw[Gct]
 refine Gdx.trans (List.Perm.cons j ?_)
 rw[GaX]
theorem BH{t:SetTable}{j:Nat}(h:t.dummies=#[]):(t.put j).1.dummies=#[]:=by
 unfold SetTable.put
 dsimp only
 rw[h]
 have:SetTable.has #[] j=false:=by
  unfold SetTable.has
  simp
 rw[this]
 rfl
theorem rY{t:SetTable}{j:Nat}(h:t.slot j= .empty):t.place[SetTable.below t.place j]? ≠some j:=by
 intro e
 unfold SetTable.slot at h
 dsimp only at h
 rw[e] at h
 simp at h
theorem Du{t:SetTable}{n j:Nat}(T:TOk t n)(hr:Ris t.place)(hj:t.slot j= .empty)(hn:n+1≤t.mask):TOk (t.put j).1 (n+1)∧Ris (t.put j).1.place∧∀j' i,t.slot j' = .live i→∃i',(t.put j).1.slot j' = .live i' :=by
 have bl:=(fA (j:=j) hr).1
 have hr' :Ris (t.put j).1.place:=rP hr (rY hj)
 refine⟨⟨T.cov,T.odd,BH T.dum, ?_,hn⟩,hr',λj' i q=> ?_⟩
 ·show(SetTable.insertAt t.place _ j).size=_
  rw[iT bl,T.size]
 ·rcases fT T.dum j' with z| ⟨i',z,hp⟩
  ·rw[q] at z;cases z
  ·have hp' :(t.put j).1.place[if i' <SetTable.below t.place j then i' else i' +1]? =some j' :=by
    show(SetTable.insertAt t.place _ j)[_]? =_
    rw[i3 bl]
    by_cases c:i' <SetTable.below t.place j
    ·rw[Gag c,Gag c];exact hp
    ·rw[Gaf c,Gaf (by omega),Gaf (by omega)]
     exact hp
   exact⟨_,oV hr' hp'⟩
section
open PySem.Spec
variable{w:World}
theorem iQ.put{g:Heap}{n:Nat}{es:Array (Int×Value)}{t:SetTable}{d:D}{b:Addr}{k:Nat}(X:iQ w g n es t)(hx:Im g n d (.ref b))(hk:t.slot (aM t k (t.probeStart (aR w n d))).j= .empty)
  (past:∀k',k' <k→∃i,t.slot (aM t k' (t.probeStart (aR w n d))).j= .live i)(hn:es.size+1≤t.mask):
  iQ w g n (SetTable.insertAt es (t.put (aM t k (t.probeStart (aR w n d))).j).2 (aR w n d,.ref b)) (t.put (aM t k (t.probeStart (aR w n d))).j).1:=by
 generalize hj:(aM t k (t.probeStart (aR w n d))).j=j at*
 have bl:=(fA (j:=j) X.ris).1
 have bl2:SetTable.below t.place j≤es.size:=by rw[←X.tok.size];exact bl
 obtain⟨T,R,keep⟩:=Du X.tok X.ris hk hn
 have e2:(t.put j).2=SetTable.below t.place j:=rfl
 rw[e2]
 have wn:A3 t (aR w n d) j:=⟨k,hj,past⟩
 refine⟨by rw[iT bl2];exact T,λi h v he=> ?_,R,λi h v j' he hp=> ?_⟩
 ·rw[i3 bl2] at he
  split at he
  ·exact X.el i h v he
  ·split at he
   ·cases he
    exact⟨b,d,rfl,hx,rfl⟩
   ·exact X.el (i -1) h v he
 ·have hp' :(SetTable.insertAt t.place (SetTable.below t.place j) j)[i]? =some j' :=hp
  rw[i3 bl] at hp'
  rw[i3 bl2] at he
  refine qx (t:=t) rfl keep ?_
  split at he
  ·rename_i c
   rw[Gag c] at hp'
   exact X.way i h v j' he hp'
  ·rename_i c
   rw[Gaf c] at hp'
   split at he
   ·rename_i c2
    rw[Gag c2] at hp'
    cases he
    cases hp'
    exact wn
   ·rename_i c2
    rw[Gaf c2] at hp'
    exact X.way (i -1) h v j' he hp'
end
noncomputable def T0(mask:Nat):SetTable:={SetTable.fresh 0 0 false with mask:=mask}
theorem jk{t:SetTable}{p:SetTable.Probe}:∀k,k≤p.more→aM t k p={p with j:=p.j+k,more:=p.more -k}
 |0,_=>rfl
 |k+1,h=>by
  rw[fC,jk k (by omega)]
  unfold SetTable.advance
  dsimp only
  rw[Gag (by omega),Nat.sub_sub,Gdw]
noncomputable def Tkn(owner:Array (Option Nat))(j:Nat):Prop:=∃m,owner[j]? =some (some m)
noncomputable def A4(mask:Nat)(owner:Array (Option Nat))(h:Int)(j:Nat):Prop:=∃k,(aM (T0 mask) k ((T0 mask).probeStart h)).j=j∧∀k',k' <k→Tkn owner (aM (T0 mask) k' ((T0 mask).probeStart h)).j
theorem uS{mask i:Nat}(h:i≤mask):i≤SetTable.runEnd mask i∧SetTable.runEnd mask i≤mask:=by
 unfold SetTable.runEnd
 split<;>omega
theorem A5{owner:Array (Option Nat)}{j:Nat}(hj:j<owner.size)(h:(owner.getD j (some 0)).isNone=false):Tkn owner j:=by
 rw[GaI,Gau hj] at h
 cases q:owner[j] with
 |none=>simp[q] at h
 |some m=>exact⟨m,by rw[Gau hj,q]⟩
theorem qy{mask:Nat}{owner:Array (Option Nat)}(hs:owner.size=mask+1):∀(fuel i p j:Nat),i≤mask→SetTable.layClean.free mask owner fuel i p=some j→
  ∃k,(aM (T0 mask) k {j:=i,more:=SetTable.runEnd mask i -i,i:=i,perturb:=p,dummy:=none}).j=j∧∀k',k' <k→Tkn owner (aM (T0 mask) k' {j:=i,more:=SetTable.runEnd mask i -i,i:=i,perturb:=p,dummy:=none}).j
 |0,i,p,j,_,e=>by cases e
 |fuel+1,i,p,j,hi,e=>by
  have re:=uS hi
  unfold SetTable.layClean.free at e
  cases q:(List.range (SetTable.runEnd mask i+1 -i)).find? λk=>(owner.getD (i+k) (some 0)).isNone with
  |some k=>
   rw[q] at e
   cases e
   have hk:k<SetTable.runEnd mask i+1 -i:=GaO.mp (List.mem_of_find?_eq_some q)
   refine⟨k, ?_,λk' hk' => ?_⟩
   ·rw[jk k (by show k≤SetTable.runEnd mask i -i;omega)]
   ·rw[jk k' (by show k' ≤SetTable.runEnd mask i -i;omega)]
    show Tkn owner (i+k')
    have:=(List.find?_range_eq_some.mp q).2.2 k' hk'
    exact A5 (by omega) (by simpa using this)
  |none=>
   rw[q] at e
   dsimp only at e
   obtain⟨k,h1,h2⟩:=qy hs fuel (SetTable.leap mask i p).1 (SetTable.leap mask i p).2 j (Gcn (GcZ _ (GcV _))) e
   have all:∀k',k' ≤SetTable.runEnd mask i -i→Tkn owner (i+k'):=λk' hk' =>by
    have:=GdN.mp q k' (GaO.mpr (by omega))
    exact A5 (by omega) (GdQ.mpr this)
   have step:aM (T0 mask) (SetTable.runEnd mask i -i+1) {j:=i,more:=SetTable.runEnd mask i -i,i:=i,perturb:=p,dummy:=none}={j:=(SetTable.leap mask i p).1,more:=SetTable.runEnd mask (SetTable.leap mask i p).1 -(SetTable.leap mask i p).1,i:=(SetTable.leap mask i p).1,perturb:=(SetTable.leap mask i p).2,dummy:=none}:=by
    rw[fC,jk (SetTable.runEnd mask i -i) (Gaq _)]
    unfold SetTable.advance
    dsimp only
    rw[Gaf (by omega)]
    rfl
   refine⟨SetTable.runEnd mask i -i+1+k, ?_,λk' hk' => ?_⟩
   ·rw[fB,step];exact h1
   ·rcases GaY k' (SetTable.runEnd mask i -i+1) with z|z
    ·rw[jk k' (by show k' ≤SetTable.runEnd mask i -i;omega)]
     exact all k' (by omega)
    ·have:=h2 (k' -(SetTable.runEnd mask i -i+1)) (by omega)
     rw[←step,←fB,show SetTable.runEnd mask i -i+1+(k' -(SetTable.runEnd mask i -i+1))=k' by omega] at this
     exact this
theorem A4.mono{mask:Nat}{ow ow' :Array (Option Nat)}{h:Int}{j:Nat}(x:A4 mask ow h j)(k:∀j,Tkn ow j→Tkn ow' j):A4 mask ow' h j:=let⟨n,e,b⟩:=x;⟨n,e,λk' hk' =>k _ (b k' hk')⟩
noncomputable def Dv(mask:Nat)(all:List Int)(owner:Array (Option Nat)):Prop:=∀(j k:Nat),owner[j]? =some (some k)→∃h,all[k]? =some h∧A4 mask owner h j
theorem qz{mask:Nat}(hc:bJ mask=true):∀(hs pre:List Int) (owner:Array (Option Nat)),Laid mask pre.length owner→Dv mask (pre++hs) owner→(pre++hs).length≤mask→∃owner',Laid mask (pre++hs).length owner' ∧Dv mask (pre++hs) owner' ∧
  hs.foldl (λacc h=>do
   let(owner,k)←acc
   let j←SetTable.layClean.free mask owner (SetTable.turns mask) (SetTable.bits h%(mask+1)) (SetTable.bits h)
   pure (owner.setIfInBounds j (some k),k+1)) (some (owner,pre.length))=some (owner',(pre++hs).length)
 |[],pre,owner,L,W,_=>by
  rw[GbH] at W⊢
  exact⟨owner,L,W,rfl⟩
 |h::hs,pre,owner,L,W,hl=>by
  have hl' :pre.length+(hs.length+1)≤mask:=by simpa using hl
  have lt:(owner.toList.filterMap id).length<owner.toList.length:=by
   have e1:owner.toList.length=mask+1:=by rw[GaE];exact L.size
   rw[L.occ.length_eq,List.length_range,e1]
   omega
  obtain⟨e,he⟩:=has_none lt
  have he' :owner[e]? =some none:=by rw[←GaP];exact he
  have hem:e≤mask:=by
   have:=(Gac.mp he).1
   rw[GaE,L.size] at this
   omega
  obtain⟨j,hj,hn⟩:=uQ (h:=h) hc he' hem
  have hn' :owner.toList[j]? =some none:=by rw[GaP];exact hn
  have hjs:j<owner.size:=(Gbi.mp hn).1
  have wj:A4 mask owner h j:=qy L.size _ _ _ j (Gcn (GcZ _ (GcV _))) hj
  have L' :Laid mask (pre++[h]).length (owner.setIfInBounds j (some pre.length)):=by
   refine⟨by simpa using L.size, ?_⟩
   rw[Gda]
   refine(tL hn').trans ?_
   rw[GaR,GcM,List.range_succ]
   exact(List.Perm.cons pre.length L.occ).trans (Gbg (l₁:=[pre.length]) (l₂:=List.range pre.length))
  have mono:∀x,Tkn owner x→Tkn (owner.setIfInBounds j (some pre.length)) x:=λx ⟨m,hm⟩=>by
   by_cases c:j=x
   ·subst c;rw[hn] at hm;cases hm
   ·exact⟨m,by rw[Gdz c];exact hm⟩
  have W' :Dv mask ((pre++[h])++hs) (owner.setIfInBounds j (some pre.length)):=by
   intro x k hx
   rw[GaA,List.singleton_append]
   by_cases c:j=x
   ·subst c
    rw[Array.getElem?_setIfInBounds_self_of_lt hjs] at hx
    cases hx
    exact⟨h,by simp,wj.mono mono⟩
   ·rw[Gdz c] at hx
    obtain⟨h',e1,e2⟩:=W x k hx
    exact⟨h',e1,e2.mono mono⟩
  obtain⟨owner',L2,W2,e2⟩:=qz hc hs (pre++[h]) _ L' W' (by simpa using hl)
  rw[GaA,List.singleton_append] at L2 W2 e2
  refine⟨owner',L2,W2, ?_⟩
  rw[GcA,←e2]
  congr 1
  show(SetTable.layClean.free mask owner (SetTable.turns mask) (SetTable.bits h%(mask+1)) (SetTable.bits h)).bind _=_
  rw[hj,GaR]
  rfl
theorem uT{mask finger moves:Nat}{led plain:Bool}{hashes:Array Int}(hc:bJ mask=true)(hl:hashes.size≤mask):∃t order,SetTable.laid mask finger moves led plain hashes=some (t,order)∧order.toList.Perm (List.range hashes.size)∧t.mask=mask∧t.place.size=hashes.size∧t.dummies=#[]∧t.plain=plain∧t.led=led∧Ris t.place∧
  ∀(i k j:Nat),order[i]? =some k→t.place[i]? =some j→∃h,hashes[k]? =some h∧A3 t h j:=by
 obtain⟨owner,L,W,e⟩:=qz hc hashes.toList [] (Array.replicate (mask+1) none) (rU mask) (λj k h=>by
  rw[Array.getElem?_replicate] at h
  split at h<;>cases h) (by simpa using hl)
 rw[List.nil_append] at L W e
 rw[GaE] at L e
 have el:SetTable.layClean mask hashes=some owner:=by
  unfold SetTable.layClean
  rw[←Array.foldl_toList]
  refine(congrArg (Option.map (λ(x:Array (Option Nat)×Nat)=>x.1)) e).trans rfl
 have r:=uR owner (mask+1) L.size.symm
 unfold SetTable.laid
 rw[el]
 refine⟨_,_,rfl, ?_,rfl, ?_,rfl,rfl,rfl,qm (g:=λj=>owner.getD j none), ?_⟩
 ·rw[List.toList_toArray]
  exact(by rw[r];exact L.occ:(((List.range (mask+1)).filterMap λj=>(owner.getD j none).map λk=>(j,k)).map (·.2)).Perm (List.range hashes.size))
 ·show(((List.range (mask+1)).filterMap λj=>(owner.getD j none).map λk=>(j,k)).map (·.1)).toArray.size=_
  rw[Gas,Gan]
  have:=congrArg List.length r
  rw[Gan] at this
  rw[this,L.occ.length_eq,List.length_range]
 ·intro i k j hk hj
  have hris:=qm (n:=mask+1) (g:=λj=>owner.getD j none)
  generalize hlv:((List.range (mask+1)).filterMap λj=>(owner.getD j none).map λk=>(j,k))=live at*
  have hk' :(live.map (·.2))[i]? =some k:=by simpa using hk
  have hj' :(live.map (·.1))[i]? =some j:=by simpa using hj
  have hmem:∀x m,(x,m)∈live↔owner[x]? =some (some m):=λx m=>by
   rw[←hlv,Gdj]
   constructor
   ·rintro⟨a,_,h2⟩
    cases q:owner.getD a none with
    |none=>rw[q] at h2;cases h2
    |some c=>
     rw[q] at h2
     cases h2
     rw[GaI] at q
     cases z:owner[x]? with
     |none=>rw[z] at q;cases q
     |some o=>rw[z] at q;rw[←q];rfl
   ·intro h
    have hx:=(Gbi.mp h).1
    refine⟨x,GaO.mpr (by rw[←L.size];exact hx), ?_⟩
    rw[GaI,h]
    rfl
  obtain⟨q,hq,rfl⟩:∃q,live[i]? =some q∧q.1=j:=by
   rw[Gav] at hj'
   exact Gah.mp hj'
  have hq2:q.2=k:=by
   rw[Gav,hq] at hk'
   exact Option.some.inj hk'
  have ho:=(hmem q.1 q.2).mp (GaJ hq)
  rw[hq2] at ho
  obtain⟨h,e1,k0,e2,b⟩:=W _ _ ho
  have am:∀u:SetTable,u.mask=mask→∀n,aM u n (u.probeStart h)=aM (T0 mask) n ((T0 mask).probeStart h):=λu hu n=>by rw[gZ (t:=u) (u:=T0 mask) hu,iS (t:=u) (u:=T0 mask) hu]
  refine⟨h,by rw[←GaP];exact e1,k0, ?_,λk' hk' => ?_⟩
  ·rw[←e2];exact congrArg (λz:SetTable.Probe=>z.j) (am {mask:=mask,place:=_,dummies:=#[],finger:=finger,led:=led,moves:=moves,plain:=plain} rfl k0)
  ·obtain⟨m,hm⟩:=b k' hk'
   obtain⟨i',hi',e'⟩:=Gcc ((hmem _ _).mpr hm)
   rw[am _ rfl]
   refine⟨i',oV hris ?_⟩
   show((live.map (·.1)).toArray)[i']? =_
   simp[hi',e']
theorem Im.mono{g g' :Heap}(hk:∀b o,g.get? b=some o→g'.get? b=some o):∀{n:Nat} {d:D} {v:Value},Im g n d v→Im g' n d v
 |_,_,_,.int n i t=> .int n i t
 |_,_,_,.str n x t=> .str n x t
 |_,_,_,.tup ho hc hd hl hi=> .tup (hk _ _ ho) hc hd hl λi d v e1 e2=>(hi i d v e1 e2).mono hk
theorem iQ.mono{w:World}{g g' :Heap}{n:Nat}{es:Array (Int×Value)}{t:SetTable}(hk:∀b o,g.get? b=some o→g'.get? b=some o)(X:iQ w g n es t):iQ w g' n es t:=⟨X.tok,λi h v e=>let⟨b,d,h1,h2,h3⟩:=X.el i h v e;⟨b,d,h1,h2.mono hk,h3⟩,X.ris,X.way⟩
theorem iQ.off{w:World}{g:Heap}{n:Nat}{es:Array (Int×Value)}{t:SetTable}(X:iQ w g n es t):iQ w g n es {t with plain:=false}:=
 ⟨⟨X.tok.cov,X.tok.odd,X.tok.dum,X.tok.size,X.tok.few⟩,X.el,X.ris,λi h v j e p=>qx (t:=t) rfl (λj i q=> ⟨i,q⟩) (X.way i h v j e p)⟩
theorem TOk.fits{t:SetTable}{n:Nat}(T:TOk t n):t.fits n=true:=by
 unfold SetTable.fits SetTable.fill
 rw[T.dum,T.size]
 have:=T.few
 simpa using this
theorem TOk.full{t:SetTable}{n:Nat}(T:TOk t n):t.tooFull=decide (n*5≥t.mask*3):=by
 unfold SetTable.tooFull SetTable.fill
 rw[T.dum,T.size]
 rfl
noncomputable def Big(m n:Nat):Prop:=m=7∧n≤4∨m=31∧n≤18∨m=127∧n≤76
structure SIx(w:World)(bt:Bool)(g0:Heap)(n:Nat)(its:List Value)(ix:List Nat)(es:Array (Int×Value))(t:SetTable):Prop where
 ok:iQ w g0 n es t
 vals:(es.toList.map (·.2)).Perm (ix.map λi=>its.getD i .none)
 big:Big t.mask es.size
 led:t.led= !bt
noncomputable def oW(w:World)(bt:Bool)(g0:Heap)(n:Nat)(its:List Value)(g:Heap)(a:Addr)(ix:List Nat):Prop:=
 ∃o es ep t,g.get? a=some o∧o.ExactSet∧o.data= .set es ep t∧SIx w bt g0 n its ix es t
theorem SIx.size{w:World}{bt:Bool}{g0:Heap}{n:Nat}{its:List Value}{ix:List Nat}{es:Array (Int×Value)}{t:SetTable}(h:SIx w bt g0 n its ix es t):es.size=ix.length:=by
 have:=h.vals.length_eq
 simpa using this
noncomputable def tP(g0:Heap)(n:Nat)(ds:List D)(its:List Value):Prop:=∀i,i<its.length→∃b,its.getD i .none= .ref b∧Im g0 n (ds.getD i .non) (.ref b)
theorem mP{α:Type}{es:Array α}{z:α}:∀{l:List Nat},(∀k∈l,k<es.size)→l.filterMap (λk=>es[k]?)=l.map λk=>es.getD k z
 |[],_=>rfl
 |k::l,h=>by
  have hk:=h k Gap
  rw[Gcu,Gau hk,GaH,mP (z:=z) λx hx=>h x (Gai _ hx)]
  simp[Array.getD,hk]
theorem rZ{α:Type}(es:Array α):(List.range es.size).filterMap (λk=>es[k]?)=es.toList:=by
 cases hs:es.toList with
 |nil=>
  have:es.size=0:=by rw[←GaE,hs];rfl
  rw[this];rfl
 |cons z _=>
  rw[←hs,mP (z:=z) λk hk=>GaO.mp hk]
  apply GcY
  ·simp
  ·intro i h1 h2
   simp at h1 h2⊢
   simp[Array.getD,h2]
section
variable{prog:Program}{w:World}{A:Around}{E:Value→Shared→Prop}{z:Shared}
theorem BI{g0:Heap}{n:Nat}{es:Array (Int×Value)}{t:SetTable}(X:iQ w g0 n es t){wanted M:Nat}(hM:SetTable.sizeAbove wanted=M+1)(hc:bJ M=true)(hodd:M%2=1)(hl:es.size≤M):
  ∃t' order,t.relaid (es.map (·.1)) wanted=some (t',order)∧(order.filterMap (es[·]?)).toList.Perm es.toList∧t'.mask=M∧t'.led=t.led∧iQ w g0 n (order.filterMap (es[·]?)) t' :=by
 unfold SetTable.relaid
 rw[hM,Nat.add_sub_cancel]
 obtain⟨t',order,e,hp,m1,m2,m3,m4,m5,m6,m7⟩:=uT (finger:=t.finger) (moves:=t.movedTo M) (led:=t.led) (plain:=t.plain) (hashes:=es.map (·.1)) hc (by simpa using hl)
 rw[Array.size_map] at hp m2
 have hlt:∀k∈order.toList,k<es.size:=λk hk=>GaO.mp (hp.mem_iff.mp hk)
 have pm:(order.filterMap (es[·]?)).toList.Perm es.toList:=by
  rw[Array.toList_filterMap]
  exact(hp.filterMap _).trans (by rw[rZ])
 have sz:(order.filterMap (es[·]?)).size=es.size:=by
  have:=pm.length_eq
  rw[GaE,GaE] at this
  exact this
 have at_:∀(i:Nat) e,(order.filterMap (es[·]?))[i]? =some e→∃k:Nat,order[i]? =some k∧es[k]? =some e:=λi e he=>by
  rw[←GaP,Array.toList_filterMap,mP (z:=(0,Value.none)) hlt,Gav] at he
  obtain⟨k,hk,rfl⟩:=Gah.mp he
  have hk2:=hlt k (GaJ hk)
  rw[GaP] at hk
  exact⟨k,hk,by rw[Gau hk2];simp[Array.getD,hk2]⟩
 refine⟨t',order,e,pm,m1,m5,⟨⟨by rw[m1];exact hc,by rw[m1];exact hodd,m3,by rw[m2,sz],by rw[sz,m1];exact hl⟩,λi h v he=> ?_,m6,λi h v j he hj=> ?_⟩⟩
 ·obtain⟨k,_,hk⟩:=at_ i _ he
  exact X.el k h v hk
 ·obtain⟨k,ho,hk⟩:=at_ i _ he
  obtain⟨h',e1,e2⟩:=m7 i k j ho hj
  rw[Array.getElem?_map,hk] at e1
  cases e1
  exact e2
theorem BJ{bt:Bool}{g0:Heap}{n:Nat}{ds:List D}{its:List Value}{a b:Addr}{ix:List Nat}{k:Nat}{R:Bool→Shared→Prop}(hS:oW w bt g0 n its z.heap a ix)(hI:tP g0 n ds its)(hold:∀b o,g0.get? b=some o→z.heap.get? b=some o)(hix:∀i∈ix,i<its.length)(hk:k<its.length)(hb:its.getD k .none= .ref b)(hroom:ix.length<76)(hn:n≤8)(hu:A.units+n<cLine)
  (h:∀r g,Heap.SameBut a z.heap g→oW w bt g0 n its g a (if ix.any (λi=>eqD (ds.getD i .non) (ds.getD k .non)) then ix else ix++[k])→R r {z with heap:=g}):
  wpAny (model prog w) A (setAddHashed a (.ref b) (aR w n (ds.getD k .non))) R E z:=by
 obtain⟨o,es,ep,t,ho,hex,hd,hE⟩:=hS
 obtain⟨b',hb',im0⟩:=hI k hk
 rw[hb] at hb'
 cases hb'
 generalize hdx:ds.getD k .non=dx at*
 have im:Im z.heap n dx (.ref b):=im0.mono hold
 have X:=hE.ok.mono hold
 have hf:=X.tok.fits
 have bg:=hE.big
 have sz:=hE.size
 obtain⟨K,hKl,hK,_⟩:=A2 X.tok (aR w n dx)
 have hsl:sizeLine=16777216:=Gbw
 have hm127:t.mask≤127:=by rcases bg with q|q|q<;>omega
 unfold setAddHashed setAddHashedIn
 refine Gca (Gab (GaM ho hd hf ?_))
 dsimp only
 rw[Gaf (by show¬(byScan (.ref b) es=true);unfold byScan;simp[Value.scannable])]
 unfold setSearch
 refine Gab (qw ho hd hf X im hn hu hK ?_ ?_ 100000 0 none rfl ?_ ?_)
 ·rintro⟨i,hun⟩
  dsimp only
  have hany:ix.any (λi=>eqD (ds.getD i .non) dx)=true:=by
   simp only[iR,Classical.not_forall] at hun
   obtain⟨hh,v,d,e1,e2,e3⟩:=hun
   have hv:v∈es.toList.map (·.2):=Gay.mpr ⟨(hh,v),by rw[GdA];exact Array.mem_of_getElem? e1,rfl⟩
   obtain⟨i',hi',rfl⟩:=Gay.mp (hE.vals.mem_iff.mp hv)
   obtain⟨b2,eb2,im2⟩:=hI i' (hix i' hi')
   rw[eb2] at e2
   have:=mN n e2 (im2.mono hold)
   subst this
   exact Gcg.mpr ⟨i',hi',by simpa using e3⟩
  rw[Gag hany] at h
  refine Gae ?_
  have e:z={z with heap:=z.heap}:=by cases z;rfl
  rw[e]
  exact h _ z.heap (Heap.SameBut.refl a z.heap) ⟨o,es,ep,t,ho,hex,hd,hE⟩
 ·intro k0 hk0 past un
  dsimp only
  have hany:ix.any (λi=>eqD (ds.getD i .non) dx)=false:=by
   rw[GdP]
   intro i hi hq
   obtain⟨b2,eb2,im2⟩:=hI i (hix i hi)
   have hv:its.getD i .none∈es.toList.map (·.2):=hE.vals.mem_iff.mpr (Gay.mpr ⟨i,hi,rfl⟩)
   obtain⟨e,he,hev⟩:=Gay.mp hv
   obtain⟨j,hj,rfl⟩:=Gcc he
   rw[Array.getElem_toList] at hev
   have hj' :j<es.size:=by simpa using hj
   have:=un j es[j].1 es[j].2 (ds.getD i .non) (Gau hj') (by rw[hev,eb2];exact im2.mono hold)
   rw[this] at hq
   cases hq
  rw[hany,Gaf Gaz] at h
  have hn1:es.size+1≤t.mask:=by rcases bg with q|q|q<;>omega
  have X1:=hE.ok.put im0 hk0 past hn1
  have bl:(t.put (aM t k0 (t.probeStart (aR w n dx))).j).2≤es.size:=by
   have:=(fA (j:=(aM t k0 (t.probeStart (aR w n dx))).j) X.ris).1
   rw[X.tok.size] at this
   exact this
  have ml:(t.put (aM t k0 (t.probeStart (aR w n dx))).j).1.mask=t.mask:=rfl
  have ll:(t.put (aM t k0 (t.probeStart (aR w n dx))).j).1.led=t.led:=rfl
  refine Gab (GaM ho hd hf ?_)
  dsimp only
  generalize t.put (aM t k0 (t.probeStart (aR w n dx))).j=tp at*
  obtain⟨t1,p⟩:=tp
  dsimp only at*
  generalize hes1:SetTable.insertAt es p (aR w n dx,Value.ref b)=es1 at*
  have sz1:es1.size=es.size+1:=by rw[←hes1];exact iT bl
  have pv:(es1.toList.map (·.2)).Perm ((ix++[k]).map λi=>its.getD i .none):=by
   rw[←hes1]
   refine(rX.map _).trans ?_
   rw[GaH,GcB,List.map_singleton,hb]
   exact(List.Perm.cons _ hE.vals).trans (Gbg (l₁:=[Value.ref b]))
  have s0:SAt z.heap a es t:=⟨o,ep,ho,hex,hd⟩
  have fin:∀u:SetTable,iQ w g0 n es1 u→u.mask=t.mask→u.led=t.led→wpAny (model prog w) A (do
    storeSet a es1 u
    if(!false&&u.tooFull)=true then do
      setRelay a (SetTable.grown (es.size+1))
      pure true
     else pure true) R E z:=by
   intro u U hum hul
   refine Gab (tH s0 (by omega) λg ⟨s1,sb1⟩=> ?_)
   rw[Bool.not_false,Bool.true_and,U.tok.full,sz1,hum]
   refine Gdg (λc=> ?_) (λc=> ?_)
   ·have c' :=GaG c
    obtain⟨M,hM,hc,hodd,hlM,hbM⟩:∃M,SetTable.sizeAbove (SetTable.grown (es.size+1))=M+1∧bJ M=true∧M%2=1∧es.size+1≤M∧Big M (es.size+1):=by
     rcases bg with⟨q1,q2⟩| ⟨q1,q2⟩| ⟨q1,q2⟩
     ·have:es.size=4:=by omega
      rw[this]
      exact⟨31,by decide,FT,rfl,by omega,.inr (.inl ⟨rfl,by omega⟩)⟩
     ·have:es.size=18:=by omega
      rw[this]
      exact⟨127,by decide,Ds,rfl,by omega,.inr (.inr ⟨rfl,by omega⟩)⟩
     ·omega
    obtain⟨t',order,e1,pm,m1,m5,X'⟩:=BI U hM hc hodd (by omega)
    have sz2:(order.filterMap (es1[·]?)).size=es1.size:=by
     have:=pm.length_eq
     rw[GaE,GaE] at this
     exact this
    have hM127:M≤127:=by rcases hbM with q|q|q<;>omega
    obtain⟨o1,ep1,g1,g2,g3⟩:=id s1
    refine Gab (Gab (GaM (s:={z with heap:=g}) g1 g3 U.tok.fits (GbX (by rw[hM];simp;omega) ?_)))
    rw[e1]
    refine Gab (GbX (by rw[sz2];simp) (Gae (tH (z:={z with heap:=g}) s1 (by rw[sz2];omega) λg' ⟨⟨o2,ep2,r1,r2,r3⟩,sb2⟩=>Gae (h _ _ (sb1.trans sb2) ⟨o2,_,ep2,_,r1,r2,r3,X',(pm.map _).trans pv, ?_, ?_⟩))))
    ·rw[m1,sz2,sz1];exact hbM
    ·rw[m5,hul];exact hE.led
   ·have c' :¬(es.size+1)*5≥t.mask*3:=λq=>c (GaB q)
    obtain⟨o1,ep1,g1,g2,g3⟩:=s1
    refine Gae (h _ _ sb1 ⟨o1,_,ep1,_,g1,g2,g3,U,pv, ?_,by rw[hul];exact hE.led⟩)
    rw[hum,sz1]
    rcases bg with⟨q1,q2⟩| ⟨q1,q2⟩| ⟨q1,q2⟩
    ·exact .inl ⟨q1,by omega⟩
    ·exact .inr (.inl ⟨q1,by omega⟩)
    ·exact .inr (.inr ⟨q1,by omega⟩)
  refine Gdg (λ_=>Gab (A0 n im hn λbv=> ?_)) (λ_=>Gab (Gae ?_))
  ·cases bv with
   |true=>
    simp only[Gbp]
    exact fin t1 X1 ml ll
   |false=>
    simp only[Gax,GaS]
    exact fin _ X1.off ml ll
  ·simp only[Gbp]
   exact fin t1 X1 ml ll
 ·have:SetTable.turns t.mask=t.mask+15:=rfl
  omega
 ·intro k' hk'
  omega
end
noncomputable def fU(ds:List D):Nat→List Nat
 |0=>[]
 |i+1=>if(fU ds i).any (λj=>eqD (ds.getD j .non) (ds.getD i .non)) then fU ds i else fU ds i++[i]
theorem kY(ds:List D):∀i,∀j∈fU ds i,j<i
 |0,j,h=>by cases h
 |i+1,j,h=>by
  unfold fU at h
  split at h
  ·exact GbZ (kY ds i j h)
  ·rcases GaL.mp h with q|q
   ·exact GbZ (kY ds i j q)
   ·rw[GaV.mp q];exact Gcf _
theorem jl(ds:List D):∀i,(fU ds i).length≤i
 |0=>Gaq _
 |i+1=>by
  have:=jl ds i
  unfold fU
  split
  ·omega
  ·rw[GaR,GcM];omega
theorem qA(ds:List D):∀i,i≤ds.length→(fU ds i).map (λj=>ds.getD j .non)=lF (ds.take i)
 |0,_=>rfl
 |i+1,h=>by
  have ih:=qA ds i (by omega)
  have hi:i<ds.length:=by omega
  have e:ds.getD i .non=ds[i]:=by simp[hi]
  have step:lF (ds.take (i+1))=pQ (lF (ds.take i)) ds[i]:=by
   unfold lF
   rw[←List.take_append_getElem hi,List.foldl_append]
   rfl
  rw[step,←ih]
  have e0:fU ds (i+1)=if(fU ds i).any (λj=>eqD (ds.getD j .non) (ds.getD i .non)) then fU ds i else fU ds i++[i]:=rfl
  rw[e0]
  unfold pQ
  rw[List.any_map]
  show List.map _ (if(fU ds i).any (λj=>eqD (ds.getD j .non) (ds.getD i .non)) then _ else _)=if(fU ds i).any (λj=>eqD (ds.getD j .non) ds[i]) then _ else _
  rw[e]
  split
  ·rfl
  ·rw[GcB,List.map_singleton,e]
section
variable{prog:Program}{w:World}{A:Around}{R:Result→Shared→Prop}{I:Addr}{fp wr:List Addr}{G:Array GenState→Array GenState→Prop}{n:Nat}{P:Nat→Value→Prop}{St:Nat→Shared→Prop}
theorem oW.at{bt:Bool}{g0 g g' :Heap}{n:Nat}{its:List Value}{a:Addr}{ix:List Nat}(h:oW w bt g0 n its g a ix)(e:∀o,g.get? a=some o→g'.get? a=some o):oW w bt g0 n its g' a ix:=let⟨o,es,ep,t,ho,r⟩:=h;⟨o,es,ep,t,e o ho,r⟩
theorem uU{bt:Bool}{g0:Heap}{m:Nat}{ds:List D}{its:List Value}(W:WalksS prog w A.in1 I fp wr G n P St)(S:Addr)(hSf:S∉fp)(hI:tP g0 m ds its)(hns:its.length=n)(hval:∀i v,P i v→its[i]? =some v)(hb:n<76)(hm:m≤8)(hu:A.units+1+m<cLine)
  (hS0:g0.get? S=none)(hwr:∀b∈wr,g0.get? b=none):
  ∀(k i:Nat) (z:Shared),n -i=k→i≤n→St i z→(∀b o,g0.get? b=some o→z.heap.get? b=some o)→oW w bt g0 m its z.heap S (fU ds i)→
   (∀y,Moved (S::wr) G z y→oW w bt g0 m its y.heap S (fU ds n)→R (.ok (.ret .none)) y)→codeAny (model prog w) A (.builtin "set.update.loop" ⟨[.ref S,.ref I],[]⟩) R z:=by
 have out:S∉wr:=λh=>hSf (W.sub _ h)
 intro k i z hk hi st old hS hR
 refine nM (n:=n) (λi y=>St i y∧Moved (S::wr) G z y∧(∀b o,g0.get? b=some o→y.heap.get? b=some o)∧oW w bt g0 m its y.heap S (fU ds i)) ?_ ?_ k i z (by omega) ⟨st,Moved.refl W.grefl,old,hS⟩
 ·rintro i y Q E lt ⟨st,mv,old,hS⟩ up
  refine W.item i y Q E lt st λv y' hP st' mv' => ?_
  have li:i<its.length:=by omega
  have gv:its.getD i .none=v:=by rw[Gdc,hval i v hP];rfl
  obtain⟨b,hb',im⟩:=hI i li
  cases gv.symm.trans hb'
  have old' :∀b o,g0.get? b=some o→y'.heap.get? b=some o:=λb o e=>mv'.heap b o (λq=>by rw[hwr b q] at e;cases e) (old b o e)
  refine up _ _ λQ' E' q=>Gca (Gab (tM (s:=y') (im.mono old') (show A.units+1+m<cLine from hu) y'.toks _ _ λtk le=>BJ (z:={y' with toks:=tk}) (hS.at λo=>mv'.heap S o out) hI old' (λj hj=>Gdk (kY ds i j hj) li) li gv (by have:=jl ds i;omega) hm (show A.units+1+m<cLine from hu) λr g sb hS2=>q r _ ⟨?_, ?_,λb o e=> ?_,hS2⟩))
  ·exact W.frame _ y' g tk st' le λb q o e=>sb.extBut b o (λe=>hSf (e▸q)) e
  ·exact(mv.trans W.gtrans (mv'.mono λ_=> .tail _)).trans W.gtrans ⟨λb o nb e=>sb.extBut b o (λe=>nb (e▸.head _)) e,W.grefl _,rfl,rfl,le⟩
  ·exact sb.extBut b o (λq=>by rw[q,hS0] at e;cases e) (old' b o e)
 ·rintro y Q E ⟨st,mv,old,hS⟩ fin
  exact W.done y Q E st λy' mv' =>fin y' (hR y' (mv.trans W.gtrans (mv'.mono λ_=> .tail _)) (hS.at λo=>mv'.heap S o out))
end
section
variable{prog:Program}{w:World}{A:Around}{E:Value→Shared→Prop}{z:Shared}
theorem uV(b:Bool):TOk (.fresh 0 0 b) 0:=⟨by show bJ 7=true;decide,by show(7:Nat)%2=1;decide,rfl,rfl,GaT _⟩
theorem uW{g0:Heap}{m:Nat}{its:List Value}{bt:Bool}:SIx w bt g0 m its [] #[] (.fresh 0 0 (!bt)):=
 ⟨⟨uV _,λi h v e=>by simp at e,λi j _ x y hx _=>by simp[SetTable.fresh] at hx,λi h v j e _=>by simp at e⟩,List.Perm.nil,.inl ⟨rfl,by decide⟩,rfl⟩
theorem tQ{g:Heap}{b:Addr}(h:g.objs.size≤b):g.get? b=none:=by
 cases e:g.get? b with
 |none=>rfl
 |some o=>exact absurd (Gam e) (Nat.not_lt.mpr h)
theorem uX{l:Addr}{its:List Value}{m:Nat}{ds:List D}{R:Value→Shared→Prop}(hh:A.handled=none)(hl:z.heap.IsList l its.toArray)(hI:tP z.heap m ds its)(hb:its.length<76)(hm8:m≤8)(hu:A.units+3+m<cLine)
  (h:∀(g:Heap) (tk:Nat),oW w (gI w) z.heap m its g z.heap.objs.size (fU ds its.length)→(∀b o,b<z.heap.objs.size→z.heap.get? b=some o→g.get? b=some o)→R (.ref z.heap.objs.size) {z with heap:=g,toks:=tk}):
  wpAny (model prog w) A (call (.type "set") [.ref l]) R E z:=by
 have ll:l<z.heap.objs.size:=let⟨_,q,_⟩:=hl;Gam q
 refine Dr hl λh1 eS it k=>uU (bt:=gI w) (g0:=z.heap) (A:=A.in1.in1) (Walks.list (by simp[hh]) (z.heap.objs.size+1) l (GaC (GbZ ll)) its.toArray).toS z.heap.objs.size (by simp[Gbj ll]) hI (by simp) (λi v hv=>by simpa using hv) (by simpa using hb) hm8 (show A.units+2+1+m<cLine from hu) (tQ (Gaq _)) (λb q=>by rw[GaV.mp q];exact tQ (GcD _))
  its.toArray.size 0 _ (Nat.sub_zero _) (GaT _) ⟨it,let⟨o,q,r⟩:=hl;⟨o,k l o q,r⟩⟩ k ⟨_,#[],0,_,eS,⟨rfl,rfl,rfl⟩,rfl,uW⟩ λy mv hS=> ?_
 rw[Moved.eq_with mv]
 exact h y.heap y.toks (by simpa using hS) λb o lt q=>mv.heap b o (by simp[GaC lt,GaC (GbZ lt)]) (k b o q)
end
theorem nT{α β:Type}{f:α→β}:∀{ys:List β} {xs:List α},ys.Perm (xs.map f)→∃zs:List α,zs.Perm xs∧ys=zs.map f
 |[],xs,h=>by
  have:=h.length_eq
  have hx:xs=[]:=Gcb (by simpa using this.symm)
  subst hx
  exact⟨[],.nil,rfl⟩
 |y::ys,xs,h=>by
  obtain⟨x,hx,rfl⟩:=Gay.mp (h.mem_iff.mp Gap)
  obtain⟨s,t,rfl⟩:=List.append_of_mem hx
  have e:(f x::ys).Perm (f x::(s++t).map f):=h.trans ((Gdx (a:=x) (l₁:=s) (l₂:=t)).map f)
  obtain⟨zs,h1,h2⟩:=nT e.cons_inv
  exact⟨x::zs,(h1.cons x).trans Gdx.symm,by rw[h2];rfl⟩
theorem qB{ds es:List D}(h:es.Perm ds)(k:cH ds=true):cH es=true:=by
 unfold cH at*
 have e1:es.all cR=ds.all cR:=h.all_eq
 have e2:∀p:D→Bool,(es.map iE).all p=(ds.map iE).all p:=λp=>(h.map iE).all_eq
 have e3:pP (es.map cdN)=pP (ds.map cdN):=by
  rw[Gdf,dE,dE]
  exact(h.map cdN).nodup_iff
 simp only[e1,e2,e3]
 exact k
section
variable{prog:Program}{w:World}{A:Around}{E:Value→Shared→Prop}{z:Shared}
theorem qC{a:Addr}{es:Array (Int×Value)}{ep:Nat}{t:SetTable}{Q:Value→Shared→Prop}(hh:A.handled=none)(hm:iP z.heap a es ep t)(hf:t.fits es.size=true)(hT:Tb (gI w) t)(h64:es.size<64)
  (h:∀ws:List Value,ws.Perm (es.toList.map (·.2))→∃cs,(∀(G:Heap) tk d,(∀b o,z.heap.get? b=some o→G.get? b=some o)→∀A' :Around,A'.units=A.units+2→jd prog w A' E {z with heap:=G,toks:=tk,drawn:=d} cs ws)∧
   ∀l h' tk d c (p:Array Nat),Ord ws.length p→Up (rank cs) p ws.length→z.heap.objs.size≤l→(∀b o,z.heap.get? b=some o→h'.get? b=some o)→h'.get? l=some (seqObj "list" (p.toList.map λi=>ws.getD i Value.none).toArray c)→Q (.ref l) {z with heap:=h',toks:=tk,drawn:=d}):
  wpAny (model prog w) A (call (.builtin "sorted") [.ref a]) Q E z:=by
 have hsl:sizeLine=16777216:=Gbw
 refine Gdh kind_sorted plain_sorted entry_sorted (args_sorted1 _) ?_
 unfold Builtin.«sorted»
 refine Gab (m:=checkCount "sorted" 1 1 _) (Gae (Gab (qp (A:=A.in1) hh hm hf hT (by omega) λh' tk d xs hlt hk hp=> ?_)))
 obtain⟨cs,hK,h⟩:=h (xs.map (·.2)) (hp.map _)
 have hxl:(xs.map (·.2)).length=es.size:=by rw[Gan,hp.length_eq];simp
 generalize xs.map (·.2)=ws at*
 refine Gab (Gdv ?_ (by omega))
 have hoL:(h'.push (seqObj "list" ws.toArray 0)).get? h'.objs.size=some (seqObj "list" ws.toArray 0):=Gaw _ rfl
 have keep:∀b o,z.heap.get? b=some o→(h'.push (seqObj "list" ws.toArray 0)).get? b=some o:=λb o e=>Gad _ (hk b o e)
 have zle:z.heap.objs.size≤h'.objs.size:=Gcq hlt
 refine Gab (Gca (Gba slot_list_sort ⟨_,hoL,rfl⟩ entry_list_sort (n5 (cs:=cs) (s:={z with heap:=h'.push (seqObj "list" ws.toArray 0),toks:=tk,drawn:=d}) hoL (by omega) (λG hG=>hK G tk d (λb o e=>hG b o (GaC (GaF (Gam e) zle)) (keep b o e)) _ rfl) λp h1 h2=> ⟨_,rfl, ?_⟩) (args_list_sort _)))
 obtain⟨c,hat⟩:=sortedHeap_at (h:=h'.push (seqObj "list" ws.toArray 0)) (a:=h'.objs.size) (vs:=ws) (n:=0) (out:=List.toArray (p.toList.map λi=>ws.getD i Value.none)) hoL
 refine Gae ⟨_,rfl,h h'.objs.size _ tk d c p h1 h2 zle (λb o e=> ?_) hat⟩
 have hb:=Gam (hk b o e)
 exact(sortedHeap_old (GaC hb) (Gdk hb (by rw[size_push'];exact Gcf _))).trans (keep b o e)
end
section
variable{X:Cx}{e a b c:Expr}{f g h:DE}{pos:Pos}{pins:List (Addr×Obj)}{σ:St}{H:Hp}{s:Shared}{F:Addr→Prop}
theorem kZ:∀{ys:List V} {us:List Value},Vals ys us→∀(i:Nat) y u,ys[i]? =some y→us[i]? =some u→RelV y u
 |_,_,.nil,i,y,u,e,_=>by simp at e
 |_,_,.cons h t,0,y,u,e1,e2=>by cases e1;cases e2;exact h
 |_,_,.cons h t,i+1,y,u,e1,e2=>kZ t i y u (by simpa using e1) (by simpa using e2)
theorem Dw(I:Inv X pins σ H s):∀(n:Nat) {d:D} {v:V} {u:Value},imN n d=true→Rep X.K F H d v→RelV v u→Im s.heap n d u:=by
 intro n
 induction n with
 |zero=>
  intro d v u hd r ru
  cases r with
  |int i=>obtain⟨t,rfl⟩:=ru;exact .int _ _ _
  |str x=>obtain⟨t,rfl⟩:=ru;exact .str _ _ _
  |_=>simp[imN] at hd
 |succ n ih=>
  intro d v u hd r ru
  cases r with
  |int i=>obtain⟨t,rfl⟩:=ru;exact .int _ _ _
  |str x=>obtain⟨t,rfl⟩:=ru;exact .str _ _ _
  | @tup a vs ds hH hl hr=>
   cases ru
   obtain⟨its,rvs,⟨o,h1,h2,m,h3⟩,_⟩:=I.tuple (SqT.of hH)
   refine .tup h1 h2 h3 ?_ λi d v e1 e2=> ?_
   ·rw[hl,rvs.length]
   ·have hi:i<vs.length:=by
     rw[←hl];exact(Gac.mp e1).1
    have hd' :imN n d=true:=Gao.mp hd d (GaJ e1)
    exact ih hd' (hr i d vs[i] e1 (Gaa hi)) (kZ rvs i _ _ (Gaa hi) (by simpa using e2))
  |_=>simp[imN] at hd
noncomputable def A6(X:Cx)(v:Addr)(ds:List D)(vs:List V):HO:= .ext λh=>∃its o es ep t,Vals vs its∧h.get? v=some o∧o.ExactSet∧o.data= .set es ep t∧t.fits es.size=true∧Tb (gI X.w) t∧(es.toList.map (·.2)).Perm ((fU ds ds.length).map λi=>its.getD i .none)
noncomputable def FV(X:Cx):List V→Hp→VK→Prop:=λxs H Q=>∃(p:Addr) (ds:List D) (vs:List V) (F:Addr→Prop),xs=[.ref p]∧SqL X.K H p vs∧aq X.K F H ds vs∧ds.length<64∧(ds.all λd=>cR d&&imN 4 d)=true∧∀v,H v=none→Q (.ref v) (upd H v (A6 X v ds vs))
theorem se(hc:X.calm=true)(hu:X.A.units+20<cLine):cP X (.type "set") (FV X):=by
 intro pins s σ H xs us Q I rv h
 obtain⟨p,ds,vs,F,rfl,hq,hr,hl,hok,q⟩:=h
 obtain⟨u,rfl,ru⟩:=rv.one
 cases ru
 obtain⟨its,rvs,pl,_⟩:=I.list hq
 have hle:its.length=ds.length:=by rw[←rvs.length,hr.1]
 have hI:tP s.heap 4 ds its:=λi hi=>by
  have hd:i<ds.length:=by omega
  have hv:i<vs.length:=by rw[←hr.1];exact hd
  have ok:=Gao.mp hok ds[i] (GaN hd)
  rw[Gal] at ok
  have im:=Dw I 4 ok.2 (hr.2 i _ _ (Gaa hd) (Gaa hv)) (kZ rvs i _ _ (Gaa hv) (Gaa hi))
  have e1:its.getD i .none=its[i]:=by simp[hi]
  have e2:ds.getD i .non=ds[i]:=by simp[hd]
  rw[e1,e2]
  generalize ds[i]=d at*
  generalize its[i]=u at*
  cases im with
  |tup ho hc hd hl hi=>exact⟨_,rfl,.tup ho hc hd hl hi⟩
  |_=>simp[cR] at ok
 refine uX (m:=4) (ds:=ds) (I.ok.hd hc) pl.isList hI (by omega) (by decide) (by omega) λg tk hS hk=> ?_
 obtain⟨o,es,ep,t,ho,hex,hd,hE⟩:=hS
 refine⟨.ref s.heap.objs.size,_,I.laid (a:=s.heap.objs.size) (o:=A6 X s.heap.objs.size ds vs) (t' :=tk) (λb o e=>hk b o (Gam e) e) (Gaq _) ?_,rfl,q _ I.fresh⟩
 exact⟨⟨its,o,es,ep,t,rvs,ho,hex,hd,hE.ok.tok.fits,⟨hE.led,λ_=>hE.ok.ris⟩,by rw[←hle];exact hE.vals⟩,⟨o,ho⟩,λh1 h2 ⟨its,o,es,ep,t,r1,ho,r⟩ k=> ⟨its,o,es,ep,t,r1,k o ho,r⟩⟩
noncomputable def uY(X:Cx):List V→Hp→VK→Prop:=λxs H Q=>∃(v:Addr) (ds:List D) (vs:List V) (F:Addr→Prop),xs=[.ref v]∧H v=some (A6 X v ds vs)∧aq X.K F H ds vs∧ds.length<64∧cH (lF ds)=true∧
 ∀l out,H l=none→(∀F',aq X.K F' H ds vs→aq X.K F' H (gc cdN (lF ds)) out)→Q (.ref l) (upd H l (.lst out))
theorem nU{K:aa}{F:Addr→Prop}{H:Hp}{ds:List D}{vs:List V}(r:aq K F H ds vs):∀(jx:List Nat),(∀i∈jx,i<ds.length)→aq K F H (jx.map λi=>ds.getD i .non) (jx.map λi=>vs.getD i .non)
 |[],_=> .nil
 |i::jx,h=>by
  have hi:=h i Gap
  have hv:i<vs.length:=by rw[←r.1];exact hi
  refine .cons ?_ (nU r jx λj hj=>h j (Gai _ hj))
  have e1:ds.getD i .non=ds[i]:=by simp[hi]
  have e2:vs.getD i .non=vs[i]:=by simp[hv]
  show Rep K F H (ds.getD i .non) (vs.getD i .non)
  rw[e1,e2]
  exact r.2 i _ _ (Gaa hi) (Gaa hv)
theorem nV{vs:List V}{us:List Value}(r:Vals vs us):∀(jx:List Nat),(∀i∈jx,i<vs.length)→Vals (jx.map λi=>vs.getD i .non) (jx.map λi=>us.getD i .none)
 |[],_=> .nil
 |i::jx,h=>by
  have hi:=h i Gap
  have hv:i<us.length:=by rw[←r.length];exact hi
  refine .cons ?_ (nV r jx λj hj=>h j (Gai _ hj))
  have e1:vs.getD i .non=vs[i]:=by simp[hi]
  have e2:us.getD i .none=us[i]:=by simp[hv]
  show RelV (vs.getD i .non) (us.getD i .none)
  rw[e1,e2]
  exact kZ r i _ _ (Gaa hi) (Gaa hv)
theorem n8(hc:X.calm=true)(hu:X.A.units+20<cLine):cP X (.builtin "sorted") (uY X):=by
 intro pins s σ H xs us Q I rv h
 obtain⟨v,ds,vs,F,rfl,hv,hr,h64,hok,q⟩:=h
 obtain⟨u,rfl,ru⟩:=rv.one
 cases ru
 obtain⟨⟨its,o,es,ep,t,rvs,ho,hex,hd,hf,hT,hpm⟩,_,_⟩:=I.hok v _ hv
 have hvl:vs.length=ds.length:=hr.1.symm
 have hes:es.size≤ds.length:=by
  have e:=hpm.length_eq
  have:=jl ds ds.length
  simp at e
  omega
 refine qC (I.ok.hd hc) ⟨o,ho,hex,hd⟩ hf hT (by omega) λws hws=> ?_
 obtain⟨jx,hj1,hj2⟩:=nT (hws.trans hpm)
 have hjl:∀i∈jx,i<ds.length:=λi hi=>kY ds ds.length i (hj1.mem_iff.mp hi)
 have hjn:jx.length≤ds.length:=by rw[hj1.length_eq];exact jl ds ds.length
 have R' :∀F',aq X.K F' H ds vs→aq X.K F' H (jx.map λi=>ds.getD i .non) (jx.map λi=>vs.getD i .non):=λF' r=>nU r jx hjl
 have V' :=nV rvs jx λi hi=>by rw[hvl];exact hjl i hi
 rw[←hj2] at V'
 have hp' :(jx.map λi=>ds.getD i D.non).Perm (lF ds):=by
  have:=qA ds ds.length (Gaq _)
  rw[List.take_length] at this
  rw[←this]
  exact hj1.map _
 have hok' :=qB hp' hok
 have hln:(jx.map λi=>ds.getD i D.non).length=jx.length:=Gan _
 have hlw:ws.length=jx.length:=by rw[hj2];exact Gan _
 have hly:(jx.map λi=>vs.getD i V.non).length=jx.length:=Gan _
 generalize (jx.map λi=>ds.getD i D.non)=ds' at*
 generalize (jx.map λi=>vs.getD i V.non)=ys' at*
 refine⟨ds'.map cdN,λG tk d hG A' hA=>ma ((I.kept (h' :=G) (t' :=tk) hG).draw d) (by omega) (R' F hr) V' hok',λl h' tk d c p h1 h2 hl hk hat=> ?_⟩
 have h1' :Ord ds'.length p:=by rw[hln,←hlw];exact h1
 have h2' :Up (rank (ds'.map cdN)) p ds'.length:=by rw[hln,←hlw];exact h2
 have nod:(ds'.map cdN).Nodup:=by
  unfold cH at hok'
  rw[Gal] at hok'
  exact dE.mp hok'.2
 have uniq:(p.toList.map λi=>ds'.getD i .non)=gc cdN (lF ds):=dD ((cI h1').trans (hp'.trans (iF _).symm)) (ku h1' h2') (df _) λa ha b hb=>fP nod a ((cI h1').mem_iff.mp ha) b ((cI h1').mem_iff.mp hb)
 have h1v:Ord ys'.length p:=by rw[hly,←hln];exact h1'
 have fresh:H l=none:=I.hok.fresh hl
 have hsl:sizeLine=16777216:=Gbw
 refine⟨.ref l,_,(I.laid (a:=l) (o:= .lst (p.toList.map λi=>ys'.getD i .non)) (t' :=tk) hk hl ?_).draw d,rfl,q _ _ fresh λF' r=> ?_⟩
 ·refine⟨?_,_,c,lW h1v V',hat⟩
  rw[Gan,GaE,h1v.size]
  omega
 ·rw[←uniq]
  exact lV h1' (R' F' r)
theorem qD{p p2 cpos:Pos}(hc:X.calm=true)(hu:X.A.units+20<cLine)(hg:Gl X "sorted")(hm:X.mg "sorted"=none)(hg2:Gl X "set")(hm2:X.mg "set"=none)(he:PEd X e f)
  (hs1:starEach [e] X.env=[(false,eval e X.env)]:=by rfl)
  (hs2:starEach [.Call (.Name "set" p2) [e] [] cpos] X.env=[(false,eval (.Call (.Name "set" p2) [e] [] cpos) X.env)]:=by rfl):
  PEd X (.Call (.Name "sorted" p) [.Call (.Name "set" p2) [e] [] cpos] [] pos) (dF f):=by
 refine(lz (n8 hc hu) hg hm rfl (dS (jB (se hc hu) hg2 hm2 rfl (dS he jA hs1) (by decide) (by decide) hs1 rfl) jA hs2) (by decide) (by decide) hs2 rfl).aC ?_
 rintro σ H Q ⟨H₀,Bad,env,rv,E,e,k⟩
 obtain⟨r,hr,e⟩:=bind_some e
 split at e
 ·rename_i ds hd
  split at e
  ·rename_i hok
   cases e
   unfold setOk at hok
   rw[Gal,Gal] at hok
   obtain⟨⟨o1,o2⟩,o3⟩:=hok
   refine⟨H₀,Bad,env,r,E,hr,λv H1 s1 R1=> ?_⟩
   have i:=R1.inn
   rw[hd] at i
   cases i with
   | @lst a vs _ hq rk=>
    refine⟨a,ds,vs,_,rfl,.inl hq,rk,GaG o1,o2,λv hv=> ⟨v,ds,vs,_,rfl,av,rk.gen (.of_same (aX hv)) λ_ f _=>f,GaG o1,o3,λl out hl hout=> ?_⟩⟩
    have hl1:H1 l=none:=by
     by_cases z:l=v
     ·subst z;exact hv
     ·rw[ay z] at hl;exact hl
    exact k _ _ (s1.trans ((aX hv).trans (aX hl))) ⟨l,rfl,s1.free hl1,⟨_,av,trivial⟩,rfl,cj hl (hout _ (rk.gen (.of_same (aX hv)) λ_ f _=>f))⟩
  ·cases e
 ·cases e
end
section
variable{K:aa}{H₀ H:Hp}{Bad:Addr→Prop}{env:Env}{σ:St}{d:D}{i:Nat}
theorem jY{j:Nat}(he:env[i]? =some (some (.own d))):(env.set i (some (.sh d)))[j]? =if j=i then some (some (.sh d)) else env[j]? :=by
 have hi:=(Gac.mp he).1
 rw[List.getElem?_set]
 by_cases z:i=j
 ·subst z;simp[hi]
 ·rw[Gaf z,Gaf (λe=>z e.symm)]
theorem fV{j:Nat}(he:env[i]? =some (some (.own d)))(h:aZ (env.set i (some (.sh d)))[j]?):j≠i∧aZ env[j]? :=by
 rw[jY he] at h
 by_cases z:j=i
 ·rw[Gag z] at h;exact h.elim
 ·rw[Gaf z] at h;exact⟨z,h⟩
theorem ak.rel(E:ak K H₀ Bad env σ H)(he:env[i]? =some (some (.own d))):ak K H₀ Bad (env.set i (some (.sh d))) σ H:=by
 have cl:∀a,Cln Bad env σ a→Cln Bad (env.set i (some (.sh d))) σ a:=λa h=> ⟨h.1,λj t=>h.2 j (fV he t).2⟩
 have oth:∀{j:Nat} {x:Slot},(∀y,x≠ .sh y)→(env.set i (some (.sh d)))[j]? =some (some x)→env[j]? =some (some x):=λ{j x} hx e=>by
  rw[jY he] at e
  by_cases z:j=i
  ·rw[Gag z] at e;cases e;exact absurd rfl (hx d)
  ·rw[Gaf z] at e;exact e
 refine⟨E.same,by rw[GdB];exact E.len,E.bad,λj d' e=> ?_,λj d' e=> ?_,λj d' e=> ?_,λj k a h1 h2 h3 h4=> ?_⟩
 ·rw[jY he] at e
  by_cases z:j=i
  ·rw[Gag z] at e
   cases e
   subst z
   obtain⟨a,h1,_,h3,_,_,h6⟩:=E.ow j d (.inl he)
   refine⟨.ref a,h1,(h6.imp cl).rep λb eb _=> ?_⟩
   cases eb
   exact⟨h3,λk t e=>(fV he t).1 (E.dj j k a (by rw[he];trivial) (fV he t).2 h1 e).symm⟩
  ·rw[Gaf z] at e
   obtain⟨v,h1,h2⟩:=E.sh j d' e
   exact⟨v,h1,h2.imp cl⟩
 ·obtain⟨a,h1,h2,h3,h4,h5,h6⟩:=E.ow j d' (e.imp (oth (by intro y q;cases q)) (oth (by intro y q;cases q)))
  exact⟨a,h1,h2,h3,h4,h5,h6.imp cl⟩
 ·obtain⟨a,h1,h2,h3,h4⟩:=E.bo j d' (oth (by intro y q;cases q) e)
  exact⟨a,h1,h2,h3,h4.imp cl⟩
 ·have g1:=fV he h1.top
  have g2:=fV he h2
  refine E.dj j k a ?_ g2.2 h3 h4
  rw[jY he,Gaf g1.1] at h1
  exact h1
theorem Stp.rel(he:env[i]? =some (some (.own d))):Stp env σ H (env.set i (some (.sh d))) σ H:=by
 refine⟨λ_ _ e _=>e,λb h=> ?_,λj h=> ?_⟩
 ·obtain⟨j,h1,h2⟩:=h
  refine .inl ⟨j, ?_,h2⟩
  have g:=fV he h1.ol.top
  rw[jY he,Gaf g.1] at h1
  exact h1
 ·have g:=fV he h.top
  rw[jY he,Gaf g.1]
  exact⟨rfl,rfl⟩
theorem oX:∀(is:List Nat) (env:Env),ak K H₀ Bad env σ H→ak K H₀ Bad (uu is env) σ H∧Stp env σ H (uu is env) σ H
 |[],env,E=> ⟨E,.refl⟩
 |i::is,env,E=>by
  unfold uu
  split
  ·rename_i d he
   obtain⟨h1,h2⟩:=oX is _ (E.rel he)
   exact⟨h1,(Stp.rel he).trans h2⟩
  ·exact oX is env E
end
section
variable{X:Cx}{f:DS}{st:Stmt}{is:List Nat}
theorem Dx(h:PSd X st f):PSd X st (Fq is f):=by
 refine PS.aC h ?_
 rintro D σ H ⟨H₀,Bad,env,o,E,e,k⟩
 obtain⟨h1,h2⟩:=oX is env E
 refine⟨H₀,Bad,uu is env,o,h1,e, ?_⟩
 cases o with
 |nx e2=>exactλσ2 H2 E2 p2=>k σ2 H2 E2 (h2.trans p2)
 |bk e2=>exactλσ2 H2 E2 p2=>k σ2 H2 E2 (h2.trans p2)
 |ct e2=>exactλσ2 H2 E2 p2=>k σ2 H2 E2 (h2.trans p2)
 |ret d=>exact k
end
end DL
namespace Den
open DL PySem
noncomputable def d5:DS:=
 (b6 (cD 5 (ixE (vE 4) (kE (.int 0))))
 (b6 (ifS (dz pM (vE 5) (vE 2))
  (AU 2 (vE 5) (vE 4))
  cw)
 (ifS (dz neB (ixE (vE 2) (vE 5)) (vE 4))
  (CV 3 (vE 5))
  cw)))
noncomputable def cL:DS:=
 (b6 (cD 2 (rg))
 (b6 (cD 3 (rf ax))
 (b6 (vI none (CU (opE bY (vE 0) (vE 1))) (gN 4)
  d5)
 (b6 (ifS (dz gtB (dA cC (a8 (vE 3) ax)) (kE (.int 0)))
  oy
  cw)
 (retS (ie none 1 [2] (CU (dA j1 (a8 (vE 2) ax))) (gN 0) iZ (ixE (vE 1) (vE 0))))))))
noncomputable def bM:List D→Option D:=fm 6 2 cL
noncomputable def aw:DS:=
 (b6 (cD 2 (kE (.int 0)))
 (b6 (ifS (dz gtB (dA cC (a8 (vE 0) ax)) (kE (.int 0)))
  (cD 2 (ixE (vE 0) (opE d4 (vE 1) (dA cC (a8 (vE 0) ax)))))
  cw)
 (b6 (cD 3 (opE d4 (opE bY (opE bY (opE jE (opE d4 (vE 2) (kE (.int 1000003))) (kE (.int 48271))) (opE jE (opE jE (vE 1) (vE 1)) (kE (.int 7919)))) (kE (.int 1))) (kE (.int 65521))))
 (retS (opE d4 (opE jE (vE 3) (vE 3)) (kE (.int 65519)))))))
noncomputable def ah:List D→Option D:=fm 4 2 aw
noncomputable def cW:DS:=
 (b6 (cD 2 (ixE (rf (a8 (kE (.str "a")) (a8 (kE (.str "b")) (a8 (kE (.str "ab")) (a8 (kE (.str "zz")) ax))))) (opE d4 (aI ah (a8 (vE 0) (a8 (vE 1) ax))) (kE (.int 4)))))
 (retS (uj (a8 (vE 2) (a8 (opE bY (kE (.int 1)) (opE d4 (aI ah (a8 (vE 0) (a8 (opE bY (vE 1) (kE (.int 1))) ax))) (kE (.int 12)))) ax)))))
noncomputable def cp:List D→Option D:=fm 3 2 cW
noncomputable def b5:DS:=
 (b6 (cD 5 (opE d4 (aI ah (a8 (vE 0) (a8 (vE 1) ax))) (kE (.int 8))))
 (b6 (cD 6 (opE jE (vE 4) (opE d4 (aI ah (a8 (vE 0) (a8 (opE bY (vE 1) (kE (.int 1))) ax))) (kE (.int 6)))))
 (b6 (cD 7 (opE vF (opE d4 (aI ah (a8 (vE 0) (a8 (opE bY (vE 1) (kE (.int 2))) ax))) (kE (.int 23))) (kE (.int 3))))
 (b6 (ifS (dz eqB (opE d4 (aI ah (a8 (vE 0) (a8 (opE bY (vE 1) (kE (.int 3))) ax))) (kE (.int 5))) (kE (.int 0)))
  (cD 7 (opE jE (opE jE (vE 7) (kE (.int 4))) (opE vG (kE (.int 10)) (kE (.int 7)))))
  cw)
 (b6 (ifS (dz eqB (vE 5) (kE (.int 0)))
  (retS (uj (a8 (kE (.str "weigh")) (a8 (opE d4 (aI ah (a8 (vE 0) (a8 (opE bY (vE 1) (kE (.int 4))) ax))) (vE 3)) (a8 (vE 6) (a8 (opE bY (kE (.int 1)) (opE d4 (aI ah (a8 (vE 0) (a8 (opE bY (vE 1) (kE (.int 2))) ax))) (kE (.int 300)))) ax))))))
  cw)
 (b6 (ifS (dz eqB (vE 5) (kE (.int 1)))
  (retS (uj (a8 (kE (.str "strike")) (a8 (aI cp (a8 (vE 0) (a8 (opE bY (vE 1) (kE (.int 5))) ax))) ax))))
  cw)
 (b6 (ifS (dz ltB (vE 5) (kE (.int 4)))
  (retS (uj (a8 (kE (.str "amend")) (a8 (aI cp (a8 (vE 0) (a8 (opE bY (vE 1) (kE (.int 5))) ax))) (a8 (vE 7) ax)))))
  cw)
 (retS (uj (a8 (kE (.str "give")) (a8 (opE d4 (aI ah (a8 (vE 0) (a8 (opE bY (vE 1) (kE (.int 4))) ax))) (vE 2)) (a8 (vE 6) (a8 (vE 7) ax)))))))))))))
noncomputable def bU:List D→Option D:=fm 8 5 b5
noncomputable def bV:DS:=
 (b6 (cD 7 (aI cp (a8 (vE 0) (a8 (opE bY (kE (.int 4000)) (opE jE (kE (.int 11)) (vE 6))) ax))))
 (ifS (dz pM (vE 7) (vE 5))
  (AU 5 (vE 7) (aI bU (a8 (vE 0) (a8 (opE bY (kE (.int 4002)) (opE jE (kE (.int 11)) (vE 6))) (a8 (vE 2) (a8 (vE 3) (a8 (vE 4) ax)))))))
  cw))
noncomputable def bN:DS:=
 (b6 (cD 5 (rg))
 (b6 (vI none (de (vE 1)) (gN 6)
  bV)
 (retS (litE (vE 5)))))
noncomputable def cZ:List D→Option D:=fm 8 5 bN
noncomputable def bx:DS:=
 (sL 3 (opE d4 (aI ah (a8 (vE 0) (a8 (opE bY (vE 1) (vE 4)) ax))) (dA cC (a8 (vE 3) ax))))
noncomputable def bz:DS:=
 (CV 3 (ixE (vE 3) (opE d4 (aI ah (a8 (vE 0) (a8 (opE bY (opE bY (vE 1) (kE (.int 50))) (vE 4)) ax))) (dA cC (a8 (vE 3) ax)))))
noncomputable def b8:DS:=
 (b6 (cD 3 (dA listS (a8 (vE 2) ax)))
 (b6 (vI none (de (dA cC (a8 (vE 3) ax))) (gN 4)
  bx)
 (b6 (vI none (de (opE pI (dA cC (a8 (vE 3) ax)) (kE (.int 4)))) (gN 4)
  bz)
 (retS (vE 3)))))
noncomputable def aY:List D→Option D:=fm 5 3 b8
noncomputable def aD(rec:List D→Option D):DS:=
 (b6 (ifS (orT (iC (bE (lB "tuple" (vE 1)))) (iC (bE (lB "list" (vE 1)))))
  (b6 (ifS (pJ (iC (bE (lB "tuple" (vE 1)))) (ou (iC (bE (lB "tuple" (vE 0))))))
  (retS (kE (.bl false)))
  cw)
 (b6 (ifS (pJ (iC (bE (lB "list" (vE 1)))) (ou (iC (bE (lB "list" (vE 0))))))
  (retS (kE (.bl false)))
  cw)
 (b6 (ifS (dz neB (dA cC (a8 (vE 0) ax)) (dA cC (a8 (vE 1) ax)))
  (retS (kE (.bl false)))
  cw)
 (retS (dA uk (a8 (ie none 1 [0,1] (de (dA cC (a8 (vE 1) ax))) (gN 0) iZ (aI rec (a8 (ixE (vE 1) (vE 0)) (a8 (ixE (vE 2) (vE 0)) ax)))) ax))))))
  cw)
 (b6 (ifS (dz vH (vE 1) (kE .non))
  (retS (bE (dz vH (vE 0) (kE .non))))
  cw)
 (b6 (ifS (iC (bE (lB "str" (vE 1))))
  (retS (bE (pJ (lB "str" (vE 0)) (dz eqB (vE 0) (vE 1)))))
  cw)
 (retS (bE (pJ (lB "int" (vE 0)) (pJ (ou (lB "bool" (vE 0))) (dz eqB (vE 0) (vE 1)))))))))
noncomputable def ae:Nat→List D→Option D
 |0=>fm 2 2 oy
 |n+1=>fm 2 2 (aD (ae n))
noncomputable def aU:List D→Option D:=ae 7
noncomputable def qE:DS:=
 (b6 (cD 1 (aI cZ (a8 (vE 0) (a8 (opE bY (kE (.int 10)) (opE d4 (aI ah (a8 (vE 0) (a8 (kE (.int 0)) ax))) (kE (.int 30)))) (a8 (kE (.int 3)) (a8 (kE (.int 3)) (a8 (kE (.int 1)) ax)))))))
 (b6 (cD 2 (ie none 1 [0,1] (de (dA cC (a8 (vE 1) ax))) (gN 0) (dz ltB (opE d4 (aI ah (a8 (vE 1) (a8 (opE bY (kE (.int 5000)) (vE 0)) ax))) (kE (.int 3))) (kE (.int 2))) (ixE (vE 2) (vE 0))))
 (b6 (cD 3 (ie none 1 [0,1] (de (dA cC (a8 (vE 1) ax))) (gN 0) (dz gtB (opE d4 (aI ah (a8 (vE 1) (a8 (opE bY (kE (.int 5000)) (vE 0)) ax))) (kE (.int 3))) (kE (.int 0))) (ixE (vE 2) (vE 0))))
 (b6 (cD 2 (aI aY (a8 (vE 0) (a8 (kE (.int 5100)) (a8 (vE 2) ax)))))
 (b6 (cD 3 (aI aY (a8 (vE 0) (a8 (kE (.int 5300)) (a8 (vE 3) ax)))))
 (b6 (cD 4 (rf (a8 (dA listS (a8 (vE 2) ax)) (a8 (dA listS (a8 (vE 3) ax)) ax))))
 (b6 (cD 5 (dA j2 (a8 (vE 1) ax)))
 (b6 (ifS (orT (ou (iC (aI aU (a8 (aI bM (a8 (ixE (vE 4) (kE (.int 0))) (a8 (ixE (vE 4) (kE (.int 1))) ax))) (a8 (vE 5) ax))))) (ou (iC (aI aU (a8 (aI bM (a8 (ixE (vE 4) (kE (.int 1))) (a8 (ixE (vE 4) (kE (.int 0))) ax))) (a8 (vE 5) ax))))))
  (retS (kE (.bl false)))
  cw)
 (b6 (ifS (ou (iC (aI aU (a8 (aI bM (a8 (rf ax) (a8 (ixE (vE 4) (kE (.int 0))) ax))) (a8 (dF (vE 2)) ax)))))
  (retS (kE (.bl false)))
  cw)
 (b6 (cD 6 (dA j2 (a8 (vE 1) ax)))
 (b6 (cD 7 (aI bM (a8 (rf ax) (a8 (vE 6) ax))))
 (b6 (ifS (ou (iC (aI aU (a8 (vE 7) (a8 (vE 5) ax)))))
  (retS (kE (.bl false)))
  cw)
 (b6 (vJ 7)
 (Fq [2,3] (retS (bE (pJ (iC (aI aU (a8 (vE 6) (a8 (vE 5) ax)))) (iC (aI aU (a8 (vE 4) (a8 (rf (a8 (vE 2) (a8 (vE 3) ax))) ax)))))))))))))))))))))
noncomputable def mQ:List D→Option D:=fm 8 1 qE
end Den
namespace Maths
open DL Den PySem
noncomputable def mR(ns:List Int)(k:Int):Int:=if ns.length=0 then 0 else ns[(k%ns.length).toNat]?.getD 0
noncomputable def mv(ns:List Int)(k:Int):Int:=(mR ns k%1000003*48271+k*k*7919+1)%65521
noncomputable def mx(ns:List Int)(k:Int):Int:=mv ns k*mv ns k%65519
theorem mxm(ns:List Int)(k m:Int)(h:0<m):0≤mx ns k%m∧mx ns k%m<m:=⟨GcC _ (by omega),Gcl _ h⟩
theorem uZ{ns:List Int}{k:Int}:0≤mR ns k%1000003∧mR ns k%1000003<1000003:=⟨GcC _ (by omega),Gcl _ (by omega)⟩
theorem BK{ns:List Int}{k:Int}(h:0<ns.length):atD ns (k%ns.length)=some (ns[(k%ns.length).toNat]?.getD 0):=by
 unfold atD
 have h1:0≤k%(ns.length:Int):=GcC _ (by omega)
 have h2:k%(ns.length:Int)<ns.length:=Gcl _ (by omega)
 rw[Gag h1]
 have h3:(k%(ns.length:Int)).toNat<ns.length:=by omega
 simp[h3]
theorem l8{i j:Int}(h: -18446744073709551616<i)(h2:i<18446744073709551616):dv i j=true:=by
 unfold dv
 rw[GaZ]
 exact .inl (GaB (by omega))
theorem l9{i j:Int}(h: -18446744073709551616<j)(h2:j<18446744073709551616):dv i j=true:=by
 unfold dv
 rw[GaZ]
 exact .inr (GaB (by omega))
theorem cM{ns:List Int}{k:Int}(hk:0≤k)(hk2:k<1000000):ah [.scr ns,.int k]=some (.int (mx ns k)):=by
 have c:=uZ (ns:=ns) (k:=k)
 have v1:0≤mv ns k:=GcC _ (by omega)
 have v2:mv ns k<65521:=Gcl _ (by omega)
 have e1:dv k k=true:=l8 (by omega) (by omega)
 have e2:∀i,dv i 48271=true:=λi=>l9 (by omega) (by omega)
 have e3:∀i,dv i 7919=true:=λi=>l9 (by omega) (by omega)
 have e4:dv (mv ns k) (mv ns k)=true:=l8 (by omega) (by omega)
 unfold ah aw
 by_cases h:0<ns.length
 ·have hc:mR ns k=ns[(k%ns.length).toNat]?.getD 0:=by unfold mR;rw[Gaf (by omega)]
  have h' :(0:Int)<ns.length:=by omega
  have e5:(ns[(k%↑ns.length).toNat]?.getD 0%1000003*48271+k*k*7919+1)%65521=mv ns k:=by unfold mv;rw[hc]
  simp[h,h',BK h,e1,e2,e3,e5,e4,mx]
 ·have hc:mR ns k=0:=by unfold mR;rw[Gag (by omega)]
  have h' :¬(0:Int)<ns.length:=by omega
  have e5:(k*k*7919+1)%65521=mv ns k:=by unfold mv;rw[hc];simp
  simp[h,h',e1,e2,e3,e5,e4,mx]
theorem tR{g:DG}{body:DS}(I:DL.Env→Prop):∀(ds:List D) (env:DL.Env),I env→(∀d∈ds,∀env,I env→∃e1 e2,g d env=some e1∧body e1=some (.nx e2)∧I e2)→∃e,forL g body ds env=some (.nx e)∧I e
 |[],env,h,_=> ⟨env,rfl,h⟩
 |d::ds,env,h,st=>by
  obtain⟨e1,e2,h1,h2,h3⟩:=st d Gap env h
  obtain⟨e,h4,h5⟩:=tR I ds e2 h3 λd' hd=>st d' (Gai _ hd)
  exact⟨e,by simp[forL,h1,h2,h4],h5⟩
theorem f9{p:D→Prop}(hp:∀d,p d→d.imm=true):∀{ds:List D},(∀d∈ds,p d)→bH ds=true
 |[],_=>rfl
 |d::ds,h=>by
  simp[hp d (h d Gap),f9 hp λx hx=>h x (Gai _ hx)]
theorem jm{d:D}(h:d.imm=true):gp d=⟨.c,d⟩:=by
 cases d<;>first|rfl|(simp at h)
theorem aE{f g:DS}{env e:DL.Env}(h:f env=some (.nx e)):b6 f g env=g e:=by simp[b6,h]
theorem tU{f g:DS}{env:DL.Env}{d:D}(h:f env=some (.ret d)):b6 f g env=some (.ret d):=by simp[b6,h]
theorem dO{n np:Nat}{body:DS}{ds:List D}{d:D}(hl:ds.length=np)(h:body (fL n ds)=some (.ret d)):fm n np body ds=some d:=by
 unfold fm;rw[Gag hl,h];rfl
theorem Dy{t:DT}{f g:DS}{env:DL.Env}(h:t env=some true):ifS t f g env=f env:=by simp[ifS,h]
theorem FW{t:DT}{f g:DS}{env:DL.Env}(h:t env=some false):ifS t f g env=g env:=by simp[ifS,h]
theorem cq{i:Int}(h1: -4611686018427387904≤i)(h2:i<4611686018427387904):bw i=true:=by
 unfold bw
 rw[Gal]
 exact⟨GaB h1,GaB h2⟩
theorem sf{lo:Int}{n:Nat}{d:D}(h:d∈aA lo n):∃k:Nat,k<n∧d= .int (lo+k):=by
 unfold aA at h
 obtain⟨k,hk,rfl⟩:=Gay.mp h
 exact⟨k,GaO.mp hk,rfl⟩
theorem oY{g:DG}{body:DS}(I:Nat→DL.Env→Prop):∀(ds:List D) (k:Nat) (env:DL.Env),I k env→(∀(i:Nat) d e,ds[i]? =some d→I (k+i) e→∃e1 e2,g d e=some e1∧body e1=some (.nx e2)∧I (k+i+1) e2)→∃e,forL g body ds env=some (.nx e)∧I (k+ds.length) e
 |[],k,env,h,_=> ⟨env,rfl,h⟩
 |d::ds,k,env,h,st=>by
  obtain⟨e1,e2,h1,h2,h3⟩:=st 0 d env rfl h
  obtain⟨e,h4,h5⟩:=oY I ds (k+1) e2 h3 λi d' e' hd hI=>by
   have:=st (i+1) d' e' (by simpa using hd) (by rw[show k+(i+1)=k+1+i by omega];exact hI)
   rw[show k+(i+1)+1=k+1+i+1 by omega] at this
   exact this
  refine⟨e,by simp[forL,h1,h2,h4], ?_⟩
  rw[show k+(d::ds).length=k+1+ds.length by simp;omega]
  exact h5
theorem mS{lo:Int}{n i:Nat}{d:D}(h:(aA lo n)[i]? =some d):i<n∧d= .int (lo+i):=by
 unfold aA at h
 rw[Gav] at h
 by_cases hi:i<n
 ·rw[GdJ hi] at h;cases h;exact⟨hi,rfl⟩
 ·rw[Gbf (by simp;omega)] at h;cases h
theorem dP{lo:Int}{n:Nat}:(aA lo n).length=n:=by simp[aA]
theorem jZ{α:Type}{g:DG}{t:DT}{f:DE}(emb:α→D)(C:DL.Env→Prop)(p:α→Bool)(r:α→D):∀(xs:List α) (e:DL.Env),C e→
  (∀x∈xs,∀e,C e→∃e',g (emb x) e=some e' ∧C e' ∧t e' =some (p x)∧(p x=true→∃k,f e' =some ⟨k,r x⟩∧RV.free ⟨k,r x⟩=true))→cF g t f (xs.map emb) e=some ((xs.filter p).map r)
 |[],e,_,_=>rfl
 |d::ds,e,h,st=>by
  obtain⟨e',h1,h2,h3,h4⟩:=st d Gap e h
  have ih:=jZ emb C p r ds e' h2 λd' hd=>st d' (Gai _ hd)
  cases q:p d with
  |false=>simp[cF,h1,h3,q,ih]
  |true=>
   obtain⟨k,h5,h6⟩:=h4 q
   simp[cF,h1,h3,q,h5,h6,ih]
theorem nW{α:Type}{g:DG}{f:DE}(emb:α→D)(C:DL.Env→Prop)(r:α→D)(xs:List α)(e:DL.Env)(h:C e)
  (st:∀x∈xs,∀e,C e→∃e',g (emb x) e=some e' ∧C e' ∧∃k,f e' =some ⟨k,r x⟩∧RV.free ⟨k,r x⟩=true):cF g iZ f (xs.map emb) e=some (xs.map r):=by
 have:=jZ (g:=g) (t:=iZ) (f:=f) emb C (λ_=>true) r xs e h (λx hx e he=>by
  obtain⟨e',h1,h2,h3⟩:=st x hx e he
  exact⟨e',h1,h2,rfl,λ_=>h3⟩)
 rw[List.filter_eq_self.mpr λ_ _=>rfl] at this
 exact this
theorem v8(bs:List Bool):ox (bs.map D.bl)=some bs:=by
 induction bs with
 |nil=>rfl
 |cons b bs ih=>simp[ih]
@[simp] theorem qF(bs:List Bool):uk [.lst (bs.map D.bl)]=some ⟨.c,.bl (bs.all id)⟩:=by
 simp[uk,one,pK,v8]
theorem cx(n:Nat)(i:Int):ae (n+1) [.int i,.int i]=some (.bl true):=by
 unfold ae aD
 simp
theorem fD(n:Nat)(x:Str):ae (n+1) [.str x,.str x]=some (.bl true):=by
 unfold ae aD
 simp
theorem mT{n:Nat}{ds:List D}{a:D}(ha:∀k:Nat,ixD a (.int (k:Int))=ds[k]?)(h:∀d∈ds,ae n [d,d]=some (.bl true)):∀(M:Nat) (hM:M≤ds.length) (x0:Option Slot),
  cF (gN 0) iZ (aI (ae n) (a8 (ixE (vE 1) (vE 0)) (a8 (ixE (vE 2) (vE 0)) ax))) (aA 0 M) [x0,some (.sh a),some (.sh a)]=some ((List.replicate M true).map D.bl):=by
 intro M hM x0
 have c:=nW (g:=gN 0) (f:=aI (ae n) (a8 (ixE (vE 1) (vE 0)) (a8 (ixE (vE 2) (vE 0)) ax))) (λk:Nat=>D.int ((0:Int)+(k:Int))) (λenv=>∃y,env=[y,some (.sh a),some (.sh a)]) (λ_=> .bl true) (List.range M) [x0,some (.sh a),some (.sh a)] ⟨x0,rfl⟩ (by
  rintro k hk env ⟨y,rfl⟩
  have hk' :k<M:=GaO.mp hk
  have hd:ixD a (.int (0+(k:Int)))=some (ds[k]'(by omega)):=by
   rw[show(0:Int)+(k:Int)=(k:Int) by omega,ha]
   exact Gaa _
  have hh:=h (ds[k]'(by omega)) (GaN _)
  generalize ds[k]'(by omega)=dk at*
  generalize (0:Int)+(k:Int)=kk at*
  exact⟨_,rfl,⟨_,rfl⟩,.c,by simp[hd,hh],rfl⟩)
 unfold aA
 rw[c]
 congr 1
 rw[List.map_replicate]
 exact(List.eq_replicate_iff.mpr ⟨by simp,by simp⟩)
theorem mU{n:Nat}{ds bl:List D}{L:Int}(hL:cC [.tup ds]=some ⟨.c,.int L⟩)(s:bw L=true)(z:(aA 0 L.toNat).length≤16777216)
  (c:cF (gN 0) iZ (aI (ae n) (a8 (ixE (vE 1) (vE 0)) (a8 (ixE (vE 2) (vE 0)) ax))) (aA 0 L.toNat) [none,some (.sh (.tup ds)),some (.sh (.tup ds))]=some bl)(al:uk [.lst bl]=some ⟨.c,.bl true⟩):ae (n+1) [.tup ds,.tup ds]=some (.bl true):=by
 show fm 2 2 (aD (ae n)) _=_
 refine dO rfl ?_
 unfold aD
 refine tU ?_
 refine(Dy (by simp)).trans ?_
 refine(aE (e:=[some (.sh (.tup ds)),some (.sh (.tup ds))]) (by simp)).trans ?_
 refine(aE (e:=[some (.sh (.tup ds)),some (.sh (.tup ds))]) (by simp)).trans ?_
 refine(aE (e:=[some (.sh (.tup ds)),some (.sh (.tup ds))]) (by simp[-pL,hL])).trans ?_
 simp[-pL,hL,s,z,ao,DL.compEnv,iY,c,al]
theorem du{n:Nat}{ds:List D}(hl:ds.length≤1000)(h:∀d∈ds,ae n [d,d]=some (.bl true)):ae (n+1) [.tup ds,.tup ds]=some (.bl true):=by
 have c:=mT (a:= .tup ds) (λk=>by show atD ds (k:Int)=_;exact oz) h ds.length (Gaq _) none
 have e:(ds.length:Int).toNat=ds.length:=by omega
 have al:=qF (List.replicate ds.length true)
 have al2:(List.replicate ds.length true).all id=true:=by simp
 rw[al2] at al
 refine mU (L:=(ds.length:Int)) rfl (cq (by omega) (by omega)) (by rw[e,dP];omega) ?_ al
 rw[e]
 exact c
theorem mV{n:Nat}{ds bl:List D}{L:Int}(hL:cC [.lst ds]=some ⟨.c,.int L⟩)(s:bw L=true)(z:(aA 0 L.toNat).length≤16777216)
  (c:cF (gN 0) iZ (aI (ae n) (a8 (ixE (vE 1) (vE 0)) (a8 (ixE (vE 2) (vE 0)) ax))) (aA 0 L.toNat) [none,some (.sh (.lst ds)),some (.sh (.lst ds))]=some bl)(al:uk [.lst bl]=some ⟨.c,.bl true⟩):ae (n+1) [.lst ds,.lst ds]=some (.bl true):=by
 show fm 2 2 (aD (ae n)) _=_
 refine dO rfl ?_
 unfold aD
 refine tU ?_
 refine(Dy (by simp)).trans ?_
 refine(aE (e:=[some (.sh (.lst ds)),some (.sh (.lst ds))]) (by simp)).trans ?_
 refine(aE (e:=[some (.sh (.lst ds)),some (.sh (.lst ds))]) (by simp)).trans ?_
 refine(aE (e:=[some (.sh (.lst ds)),some (.sh (.lst ds))]) (by simp[-cG,hL])).trans ?_
 simp[-cG,hL,s,z,ao,DL.compEnv,iY,c,al]
theorem k6{n:Nat}{ds:List D}(hl:ds.length≤1000)(h:∀d∈ds,ae n [d,d]=some (.bl true)):ae (n+1) [.lst ds,.lst ds]=some (.bl true):=by
 have c:=mT (a:= .lst ds) (λk=>by show atD ds (k:Int)=_;exact oz) h ds.length (Gaq _) none
 have e:(ds.length:Int).toNat=ds.length:=by omega
 have al:=qF (List.replicate ds.length true)
 have al2:(List.replicate ds.length true).all id=true:=by simp
 rw[al2] at al
 refine mV (L:=(ds.length:Int)) rfl (cq (by omega) (by omega)) (by rw[e,dP];omega) ?_ al
 rw[e]
 exact c
noncomputable def iU{α β:Type} [DecidableEq α](l:List (α×β))(k:α)(v:β):List (α×β):=if l.any (λe=>decide (e.1=k)) then l.map (λe=>if e.1=k then(e.1,v) else e) else l++[(k,v)]
noncomputable def d6{α β:Type} [DecidableEq α](l:List (α×β))(k:α):Option β:=(l.find? λe=>decide (e.1=k)).map (·.2)
section
variable{α β:Type} [DecidableEq α]{kk:α→List Key}{vv:β→D}
noncomputable def emb(kk:α→List Key)(vv:β→D)(l:List (α×β)):List (List Key×D):=l.map λe=>(kk e.1,vv e.2)
theorem tV(l:List (α×β)):(emb kk vv l).length=l.length:=by simp[emb]
theorem BL(hk:∀a b,kk a=kk b→a=b)(l:List (α×β))(k:α):((emb kk vv l).any λkv=>decide (kv.1=kk k))=l.any λe=>decide (e.1=k):=by
 unfold emb
 rw[List.any_map]
 congr 1
 funext e
 simp only[GcL]
 exact decide_eq_decide.mpr ⟨hk _ _,λh=>by rw[h]⟩
theorem BM(hk:∀a b,kk a=kk b→a=b)(l:List (α×β))(k:α)(v:β):put (emb kk vv l) (kk k) (vv v)=emb kk vv (iU l k v):=by
 unfold put iU
 rw[BL hk]
 split
 ·unfold emb
  rw[Gbr,Gbr]
  apply GdK
  intro e _
  simp only[GcL]
  by_cases c:e.1=k
  ·rw[Gag c,Gag (by rw[c])]
  ·rw[Gaf c,Gaf λh=>c (hk _ _ h)]
 ·simp[emb]
theorem jn(hk:∀a b,kk a=kk b→a=b)(l:List (α×β))(k:α):look (emb kk vv l) (kk k)=(d6 l k).map vv:=by
 unfold look d6 emb
 rw[List.find?_map]
 have:((λkv:List Key×D=>decide (kv.1=kk k))∘λe:α×β=>(kk e.1,vv e.2))=λe=>decide (e.1=k):=by
  funext e
  simp only[GcL]
  exact decide_eq_decide.mpr ⟨hk _ _,λh=>by rw[h]⟩
 rw[this]
 simp[Option.map_map,GcL]
theorem nX{l:List (α×β)}{k:α}:d6 l k=none↔k∉l.map (·.1):=by
 unfold d6
 simp only[Option.map_eq_none_iff,GdN,Gay,GcH]
 constructor
 ·rintro h ⟨e,he,rfl⟩;exact h e he rfl
 ·intro h e he c;exact h ⟨e,he,c⟩
theorem v9{l:List (α×β)}{k:α}{v:β}:(iU l k v).map (·.1)=if k∈l.map (·.1) then l.map (·.1) else l.map (·.1)++[k]:=by
 unfold iU
 have iff:(l.any λe=>decide (e.1=k))=true↔k∈l.map (·.1):=by
  rw[Gcg]
  simp only[Gay,GcH]
 by_cases c:k∈l.map (·.1)
 ·rw[Gag (iff.mpr c),Gag c,Gbr]
  apply GdK
  intro e _
  simp only[GcL]
  split<;>rfl
 ·rw[Gaf (λh=>c (iff.mp h)),Gaf c];simp
theorem si{l:List (α×β)}{k:α}{v:β}(h:(l.map (·.1)).Nodup):((iU l k v).map (·.1)).Nodup:=by
 rw[v9]
 split
 ·exact h
 ·rename_i c
  refine Gds.mpr ⟨h,by simp,λa ha b hb=> ?_⟩
  rw[GaV.mp hb]
  intro e;subst e;exact c ha
theorem qG{l:List (α×β)}{k k' :α}{v:β}:d6 (iU l k v) k' =if k' =k then some v else d6 l k' :=by
 induction l with
 |nil=>
  unfold iU d6
  by_cases c:k=k'
  ·simp[c]
  ·simp[c,Gbl c]
 |cons e l ih=>
  unfold iU d6 at*
  by_cases c:e.1=k
  ·by_cases c2:k' =k
   ·simp[c,c2]
   ·have c3:¬k=k' :=λh=>c2 h.symm
    have c4:¬e.1=k' :=by rw[c];exact c3
    have:∀m:List (α×β),(m.map λe=>if e.1=k then(e.1,v) else e).find? (λe=>decide (e.1=k'))=m.find? λe=>decide (e.1=k'):=by
     intro m
     induction m with
     |nil=>rfl
     |cons x m ihm=>
      by_cases q:x.1=k
      ·have:¬x.1=k' :=by rw[q];exact c3
       simp[q,c3,this,ihm]
      ·rw[GaH,Gaf q,Gbq,Gbq,ihm]
    simp[c,c2,c3,c4,this]
  ·by_cases c2:e.1=k'
   ·have c5:¬k' =k:=by rw[←c2];exact c
    by_cases c3:(l.any λe=>decide (e.1=k))=true
    ·simp[c,c2,c3,c5]
    ·simp[c,c2,c3,c5]
   ·by_cases c3:(l.any λe=>decide (e.1=k))=true
    ·rw[Gag c3] at ih
     simp only[Gcx,c,decide_false,GdO,c3,Gbp,GaH,GaS]
     rw[Gcj (by simpa using c2),Gcj (by simpa using c2)]
     exact ih
    ·rw[Gaf c3] at ih
     simp only[Gcx,c,decide_false,GdO,c3,Gax,GaS,List.cons_append]
     rw[Gcj (by simpa using c2),Gcj (by simpa using c2)]
     exact ih
theorem A7{l:List (α×β)}{k:α}{v:β}:(iU l k v).length≤l.length+1:=by
 unfold iU
 split<;>simp
theorem qH{l:List (α×β)}(h:(l.map (·.1)).Nodup){k:α}{v:β}(hm:(k,v)∈l):d6 l k=some v:=by
 induction l with
 |nil=>cases hm
 |cons e l ih=>
  rw[GaH,Gby] at h
  unfold d6
  rcases Gar.mp hm with q|q
  ·subst q;simp
  ·have:¬e.1=k:=λc=>h.1 (Gay.mpr ⟨_,q,c.symm⟩)
   rw[Gcj (by simpa using this)]
   exact ih h.2 q
theorem qI{l:List (α×β)}{k:α}{v:β}(h:d6 l k=some v):(k,v)∈l:=by
 unfold d6 at h
 obtain⟨e,he,rfl⟩:=Gah.mp h
 have h1:=List.mem_of_find?_eq_some he
 have h2:=List.find?_some he
 rw[←GaG h2]
 exact h1
theorem qJ(hk:∀a b,kk a=kk b→a=b){l:List (α×β)}{k:α}{v:β}{kd:List D}(hkd:keysOf kd=some (kk k))(hl:l.length<1000000):putD (.dT (emb kk vv l)) (.tup kd) (vv v)=some (.dT (emb kk vv (iU l k v))):=by
 unfold putD
 have:(emb kk vv l).length<ao:=by rw[tV];unfold ao;omega
 simp only
 rw[Gag this,hkd]
 simp[BM hk]
end
theorem kz{α:Type} [DecidableEq α]:∀{l m:List α},l.Nodup→m.Nodup→(∀a,a∈l↔a∈m)→l.Perm m
 |[],m,_,_,h=>by
  cases m with
  |nil=>exact List.Perm.refl _
  |cons b m=>exact absurd ((h b).mpr Gap) (by simp)
 |a::l,m,hl,hm,h=>by
  have ha:a∈m:=(h a).mp Gap
  rw[Gby] at hl
  have p:=List.perm_cons_erase ha
  refine List.Perm.trans (List.Perm.cons a (kz hl.2 (hm.erase a) λb=> ?_)) p.symm
  rw[List.Nodup.mem_erase_iff hm]
  constructor
  ·intro hb
   exact⟨λe=>hl.1 (e▸hb),(h b).mp (Gai _ hb)⟩
  ·rintro⟨h1,h2⟩
   rcases Gar.mp ((h b).mpr h2) with q|q
   ·exact absurd q h1
   ·exact q
noncomputable abbrev Mk:=Str×Int
inductive oZ where
 |we (g h w:Int)
 |st (m:Mk)
 |am (m:Mk) (a:Int)
 |gi (o h a:Int)
 deriving DecidableEq
noncomputable abbrev Ent:=Mk×oZ
noncomputable def mkD(m:Mk):D:= .tup [.str m.1,.int m.2]
noncomputable def mkK(m:Mk):List Key:=[.inr m.1,.inl m.2]
noncomputable def ddD:oZ→D
 | .we g h w=> .tup [.str "weigh",.int g,.int h,.int w]
 | .st m=> .tup [.str "strike",mkD m]
 | .am m a=> .tup [.str "amend",mkD m,.int a]
 | .gi o h a=> .tup [.str "give",.int o,.int h,.int a]
noncomputable def kd:oZ→Str
 | .we .. =>"weigh"
 | .st .. =>"strike"
 | .am .. =>"amend"
 | .gi .. =>"give"
noncomputable def enD(e:Ent):D:= .tup [mkD e.1,ddD e.2]
theorem i4(a b:Mk)(h:mkK a=mkK b):a=b:=by
 obtain⟨x,i⟩:=a
 obtain⟨y,j⟩:=b
 simp[mkK] at h
 rw[h.1,h.2]
theorem p5{a b:Mk}(h:mkD a=mkD b):a=b:=by
 obtain⟨x,i⟩:=a
 obtain⟨y,j⟩:=b
 simp[mkD] at h
 rw[h.1,h.2]
theorem jo(m:Mk):keysOf [.str m.1,.int m.2]=some (mkK m):=by simp[mkK,keyOf]
theorem p8(m:Mk):(mkD m).imm=true:=by simp[mkD]
theorem p9(d:oZ):(ddD d).imm=true:=by cases d<;>simp[ddD,mkD]
theorem tW(e:Ent):(enD e).imm=true:=by simp[enD,p8,p9]
theorem mW(l:List Ent):bH (l.map enD)=true:=f9 (p:=λd=>d.imm=true) (λ_ h=>h) λd hd=>by
 obtain⟨e,_,rfl⟩:=Gay.mp hd
 exact tW e
theorem A8(a b:Mk):eqD (mkD a) (mkD b)=decide (a=b):=by
 obtain⟨x,i⟩:=a
 obtain⟨y,j⟩:=b
 by_cases h1:x=y<;>by_cases h2:i=j<;>simp[mkD,h1,h2]
noncomputable def hand(i:Int):Str:=([Str.ofString "a",Str.ofString "b",Str.ofString "ab",Str.ofString "zz"]:List Str)[i.toNat]?.getD "a"
noncomputable def ph(ns:List Int)(k:Int):Mk:=(hand (mx ns k%4),1+mx ns (k+1)%12)
theorem BN{i:Int}(h1:0≤i)(h2:i<4):ixD (.lst [.str "a",.str "b",.str "ab",.str "zz"]) (.int i)=some (.str (hand i)):=by
 have hh:i=0∨i=1∨i=2∨i=3:=by omega
 rcases hh with rfl|rfl|rfl|rfl<;>rfl
theorem A9{ns:List Int}{k:Int}(hk:0≤k)(hk2:k<100000):cp [.scr ns,.int k]=some (mkD (ph ns k)):=by
 have e0:=cM (ns:=ns) (k:=k) (by omega) (by omega)
 have e1:=cM (ns:=ns) (k:=k+1) (by omega) (by omega)
 have r:=mxm ns k 4 (by omega)
 have hx:=BN r.1 r.2
 unfold ph mkD
 unfold cp cW
 simp[e0,e1,hx,ao,-kL]
noncomputable def Aa(ns:List Int)(k:Int):Int:=if mx ns (k+3)%5=0 then(mx ns (k+2)%23 -3)*4*10000000 else mx ns (k+2)%23 -3
noncomputable def sr(ns:List Int)(k:Int):oZ:=
 if mx ns k%8=0 then .we (mx ns (k+4)%3) (mx ns (k+1)%6) (1+mx ns (k+2)%300)
 else if mx ns k%8=1 then .st (ph ns (k+5))
 else if mx ns k%8<4 then .am (ph ns (k+5)) (Aa ns k)
 else .gi (mx ns (k+4)%3) (mx ns (k+1)%6) (Aa ns k)
theorem Dz{ns:List Int}{k:Int}(hk:0≤k)(hk2:k<90000):bU [.scr ns,.int k,.int 3,.int 3,.int 1]=some (ddD (sr ns k)):=by
 have e0:=cM (ns:=ns) (k:=k) (by omega) (by omega)
 have e1:=cM (ns:=ns) (k:=k+1) (by omega) (by omega)
 have e2:=cM (ns:=ns) (k:=k+2) (by omega) (by omega)
 have e3:=cM (ns:=ns) (k:=k+3) (by omega) (by omega)
 have e4:=cM (ns:=ns) (k:=k+4) (by omega) (by omega)
 have e5:=A9 (ns:=ns) (k:=k+5) (by omega) (by omega)
 have im:=p8 (ph ns (k+5))
 have m1:∀j,dv 1 j=true:=λj=>l8 (by omega) (by omega)
 have m2:∀j,dv j 4=true:=λj=>l9 (by omega) (by omega)
 have m3:∀j,dv j 10000000=true:=λj=>l9 (by omega) (by omega)
 have p7:(10:Int)^7=10000000:=by decide
 unfold sr Aa
 generalize ph ns (k+5)=mm at*
 generalize hkind:mx ns k%8=kind at*
 have am:∃A:Int,A=(if mx ns (k+3)%5=0 then(mx ns (k+2)%23 -3)*4*10000000 else mx ns (k+2)%23 -3):=⟨_,rfl⟩
 obtain⟨A,hA⟩:=am
 rw[←hA]
 have st5:bw 0=true:=by decide
 show fm 8 5 b5 _=_
 refine dO rfl ?_
 show b5 [some (.sh (.scr ns)),some (.sh (.int k)),some (.sh (.int 3)),some (.sh (.int 3)),some (.sh (.int 1)),none,none,none]=_
 unfold b5
 refine(aE (e:=[some (.sh (.scr ns)),some (.sh (.int k)),some (.sh (.int 3)),some (.sh (.int 3)),some (.sh (.int 1)),some (.sh (.int kind)),none,none]) (by simp[e0,hkind,DL.stored])).trans ?_
 generalize hH:mx ns (k+1)%6=hr at*
 refine(aE (e:=[some (.sh (.scr ns)),some (.sh (.int k)),some (.sh (.int 3)),some (.sh (.int 3)),some (.sh (.int 1)),some (.sh (.int kind)),some (.sh (.int hr)),none]) (by simp[e1,m1,hH,DL.stored])).trans ?_
 refine(aE (e:=[some (.sh (.scr ns)),some (.sh (.int k)),some (.sh (.int 3)),some (.sh (.int 3)),some (.sh (.int 1)),some (.sh (.int kind)),some (.sh (.int hr)),some (.sh (.int (mx ns (k+2)%23 -3)))]) (by simp[e2,DL.stored])).trans ?_
 refine(aE (e:=[some (.sh (.scr ns)),some (.sh (.int k)),some (.sh (.int 3)),some (.sh (.int 3)),some (.sh (.int 1)),some (.sh (.int kind)),some (.sh (.int hr)),some (.sh (.int A))]) (by
  by_cases c:mx ns (k+3)%5=0
  ·rw[Gag c] at hA
   simp[e3,c,eqB,m2,m3,p7,hA,DL.stored]
  ·rw[Gaf c] at hA
   simp[e3,c,eqB,hA])).trans ?_
 by_cases c0:kind=0
 ·subst c0
  simp[e4,e2,eqB,ao,g8,ddD]
 ·by_cases c1:kind=1
  ·subst c1
   simp[e5,eqB,ao,g8,ddD,im,jm im,RV.free]
  ·by_cases c2:kind<4
   ·simp[e5,eqB,c0,c1,c2,ao,g8,ddD,im,jm im,RV.free]
   ·simp[e4,eqB,c0,c1,c2,ao,g8,ddD,RV.free]
noncomputable def gJ(ns:List Int):Nat→List Ent
 |0=>[]
 |j+1=>if ph ns (4000+11*(j:Int))∈(gJ ns j).map (·.1) then gJ ns j else gJ ns j++[(ph ns (4000+11*(j:Int)),sr ns (4002+11*(j:Int)))]
theorem k7(ns:List Int):∀j,(gJ ns j).length≤j
 |0=>Gaq _
 |j+1=>by
  have:=k7 ns j
  unfold gJ
  split
  ·omega
  ·simp;omega
theorem kA(ns:List Int):∀j,((gJ ns j).map (·.1)).Nodup
 |0=>GcN
 |j+1=>by
  have ih:=kA ns j
  unfold gJ
  split
  ·exact ih
  ·rename_i c
   rw[GcB]
   refine Gds.mpr ⟨ih,by simp,λa ha b hb=> ?_⟩
   have hb' :b=ph ns (4000+11*(j:Int)):=by simpa using hb
   rw[hb']
   intro e;subst e;exact c ha
theorem Ab{ns:List Int}{l:List Ent}{j K1 K2 mn:Int}{m:Mk}{d:oZ}{x7:Option Slot}(h1:cp [.scr ns,.int K1]=some (mkD m))(h2:bU [.scr ns,.int K2,.int 3,.int 3,.int 1]=some (ddD d))(hK1:4000+11*j=K1)(hK2:4002+11*j=K2)(hl:l.length<1000):
  bV [some (.sh (.scr ns)),some (.sh (.int mn)),some (.sh (.int 3)),some (.sh (.int 3)),some (.sh (.int 1)),some (.own (.dT (emb mkK ddD l))),some (.sh (.int j)),x7]=
   some (.nx [some (.sh (.scr ns)),some (.sh (.int mn)),some (.sh (.int 3)),some (.sh (.int 3)),some (.sh (.int 1)),some (.own (.dT (emb mkK ddD (if m∈l.map (·.1) then l else l++[(m,d)])))),some (.sh (.int j)),some (.sh (mkD m))]):=by
 have m11:∀i,dv 11 i=true:=λi=>l8 (by omega) (by omega)
 have im:=p8 m
 have id:=p9 d
 have hk:=jo m
 have lk:=jn (vv:=ddD) i4 l m
 have nin:pM (mkD m) (.dT (emb mkK ddD l))=some (!(d6 l m).isSome):=by
  unfold pM mkD
  rw[vL,hk]
  simp[lk]
 unfold bV
 refine(aE (e:=[some (.sh (.scr ns)),some (.sh (.int mn)),some (.sh (.int 3)),some (.sh (.int 3)),some (.sh (.int 1)),some (.own (.dT (emb mkK ddD l))),some (.sh (.int j)),some (.sh (mkD m))]) (by simp[m11,hK1,h1,jm im,DL.stored])).trans ?_
 by_cases c:m∈l.map (·.1)
 ·have a1:(d6 l m).isSome=true:=by
   cases q:d6 l m with
   |none=>exact absurd c (nX.mp q)
   |some _=>rfl
  rw[Gag c]
  refine(FW (by simp[nin,a1])).trans ?_
  rfl
 ·have a1:(d6 l m).isSome=false:=by rw[nX.mpr c];rfl
  rw[Gaf c]
  refine(Dy (by simp[nin,a1])).trans ?_
  have pd:=qJ (vv:=ddD) i4 (l:=l) (k:=m) (v:=d) hk (by omega)
  have ap:iU l m d=l++[(m,d)]:=by
   unfold iU
   rw[Gaf]
   simp only[Gcg,GcH,not_exists,not_and]
   intro e he q
   exact c (Gay.mpr ⟨e,he,q⟩)
  rw[ap] at pd
  have pd' :putD (.dT (emb mkK ddD l)) (mkD m) (ddD d)=some (.dT (emb mkK ddD (l++[(m,d)]))):=pd
  simp[m11,hK2,h2,jm id,RV.free,pd']
theorem va(l:List Ent):lE (emb mkK ddD l)=l.map enD:=by
 unfold lE emb
 rw[Gbr]
 rfl
theorem vb{ns:List Int}{N:Nat}(hN:N≤100):∀{mn:Int},mn=(N:Int)→cZ [.scr ns,.int mn,.int 3,.int 3,.int 1]=some (.lst ((gJ ns N).map enD)):=by
 intro mn hmn
 have sm:bw mn=true:=cq (by omega) (by omega)
 obtain⟨e,he,y6,y7,rfl⟩:=oY (g:=gN 6) (body:=bV) (λi env=>∃y6 y7,env=[some (.sh (.scr ns)),some (.sh (.int mn)),some (.sh (.int 3)),some (.sh (.int 3)),some (.sh (.int 1)),some (.own (.dT (emb mkK ddD (gJ ns i)))),y6,y7]) (aA 0 N) 0 [some (.sh (.scr ns)),some (.sh (.int mn)),some (.sh (.int 3)),some (.sh (.int 3)),some (.sh (.int 1)),some (.own (.dT [])),none,none] ⟨none,none,rfl⟩ (by
  rintro i d env hd ⟨y6,y7,rfl⟩
  obtain⟨hi,rfl⟩:=mS hd
  rw[Gdm]
  refine⟨_,_,rfl,Ab (j:=0+(i:Int)) (A9 (k:=4000+11*(i:Int)) (by omega) (by omega)) (Dz (k:=4002+11*(i:Int)) (by omega) (by omega)) (by omega) (by omega) (by have:=k7 ns i;omega), ?_⟩
  exact⟨_,_,rfl⟩)
 rw[dP,Gdm] at he
 have hr:aA 0 mn.toNat=aA 0 N:=by rw[hmn];simp
 generalize gJ ns N=l at*
 have im:bH ((emb mkK ddD l).map (·.2))=true:=f9 (p:=λd=>d.imm=true) (λ_ h=>h) λd hd=>by
  unfold emb at hd
  rw[Gbr] at hd
  obtain⟨x,_,rfl⟩:=Gay.mp hd
  exact p9 x.2
 have im2:=mW l
 have it:=va l
 generalize emb mkK ddD l=kvs at*
 generalize l.map enD=eds at*
 show fm 8 5 bN _=_
 refine dO rfl ?_
 show bN [some (.sh (.scr ns)),some (.sh (.int mn)),some (.sh (.int 3)),some (.sh (.int 3)),some (.sh (.int 1)),none,none,none]=_
 unfold bN
 refine(aE (e:=[some (.sh (.scr ns)),some (.sh (.int mn)),some (.sh (.int 3)),some (.sh (.int 3)),some (.sh (.int 1)),some (.own (.dT [])),none,none]) (by simp[DL.stored])).trans ?_
 refine(aE (e:=[some (.sh (.scr ns)),some (.sh (.int mn)),some (.sh (.int 3)),some (.sh (.int 3)),some (.sh (.int 1)),some (.own (.dT kvs)),y6,y7]) (by simp[sm,hr,he,freed])).trans ?_
 simp[im,it,g8,D.gx,im2]
theorem FX{ns:List Int}{k:Int}(hk:0≤k)(hk2:k<100000){xs:List D}{j i:Int}{row:List D}(hj:0≤j)(hj2:j<100000)(hr:row.Perm xs)(hl:xs.length≤1000)(h0:0<row.length):∃row',row'.Perm xs∧
  bx [some (.sh (.scr ns)),some (.sh (.int k)),some (.sh (.lst xs)),some (.own (.lst row)),some (.sh (.int j))]=some (.nx [some (.sh (.scr ns)),some (.sh (.int k)),some (.sh (.lst xs)),some (.own (.lst row')),some (.sh (.int j))]):=by
 have e0:=cM (ns:=ns) (k:=k+j) (by omega) (by omega)
 have ll:=hr.length_eq
 have hL:cC [.lst row]=some ⟨.c,.int (row.length:Int)⟩:=rfl
 have hp:0<(row.length:Int):=by omega
 have r:=mxm ns (k+j) (row.length:Int) hp
 have sm:bw (mx ns (k+j)%(row.length:Int))=true:=cq (by omega) (by omega)
 have hy:row[row.length -1]? =some (row[row.length -1]'(by omega)):=Gaa _
 generalize hyy:row[row.length -1]'(by omega)=y at hy
 have z:row.length<16777216:=by omega
 have pm:(dW row.dropLast (mx ns (k+j)%(row.length:Int)) y).Perm xs:=by
  refine(rj _ _ _).trans (List.Perm.trans ?_ hr)
  have ne:row≠[]:=List.ne_nil_of_length_pos h0
  have e1:row.dropLast++[row.getLast ne]=row:=List.dropLast_concat_getLast ne
  have e2:row.getLast ne=y:=by rw[←hyy];exact List.getLast_eq_getElem ne
  rw[e2] at e1
  conv=>rhs;rw[←e1]
  exact(List.perm_append_singleton y row.dropLast).symm
 refine⟨_,pm, ?_⟩
 unfold bx
 generalize (row.length:Int)=L at*
 simp[e0,hL,hp,hy,z,sm,ao,-cG]
theorem FY{ns:List Int}{k:Int}(hk:0≤k)(hk2:k<100000){xs:List D}{j:Int}{row:List D}(hj:0≤j)(hj2:j<100000)(h0:0<row.length)(hl:row.length≤10000):∃y∈row,
  bz [some (.sh (.scr ns)),some (.sh (.int k)),some (.sh (.lst xs)),some (.own (.lst row)),some (.sh (.int j))]=some (.nx [some (.sh (.scr ns)),some (.sh (.int k)),some (.sh (.lst xs)),some (.own (.lst (row++[y]))),some (.sh (.int j))]):=by
 have e0:=cM (ns:=ns) (k:=k+50+j) (by omega) (by omega)
 have hL:cC [.lst row]=some ⟨.c,.int (row.length:Int)⟩:=rfl
 have hp:0<(row.length:Int):=by omega
 have r:=mxm ns (k+50+j) (row.length:Int) hp
 have ix:ixD (.lst row) (.int (mx ns (k+50+j)%(row.length:Int)))=some (row[(mx ns (k+50+j)%(row.length:Int)).toNat]'(by omega)):=by
  show atD row _=_
  rw[AX r.1]
  exact Gaa _
 generalize hyy:row[(mx ns (k+50+j)%(row.length:Int)).toNat]'(by omega)=y at ix
 have z:row.length<16777216:=by omega
 refine⟨y,by rw[←hyy];exact GaN _, ?_⟩
 clear hyy r
 unfold bz
 generalize (row.length:Int)=L at*
 simp[e0,hL,hp,ix,z,ao,RV.free,-cG,-kL]
theorem vc{ns:List Int}{k L L2:Int}{xs row row2:List D}{y4 y42:Option Slot}(hL:cC [.lst xs]=some ⟨.c,.int L⟩)(hL2:cC [.lst row]=some ⟨.c,.int L2⟩)(sm:bw L=true)(sm2:bw (L2/4)=true)(im2:bH row2=true)
  (he:forL (gN 4) bx (aA 0 L.toNat) [some (.sh (.scr ns)),some (.sh (.int k)),some (.sh (.lst xs)),some (.own (.lst xs)),none]=some (.nx [some (.sh (.scr ns)),some (.sh (.int k)),some (.sh (.lst xs)),some (.own (.lst row)),y4]))
  (he2:forL (gN 4) bz (aA 0 (L2/4).toNat) [some (.sh (.scr ns)),some (.sh (.int k)),some (.sh (.lst xs)),some (.own (.lst row)),y4]=some (.nx [some (.sh (.scr ns)),some (.sh (.int k)),some (.sh (.lst xs)),some (.own (.lst row2)),y42])):
  aY [.scr ns,.int k,.lst xs]=some (.lst row2):=by
 show fm 5 3 b8 _=_
 refine dO rfl ?_
 show b8 [some (.sh (.scr ns)),some (.sh (.int k)),some (.sh (.lst xs)),none,none]=_
 unfold b8
 refine(aE (e:=[some (.sh (.scr ns)),some (.sh (.int k)),some (.sh (.lst xs)),some (.own (.lst xs)),none]) (by simp[DL.stored])).trans ?_
 refine(aE (e:=[some (.sh (.scr ns)),some (.sh (.int k)),some (.sh (.lst xs)),some (.own (.lst row)),y4]) (by simp[hL,sm,he,freed,-cG])).trans ?_
 refine(aE (e:=[some (.sh (.scr ns)),some (.sh (.int k)),some (.sh (.lst xs)),some (.own (.lst row2)),y42]) (by simp[hL2,sm2,he2,freed,-cG])).trans ?_
 simp[g8,D.gx,im2]
theorem su{ns:List Int}{k:Int}(hk:0≤k)(hk2:k<100000){xs:List D}(hl:xs.length≤1000)(im:∀d∈xs,d.imm=true):∃ys:List D,aY [.scr ns,.int k,.lst xs]=some (.lst ys)∧(∀d,d∈ys↔d∈xs)∧ys.length≤xs.length+xs.length/4:=by
 have sm:bw (xs.length:Int)=true:=cq (by omega) (by omega)
 obtain⟨e,he,row,y4,rfl,hrow⟩:=tR (g:=gN 4) (body:=bx) (λenv=>∃row y4,env=[some (.sh (.scr ns)),some (.sh (.int k)),some (.sh (.lst xs)),some (.own (.lst row)),y4]∧row.Perm xs) (aA 0 xs.length) [some (.sh (.scr ns)),some (.sh (.int k)),some (.sh (.lst xs)),some (.own (.lst xs)),none] ⟨xs,none,rfl,List.Perm.refl _⟩ (by
  rintro d hd env ⟨row,y4,rfl,hr⟩
  obtain⟨j,hj,rfl⟩:=sf hd
  have ll:=hr.length_eq
  obtain⟨row',h1,h2⟩:=FX (ns:=ns) hk hk2 (j:=0+(j:Int)) (i:=0) (by omega) (by omega) hr hl (by omega)
  exact⟨_,_,rfl,h2,row',_,rfl,h1⟩)
 have ll:=hrow.length_eq
 have sm2:bw ((row.length:Int)/4)=true:=cq (by omega) (by omega)
 obtain⟨e2,he2,row2,y42,rfl,hm,hl2⟩:=oY (g:=gN 4) (body:=bz) (λi env=>∃row2 y4,env=[some (.sh (.scr ns)),some (.sh (.int k)),some (.sh (.lst xs)),some (.own (.lst row2)),y4]∧(∀d,d∈row2↔d∈xs)∧row2.length=row.length+i) (aA 0 ((row.length:Int)/4).toNat) 0 [some (.sh (.scr ns)),some (.sh (.int k)),some (.sh (.lst xs)),some (.own (.lst row)),y4] ⟨row,y4,rfl,λd=>hrow.mem_iff,by simp⟩ (by
  rintro i d env hd ⟨row2,y4,rfl,h1,h2⟩
  obtain⟨hi,rfl⟩:=mS hd
  obtain⟨y,hy,h3⟩:=FY (ns:=ns) hk hk2 (xs:=xs) (j:=0+(i:Int)) (row:=row2) (by omega) (by omega) (by omega) (by omega)
  refine⟨_,_,rfl,h3,row2++[y],_,rfl,λd=> ?_,by simp;omega⟩
  rw[GaL,h1 d,GaV]
  constructor
  ·rintro(q|q)
   ·exact q
   ·rw[q];exact(h1 y).mp hy
  ·exact .inl)
 rw[dP] at hl2
 refine⟨row2, ?_,hm,by omega⟩
 have im2:bH row2=true:=f9 (p:=λd=>d.imm=true) (λ_ h=>h) λd hd=>im d ((hm d).mp hd)
 have hr:aA 0 (xs.length:Int).toNat=aA 0 xs.length:=by simp
 rw[←hr] at he
 exact vc rfl rfl sm sm2 im2 he he2
theorem nY{α S τ:Type}{g:DG}{body:DS}(eb:α→D)(E:S→τ→DL.Env)(f:S→α→S)(P:Nat→S→Prop):∀(xs:List α) (k:Nat) (s:S) (t:τ),P k s→
  (∀a∈xs,∀i s t,P i s→i<k+xs.length→∃e1 t',g (eb a) (E s t)=some e1∧body e1=some (.nx (E (f s a) t'))∧P (i+1) (f s a))→∃t',forL g body (xs.map eb) (E s t)=some (.nx (E (xs.foldl f s) t'))∧P (k+xs.length) (xs.foldl f s)
 |[],k,s,t,h,_=> ⟨t,rfl,h⟩
 |a::xs,k,s,t,h,st=>by
  obtain⟨e1,t',h1,h2,h3⟩:=st a Gap k s t h (by simp)
  obtain⟨t2,h4,h5⟩:=nY eb E f P xs (k+1) (f s a) t' h3 λb hb i s t hP hi=>st b (Gai _ hb) i s t hP (by simp at hi⊢;omega)
  refine⟨t2,by simp[forL,h1,h2,h4], ?_⟩
  rw[show k+(a::xs).length=k+1+xs.length by simp;omega]
  exact h5
theorem Hb(e:Ent):ixD (enD e) (.int 0)=some (mkD e.1):=rfl
theorem AW(a b:Str):eqB (.str a) (.str b)=some (a==b):=by simp[eqB]
theorem d0{α:Type} [DecidableEq α]:∀{l m:List α},l.Nodup→(∀a∈l,a∈m)→l.length≤m.length
 |[],_,_,_=>GaT _
 |a::l,m,h,hs=>by
  rw[Gby] at h
  have ha:=hs a Gap
  have:=d0 (m:=m.erase a) h.2 λb hb=>(List.mem_erase_of_ne (λe=>h.1 (by rw[←e];exact hb))).mpr (hs b (Gai _ hb))
  rw[List.length_erase_of_mem ha] at this
  have hp:=List.length_pos_of_mem ha
  simp;omega
noncomputable def vd(e:Ent):List Ent→List Ent
 |[]=>[e]
 |f::fs=>if ltC (code (mkD e.1)) (code (mkD f.1)) then e::f::fs else f::vd e fs
noncomputable def cy:List Ent→List Ent
 |[]=>[]
 |e::es=>vd e (cy es)
theorem qK(e:Ent):∀fs:List Ent,pO cdN (enD e) (fs.map enD)=(vd e fs).map enD
 |[]=>rfl
 |f::fs=>by
  show(if ltC (code (mkD e.1)) (code (mkD f.1)) then _ else _)=_
  unfold vd
  split
  ·rfl
  ·rw[GaH];rw[←qK e fs]
theorem i5:∀es:List Ent,gc cdN (es.map enD)=(cy es).map enD
 |[]=>rfl
 |e::es=>by
  show pO cdN (enD e) (gc cdN (es.map enD))=_
  rw[i5 es,qK];rfl
theorem nZ(e:Ent):∀fs:List Ent,(vd e fs).Perm (e::fs)
 |[]=>List.Perm.refl _
 |f::fs=>by
  unfold vd
  split
  ·exact List.Perm.refl _
  ·exact((nZ e fs).cons f).trans (List.Perm.swap e f fs)
theorem b9:∀es:List Ent,(cy es).Perm es
 |[]=>List.Perm.refl _
 |e::es=>(nZ e _).trans ((b9 es).cons e)
theorem pj(es:List Ent):(cy es).Pairwise λa b=>ltC (code (mkD b.1)) (code (mkD a.1))=false:=by
 have:=df (cd:=cdN) (es.map enD)
 rw[i5] at this
 unfold fO at this
 rw[List.pairwise_map] at this
 exact this
theorem tX(m:Mk):[D.str m.1,D.int m.2].all ff=true:=rfl
theorem kB{a b:Mk}(h:code (mkD a)=code (mkD b)):a=b:=by
 have:[D.str a.1,D.int a.2]=[D.str b.1,D.int b.2]:=jQ (tX a) (tX b) h
 obtain⟨x,i⟩:=a
 obtain⟨y,j⟩:=b
 simp at this
 rw[this.1,this.2]
theorem Ac(a b:Mk):rh (mkD a) (mkD b)=true:=by
 show j0 [.str a.1,.int a.2] [.str b.1,.int b.2]=true
 unfold j0
 split
 ·unfold j0
  split<;>rfl
 ·rfl
theorem ve(ms:List Mk):keysOk (ms.map mkD)=true:=by
 unfold keysOk
 have h2:(ms.map mkD).all (fq 2)=true:=by
  rw[Gao]
  intro d hd
  obtain⟨m,_,rfl⟩:=Gay.mp hd
  rfl
 have h3:((ms.map mkD).all λx=>(ms.map mkD).all λy=>rh x y)=true:=by
  rw[Gao]
  intro d hd
  rw[Gao]
  intro d' hd'
  obtain⟨m,_,rfl⟩:=Gay.mp hd
  obtain⟨m',_,rfl⟩:=Gay.mp hd'
  exact Ac m m'
 rw[h2,h3];simp
theorem o5{es:List Ent}(h:(es.map (·.1)).Nodup):cH (es.map enD)=true:=by
 unfold cH
 have e1:(es.map enD).map iE=(es.map (·.1)).map mkD:=by rw[Gbr,Gbr];rfl
 have h0:(es.map enD).all cR=true:=by
  rw[Gao]
  intro d hd
  obtain⟨m,_,rfl⟩:=Gay.mp hd
  rfl
 have h2:((es.map (·.1)).map mkD).all (fq 2)=true:=by
  rw[Gao]
  intro d hd
  obtain⟨m,_,rfl⟩:=Gay.mp hd
  rfl
 have h3:(((es.map (·.1)).map mkD).all λx=>((es.map (·.1)).map mkD).all λy=>rh x y)=true:=by
  rw[Gao]
  intro d hd
  rw[Gao]
  intro d' hd'
  obtain⟨m,_,rfl⟩:=Gay.mp hd
  obtain⟨m',_,rfl⟩:=Gay.mp hd'
  exact Ac m m'
 have h4:pP ((es.map enD).map cdN)=true:=by
  rw[dE]
  have:(es.map enD).map cdN=(es.map (·.1)).map λm=>code (mkD m):=by rw[Gbr,Gbr];rfl
  rw[this]
  exact List.Pairwise.map _ (λa b hab=>λe=>hab (kB e)) h
 rw[e1,h0,h2,h3,h4];simp
theorem k8{α β:Type}{f:α→β}{p:α→Bool}{l:List α}(h:(l.map f).Nodup):((l.filter p).map f).Nodup:=h.sublist (List.filter_sublist.map f)
theorem vf{α β:Type}(kk:α→List Key)(vv:β→D)(l:List (α×β)):dX (emb kk vv l)=l.map λe=> .tup ((kk e.1).map lD):=by
 unfold dX emb
 rw[Gbr]
 rfl
theorem Ad{es:List Ent}(h:(es.map (·.1)).Nodup)(hl:es.length≤60):j2 [.lst (es.map enD)]=some ⟨.tn,.lst ((cy es).map enD)⟩:=by
 show(if(decide ((es.map enD).length<64)&&cH (es.map enD))=true then some (RV.mk .tn (.lst (gc cdN (es.map enD)))) else none)=_
 rw[o5 h,Gan,GaB (by omega),i5]
 rfl
theorem BO{a b:oZ}(h:ddD a=ddD b):a=b:=by
 cases a<;>cases b<;>simp[ddD] at h
 ·obtain⟨h1,h2,h3⟩:=h;subst h1 h2 h3;rfl
 ·rw[p5 h]
 ·rw[p5 h.1,h.2]
 ·obtain⟨h1,h2,h3⟩:=h;subst h1 h2 h3;rfl
theorem BP{a b:Ent}(h:enD a=enD b):a=b:=by
 obtain⟨m,d⟩:=a
 obtain⟨m',d'⟩:=b
 simp[enD] at h
 rw[p5 h.1,BO h.2]
theorem o6{α:Type}{f:α→D}{es:List α}:∀(ys:List D),(∀d∈ys,d∈es.map f)→∃log:List α,ys=log.map f∧∀e∈log,e∈es
 |[],_=> ⟨[],rfl,λe h=>by cases h⟩
 |d::ys,h=>by
  obtain⟨e,he,rfl⟩:=Gay.mp (h d Gap)
  obtain⟨log,h1,h2⟩:=o6 ys λx hx=>h x (Gai _ hx)
  refine⟨e::log,by rw[h1];rfl,λx hx=> ?_⟩
  rcases Gar.mp hx with q|q
  ·rw[q];exact he
  ·exact h2 x q
theorem mX(n:Nat)(m:Mk):ae (n+2) [mkD m,mkD m]=some (.bl true):=du (by simp) (by
 intro d hd
 rcases Gar.mp hd with q|hd
 ·rw[q];exact fD n _
 ·rw[GaV.mp hd];exact cx n _)
theorem Ae(n:Nat)(d:oZ):ae (n+3) [ddD d,ddD d]=some (.bl true):=by
 cases d with
 |we g h w=>
  refine du (by simp) λd hd=> ?_
  rcases Gar.mp hd with q|hd
  ·rw[q];exact fD (n+1) _
  rcases Gar.mp hd with q|hd
  ·rw[q];exact cx (n+1) _
  rcases Gar.mp hd with q|hd
  ·rw[q];exact cx (n+1) _
  ·rw[GaV.mp hd];exact cx (n+1) _
 |st m=>
  refine du (by simp) λd hd=> ?_
  rcases Gar.mp hd with q|hd
  ·rw[q];exact fD (n+1) _
  ·rw[GaV.mp hd];exact mX n _
 |am m a=>
  refine du (by simp) λd hd=> ?_
  rcases Gar.mp hd with q|hd
  ·rw[q];exact fD (n+1) _
  rcases Gar.mp hd with q|hd
  ·rw[q];exact mX n _
  ·rw[GaV.mp hd];exact cx (n+1) _
 |gi o h a=>
  refine du (by simp) λd hd=> ?_
  rcases Gar.mp hd with q|hd
  ·rw[q];exact fD (n+1) _
  rcases Gar.mp hd with q|hd
  ·rw[q];exact cx (n+1) _
  rcases Gar.mp hd with q|hd
  ·rw[q];exact cx (n+1) _
  ·rw[GaV.mp hd];exact cx (n+1) _
theorem qL(n:Nat)(e:Ent):ae (n+4) [enD e,enD e]=some (.bl true):=du (by simp) (by
 intro d hd
 rcases Gar.mp hd with q|hd
 ·rw[q];exact mX (n+1) _
 ·rw[GaV.mp hd];exact Ae n _)
theorem o7{l:List Ent}(h:l.length≤1000):aU [.lst (l.map enD),.lst (l.map enD)]=some (.bl true):=k6 (n:=6) (by simpa using h) (by
 intro d hd
 obtain⟨e,_,rfl⟩:=Gay.mp hd
 exact qL 2 e)
theorem DB(e:Ent):eqD (enD e) (enD e)=true:=by
 obtain⟨⟨h,n⟩,d⟩:=e
 cases d<;>simp[enD,ddD,mkD]
theorem DC(e:Ent):neB (enD e) (enD e)=some false:=by
 have h1:(enD e).plain=true:=by
  obtain⟨⟨h,n⟩,d⟩:=e
  cases d<;>simp[enD,ddD,mkD]
 unfold neB
 rw[h1,DB]
 rfl
noncomputable def fE(l:List (Mk×Ent))(e:Ent):List (Mk×Ent):=if(d6 l e.1).isSome then l else iU l e.1 e
noncomputable def Keeps(es:List Ent)(l:List (Mk×Ent)):Prop:=(l.map (·.1)).Nodup∧∀m x,d6 l m=some x→x∈es∧x.1=m
theorem uniq{es:List Ent}(nd:(es.map (·.1)).Nodup){x y:Ent}(hx:x∈es)(hy:y∈es)(h:x.1=y.1):x=y:=fP nd x hx y hy h
theorem kC{es:List Ent}{l:List (Mk×Ent)}{e:Ent}(K:Keeps es l)(he:e∈es):Keeps es (fE l e):=by
 unfold fE
 split
 ·exact K
 ·refine⟨si K.1,λm x h=> ?_⟩
  rw[qG] at h
  split at h
  ·rename_i q
   cases h
   exact⟨he,q.symm⟩
  ·exact K.2 m x h
theorem vg{l:List (Mk×Ent)}{e:Ent}:(fE l e).length≤l.length+1:=by
 unfold fE
 split
 ·omega
 ·exact A7
theorem o8{es:List Ent}(nd:(es.map (·.1)).Nodup){l:List (Mk×Ent)}{e x:Ent}(K:Keeps es l)(he:e∈es)(hx:x∈es):d6 (fE l e) x.1=some x↔d6 l x.1=some x∨x=e:=by
 unfold fE
 cases q:d6 l e.1 with
 |some y=>
  have hy:=K.2 e.1 y q
  have:y=e:=uniq nd hy.1 he hy.2
  subst this
  simp only[Option.isSome_some,Gbp]
  constructor
  ·exact .inl
  ·rintro(h|rfl)
   ·exact h
   ·exact q
 |none=>
  simp only[Option.isSome_none,Gax,GaS]
  rw[qG]
  by_cases c:x.1=e.1
  ·have:x=e:=uniq nd hx he c
   subst this
   simp
  ·rw[Gaf c]
   constructor
   ·exact .inl
   ·rintro(h|rfl)
    ·exact h
    ·exact absurd rfl c
theorem o9{es:List Ent}(nd:(es.map (·.1)).Nodup){x:Ent}(hx:x∈es):∀(xs:List Ent) (l:List (Mk×Ent)),(∀e∈xs,e∈es)→Keeps es l→(d6 (xs.foldl fE l) x.1=some x↔d6 l x.1=some x∨x∈xs)
 |[],l,_,K=>by simp
 |e::xs,l,h,K=>by
  have he:=h e Gap
  rw[GcA,o9 nd hx xs _ (λy hy=>h y (Gai _ hy)) (kC K he),o8 nd K he hx,Gar,or_assoc]
theorem qM{es:List Ent}(nd:(es.map (·.1)).Nodup){ks:List Mk}(hk:ks.Nodup)(P:Ent→Bool)(hm:∀m,m∈ks↔∃e∈es,P e=true∧e.1=m):kh (ks.map mkD)=((cy es).filter P).map λe=>mkD e.1:=by
 have nd2:(((cy es).filter P).map (·.1)).Nodup:=k8 (((b9 es).map _).nodup_iff.mpr nd)
 have pm:ks.Perm (((cy es).filter P).map (·.1)):=kz hk nd2 λm=>by
  rw[hm]
  constructor
  ·rintro⟨e,he,hp,rfl⟩
   exact Gay.mpr ⟨e,GbR.mpr ⟨(b9 es).mem_iff.mpr he,hp⟩,rfl⟩
  ·intro h
   obtain⟨e,he,rfl⟩:=Gay.mp h
   obtain⟨q1,q2⟩:=GbR.mp he
   exact⟨e,(b9 es).mem_iff.mp q1,q2,rfl⟩
 have e2:(((cy es).filter P).map λe=>mkD e.1)=(((cy es).filter P).map (·.1)).map mkD:=by rw[Gbr];rfl
 refine fg ((dC _).trans ?_) (fN _) ?_ λa ha b hb e=> ?_
 ·rw[e2];exact pm.map mkD
 ·unfold fM
  rw[List.pairwise_map]
  exact(pj es).filter _
 ·have ha' :=(dC _).mem_iff.mp ha
  have hb' :=(dC _).mem_iff.mp hb
  obtain⟨x,_,rfl⟩:=Gay.mp ha'
  obtain⟨y,_,rfl⟩:=Gay.mp hb'
  rw[kB e]
theorem BQ{es:List Ent}(nd:(es.map (·.1)).Nodup){A B:D}{l:List (Mk×Ent)}{e:Ent}{x5:Option Slot}(K:Keeps es l)(he:e∈es)(hl:l.length<1000):
  d5 [some (.sh A),some (.sh B),some (.own (.dT (emb mkK enD l))),some (.own (.lst [])),some (.sh (enD e)),x5]=some (.nx [some (.sh A),some (.sh B),some (.own (.dT (emb mkK enD (fE l e)))),some (.own (.lst [])),some (.sh (enD e)),some (.sh (mkD e.1))]):=by
 have h0:=Hb e
 have hn:=DC e
 have lk:∀l:List (Mk×Ent),ixD (.dT (emb mkK enD l)) (mkD e.1)=(d6 l e.1).map enD:=λl=>by
  show ixD (.dT _) (.tup [.str e.1.1,.int e.1.2])=_
  rw[vK,jo]
  show look _ (mkK e.1)=_
  rw[jn i4]
 have hin:pM (mkD e.1) (.dT (emb mkK enD l))=some (!(d6 l e.1).isSome):=by
  unfold pM
  show Option.map _ (inB (.tup [.str e.1.1,.int e.1.2]) (.dT _))=_
  rw[vL,jo]
  show some (!(look _ (mkK e.1)).isSome)=_
  rw[jn i4]
  simp
 have pd:putD (.dT (emb mkK enD l)) (mkD e.1) (enD e)=some (.dT (emb mkK enD (iU l e.1 e))):=qJ i4 (jo e.1) (by omega)
 have lk2:ixD (.dT (emb mkK enD (fE l e))) (mkD e.1)=some (enD e):=by
  rw[lk,(o8 nd K he he).mpr (.inr rfl)]
  rfl
 unfold d5
 have t1:∃kv,kv=emb mkK enD (fE l e)∧ifS (dz pM (vE 5) (vE 2)) (AU 2 (vE 5) (vE 4)) cw [some (.sh A),some (.sh B),some (.own (.dT (emb mkK enD l))),some (.own (.lst [])),some (.sh (enD e)),some (.sh (mkD e.1))]=some (.nx [some (.sh A),some (.sh B),some (.own (.dT kv)),some (.own (.lst [])),some (.sh (enD e)),some (.sh (mkD e.1))]):=by
  refine⟨_,rfl, ?_⟩
  unfold fE
  generalize enD e=ed at*
  generalize mkD e.1=md at*
  cases c:(d6 l e.1).isSome with
  |true=>
   rw[c] at hin
   simp only[Gbp]
   generalize emb mkK enD l=kv at*
   simp[hin]
  |false=>
   rw[c] at hin
   simp only[Gax,GaS]
   generalize emb mkK enD l=kv at*
   simp[hin,pd,RV.free]
 obtain⟨kv,hkv,t1⟩:=t1
 rw[←hkv] at lk2⊢
 generalize emb mkK enD l=kv0 at*
 generalize enD e=ed at*
 generalize mkD e.1=md at*
 refine(aE (e:=[some (.sh A),some (.sh B),some (.own (.dT kv0)),some (.own (.lst [])),some (.sh ed),some (.sh md)]) (by simp[h0])).trans ?_
 refine(aE t1).trans ?_
 refine(FW (by simp[lk2,hn])).trans ?_
 rfl
noncomputable def mrg(es xs:List Ent):List Ent:=(cy es).filter λe=>decide (e∈xs)
theorem qN{a b ks res:List D}{kvs:List (List Key×D)}{y4 y5:Option Slot}(ha:a.length+b.length≤ao)
  (he:forL (gN 4) d5 (a++b) [some (.sh (.lst a)),some (.sh (.lst b)),some (.own (.dT [])),some (.own (.lst [])),none,none]=some (.nx [some (.sh (.lst a)),some (.sh (.lst b)),some (.own (.dT kvs)),some (.own (.lst [])),y4,y5]))
  (hs:j1 [.dT kvs]=some ⟨.tn,.lst ks⟩)(z3:ks.length≤ao)(c3:cF (gN 0) iZ (ixE (vE 1) (vE 0)) ks [none,some (.bor (.dT kvs))]=some res)(im:bH res=true):bM [.lst a,.lst b]=some (.lst res):=by
 show fm 6 2 cL _=_
 refine dO rfl ?_
 show cL [some (.sh (.lst a)),some (.sh (.lst b)),none,none,none,none]=_
 unfold cL
 refine(aE (e:=[some (.sh (.lst a)),some (.sh (.lst b)),some (.own (.dT [])),none,none,none]) (by simp[DL.stored])).trans ?_
 refine(aE (e:=[some (.sh (.lst a)),some (.sh (.lst b)),some (.own (.dT [])),some (.own (.lst [])),none,none]) (by simp[DL.stored])).trans ?_
 refine(aE (e:=[some (.sh (.lst a)),some (.sh (.lst b)),some (.own (.dT kvs)),some (.own (.lst [])),y4,y5]) (by simp[ha,he,freed,-forL])).trans ?_
 refine(aE (e:=[some (.sh (.lst a)),some (.sh (.lst b)),some (.own (.dT kvs)),some (.own (.lst [])),y4,y5]) (by simp)).trans ?_
 have c1:DL.compEnv 1 [2] [some (.sh (.lst a)),some (.sh (.lst b)),some (.own (.dT kvs)),some (.own (.lst [])),y4,y5]=[none,some (.bor (.dT kvs))]:=rfl
 simp[hs,c1,c3,z3,g8,D.gx,im,-cF]
theorem lg{es a b:List Ent}(nd:(es.map (·.1)).Nodup)(hl:es.length≤60)(ha:∀e∈a,e∈es)(hb:∀e∈b,e∈es)(la:a.length+b.length≤500):bM [.lst (a.map enD),.lst (b.map enD)]=some (.lst ((mrg es (a++b)).map enD)):=by
 have hab:∀e∈a++b,e∈es:=λe h=>(GaL.mp h).elim (ha e) (hb e)
 have K0:Keeps es []:=⟨GcN,λm x h=>by cases h⟩
 have base:=nY (g:=gN 4) (body:=d5) enD (λ(l:List (Mk×Ent)) (x:Option Slot×Option Slot)=>[some (.sh (.lst (a.map enD))),some (.sh (.lst (b.map enD))),some (.own (.dT (emb mkK enD l))),some (.own (.lst [])),x.1,x.2]) fE (λi l=>l.length≤i∧Keeps es l) (a++b) 0 [] (none,none) ⟨Gaq _,K0⟩ (by
  rintro e he i l t ⟨hP,K⟩ hi
  rw[GaR] at hi
  have:=vg (l:=l) (e:=e)
  exact⟨_,(some (.sh (enD e)),some (.sh (mkD e.1))),rfl,BQ nd K (hab e he) (by omega),by omega,kC K (hab e he)⟩)
 obtain⟨t,he,_,K⟩:=base
 have get:=λx (hx:x∈es)=>o9 nd hx (a++b) [] hab K0
 generalize (a++b).foldl fE []=l at*
 have ml:∀m,m∈l.map (·.1)↔∃e∈es,decide (e∈a++b)=true∧e.1=m:=λm=>by
  constructor
  ·intro h
   obtain⟨q,hq,rfl⟩:=Gay.mp h
   have g:=qH K.1 (k:=q.1) (v:=q.2) hq
   obtain⟨h1,h2⟩:=K.2 _ _ g
   rw[←h2] at g
   refine⟨q.2,h1,GaB ?_,h2⟩
   exact((get q.2 h1).mp g).elim (λz=>by cases z) id
  ·rintro⟨e,h1,h2,rfl⟩
   have g:=(get e h1).mpr (.inr (GaG h2))
   exact Gay.mpr ⟨_,qI g,rfl⟩
 have sk:=qM nd K.1 (λe=>decide (e∈a++b)) ml
 have ll:l.length≤60:=by
  have:=d0 K.1 (m:=es.map (·.1)) λm hm=>by
   obtain⟨e,h1,_,h3⟩:=(ml m).mp hm
   exact Gay.mpr ⟨e,h1,h3⟩
  simp only[Gan] at this
  omega
 have hk:dX (emb mkK enD l)=(l.map (·.1)).map mkD:=by rw[vf,Gbr];rfl
 have hs:j1 [.dT (emb mkK enD l)]=some ⟨.tn,.lst ((mrg es (a++b)).map λe=>mkD e.1)⟩:=by
  show(if(decide ((emb mkK enD l).length<64)&&keysOk (dX (emb mkK enD l)))=true then some (RV.mk .tn (.lst (kh (dX (emb mkK enD l))))) else none)=_
  rw[hk,tV,ve,GaB (by omega)]
  simp only[Bool.and_self,Gbp]
  rw[sk]
  rfl
 have lm:(mrg es (a++b)).length≤60:=by
  have:=List.length_filter_le (λe:Ent=>decide (e∈a++b)) (cy es)
  have:=(b9 es).length_eq
  unfold mrg
  omega
 have c3:=nW (g:=gN 0) (f:=ixE (vE 1) (vE 0)) (λe:Ent=>mkD e.1) (λenv=>∃y,env=[y,some (.bor (.dT (emb mkK enD l)))]) enD (mrg es (a++b)) [none,some (.bor (.dT (emb mkK enD l)))] ⟨none,rfl⟩ (by
  rintro e he env ⟨y,rfl⟩
  obtain⟨q1,q2⟩:=GbR.mp he
  have hin:=(b9 es).mem_iff.mp q1
  have g:=(get e hin).mpr (.inr (GaG q2))
  have lk:ixD (.dT (emb mkK enD l)) (mkD e.1)=some (enD e):=by
   show ixD (.dT _) (.tup [.str e.1.1,.int e.1.2])=_
   rw[vK,jo]
   show look _ (mkK e.1)=_
   rw[jn i4,g];rfl
  generalize emb mkK enD l=kvs at*
  generalize mkD e.1=md at*
  generalize enD e=dd at*
  exact⟨_,rfl,⟨_,rfl⟩,.c,by simp[lk],rfl⟩)
 refine qN (by rw[Gan,Gan];unfold ao;omega) (y4:=t.1) (y5:=t.2) ?_ hs (by rw[Gan];unfold ao;omega) c3 (mW _)
 rw[←GcB]
 exact he
theorem lh{es xs:List Ent}(h:∀e∈es,e∈xs):mrg es xs=cy es:=by
 unfold mrg
 exact List.filter_eq_self.mpr λe he=>GaB (h e ((b9 es).mem_iff.mp he))
theorem qO{ns:List Int}{k:Int}(hk:0≤k)(hk2:k<100000){r:List Ent}(hl:r.length≤120):∃r' :List Ent,aY [.scr ns,.int k,.lst (r.map enD)]=some (.lst (r'.map enD))∧(∀e,e∈r' ↔e∈r)∧r'.length≤r.length+r.length/4:=by
 obtain⟨ys,e2,hm,hy⟩:=su (ns:=ns) hk hk2 (xs:=r.map enD) (by simp;omega) (λd hd=>by
  obtain⟨e,_,rfl⟩:=Gay.mp hd
  exact tW e)
 obtain⟨log,rfl,h2⟩:=o6 (f:=enD) (es:=r) ys λd hd=>(hm d).mp hd
 refine⟨log,e2,λe=> ⟨h2 e,λhe=> ?_⟩, ?_⟩
 ·obtain⟨x,hx,q⟩:=Gay.mp ((hm (enD e)).mpr (Gay.mpr ⟨e,he,rfl⟩))
  rw[←BP q];exact hx
 ·simpa using hy
theorem DD(a b:oZ):eqD (ddD a) (ddD b)=decide (a=b):=by
 cases a<;>cases b<;>simp[ddD,A8]<;>first|rfl|(rw[Gdf];simp[and_assoc])|decide
theorem DF(a b:Ent):eqD (enD a) (enD b)=decide (a=b):=by
 obtain⟨m,d⟩:=a
 obtain⟨m',d'⟩:=b
 simp only[enD,eqD,fK,A8,DD,Bool.and_true]
 rw[Gdf]
 simp
noncomputable def dE1(acc:List Ent)(e:Ent):List Ent:=if acc.any (λx=>decide (x=e)) then acc else acc++[e]
noncomputable def k9(r:List Ent):List Ent:=r.foldl dE1 []
theorem Af:∀(r acc:List Ent),(r.map enD).foldl pQ (acc.map enD)=(r.foldl dE1 acc).map enD
 |[],acc=>rfl
 |e::r,acc=>by
  rw[GaH,GcA,GcA,←Af r]
  congr 1
  unfold pQ dE1
  rw[List.any_map]
  have:((λx=>eqD x (enD e))∘enD)=λx=>decide (x=e):=funext λx=>DF x e
  rw[this]
  split
  ·rfl
  ·rw[GcB];rfl
theorem tY(r:List Ent):lF (r.map enD)=(k9 r).map enD:=Af r []
theorem jq:∀(r acc:List Ent),acc.Nodup→(r.foldl dE1 acc).Nodup∧∀e,e∈r.foldl dE1 acc↔e∈acc∨e∈r
 |[],acc,h=> ⟨h,λe=>by simp⟩
 |x::r,acc,h=>by
  rw[GcA]
  have e0:dE1 acc x=if acc.any (λy=>decide (y=x)) then acc else acc++[x]:=rfl
  rw[e0]
  split
  ·rename_i c
   obtain⟨h1,h2⟩:=jq r acc h
   refine⟨h1,λe=> ?_⟩
   rw[h2,Gar]
   constructor
   ·rintro(q|q)
    ·exact .inl q
    ·exact .inr (.inr q)
   ·rintro(q|rfl|q)
    ·exact .inl q
    ·obtain⟨y,hy,hq⟩:=Gcg.mp c
     exact .inl ((GaG hq)▸hy)
    ·exact .inr q
  ·rename_i c
   have nx:x∉acc:=λhx=>c (Gcg.mpr ⟨x,hx,GaB rfl⟩)
   obtain⟨h1,h2⟩:=jq r (acc++[x]) (by
    rw[Gds]
    exact⟨h,by simp,λa ha b hb=>by rw[GaV.mp hb];exactλe=>nx (e▸ha)⟩)
   refine⟨h1,λe=> ?_⟩
   rw[h2,GaL,GaV,Gar,or_assoc]
theorem fW(r:List Ent):(k9 r).Nodup:=(jq r [] GcN).1
theorem fF(r:List Ent)(e:Ent):e∈k9 r↔e∈r:=by
 unfold k9
 rw[(jq r [] GcN).2]
 simp
theorem gK{es:List Ent}(nd:(es.map (·.1)).Nodup):∀{l:List Ent},l.Nodup→(∀e∈l,e∈es)→(l.map (·.1)).Nodup
 |[],_,_=>GcN
 |x::l,h,hl=>by
  rw[Gby] at h
  rw[GaH,Gby]
  refine⟨λhm=> ?_,gK nd h.2 λe he=>hl e (Gai _ he)⟩
  obtain⟨y,hy,e⟩:=Gay.mp hm
  have:=uniq nd (hl y (Gai _ hy)) (hl x Gap) e
  exact h.1 (this▸hy)
theorem FZ(e:Ent):(cR (enD e)&&imN 4 (enD e))=true:=by
 obtain⟨m,d⟩:=e
 cases d<;>simp[enD,ddD,mkD,cR,imN]
theorem Ah{es r:List Ent}(nd:(es.map (·.1)).Nodup)(hr:∀e∈r,e∈es)(hl:r.length<64){k:Cls}{env:DL.Env}{f:DE}(hf:f env=some ⟨k,.lst (r.map enD)⟩):dF f env=some ⟨.tn,.lst ((cy (k9 r)).map enD)⟩:=by
 have nm:=gK nd (fW r) λe he=>hr e ((fF r e).mp he)
 have ok:setOk (r.map enD)=true:=by
  unfold setOk
  rw[tY,o5 nm,Gan,GaB hl,List.all_map]
  simp only[Bool.and_true,Bool.true_and]
  exact Gao.mpr λe _=>FZ e
 unfold dF
 rw[hf]
 show(if setOk (r.map enD)=true then _ else _)=_
 rw[Gag ok,tY,i5]
theorem vh{es r:List Ent}(nd:(es.map (·.1)).Nodup)(hl:es.length≤60)(hr:∀e∈r,e∈es)(h5:r.length≤500):bM [.lst [],.lst (r.map enD)]=some (.lst ((cy (k9 r)).map enD)):=by
 have nm:=gK nd (fW r) λe he=>hr e ((fF r e).mp he)
 have ln:(k9 r).length≤60:=by
  have:=d0 (fW r) (m:=es) λe he=>hr e ((fF r e).mp he)
  omega
 have:=lg (es:=k9 r) (a:=[]) (b:=r) nm ln (by simp) (λe he=>(fF r e).mpr he) (by simpa using h5)
 rw[lh (es:=k9 r) (xs:=[]++r) λe he=>by simpa using(fF r e).mp he] at this
 exact this
noncomputable def fG(ns:List Int)(q:Int→Bool)(es:List Ent):List Ent:=((List.range es.length).filter λ(j:Nat)=>q (mx ns (5000+(0+(j:Int)))%3)).map λj=>es.getD j (("",0),.we 0 0 0)
theorem qP{ns:List Int}{q:Int→Bool}{es:List Ent}{e:Ent}(h:e∈fG ns q es):e∈es:=by
 obtain⟨j,hj,rfl⟩:=Gay.mp h
 have:=GaO.mp (GbR.mp hj).1
 simp[this]
theorem qQ{ns:List Int}{q:Int→Bool}{es:List Ent}:(fG ns q es).length≤es.length:=by
 unfold fG
 rw[Gan]
 exact GbJ (List.length_filter_le _ _) (by simp)
theorem Ai{ns:List Int}{p q:Int→Bool}{es:List Ent}(h:∀i:Int,0≤i→i<3→p i=true∨q i=true){e:Ent}(he:e∈es):e∈fG ns p es∨e∈fG ns q es:=by
 obtain⟨j,hj,rfl⟩:=Gcc he
 have b:=mxm ns (5000+(0+(j:Int))) 3 (by omega)
 have g:es.getD j (("",0),.we 0 0 0)=es[j]:=by simp[hj]
 rcases h _ b.1 b.2 with z|z
 ·exact .inl (Gay.mpr ⟨j,GbR.mpr ⟨GaO.mpr hj,z⟩,g⟩)
 ·exact .inr (Gay.mpr ⟨j,GbR.mpr ⟨GaO.mpr hj,z⟩,g⟩)
theorem oe{ns:List Int}{es:List Ent}{t:DT}{q:Int→Bool}{b:Option Slot}(hl:es.length≤60)(hb:b=some (.bor (.lst (es.map enD))))
  (ht:∀(j J M:Int),5000+j=J→ah [.scr ns,.int J]=some (.int M)→t [some (.sh (.int j)),some (.sh (.scr ns)),b]=some (q (M%3))):
  cF (gN 0) t (ixE (vE 2) (vE 0)) (aA 0 es.length) [none,some (.sh (.scr ns)),b]=some ((fG ns q es).map enD):=by
 have:=jZ (g:=gN 0) (t:=t) (f:=ixE (vE 2) (vE 0)) (λj:Nat=>D.int (0+(j:Int))) (λenv=>∃y,env=[y,some (.sh (.scr ns)),b]) (λj=>q (mx ns (5000+(0+(j:Int)))%3)) (λj=>enD (es.getD j (("",0),.we 0 0 0))) (List.range es.length) [none,some (.sh (.scr ns)),b] ⟨none,rfl⟩ (by
  rintro j hj env ⟨y,rfl⟩
  have hj' :=GaO.mp hj
  have hm:=cM (ns:=ns) (k:=5000+(0+(j:Int))) (by omega) (by omega)
  refine⟨_,rfl,⟨_,rfl⟩,ht _ _ _ rfl hm,λ_=> ⟨.c, ?_,rfl⟩⟩
  have ix:ixD (.lst (es.map enD)) (.int (0+(j:Int)))=some (enD (es.getD j (("",0),.we 0 0 0))):=by
   rw[kL,show(0:Int)+(j:Int)=(j:Int) by omega,oz,Gav,Gaa hj']
   simp[hj']
  rw[hb]
  generalize (0+(j:Int))=J at*
  simp[ix,-kL])
 unfold fG
 rw[Gbr]
 exact this
theorem vi{a b:List Ent}(ha:a.length≤1000)(hb:b.length≤1000):aU [.lst [.lst (a.map enD),.lst (b.map enD)],.lst [.lst (a.map enD),.lst (b.map enD)]]=some (.bl true):=by
 have one:∀l:List Ent,l.length≤1000→ae 6 [.lst (l.map enD),.lst (l.map enD)]=some (.bl true):=λl hl=>k6 (n:=5) (by simpa using hl) (by
  intro d hd
  obtain⟨e,_,rfl⟩:=Gay.mp hd
  exact qL 1 e)
 exact k6 (n:=6) (by simp) (by
  intro d hd
  rcases Gar.mp hd with z|z
  ·rw[z];exact one a ha
  ·rw[GaV.mp z];exact one b hb)
theorem Aj{F:List D→Option D}{K:Int}{ns:List Int}{eds a b r:List D}(h:F [.scr ns,.int K,.lst a]=some (.lst r)):cD 2 (aI F (a8 (vE 0) (a8 (kE (.int K)) (a8 (vE 2) ax)))) [some (.sh (.scr ns)),some (.own (.lst eds)),some (.own (.lst a)),some (.own (.lst b)),none,none,none,none]=some (.nx [some (.sh (.scr ns)),some (.own (.lst eds)),some (.own (.lst r)),some (.own (.lst b)),none,none,none,none]):=by simp[h,gp,DL.stored,D.top]
theorem Ak{F:List D→Option D}{K:Int}{ns:List Int}{eds a b r:List D}(h:F [.scr ns,.int K,.lst b]=some (.lst r)):cD 3 (aI F (a8 (vE 0) (a8 (kE (.int K)) (a8 (vE 3) ax)))) [some (.sh (.scr ns)),some (.own (.lst eds)),some (.own (.lst a)),some (.own (.lst b)),none,none,none,none]=some (.nx [some (.sh (.scr ns)),some (.own (.lst eds)),some (.own (.lst a)),some (.own (.lst r)),none,none,none,none]):=by simp[h,gp,DL.stored,D.top]
theorem Al{ns:List Int}{mn M:Int}{L:Int}{eds o1 o2 r1 r2 S T:List D}(e0:ah [.scr ns,.int 0]=some (.int M))(hmn:10+M%30=mn)(e1:cZ [.scr ns,.int mn,.int 3,.int 3,.int 1]=some (.lst eds))
  (hL:cC [.lst eds]=some ⟨.c,.int L⟩)(sm:bw L=true)(z:(aA 0 L.toNat).length≤ao)
  (c1:cF (gN 0) (dz ltB (opE d4 (aI ah (a8 (vE 1) (a8 (opE bY (kE (.int 5000)) (vE 0)) ax))) (kE (.int 3))) (kE (.int 2))) (ixE (vE 2) (vE 0)) (aA 0 L.toNat) [none,some (.sh (.scr ns)),some (.bor (.lst eds))]=some o1)
  (c2:cF (gN 0) (dz gtB (opE d4 (aI ah (a8 (vE 1) (a8 (opE bY (kE (.int 5000)) (vE 0)) ax))) (kE (.int 3))) (kE (.int 0))) (ixE (vE 2) (vE 0)) (aA 0 L.toNat) [none,some (.sh (.scr ns)),some (.bor (.lst eds))]=some o2)
  (h1:aY [.scr ns,.int 5100,.lst o1]=some (.lst r1))(h2:aY [.scr ns,.int 5300,.lst o2]=some (.lst r2))
  (hs:j2 [.lst eds]=some ⟨.tn,.lst S⟩)(m1:bM [.lst r1,.lst r2]=some (.lst S))(m2:bM [.lst r2,.lst r1]=some (.lst S))(m3:bM [.lst [],.lst r1]=some (.lst T))
  (st:∀env:DL.Env,vE 2 env=some ⟨.to,.lst r1⟩→dF (vE 2) env=some ⟨.tn,.lst T⟩)(m4:bM [.lst [],.lst S]=some (.lst S))
  (aS:aU [.lst S,.lst S]=some (.bl true))(aT:aU [.lst T,.lst T]=some (.bl true))(a2:aU [.lst [.lst r1,.lst r2],.lst [.lst r1,.lst r2]]=some (.bl true)):
  mQ [.scr ns]=some (.bl true):=by
 show fm 8 1 qE _=_
 refine dO rfl ?_
 show qE [some (.sh (.scr ns)),none,none,none,none,none,none,none]=_
 unfold qE
 have cE:∀x2 x3:Option Slot,DL.compEnv 1 [0,1] [some (.sh (.scr ns)),some (.own (.lst eds)),x2,x3,none,none,none,none]=[none,some (.sh (.scr ns)),some (.bor (.lst eds))]:=λ_ _=>rfl
 refine(aE (e:=[some (.sh (.scr ns)),some (.own (.lst eds)),none,none,none,none,none,none]) (by simp[e0,hmn,e1,gp,DL.stored,D.top])).trans ?_
 refine(aE (e:=[some (.sh (.scr ns)),some (.own (.lst eds)),some (.own (.lst o1)),none,none,none,none,none]) (by
  unfold cD ie
  simp only[aK]
  have:de (dA cC (a8 (vE 1) ax)) [some (.sh (.scr ns)),some (.own (.lst eds)),none,none,none,none,none,none]=some (aA 0 L.toNat):=by simp[hL,sm,-cG]
  rw[this,Option.bind_some,Gag z,cE,c1]
  rfl)).trans ?_
 refine(aE (e:=[some (.sh (.scr ns)),some (.own (.lst eds)),some (.own (.lst o1)),some (.own (.lst o2)),none,none,none,none]) (by
  unfold cD ie
  simp only[aK]
  have:de (dA cC (a8 (vE 1) ax)) [some (.sh (.scr ns)),some (.own (.lst eds)),some (.own (.lst o1)),none,none,none,none,none]=some (aA 0 L.toNat):=by simp[hL,sm,-cG]
  rw[this,Option.bind_some,Gag z,cE,c2]
  rfl)).trans ?_
 refine(aE (e:=[some (.sh (.scr ns)),some (.own (.lst eds)),some (.own (.lst r1)),some (.own (.lst o2)),none,none,none,none]) (Aj h1)).trans ?_
 refine(aE (e:=[some (.sh (.scr ns)),some (.own (.lst eds)),some (.own (.lst r1)),some (.own (.lst r2)),none,none,none,none]) (Ak h2)).trans ?_
 refine(aE (e:=[some (.sh (.scr ns)),some (.own (.lst eds)),some (.own (.lst r1)),some (.own (.lst r2)),some (.own (.lst [.lst r1,.lst r2])),none,none,none]) (by simp[DL.stored,RV.free,ao])).trans ?_
 refine(aE (e:=[some (.sh (.scr ns)),some (.own (.lst eds)),some (.own (.lst r1)),some (.own (.lst r2)),some (.own (.lst [.lst r1,.lst r2])),some (.own (.lst S)),none,none]) (by simp[hs,DL.stored])).trans ?_
 have i0:atD [D.lst r1,D.lst r2] 0=some (.lst r1):=rfl
 have i1:atD [D.lst r1,D.lst r2] 1=some (.lst r2):=rfl
 refine(aE (e:=[some (.sh (.scr ns)),some (.own (.lst eds)),some (.own (.lst r1)),some (.own (.lst r2)),some (.own (.lst [.lst r1,.lst r2])),some (.own (.lst S)),none,none]) (by simp[i0,i1,m1,m2,aS,gp,D.top])).trans ?_
 refine(aE (e:=[some (.sh (.scr ns)),some (.own (.lst eds)),some (.own (.lst r1)),some (.own (.lst r2)),some (.own (.lst [.lst r1,.lst r2])),some (.own (.lst S)),none,none]) (by
  have q:=st [some (.sh (.scr ns)),some (.own (.lst eds)),some (.own (.lst r1)),some (.own (.lst r2)),some (.own (.lst [.lst r1,.lst r2])),some (.own (.lst S)),none,none] rfl
  generalize dF (vE 2)=F at q⊢
  simp[i0,m3,aT,q,gp,D.top,RV.free])).trans ?_
 refine(aE (e:=[some (.sh (.scr ns)),some (.own (.lst eds)),some (.own (.lst r1)),some (.own (.lst r2)),some (.own (.lst [.lst r1,.lst r2])),some (.own (.lst S)),some (.own (.lst S)),none]) (by simp[hs,DL.stored])).trans ?_
 refine(aE (e:=[some (.sh (.scr ns)),some (.own (.lst eds)),some (.own (.lst r1)),some (.own (.lst r2)),some (.own (.lst [.lst r1,.lst r2])),some (.own (.lst S)),some (.own (.lst S)),some (.own (.lst S))]) (by simp[m4,gp,D.top,DL.stored,RV.free])).trans ?_
 refine(aE (e:=[some (.sh (.scr ns)),some (.own (.lst eds)),some (.own (.lst r1)),some (.own (.lst r2)),some (.own (.lst [.lst r1,.lst r2])),some (.own (.lst S)),some (.own (.lst S)),some (.own (.lst S))]) (by simp[aS])).trans ?_
 refine(aE (e:=[some (.sh (.scr ns)),some (.own (.lst eds)),some (.own (.lst r1)),some (.own (.lst r2)),some (.own (.lst [.lst r1,.lst r2])),some (.own (.lst S)),some (.own (.lst S)),some (.own (.lst []))]) (by simp)).trans ?_
 simp[aS,a2,RV.free,ao,g8,D.imm]
theorem Am(ns:List Int)(h63:ns.length≤63):mQ [.scr ns]=some (.bl true):=by
 have b0:=mxm ns 0 30 (by omega)
 have e0:=cM (ns:=ns) (k:=0) (by omega) (by omega)
 obtain⟨N,hN⟩:∃N:Nat,10+mx ns 0%30=(N:Int):=⟨(10+mx ns 0%30).toNat,by omega⟩
 have e1:=vb (ns:=ns) (N:=N) (by omega) hN
 have nd:=kA ns N
 have le:=k7 ns N
 generalize gJ ns N=es at*
 have hl:es.length≤39:=by omega
 have t1:∀(j J M:Int),5000+j=J→ah [.scr ns,.int J]=some (.int M)→dz ltB (opE d4 (aI ah (a8 (vE 1) (a8 (opE bY (kE (.int 5000)) (vE 0)) ax))) (kE (.int 3))) (kE (.int 2)) [some (.sh (.int j)),some (.sh (.scr ns)),some (.bor (.lst (es.map enD)))]=some (decide (M%3<2)):=λj J M h1 h2=>by
  generalize es.map enD=eds
  simp[h1,h2]
 have t2:∀(j J M:Int),5000+j=J→ah [.scr ns,.int J]=some (.int M)→dz gtB (opE d4 (aI ah (a8 (vE 1) (a8 (opE bY (kE (.int 5000)) (vE 0)) ax))) (kE (.int 3))) (kE (.int 0)) [some (.sh (.int j)),some (.sh (.scr ns)),some (.bor (.lst (es.map enD)))]=some (decide (0<M%3)):=λj J M h1 h2=>by
  generalize es.map enD=eds
  simp[h1,h2]
 have c1:=oe (q:=λi=>decide (i<2)) (by omega) rfl t1
 have c2:=oe (q:=λi=>decide (0<i)) (by omega) rfl t2
 have hall:∀e∈es,e∈fG ns (λi=>decide (i<2)) es∨e∈fG ns (λi=>decide (0<i)) es:=λe he=>Ai (λi h0 h3=>by
  simp only[GcH]
  omega) he
 have s1:∀e∈fG ns (λi=>decide (i<2)) es,e∈es:=λe=>qP
 have s2:∀e∈fG ns (λi=>decide (0<i)) es,e∈es:=λe=>qP
 have l1:=qQ (ns:=ns) (q:=λi=>decide (i<2)) (es:=es)
 have l2:=qQ (ns:=ns) (q:=λi=>decide (0<i)) (es:=es)
 generalize fG ns (λi=>decide (i<2)) es=o1 at*
 generalize fG ns (λi=>decide (0<i)) es=o2 at*
 obtain⟨r1,h1,k1,g1⟩:=qO (ns:=ns) (k:=5100) (by omega) (by omega) (r:=o1) (by omega)
 obtain⟨r2,h2,k2,g2⟩:=qO (ns:=ns) (k:=5300) (by omega) (by omega) (r:=o2) (by omega)
 have a1:∀e∈r1,e∈es:=λe he=>s1 e ((k1 e).mp he)
 have a2:∀e∈r2,e∈es:=λe he=>s2 e ((k2 e).mp he)
 have hs:=Ad nd (by omega)
 have ls:=(b9 es).length_eq
 have m1:=lg nd (by omega) a1 a2 (by omega)
 have m2:=lg nd (by omega) a2 a1 (by omega)
 rw[lh λe he=>GaL.mpr ((hall e he).imp (k1 e).mpr (k2 e).mpr)] at m1
 rw[lh λe he=>GaL.mpr ((hall e he).symm.imp (k2 e).mpr (k1 e).mpr)] at m2
 have m3:=vh nd (by omega) a1 (by omega)
 have m4:=lg nd (by omega) (a:=[]) (b:=cy es) (by simp) (λe he=>(b9 es).mem_iff.mp he) (by simp;omega)
 rw[lh λe he=>by simpa using(b9 es).mem_iff.mpr he] at m4
 have dl:(cy (k9 r1)).length≤1000:=by
  have:=d0 (fW r1) (m:=r1) λe he=>(fF r1 e).mp he
  have:=(b9 (k9 r1)).length_eq
  omega
 have hlen:(es.map enD).length=es.length:=Gan _
 have zr:(aA 0 ((es.map enD).length:Int).toNat).length≤ao:=by rw[dP];unfold ao;omega
 have er:aA 0 ((es.map enD).length:Int).toNat=aA 0 es.length:=by simp
 have hL:cC [.lst (es.map enD)]=some ⟨.c,.int ((es.map enD).length:Int)⟩:=cG
 have sm:bw ((es.map enD).length:Int)=true:=cq (by omega) (by omega)
 rw[←er] at c1 c2
 have st:∀env:DL.Env,vE 2 env=some ⟨.to,.lst (r1.map enD)⟩→dF (vE 2) env=some ⟨.tn,.lst ((cy (k9 r1)).map enD)⟩:=λenv he=>Ah nd a1 (by omega) he
 have q1:=o7 (l:=cy es) (by omega)
 have q2:=o7 (l:=cy (k9 r1)) dl
 have q3:=vi (a:=r1) (b:=r2) (by omega) (by omega)
 generalize ((es.map enD).length:Int)=L at*
 exact Al e0 rfl e1 hL sm zr c1 c2 h1 h2 hs m1 m2 m3 st m4 q1 q2 q3
end Maths
namespace Hd
open PySem PySem.W PyProof.Rows L2
noncomputable abbrev p0:=PySem.Challenge.pw_dosehouse_k70_logs_merged
noncomputable def top(i:Nat):Stmt:=p0.main.body.getD i (.Pass ⟨0,0,0,0⟩)
noncomputable def view:Program:={p0 with main:={p0.main with body:=[1,2,4,6,7,8,9,10,11,12].map top}}
noncomputable abbrev fd (n:Str) (i:Nat) (m:Str) (t c:Nat):FuncData:=fnOf n n (gT (top i)) (dU (top i)) (aN (top i)) .none .none .none (.str m t) none (.ref c) .none
noncomputable def fo(d:FuncData):Obj:=⟨.type "function",none,.func d,#[]⟩
noncomputable def co(n:Str)(t l k a:Nat)(x y:Value)(b u:Nat):Obj:={cls:= .type "code",data:= .fields #[.str n t,.str n (t+1),.str "/claim/cut.py" (t+2),.int l 0,.int k 0,.int 0 0,.int 0 0,.int 3 0,.ref a,.bool true,.int 181 0,.ref (a+1),.none,x,y,.ref b,.int u 0,.int l 0,.str "/claim/cut.py" (u+1)]}
noncomputable def e(P:Params)(n:Str)(t:Nat)(v:Value):DictEntry:=⟨PyData.keyHash P n,.str n t,v⟩
noncomputable def r(P:Params)(n:Str)(t a:Nat):DictEntry:=e P n t (.ref a)
noncomputable abbrev m0:Str:="dosehouse.logs"
noncomputable abbrev m1:Str:="law_dosehouse_k70_logs_merged"
noncomputable abbrev jr:=fd "merged" 4 m0 232 50
noncomputable abbrev fb:=fd "_law_mixed" 6 m1 240 57
noncomputable abbrev fX:=fd "_law_mark" 7 m1 240 64
noncomputable abbrev bW:=fd "_law_entry_deed" 8 m1 240 71
noncomputable abbrev d3:=fd "_law_entries" 9 m1 240 78
noncomputable abbrev cN:=fd "_law_shuffled" 10 m1 240 85
noncomputable abbrev d7:=fd "_law_alike" 11 m1 240 90
noncomputable abbrev tZ:=fd "law" 12 m1 240 95
noncomputable def K(P:Params):Frag:=[(3,{cls:= .type "dict",data:= .dict #[e P "__name__" 165 (.str "law_dosehouse_k70_logs_merged" 240),e P "__doc__" 166 (.none),e P "__package__" 167 (.none),e P "__loader__" 168 (.builtin "__main__.__loader__#opaque"),e P "__spec__" 169 (.none),r P "__annotations__" 170 6,r P "__builtins__" 171 4,e P "__file__" 173 (.str "/claim/cut.py" 172),e P "__cached__" 174 (.none),r P "HouseError" 206 24,r P "Torn" 231 44,r P "merged" 239 51,r P "_law_mixed" 251 58,r P "_law_mark" 260 65,r P "_law_entry_deed" 274 72,r P "_law_entries" 288 79,r P "_law_shuffled" 299 86,r P "_law_alike" 305 91,r P "law" 311 96] 19}),
 (51,fo jr),(50,co "merged" 234 10 2 47 (.none) (.none) 49 237),
 (58,fo fb),(57,co "_law_mixed" 242 23 2 52 (.ref 54) (.ref 55) 56 249),
 (65,fo fX),(64,co "_law_mark" 252 29 2 59 (.ref 61) (.ref 62) 63 258),
 (72,fo bW),(71,co "_law_entry_deed" 261 32 5 66 (.ref 68) (.ref 69) 70 272),
 (79,fo d3),(78,co "_law_entries" 275 45 5 73 (.ref 75) (.ref 76) 77 286),
 (86,fo cN),(85,co "_law_shuffled" 289 52 3 80 (.ref 82) (.ref 83) 84 297),
 (91,fo d7),(90,co "_law_alike" 300 59 2 87 (.none) (.none) 89 303),
 (96,fo tZ),(95,co "law" 306 73 1 92 (.none) (.none) 94 309)]
noncomputable def as_:List Addr:=[3,51,50,58,57,65,64,72,71,79,78,86,85,91,90,96,95]
noncomputable def hook:Hook:=kHook K as_ (λ_=>rfl)
noncomputable def xt(s:Shared):Bool:=xlAt view [] s&&recOk (RowW.records (OpenRow.toRowW (OpenLaw.row PySem.Challenge.rw_dosehouse_k70_logs_merged))) s
theorem left:LeftO p0 view [] xt hook.obs hook.val 1534:=λw=>by kernel_rfl
end Hd
seal L2.PE L2.PT L2.PW L2.PA L2.PS L2.PSs L2.PG L2.PGs L2.PI
namespace Der
open PySem PySem.Spec PyProof.Rows L2 DL Den
noncomputable abbrev top:=Hd.top
noncomputable abbrev og:Stmt:=top 4
noncomputable abbrev js:Stmt:=top 6
noncomputable abbrev kD:Stmt:=top 7
noncomputable abbrev fc:Stmt:=top 8
noncomputable abbrev gL:Stmt:=top 9
noncomputable abbrev gg:Stmt:=top 10
noncomputable abbrev jt:Stmt:=top 11
noncomputable abbrev An:Stmt:=top 12
theorem all1{K:PySem.W.Frag}{fd:FuncData}{p0:Str}(h:∀v0:Value,bindArgs fd ⟨[v0],[]⟩=pure ([p0].zip [v0])):Binds K fd [p0] []:= .all λus hl=>match us,hl with|[v0],_=>h v0
theorem all2{K:PySem.W.Frag}{fd:FuncData}{p0 p1:Str}(h:∀v0 v1:Value,bindArgs fd ⟨[v0,v1],[]⟩=pure ([p0,p1].zip [v0,v1])):Binds K fd [p0,p1] []:= .all λus hl=>match us,hl with|[v0,v1],_=>h v0 v1
theorem Hc{K:PySem.W.Frag}{fd:FuncData}{p0 p1 p2:Str}(h:∀v0 v1 v2:Value,bindArgs fd ⟨[v0,v1,v2],[]⟩=pure ([p0,p1,p2].zip [v0,v1,v2])):Binds K fd [p0,p1,p2] []:= .all λus hl=>match us,hl with|[v0,v1,v2],_=>h v0 v1 v2
theorem G0{K:PySem.W.Frag}{fd:FuncData}{p0 p1 p2 p3 p4:Str}(h:∀v0 v1 v2 v3 v4:Value,bindArgs fd ⟨[v0,v1,v2,v3,v4],[]⟩=pure ([p0,p1,p2,p3,p4].zip [v0,v1,v2,v3,v4])):Binds K fd [p0,p1,p2,p3,p4] []:= .all λus hl=>match us,hl with|[v0,v1,v2,v3,v4],_=>h v0 v1 v2 v3 v4
section
variable{Pm:Params}{mg:Str→Option Value}
noncomputable def Txt(Pm:Params)(mg:Str→Option Value):Prop:=∃h:Heap,(Hd.K Pm).In h∧h.Ns mainGlobals mg
theorem Txt.at{n:Str}{v:Value}(T:Txt Pm mg)(e:PySem.W.nsIn (Hd.K Pm) mainGlobals n=some (some v):=by kernel_rfl):mg n=some v:=let⟨_,X,G⟩:=T;PySem.W.mg_of X G e
theorem Txt.no{n:Str}(T:Txt Pm mg)(e:PySem.W.nsIn (Hd.K Pm) mainGlobals n=some none:=by kernel_rfl):mg n=none:=let⟨_,X,G⟩:=T;PySem.W.mg_none_of X G e
theorem mkF{x:Str}{st:Stmt}{f:Addr}{pm cd:Value}(l:(Hd.K Pm).lookup f=some (Hd.fo (PySem.W.fnOf x x (gT st) (dU st) (aN st) .none .none .none pm none cd .none)):=by kernel_rfl)(c:PySem.W.codeIn (Hd.K Pm) cd x=true:=by kernel_rfl)(k:PySem.W.keepIn (Hd.K Pm) (.ref f)=true:=by kernel_rfl):Fun (Hd.K Pm) x x st f (PySem.W.fnOf x x (gT st) (dU st) (aN st) .none .none .none pm none cd .none):=CT l c k
theorem gM:Fun (Hd.K Pm) "merged" "merged" og 51 Hd.jr:=mkF
theorem cL:Binds (Hd.K Pm) Hd.jr ["log","other"] []:=all2 λ_ _=>rfl
theorem aF:Fun (Hd.K Pm) "_law_mixed" "_law_mixed" js 58 Hd.fb:=mkF
theorem aw:Binds (Hd.K Pm) Hd.fb ["_law_script","_law_k"] []:=all2 λ_ _=>rfl
theorem fY:Fun (Hd.K Pm) "_law_mark" "_law_mark" kD 65 Hd.fX:=mkF
theorem cW:Binds (Hd.K Pm) Hd.fX ["_law_script","_law_k"] []:=all2 λ_ _=>rfl
theorem fH:Fun (Hd.K Pm) "_law_entry_deed" "_law_entry_deed" fc 72 Hd.bW:=mkF
theorem b5:Binds (Hd.K Pm) Hd.bW ["_law_script","_law_k","_law_orders","_law_guests","_law_hours"] []:=G0 λ_ _ _ _ _=>rfl
theorem iw:Fun (Hd.K Pm) "_law_entries" "_law_entries" gL 79 Hd.d3:=mkF
theorem bN:Binds (Hd.K Pm) Hd.d3 ["_law_script","_law_many","_law_orders","_law_guests","_law_hours"] []:=G0 λ_ _ _ _ _=>rfl
theorem dQ:Fun (Hd.K Pm) "_law_shuffled" "_law_shuffled" gg 86 Hd.cN:=mkF
theorem b8:Binds (Hd.K Pm) Hd.cN ["_law_script","_law_k","_law_some"] []:=Hc λ_ _ _=>rfl
theorem bA:Fun (Hd.K Pm) "_law_alike" "_law_alike" jt 91 Hd.d7:=mkF
theorem aD:Binds (Hd.K Pm) Hd.d7 ["_law_found","_law_due"] []:=all2 λ_ _=>rfl
theorem G1:Fun (Hd.K Pm) "law" "law" An 96 Hd.tZ:=mkF
theorem Txt.G2(T:Txt Pm mg):mg "law"=some (.ref 96):=T.at
theorem qE:Binds (Hd.K Pm) Hd.tZ ["_law_script"] []:=all1 λ_=>rfl
theorem Txt.G3(T:Txt Pm mg):mg "all"=none:=T.no
theorem Txt.DH(T:Txt Pm mg):mg "bool"=none:=T.no
theorem Txt.G4(T:Txt Pm mg):mg "int"=none:=T.no
theorem Txt.aW(T:Txt Pm mg):mg "isinstance"=none:=T.no
theorem Txt.gh(T:Txt Pm mg):mg "len"=none:=T.no
theorem Txt.iV(T:Txt Pm mg):mg "list"=none:=T.no
theorem Txt.i7(T:Txt Pm mg):mg "range"=none:=T.no
theorem Txt.G5(T:Txt Pm mg):mg "set"=none:=T.no
theorem Txt.ju(T:Txt Pm mg):mg "sorted"=none:=T.no
theorem Txt.C9(T:Txt Pm mg):mg "str"=none:=T.no
theorem Txt.pq(T:Txt Pm mg):mg "tuple"=none:=T.no
end
theorem cO{X:Cx}{e:Expr}{pos p:Pos}{k m np:Nat}{fa:Addr}{fd:FuncData}{ps:List Str}{sp:List D→Option D}{x:Str}{st:Stmt}{es:List Expr}{r:DA}(F:fj X.prog X.w X.K X.mg X.base CX0 k fa fd ps (spD X.K np sp))(hr:dR m X.A)(hg:Gl X x)(hm:X.mg x=some (.ref fa))(hF:Fun X.K x x st fa fd)(hb:Binds X.K fd ps [])(ha:PAd X (e::es) r)(hl:∀env rs,r env=some rs→rs.length=np)(hk:k≤m:=by decide)(hdb:(x==("__debug__":Str))=false:=by decide)(he:starEach (e::es) X.env=(false,eval e X.env)::starEach es X.env:=by rfl)(hpl:(backTo pos (starEach es X.env)).any (·.1)=false:=by rfl):PEd X (.Call (.Name x p) (e::es) [] pos) (aI sp r):=kP F (hr.mono hk) hg hm hF.kp hb sI ha hl hdb he hpl
seal Hd.K
section
variable{P:Program}{w:World}{Pm:Params}{mg:Str→Option Value}{base:Heap}
theorem oh:bS ["log","other","kept","torn","entry","mark"] ["log","other"] (aN og):=qq
theorem i8(T:Txt Pm mg):fj P w (Hd.K Pm) mg base CX0 1 51 Hd.jr ["log","other"] (spD (Hd.K Pm) 2 bM):=by
 refine j5 gM oh rfl λcdv A outer s H E hr=> ?_
 have sc:=oh
 have hu:=lA hr
 have hu20:=j7 hr
 refine ai 0 _ λv0=>ai 1 _ λv1=>ai 2 _ λv2=>ai 3 _ λv3=>ai 4 _ λv4=>ai 5 _ λv5=>aV 2 "kept" λl2=>aV 3 "torn" λl3=>oG 3 "torn" λw3=>aV 4 "entry" λl4=>aV 5 "mark" λl5=>aH "len" λg_len=>aH "sorted" λg_sorted=> ?_
 exact(aj (bB (i:=2) sc.nd rfl l2 pZ)
 (aj (bB (i:=3) sc.nd rfl l3 (jM ab))
 (aj (oF (l:=none) GdH rfl (vW (ba (v0 _) (v1 _))) (dZ (i:=4) sc.nd rfl l4)
  (aj (bB (i:=5) sc.nd rfl l5 (dH hu (v4 _) af))
 (aj (cQ (cS (t9 hu20) tf (v5 _) (v2 _) (by with_unfolding_all rfl))
  (aO (wg (i:=2) hu rfl (by first|exact Or.inl rfl|exact Or.inr (Or.inl rfl)|exact Or.inr (Or.inr rfl)) (v5 _) (v4 _)))
  bP)
 (aO (cQ (cS (vZ hu20) w5 (dH hu (v2 _) (v5 _)) (v4 _) (cB _))
  (aO (nE (i:=3) rfl w3 (v5 _)))
  bP)))))
 (aj (cQ (cS vo rm (bZ (bK.or bc) bh g_len T.gh d8 (a0 (v3 _) ab)) af (cB _))
  (aO vT)
  bP)
 (aO (bG (sV (N:=["mark","kept"]) (l:=none) rfl (by exact⟨rfl,rfl,rfl,rfl,rfl,by decide,rfl,rfl⟩) (vW (bZ (lY (by rfl)) n4 g_sorted T.ju jN (a0 (v2 _) ab))) j8 ⟨λ_ _ _ _ _=>(dZ (i:=0) (oH (by decide+kernel)) rfl (gU rfl) (oI rfl)),λ_ _ _ _ _=>nG,λ_ _ _ _ _=>(dH (by exact hu) (cg (i:=1) (hN:=rfl) (hv:=dM rfl)) (cg (i:=0) (hN:=rfl) (hv:=cU rfl)))⟩)))))))
theorem jv:bS ["_law_script","_law_k","_law_cell","_law_v"] ["_law_script","_law_k"] (aN js):=qq
theorem az(T:Txt Pm mg):fj P w (Hd.K Pm) mg base CX0 1 58 Hd.fb ["_law_script","_law_k"] (spD (Hd.K Pm) 2 ah):=by
 refine j5 aF jv rfl λcdv A outer s H E hr=> ?_
 have sc:=jv
 have hu:=lA hr
 refine ai 0 _ λv0=>ai 1 _ λv1=>ai 2 _ λv2=>ai 3 _ λv3=>aV 2 "_law_cell" λl2=>aV 3 "_law_v" λl3=>aH "len" λg_len=> ?_
 exact(aj (bB (i:=2) sc.nd rfl l2 af)
 (aj (cQ (cS vo rm (bZ (bK.or bc) bh g_len T.gh d8 (a0 (v0 _) ab)) af (cB _))
  (aO (bB (i:=2) sc.nd rfl l2 (dH hu (v0 _) (bO (v1 _) (bZ (bK.or bc) bh g_len T.gh d8 (a0 (v0 _) ab))))))
  bP)
 (aj (bB (i:=3) sc.nd rfl l3 (bO (ba (ba (fQ (bO (v2 _) af) af) (fQ (fQ (v1 _) (v1 _)) af)) af) af))
 (aO (bG (bO (fQ (v3 _) (v3 _)) af))))))
theorem kF:bS ["_law_script","_law_k","_law_hand"] ["_law_script","_law_k"] (aN kD):=qq
theorem gO(T:Txt Pm mg):fj P w (Hd.K Pm) mg base CX0 2 65 Hd.fX ["_law_script","_law_k"] (spD (Hd.K Pm) 2 cp):=by
 refine j5 fY kF rfl λcdv A outer s H E hr=> ?_
 have sc:=kF
 have hu:=lA hr
 refine ai 0 _ λv0=>ai 1 _ λv1=>ai 2 _ λv2=>aV 2 "_law_hand" λl2=>aH "_law_mixed" λaG=> ?_
 exact(aj (bB (i:=2) sc.nd rfl l2 (dH hu (jM (a0 gA (a0 gA (a0 gA (a0 gA ab))))) (bO (cO (az T) hr aG T.at aF aw (a0 (v0 _) (a0 (v1 _) ab)) (a7 (a7 au))) af)))
 (aO (bG (lH (a0 (v2 _) (a0 (ba af (bO (cO (az T) hr aG T.at aF aw (a0 (v0 _) (a0 (ba (v1 _) af) ab)) (a7 (a7 au))) af)) ab))))))
theorem fe:bS ["_law_script","_law_k","_law_orders","_law_guests","_law_hours","_law_kind","_law_hour","_law_amount"] ["_law_script","_law_k","_law_orders","_law_guests","_law_hours"] (aN fc):=qq
theorem jw(T:Txt Pm mg):fj P w (Hd.K Pm) mg base CX0 3 72 Hd.bW ["_law_script","_law_k","_law_orders","_law_guests","_law_hours"] (spD (Hd.K Pm) 5 bU):=by
 refine j5 fH fe rfl λcdv A outer s H E hr=> ?_
 have sc:=fe
 have hu20:=j7 hr
 refine ai 0 _ λv0=>ai 1 _ λv1=>ai 2 _ λv2=>ai 3 _ λv3=>ai 4 _ λv4=>ai 5 _ λv5=>ai 6 _ λv6=>ai 7 _ λv7=>aV 5 "_law_kind" λl5=>aV 6 "_law_hour" λl6=>aV 7 "_law_amount" λl7=>aH "_law_mark" λfZ=>aH "_law_mixed" λaG=> ?_
 exact(aj (bB (i:=5) sc.nd rfl l5 (bO (cO (az T) hr aG T.at aF aw (a0 (v0 _) (a0 (v1 _) ab)) (a7 (a7 au))) af))
 (aj (bB (i:=6) sc.nd rfl l6 (fQ (v4 _) (bO (cO (az T) hr aG T.at aF aw (a0 (v0 _) (a0 (ba (v1 _) af) ab)) (a7 (a7 au))) af)))
 (aj (bB (i:=7) sc.nd rfl l7 (CZ (bO (cO (az T) hr aG T.at aF aw (a0 (v0 _) (a0 (ba (v1 _) af) ab)) (a7 (a7 au))) af) af))
 (aj (cQ (cS (lM hu20) lN (bO (cO (az T) hr aG T.at aF aw (a0 (v0 _) (a0 (ba (v1 _) af) ab)) (a7 (a7 au))) af) af (cB _))
  (aO (bB (i:=7) sc.nd rfl l7 (fQ (fQ (v7 _) af) (D0 af af))))
  bP)
 (aj (cQ (cS (lM hu20) lN (v5 _) af (cB _))
  (aO (bG (lH (a0 gA (a0 (bO (cO (az T) hr aG T.at aF aw (a0 (v0 _) (a0 (ba (v1 _) af) ab)) (a7 (a7 au))) (v3 _)) (a0 (v6 _) (a0 (ba af (bO (cO (az T) hr aG T.at aF aw (a0 (v0 _) (a0 (ba (v1 _) af) ab)) (a7 (a7 au))) af)) ab)))))))
  bP)
 (aj (cQ (cS (lM hu20) lN (v5 _) af (cB _))
  (aO (bG (lH (a0 gA (a0 (cO (gO T) hr fZ T.at fY cW (a0 (v0 _) (a0 (ba (v1 _) af) ab)) (a7 (a7 au))) ab)))))
  bP)
 (aj (cQ (cS BS vO (v5 _) af (cB _))
  (aO (bG (lH (a0 gA (a0 (cO (gO T) hr fZ T.at fY cW (a0 (v0 _) (a0 (ba (v1 _) af) ab)) (a7 (a7 au))) (a0 (v7 _) ab))))))
  bP)
 (aO (bG (lH (a0 gA (a0 (bO (cO (az T) hr aG T.at aF aw (a0 (v0 _) (a0 (ba (v1 _) af) ab)) (a7 (a7 au))) (v2 _)) (a0 (v6 _) (a0 (v7 _) ab))))))))))))))
theorem gP:bS ["_law_script","_law_many","_law_orders","_law_guests","_law_hours","_law_deeds","_law_j","_law_mark_here"] ["_law_script","_law_many","_law_orders","_law_guests","_law_hours"] (aN gL):=qq
theorem mY(T:Txt Pm mg):fj P w (Hd.K Pm) mg base CX0 4 79 Hd.d3 ["_law_script","_law_many","_law_orders","_law_guests","_law_hours"] (spD (Hd.K Pm) 5 cZ):=by
 refine j5 iw gP rfl λcdv A outer s H E hr=> ?_
 have sc:=gP
 have hu:=lA hr
 have hu20:=j7 hr
 refine ai 0 _ λv0=>ai 1 _ λv1=>ai 2 _ λv2=>ai 3 _ λv3=>ai 4 _ λv4=>ai 5 _ λv5=>ai 6 _ λv6=>ai 7 _ λv7=>aV 5 "_law_deeds" λl5=>aV 6 "_law_j" λl6=>aV 7 "_law_mark_here" λl7=>aH "_law_entry_deed" λka=>aH "_law_mark" λfZ=>aH "list" λg_list=>aH "range" λg_range=> ?_
 exact(aj (bB (i:=5) sc.nd rfl l5 pZ)
 (aj (oF (l:=none) GdH rfl (dq g_range T.i7 (v1 _)) (dZ (i:=6) sc.nd rfl l6)
  (aj (bB (i:=7) sc.nd rfl l7 (cO (gO T) hr fZ T.at fY cW (a0 (v0 _) (a0 (ba af (fQ af (v6 _))) ab)) (a7 (a7 au))))
 (aO (cQ (cS (t9 hu20) tf (v7 _) (v5 _) (by with_unfolding_all rfl))
  (aO (wg (i:=5) hu rfl (by first|exact Or.inl rfl|exact Or.inr (Or.inl rfl)|exact Or.inr (Or.inr rfl)) (v7 _) (cO (jw T) hr ka T.at fH b5 (a0 (v0 _) (a0 (ba af (fQ af (v6 _))) (a0 (v2 _) (a0 (v3 _) (a0 (v4 _) ab))))) (a7 (a7 (a7 (a7 (a7 au))))))))
  bP))))
 (aO (bG (uJ rfl g_list T.iV (v5 _))))))
theorem gk:bS ["_law_script","_law_k","_law_some","_law_row","_law_j"] ["_law_script","_law_k","_law_some"] (aN gg):=qq
theorem gn(T:Txt Pm mg):fj P w (Hd.K Pm) mg base CX0 2 86 Hd.cN ["_law_script","_law_k","_law_some"] (spD (Hd.K Pm) 3 aY):=by
 refine j5 dQ gk rfl λcdv A outer s H E hr=> ?_
 have sc:=gk
 have hu:=lA hr
 refine ai 0 _ λv0=>ai 1 _ λv1=>ai 2 _ λv2=>ai 3 _ λv3=>ai 4 _ λv4=>aV 3 "_law_row" λl3=>oG 3 "_law_row" λw3=>aV 4 "_law_j" λl4=>aH "_law_mixed" λaG=>aH "len" λg_len=>aH "list" λg_list=>aH "range" λg_range=> ?_
 exact(aj (bB (i:=3) sc.nd rfl l3 (lJ fJ iH g_list T.iV fR (a0 (v2 _) ab)))
 (aj (oF (l:=none) GdH rfl (dq g_range T.i7 (bZ (bK.or bc) bh g_len T.gh d8 (a0 (v3 _) ab))) (dZ (i:=4) sc.nd rfl l4)
  (aO (uK (i:=3) rfl w3 (bO (cO (az T) hr aG T.at aF aw (a0 (v0 _) (a0 (ba (v1 _) (v4 _)) ab)) (a7 (a7 au))) (bZ (bK.or bc) bh g_len T.gh d8 (a0 (v3 _) ab))))))
 (aj (oF (l:=none) GdH rfl (dq g_range T.i7 (B5 (bZ (bK.or bc) bh g_len T.gh d8 (a0 (v3 _) ab)) af)) (dZ (i:=4) sc.nd rfl l4)
  (aO (nE (i:=3) rfl w3 (dH hu (v3 _) (bO (cO (az T) hr aG T.at aF aw (a0 (v0 _) (a0 (ba (ba (v1 _) af) (v4 _)) ab)) (a7 (a7 au))) (bZ (bK.or bc) bh g_len T.gh d8 (a0 (v3 _) ab)))))))
 (aO (bG (v3 _))))))
theorem jy:bS ["_law_found","_law_due"] ["_law_found","_law_due"] (aN jt):=qq
theorem iz(T:Txt Pm mg):∀n:Nat,fj P w (Hd.K Pm) mg base CX0 (0+n+1) 91 Hd.d7 ["_law_found","_law_due"] (spD (Hd.K Pm) 2 (ae n))
 |0=>j5 bA jy rfl λcdv A outer s H E hr=>uE
 |n+1=>by
   refine j5 bA jy rfl λcdv A outer s H E hr=> ?_
   have hu:=lA hr
   have hu20:=j7 hr
   refine ai 0 _ λv0=>ai 1 _ λv1=>aH "all" λg_all=>aH "bool" λg_bool=>aH "int" λg_int=>aH "isinstance" λg_isinstance=>aH "len" λg_len=>aH "list" λg_list=>aH "range" λg_range=>aH "str" λg_str=>aH "tuple" λg_tuple=> ?_
   exact(aj (cQ (C3 (dG (fi kit_tuple (v1 _) g_isinstance T.aW g_tuple T.pq lO)) (vP (dG (fi lP (v1 _) g_isinstance T.aW g_list T.iV fR)))).pt
    (aj (cQ (vQ (dG (fi kit_tuple (v1 _) g_isinstance T.aW g_tuple T.pq lO)) (sP (jI (dG (fi kit_tuple (v0 _) g_isinstance T.aW g_tuple T.pq lO))))).pt
    (aO (bG nA))
    bP)
   (aj (cQ (vQ (dG (fi lP (v1 _) g_isinstance T.aW g_list T.iV fR)) (sP (jI (dG (fi lP (v0 _) g_isinstance T.aW g_list T.iV fR))))).pt
    (aO (bG nA))
    bP)
   (aj (cQ (cS (vZ hu20) w5 (bZ (bK.or bc) bh g_len T.gh d8 (a0 (v0 _) ab)) (bZ (bK.or bc) bh g_len T.gh d8 (a0 (v1 _) ab)) (cB _))
    (aO (bG nA))
    bP)
   (aO (bG (bZ (uz (by rfl)) uA g_all T.G3 D4 (a0 (sV (N:=["_law_k","_law_found","_law_due"]) (l:=none) rfl (by exact⟨rfl,rfl,rfl,rfl,rfl,by decide,rfl,rfl⟩) (dq g_range T.i7 (bZ (bK.or bc) bh g_len T.gh d8 (a0 (v1 _) ab))) j8 ⟨λ_ _ _ _ _=>(dZ (i:=0) (oH (by decide+kernel)) rfl (gU rfl) (oI rfl)),λ_ _ _ _ _=>nG,λ_ _ _ _ _=>(kP (iz T n) (hr.mono (by omega)) (rq rfl) T.at bA.kp aD sI (a0 (dH (by exact hu) (cg (i:=1) (hN:=rfl) (hv:=dM rfl)) (cg (i:=0) (hN:=rfl) (hv:=cU rfl))) (a0 (dH (by exact hu) (cg (i:=2) (hN:=rfl) (hv:=dM rfl)) (cg (i:=0) (hN:=rfl) (hv:=cU rfl))) ab)) (a7 (a7 au)))⟩) ab)))))))
    bP)
   (aj (cQ (cS vp sO (v1 _) vM (cB _))
    (aO (bG (rl vp sO (v0 _) vM (cB _))))
    bP)
   (aj (cQ (dG (fi sS (v1 _) g_isinstance T.aW g_str T.C9 w6))
    (aO (bG (oE (fi sS (v0 _) g_isinstance T.aW g_str T.C9 w6) (rn (rl (lM hu20) lN (v0 _) (v1 _) (cB _))))))
    bP)
   (aO (bG (oE (fi Bd (v0 _) g_isinstance T.aW g_int T.G4 D5) (oE (D1 (fi w8 (v0 _) g_isinstance T.aW g_bool T.DH Bc)) (rn (rl (lM hu20) lN (v0 _) (v1 _) (cB _))))))))))
theorem bX(T:Txt Pm mg):fj P w (Hd.K Pm) mg base CX0 8 91 Hd.d7 ["_law_found","_law_due"] (spD (Hd.K Pm) 2 aU):=iz T 7
theorem Ao:bS ["_law_script","_law_entries_here","_law_ones","_law_others","_law_handed","_law_due","_law_plain","_law_told"] ["_law_script"] (aN An):=qq
theorem DJ(T:Txt Pm mg):fj P w (Hd.K Pm) mg base CX0 9 96 Hd.tZ ["_law_script"] (spD (Hd.K Pm) 1 mQ):=by
 refine j5 G1 Ao rfl λcdv A outer s H E hr=> ?_
 have sc:=Ao
 have hu:=lA hr
 have hu20:=j7 hr
 refine ai 0 _ λv0=>ai 1 _ λv1=>ai 2 _ λv2=>ai 3 _ λv3=>ai 4 _ λv4=>ai 5 _ λv5=>ai 6 _ λv6=>ai 7 _ λv7=>aV 1 "_law_entries_here" λl1=>aV 2 "_law_ones" λl2=>aV 3 "_law_others" λl3=>aV 4 "_law_handed" λl4=>aV 5 "_law_due" λl5=>aV 6 "_law_plain" λl6=>aV 7 "_law_told" λl7=>oG 7 "_law_told" λw7=>aH "_law_alike" λcz=>aH "_law_entries" λn9=>aH "_law_mixed" λaG=>aH "_law_shuffled" λgR=>aH "len" λg_len=>aH "list" λg_list=>aH "merged" λg_merged=>aH "range" λg_range=>aH "set" λg_set=>aH "sorted" λg_sorted=> ?_
 exact(aj (bB (i:=1) sc.nd rfl l1 (cO (mY T) hr n9 T.at iw bN (a0 (v0 _) (a0 (ba af (bO (cO (az T) hr aG T.at aF aw (a0 (v0 _) (a0 af ab)) (a7 (a7 au))) af)) (a0 af (a0 af (a0 af ab))))) (a7 (a7 (a7 (a7 (a7 au)))))))
 (aj (sW (i:=2) (N:=["_law_j","_law_script","_law_entries_here"]) sc.nd rfl (by first|exact Or.inl rfl|exact Or.inr rfl) (l:=none) rfl (by exact⟨rfl,rfl,rfl,rfl,rfl,by decide,rfl,rfl⟩) (dq g_range T.i7 (bZ (bK.or bc) bh g_len T.gh d8 (a0 (v1 _) ab))) j8 ⟨λ_ _ _ _ _=>(dZ (i:=0) (oH (by decide+kernel)) rfl (gU rfl) (oI rfl)),λ_ _ _ _ _=>(nH (cS BS vO (bO (kP (az T) (hr.mono (by decide)) (rq rfl) T.at aF.kp aw sI (a0 (cg (i:=1) (hN:=rfl) (hv:=dM rfl)) (a0 (ba af (cg (i:=0) (hN:=rfl) (hv:=cU rfl))) ab)) (a7 (a7 au))) af) af (cB _))),λ_ _ _ _ _=>(dH (by exact hu) (cg (i:=2) (hN:=rfl) (hv:=dM rfl)) (cg (i:=0) (hN:=rfl) (hv:=cU rfl)))⟩)
 (aj (sW (i:=3) (N:=["_law_j","_law_script","_law_entries_here"]) sc.nd rfl (by first|exact Or.inl rfl|exact Or.inr rfl) (l:=none) rfl (by exact⟨rfl,rfl,rfl,rfl,rfl,by decide,rfl,rfl⟩) (dq g_range T.i7 (bZ (bK.or bc) bh g_len T.gh d8 (a0 (v1 _) ab))) j8 ⟨λ_ _ _ _ _=>(dZ (i:=0) (oH (by decide+kernel)) rfl (gU rfl) (oI rfl)),λ_ _ _ _ _=>(nH (cS vo rm (bO (kP (az T) (hr.mono (by decide)) (rq rfl) T.at aF.kp aw sI (a0 (cg (i:=1) (hN:=rfl) (hv:=dM rfl)) (a0 (ba af (cg (i:=0) (hN:=rfl) (hv:=cU rfl))) ab)) (a7 (a7 au))) af) af (cB _))),λ_ _ _ _ _=>(dH (by exact hu) (cg (i:=2) (hN:=rfl) (hv:=dM rfl)) (cg (i:=0) (hN:=rfl) (hv:=cU rfl)))⟩)
 (aj (bB (i:=2) sc.nd rfl l2 (cO (gn T) hr gR T.at dQ b8 (a0 (v0 _) (a0 af (a0 (v2 _) ab))) (a7 (a7 (a7 au)))))
 (aj (bB (i:=3) sc.nd rfl l3 (cO (gn T) hr gR T.at dQ b8 (a0 (v0 _) (a0 af (a0 (v3 _) ab))) (a7 (a7 (a7 au)))))
 (aj (bB (i:=4) sc.nd rfl l4 (jM (a0 (lJ fJ iH g_list T.iV fR (a0 (v2 _) ab)) (a0 (lJ fJ iH g_list T.iV fR (a0 (v3 _) ab)) ab))))
 (aj (bB (i:=5) sc.nd rfl l5 (bZ (je hu20) iu g_sorted T.ju jN (a0 (v1 _) ab)))
 (aj (cQ (C3 (jI (dG (cO (bX T) hr cz T.at bA aD (a0 (cO (i8 T) hr g_merged T.at gM cL (a0 (dH hu (v4 _) af) (a0 (dH hu (v4 _) af) ab)) (a7 (a7 au))) (a0 (v5 _) ab)) (a7 (a7 au))))) (vP (jI (dG (cO (bX T) hr cz T.at bA aD (a0 (cO (i8 T) hr g_merged T.at gM cL (a0 (dH hu (v4 _) af) (a0 (dH hu (v4 _) af) ab)) (a7 (a7 au))) (a0 (v5 _) ab)) (a7 (a7 au))))))).pt
  (aO (bG nA))
  bP)
 (aj (cQ (jI (dG (cO (bX T) hr cz T.at bA aD (a0 (cO (i8 T) hr g_merged T.at gM cL (a0 (jM ab) (a0 (dH hu (v4 _) af) ab)) (a7 (a7 au))) (a0 (qD rfl hu20 g_sorted T.ju g_set T.G5 (v2 _)) ab)) (a7 (a7 au)))))
  (aO (bG nA))
  bP)
 (aj (bB (i:=6) sc.nd rfl l6 (bZ (je hu20) iu g_sorted T.ju jN (a0 (v1 _) ab)))
 (aj (bB (i:=7) sc.nd rfl l7 (cO (i8 T) hr g_merged T.at gM cL (a0 (jM ab) (a0 (v6 _) ab)) (a7 (a7 au))))
 (aj (cQ (jI (dG (cO (bX T) hr cz T.at bA aD (a0 (v7 _) (a0 (v5 _) ab)) (a7 (a7 au)))))
  (aO (bG nA))
  bP)
 (aj (vX (i:=7) rfl w7)
 (aO (Dx (bG (oE (pR (cO (bX T) hr cz T.at bA aD (a0 (v6 _) (a0 (v5 _) ab)) (a7 (a7 au)))) (rn (pR (cO (bX T) hr cz T.at bA aD (a0 (v4 _) (a0 (jM (a0 (v2 _) (a0 (v3 _) ab))) ab)) (a7 (a7 au))))))))))))))))))))))
end
theorem all_mk{l:PySem.W.OpenLaw}{w:World}{h:Heap}{mg:Str→Option Value}{fa:Addr}(X:(Hd.K w.params).In h)(G:h.Ns mainGlobals mg)(hfa:mg "law"=some (.ref fa)):
  ∃fd:FuncData,(∀(s:Shared) (v:Value),BindsTo s fd ⟨[v],[]⟩ [("_law_script",v)])∧∀base:Heap,(Hd.K w.params).In base→base.Ns mainGlobals mg→fj l.prog w (Hd.K w.params) mg base CX0 9 fa fd ["_law_script"] (spD (Hd.K w.params) 1 mQ):=by
 have T:Txt w.params mg:=⟨h,X,G⟩
 have e:=hfa.symm.trans T.G2
 cases e
 exact⟨_,λs v=> .of_eq rfl,λbase _ _=>DJ T⟩
theorem walk{l:PySem.W.OpenLaw}{q:Program}{loose:List Str}{XP:(Str→Option Value)→Heap→Prop}{YP:World→Heap→Prop}{d:DefRec}{K:Params→PySem.W.Frag}(hn:l.most=some 63)(hdf:d.params.defaults=[])
  (hY:∀(w:World) (h:Heap),YP w h→(K w.params).In h)(true_:∀ns:List Int,ns.length≤63→mQ [.scr ns]=some (.bl true))
  (F:∀(w:World) (mg:Str→Option Value) (fa:Addr) (h:Heap),(K w.params).In h→h.Ns mainGlobals mg→mg d.name=some (.ref fa)→
   ∃fd:FuncData,(∀(s:Shared) (u:Value),BindsTo s fd ⟨[u],[]⟩ [("_law_script",u)])∧∀base:Heap,(K w.params).In base→base.Ns mainGlobals mg→fj l.prog w (K w.params) mg base CX0 9 fa fd ["_law_script"] (spD (K w.params) 1 mQ)):
  PySem.W.WalkO q loose XP YP l.row.toRowW d [] (λf vs=>PySem.call f vs):=
 L2.AS (n:=63) (k:=9) (x:="_law_script") (CX:=λ_=>CX0) (sp:=λw=>spD (K w.params) 1 mQ) hn (by decide) hdf ⟨rfl,by decide,by decide⟩ hY F (λ_ _ a ns hl hO hS=>D3 hO hS (true_ ns hl)) λ_ _ _ _ _ z=>z
end Der
open PySem PySem.W PyProof.Rows
set_option maxRecDepth 100000 in
set_option maxHeartbeats 0 in
theorem PySem.Challenge.cw_dosehouse_k70_logs_merged_holds : PySem.Challenge.rw_dosehouse_k70_logs_merged.Holds := by
 refine holds_law (by kernel_rfl) λsaid=> ?_
 refine holds_open (q:=Hd.view) (loose:=[]) (Xt:=Hd.xt) (XP:=XL Hd.view []) (Yf:=Hook.obs Hd.hook) (Ya:=Hook.val Hd.hook) (YP:=Hook.says Hd.hook) (N:=1534) Hd.left (Hook.of Hd.hook) (Hook.keeps Hd.hook) (λs e=>xl_of s (Bool.and_eq_true_iff.mp e).1) XL.keeps (by rfl) (by rfl) (by rfl) (λs e=>recFacts_of (Bool.and_eq_true_iff.mp e).2) (by rfl) said (by decide+kernel) ⟨rfl,rfl,rfl,rfl,rfl,by decide+kernel⟩ ?hw ?hc
 case hw=>w_witness2
 case hc=>exact Der.walk (l:=PySem.Challenge.rw_dosehouse_k70_logs_merged) (K:=Hd.K) rfl rfl (λw h Y=>PySem.W.kIn_of Y) Maths.Am λw mg fa h KX G hmg=>Der.all_mk KX G hmg
