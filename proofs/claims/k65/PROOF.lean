import PyProof.Rows.All
import Wide.All
import OpenK.AllK
import PySem.Challenge.RW_dosehouse_k65_room
set_option Elab.async false
set_option linter.all false
set_option maxRecDepth 100000
set_option maxHeartbeats 0
set_option genSizeOf false
set_option compiler.extract_closed false
def Gaa:=@PySem.wpAny_bind
def Gab:=@List.getElem?_eq_getElem
def Gac:=@PySem.wpAny_pure
def Gad:=@List.length_map
def Gae:=@List.getElem?_set_ne
def Gaf:=@PySem.Heap.get?_push_of_some
def Gag:=@List.mem_cons_of_mem
def Gah:=@List.length_append
def Gai:=@if_neg
def Gaj:=@if_pos
def Gak:=@List.mem_cons_self
def Gal:=@List.getElem?_eq_some_iff
def Gam:=@List.getElem?_map
def Gan:=@Option.map_eq_some_iff
def Gao:=@List.all_eq_true
def Gap:=@Nat.le_refl
def Gaq:=@of_decide_eq_true
def Gar:=@List.size_toArray
def Gas:=@Bool.and_eq_true
def Gat:=@Bool.false_ne_true
def Gau:=@decide_eq_false
def Gav:=@PySem.Heap.lt_size
def Gaw:=@PySem.Heap.get?_push_size
def Gax:=@List.mem_map
def Gay:=@List.map_cons
def Gaz:=@decide_eq_true
def GaA:=@Array.getElem?_eq_getElem
def GaB:=@List.mem_cons
def GaC:=@List.map_append
def GaD:=@List.mem_of_getElem?
def GaE:=@List.length_cons
def GaF:=@List.getElem_mem
def GaG:=@Int.eq_ofNat_of_zero_le
def GaH:=@Nat.lt_of_lt_of_le
def GaI:=@Int.toNat_natCast
def GaJ:=@Nat.ne_of_lt
def GaK:=@List.getElem?_append_right
def GaL:=@List.mem_append
def GaM:=@List.set_cons_succ
def GaN:=@List.set_cons_zero
def GaO:=@Array.length_toList
def GaP:=@List.map_congr_left
def GaQ:=@List.getElem?_append_left
def GaR:=@Bool.or_eq_true
def GaS:=@List.map_map
def GaT:=@PySem.wpAny_setState_of
def GaU:=@List.length_nil
def GaV:=@List.mem_range
def GaW:=@List.append_assoc
def GaX:=@PySem.Heap.get?_update_self
def GaY:=@List.pairwise_cons
def GaZ:=@List.getElem?_set_self
def Gba:=@Nat.zero_le
def Gbb:=@PySem.wpAny_call_entry
def Gbc:=@Nat.zero_add
def Gbd:=@PySem.wpAny_newObj_type
def Gbe:=@Bool.false_eq_true
def Gbf:=@Array.getElem?_eq_some_iff
def Gbg:=@Nat.lt_or_ge
def Gbh:=@Array.getD_eq_getD_getElem?
def Gbi:=@List.mem_append_right
def Gbj:=@List.getElem?_eq_none
def Gbk:=@Array.getElem?_toList
def Gbl:=@List.filter_cons
def Gbm:=@List.lookup_cons
def Gbn:=@List.flatMap_eq_nil_iff
def Gbo:=@Nat.le_trans
def Gbp:=@List.all_map
def Gbq:=@List.flatMap_cons
def Gbr:=@List.mem_singleton
def Gbs:=@List.append_nil
def Gbt:=@PySem.wpAny_callSpecial?_slot
def Gbu:=@List.length_eq_zero_iff
def Gbv:=@PySem.Obj.data_mapFields
def Gbw:=@PySem.sizeLine_eq
def Gbx:=@Nat.lt_irrefl
def Gby:=@List.mem_filter
def Gbz:=@PySem.W.kia_one
def GbA:=@List.nodup_cons
def GbB:=@List.nil_append
def GbC:=@Int.emod_lt_of_pos
def GbD:=@List.append_eq_nil_iff
def GbE:=@PySem.Heap.SameBut.update
def GbF:=@List.find?_cons
def GbG:=@Int.emod_nonneg
def GbH:=@List.foldl_cons
def GbI:=@List.length_filter_le
def GbJ:=@PySem.F.called_set
def GbK:=@PySem.wpAny_holding
def GbL:=@Option.map_some
def GbM:=@List.getElem_of_mem
def GbN:=@Function.comp_apply
def GbO:=@PySem.Heap.get?_update_other
def GbP:=@Array.getElem?_eq_none
def GbQ:=@List.all_cons
def GbR:=@if_false
def GbS:=@List.find?_eq_none
def GbT:=@List.drop_eq_getElem_cons
def GbU:=@Nat.le_succ
def GbV:=@List.mem_append_left
def GbW:=@Nat.ne_of_gt
def GbX:=@PySem.codeAny_builtin
def GbY:=@PySem.Around.under_plainId
def GbZ:=@PySem.wpAny_ite_false
def Gca:=@if_true
def Gcb:=@Nat.lt_succ_of_lt
def Gcc:=@List.length_drop
def Gce:=@PySem.Heap.size_push
def Gcf:=@List.getElem_map
def Gcg:=@PySem.wpAny_mono
def Gch:=@Int.le_refl
def Gci:=@PyProof.Rows.callWith_type1
def Gcj:=@PySem.tupleKind_room_in1
def Gck:=@Nat.eq_or_lt_of_le
def Gcl:=@PyProof.Rows.F.plain_set_update_loop
def Gcm:=@PySem.wpAny_passesOwn
def Gcn:=@PySem.Obj.isFreed_of_fields
def Gco:=@PySem.wpAny_truthy_bool
def Gcp:=@List.any_eq_false
def Gcq:=@Nat.le_of_lt_succ
def Gcr:=@List.getElem?_of_mem
def Gcs:=@List.map_id
def Gct:=@Bool.and_false
def Gcu:=@PySem.wpAny_seqItems
def Gcv:=@List.getElem?_take_of_lt
def Gcw:=@Nat.lt_succ_self
def Gcx:=@List.any_eq_true
def Gcy:=@Nat.succ_pos
def Gcz:=@PySem.SetTable.toList_insertAt
def GcA:=@List.filterMap_cons
def GcB:=@PyProof.Rows.slot_tuple_getitem
def GcC:=@List.getElem?_replicate
def GcD:=@List.getElem?_cons_succ
def GcE:=@PySem.F.plainAttrs_list
def GcF:=@List.any_cons
def GcG:=@PySem.Calls.spliced_cons
def GcH:=@Nat.lt_of_le_of_lt
def GcI:=@PySem.wpAny_ite_split
def GcJ:=@PySem.wpAny_typeNameOfWhole_itemiter
def GcK:=@decide_eq_true_iff
def GcL:=@PySem.Calls.callWith_builtin
def GcM:=@List.eq_nil_of_length_eq_zero
def GcN:=@PySem.F.slot_dict_itemiterator_next
def GcO:=@List.ext_getElem?
def GcP:=@Option.some.injEq
def GcQ:=@PySem.Obj.cls_mapFields
def GcR:=@List.nodup_append
def GcS:=@Nat.le_of_lt
def GcT:=@List.length_singleton
def GcU:=@PySem.wpAny_setField
def GcV:=@PyProof.Rows.kmk_tree
def GcW:=@PySem.builtinLookup_eq_fast
def GcX:=@List.Pairwise.and_mem
def GcY:=@Int.mul_nonneg
def GcZ:=@List.length_take
def Gda:=@Int.not_lt
def Gdb:=@beq_iff_eq
def Gdc:=@List.ext_getElem
def Gdd:=@Nat.mod_lt
def Gde:=@List.mem_flatMap
def Gdf:=@List.getD_eq_getElem?_getD
def Gdg:=@PySem.wpAny_of_eq
def Gdh:=@List.pairwise_iff_getElem
def Gdi:=@PySem.PassesOwn.never
def Gdj:=@List.mem_filterMap
def Gdk:=@PySem.wpAny_Call_Name_kw
def Gdl:=@PySem.F.args_tuple_add_2
def Gdm:=@List.getElem?_drop
def Gdn:=@PySem.wpAny_pyIter_tuple
def Gdo:=@PySem.wpAny_comprehension_free
def Gdp:=@PyProof.Rows.F.entry_set_update_loop
def Gdq:=@PySem.F.slot_dict_itemiterator_iter
def Gdr:=@PySem.F.entry_tuple_add
def Gds:=@PySem.F.plainAttrs_dict
def Gdt:=@PySem.wpAny_pyIter_enum
def Gdu:=@PySem.wpAny_pyIter_slot
def Gdv:=@PySem.F.slot_tuple_hash
def Gdw:=@PySem.F.slot_tuple_add
def Gdx:=@List.drop_of_length_le
def Gdy:=@List.findIdx?_eq_some_iff_getElem
def Gdz:=@List.find?_cons_of_pos
def GdA:=@List.find?_cons_of_neg
def GdB:=@PySem.plainId_quiet
def GdC:=@List.Perm.map
def GdD:=@List.perm_middle
def GdE:=@List.drop_length
def GdF:=@List.not_mem_nil
def GdG:=@List.take_succ_eq_append_getElem
def GdH:=@List.length_replicate
def GdI:=@PySem.F.slot_dict_get
def GdJ:=@Array.getElem?_setIfInBounds_ne
def GdK:=@PySem.wpAny_execs_nil
def GdL:=@Array.mem_toList_iff
def GdM:=@PySem.wpAny_typeOf
def GdN:=@List.map_nil
def GdO:=@PySem.Calls.evalArgs_plain
def GdP:=@List.forIn_cons
def GdQ:=@Nat.sub_self
def GdR:=@PySem.typeLookup_type
def GdS:=@PySem.wpAny_specialOf
def GdT:=@List.any_map
def GdU:=@Int.mul_le_mul_of_nonneg_right
def GdV:=@List.getElem?_range
def GdW:=@List.map_eq_nil_iff
def GdX:=@List.flatMap_append
def GdY:=@List.filter_append
def GdZ:=@Option.isSome_map
def Gea:=@List.getElem?_set
def Geb:=@List.findIdx?_map
def Gec:=@Nat.lt_trichotomy
def Ged:=@List.pairwise_map
def Gee:=@Int.le_trans
def Gef:=@Int.le_of_lt
def Geg:=@Nat.succ_mul
namespace L2
open PySem PySem.Spec PyProof.Rows
abbrev Key:=Sum Int Str
noncomputable def sI:Key->Value->Bool
 | .inl k,v=>Value.isInt k v
 | .inr x,v=>Value.isStrOf x v
noncomputable def Qk(w:World):Key->Int
 | .inl k=>hashInt k
 | .inr x=>hashStr w x
theorem cb:∀{k:Key} {v:Value},sI k v=true->(∃i t,k=Sum.inl i/\v=Value.int i t)\/(∃x t,k=Sum.inr x/\v=Value.str x t)
 | .inl i,v,h=>by
  obtain⟨t,e⟩:=Value.isInt_shape (k:=i) (v:=v) h;exact .inl ⟨i,t,rfl,e⟩
 | .inr x,v,h=>by
  obtain⟨t,e⟩:=Value.isStrOf_shape (x:=x) (v:=v) h;exact .inr ⟨x,t,rfl,e⟩
theorem Ed(i:Int)(t:Tok):sI (.inl i) (.int i t)=true:=by simp[sI,Value.isInt]
theorem Ee(x:Str)(t:Tok):sI (.inr x) (.str x t)=true:=by simp[sI,Value.isStrOf]
theorem Li(a b:Int):decide ((Sum.inl a:Key)=Sum.inl b)=(a==b):=by
 by_cases e:a=b
 .subst e;simp
 .have h:¬(Sum.inl a:Key)=Sum.inl b:=λq=>e (Sum.inl.inj q);rw[Gau h];exact(beq_eq_false_iff_ne.mpr e).symm
theorem Lj(a b:Str):decide ((Sum.inr a:Key)=Sum.inr b)=decide (a=b):=by
 by_cases e:a=b
 .subst e;simp
 .have h:¬(Sum.inr a:Key)=Sum.inr b:=λq=>e (Sum.inr.inj q);rw[Gau h,Gau e]
theorem Lk(a:Int)(b:Str):decide ((Sum.inl a:Key)=Sum.inr b)=false:=Gau (λq=>nomatch q)
theorem Ll(a:Str)(b:Int):decide ((Sum.inr a:Key)=Sum.inl b)=false:=Gau (λq=>nomatch q)
noncomputable def br(prog:Program)(w:World):PySem.KeyKind prog w Key where
 is:=sI
 hash:=Qk w
 inj:=λv a b ha hb=>by
  rcases cb ha with⟨i,t,rfl,rfl⟩| ⟨x,t,rfl,rfl⟩
  .rcases cb hb with⟨j,u,rfl,e⟩| ⟨y,u,rfl,e⟩
   .injection e with e1 _;rw[e1]
   .exact nomatch e
  .rcases cb hb with⟨j,u,rfl,e⟩| ⟨y,u,rfl,e⟩
   .exact nomatch e
   .injection e with e1 _;rw[e1]
 byValue:=λk v h=>by
  rcases cb h with⟨i,t,rfl,rfl⟩| ⟨x,t,rfl,rfl⟩<;>rfl
 pyHash:=λhv h=>by
  rcases cb hv with⟨i,t,rfl,rfl⟩| ⟨x,t,rfl,rfl⟩
  .exact wpAny_pyHash_int h
  .exact wpAny_pyHash_str h
 eqBool:=λhu hv h=>by
  rcases cb hu with⟨i,t,rfl,rfl⟩| ⟨x,t,rfl,rfl⟩
  .rcases cb hv with⟨j,u,rfl,rfl⟩| ⟨y,u,rfl,rfl⟩
   .rw[Li] at h;exact wpAny_eqBool_int h
   .rw[Lk] at h;exact SeqAt.EqAt.int_str i t y u _ _ _ _ h
  .rcases cb hv with⟨j,u,rfl,rfl⟩| ⟨y,u,rfl,rfl⟩
   .rw[Ll] at h;exact SeqAt.EqAt.str_int x t j u _ _ _ _ h
   .rw[Lj] at h;exact wpAny_eqBool_str h
 «strs» :=λk x t v h=>by
  rcases cb h with⟨i,u,rfl,e⟩| ⟨y,u,rfl,e⟩
  .exact nomatch e
  .injection e with e1 _
   subst e1;cases v<;>rfl
theorem oA(prog:Program)(w:World)(i:Int)(t:Tok):(br prog w).is (.inl i) (.int i t)=true:=Ed i t
theorem oB(prog:Program)(w:World)(x:Str)(t:Tok):(br prog w).is (.inr x) (.str x t)=true:=Ee x t
inductive V where
 |non|bl (b:Bool)|int (i:Int)|str (x:Str)|byt (b:Array UInt8)|flt (b:UInt64)|ref (a:Addr)|ty (n:String)
 deriving DecidableEq
def RelV:V->Value->Prop
 | .non,u=>u=Value.none
 | .bl b,u=>u=Value.bool b
 | .int i,u=>∃t,u=Value.int i t
 | .str x,u=>∃t,u=Value.str x t
 | .byt b,u=>∃t,u=Value.bytes b t
 | .flt b,u=>∃t,u=Value.float b t
 | .ref a,u=>u=Value.ref a
 | .ty n,u=>u=Value.type n
abbrev Vals:List V->List Value->Prop:=Paired RelV
theorem Vals.length{xs:List V}{us:List Value}(r:Vals xs us):xs.length=us.length:=Paired.length r
theorem Vals.get:∀{xs:List V} {us:List Value} {i:Nat} {x:V},Vals xs us->xs[i]? =some x->∃u,us[i]? =some u/\RelV x u
 |_,_,_,_,.nil,e=>by simp at e
 |_,_,0,_,.cons r _,e=>by simp at e;subst e;exact⟨_,rfl,r⟩
 |_,_,i+1,x,.cons _ t,e=>by
  obtain⟨u,h1,h2⟩:=Vals.get (i:=i) (x:=x) t (by simpa using e);exact⟨u,by simpa using h1,h2⟩
theorem Vals.set{x:V}{u:Value}(r:RelV x u):∀{xs:List V} {us:List Value} (i:Nat),Vals xs us->Vals (xs.set i x) (us.set i u)
 |_,_,_,.nil=> .nil
 |_,_,0,.cons _ t=> .cons r t
 |_,_,i+1,.cons q t=> .cons q (Vals.set r i t)
theorem Vals.append{xs ys:List V}{us ws:List Value}(p:Vals xs us)(s:Vals ys ws):Vals (xs++ys) (us++ws):=by
 induction p with
 |nil=>exact s
 |cons r t ih=>exact .cons r ih
theorem Vals.take:∀{xs:List V} {us:List Value} (n:Nat),Vals xs us->Vals (xs.take n) (us.take n)
 |_,_,0,_=> .nil
 |_,_,_+1,.nil=> .nil
 |_,_,n+1,.cons r t=> .cons r (Vals.take n t)
theorem Vals.drop:∀{xs:List V} {us:List Value} (n:Nat),Vals xs us->Vals (xs.drop n) (us.drop n)
 |_,_,0,r=>r
 |_,_,_+1,.nil=> .nil
 |_,_,n+1,.cons _ t=>Vals.drop n t
def nH:Option V->Option Value->Prop
 |some v,some u=>RelV v u
 |none,none=>True
 |_,_=>False
def KV{Y:Type}:List (Y×V)->List (Y×Value)->Prop:=Paired λ(p:Y×V) (q:Y×Value)=>p.1=q.1/\RelV p.2 q.2
noncomputable def kV:Key->V
 | .inl i=> .int i
 | .inr x=> .str x
inductive HO where
 |lst (xs:List V)
 |tup (xs:List V)
 |dK (eC:List (Key×V))|dT (eC:List (List Key×V))
 |set (S:Int->Bool) (n:Nat)
 |ins (C dx:Addr) (fs:List (Str×V))
 |own (x:Addr)
 |xd (fs:List (Str×V))
 |met (f x:Addr)
 |rng (lo hi:Int)
 |frz (o:Obj) (u:HO)
 |tbl (ps:Array Value)
 |ext (φ:Heap->Prop)
abbrev Hp:=Addr->Option HO
noncomputable def upd(H:Hp)(a:Addr)(o:HO):Hp:=λb=>if b=a then some o else H b
variable{o:HO}{a:Addr}{H:Hp}
theorem ay:upd H a o a=some o:=by unfold upd;rw[Gaj rfl]
variable{b:Addr}
theorem ag(h:b≠a):upd H a o b=H b:=by unfold upd;rw[Gai h]
variable{u:HO}
theorem CG(h:H a=some o)(h' :H b=some u)(d:o≠u):a≠b:=by
 intro e;subst e;rw[h] at h';exact d (Option.some.inj h')
theorem cO(h:H a=some o)(h' :H b=none):a≠b:=by
 intro e;subst e;rw[h] at h';cases h'
section
variable(P:Program)(w:World)
def bQ(H:Hp)(h:Heap)(a:Addr):HO->Prop
 | .lst xs=>xs.length<=sizeLine/\∃(its:List Value) (n:Nat),Vals xs its/\h.get? a=some {cls:= .type "list",data:= .seq its.toArray n}
 | .tup xs=>xs.length<=sizeLine/\∃its:List Value,Vals xs its/\IsTup h a its.toArray
 | .dK eC=>eC.length<=sizeLine/\(a==sysModules)=false/\∃vs,KV eC vs/\h.DictOf (br P w) a vs
 | .dT eC=>eC.length<=sizeLine/\(a==sysModules)=false/\∃xs:List (List Key×Addr×Value),
   Paired (λ(p:List Key×V) (q:List Key×Addr×Value)=>p.1=q.1/\H q.2.1=some (.tup (p.1.map kV))/\RelV p.2 q.2.2) eC xs/\
   ∃o es ep,h.get? a=some o/\o.ExactDict/\o.data= .dict es ep/\es.toList=xs.map (entryOfKey (tupleKind (br P w)))/\(xs.map (·.1)).Nodup
 | .set S n=>h.SetOf (intKind P w) a S n
 | .ins C dx fs=>H dx=some (.own a)/\fs.length<=1000/\dx≠a/\h.get? a=some (PySem.W.instObj C dx)/\
   ∃mA,h.Ns1 dx mA/\(∀f,nH (fs.lookup f) (mA f))/\PySem.Within mA (fs.map (·.1))
 | .own _=>∃o,h.get? a=some o
 | .xd fs=>∃mA,h.Ns1 a mA/\∀f,nH (fs.lookup f) (mA f)
 | .rng lo hi=>∃t u v,h.get? a=some {cls:= .type "range",data:= .fields #[.int lo t,.int hi u,.int 1 v]}
 | .frz o u=>h.get? a=some o/\bQ H h a u
 | .tbl ps=>h.get? a=some {cls:= .none,data:= .fields ps}
 | .met f x=>h.get? a=some (PySem.W.methodObj (.ref f) (.ref x))
 | .ext φ=>φ h/\(∃o,h.get? a=some o)/\∀h1 h2:Heap,φ h1->(∀o,h1.get? a=some o->h2.get? a=some o)->φ h2
def HOk(H:Hp)(h:Heap):Prop:=∀a o,H a=some o->bQ P w H h a o
end
section
variable{P:Program}{w:World}{H H' :Hp}{h h' :Heap}{a:Addr}{o:HO}
theorem bQ.lt(x:bQ P w H h a o):a<h.objs.size:=by
 cases o with
 |lst xs=>obtain⟨_,_,_,_,e⟩:=x;exact Gav e
 |tup xs=>obtain⟨_,_,_,p⟩:=x;exact p.lt
 |dK eC=>obtain⟨_,_,_,_,o,_,_,e,_⟩:=x;exact Gav e
 |dT eC=>obtain⟨_,_,_,_,o,_,_,e,_⟩:=x;exact Gav e
 |set S n=>obtain⟨o,_,_,_,e,_⟩:=x;exact Gav e
 |ins C dx fs=>obtain⟨_,_,_,e,_⟩:=x;exact Gav e
 |own y=>obtain⟨_,e⟩:=x;exact Gav e
 |xd fs=>obtain⟨_,⟨_,_,_,e,_⟩,_⟩:=x;exact Gav e
 |rng lo hi=>obtain⟨_,_,_,e⟩:=x;exact Gav e
 |frz ob u=>obtain⟨e,_⟩:=x;exact Gav e
 |tbl ps=>exact Gav (show h.get? a=some _ from x)
 |met f y=>exact Gav (show h.get? a=some _ from x)
 |ext φ=>obtain⟨_,⟨_,e⟩,_⟩:=x;exact Gav e
theorem Paired.J1{α β:Type}{F G:α->β->Prop}{l₁:List α}{l₂:List β}(p:Paired F l₁ l₂)(f:∀a b,F a b->G a b):Paired G l₁ l₂:=by
 induction p with
 |nil=>exact .nil
 |cons r t ih=>exact .cons (f _ _ r) ih
theorem bQ.de(x:bQ P w H h a o)(k:∀b u,(b=a\/H b=some (.own a))->h.get? b=some u->h'.get? b=some u)
  (ho:∀b,H b=some (.own a)->H' b=some (.own a))(ht:∀b xs,H b=some (.tup xs)->H' b=some (.tup xs)):bQ P w H' h' a o:=by
 induction o with
 |lst xs=>obtain⟨z,its,n,r,e⟩:=x;exact⟨z,its,n,r,k _ _ (.inl rfl) e⟩
 |tup xs=>obtain⟨z,its,r,ob,e,c⟩:=x;exact⟨z,its,r,ob,k _ _ (.inl rfl) e,c⟩
 |dK eC=>obtain⟨z,y,vs,r,ob,es,ep,e,c⟩:=x;exact⟨z,y,vs,r,ob,es,ep,k _ _ (.inl rfl) e,c⟩
 |dT eC=>
  obtain⟨z,y,xs,r,ob,es,ep,e,c⟩:=x;exact⟨z,y,xs,Paired.J1 r λp q z=> ⟨z.1,ht _ _ z.2.1,z.2.2⟩,ob,es,ep,k _ _ (.inl rfl) e,c⟩
 |set S n=>obtain⟨ob,es,ep,t,e,c⟩:=x;exact⟨ob,es,ep,t,k _ _ (.inl rfl) e,c⟩
 |ins C dx fs=>
  obtain⟨d,z,ne,e,mA,⟨od,es,ep,e2,c⟩,r⟩:=x;exact⟨ho _ d,z,ne,k _ _ (.inl rfl) e,mA,⟨od,es,ep,k _ _ (.inr d) e2,c⟩,r⟩
 |own y=>obtain⟨ob,e⟩:=x;exact⟨ob,k _ _ (.inl rfl) e⟩
 |xd fs=>obtain⟨mA,⟨od,es,ep,e,c⟩,r⟩:=x;exact⟨mA,⟨od,es,ep,k _ _ (.inl rfl) e,c⟩,r⟩
 |rng lo hi=>obtain⟨t,u,v,e⟩:=x;exact⟨t,u,v,k _ _ (.inl rfl) e⟩
 |frz ob u ih=>obtain⟨e,q⟩:=x;exact⟨k _ _ (.inl rfl) e,ih q⟩
 |tbl ps=>
  have e:h.get? a=some {cls:= .none,data:= .fields ps}:=x;show h'.get? a=some {cls:= .none,data:= .fields ps};exact k a _ (.inl rfl) e
 |met f y=>
  have e:h.get? a=some (PySem.W.methodObj (.ref f) (.ref y)):=x;show h'.get? a=some (PySem.W.methodObj (.ref f) (.ref y));exact k a _ (.inl rfl) e
 |ext φ=>obtain⟨p,⟨o,e⟩,st⟩:=x;exact⟨st _ _ p λo q=>k _ _ (.inl rfl) q,⟨o,k _ _ (.inl rfl) e⟩,st⟩
theorem HOk.lt(x:HOk P w H h)(e:H a=some o):a<h.objs.size:=(x a o e).lt
theorem HOk.fresh(x:HOk P w H h)(e:h.objs.size<=a):H a=none:=by
 cases q:H a with
 |none=>rfl
 |some u=>exact absurd (GaH (x.lt q) e) (Gbx _)
theorem HOk.kept(x:HOk P w H h)(k:∀b u,h.get? b=some u->h'.get? b=some u):HOk P w H h' :=λa o e=>
 (x a o e).de (λb u _ q=>k b u q) (λ_ q=>q) λ_ _ q=>q
theorem HOk.laid(x:HOk P w H h)(k:∀b u,h.get? b=some u->h'.get? b=some u)(hp:h.objs.size<=a)(new:bQ P w (upd H a o) h' a o):HOk P w (upd H a o) h' :=λb u e=>by
 have hn:=x.fresh hp;by_cases hb:b=a
 .subst hb;rw[ay] at e;cases e;exact new
 .rw[ag hb] at e;exact(x b u e).de (λc v _ q=>k c v q) (λc q=>by rw[ag (cO q hn)];exact q) λc xs q=>by rw[ag (cO q hn)];exact q
end
def Rd(H:Hp)(a:Addr)(u:HO):Prop:=H a=some u\/∃o,H a=some (.frz o u)
variable{h:Heap}
theorem Rd.ok{P:Program}{w:World}(r:Rd H a u)(x:HOk P w H h):bQ P w H h a u:=by
 rcases r with r| ⟨o,r⟩
 .exact x a u r
 .obtain⟨_,q⟩:=x a _ r;exact q
def Mut:Option HO->Prop
 |some (.lst _)=>True
 |some (.dK _)=>True
 |some (.dT _)=>True
 |some (.set _ _)=>True
 |some (.ins _ _ _)=>True
 |some (.ext _)=>True
 |_=>False
section
variable{P:Program}{w:World}{H:Hp}{h h' :Heap}{x e:Addr}{o' :HO}
theorem HOk.write(ok:HOk P w H h)(mu:Mut (H x))(he:e=x\/H e=some (.own x))(k:∀b u,b≠e->h.get? b=some u->h'.get? b=some u)(zA:∃u,h'.get? e=some u)
  (new:bQ P w (upd H x o') h' x o'):HOk P w (upd H x o') h' :=λb u q=>by
 have nown:∀c y,H c=some (.own y)->c≠x:=λc y r z=>by subst z;rw[r] at mu;exact mu
 have ntup:∀c xs,H c=some (.tup xs)->c≠x:=λc xs r z=>by subst z;rw[r] at mu;exact mu
 by_cases hb:b=x
 .subst hb;rw[ay] at q;cases q;exact new
 .rw[ag hb] at q;by_cases hbe:b=e
  .have q' :H b=some (.own x):=by
    rcases he with z|z
    .exact absurd (hbe.trans z) hb
    .rw[hbe];exact z
   rw[q] at q';cases q'
   obtain⟨v,hv⟩:=zA;exact⟨v,by rw[hbe];exact hv⟩
  .refine(ok b u q).de (λc v hc r=>k c v ?_ r) (λc r=>by rw[ag (nown c b r)];exact r) λc xs r=>by rw[ag (ntup c xs r)];exact r
   rcases hc with rfl|hc
   .exact hbe
   .rintro rfl;rcases he with z|z
    .exact nown c b hc z
    .rw[hc] at z;cases z;exact hb rfl
end
structure Un(fs ex:List Addr)(H H' :Hp)(h h' :Heap):Prop where
 keep:∀b o,h.get? b=some o->H b=none->b∉fs->b∉ex->h'.get? b=some o
 slot:∀b o,h.get? b=some o->H b=none->b∈fs->b∉ex->∃sl,h'.get? b=some {o with slots:=sl}
 free:∀b o,h.get? b=some o->H b=none->b∉ex->H' b=none
 there:∀b o,h.get? b=some o->b∉ex->∃o',h'.get? b=some o'
 vO:∀b xs,H b=some (.tup xs)->H' b=some (.tup xs)
 rV:∀b o u,H b=some (.frz o u)->H' b=some (.frz o u)
 vP:∀b ps,H b=some (.tbl ps)->∃more,H' b=some (.tbl (ps++more))
section
variable{fs Us ex UI :List Addr}{H H1 H2:Hp}{h h1 h2 h' :Heap}{a x e:Addr}{o:HO}
theorem Un.any(u:Un fs ex H H1 h h1){b:Addr}{ob:Obj}(q:h.get? b=some ob)(n:H b=none)(hx:b∉ex):∃sl,h1.get? b=some {ob with slots:=sl}:=by
 by_cases hb:b∈fs
 .exact u.slot b ob q n hb hx
 .exact⟨ob.slots,u.keep b ob q n hb hx⟩
theorem Un.kept(k:∀b u,h.get? b=some u->h'.get? b=some u):Un fs ex H H h h' :=
 ⟨λb ob q _ _ _=>k b ob q,λb ob q _ _ _=> ⟨ob.slots,k b ob q⟩,λ_ _ _ n _=>n,λb ob q _=> ⟨ob,k b ob q⟩,λ_ _ q=>q,λ_ _ _ q=>q,λ_ ps q=> ⟨#[],by rw[q];simp⟩⟩
theorem Un.refl:Un fs ex H H h h:=Un.kept λ_ _ q=>q
theorem Un.laid(k:∀b u,h.get? b=some u->h'.get? b=some u)(hp:h.objs.size<=a)(hn:H a=none):Un fs ex H (upd H a o) h h' where
 keep:=λb u q _ _ _=>k b u q
 slot:=λb u q _ _ _=> ⟨u.slots,k b u q⟩
 free:=λb u q n _=>by rw[ag (GaJ (GaH (Gav q) hp))];exact n
 there:=λb u q _=> ⟨u,k b u q⟩
 vO:=λb xs q=>by rw[ag (cO q hn)];exact q
 rV:=λb u xs q=>by rw[ag (cO q hn)];exact q
 vP:=λb ps q=> ⟨#[],by rw[ag (cO q hn),q];simp⟩
theorem Un.write(mu:Mut (H x))(he:e=x\/H e=some (.own x))(k:∀b u,b≠e->h.get? b=some u->h'.get? b=some u)(zA:∃u,h'.get? e=some u):Un fs ex H (upd H x o) h h' :=by
 have hx:∀b,H b=none->b≠x:=λb n z=>by subst z;rw[n] at mu;exact mu
 have hb:∀b,H b=none->b≠e:=λb n z=>by
  subst z;rcases he with r|r
  .exact hx b n r
  .rw[n] at r;cases r
 have hm:∀b u,H b=some u->¬Mut (some u)->b≠x:=λb u q nm z=>by subst z;rw[q] at mu;exact nm mu
 refine⟨λb u q n _ _=>k b u (hb b n) q,λb u q n _ _=> ⟨u.slots,k b u (hb b n) q⟩,λb u q n _=>by rw[ag (hx b n)];exact n,λb u q _=> ?_,
  λb xs q=>by rw[ag (hm b _ q λz=>z)];exact q,λb u xs q=>by rw[ag (hm b _ q λz=>z)];exact q,λb ps q=> ⟨#[],by rw[ag (hm b _ q λz=>z),q];simp⟩⟩
 by_cases hbe:b=e
 .subst hbe;exact zA
 .exact⟨u,k b u hbe q⟩
end
noncomputable def trk(h:Heap)(H:Hp):List Addr:=(List.range h.objs.size).filter λa=>(H a).isSome
noncomputable def ur(h:Heap)(H:Hp):Heap:=PySem.W.hideAll h (trk h H)
theorem Ef(h:Heap)(H:Hp):(ur h H).objs.size=h.objs.size:=PySem.W.hideAll_size _ _
theorem FY{o:Obj}(e:h.get? b=some o)(n:H b=none):(ur h H).get? b=some o:=
 PySem.W.hideAll_get _ e λhm=>by
  have q:(H b).isSome=true:=(Gby.mp hm).2;rw[n] at q;simp at q
theorem J3{o:Obj}(e:(ur h H).get? b=some o):h.get? b=some o/\H b=none:=by
 have e' :h.get? b=some o:=PySem.W.of_hideAll (trk h H) e;refine⟨e', ?_⟩;cases q:H b with
 |none=>rfl
 |some x=>
  have hm:b∈trk h H:=Gby.mpr ⟨GaV.mpr (Gav e'),by simp[q]⟩;have z:(ur h H).get? b=none:=PySem.W.hideAll_none (trk h H) hm;rw[z] at e;cases e
structure Mod(K:PySem.W.Frag)(mg:Str->Option Value)(base:Heap):Prop where
 kin:K.In base
 glob:base.Ns mainGlobals mg
 blt:∃mb,base.Ns builtinsNs mb/\∀x:Str,x≠"__name__"->mb x=bootBuiltins x
 nolimit:base.NoLimit
structure Cx where
 prog:Program
 w:World
 K:PySem.W.Frag
 mg:Str->Option Value
 base:Heap
 A:Around
 N:List Str
 s₀:Shared
 H0:Hp
 env:Env
 outer:List Env
 stack:List Env
 ex:List Addr
 fn:Str->Bool
 calm:Bool
 pn:List (Addr×Obj)
 xe:Value->Shared->Prop
noncomputable def frs(l:List Env):List Addr:=l.filterMap (·.frame)
noncomputable abbrev Cx.fs (X:Cx):List Addr:=frs X.outer
def Vis(sc:Scope)(x:Str):Prop:=sc.names.lookup x=some .local\/sc.names.lookup x=some .cell\/sc.names.lookup x=some .free
def Loc(sc:Scope)(x:Str):Prop:=sc.names.lookup x=some .local\/sc.names.lookup x=some .cell
def Look(env:Env)(h:Heap)(m:Str->Option Value)(x:Str)(u:Value):Prop:=
 (env.kindOf x=some .local/\m x=some u)\/((env.kindOf x=some .cell\/env.kindOf x=some .free)/\∃c,env.cells.lookup x=some c/\h.IsCell c (some u))
structure Cx.Ok(X:Cx):Prop where
 mod:Mod X.K X.mg X.base
 kind:X.env.scope.kind= .function
 glob:X.env.globals=mainGlobals
 blt:X.env.builtins=builtinsNs
 above:X.s₀.heap.objs.size<=X.env.locals
 inj:∀x y c,X.env.cells.lookup x=some c->X.env.cells.lookup y=some c->x=y
 has:∀x,(X.env.kindOf x=some .cell\/X.env.kindOf x=some .free)->∃c,X.env.cells.lookup x=some c
 cab:∀x c,X.fn x=true->X.env.cells.lookup x=some c->X.s₀.heap.objs.size<=c
 hd:X.calm=true->X.A.handled=none
 frames:X.A.frames=some X.stack
 stk:X.stack=X.outer\/(X.stack=X.env::X.outer/\X.env.frame=some X.env.locals)
 exf:∀b∈X.ex,b≠X.env.locals/\∀x c,X.env.cells.lookup x=some c->c≠b
 bs:∀b o,X.base.get? b=some o->X.s₀.heap.get? b=some o/\X.H0 b=none
 bsz:X.base.objs.size<=X.s₀.heap.objs.size
 IY:∀b o,X.base.get? b=some o->b∉X.ex
 IZ:∀b∈X.ex,b∉X.fs
 pJ:X.s₀.heap.FunFrames X.base X.outer
 frf:∀b∈X.fs,X.H0 b=none
structure Inv(X:Cx)(e8:List (Addr×Obj))(Z:List (Option V))(H:Hp)(s:Shared):Prop where
 ok:X.Ok
 os:s.os=X.s₀.os
 bare:AllBare s.gens
 base:Un X.fs X.ex X.H0 H X.s₀.heap s.heap
 loc:∃m,s.heap.Ns X.env.locals m/\∀(i:Nat) (x:Str) (v:V),X.N[i]? =some x->Z[i]? =some (some v)->Vis X.env.scope x->∃u,RelV v u/\Look X.env s.heap m x u
 cell:∀x c,X.env.cells.lookup x=some c->∃v,s.heap.IsCell c v
 free:H X.env.locals=none
 iZ:∀x c,X.env.cells.lookup x=some c->H c=none
 pin:∀p∈X.pn++e8,s.heap.get? p.1=some p.2/\H p.1=none/\p.1≠X.env.locals/\p.1∉X.fs/\∀v,p.2.data≠ .cell v
 hok:HOk X.prog X.w H s.heap
 len:Z.length=X.N.length
section
variable{X:Cx}{e8:List (Addr×Obj)}{Z:List (Option V)}{H H' :Hp}{s:Shared}{h' :Heap}
theorem Cx.Ok.Ql(ok:X.Ok){b:Addr}{o:Obj}(e:X.base.get? b=some o):b∉X.fs:=λhb=>by
 have:=(ok.pJ.mem hb).1;rw[e] at this;cases this
theorem Inv.bs(I:Inv X e8 Z H s):∀b o,X.base.get? b=some o->s.heap.get? b=some o/\H b=none:=λb o e=>
 ⟨I.base.keep b o (I.ok.bs b o e).1 (I.ok.bs b o e).2 (I.ok.Ql e) (I.ok.IY b o e),I.base.free b o (I.ok.bs b o e).1 (I.ok.bs b o e).2 (I.ok.IY b o e)⟩
theorem Inv.bk(I:Inv X e8 Z H s):∀b o,X.base.get? b=some o->s.heap.get? b=some o:=λb o e=>(I.bs b o e).1
theorem Inv.mod(I:Inv X e8 Z H s):Mod X.K X.mg X.base:=I.ok.mod
theorem Inv.kIn(I:Inv X e8 Z H s):X.K.In s.heap:=I.ok.mod.kin.keeps I.bk
theorem Inv.lt(I:Inv X e8 Z H s):X.env.locals<s.heap.objs.size:=let⟨_,hn,_⟩:=I.loc;hn.lt
theorem Inv.sz(I:Inv X e8 Z H s):X.s₀.heap.objs.size<=s.heap.objs.size:=Gbo I.ok.above (GcS I.lt)
theorem Inv.Qm(I:Inv X e8 Z H s){a:Addr}(h:s.heap.objs.size<=a):a∉X.fs:=λhb=>by
 obtain⟨_,o,ho,_⟩:=I.ok.pJ.mem hb;exact absurd (GaH (Gav ho) (Gbo I.sz h)) (Gbx _)
theorem Inv.cne(I:Inv X e8 Z H s):∀x c,X.env.cells.lookup x=some c->c≠X.env.locals:=λx c e z=>by
 obtain⟨v,o,ho,hd⟩:=I.cell x c e;obtain⟨m,⟨o',es,ep,xx,xb,_⟩,_⟩:=I.loc;rw[z,xx] at ho;cases ho;rw[xb] at hd;cases hd
theorem Inv.pJ(I:Inv X e8 Z H s):s.heap.FunFrames X.base X.outer:=by
 have all:∀(l:List Env),(∀b∈frs l,b∈X.fs)->X.s₀.heap.FunFrames X.base l->s.heap.FunFrames X.base l:=by
  intro l;induction l with
  |nil=>intro _ _;trivial
  |cons env r ih=>
   intro hs hl;obtain⟨hk,⟨L,o,hf,hn,ho,hd⟩,hr⟩:=hl;have hL:L∈X.fs:=hs L (by unfold frs;rw[GcA,hf];exact Gak);obtain⟨sl,e⟩:=I.base.slot L o ho (I.ok.frf L hL) hL λz=>I.ok.IZ L z hL;exact⟨hk,⟨L,_,hf,hn,e,hd⟩,ih (λb hb=>hs b (by unfold frs;rw[GcA,hf];exact Gag _ hb)) hr⟩
 exact all X.outer (λ_ hb=>hb) I.ok.pJ
theorem Inv.stack(I:Inv X e8 Z H s):s.heap.FunFrames X.base X.stack:=by
 rcases I.ok.stk with e| ⟨e,hf⟩
 .rw[e];exact I.pJ
 .rw[e];obtain⟨m,hn,_⟩:=I.loc;refine .cons (by rw[I.ok.kind];decide) hf hn ?_ I.pJ;exact Heap.get?_none_of_le (Gbo I.ok.bsz I.ok.above)
theorem Inv.B4(I:Inv X e8 Z H s):∀b∈frs X.stack,b∈X.env.locals::X.fs:=λb hb=>by
 rcases I.ok.stk with e| ⟨e,hf⟩
 .rw[e] at hb;exact Gag _ hb
 .rw[e] at hb;unfold frs at hb;rw[GcA,hf] at hb;exact hb
theorem Inv.CH(I:Inv X e8 Z H s):∀b∈frs X.stack,H b=none:=λb hb=>by
 rcases GaB.mp (I.B4 b hb) with e|hb
 .rw[e];exact I.free
 .obtain⟨_,o,ho,_⟩:=I.ok.pJ.mem hb;exact I.base.free b o ho (I.ok.frf b hb) λz=>I.ok.IZ b z hb
variable{ch:List Addr}{t' :Nat}
theorem Inv.step{g' :Array GenState}{d' :Drawn}(I:Inv X e8 Z H s)
  (xG:∀b∈ch,(b∈X.ex\/X.s₀.heap.objs.size<=b)/\b≠X.env.locals/\(∀x c,X.env.cells.lookup x=some c->c≠b)/\∀p∈X.pn++e8,p.1≠b)
  (keep:∀b o,b≠X.env.locals->b∉X.fs->b∉ch->s.heap.get? b=some o->H b=none->h'.get? b=some o)
  (slot:∀b o,b≠X.env.locals->b∈X.fs->b∉ch->s.heap.get? b=some o->H b=none->∃sl,h'.get? b=some {o with slots:=sl})(free:∀b o,b∉ch->s.heap.get? b=some o->H b=none->H' b=none)
  (there:∀b o,b∉ch->s.heap.get? b=some o->∃o',h'.get? b=some o')
  (vO:∀b xs,H b=some (.tup xs)->H' b=some (.tup xs))(rV:∀b o u,H b=some (.frz o u)->H' b=some (.frz o u))(vP:∀b ps,H b=some (.tbl ps)->∃more,H' b=some (.tbl (ps++more)))
  (ns:∀m,s.heap.Ns X.env.locals m->h'.Ns X.env.locals m)(hok:HOk X.prog X.w H' h')(hg:AllBare g'):
  Inv X e8 Z H' {s with heap:=h',gens:=g',drawn:=d',toks:=t' }:=by
 have neL:∀b o,X.s₀.heap.get? b=some o->b≠X.env.locals:=λb o e=>GaJ (GaH (Gav e) I.ok.above);have neC:∀b o,X.s₀.heap.get? b=some o->b∉X.ex->b∉ch:=λb o e hx hb=>by
  rcases(xG b hb).1 with z|z
  .exact hx z
  .exact absurd (GaH (Gav e) z) (Gbx _)
 have cellK:∀x c,X.env.cells.lookup x=some c->∀v,s.heap.IsCell c v->h'.IsCell c v:=λx c e v ⟨o,ho,hd⟩=>by
  have nch:c∉ch:=λz=>(xG c z).2.2.1 x c e rfl;by_cases hc:c∈X.fs
  .obtain⟨sl,q⟩:=slot c o (I.cne x c e) hc nch ho (I.iZ x c e);exact⟨_,q,hd⟩
  .exact⟨o,keep c o (I.cne x c e) hc nch ho (I.iZ x c e),hd⟩
 refine⟨I.ok,I.os,hg,⟨λb o e n hb hx=> ?_,λb o e n hb hx=> ?_,λb o e n hx=> ?_,λb o e hx=> ?_,λb xs e=>vO b xs (I.base.vO b xs e),λb o xs e=>rV b o xs (I.base.rV b o xs e),λb ps e=> ?_⟩, ?_,λx c e=> ?_, ?_,λx c e=> ?_,λp hp=> ?_,hok,I.len⟩
 .exact keep b o (neL b o e) hb (neC b o e hx) (I.base.keep b o e n hb hx) (I.base.free b o e n hx)
 .obtain⟨sl,e1⟩:=I.base.slot b o e n hb hx;obtain⟨Tq,e2⟩:=slot b _ (neL b o e) hb (neC b o e hx) e1 (I.base.free b o e n hx);exact⟨Tq,e2⟩
 .obtain⟨o',e1⟩:=I.base.there b o e hx;exact free b o' (neC b o e hx) e1 (I.base.free b o e n hx)
 .obtain⟨o',e1⟩:=I.base.there b o e hx;exact there b o' (neC b o e hx) e1
 .obtain⟨m1,e1⟩:=I.base.vP b ps e;obtain⟨m2,e2⟩:=vP b _ e1;exact⟨m1++m2,by rw[e2,Array.append_assoc]⟩
 .obtain⟨m,hn,hl⟩:=I.loc;refine⟨m,ns m hn,λi x v e1 e2 e3=> ?_⟩;obtain⟨u,r,l⟩:=hl i x v e1 e2 e3;refine⟨u,r, ?_⟩;rcases l with l| ⟨k,c,e,z⟩
  .exact .inl l
  .exact .inr ⟨k,c,e,cellK x c e _ z⟩
 .obtain⟨v,z⟩:=I.cell x c e;exact⟨v,cellK x c e v z⟩
 .obtain⟨m,⟨o,_,_,ho,_⟩,_⟩:=I.loc;exact free _ o (λz=>(xG _ z).2.1 rfl) ho I.free
 .obtain⟨v,o,ho,hd⟩:=I.cell x c e;exact free c o (λz=>(xG c z).2.2.1 x c e rfl) ho (I.iZ x c e)
 .obtain⟨e,n,ne,nf,d⟩:=I.pin p hp;have nch:p.1∉ch:=λz=>(xG p.1 z).2.2.2 p hp rfl;exact⟨keep p.1 p.2 ne nf nch e n,free p.1 p.2 nch e n,ne,nf,d⟩
theorem Inv.un(I:Inv X e8 Z H s)(u:Un X.fs [] H H' s.heap h')(hok:HOk X.prog X.w H' h'):Inv X e8 Z H' {s with heap:=h',toks:=t' }:=by
 obtain⟨m,⟨o,es,ep,ho,r⟩,_⟩:=id I.loc;obtain⟨sl,hL⟩:=u.any ho I.free (by simp);exact I.step (g' :=s.gens) (d' :=s.drawn) (ch:=[]) (λ_ z=>nomatch z) (λb o _ hb _ e n=>u.keep b o e n hb (by simp)) (λb o _ hb _ e n=>u.slot b o e n hb (by simp)) (λb o _ e n=>u.free b o e n (by simp)) (λb o _ e=>u.there b o e (by simp)) u.vO u.rV u.vP (λm' hm=>by
  obtain⟨o',Ru,Rw,xx,r'⟩:=hm;rw[ho] at xx;cases xx
  exact⟨_,Ru,Rw,hL,r'⟩) hok I.bare
theorem Inv.call{g' :Array GenState}{d' :Drawn}(I:Inv X e8 Z H s)(u:Un (frs X.stack) ch H H' s.heap h')(hok:HOk X.prog X.w H' h')(hg:AllBare g')
  (xG:∀b∈ch,(b∈X.ex\/X.s₀.heap.objs.size<=b)/\b≠X.env.locals/\(∀x c,X.env.cells.lookup x=some c->c≠b)/\∀p∈X.pn++e8,p.1≠b):
  Inv X e8 Z H' {s with heap:=h',gens:=g',drawn:=d',toks:=t' }:=by
 obtain⟨m,⟨o,es,ep,ho,r⟩,_⟩:=id I.loc;obtain⟨sl,hL⟩:=u.any ho I.free λz=>(xG _ z).2.1 rfl;exact I.step (ch:=ch) xG (λb o hL hb hc e n=>u.keep b o e n (λz=>(GaB.mp (I.B4 b z)).elim hL hb) hc) (λb o _ _ hc e n=>u.any e n hc) (λb o hc e n=>u.free b o e n hc) (λb o hc e=>u.there b o e hc) u.vO u.rV u.vP (λm' hm=>by
  obtain⟨o',Ru,Rw,xx,r'⟩:=hm;rw[ho] at xx;cases xx
  exact⟨_,Ru,Rw,hL,r'⟩) hok hg
theorem Inv.turned{it:Addr}(I:Inv X e8 Z H s)(k:∀b o,b≠it->s.heap.get? b=some o->h'.get? b=some o)(hn:H it=none)(hL:it≠X.env.locals)
  (h1:it∈X.ex\/X.s₀.heap.objs.size<=it)(h2:∀x c,X.env.cells.lookup x=some c->c≠it)(h3:∀p∈X.pn++e8,p.1≠it):Inv X e8 Z H {s with heap:=h',toks:=t' }:=by
 have nit:∀b u,H b=some u->b≠it:=λb u e z=>by rw[z,hn] at e;cases e
 refine I.step (g' :=s.gens) (d' :=s.drawn) (ch:=[it]) (λb hb=> ?_) (λb o _ _ hc e _=>k b o (λz=>hc (by simp[z])) e) (λb o _ _ hc e _=> ⟨o.slots,k b o (λz=>hc (by simp[z])) e⟩) (λ_ _ _ _ n=>n)
  (λb o hc e=> ⟨o,k b o (λz=>hc (by simp[z])) e⟩) (λ_ _ e=>e) (λ_ _ _ e=>e) (λb ps e=> ⟨#[],by rw[e];simp⟩) (λm hm=> ?_) (λb u e=> ?_) I.bare
 .have e:b=it:=by simpa using hb
  subst e;exact⟨h1,hL,h2,h3⟩
 .obtain⟨o,es,ep,ho,r⟩:=hm;exact⟨o,es,ep,k _ o (Ne.symm hL) ho,r⟩
 .refine(I.hok b u e).de (λc v hc q=>k c v ?_ q) (λ_ q=>q) λ_ _ q=>q;rcases hc with z|z
  .rw[z];exact nit b u e
  .exact nit c _ z
theorem Inv.tok(I:Inv X e8 Z H s)(t:Nat):Inv X e8 Z H {s with toks:=t}:=I.un (h' :=s.heap) (t' :=t) Un.refl I.hok
theorem Inv.kept{t' :Nat}(I:Inv X e8 Z H s)(k:∀b u,s.heap.get? b=some u->h'.get? b=some u):Inv X e8 Z H {s with heap:=h',toks:=t' }:=I.un (Un.kept k) (I.hok.kept k)
theorem Inv.laid{a:Addr}{o:HO}{t' :Nat}(I:Inv X e8 Z H s)(k:∀b u,s.heap.get? b=some u->h'.get? b=some u)(hp:s.heap.objs.size<=a)(new:bQ X.prog X.w (upd H a o) h' a o):
  Inv X e8 Z (upd H a o) {s with heap:=h',toks:=t' }:=I.un (Un.laid k hp (I.hok.fresh hp)) (I.hok.laid k hp new)
theorem Inv.write{x e:Addr}{o:HO}{t' :Nat}(I:Inv X e8 Z H s)(mu:Mut (H x))(he:e=x\/H e=some (.own x))(k:∀b u,b≠e->s.heap.get? b=some u->h'.get? b=some u)(zA:∃u,h'.get? e=some u)
  (new:bQ X.prog X.w (upd H x o) h' x o):Inv X e8 Z (upd H x o) {s with heap:=h',toks:=t' }:=I.un (Un.write mu he k zA) (I.hok.write mu he k zA new)
theorem Inv.CI{xY :List (Addr×Obj)}(I:Inv X e8 Z H s)(h:∀p∈xY,s.heap.get? p.1=some p.2/\H p.1=none/\p.1≠X.env.locals/\p.1∉X.fs/\∀v,p.2.data≠ .cell v):Inv X xY Z H s:=
 ⟨I.ok,I.os,I.bare,I.base,I.loc,I.cell,I.free,I.iZ,λp hp=>(GaL.mp hp).elim (λz=>I.pin p (GbV _ z)) (h p),I.hok,I.len⟩
variable{x:Str}{i:Nat}
theorem vS{N:List Str}(hN:N.Nodup){j:Nat}(a:N[i]? =some x)(b:N[j]? =some x):i=j:=by
 obtain⟨h1,e1⟩:=Gal.mp a;obtain⟨h2,e2⟩:=Gal.mp b;exact(List.getElem_inj hN).mp (e1.trans e2.symm)
variable{u:Value}{v:V}{A:Around}
theorem sJ{M:Model}{E:Value->Shared->Prop}{Q:Unit->Shared->Prop}(I:Inv X e8 Z H s)(hN:X.N.Nodup)(hi:X.N[i]? =some x)(hx:Loc X.env.scope x)(r:RelV v u)
  (h:∀s',Inv X e8 (Z.set i (some v)) H s' ->(∃a,Heap.SameBut a s.heap s'.heap/\(a=X.env.locals\/X.env.cells.lookup x=some a))->Q () s')(hf:X.fn x=true\/X.env.scope.names.lookup x=some .local:=by first|exact .inl rfl|exact .inr rfl|assumption):wpAny M A (storeName X.env x u) Q E s:=by
 obtain⟨m,hn,hl⟩:=id I.loc;have hcls:(X.env.scope.kind== .class||(X.env.scope.kind== .module&&X.env.locals !=X.env.globals))=false:=by rw[I.ok.kind];rfl
 have hiZ:i<Z.length:=by rw[I.len];exact(Gal.mp hi).1
 have cne:=I.cne;have tracked:∀{a:Addr} {h' :Heap},(∃o,s.heap.get? a=some o/\H a=none)->Heap.SameBut a s.heap h' ->HOk X.prog X.w H h' :=λ{a h'} ha hs b ob e=>by
  obtain⟨_,_,xA⟩:=ha;refine(I.hok b ob e).de (λc w' hc q=>(hs.2 c ?_).trans q) (λ_ q=>q) λ_ _ q=>q;rintro rfl;rcases hc with rfl|hc
  .rw[xA] at e;cases e
  .rw[xA] at hc;cases hc
 rcases hx with hk|hk
 .refine wpAny_storeName_local hk hn (λh' hJ hs=> ?_) hcls;obtain⟨oL,_,_,yK,_⟩:=id hn;refine h _ ⟨I.ok,I.os,I.bare,⟨λb o e n hb hx=> ?_,λb o e n hb hx=> ?_,I.base.free,λb o e hx=> ?_,I.base.vO,I.base.rV,I.base.vP⟩,⟨_,hJ,λj y v' e1 e2 e3=> ?_⟩,λy c e=> ?_,I.free,I.iZ,λp hp=> ?_,tracked ⟨oL,yK,I.free⟩ hs,by simpa using I.len⟩ ⟨_,hs,.inl rfl⟩
  .exact(hs.2 b (GaJ (GaH (Gav e) I.ok.above))).trans (I.base.keep b o e n hb hx)
  .obtain⟨sl,e1⟩:=I.base.slot b o e n hb hx;exact⟨sl,(hs.2 b (GaJ (GaH (Gav e) I.ok.above))).trans e1⟩
  .obtain⟨o',e1⟩:=I.base.there b o e hx;exact⟨o',(hs.2 b (GaJ (GaH (Gav e) I.ok.above))).trans e1⟩
  .by_cases hj:j=i
   .subst hj;rw[hi] at e1;cases e1
    rw[GaZ hiZ] at e2;cases e2;exact⟨u,r,.inl ⟨hk,by simp⟩⟩
   .rw[Gae (Ne.symm hj)] at e2;obtain⟨u',r',q⟩:=hl j y v' e1 e2 e3;refine⟨u',r', ?_⟩;rcases q with⟨k,e⟩| ⟨k,c,e,z⟩
    .refine .inl ⟨k, ?_⟩;have:y≠x:=λe=>hj (vS hN e1 (e▸hi));simp[this,e]
    .exact .inr ⟨k,c,e,z.sameBut hs (cne y c e)⟩
  .obtain⟨w',z⟩:=I.cell y c e;exact⟨w',z.sameBut hs (cne y c e)⟩
  .obtain⟨e,n,ne,nf,d⟩:=I.pin p hp;exact⟨(hs.2 p.1 ne).trans e,n,ne,nf,d⟩
 .have hfn:X.fn x=true:=by
   rcases hf with z|z
   .exact z
   .rw[z] at hk;cases hk
  obtain⟨c,hc⟩:=I.ok.has x (.inl hk);obtain⟨w',z⟩:=I.cell x c hc;refine wpAny_storeName_cell I.ok.kind hk hc z (λh' yl hs=> ?_);obtain⟨oc,SO,S1⟩:=id z;refine h {s with heap:=h' } ⟨I.ok,I.os,I.bare,⟨λb o e n hb hx=> ?_,λb o e n hb hx=> ?_,I.base.free,λb o e hx=> ?_,I.base.vO,I.base.rV,I.base.vP⟩,⟨m,hn.sameBut hs (Ne.symm (cne x c hc)),λj y v' e1 e2 e3=> ?_⟩,λy c' e=> ?_,I.free,I.iZ,λp hp=> ?_,tracked ⟨oc,SO,I.iZ x c hc⟩ hs,by simpa using I.len⟩ ⟨c,hs,.inr hc⟩
  .exact(hs.2 b (GaJ (GaH (Gav e) (I.ok.cab x c hfn hc)))).trans (I.base.keep b o e n hb hx)
  .obtain⟨sl,e1⟩:=I.base.slot b o e n hb hx;exact⟨sl,(hs.2 b (GaJ (GaH (Gav e) (I.ok.cab x c hfn hc)))).trans e1⟩
  .obtain⟨o',e1⟩:=I.base.there b o e hx;exact⟨o',(hs.2 b (GaJ (GaH (Gav e) (I.ok.cab x c hfn hc)))).trans e1⟩
  .by_cases hj:j=i
   .subst hj;rw[hi] at e1;cases e1
    rw[GaZ hiZ] at e2;cases e2;exact⟨u,r,.inr ⟨.inl hk,c,hc,yl⟩⟩
   .rw[Gae (Ne.symm hj)] at e2;obtain⟨u',r',q⟩:=hl j y v' e1 e2 e3;refine⟨u',r', ?_⟩;rcases q with q| ⟨k,c',e,z'⟩
    .exact .inl q
    .refine .inr ⟨k,c',e,z'.sameBut hs ?_⟩;rintro rfl;exact hj (vS hN e1 (I.ok.inj _ _ _ e hc▸hi))
  .by_cases hcc:c' =c
   .subst hcc;exact⟨_,yl⟩
   .obtain⟨w2,z2⟩:=I.cell y c' e;exact⟨w2,z2.sameBut hs hcc⟩
  .obtain⟨e,n,ne,nf,d⟩:=I.pin p hp;refine⟨(hs.2 p.1 ?_).trans e,n,ne,nf,d⟩;intro q;rw[q,SO] at e;have q' :oc=p.2:=Option.some.inj e;exact d w' (by rw[<-q'];exact S1)
theorem vT{M:Model}{E:Value->Shared->Prop}{Q:Unit->Shared->Prop}(I:Inv X e8 Z H s)(hN:X.N.Nodup)(hi:X.N[i]? =some x)(hx:Loc X.env.scope x)(r:RelV v u)
  (h:∀s',Inv X e8 (Z.set i (some v)) H s' ->Q () s')(hf:X.fn x=true\/X.env.scope.names.lookup x=some .local:=by first|exact .inl rfl|exact .inr rfl|assumption):wpAny M A (storeName X.env x u) Q E s:=
 sJ I hN hi hx r (λs' I' _=>h s' I') hf
theorem Inv.L3{s' :Shared}(I:Inv X e8 Z H s)(ho:s'.os=s.os)(u:Un (frs X.stack) ch H H' s.heap s'.heap)(hok:HOk X.prog X.w H' s'.heap)(hg:AllBare s'.gens)
  (xG:∀b∈ch,(b∈X.ex\/X.s₀.heap.objs.size<=b)/\b≠X.env.locals/\(∀x c,X.env.cells.lookup x=some c->c≠b)/\∀p∈X.pn++e8,p.1≠b):Inv X e8 Z H' s' :=by
 obtain⟨h',g',d',t',o'⟩:=s';have e:o' =s.os:=ho;subst e;exact I.call (g' :=g') (t' :=t') (d' :=d') u hok hg xG
end
abbrev XK:=Value->Option Addr->Hp->Prop
abbrev St:=List (Option V)
abbrev VK:=V->Hp->Prop
abbrev TE:=St->Hp->VK->Prop
abbrev TT:=St->Hp->(Bool->Hp->Prop)->Prop
abbrev TA:=St->Hp->(List V->Hp->Prop)->Prop
structure Ends where
 nx:St->Hp->Prop
 rt:VK
 bk:St->Hp->Prop:=λ_ _=>False
 ct:St->Hp->Prop:=λ_ _=>False
abbrev TS:=Ends->St->Hp->Prop
def EP(X:Cx)(e8:List (Addr×Obj))(Z:St)(Q:VK)(u:Value)(s' :Shared):Prop:=∃v H',Inv X e8 Z H' s' /\RelV v u/\Q v H'
def TP(X:Cx)(e8:List (Addr×Obj))(Z:St)(Q:Bool->Hp->Prop)(b:Bool)(s' :Shared):Prop:=∃H',Inv X e8 Z H' s' /\Q b H'
def AP(X:Cx)(e8:List (Addr×Obj))(Z:St)(Q:List V->Hp->Prop)(us:List Value)(s' :Shared):Prop:=∃vs H',Inv X e8 Z H' s' /\Vals vs us/\Q vs H'
def SP(X:Cx)(e8:List (Addr×Obj))(D:Ends)(f:Flow)(s' :Shared):Prop:=
 match f with
 | .next=>∃Z' H',Inv X e8 Z' H' s' /\D.nx Z' H'
 | .brk=>∃Z' H',Inv X e8 Z' H' s' /\D.bk Z' H'
 | .cont=>∃Z' H',Inv X e8 Z' H' s' /\D.ct Z' H'
 | .ret u=>∃v Z' H',Inv X e8 Z' H' s' /\RelV v u/\D.rt v H'
def PE(X:Cx)(e:Expr)(t:TE):Prop:=
 ∀(e8:List (Addr×Obj)) (s:Shared) (Z:St) (H:Hp) (Q:VK),Inv X e8 Z H s->t Z H Q->wpAny (model X.prog X.w) X.A (eval e X.env) (EP X e8 Z Q) X.xe s
def PT(X:Cx)(e:Expr)(t:TT):Prop:=
 ∀(e8:List (Addr×Obj)) (s:Shared) (Z:St) (H:Hp) (Q:Bool->Hp->Prop),Inv X e8 Z H s->t Z H Q->wpAny (model X.prog X.w) X.A (isTrue e X.env (eval e X.env)) (TP X e8 Z Q) X.xe s
def PW(X:Cx)(e:Expr)(t:TT):Prop:=
 ∀(whole:Sem Value) (e8:List (Addr×Obj)) (s:Shared) (Z:St) (H:Hp) (Q:Bool->Hp->Prop),Inv X e8 Z H s->t Z H Q->wpAny (model X.prog X.w) X.A (isTrue e X.env whole) (TP X e8 Z Q) X.xe s
theorem PW.pt{X:Cx}{e:Expr}{t:TT}(h:PW X e t):PT X e t:=h _
def PA(X:Cx)(es:List Expr)(t:TA):Prop:=
 ∀(pos:Pos) (e8:List (Addr×Obj)) (s:Shared) (Z:St) (H:Hp) (Q:List V->Hp->Prop),Inv X e8 Z H s->t Z H Q->wpAny (model X.prog X.w) X.A (spliced (backTo pos (starEach es X.env))) (AP X e8 Z Q) X.xe s
def PS(X:Cx)(st:Stmt)(t:TS):Prop:=
 ∀(e8:List (Addr×Obj)) (s:Shared) (Z:St) (H:Hp) (D:Ends),Inv X e8 Z H s->t D Z H->wpAny (model X.prog X.w) X.A (exec st X.env) (SP X e8 D) X.xe s
def PSs(X:Cx)(st:List Stmt)(t:TS):Prop:=
 ∀(e8:List (Addr×Obj)) (s:Shared) (Z:St) (H:Hp) (D:Ends),Inv X e8 Z H s->t D Z H->wpAny (model X.prog X.w) X.A (execs st X.env) (SP X e8 D) X.xe s
theorem thn{α:Type}{t:Sem α}{Q Q' :α->Shared->Prop}{M:Model}{A:Around}{E:Value->Shared->Prop}{s:Shared}(h:wpAny M A t Q E s)(hQ:∀a s,Q a s->Q' a s):wpAny M A t Q' E s:=Gcg h hQ λ_ _ x=>x
section
variable{X:Cx}
def NJ(i:Nat):TE:=λZ H Q=>∃v,Z[i]? =some (some v)/\Q v H
def tC(v:V):TE:=λ_ H Q=>Q v H
variable{pos:Pos}{x:Str}
theorem jw{i:Nat}(hN:X.N[i]? =some x)(hv:Vis X.env.scope x)(hd:(x==("__debug__":Str))=false:=by decide)(xu:(x==("__classdict__":Str))=false:=by decide):PE X (.Name x pos) (NJ i):=by
 intro e8 s Z H Q I h;obtain⟨v,e,h⟩:=h;obtain⟨m,hn,hl⟩:=I.loc;obtain⟨u,r,l⟩:=hl i x v hN e hv;have fin:EP X e8 Z Q u s:=⟨v,H,I,r,h⟩
 rcases l with⟨hk,hm⟩| ⟨hk,c,hc,xm⟩
 .exact wpAny_Name (wpAny_loadName_local I.ok.kind hk hn hm fin) hd
 .rcases hk with hk|hk
  .exact wpAny_Name (wpAny_loadName_cell I.ok.kind hk hc xm fin) hd
  .exact wpAny_Name (wpAny_loadName_free I.ok.kind hk hc xm fin xu) hd
theorem FZ{i j pos}:PE X (.Constant (.int i) j pos) (tC (.int i)):=λ_ _ _ H _ I h=>wpAny_Constant_int ⟨.int i,H,I.tok _,⟨_,rfl⟩,h⟩
theorem NK{b j pos}:PE X (.Constant (.bool b) j pos) (tC (.bl b)):=λ_ _ _ H _ I h=>Constant_bool ⟨.bl b,H,I,rfl,h⟩
theorem Lm{j pos}:PE X (.Constant .none j pos) (tC .non):=λ_ _ _ H _ I h=>Constant_none ⟨.non,H,I,rfl,h⟩
theorem Ln{x j pos}:PE X (.Constant (.str x) j pos) (tC (.str x)):=λ_ _ _ H _ I h=>Calls.Constant_str ⟨.str x,H,I.tok _,⟨_,rfl⟩,h⟩
def Gl(X:Cx)(x:Str):Prop:=X.env.kindOf x=some .globalImplicit
variable{u:Value}{H:Hp}{Z:St}{s:Shared}{e8:List (Addr×Obj)}
theorem J4{E:Value->Shared->Prop}{Q:Value->Shared->Prop}(I:Inv X e8 Z H s)(hg:Gl X x)(hm:X.mg x=some u)(h:Q u s)
  (hd:(x==("__debug__":Str))=false:=by decide):wpAny (model X.prog X.w) X.A (eval (.Name x pos) X.env) Q E s:=
 Calls.Name_function_global I.ok.kind hg (Calls.loadGlobal_global (by rw[I.ok.glob];exact I.mod.glob.keeps I.bk) hm h) hd
theorem ly{E:Value->Shared->Prop}{Q:Value->Shared->Prop}(I:Inv X e8 Z H s)(hg:Gl X x)(hm:X.mg x=none)(hv:bootBuiltins x=some u)(h:Q u s)
  (hn:x≠"__name__":=by decide)(hd:(x==("__debug__":Str))=false:=by decide):wpAny (model X.prog X.w) X.A (eval (.Name x pos) X.env) Q E s:=by
 obtain⟨mb,h1,h2⟩:=I.mod.blt;exact Calls.Name_function_global I.ok.kind hg (Calls.loadGlobal_builtin (by rw[I.ok.glob];exact I.mod.glob.keeps I.bk) hm (by rw[I.ok.blt];exact h1.keeps I.bk) ((h2 x hn).trans hv) h) hd
theorem J5{v:V}(hg:Gl X x)(hm:X.mg x=none)(hv:bootBuiltins x=some u)(r:RelV v u)(hn:x≠"__name__":=by decide)(hd:(x==("__debug__":Str))=false:=by decide):PE X (.Name x pos) (tC v):=
 λ_ _ _ H _ I h=>ly I hg hm hv ⟨v,H,I,r,h⟩ hn hd
variable{a b:Expr}{ta tb:TE}{pos:Pos}
def tB(t:TE):TT:=λZ H Q=>t Z H λx H1=>∃c,x= .bl c/\Q c H1
theorem Lo{e:Expr}{t:TE}(h:PE X e t)(he:∀whole,isTrue e X.env whole=(do let v<-whole;standAt e.pos;holding [v] (truthy v)):=by intro _;rfl):PT X e (tB t):=by
 intro e8 s Z H Q I hw;refine isTrue_plain (thn (h e8 s Z H _ I hw) λv s1 ⟨x,H1,I1,r1,q1⟩=> ?_) (he _);obtain⟨d,rfl,q⟩:=q1;cases r1;exact Gco ⟨H1,I1,q⟩
variable{tA Rb :TT}{rest:List Expr}
def Qn(t u:TT):TT:=λZ H Q=>t Z H λc H1=>if c=true then u Z H1 Q else Q false H1
def tOr(t u:TT):TT:=λZ H Q=>t Z H λc H1=>if c=true then Q true H1 else u Z H1 Q
def Qo(t:TT):TT:=λZ H Q=>t Z H λc H1=>Q (!c) H1
theorem J6(ha:PT X a tA):PW X (.BoolOp .And [a] pos) tA:=by
 intro wh e8 s Z H Q I h;refine isTrue_and (thn (ha e8 s Z H Q I h) λc s1 e=> ?_);cases c with
 |true=>exact isTrue_and_nil e
 |false=>exact e
theorem Lp(ha:PT X a tA):PW X (.BoolOp .Or [a] pos) tA:=by
 intro wh e8 s Z H Q I h;refine isTrue_or (thn (ha e8 s Z H Q I h) λc s1 e=> ?_);cases c with
 |false=>exact isTrue_or_nil e
 |true=>exact e
theorem Lq(ha:PT X a tA)(hb:PW X (.BoolOp .And (b::rest) pos) Rb):PW X (.BoolOp .And (a::b::rest) pos) (Qn tA Rb):=by
 intro wh e8 s Z H Q I h;refine isTrue_and (thn (ha e8 s Z H _ I h) λc s1 ⟨H1,I1,q1⟩=> ?_);cases c with
 |true=>exact hb wh e8 s1 Z H1 Q I1 q1
 |false=>exact⟨H1,I1,q1⟩
theorem NL(ha:PT X a tA)(hb:PW X (.BoolOp .Or (b::rest) pos) Rb):PW X (.BoolOp .Or (a::b::rest) pos) (tOr tA Rb):=by
 intro wh e8 s Z H Q I h;refine isTrue_or (thn (ha e8 s Z H _ I h) λc s1 ⟨H1,I1,q1⟩=> ?_);cases c with
 |true=>exact⟨H1,I1,q1⟩
 |false=>exact hb wh e8 s1 Z H1 Q I1 q1
theorem Lr(ha:PT X a tA):PT X (.UnaryOp .Not a pos) (Qo tA):=by
 intro e8 s Z H Q I h;exact isTrue_not (ha e8 s Z H (λc H1=>Q (!c) H1) I h)
def tIf(t:TT)(ta tb:TE):TE:=λZ H Q=>t Z H λc H1=>if c=true then ta Z H1 Q else tb Z H1 Q
theorem G0{c:Expr}(hc:PT X c tA)(ha:PE X a ta)(hb:PE X b tb):PE X (.IfExp c a b pos) (tIf tA ta tb):=by
 intro e8 s Z H Q I h;refine wpAny_IfExp (thn (hc e8 s Z H _ I h) λd s1 ⟨H1,I1,q1⟩=> ?_);cases d with
 |true=>exact ha e8 s1 Z H1 Q I1 q1
 |false=>exact hb e8 s1 Z H1 Q I1 q1
end
def SqL(K:PySem.W.Frag)(H:Hp)(a:Addr)(xs:List V):Prop:=
 Rd H a (.lst xs)\/
  ∃(o:Obj) (its:Array Value) (n:Nat),K.lookup a=some o/\o.cls= .type "list"/\o.dict=none/\o.data= .seq its n/\its.size<=sizeLine/\Vals xs its.toList
def SqT(K:PySem.W.Frag)(H:Hp)(a:Addr)(xs:List V):Prop:=
 Rd H a (.tup xs)\/
  ∃(o:Obj) (its:Array Value) (n:Nat),K.lookup a=some o/\o.cls= .type "tuple"/\o.data= .seq its n/\its.size<=sizeLine/\Vals xs its.toList
noncomputable def Qp:Value->Option V
 | .none=>some .non
 | .bool b=>some (.bl b)
 | .int i _=>some (.int i)
 | .str x _=>some (.str x)
 | .bytes b _=>some (.byt b)
 | .float b _=>some (.flt b)
 | .ref a=>some (.ref a)
 | .type n=>some (.ty n)
 |_=>none
variable{u:Value}
theorem RelV.abs{x:V}(r:RelV x u):Qp u=some x:=by
 cases x with
 |non=>cases r;rfl
 |bl _=>cases r;rfl
 |int _=>obtain⟨t,rfl⟩:=r;rfl
 |str _=>obtain⟨t,rfl⟩:=r;rfl
 |byt _=>obtain⟨t,rfl⟩:=r;rfl
 |flt _=>obtain⟨t,rfl⟩:=r;rfl
 |ref _=>cases r;rfl
 |ty _=>cases r;rfl
theorem RelV.inj{x y:V}{u:Value}(r:RelV x u)(q:RelV y u):x=y:=Option.some.inj (r.abs.symm.trans q.abs)
theorem Vals.inj{xs ys:List V}{us:List Value}(p:Vals xs us)(q:Vals ys us):xs=ys:=by
 induction p generalizing ys with
 |nil=>cases q;rfl
 |cons r t ih=>cases q with|cons r' t' =>rw[r.inj r',ih t']
section
variable{X:Cx}{e8:List (Addr×Obj)}{Z:St}{H:Hp}{s:Shared}{a:Addr}{xs ys:List V}
theorem SqT.of{K:PySem.W.Frag}(h:H a=some (.tup xs)):SqT K H a xs:= .inl (.inl h)
theorem Inv.list(I:Inv X e8 Z H s)(h:SqL X.K H a xs):∃its:List Value,Vals xs its/\PlainL s.heap a its.toArray/\xs.length<=sizeLine:=by
 rcases h with h| ⟨o,its,n,hk,hc,hd,hs,hz,r⟩
 .obtain⟨z,its,n,r,e⟩:=h.ok I.hok;exact⟨its,r,⟨_,n,e,rfl,rfl,rfl⟩,z⟩
 .refine⟨its.toList,r,⟨o,n,I.kIn a o hk,hc,hd,by simpa using hs⟩, ?_⟩;have e:=r.length;simp only[GaO] at e;lia
theorem Inv.tuple(I:Inv X e8 Z H s)(h:SqT X.K H a xs):∃its:List Value,Vals xs its/\IsTup s.heap a its.toArray/\xs.length<=sizeLine:=by
 rcases h with h| ⟨o,its,n,hk,hc,hs,hz,r⟩
 .obtain⟨z,its,r,p⟩:=h.ok I.hok;exact⟨its,r,p,z⟩
 .refine⟨its.toList,r,⟨o,I.kIn a o hk,hc,n,by simpa using hs⟩, ?_⟩;have e:=r.length;simp only[GaO] at e;lia
theorem Inv.vU(I:Inv X e8 Z H s)(h:SqL X.K H a xs)(h' :SqL X.K H a ys):xs=ys:=by
 obtain⟨its,r,⟨o,n,e,_,_,d⟩,_⟩:=I.list h;obtain⟨its',r',⟨o',n',e',_,_,d'⟩,_⟩:=I.list h';rw[e] at e';cases e'
 rw[d] at d';injection d' with d1 _
 have:its=its' :=by simpa using congrArg Array.toList d1
 subst this;exact r.inj r'
theorem Inv.sL(I:Inv X e8 Z H s)(h:SqT X.K H a xs)(h' :SqT X.K H a ys):xs=ys:=by
 obtain⟨its,r,⟨o,e,_,n,d⟩,_⟩:=I.tuple h;obtain⟨its',r',⟨o',e',_,n',d'⟩,_⟩:=I.tuple h';rw[e] at e';cases e'
 rw[d] at d';injection d' with d1 _
 have:its=its' :=by simpa using congrArg Array.toList d1
 subst this;exact r.inj r'
end
noncomputable abbrev Cx.rW (X:Cx) (E:Value->Shared->Prop):Cx:={X with xe:=E}
noncomputable abbrev Cx.nox (X:Cx):Cx:=X.rW λ_ _=>False
theorem Cx.Ok.rW{X:Cx}(ok:X.Ok)(E:Value->Shared->Prop):(X.rW E).Ok:=
 ⟨ok.mod,ok.kind,ok.glob,ok.blt,ok.above,ok.inj,ok.has,ok.cab,ok.hd,ok.frames,ok.stk,ok.exf,ok.bs,ok.bsz,ok.IY,ok.IZ,ok.pJ,ok.frf⟩
variable{X:Cx}
theorem Cx.Ok.jy{E:Value->Shared->Prop}(ok:(X.rW E).Ok):X.Ok:=
 ⟨ok.mod,ok.kind,ok.glob,ok.blt,ok.above,ok.inj,ok.has,ok.cab,ok.hd,ok.frames,ok.stk,ok.exf,ok.bs,ok.bsz,ok.IY,ok.IZ,ok.pJ,ok.frf⟩
section
variable{X:Cx}{e8:List (Addr×Obj)}{Z:St}{H:Hp}{s:Shared}{E:Value->Shared->Prop}
theorem Inv.rW(I:Inv X e8 Z H s)(E:Value->Shared->Prop):Inv (X.rW E) e8 Z H s:=⟨I.ok.rW E,I.os,I.bare,I.base,I.loc,I.cell,I.free,I.iZ,I.pin,I.hok,I.len⟩
theorem Inv.jy(I:Inv (X.rW E) e8 Z H s):Inv X e8 Z H s:=⟨I.ok.jy,I.os,I.bare,I.base,I.loc,I.cell,I.free,I.iZ,I.pin,I.hok,I.len⟩
theorem SP.jy{D:Ends}{f:Flow}{s' :Shared}(h:SP (X.rW E) e8 D f s'):SP X e8 D f s' :=by
 cases f with
 |next=>obtain⟨Z',H',I,q⟩:=h;exact⟨Z',H',I.jy,q⟩
 |brk=>obtain⟨Z',H',I,q⟩:=h;exact⟨Z',H',I.jy,q⟩
 |cont=>obtain⟨Z',H',I,q⟩:=h;exact⟨Z',H',I.jy,q⟩
 |ret u=>obtain⟨v,Z',H',I,r,q⟩:=h;exact⟨v,Z',H',I.jy,r,q⟩
theorem PSs.nox{st:List Stmt}{t:TS}(h:PSs X.nox st t):PSs X st t:=λe8 s Z H D I hw=>
 Gcg (h e8 s Z H D (I.rW _) hw) (λ_ _ q=>q.jy) λ_ _ z=>False.elim z
end
section
variable{X:Cx}{st:Stmt}{rest:List Stmt}{t u:TS}{e:Expr}{te:TE}{pos:Pos}
def NM:TS:=λD Z H=>D.nx Z H
def Qq(t u:TS):TS:=λD Z H=>t {D with nx:=u D} Z H
theorem J7:PSs X [] NM:=λ_ _ Z H _ I h=>GdK ⟨Z,H,I,h⟩
theorem md(h1:PS X st t)(h2:PSs X rest u):PSs X (st::rest) (Qq t u):=by
 intro e8 s Z H D I h;refine wpAny_execs_cons (thn (h1 e8 s Z H {D with nx:=u D} I h) λf s1 q=> ?_);cases f with
 |next=>
  obtain⟨Z',H',I',q⟩:=q;exact h2 e8 s1 Z' H' D I' q
 |ret v=>exact q
 |brk=>exact q
 |cont=>exact q
theorem uu(h1:PS X st t):PSs X [st] t:=by
 intro e8 s Z H D I h;refine wpAny_execs_cons (thn (h1 e8 s Z H D I h) λf s1 q=> ?_);cases f with
 |next=>exact GdK q
 |ret v=>exact q
 |brk=>exact q
 |cont=>exact q
def Ls:TS:=λD Z H=>D.bk Z H
theorem G3:PS X (.Break pos) Ls:=λ_ _ Z H _ I h=>wpAny_Break ⟨Z,H,I,h⟩
theorem Inv.quiet{e8:List (Addr×Obj)}{Z:St}{H:Hp}{s:Shared}(I:Inv X e8 Z H s):interactive X.env=false:=by simp[interactive,I.ok.kind]
def NN(te:TE):TS:=λD Z H=>te Z H λ_ H1=>D.nx Z H1
theorem pB(he:PE X e te)(hs:swapsWith e none pos.line X.env=pure false:=by rfl):PS X (.Expr e pos) (NN te):=by
 intro e8 s Z H D I h;exact wpAny_Expr_any (thn (he e8 s Z H _ I h) λv s1 ⟨x,H1,I1,r1,q1⟩=> ⟨Z,H1,I1,q1⟩) I.quiet hs
def Qr(te:TE):TS:=λD Z H=>te Z H D.rt
theorem G4(he:PE X e te):PS X (.Return (some e) pos) (Qr te):=by
 intro e8 s Z H D I h;exact wpAny_Return_some (thn (he e8 s Z H _ I h) λv s1 ⟨x,H1,I1,r1,q1⟩=> ⟨x,Z,H1,I1,r1,q1⟩)
def Qs(c:TT)(t u:TS):TS:=λD Z H=>c Z H λb H1=>if b=true then t D Z H1 else u D Z H1
theorem NO{c:Expr}{a b:List Stmt}{tc:TT}(hc:PT X c tc)(ha:PSs X a t)(hb:PSs X b u):PS X (.If c a b pos) (Qs tc t u):=by
 intro e8 s Z H D I h;refine wpAny_If (thn (hc e8 s Z H _ I h) λd s1 ⟨H1,I1,q1⟩=> ?_);cases d with
 |true=>exact ha e8 s1 Z H1 D I1 q1
 |false=>exact hb e8 s1 Z H1 D I1 q1
end
abbrev TG:=V->St->Hp->(St->Hp->Prop)->Prop
abbrev TGs:=List V->St->Hp->(St->Hp->Prop)->Prop
def PG(X:Cx)(target:Expr)(t:TG):Prop:=
 ∀(e8:List (Addr×Obj)) (s:Shared) (Z:St) (H:Hp) (v:V) (u:Value) (Q:St->Hp->Prop),Inv X e8 Z H s->RelV v u->t v Z H Q->
  wpAny (model X.prog X.w) X.A (assign target X.env u) (λ_ s' =>∃Z' H',Inv X e8 Z' H' s' /\Q Z' H') X.xe s
def PGs(X:Cx)(ts:List Expr)(t:TGs):Prop:=
 ∀(e8:List (Addr×Obj)) (s:Shared) (Z:St) (H:Hp) (vs:List V) (us:List Value) (Q:St->Hp->Prop),Inv X e8 Z H s->Vals vs us->t vs Z H Q->
  wpAny (model X.prog X.w) X.A (assignInOrder ((assignEach ts X.env).map (·.2)) us) (λ_ s' =>∃Z' H',Inv X e8 Z' H' s' /\Q Z' H') X.xe s
abbrev Qt:=V->V->V->Hp->(Hp->Prop)->Prop
def NP(X:Cx)(t:Qt):Prop:=
 ∀(e8:List (Addr×Obj)) (s:Shared) (Z:St) (H:Hp) (o i v:V) (ov iv u:Value) (Q:Hp->Prop),Inv X e8 Z H s->RelV o ov->RelV i iv->RelV v u->t o i v H Q->
  wpAny (model X.prog X.w) X.A (setItem ov iv u) (λ_ s' =>∃H',Inv X e8 Z H' s' /\Q H') X.xe s
section
variable{X:Cx}{pos:Pos}
def L4(i:Nat):TG:=λv Z H Q=>Q (Z.set i (some v)) H
variable{x:Str}{i:Nat}
theorem CJ(hN:X.N.Nodup)(hi:X.N[i]? =some x)(hx:Loc X.env.scope x)(hf:X.fn x=true\/X.env.scope.names.lookup x=some .local:=by first|exact .inl rfl|exact .inr rfl|assumption):PG X (.Name x pos) (L4 i):=by
 intro e8 s Z H v u Q I r h;exact wpAny_assign_Name (vT I hN hi hx r (λs' I' => ⟨_,H,I',h⟩) hf)
def Qu:TGs:=λvs Z H Q=>vs=[]/\Q Z H
def NQ(t:TG)(u:TGs):TGs:=λvs Z H Q=>∃v r,vs=v::r/\t v Z H λZ' H' =>u r Z' H' Q
theorem J8:PGs X [] Qu:=by
 intro e8 s Z H vs us Q I r h;obtain⟨e,h⟩:=h;subst e;cases r;exact assignInOrder_nil ⟨Z,H,I,h⟩
variable{es:List Expr}
theorem G5{e:Expr}{t:TG}{u:TGs}(h1:PG X e t)(h2:PGs X es u)
  (hs:(assignEach (e::es) X.env).map (·.2)=assign e X.env::(assignEach es X.env).map (·.2):=by rfl):PGs X (e::es) (NQ t u):=by
 intro e8 s Z H vs us Q I r h;obtain⟨v,vr,e1,h⟩:=h;subst e1;cases r with
 |cons r rr=>
  rw[hs];refine assignInOrder_cons (thn (h1 e8 s Z H _ _ _ I r h) λ_ s1 ⟨Z1,H1,I1,q1⟩=> ?_);exact h2 e8 s1 Z1 H1 _ _ Q I1 rr q1
def Qv(K:PySem.W.Frag)(n:Nat)(t:TGs):TG:=λv Z H Q=>∃a xs,v= .ref a/\SqT K H a xs/\xs.length=n/\t xs Z H Q
theorem Lu{k:Nat}{t:TGs}{n:Nat}(hc:X.calm=true)(h:PGs X es t)
  (hn:(assignEach es X.env).length=n:=by rfl)(xU:(assignEach es X.env).findIdx? (·.1)=none:=by rfl):PG X (.Tuple es k pos) (Qv X.K n t):=by
 intro e8 s Z H v u Q I r hw;obtain⟨a,xs,e1,hq,hl,hw⟩:=hw;subst e1;cases r;obtain⟨its,rv,ht,hz⟩:=I.tuple hq;refine assign_Tuple_tuple (I.ok.hd hc) ht (by simp[hn,<-hl,rv.length]) xU λh' hx=> ?_;have I1:Inv X e8 Z H {s with heap:=h' }:=I.kept (t' :=s.toks) λb o e=>hx b o (GaJ (Gav e)) e;exact h e8 _ Z H xs _ Q I1 (by simpa using rv) hw
def NR(te:TE)(g:TG):TS:=λD Z H=>te Z H λx H1=>g x Z H1 D.nx
variable{te:TE}
theorem Lv{tg e:Expr}{g:TG}(he:PE X e te)(hg:PG X tg g)(hs:swapsWithSole [tg] e pos.line X.env=pure false:=by rfl)(hw:swappedStores [tg] e X.env=pure none:=by rfl)
  (h1:(assignEach [tg] X.env).map (·.2)=[assign tg X.env]:=by rfl):PS X (.Assign [tg] e pos) (NR te g):=by
 intro e8 s Z H D I h;refine wpAny_Assign_stores (thn (he e8 s Z H _ I h) λv s1 ⟨x,H1,I1,r1,q1⟩=> ?_) hs hw;rw[h1];exact thn (hg e8 s1 Z H1 x v _ I1 r1 q1) λ_ s2 q=>q
theorem B5{e:Expr}{pos' :Pos}(hN:X.N.Nodup)(hi:X.N[i]? =some x)(hx:Loc X.env.scope x)(he:PE X e te)(hs:swapsWith e (some (.Name x pos')) pos.line X.env=pure false:=by rfl)(hf:X.fn x=true\/X.env.scope.names.lookup x=some .local:=by first|exact .inl rfl|exact .inr rfl|assumption):
  PS X (.Assign [.Name x pos'] e pos) (NR te (L4 i)):=by
 intro e8 s Z H D I h;refine wpAny_Assign_Name (thn (he e8 s Z H _ I h) λv s1 ⟨y,H1,I1,r1,q1⟩=> ?_) hs;exact vT I1 hN hi hx r1 (λs2 I2=> ⟨_,H1,I2,q1⟩) hf
end
section
variable{X:Cx}{pos:Pos}
def Lw(c:TT)(tb:TS):TS:=λD Z H=>∃W:Nat->St->Hp->Prop,(∃m,W m Z H)/\∀m Z H,W m Z H->
 c Z H λb H1=>if b=true then∃N:St->Hp->Prop,(∀Z' H',N Z' H' ->∃m',m' <m/\W m' Z' H')/\tb {D with nx:=N,ct:=N,bk:=D.nx} Z H1 else D.nx Z H1
theorem G6{c:Expr}{body:List Stmt}{tc:TT}{tb:TS}(hp:PassesOwn (model X.prog X.w) X.A X.env X.xe)(hc:PT X c tc)(hb:PSs X body tb):PS X (.While c body [] pos) (Lw tc tb):=by
 intro e8 s Z H D I h;obtain⟨W,⟨m0,w0⟩,turn⟩:=h;refine wpAny_While (codeAny_whileLoop (λn s' =>∃Z' H',Inv X e8 Z' H' s' /\W n Z' H') ?_ m0 ⟨Z,H,I,w0⟩);rintro n s1 ⟨Z1,H1,I1,w1⟩;refine Gcm hp (thn (hc e8 s1 Z1 H1 _ I1 (turn n Z1 H1 w1)) λb s2 ⟨H2,I2,q2⟩=> ?_);cases b with
 |true=>
  obtain⟨N,hN,q2⟩:=q2;rw[Gaj rfl];refine Gcm hp (thn (hb e8 s2 Z1 H2 _ I2 q2) λf s3 q3=> ?_);cases f with
  |next=>
   obtain⟨Z3,H3,I3,n3⟩:=q3;obtain⟨m',hm,w3⟩:=hN Z3 H3 n3;exact⟨m',hm,Z3,H3,I3,w3⟩
  |cont=>
   obtain⟨Z3,H3,I3,n3⟩:=q3;obtain⟨m',hm,w3⟩:=hN Z3 H3 n3;exact⟨m',hm,Z3,H3,I3,w3⟩
  |brk=>exact q3
  |ret v=>exact q3
 |false=>
  rw[Gai Gat];exact GdK ⟨Z1,H2,I2,q2⟩
end
structure It where
 go:Nat->Hp->Prop
 yld:Nat->Hp->V->Hp->Prop
 stop:Nat->Hp->Prop
def lA(X:Cx)(e8:List (Addr×Obj))(H:Hp)(b:Addr):Prop:=
 H b=none/\b≠X.env.locals/\b∉X.fs/\(b∈X.ex\/X.s₀.heap.objs.size<=b)/\(∀x c,X.env.cells.lookup x=some c->c≠b)/\∀p∈X.pn++e8,p.1≠b
variable{s:Shared}
theorem Inv.Eg{e8:List (Addr×Obj)}{Z:St}{H H' :Hp}{b:Addr}(I:Inv X e8 Z H s)(hb:s.heap.objs.size<=b)(hn:H' b=none):lA X e8 H' b:=by
 refine⟨hn,GbW (GaH I.lt hb),I.Qm hb,.inr (Gbo I.sz hb),λx c e z=> ?_,λp hp z=> ?_⟩
 .obtain⟨v,q⟩:=I.cell x c e;exact absurd (GaH q.lt (by rw[z];exact hb)) (Gbx _)
 .exact absurd (GaH (Gav (I.pin p hp).1) (by rw[z];exact hb)) (Gbx _)
structure Turn(P:Program)(w:World)(K:PySem.W.Frag)(tg:Expr)(J:It)(fp:List Addr)(it:Addr)(tn:Nat->Heap->Prop):Prop where
 mem:it∈fp
 obj:∀i h,tn i h->∀b∈fp,∃o,h.get? b=some o/\∀v,o.data≠ .cell v
 keep:∀i h h',tn i h->(∀b∈fp,∀o,h.get? b=some o->h'.get? b=some o)->tn i h'
 item:∀(X:Cx),X.prog=P->X.w=w->X.K=K->X.calm=true->∀(i:Nat) (e8:List (Addr×Obj)) (s:Shared) (Z:St) (H:Hp) (E:Value->Shared->Prop),Inv X e8 Z H s->(∀b∈fp,lA X e8 H b)->tn i s.heap->J.go i H->
  wpAny (model P w) X.A (pyNext (.ref it)) (λr s1=>∃u,r=some u/\
   wpAny (model P w) X.A (letOwnedTupleGo tg (.ref it) u) (λ_ s2=>∃x H',Inv X e8 Z H' s2/\RelV x u/\J.yld i H x H' /\tn (i+1) s2.heap/\∀b∈fp,H' b=none) E s1) E s
 done:∀(X:Cx),X.prog=P->X.w=w->X.K=K->X.calm=true->∀(i:Nat) (e8:List (Addr×Obj)) (s:Shared) (Z:St) (H:Hp) (E:Value->Shared->Prop),Inv X e8 Z H s->(∀b∈fp,lA X e8 H b)->tn i s.heap->J.stop i H->
  wpAny (model P w) X.A (pyNext (.ref it)) (λr s1=>r=none/\Inv X e8 Z H s1) E s
 self:∀(A:Around) (i:Nat) (s:Shared) (Q:Value->Shared->Prop) (E:Value->Shared->Prop),tn i s.heap->Q (.ref it) s->wpAny (model P w) A (pyIter (.ref it)) Q E s
abbrev TI:=St->Hp->(It->Hp->Prop)->Prop
def PIE(X:Cx)(e8:List (Addr×Obj))(Z:St)(tg:Expr)(R:It->Hp->Prop)(zG:Value)(s2:Shared):Prop:=
 ∃(it:Addr) (fp:List Addr) (tn:Nat->Heap->Prop) (J:It) (H' :Hp),zG= .ref it/\Inv X e8 Z H' s2/\Turn X.prog X.w X.K tg J fp it tn/\tn 0 s2.heap/\(∀b∈fp,lA X e8 H' b)/\R J H'
def PI(X:Cx)(tg iter:Expr)(wi:TI):Prop:=
 ∀(e8:List (Addr×Obj)) (s:Shared) (Z:St) (H:Hp) (R:It->Hp->Prop),Inv X e8 Z H s->wi Z H R->
  wpAny (model X.prog X.w) X.A (eval iter X.env) (λv s1=>wpAny (model X.prog X.w) X.A (pyIter v) (PIE X e8 Z tg R) X.xe s1) X.xe s
variable{tg:Expr}
theorem G7{M:Model}{A:Around}{E:Value->Shared->Prop}{it:Addr}{o:Obj}{n:String}{vs:Array Value}{Q:Unit->Shared->Prop}(ho:s.heap.get? it=some o)(hc:o.cls= .type n)(hd:o.data= .fields vs)
  (hn:["enumerate","zip","dict_itemiterator","dict_reverseitemiterator","odict_iterator","itertools.zip_longest","itertools.pairwise"].contains n=false)(hQ:Q () s):wpAny M A (letOwnedTupleGo tg (.ref it) u) Q E s:=by
 unfold letOwnedTupleGo;cases tg<;>first
  |exact Gac hQ
  |(cases u<;>first
    |exact Gac hQ
    |(refine Gaa (wpAny_load ho ?_)
      rw[hc,hd];show wpAny M A (if(["enumerate","zip","dict_itemiterator","dict_reverseitemiterator","odict_iterator","itertools.zip_longest","itertools.pairwise"].contains n&&vs[0]? ==some (rawInt _))=true then _ else _) Q E s;rw[Gai (by intro h;rw[hn,Bool.false_and] at h;cases h)];exact Gac hQ))
noncomputable def Itl(K:PySem.W.Frag)(a:Addr):It:=
 ⟨λi H=>∃xs x,SqL K H a xs/\xs[i]? =some x,λi H x H' =>H' =H/\∀xs,SqL K H a xs->xs[i]? =some x,λi H=>∃xs,SqL K H a xs/\xs.length<=i⟩
noncomputable def Itt(K:PySem.W.Frag)(a:Addr):It:=
 ⟨λi H=>∃xs x,SqT K H a xs/\xs[i]? =some x,λi H x H' =>H' =H/\∀xs,SqT K H a xs->xs[i]? =some x,λi H=>∃xs,SqT K H a xs/\xs.length<=i⟩
noncomputable def Itr(lo:Int)(n:Nat):It:=⟨λi _=>i<n,λi H x H' =>H' =H/\x= .int (lo+i),λi _=>n<=i⟩
variable{w:World}{P:Program}
theorem Eh{K:PySem.W.Frag}(a it:Addr):Turn P w K tg (Itl K a) [it] it (λi h=>h.IsListIter it a i) where
 mem:=by simp
 obj:=λi h st b hb=>by
  have e:b=it:=by simpa using hb
  subst e;obtain⟨o,e,c,d⟩:=st;exact⟨o,e,λv z=>by rw[d] at z;cases z⟩
 keep:=λi h h' st k=>st.at λo e=>k it (by simp) o e
 item:=by
  intro X hP hw hK hc i e8 s Z H E I hf st hg;subst hP hw hK;obtain⟨xs,x,hq,hx⟩:=hg;obtain⟨its,rv,p,hz⟩:=I.list hq;obtain⟨u,hu,ru⟩:=rv.get hx;obtain⟨f0,f1,f2,f3,f4,f5⟩:=hf it (by simp);refine wpAny_pyNext_list_item st p.isList (x:=u) (by simpa using hu) λh' xK sb=> ?_;have I1:Inv X e8 Z H {s with heap:=h' }:=I.turned (t' :=s.toks) (λb o hb e=>(sb.2 b hb).trans e) f0 f1 f3 f4 f5;obtain⟨o,e,c,d⟩:=id xK;exact⟨u,rfl,G7 (s:={s with heap:=h' }) e c d (by decide) ⟨x,H,I1,ru,⟨rfl,λys hy=>by rw[I.vU hy hq];exact hx⟩,xK,λb hb=>(hf b hb).1⟩⟩
 done:=by
  intro X hP hw hK hc i e8 s Z H E I hf st hg;subst hP hw hK;obtain⟨xs,hq,hx⟩:=hg;obtain⟨its,rv,p,hz⟩:=I.list hq;obtain⟨f0,f1,f2,f3,f4,f5⟩:=hf it (by simp);have hl:=rv.length;exact wpAny_pyNext_list_end (I.ok.hd hc) st p.isList (by simp;lia) λh' eb=> ⟨rfl,I.turned (t' :=s.toks) (λb o hb e=>eb b o hb e) f0 f1 f3 f4 f5⟩
 self:=λ_ _ _ _ _ st h=>wpAny_pyIter_listiter st h
theorem B6{K:PySem.W.Frag}(a it:Addr):Turn P w K tg (Itt K a) [it] it (λi h=>h.IsTupleIter it a i) where
 mem:=by simp
 obj:=λi h st b hb=>by
  have e:b=it:=by simpa using hb
  subst e;obtain⟨o,e,c,d⟩:=st;exact⟨o,e,λv z=>by rw[d] at z;cases z⟩
 keep:=λi h h' st k=>st.at λo e=>k it (by simp) o e
 item:=by
  intro X hP hw hK hc i e8 s Z H E I hf st hg;subst hP hw hK;obtain⟨xs,x,hq,hx⟩:=hg;obtain⟨its,rv,p,hz⟩:=I.tuple hq;obtain⟨u,hu,ru⟩:=rv.get hx;obtain⟨f0,f1,f2,f3,f4,f5⟩:=hf it (by simp);refine wpAny_pyNext_tuple_item st (show s.heap.IsTuple a its.toArray from p) (x:=u) (by simpa using hu) λh' xK sb=> ?_;have I1:Inv X e8 Z H {s with heap:=h' }:=I.turned (t' :=s.toks) (λb o hb e=>(sb.2 b hb).trans e) f0 f1 f3 f4 f5;obtain⟨o,e,c,d⟩:=id xK;exact⟨u,rfl,G7 (s:={s with heap:=h' }) e c d (by decide) ⟨x,H,I1,ru,⟨rfl,λys hy=>by rw[I.sL hy hq];exact hx⟩,xK,λb hb=>(hf b hb).1⟩⟩
 done:=by
  intro X hP hw hK hc i e8 s Z H E I hf st hg;subst hP hw hK;obtain⟨xs,hq,hx⟩:=hg;obtain⟨its,rv,p,hz⟩:=I.tuple hq;obtain⟨f0,f1,f2,f3,f4,f5⟩:=hf it (by simp);have hl:=rv.length;exact wpAny_pyNext_tuple_end (I.ok.hd hc) st (show s.heap.IsTuple a its.toArray from p) (by simp;lia) λh' eb=> ⟨rfl,I.turned (t' :=s.toks) (λb o hb e=>eb b o hb e) f0 f1 f3 f4 f5⟩
 self:=λ_ _ _ _ _ st h=>wpAny_pyIter_tupleiter st h
theorem B7{K:PySem.W.Frag}(it:Addr)(lo:Int)(n:Nat):Turn P w K tg (Itr lo n) [it] it (λi h=>IsRangeIter h it (lo+(i:Nat)*1) ((n:Int)-(i:Nat)) 1) where
 mem:=by simp
 obj:=λi h st b hb=>by
  have e:b=it:=by simpa using hb
  subst e;exact⟨_,st,λv z=>by
   have z' :Data.fields _=Data.cell v:=z;cases z'⟩
 keep:=λi h h' st k=>k it (by simp) _ st
 item:=by
  intro X hP hw hK hc i e8 s Z H E I hf st hg;subst hP hw hK;obtain⟨f0,f1,f2,f3,f4,f5⟩:=hf it (by simp);have W:=Walks.range (prog:=X.prog) (w:=X.w) (I.ok.hd hc) it lo 1 n;refine W.item i s _ _ hg st λv h' tk hv xK kk=> ?_;obtain⟨t,rfl⟩:=hv;have I1:Inv X e8 Z H {s with heap:=h',toks:=tk}:=I.turned (λb o hb e=>kk b o (by simpa using hb) e) f0 f1 f3 f4 f5;refine⟨_,rfl,G7 (s:={s with heap:=h',toks:=tk}) (n:="range_iterator") xK rfl rfl (by decide) ⟨.int (lo+i),H,I1,⟨t, ?_⟩,⟨rfl,rfl⟩,xK,λb hb=>(hf b hb).1⟩⟩;rw[Int.mul_one]
 done:=by
  intro X hP hw hK hc i e8 s Z H E I hf st hg;subst hP hw hK;obtain⟨f0,f1,f2,f3,f4,f5⟩:=hf it (by simp);exact wpAny_pyNext_range_end (I.ok.hd hc) st (by have:n<=i:=hg;lia) λh' eb=> ⟨rfl,I.turned (t' :=s.toks) (λb o hb e=>eb b o hb e) f0 f1 f3 f4 f5⟩
 self:=λ_ _ _ _ _ st h=>wpAny_pyIter_rangeiter st h
section
variable{X:Cx}{tg:Expr}
variable{s:Shared}{H:Hp}{Z:St}{e8:List (Addr×Obj)}
theorem jz{R:It->Hp->Prop}{E:Value->Shared->Prop}{lo hi:Int}{t u v:Tok}{tk:Nat}(I:Inv X e8 Z H s)(h1: -(2^62)<=lo)(h2:lo<2^62)(h3: -(2^62)<=hi)(h4:hi<2^62)
  (q:R (Itr lo (hi -lo).toNat) H):wpAny (model X.prog X.w) X.A (pyIter (.ref s.heap.objs.size)) (PIE X e8 Z tg R) E {s with heap:=s.heap.push {cls:= .type "range",data:= .fields #[.int lo t,.int hi u,.int 1 v]},toks:=tk}:=by
 refine wpAny_pyIter_range (IsRange.new ..) (small_one h1 h2 h3 h4) ?_;have I1:Inv X e8 Z H {s with heap:=s.heap.push {cls:= .type "range",data:= .fields #[.int lo t,.int hi u,.int 1 v]},toks:=tk}:=I.kept λb o e=>Gaf _ e;refine⟨(s.heap.push {cls:= .type "range",data:= .fields #[.int lo t,.int hi u,.int 1 v]}).objs.size,[(s.heap.push {cls:= .type "range",data:= .fields #[.int lo t,.int hi u,.int 1 v]}).objs.size],_,_,H,rfl,
  I1.kept (t' :=tk) λb o e=>Gaf _ e,B7 _ lo (hi -lo).toNat, ?_,λb hb=> ?_,q⟩
 .have e1:lo+((0:Nat):Int)*1=lo:=by simp
  have e2:(((hi -lo).toNat:Nat):Int)-((0:Nat):Int)=Builtin.Range.rangeSize lo hi 1:=by rw[rangeSize_one];split<;>lia
  show IsRangeIter _ _ (lo+((0:Nat):Int)*1) ((((hi -lo).toNat:Nat):Int)-((0:Nat):Int)) 1;rw[e1,e2];exact Gaw _ rfl
 .have e:b=(s.heap.push {cls:= .type "range",data:= .fields #[.int lo t,.int hi u,.int 1 v]}).objs.size:=by simpa using hb
  subst e;exact I1.Eg (Gap _) (I1.hok.fresh (Gap _))
def NS(ta:TA):TI:=λZ H R=>ta Z H λvs H1=>∃j:Int,vs=[.int j]/\-(2^62)<=j/\j<2^62/\R (Itr 0 j.toNat) H1
def NT(ta:TA):TI:=λZ H R=>ta Z H λvs H1=>∃i j:Int,vs=[.int i,.int j]/\(-(2^62)<=i/\i<2^62/\-(2^62)<=j/\j<2^62)/\R (Itr i (j -i).toNat) H1
variable{p pos:Pos}{ta:TA}{a:Expr}
theorem Ej(hg:Gl X "range")(hm:X.mg "range"=none)(ha:PA X [a] ta)(hs:starEach [a] X.env=[(false,eval a X.env)]:=by rfl):PI X tg (.Call (.Name "range" p) [a] [] pos) (NS ta):=by
 intro e8 s Z H R I h;refine Call_ (ly I hg hm boot_range (Gci (thn (ha pos e8 s Z H _ I h) λus s1 ⟨vs,H1,I1,r1,q1⟩=> ?_) hs rfl));obtain⟨j,e,q1,q2,q⟩:=q1;subst e;cases r1 with
 |cons r rr=>
  cases rr;obtain⟨t,rfl⟩:=r;exact call_range_1 (jz I1 (by lia) (by lia) q1 q2 (by simpa using q))
theorem Ek{b:Expr}(hg:Gl X "range")(hm:X.mg "range"=none)(ha:PA X [a,b] ta)(hs:starEach [a,b] X.env=[(false,eval a X.env),(false,eval b X.env)]:=by rfl)(xj:starEach [b] X.env=[(false,eval b X.env)]:=by rfl):
  PI X tg (.Call (.Name "range" p) [a,b] [] pos) (NT ta):=by
 intro e8 s Z H R I h;refine Call_ (ly I hg hm boot_range (Gci (thn (ha pos e8 s Z H _ I h) λus s1 ⟨vs,H1,I1,r1,q1⟩=> ?_) (by rw[hs,xj]) (by rw[xj];rfl)));obtain⟨i,j,e,⟨q1,q2,q3,q4⟩,q⟩:=q1;subst e;cases r1 with
 |cons r rr=>
  cases rr with
  |cons r' rr=>
   cases rr;obtain⟨t,rfl⟩:=r;obtain⟨t',rfl⟩:=r';exact call_range_2 (jz I1 q1 q2 q3 q4 q)
def Qw(wi:TI)(g:TG)(tb:TS):TS:=λD Z H=>wi Z H λJ H1=>∃W:Nat->Nat->St->Hp->Prop,(∃m,W 0 m Z H1)/\∀i m Z H,W i m Z H->
 (J.stop i H/\D.nx Z H)\/(J.go i H/\∃N:St->Hp->Prop,(∀Z' H',N Z' H' ->∃m',m' <m/\W (i+1) m' Z' H')/\∀x H',J.yld i H x H' ->g x Z H' λZ2 H2=>tb {D with nx:=N,ct:=N,bk:=D.nx} Z2 H2)
noncomputable def pK(fp:List Addr)(h:Heap):List (Addr×Obj):=fp.filterMap λb=>(h.get? b).map λo=>(b,o)
variable{h:Heap}{fp:List Addr}
theorem j3{b:Addr}{o:Obj}(hb:b∈fp)(e:h.get? b=some o):(b,o)∈pK fp h:=Gdj.mpr ⟨b,hb,by rw[e];rfl⟩
theorem El{p:Addr×Obj}(hp:p∈pK fp h):p.1∈fp/\h.get? p.1=some p.2:=by
 obtain⟨b,hb,e⟩:=Gdj.mp hp;cases q:h.get? b with
 |none=>rw[q] at e;cases e
 |some o=>
  rw[q] at e;have e' :(b,o)=p:=Option.some.inj e;subst e';exact⟨hb,q⟩
theorem Inv.pinned(I:Inv X e8 Z H s)(hf:∀b∈fp,lA X e8 H b)(ho:∀b∈fp,∃o,s.heap.get? b=some o/\∀v,o.data≠ .cell v):Inv X (e8++pK fp s.heap) Z H s:=
 I.CI λp hp=>(GaL.mp hp).elim (λz=>I.pin p (Gbi _ z)) λz=>by
  obtain⟨hb,e⟩:=El z;obtain⟨f0,f1,f2,_⟩:=hf p.1 hb;obtain⟨o,e',d⟩:=ho p.1 hb;rw[e] at e';cases e'
  exact⟨e,f0,f1,f2,d⟩
theorem Inv.mh{pl:List (Addr×Obj)}(I:Inv X (e8++pl) Z H s):Inv X e8 Z H s:=I.CI λp hp=>I.pin p (Gbi _ (GbV _ hp))
theorem G8{iter:Expr}{body:List Stmt}{wi:TI}{g:TG}{tb:TS}(hp:PassesOwn (model X.prog X.w) X.A X.env X.xe)(hc:X.calm=true)(hi:PI X tg iter wi)(hg:PG X tg g)(hb:PSs X body tb)
  (hs:∀x,foldedSetIterable iter X.env x=pure x:=by intro _;rfl):PS X (.For tg iter body [] pos) (Qw wi g tb):=by
 intro e8 s Z H D I h;refine wpAny_For (thn (hi e8 s Z H _ I h) λv s1 h1=>thn h1 λzG s2 h2=> ?_) hs;obtain⟨it,fp,tn,J,H2,e,I2,T,yU,f2,W,⟨m0,w0⟩,turn⟩:=h2;subst e;have stat:∀{H' :Hp},(∀b∈fp,H' b=none)->∀b∈fp,lA X e8 H' b:=λhn b hb=> ⟨hn b hb,(f2 b hb).2⟩;refine codeAny_forLoop_any (λn s' =>∃i Z' H',Inv X e8 Z' H' s' /\tn i s'.heap/\(∀b∈fp,H' b=none)/\W i n Z' H') ?_ m0 ⟨0,Z,H2,I2,yU,λb hb=>(f2 b hb).1,w0⟩;rintro n s3 ⟨i,Z3,H3,I3,Sq,Tc,w3⟩;rcases turn i n Z3 H3 w3 with⟨stop,qn⟩| ⟨go,N,hN,step⟩
 .refine Gcm hp (thn (T.done X rfl rfl rfl hc i e8 s3 Z3 H3 X.xe I3 (stat Tc) Sq stop) λr s4 ⟨hr,I4⟩=> ?_);subst hr;exact GdK ⟨Z3,H3,I4,qn⟩
 .refine Gcm hp (thn (T.item X rfl rfl rfl hc i e8 s3 Z3 H3 X.xe I3 (stat Tc) Sq go) λr s4 ⟨u,hr,h4⟩=> ?_);subst hr;refine Gcm hp (thn h4 λ_ s5 ⟨x,H5,I5,r5,y5,yT,Sk⟩=> ?_);have I5' :=I5.pinned (stat Sk) (T.obj _ _ yT);refine Gcm hp (thn (hg _ s5 Z3 H5 x u _ I5' r5 (step x H5 y5)) λ_ s6 ⟨Z6,H6,I6,q6⟩=> ?_);refine Gcm hp (thn (hb _ s6 Z6 H6 _ I6 q6) λf s7 q7=> ?_);have again:∀{Z7:St} {H7:Hp},Inv X (e8++pK fp s5.heap) Z7 H7 s7->N Z7 H7->∃m,m<n/\∃i Z' H',Inv X e8 Z' H' s7/\tn i s7.heap/\(∀b∈fp,H' b=none)/\W i m Z' H' :=λ{Z7 H7} I7 n7=>by
   obtain⟨m',hm,w7⟩:=hN Z7 H7 n7;refine⟨m',hm,i+1,Z7,H7,I7.mh,T.keep _ _ _ yT λb hb o e=>(I7.pin (b,o) (Gbi _ (Gbi _ (j3 hb e)))).1,λb hb=> ?_,w7⟩;obtain⟨o,e,d⟩:=T.obj _ _ yT b hb;exact(I7.pin (b,o) (Gbi _ (Gbi _ (j3 hb e)))).2.1
  cases f with
  |next=>obtain⟨Z7,H7,I7,n7⟩:=q7;exact again I7 n7
  |cont=>obtain⟨Z7,H7,I7,n7⟩:=q7;exact again I7 n7
  |brk=>obtain⟨Z7,H7,I7,q7⟩:=q7;exact⟨Z7,H7,I7.mh,q7⟩
  |ret v=>obtain⟨x7,Z7,H7,I7,r7,q7⟩:=q7;exact⟨x7,Z7,H7,I7.mh,r7,q7⟩
end
abbrev R2:=V->V->Hp->VK->Prop
def OpR(X:Cx)(f:Value->Value->Sem Value)(r:R2):Prop:=
 ∀(e8:List (Addr×Obj)) (s:Shared) (Z:St) (H:Hp) (x y:V) (v u:Value) (Q:VK),Inv X e8 Z H s->RelV x v->RelV y u->r x y H Q->
  wpAny (model X.prog X.w) X.A (f v u) (EP X e8 Z Q) X.xe s
def UnR(X:Cx)(f:Value->Sem Value)(r:V->Hp->VK->Prop):Prop:=
 ∀(e8:List (Addr×Obj)) (s:Shared) (Z:St) (H:Hp) (x:V) (v:Value) (Q:VK),Inv X e8 Z H s->RelV x v->r x H Q->
  wpAny (model X.prog X.w) X.A (f v) (EP X e8 Z Q) X.xe s
def fq(X:Cx)(f:Value)(r:List V->Hp->VK->Prop):Prop:=
 ∀(e8:List (Addr×Obj)) (s:Shared) (Z:St) (H:Hp) (xs:List V) (us:List Value) (Q:VK),Inv X e8 Z H s->Vals xs us->r xs H Q->
  wpAny (model X.prog X.w) X.A (call f us) (EP X e8 Z Q) X.xe s
def tOp(r:R2)(ta tb:TE):TE:=λZ H Q=>ta Z H λx H1=>tb Z H1 λy H2=>r x y H2 Q
def tUn(r:V->Hp->VK->Prop)(ta:TE):TE:=λZ H Q=>ta Z H λx H1=>r x H1 Q
def rI(C:Int->Int->Prop)(g:Int->Int->V):R2:=λx y H Q=>∃i j,x= .int i/\y= .int j/\C i j/\Q (g i j) H
def rI0(g:Int->Int->V):R2:=λx y H Q=>∃i j,x= .int i/\y= .int j/\Q (g i j) H
def rU(g:Int->V):V->Hp->VK->Prop:=λx H Q=>∃i,x= .int i/\Q (g i) H
section
variable{X:Cx}{a b c:Expr}{ta tb tc:TE}{pos:Pos}
theorem Lx(ha:PE X a ta)(hb:PE X b tb){e8:List (Addr×Obj)}{s:Shared}{Z:St}{H:Hp}{R:V->V->Hp->Prop}(I:Inv X e8 Z H s)
  (h:ta Z H λx H1=>tb Z H1 λy H2=>R x y H2){Q:Value->Shared->Prop}{f:Value->Value->Sem Value}
  (hf:∀v u s2 x y H2,Inv X e8 Z H2 s2->RelV x v->RelV y u->R x y H2->wpAny (model X.prog X.w) X.A (f v u) Q X.xe s2):
  wpAny (model X.prog X.w) X.A (eval a X.env) (λv s₁=>wpAny (model X.prog X.w) X.A (eval b X.env) (λu s₂=>wpAny (model X.prog X.w) X.A (f v u) Q X.xe s₂) X.xe s₁) X.xe s:=by
 refine thn (ha e8 s Z H _ I h) λv s1 ⟨x,H1,I1,r1,q1⟩=> ?_;refine thn (hb e8 s1 Z H1 _ I1 q1) λu s2 ⟨y,H2,I2,r2,q2⟩=> ?_;exact hf v u s2 x y H2 I2 r1 r2 q2
theorem NU{op:Operator}{r:R2}(ho:OpR X (binaryOp op) r)(ha:PE X a ta)(hb:PE X b tb):PE X (.BinOp a op b pos) (tOp r ta tb):=by
 intro e8 s Z H Q I h;exact wpAny_BinOp (Lx ha hb I h λv u s2 x y H2 I2 rx ry q=>ho e8 s2 Z H2 x y v u Q I2 rx ry q)
theorem NV{op:UnaryOp}{r:V->Hp->VK->Prop}(ho:UnR X (unaryOp op) r)(ha:PE X a ta):PE X (.UnaryOp op a pos) (tUn r ta):=by
 intro e8 s Z H Q I h;exact UnaryOp_ (thn (ha e8 s Z H _ I h) λv s1 ⟨x,H1,I1,r1,q1⟩=>ho e8 s1 Z H1 x v Q I1 r1 q1)
variable{g:Int->Int->Int}
theorem opI{f:Value->Value->Sem Value}{C:Int->Int->Prop}
  (rule:∀(i j:Int) (t u:Tok) (s:Shared) (Q:Value->Shared->Prop) (E:Value->Shared->Prop),C i j->Q (.int (g i j) s.toks) {s with toks:=s.toks+1}->wpAny (model X.prog X.w) X.A (f (.int i t) (.int j u)) Q E s):
  OpR X f (rI C λi j=> .int (g i j)):=by
 intro e8 s Z H x y v u Q I rx ry h;obtain⟨i,j,rfl,rfl,hc,q⟩:=h;obtain⟨t,rfl⟩:=rx;obtain⟨t',rfl⟩:=ry;exact rule i j t t' s _ _ hc ⟨.int (g i j),H,I.tok _,⟨_,rfl⟩,q⟩
theorem NW{f:Value->Value->Sem Value}
  (rule:∀(i j:Int) (t u:Tok) (s:Shared) (Q:Value->Shared->Prop) (E:Value->Shared->Prop),Q (.int (g i j) s.toks) {s with toks:=s.toks+1}->wpAny (model X.prog X.w) X.A (f (.int i t) (.int j u)) Q E s):
  OpR X f (rI0 λi j=> .int (g i j)):=by
 intro e8 s Z H x y v u Q I rx ry h;obtain⟨i,j,rfl,rfl,q⟩:=h;obtain⟨t,rfl⟩:=rx;obtain⟨t',rfl⟩:=ry;exact rule i j t t' s _ _ ⟨.int (g i j),H,I.tok _,⟨_,rfl⟩,q⟩
theorem J9{f:Value->Value->Sem Value}{g:Int->Int->Bool}
  (rule:∀(i j:Int) (t u:Tok) (s:Shared) (Q:Value->Shared->Prop) (E:Value->Shared->Prop),Q (.bool (g i j)) s->wpAny (model X.prog X.w) X.A (f (.int i t) (.int j u)) Q E s):
  OpR X f (rI0 λi j=> .bl (g i j)):=by
 intro e8 s Z H x y v u Q I rx ry h;obtain⟨i,j,rfl,rfl,q⟩:=h;obtain⟨t,rfl⟩:=rx;obtain⟨t',rfl⟩:=ry;exact rule i j t t' s _ _ ⟨.bl (g i j),H,I,rfl,q⟩
def NX(i j:Int):Prop:=0<j/\j<1073741824
def NY(i j:Int):Prop:=0<=j/\j<=1000000/\i.natAbs<2^64
def Ja(i j:Int):Prop:=(-(2^64)<i/\i<2^64)\/(-(2^64)<j/\j<2^64)
theorem Ja.ok{i j:Int}(h:Ja i j):IntMulOk i j:=by
 rcases h with⟨h1,h2⟩| ⟨h1,h2⟩
 .exact .of_left (intBits_le_64 h1 h2)
 .exact .of_right (intBits_le_64 h1 h2)
theorem Ly:OpR X (binaryOp .Add) (rI0 λi j=> .int (i+j)):=NW λ_ _ _ _ _ _ _ q=>add_int q
theorem Lz:OpR X (binaryOp .Sub) (rI0 λi j=> .int (i -j)):=NW λ_ _ _ _ _ _ _ q=>sub_int q
theorem LA:OpR X (binaryOp .Mult) (rI Ja λi j=> .int (i*j)):=opI λ_ _ _ _ _ _ _ hc q=>mul_int q hc.ok
theorem Jb:OpR X (binaryOp .FloorDiv) (rI NX λi j=> .int (i/j)):=opI λi j _ _ _ _ _ hc q=>by
 have h1:(0:Int)<j:=hc.1;have h2:j<1073741824:=hc.2;exact floordiv_int (by lia) (by rw[Int.fdiv_eq_ediv_of_nonneg i (by lia)];exact q) (.inl (PyProof.noPylong_small (by lia)))
theorem LB:OpR X (binaryOp .Mod) (rI (λ_ j=>0<j) λi j=> .int (i%j)):=opI λi j _ _ _ _ _ hc q=>by
 have h1:(0:Int)<j:=hc;exact mod_int' (by lia) (by rw[Int.fmod_eq_emod_of_nonneg i (by lia)];exact q)
theorem LC:OpR X (binaryOp .Pow) (rI NY λi j=> .int (i^j.toNat)):=opI λ_ _ _ _ _ _ _ hc q=>pow_int_small hc.1 hc.2.1 hc.2.2 q
theorem unI{f:Value->Sem Value}{g:Int->Int}
  (rule:∀(i:Int) (t:Tok) (s:Shared) (Q:Value->Shared->Prop) (E:Value->Shared->Prop),Q (.int (g i) s.toks) {s with toks:=s.toks+1}->wpAny (model X.prog X.w) X.A (f (.int i t)) Q E s):
  UnR X f (rU λi=> .int (g i)):=by
 intro e8 s Z H x v Q I rx h;obtain⟨i,rfl,q⟩:=h;obtain⟨t,rfl⟩:=rx;exact rule i t s _ _ ⟨.int (g i),H,I.tok _,⟨_,rfl⟩,q⟩
theorem LD:UnR X (unaryOp .USub) (rU λi=> .int (-i)):=unI λ_ _ _ _ _ q=>neg_int q
end
section
variable{X:Cx}{a b c:Expr}{ta tb tc:TE}{pos:Pos}
theorem G9{e8:List (Addr×Obj)}{Z:St}{H:Hp}{s:Shared}{Q:VK}{k k' :Bool}(I:Inv X e8 Z H s)(q:Q (.bl k) H)(e:k=k'):EP X e8 Z Q (.bool k') s:=by
 subst e;exact⟨.bl k,H,I,rfl,q⟩
theorem vV:OpR X (compareOp .Lt) (rI0 λi j=> .bl (decide (i<j))):=J9 λ_ _ _ _ _ _ _ q=>lt_int q
theorem sM:OpR X (compareOp .LtE) (rI0 λi j=> .bl (decide (i<=j))):=J9 λ_ _ _ _ _ _ _ q=>le_int q
theorem CK:OpR X (compareOp .Gt) (rI0 λi j=> .bl (decide (j<i))):=J9 λ_ _ _ _ _ _ _ q=>gt_int q
theorem NZ:OpR X (compareOp .GtE) (rI0 λi j=> .bl (decide (j<=i))):=J9 λ_ _ _ _ _ _ _ q=>ge_int q
theorem B8:OpR X (compareOp .Is) (λx y H Q=>y= .non/\Q (.bl (decide (x= .non))) H):=by
 intro e8 s Z H x y v u Q I rx ry h;obtain⟨rfl,q⟩:=h;cases ry;refine is_none_gen (G9 I q ?_);cases x<;>first
  |(cases rx;rfl)
  |(obtain⟨t,rfl⟩:=rx;rfl)
theorem CL:OpR X (compareOp .IsNot) (λx y H Q=>y= .non/\Q (.bl (!decide (x= .non))) H):=by
 intro e8 s Z H x y v u Q I rx ry h;obtain⟨rfl,q⟩:=h;cases ry;refine isnot_none_gen (G9 I q ?_);cases x<;>first
  |(cases rx;rfl)
  |(obtain⟨t,rfl⟩:=rx;rfl)
theorem OpR.or{f:Value->Value->Sem Value}{r r' :R2}(h:OpR X f r)(h' :OpR X f r'):OpR X f (λx y H Q=>r x y H Q\/r' x y H Q):=by
 intro e8 s Z H x y v u Q I rx ry q;rcases q with q|q
 .exact h e8 s Z H x y v u Q I rx ry q
 .exact h' e8 s Z H x y v u Q I rx ry q
theorem i0(b:Expr){op:CmpOp}(h:op≠ .In:=by decide)(h2:op≠ .NotIn:=by decide):behindInMarks op b=false:=by
 have e1:(op==CmpOp.In)=false:=by cases op<;>first|rfl|exact absurd rfl h
 have e2:(op==CmpOp.NotIn)=false:=by cases op<;>first|rfl|exact absurd rfl h2
 cases b<;>simp[behindInMarks,e1,e2]
theorem Jc{op:CmpOp}{r:R2}(ho:OpR X (compareOp op) r)(ha:PE X a ta)(hb:PE X b tb)(hm:behindInMarks op b=false):PE X (.Compare a [op] [b] pos) (tOp r ta tb):=by
 intro e8 s Z H Q I h;exact wpAny_Compare1 (Lx ha hb I h λv u s2 x y H2 I2 rx ry q=>ho e8 s2 Z H2 x y v u Q I2 rx ry q) hm
def L5(t:TE):TT:=λZ H Q=>t Z H λx H' =>∃k,x= .bl k/\Q k H'
theorem Jd{op:CmpOp}{r:R2}(ho:OpR X (compareOp op) r)(ha:PE X a ta)(hb:PE X b tb)(hm:behindInMarks op b=false):PT X (.Compare a [op] [b] pos) (L5 (tOp r ta tb)):=by
 intro e8 s Z H Q I h;refine wpAny_isTrue_Compare1 (thn (ha e8 s Z H _ I h) λv s1 ⟨x,H1,I1,r1,q1⟩=>thn (hb e8 s1 Z H1 _ I1 q1) λu s2 ⟨y,H2,I2,r2,q2⟩=>
  thn (ho e8 s2 Z H2 x y v u _ I2 r1 r2 q2) λc s3 ⟨z,H3,I3,r3,k,e,q3⟩=> ?_) hm
 subst e;cases r3;exact Gco ⟨H3,I3,q3⟩
def LF(r r' :R2)(ta tb tc:TE):TE:=λZ H Q=>ta Z H λx H1=>tb Z H1 λy H2=>r x y H2 λz H3=>∃k,z= .bl k/\
 (if k=true then tc Z H3 λw' H4=>r' y w' H4 Q else Q (.bl false) H3)
theorem Ga{op yW :CmpOp}{r r' :R2}(ho:OpR X (compareOp op) r)(xx :OpR X (compareOp yW) r')(ha:PE X a ta)(hb:PE X b tb)(hc:PE X c tc)
  (hm:lastMarks [op,yW] [b,c]=false:=by with_unfolding_all rfl):PT X (.Compare a [op,yW] [b,c] pos) (L5 (LF r r' ta tb tc)):=by
 intro e8 s Z H Q I h;refine isTrue_chain (thn (ha e8 s Z H _ I h) λv s1 ⟨x,H1,I1,r1,q1⟩=>test_link (thn (hb e8 s1 Z H1 _ I1 q1) λu s2 ⟨y,H2,I2,r2,q2⟩=>
  thn (ho e8 s2 Z H2 x y v u _ I2 r1 r2 q2) λd s3 ⟨z,H3,I3,r3,k,e,q3⟩=> ?_)) hm
 subst e;cases r3;refine Gco ?_;cases k with
 |false=>
  obtain⟨k',e',q'⟩:=q3;cases e';exact ite_ff ⟨H3,I3,q'⟩
 |true=>
  refine ite_tt (test_last (thn (hc e8 s3 Z H3 _ I3 q3) λw' s4 ⟨z',H4,I4,r4,q4⟩=>thn (xx e8 s4 Z H4 y z' u w' _ I4 r2 r4 q4) λd' s5 ⟨z2,H5,I5,r5,k2,e2,q5⟩=> ?_));subst e2;cases r5;exact Gco ⟨H5,I5,q5⟩
theorem pL:(sizeLine:Nat)<2^63:=by rw[Gbw];decide
theorem B9:OpR X (binaryOp .Add) (λx y H Q=>∃i j,x= .str i/\y= .str j/\i.length+j.length<=sizeLine/\Q (.str (i++j)) H):=by
 intro e8 s Z H x y v u Q I rx ry h;obtain⟨i,j,rfl,rfl,hz,q⟩:=h;obtain⟨t,rfl⟩:=rx;obtain⟨t',rfl⟩:=ry;exact add_str (λt' tk=> ⟨.str (i++j),H,I.tok _,⟨_,rfl⟩,q⟩) hz
variable{us:List Value}{x:V}
theorem vals1(r:Vals [x] us):∃u,us=[u]/\RelV x u:=by
 cases r with
 |cons r1 r2=>cases r2;exact⟨_,rfl,r1⟩
theorem vals2{y:V}(r:Vals [x,y] us):∃u w',us=[u,w']/\RelV x u/\RelV y w' :=by
 cases r with
 |cons r1 r2=>
  cases r2 with
  |cons r3 r4=>cases r4;exact⟨_,_,rfl,r1,r3⟩
theorem Em(hc:X.calm=true):fq X (.builtin "min") (λxs H Q=>∃i j,xs=[.int i,.int j]/\Q (.int (if j<i then j else i)) H):=by
 intro e8 s Z H xs us Q I r h;obtain⟨i,j,rfl,q⟩:=h;obtain⟨u,w',rfl,⟨t,rfl⟩,⟨t',rfl⟩⟩:=vals2 r;refine min_two_ints (I.ok.hd hc) λh' tk k=> ⟨_,H,I.kept k, ?_,q⟩;by_cases hj:j<i
 .rw[Gaj hj,Gaj hj];exact⟨_,rfl⟩
 .rw[Gai hj,Gai hj];exact⟨_,rfl⟩
theorem En:fq X (.type "int") (λxs H Q=>(∃i,xs=[.int i]/\Q (.int i) H)\/∃k,xs=[.bl k]/\Q (.int (if k then 1 else 0)) H):=by
 intro e8 s Z H xs us Q I r h;rcases h with⟨i,rfl,q⟩| ⟨k,rfl,q⟩
 .obtain⟨u,rfl,t,rfl⟩:=vals1 r;exact call_int_int ⟨.int i,H,I,⟨_,rfl⟩,q⟩
 .obtain⟨u,rfl,r1⟩:=vals1 r;cases r1;exact call_int_bool ⟨.int (if k then 1 else 0),H,I.tok _,⟨_,rfl⟩,q⟩
def O0(K:PySem.W.Frag)(x:V)(H:Hp)(n:Nat):Prop:=
 match x with
 | .str y=>y.length<=sizeLine/\n=y.length
 | .byt y=>y.size<=sizeLine/\n=y.size
 | .ref p=>(∃xs,SqL K H p xs/\n=xs.length)\/∃xs,SqT K H p xs/\n=xs.length
 |_=>False
theorem pM:fq X (.builtin "len") (λxs H Q=>∃x n,xs=[x]/\O0 X.K x H n/\Q (.int n) H):=by
 intro e8 s Z H xs us Q I r h;obtain⟨x,n,rfl,e,q⟩:=h;obtain⟨u,rfl,rx⟩:=vals1 r;have hl:=pL;have hs:sizeLine=16777216:=Gbw;cases x with
 |str y=>
  obtain⟨t,rfl⟩:=rx;obtain⟨hy,e'⟩:y.length<=sizeLine/\n=y.length:=e;subst e';exact len_str (by lia) ⟨.int _,H,I.tok _,⟨_,rfl⟩,q⟩
 |byt y=>
  obtain⟨t,rfl⟩:=rx;obtain⟨hy,e'⟩:y.size<=sizeLine/\n=y.size:=e;subst e';exact PySem.W.len_bytes (by lia) ⟨.int _,H,I.tok _,⟨_,rfl⟩,q⟩
 |ref p=>
  cases rx;have e' :(∃xs,SqL X.K H p xs/\n=xs.length)\/∃xs,SqT X.K H p xs/\n=xs.length:=e;rcases e' with⟨xs,hx,e'⟩| ⟨xs,hx,e'⟩
  .subst e';obtain⟨its,r',pl,hz⟩:=I.list hx;have eK:=r'.length;exact Calls.call_len_list pl.isList (by simp only[Gar];lia) ⟨.int xs.length,H,I.tok _,⟨_,by simp only[Gar];rw[eK]⟩,q⟩
  .subst e';obtain⟨its,r',pl,hz⟩:=I.tuple hx;have eK:=r'.length;exact len_tuple pl (by simp only[Gar];lia) ⟨.int xs.length,H,I.tok _,⟨_,by simp only[Gar];rw[eK]⟩,q⟩
 |_=>exact(show False from e).elim
end
structure LG(h:Heap)(x dx C:Addr)(mA:Str->Option Value):Prop where
 obj:h.get? x=some (PySem.W.instObj C dx)
 ns:h.Ns1 dx mA
 ne:dx≠x
variable{mA:Str->Option Value}{dx:Addr}{h:Heap}
theorem Eo(n:h.Ns1 dx mA):∃od,h.get? dx=some od/\∀name,PySem.W.lookIn name od=some (mA name):=by
 obtain⟨o,es,ep,ho,hd,hk,_,hm⟩:=n;refine⟨o,ho,λname=> ?_⟩;have e:=hm name;unfold nsFind findBy at e;rw[<-Array.find?_toList] at e;unfold PySem.W.lookIn;rw[hd];dsimp only;split
 .rename_i y q;rw[q] at e;exact congrArg some e
 .rename_i q;rw[q] at e;have a:es.toList.any (·.refKey)=false:=by
   rw[Gcp];intro y hy;obtain⟨z,t,xk⟩:=hk y (GdL.mp hy);simp[DictEntry.refKey,xk]
  have a' :¬es.toList.any (·.refKey)=true:=by rw[a];exact Gat
  rw[Gai a'];exact congrArg some e
variable{C:Addr}
theorem LG.look{x:Addr}(I:LG h x dx C mA):∃od,PySem.W.InstAt h x (PySem.W.instObj C dx) C (some od)/\∀name,PySem.W.lookIn name od=some (mA name):=
 let⟨od,ho,hl⟩:=Eo I.ns
 ⟨od,⟨I.obj,rfl,rfl,ho⟩,hl⟩
theorem nH.some_of{v:V}{o:Option Value}(r:nH (some v) o):∃u,o=some u/\RelV v u:=by
 cases o with
 |none=>exact(show False from r).elim
 |some u=>exact⟨u,rfl,r⟩
section
variable{P:Program}{w:World}{H H' :Hp}{h h' :Heap}{a C dx:Addr}{fs Us :List (Str×V)}
theorem Je(hok:HOk P w H h)(e:H a=some (.ins C dx fs)):∃mA,LG h a dx C mA/\(∀f,nH (fs.lookup f) (mA f))/\PySem.Within mA (fs.map (·.1))/\fs.length<=1000/\H dx=some (.own a):=by
 obtain⟨d,z,ne,ob,mA,n,r,q⟩:=(show bQ P w H h a (.ins C dx fs) from hok a _ e)
 exact⟨mA,⟨ob,n,ne⟩,r,q,z,d⟩
end
structure Cls(K:PySem.W.Frag)(C:Addr):Prop where
 pg:PySem.W.plainGet K C Str.empty=true
 hd:PySem.W.hasDictIn K C=true
 po:PySem.W.plainOver K C=true
 sa:PySem.W.findIn K (.ref C) "__setattr__"=some (some (.builtin "object.__setattr__"))
theorem Cls.get{K:PySem.W.Frag}(c:Cls K C)(f:Str):PySem.W.plainGet K C f=true:=c.pg
section
variable{X:Cx}{e8:List (Addr×Obj)}{Z:St}{H:Hp}{s:Shared}{A:Around}{E:Value->Shared->Prop}{Q:Value->Shared->Prop}{c:Value}{b:Bool}
inductive lB(K:PySem.W.Frag)(H:Hp):V->Value->Prop where
 |non:lB K H .non (.type "NoneType")
 |bl (x:Bool):lB K H (.bl x) (.type "bool")
 |int (i:Int):lB K H (.int i) (.type "int")
 |str (x:Str):lB K H (.str x) (.type "str")
 |flt (x:UInt64):lB K H (.flt x) (.type "float")
 |lst {a:Addr} {xs:List V} (e:H a=some (.lst xs)):lB K H (.ref a) (.type "list")
 |frz {a:Addr} {o:Obj} {xs:List V} (e:H a=some (.frz o (.lst xs))):lB K H (.ref a) (.type "list")
 |tup {a:Addr} {xs:List V} (e:H a=some (.tup xs)):lB K H (.ref a) (.type "tuple")
 |dK {a:Addr} {eC:List (Key×V)} (e:H a=some (.dK eC)):lB K H (.ref a) (.type "dict")
 |dT {a:Addr} {eC:List (List Key×V)} (e:H a=some (.dT eC)):lB K H (.ref a) (.type "dict")
 |ins {a C dx:Addr} {fs:List (Str×V)} (e:H a=some (.ins C dx fs)) (cl:Cls K C) (ha:PySem.W.findIn K (.ref C) "__class__"=some (some (.builtin "object.__class__")))
   (hn:PySem.W.specialIn K (.builtin "object.__class__") "__get__"=some (some (.builtin "getset_descriptor.__get__"))) (SH:PySem.W.takesIn K (.builtin "object.__class__")=some true)
   (hm:PySem.W.mroIn K C (.type "object")=some true):lB K H (.ref a) (.ref C)
theorem Ep{x:V}{u t:Value}(I:Inv X e8 Z H s)(rx:RelV x u)(ty:lB X.K H x t)(e:PySem.W.kitOne X.K t c=some b)(h:∀tk,Q (.bool b) {s with toks:=tk}):
  wpAny (model X.prog X.w) A (call (.builtin "isinstance") [u,c]) Q E s:=by
 cases ty with
 |non=>cases(show u=Value.none from rx);exact Gbz PySem.W.kitx_none I.kIn True.intro e (λz=>nomatch z) h
 |bl y=>cases(show u=Value.bool y from rx);exact Gbz PySem.W.kitx_bool I.kIn True.intro e (λz=>nomatch z) h
 |int i=>obtain⟨t,q⟩:=(show∃t,u=Value.int i t from rx);cases q;exact Gbz PySem.W.kitx_int I.kIn True.intro e (λz=>nomatch z) h
 |str y=>obtain⟨t,q⟩:=(show∃t,u=Value.str y t from rx);cases q;exact Gbz PySem.W.kitx_str I.kIn True.intro e (λz=>nomatch z) h
 |flt y=>obtain⟨t,q⟩:=(show∃t,u=Value.float y t from rx);cases q;exact Gbz PySem.W.kitx_float I.kIn True.intro e (λz=>nomatch z) h
 | @lst a xs ea=>
  cases(show u=Value.ref a from rx);obtain⟨_,_,n,_,h1⟩:=(show bQ X.prog X.w H s.heap a (.lst xs) from I.hok a _ ea)
  exact Gbz PySem.W.kitx_list I.kIn ⟨_,h1,rfl⟩ e (λz=>nomatch z) h
 | @frz a ob xs ea=>
  cases(show u=Value.ref a from rx);obtain⟨_,_,_,n,_,h1⟩:=(show bQ X.prog X.w H s.heap a (.frz ob (.lst xs)) from I.hok a _ ea)
  exact Gbz PySem.W.kitx_list I.kIn ⟨_,h1,rfl⟩ e (λz=>nomatch z) h
 | @tup a xs ea=>
  cases(show u=Value.ref a from rx);obtain⟨_,_,_,p⟩:=(show bQ X.prog X.w H s.heap a (.tup xs) from I.hok a _ ea)
  obtain⟨o,h1,h2,_⟩:=p;exact Gbz PySem.W.kitx_tuple I.kIn ⟨o,h1,h2⟩ e (λz=>nomatch z) h
 | @dK a eC ea=>
  cases(show u=Value.ref a from rx);obtain⟨_,_,vs,_,p⟩:=(show bQ X.prog X.w H s.heap a (.dK eC) from I.hok a _ ea)
  obtain⟨o,es,ep,h1,h2,_⟩:=p;exact Gbz PySem.W.kitx_dict I.kIn ⟨o,h1,h2.1⟩ e (λz=>nomatch z) h
 | @dT a eC ea=>
  cases(show u=Value.ref a from rx);obtain⟨_,_,xs,_,o,es,ep,h1,h2,_⟩:=(show bQ X.prog X.w H s.heap a (.dT eC) from I.hok a _ ea)
  exact Gbz PySem.W.kitx_dict I.kIn ⟨o,h1,h2.1⟩ e (λz=>nomatch z) h
 | @ins a C dx fs ea cl ha hn SH hm=>
  cases(show u=Value.ref a from rx);obtain⟨mA,O,_⟩:=Je I.hok ea;obtain⟨od,J,_⟩:=O.look;exact Gbz (PySem.W.kitx_own (cl.get _) cl.hd ha hn SH hm) I.kIn J e (λz=>nomatch z) h
end
structure gk(k:Nat)(A:Around):Prop where
 hd:A.handled=none
 dp:A.depth+3*k+5<recursionLimit
 un:A.units+16*k+200<cLine
variable{A:Around}
theorem gk.mono{j k:Nat}(r:gk k A)(h:j<=k):gk j A:=⟨r.hd,by have:=r.dp;lia,by have:=r.un;lia⟩
theorem gk.deeper{k:Nat}{A:Around}(r:gk (k+1) A)(env:Env):gk k (A.deeper env):=
 ⟨r.hd,by have:=r.dp;show A.depth+1+3*k+5<_;lia,by have:=r.un;show A.units+3+16*k+200<_;lia⟩
theorem gk.depth{k:Nat}{A:Around}(r:gk k A):A.depth<recursionLimit:=by have:=r.dp;lia
theorem gk.units{k:Nat}{A:Around}(r:gk k A):A.units+64<cLine:=by have:=r.un;lia
def Qx:TA:=λ_ H Q=>Q [] H
def O1(ta:TE)(tr:TA):TA:=λZ H Q=>ta Z H λx H1=>tr Z H1 λxs H2=>Q (x::xs) H2
section
variable{X:Cx}{e:Expr}{es:List Expr}{te:TE}{t:TA}{pos:Pos}
theorem pO:PA X [] Qx:=λ_ _ _ _ H Q I h=>Calls.spliced_nil ⟨[],H,I,.nil,h⟩
theorem mi(ha:PE X e te)(hr:PA X es t)(hs:starEach (e::es) X.env=(false,eval e X.env)::starEach es X.env:=by rfl):PA X (e::es) (O1 te t):=by
 intro pos e8 s Z H Q I h;rw[hs];show wpAny _ _ (spliced ((false,eval e X.env)::backTo pos (starEach es X.env))) _ _ s;refine GcG (thn (ha e8 s Z H _ I h) λu s1 ⟨x,H1,I1,r1,q1⟩=> ?_);exact thn (hr pos e8 s1 Z H1 _ I1 q1) λus s2 ⟨xs,H2,I2,r2,q2⟩=> ⟨x::xs,H2,I2,.cons r1 r2,q2⟩
def Qy(t:TA):TE:=λZ H Q=>t Z H λxs H1=>xs.length<=sizeLine/\∀p,H1 p=none->Q (.ref p) (upd H1 p (.tup xs))
def Qz(t:TA):TE:=λZ H Q=>t Z H λxs H1=>xs.length<=sizeLine/\∀p,H1 p=none->Q (.ref p) (upd H1 p (.lst xs))
theorem LH{x1}(h:PA X es t):PE X (.Tuple es x1 pos) (Qy t):=by
 intro e8 s Z H Q I hq;refine wpAny_Tuple_spliced (thn (h pos e8 s Z H _ I hq) λus s1 ⟨xs,H1,I1,r,z,q⟩=> ⟨by rw[<-r.length];exact z, ?_⟩);have hf:H1 s1.heap.objs.size=none:=I1.hok.fresh (Gap _);refine⟨.ref s1.heap.objs.size,upd H1 s1.heap.objs.size (.tup xs),I1.laid (t' :=s1.toks) (λb u e=>Gaf _ e) (Gap _) ?_,rfl,q _ hf⟩;exact⟨z,us,r,⟨_,Gaw _ rfl,rfl,_,rfl⟩⟩
theorem Gb(h:PA X es t):PE X (.List es pos) (Qz t):=by
 intro e8 s Z H Q I hq;refine wpAny_List_spliced (thn (h pos e8 s Z H _ I hq) λus s1 ⟨xs,H1,I1,r,z,q⟩=> ⟨by rw[<-r.length];exact z, ?_⟩);have hf:H1 s1.heap.objs.size=none:=I1.hok.fresh (Gap _);refine⟨.ref s1.heap.objs.size,upd H1 s1.heap.objs.size (.lst xs),I1.laid (t' :=s1.toks) (λb u e=>Gaf _ e) (Gap _) ?_,rfl,q _ hf⟩;exact⟨z,us,0,r,Gaw _ rfl⟩
end
abbrev Sp:=List V->Hp->VK->XK->Prop
abbrev CXT:=List Env->Hp->Shared->XK->Value->Shared->Prop
structure Jf(P:Program)(w:World)(K:PySem.W.Frag)(mg:Str->Option Value)(base:Heap)(A:Around)(outer:List Env)(s:Shared)(H:Hp):Prop where
 frames:A.frames=some outer
 mod:Mod K mg base
 bs:∀b o,base.get? b=some o->s.heap.get? b=some o/\H b=none
 bsz:base.objs.size<=s.heap.objs.size
 pJ:s.heap.FunFrames base outer
 frf:∀b∈frs outer,H b=none
 hok:HOk P w H s.heap
 bare:AllBare s.gens
def CE(outer:List Env)(P:Program)(w:World)(H:Hp)(s:Shared)(Q:VK)(u:Value)(s' :Shared):Prop:=
 ∃v H',s'.os=s.os/\AllBare s'.gens/\Un (frs outer) [] H H' s.heap s'.heap/\HOk P w H' s'.heap/\RelV v u/\Q v H'
def CR(CX:CXT)(outer:List Env)(P:Program)(w:World)(H:Hp)(s:Shared)(Q:VK)(E:XK)(r:Result)(s' :Shared):Prop:=
 match r with
 | .ok (.ret u)=>CE outer P w H s Q u s'
 | .ok _=>False
 | .error e=>CX outer H s E e s'
structure mj(P:Program)(w:World)(K:PySem.W.Frag)(mg:Str->Option Value)(base:Heap)(CX:CXT)(k:Nat)(f:Addr)(fd:FuncData)(ps:List Str)(sp:Sp):Prop where
 len:∀vs H Q E,sp vs H Q E->vs.length=ps.length
 run:∀(A:Around) (outer:List Env) (s:Shared) (H:Hp) (args:Args) (us:List Value) (vs:List V) (Q:VK) (E:XK),gk k A->Jf P w K mg base A outer s H->BindsTo s fd args (ps.zip us)->Vals vs us->sp vs H Q E->
  codeAny (model P w) A (.call (.ref f) args) (CR CX outer P w H s Q E) s
section
variable{X:Cx}{e8:List (Addr×Obj)}{Z:St}{H:Hp}{s s' :Shared}
theorem Inv.QA(I:Inv X e8 Z H s):Jf X.prog X.w X.K X.mg X.base X.A X.stack s H:=
 ⟨I.ok.frames,I.ok.mod,I.bs,Gbo I.ok.bsz I.sz,I.stack,I.CH,I.hok,I.bare⟩
theorem Inv.after{Q:VK}{u:Value}(I:Inv X e8 Z H s)(h:CE X.stack X.prog X.w H s Q u s'):EP X e8 Z Q u s' :=by
 obtain⟨v,H',os,bare,un,hok,r,q⟩:=h;obtain⟨hh,g,d,t,Tz⟩:=s';obtain rfl:Tz =s.os:=os;exact⟨v,H',I.call (h' :=hh) (g' :=g) (d' :=d) (t' :=t) (ch:=[]) un hok bare (λb z=>absurd z (by simp)),r,q⟩
end
def O2(sp:Sp)(dvs:List V)(E:XK)(t:TA):TE:=λZ H Q=>t Z H λvs H1=>sp (vs++dvs) H1 Q E
def Binds(K:PySem.W.Frag)(fd:FuncData)(ps:List Str)(ds:List Value):Prop:=
 ∀(s:Shared) (us:List Value),K.In s.heap->(us++ds).length=ps.length->BindsTo s fd ⟨us,[]⟩ (ps.zip (us++ds))
variable{ps:List Str}
theorem Binds.all{K:PySem.W.Frag}{fd:FuncData}(h:∀us:List Value,us.length=ps.length->bindArgs fd ⟨us,[]⟩=pure (ps.zip us)):Binds K fd ps []:=λs us _ hl=>by
 rw[Gbs] at hl⊢;exact .of_eq (h us hl)
def Passes(CX:CXT)(X:Cx)(E:XK):Prop:=∀(e8:List (Addr×Obj)) (Z:St) (H:Hp) (s:Shared) (e:Value) (s' :Shared),Inv X e8 Z H s->CX X.stack H s E e s' ->X.xe e s'
section
variable{X:Cx}{CX:CXT}{k:Nat}{f C:Addr}{fd:FuncData}{ps:List Str}{sp:Sp}{dvs:List V}{ds:List Value}{E:XK}{x m:Str}{p pos apos:Pos}{e o:Expr}{es:List Expr}{ta:TE}{t:TA}
theorem LI{e8:List (Addr×Obj)}{Z:St}{H:Hp}{s:Shared}{Q:VK}{us:List Value}{vs:List V}(F:mj X.prog X.w X.K X.mg X.base CX k f fd ps sp)(hr:gk k X.A)(hb:Binds X.K fd ps ds)(hd:Vals dvs ds)(hx:Passes CX X E)
  (I:Inv X e8 Z H s)(r:Vals vs us)(h:sp (vs++dvs) H Q E):wpAny (model X.prog X.w) X.A (call (.ref f) us) (EP X e8 Z Q) X.xe s:=by
 have r2:Vals (vs++dvs) (us++ds):=r.append hd;have hl:(us++ds).length=ps.length:=by rw[<-r2.length];exact F.len _ _ _ _ h
 refine wpAny_call (codeAny_mono (F.run X.A X.stack s H ⟨us,[]⟩ (us++ds) (vs++dvs) Q E hr I.QA (hb s us I.kIn hl) r2 h) λr s' hq=> ?_);cases r with
 |error e=>exact hx e8 Z H s e s' I hq
 |ok fl=>
  cases fl with
  |ret u=>exact I.after hq
  |next=>exact False.elim hq
  |brk=>exact False.elim hq
  |cont=>exact False.elim hq
theorem Jg(F:mj X.prog X.w X.K X.mg X.base CX k f fd ps sp)(hr:gk k X.A)(hg:Gl X x)(hm:X.mg x=some (.ref f))(hk:PySem.W.keepIn X.K (.ref f)=true)(hb:Binds X.K fd ps ds)(hd:Vals dvs ds)(hx:Passes CX X E)
  (ha:PA X (e::es) t)(yh:(x==("__debug__":Str))=false:=by decide)(he:starEach (e::es) X.env=(false,eval e X.env)::starEach es X.env:=by rfl)(xw:(backTo pos (starEach es X.env)).any (·.1)=false:=by rfl):
  PE X (.Call (.Name x p) (e::es) [] pos) (O2 sp dvs E t):=by
 intro e8 s Z H Q I h;refine Gdk (J4 I hg hm ?_ yh);refine PySem.W.callWith_K (h₀:=X.base) I.ok.mod.kin hk (thn (ha pos e8 s Z H _ I h) λus s1 ⟨vs,H1,I1,r,q⟩=> ⟨I1.kIn, ?_⟩) he xw;exact LI F hr hb hd hx I1 r q
end
structure j4(N P:List Str)(sc:Scope):Prop where
 kind:sc.kind= .function
 co:sc.isCoroutine=false
 gen:sc.isGenerator=false
 nd:N.Nodup
 pre:N.take P.length=P
 par:∀x∈P,sc.names.lookup x=some .local\/sc.names.lookup x=some .cell
 Nl:∀y∈sc.names,y.2≠ .free
theorem sN{kindOf:Str->Option NameKind}{x:Str}:∀{binds:List (Str×Value)} {m:Str->Option Value},(∀v,(x,v)∉binds)->bindL kindOf binds m x=m x
 |[],_,_=>rfl
 |(n,v)::r,m,h=>by
  unfold bindL;rw[sN λw hw=>h w (Gag _ hw)];split
  .have:x≠n:=by rintro rfl;exact h v Gak
   simp[this]
  .rfl
theorem sO{kindOf:Str->Option NameKind}{x:Str}:∀{binds:List (Str×Value)} {m:Str->Option Value},(∀v,(x,v)∉binds)->bindC kindOf binds m x=m x
 |[],_,_=>rfl
 |(n,v)::r,m,h=>by
  unfold bindC;rw[sO λw hw=>h w (Gag _ hw)];split
  .rfl
  .have:x≠n:=by rintro rfl;exact h v Gak
   simp[this]
theorem sP{kindOf:Str->Option NameKind}{x:Str}{v:Value}:∀{P:List Str} {vs:List Value} {i:Nat} {m:Str->Option Value},P.Nodup->P[i]? =some x->vs[i]? =some v->kindOf x=some .local->
  bindL kindOf (P.zip vs) m x=some v
 |[],_,_,_,_,h,_,_=>by simp at h
 |_::_,[],_,_,_,_,h,_=>by simp at h
 |p::P,w::vs,0,m,nd,h1,h2,hk=>by
  simp at h1 h2;subst h1;subst h2
  show bindL kindOf ((p,w)::P.zip vs) m p=_;unfold bindL;rw[sN λv hv=>(GbA.mp nd).1 (List.of_mem_zip hv).1,Gaj hk];simp
 |p::P,w::vs,i+1,m,nd,h1,h2,hk=>by
  show bindL kindOf ((p,w)::P.zip vs) m x=_;unfold bindL;exact sP (i:=i) (GbA.mp nd).2 (by simpa using h1) (by simpa using h2) hk
theorem sQ{kindOf:Str->Option NameKind}{x:Str}{v:Value}:∀{P:List Str} {vs:List Value} {i:Nat} {m:Str->Option Value},P.Nodup->P[i]? =some x->vs[i]? =some v->kindOf x≠some .local->
  bindC kindOf (P.zip vs) m x=some v
 |[],_,_,_,_,h,_,_=>by simp at h
 |_::_,[],_,_,_,_,h,_=>by simp at h
 |p::P,w::vs,0,m,nd,h1,h2,hk=>by
  simp at h1 h2;subst h1;subst h2
  show bindC kindOf ((p,w)::P.zip vs) m p=_;unfold bindC;rw[sO λv hv=>(GbA.mp nd).1 (List.of_mem_zip hv).1,Gai hk];simp
 |p::P,w::vs,i+1,m,nd,h1,h2,hk=>by
  show bindC kindOf ((p,w)::P.zip vs) m x=_;unfold bindC;exact sQ (i:=i) (GbA.mp nd).2 (by simpa using h1) (by simpa using h2) hk
noncomputable def start(N:List Str)(vs:List V):St:=vs.map some++List.replicate (N.length -vs.length) none
noncomputable def vW(CX:CXT)(P:Program)(w:World)(K:PySem.W.Frag)(mg:Str->Option Value)(base:Heap)(N:List Str)(qual:Str)(scope:Scope)(f:Addr)(cd:Value)(A:Around)(outer:List Env)(s:Shared)(H:Hp)(E:XK):Cx where
 prog:=P
 w:=w
 K:=K
 mg:=mg
 base:=base
 A:=A.deeper (envOfC qual scope s.heap.objs.size f cd)
 N:=N
 s₀:=s
 H0:=H
 env:=envOfC qual scope s.heap.objs.size f cd
 outer:=outer
 stack:=envOfC qual scope s.heap.objs.size f cd::outer
 ex:=[]
 calm:=true
 fn:=λ_=>true
 pn:=[]
 xe:=λe s' =>wpAny (model P w) (A.deeper (envOfC qual scope s.heap.objs.size f cd)) (leaving (envOfC qual scope s.heap.objs.size f cd) e) (λ_ Rc =>CX outer H s E e Rc) (λe' Rc =>CX outer H s E e' Rc) s'
theorem vX{sc:Scope}{n:Nat}{x:Str}(h:sc.names.lookup x=some .cell):∃c,(cellsFrom n sc.names []).lookup x=some c:=by
 have q:=PySem.W.cellsFrom_some sc.names n [] (.inl h);exact Option.isSome_iff_exists.mp q
variable{f:Addr}{scope:Scope}{qual:Str}{N:List Str}{base:Heap}{mg:Str->Option Value}{w:World}{P:Program}
theorem Er{CX:CXT}{K:PySem.W.Frag}{cd:Value}{outer:List Env}{s s1:Shared}{H:Hp}{E:XK}{us:List Value}{vs:List V}
  (S:j4 N ps scope)(hd:A.handled=none)(e0:Jf P w K mg base A outer s H)(hl:vs.length=ps.length)(r:Vals vs us)
  (x:InCallC s s.heap.objs.size (bindL (envOfC qual scope s.heap.objs.size f cd).kindOf (ps.zip us) λ_=>none) (cellsFrom (s.heap.objs.size+1) scope.names []) (bindC (envOfC qual scope s.heap.objs.size f cd).kindOf (ps.zip us) λ_=>none) s1):
  Inv (vW CX P w K mg base N qual scope f cd A outer s H E) [] (start N vs) H s1:=by
 have xw:ps.length<=N.length:=by have:=congrArg List.length S.pre;rw[GcZ] at this;lia
 obtain⟨h1,tk,rfl,hk⟩:=x.done;have noA:∀b:Addr,b∉(vW CX P w K mg base N qual scope f cd A outer s H E).ex:=λb z=>absurd (show b∈([]:List Addr) from z) (by simp);refine⟨⟨e0.mod,S.kind,rfl,rfl,Gap _,λy z c h1 h2=> ?_,λy hy=> ?_,λy c _ h=> ?_,λ_=>hd,Around.frames_deeper e0.frames,.inr ⟨rfl,rfl⟩,λb z=>absurd z (noA b),e0.bs,e0.bsz,λb _ _=>noA b,λb z=>absurd z (noA b),e0.pJ,e0.frf⟩,
  rfl,e0.bare,Un.kept hk,⟨_,x.toInCall.ns,λi y v h1 h2 h3=> ?_⟩,λy c h=> ⟨_,x.cell y c h⟩,e0.hok.fresh (Gap _),λy c h=> ?_,λp hp=>absurd (show p∈([]:List (Addr×Obj)) from hp) (by simp),e0.hok.kept hk, ?_⟩
 .exact name_of_addr x.apart (PySem.mem_of_lookup h1) (PySem.mem_of_lookup h2)
 .have hy:scope.names.lookup y=some .cell\/scope.names.lookup y=some .free:=hy;rcases hy with hy|hy
  .exact vX hy
  .exact absurd rfl (S.Nl _ (PySem.mem_of_lookup hy))
 .exact GcS (x.above y c (PySem.mem_of_lookup h))
 .have hi:i<vs.length:=by
   unfold start at h2;by_cases hi:i<vs.length
   .exact hi
   .rw[GaK (by simpa using hi)] at h2;rw[GcC] at h2;split at h2<;>cases h2
  have ha:vs[i]? =some v:=by
   unfold start at h2;rw[GaQ (by simpa using hi),Gam] at h2;cases e:vs[i]? with
   |none=>rw[e] at h2;cases h2
   |some a=>rw[e] at h2;cases h2;rfl
  obtain⟨u,hu,rv⟩:=r.get ha;have hp:ps[i]? =some y:=by
   rw[<-S.pre,Gcv (by lia)];exact h1
  have ndP:ps.Nodup:=by rw[<-S.pre];exact S.nd.sublist (List.take_sublist _ _)
  refine⟨u,rv, ?_⟩;rcases S.par y (GaD hp) with k|k
  .exact .inl ⟨k,sP ndP hp hu k⟩
  .obtain⟨c,e⟩:=vX (n:=s.heap.objs.size+1) k;refine .inr ⟨.inl k,c,e, ?_⟩;have q:=x.cell y c e;rw[sQ ndP hp hu (by show scope.names.lookup y≠_;rw[k];decide)] at q;exact q
 .exact e0.hok.fresh (GcS (x.above y c (PySem.mem_of_lookup h)))
 .unfold start;show _=N.length;rw[Gah,Gad,GdH];lia
theorem O3{CX:CXT}{K:PySem.W.Frag}{k:Nat}{name:Str}{params:Arguments}{body:List Stmt}{dV kV doc pm xa ct oc:Value}{an od:Option Addr}
  {yV:Array (Option Value)}{sp:Sp}(lk:K.lookup f=some ⟨oc,od,.func (PySem.W.fnOf name qual params body scope dV kV doc pm an xa ct),yV⟩)(xu:PySem.W.codeIn K xa qual=true)(S:j4 N ps scope)
  (len:∀vs H Q E,sp vs H Q E->vs.length=ps.length)
  (xQ:∀(A:Around) (outer:List Env) (s:Shared) (H:Hp) (vs:List V) (Q:VK) (E:XK),gk k (A.deeper (envOfC qual scope s.heap.objs.size f xa))->sp vs H Q E->
   ∃t,PSs (vW CX P w K mg base N qual scope f xa A outer s H E) body t/\t {nx:=λ_ H' =>Q .non H',rt:=Q} (start N vs) H):
  mj P w K mg base CX (k+1) f (PySem.W.fnOf name qual params body scope dV kV doc pm an xa ct) ps sp:=by
 refine⟨len,λA outer s H args us vs Q E hr e0 hb r yJ=> ?_⟩;have hl:=len _ _ _ _ yJ;have KX:K.In s.heap:=e0.mod.kin.keeps λb o e=>(e0.bs b o e).1;have lim:s.heap.NoLimit:=e0.mod.nolimit.keeps λb o e=>(e0.bs b o e).1;have hkind:∀y∈ps.zip us,scope.names.lookup y.1=some .local\/(scope.names.lookup y.1=some .cell/\((cellsFrom (s.heap.objs.size+1) scope.names []).lookup y.1).isSome=true):=λ⟨n,v⟩ hy=>by
  rcases S.par n (List.of_mem_zip hy).1 with q|q
  .exact .inl q
  .exact .inr ⟨q,PySem.W.cellsFrom_some _ _ _ (.inl q)⟩
 refine codeAny_call_function hr.depth (KX _ _ lk) rfl S.co S.gen rfl (PySem.W.codeRec_of KX xu) (hb _ _ _ _ ?_);refine wpAny_newFunctionEnv_cells S.kind hkind λenv he s1 x=> ?_;subst he;refine⟨lim.keeps x.toInCall.keep,codeAny_func ?_⟩;obtain⟨t,ht,hq⟩:=xQ A outer s H vs Q E (hr.deeper _) yJ;have I:Inv (vW CX P w K mg base N qual scope f xa A outer s H E) [] (start N vs) H s1:=Er S hr.hd e0 hl r x;refine Gcg (ht [] s1 (start N vs) H _ I hq) (λfl s' hs=> ?_) λe s' hs=>hs;have fin:∀{Z' :St} {H' :Hp} {v:V} {u:Value},Inv (vW CX P w K mg base N qual scope f xa A outer s H E) [] Z' H' s' ->RelV v u->Q v H' ->CE outer P w H s Q u s' :=
  λ{Z' H' v u} J rv q=> ⟨v,H',J.os,J.bare,J.base,J.hok,rv,q⟩
 cases fl with
 |ret u=>
  obtain⟨v,Z',H',J,rv,q⟩:=hs;exact fin J rv q
 |next=>
  obtain⟨Z',H',J,q⟩:=hs;exact fin (v:=V.non) (u:=Value.none) J rfl q
 |brk=>
  obtain⟨_,_,_,q⟩:=hs;exact False.elim q
 |cont=>
  obtain⟨_,_,_,q⟩:=hs;exact False.elim q
section
variable{X:Cx}{x:Str}{p pos:Pos}{e:Expr}{es:List Expr}{t:TA}{id T:String}{r:List V->Hp->VK->Prop}
def tCB(r:List V->Hp->VK->Prop)(t:TA):TE:=λZ H Q=>t Z H λvs H1=>r vs H1 Q
theorem pP(hc:fq X (.builtin id) r)(hg:Gl X x)(hm:X.mg x=none)(hv:bootBuiltins x=some (.builtin id))(ha:PA X (e::es) t)(hn:x≠"__name__":=by decide)(yh:(x==("__debug__":Str))=false:=by decide)
  (he:starEach (e::es) X.env=(false,eval e X.env)::starEach es X.env:=by rfl)(xw:(backTo pos (starEach es X.env)).any (·.1)=false:=by rfl):PE X (.Call (.Name x p) (e::es) [] pos) (tCB r t):=by
 intro e8 s Z H Q I h;refine Gdk (ly I hg hm hv ?_ hn yh);exact PyProof.Rows.callWith_builtin1 (thn (ha pos e8 s Z H _ I h) λus s1 ⟨vs,H1,I1,r1,q1⟩=>hc e8 s1 Z H1 vs us Q I1 r1 q1) he xw
theorem sR(hc:fq X (.type T) r)(hg:Gl X x)(hm:X.mg x=none)(hv:bootBuiltins x=some (.type T))(ha:PA X (e::es) t)(hn:x≠"__name__":=by decide)(yh:(x==("__debug__":Str))=false:=by decide)
  (he:starEach (e::es) X.env=(false,eval e X.env)::starEach es X.env:=by rfl)(xw:(backTo pos (starEach es X.env)).any (·.1)=false:=by rfl):PE X (.Call (.Name x p) (e::es) [] pos) (tCB r t):=by
 intro e8 s Z H Q I h;refine Gdk (ly I hg hm hv ?_ hn yh);exact Gci (thn (ha pos e8 s Z H _ I h) λus s1 ⟨vs,H1,I1,r1,q1⟩=>hc e8 s1 Z H1 vs us Q I1 r1 q1) he xw
end
end L2
namespace HT
open PySem PyProof.Rows
noncomputable def lexLt:List Int->List Int->Bool
 |[],[]=>false
 |[],_::_=>true
 |_::_,[]=>false
 |x::xs,y::ys=>if x=y then lexLt xs ys else decide (x<y)
theorem Ba(x y:Int)(xs ys:List Int):lexLt (x::xs) (y::ys)=if x=y then lexLt xs ys else decide (x<y):=rfl
theorem rX:lexLt [] []=false:=rfl
theorem pQ(y:Int)(ys:List Int):lexLt [] (y::ys)=true:=rfl
theorem pR(x:Int)(xs:List Int):lexLt (x::xs) []=false:=rfl
theorem Gd(A:Around)(s:Shared)(a:Int)(t:Tok)(c:Int)(u:Tok):∃e,SeqAt.EqAt A s (.int a t) (.int c u) e/\(e=true↔a=c):=
 ⟨(a==c),SeqAt.EqAt.int_int a t c u,by simp⟩
theorem Ge(A:Around)(s:Shared)(a:Int)(t:Tok)(c:Int)(u:Tok)(prog:Program)(w:World)(E:Value->Shared->Prop)(Q:Value->Shared->Prop)(h:Q (.bool (decide (a<c))) s):
  wpAny (model prog w) A (richCompare .Lt (.int a t) (.int c u)) Q E s:=
 (PyProof.Rows.lt_int h:wpAny (model prog w) A (compareOp .Lt (.int a t) (.int c u)) Q E s)
section
open PySem.SeqAt
open PySem.AutoSeq1 (wpAny_loadPart')
open PySem.MeetsSeq PySem.MeetsSeq2 PySem.MeetsSeq3
theorem rY(l b:Addr)(items eY:Array Value)(n n2:Nat)(dd yQ:Option Addr)(sl yH:Array (Option Value))(ns ms:List Int)(hi:IntsAre items.toList ns)(hj:IntsAre eY.toList ms):
  Meets (Builtin.«tuple.__lt__» ⟨[.ref l,.ref b],[]⟩)
   (λ_ R s=>s.heap.get? l=some {cls:= .type "tuple",dict:=dd,data:= .seq items n,slots:=sl}/\s.heap.get? b=some {cls:= .type "tuple",dict:=yQ,data:= .seq eY n2,slots:=yH}/\
    R (.ok (.ret (.bool (lexLt ns ms)))) s):=
 .of_wp λprog w A R s h=>by
  obtain⟨hp,g,d,tk,os⟩:=s;obtain⟨hl,hb,h⟩:=h
  have f2:=AutoSeq1.sub_tuple_tuple;have z1:items.size=ns.length:=by rw[<-hi.length];simp
  have z2:eY.size=ms.length:=by rw[<-hj.length];simp
  wp_walk using wpAny_loadPart' hl,wpAny_loadPart' hb,wpAny_forIn_list _ (λrest b s' =>b.1=none/\s' =⟨hp,g,d,tk,os⟩/\∃(vs ws:List Value) (zv xH :List Int),rest=vs.zip ws/\
   IntsAre vs zv /\IntsAre ws xH /\zv.length+eY.size=xH.length+items.size/\R (.ok (.ret (.bool (lexLt zv xH)))) ⟨hp,g,d,tk,os⟩) _
  case turn=>
   rintro⟨y,x⟩ rest b s' ⟨xI,rfl,vs,ws,zv,xH,hz,RS,Ri,eK,hR⟩;cases RS with
   |nil=>rw[List.zip_nil_left] at hz;cases hz
   |cons a t RQ =>
    cases Ri with
    |nil=>rw[List.zip_nil_right] at hz;cases hz
    |cons c u RO =>
     rw[List.zip_cons_cons] at hz;injection hz with hyx zK
     injection hyx with hy hx
     subst hy hx;rw[Ba] at hR;simp only[GaE] at eK;obtain⟨e,he,zQ⟩:=Gd A.in1 ⟨hp,g,d,tk,os⟩ a t c u;refine Gaa (he prog w _ _ ?_);cases e with
     |true=>
      rw[Gaj (zQ.mp rfl)] at hR
      wp_walk
      exact⟨rfl,rfl,_,_,_,_,zK,RQ,RO,by lia,hR⟩
     |false=>
      rw[Gai (λq=>absurd (zQ.mpr q) Gat)] at hR;have hri:=Ge A.in1 ⟨hp,g,d,tk,os⟩ a t c u prog w
      wp_walk using hri
      exact⟨_,rfl,by simpa using hR⟩
  case fin=>
   rintro⟨b1,b2⟩ s' ⟨xI,rfl,vs,ws,zv,xH,hz,RS,Ri,eK,hR⟩;simp only at xI;subst xI;have hv:lexLt zv xH =decide (items.size<eY.size):=by
    cases RS with
    |nil=>
     cases Ri with
     |nil=>
      simp only[GaU] at eK;rw[rX];exact(Gau (by lia)).symm
     |cons c u hw=>
      simp only[GaU,GaE] at eK;rw[pQ];exact(Gaz (by lia)).symm
    |cons a t hv=>
     cases Ri with
     |nil=>
      simp only[GaU,GaE] at eK;rw[pR];exact(Gau (by lia)).symm
     |cons c u hw=>
      rw[List.zip_cons_cons] at hz;cases hz
   rw[hv] at hR
   wp_walk
   exact⟨_,rfl,by simpa[Builtin.Tuple.tupleCompareSizes] using hR⟩
  case h=>
   exact⟨rfl,rfl,items.toList,eY.toList,ns,ms,rfl,hi,hj,by lia,h⟩
end
section
variable{prog:Program}{w:World}{A:Around}{E:Value->Shared->Prop}{s:Shared}
variable{items:Array Value}{b:Addr}
theorem Bb{l:Addr}{eY:Array Value}{ns ms:List Int}{Q:Value->Shared->Prop}(hl:IsTup s.heap l items)(hb:IsTup s.heap b eY)(hi:IntsAre items.toList ns)(hj:IntsAre eY.toList ms)
  (hu:A.units<cLine)(h:Q (.bool (lexLt ns ms)) s):wpAny (model prog w) A (compareOp .Lt (.ref l) (.ref b)) Q E s:=by
 obtain⟨⟨cls,dd,data,sl⟩,ho,hc,n,hd⟩:=id hl;obtain⟨⟨zY,yQ,data2,yH⟩,xS,yE,n2,hd2⟩:=id hb;simp only at hc hd yE hd2;subst hc hd yE hd2;exact richCompare_meets_room (op:= .Lt) ⟨_,ho,rfl⟩ ⟨_,xS,rfl⟩ PySem.F.slot_tuple_lt PySem.F.entry_tuple_lt (PySem.F.args_tuple_lt_2 _ _) (rY l b items eY n n2 dd yQ sl yH ns ms hi hj)
  ⟨ho,xS,show Value.bool (lexLt ns ms)≠Value.notImplemented/\Q (.bool (lexLt ns ms)) s from⟨(λx=>nomatch x),h⟩⟩ hu
theorem Jh{t:Addr}{vs ws:List Value}{Q:Value->Shared->Prop}(ht:IsTup s.heap t vs.toArray)(hb:IsTup s.heap b ws.toArray)(hv:vs≠[])
  (h1:ws=[]->Q (.ref t) s)(h2:ws≠[]->Q (.ref s.heap.objs.size) {s with heap:=s.heap.push {cls:= .type "tuple",data:= .seq (vs++ws).toArray}})
  (hsz:vs.length+ws.length<=sizeLine):wpAny (model prog w) A (binaryOp .Add (.ref t) (.ref b)) Q E s:=by
 obtain⟨⟨cls,dd,data,sl⟩,ho,hc,n,hd⟩:=id ht;obtain⟨⟨zY,yQ,data2,yH⟩,xS,yE,n2,hd2⟩:=id hb;simp only at hc hd yE hd2;subst hc hd yE hd2;have e:vs.toArray++ws.toArray=(vs++ws).toArray:=by simp
 by_cases hw:ws=[]
 .exact concat_meets ⟨_,ho,rfl⟩ ⟨_,xS,rfl⟩ noFill_tuple_add seq_tuple_add Gdw Gdr (Gdl _ _)
   (tuple_addW1 t b vs.toArray ws.toArray n n2 dd yQ sl yH (by simpa using hv) (by simp[hw])) ⟨ho,xS,h1 hw⟩
 .refine concat_meets ⟨_,ho,rfl⟩ ⟨_,xS,rfl⟩ noFill_tuple_add seq_tuple_add Gdw Gdr (Gdl _ _)
   (tuple_addW2 t b vs.toArray ws.toArray n n2 dd yQ sl yH (by simpa using hv) (by simpa using hw) (by rw[Gar,Gar];exact hsz)) ⟨ho,xS, ?_⟩
  rw[e];exact h2 hw
noncomputable def sIx(n d:Nat):Option Int->Nat
 |none=>d
 |some v=>if v<0 then(v+(n:Int)).toNat else min v.toNat n
theorem LJ(n d:Nat)(hd:d<=n)(o:Option Int):sIx n d o<=n:=by
 cases o with
 |none=>exact hd
 |some v=>
  show(if v<0 then(v+(n:Int)).toNat else min v.toNat n)<=n;by_cases hv:v<0
  .rw[Gaj hv];lia
  .rw[Gai hv];exact Nat.min_le_right _ _
theorem CM(v:Int)(n d:Nat):(if v<0 then max (v+(n:Int)) 0 else min v (n:Int))=((sIx n d (some v):Nat):Int):=by
 show(if v<0 then max (v+(n:Int)) 0 else min v (n:Int))=(((if v<0 then(v+(n:Int)).toNat else min v.toNat n):Nat):Int);by_cases hv:v<0
 .simp only[Gaj hv];lia
 .simp only[Gai hv];lia
theorem Bc(lo hi:Option Int)(n:Nat):Builtin.Slice.sliceAdjust lo hi 1 (n:Int)=(((sIx n 0 lo:Nat):Int),((sIx n n hi:Nat):Int)):=by
 have h1:¬((1:Int)<0):=by lia
 unfold Builtin.Slice.sliceAdjust;simp only[h1,GbR];refine Prod.ext ?_ ?_
 .cases lo with
  |none=>rfl
  |some v=>exact CM v n 0
 .cases hi with
  |none=>rfl
  |some v=>exact CM v n n
theorem Bd(i j:Nat):Builtin.Slice.slicePlaces (i:Int) (j:Int) 1=j -i:=by
 unfold Builtin.Slice.slicePlaces;have h1:(1:Int)>0:=by lia
 simp only[h1,Gca,Int.ediv_one];split<;>lia
theorem pS{v:Value}{o:Option Int}{Q:Option Int->Shared->Prop}(p:IsPart v o)(h:Q o s):wpAny (model prog w) A (Builtin.Slice.slicePartIndex v) Q E s:=by
 cases p with
 |none=>exact slicePart_none h
 |int i t=>exact slicePart_int h
variable{lo hi:Option Int}{vl vu:Value}{sl:Addr}
theorem nI{n:Nat}{Q:Int×Int×Nat->Shared->Prop}(hs:s.heap.IsSliceOf sl vl vu .none)(pl:IsPart vl lo)(pu:IsPart vu hi)
  (h:Q (((sIx n 0 lo:Nat):Int),1,sIx n n hi -sIx n 0 lo) s):wpAny (model prog w) A (Builtin.Slice.sliceApplied (.ref sl) (pure (n:Int))) Q E s:=by
 obtain⟨os,ye,T3,xr⟩:=id hs;unfold Builtin.Slice.sliceApplied Builtin.Slice.sliceFields;refine Gaa (Gaa (wpAny_field ye xr (x:=vl) rfl (Gaa (wpAny_field ye xr (x:=vu) rfl (Gaa (wpAny_field ye xr (x:= .none) rfl (Gac ?_)))))));refine Gaa (slicePart_none ?_);show wpAny _ _ (if((1:Int)==0)=true then _ else _) _ _ s;rw[Gai (by decide)];refine Gaa (pS pl (Gaa (pS pu (Gaa (Gac ?_)))));show wpAny _ _ (match Builtin.Slice.sliceAdjust lo hi 1 (n:Int) with|(lo,hi)=>pure (lo,(1:Int),Builtin.Slice.slicePlaces lo hi 1)) _ _ s;rw[Bc lo hi n];show wpAny _ _ (pure (((sIx n 0 lo:Nat):Int),(1:Int),Builtin.Slice.slicePlaces ((sIx n 0 lo:Nat):Int) ((sIx n n hi:Nat):Int) 1)) _ _ s;rw[Bd];exact Gac h
theorem Gf(xs:Array Value)(i k:Nat):((List.range k).filterMap λ(m:Nat)=>xs[((i:Int)+(m:Int)*1).toNat]?).toArray=((xs.toList.drop i).take k).toArray:=by
 have e:(λ(m:Nat)=>xs[((i:Int)+(m:Int)*1).toNat]?)=λm=>xs[i+m]? :=by
  funext m
  have:((i:Int)+(m:Int)*1).toNat=i+m:=by lia
  rw[this]
 rw[e];have:=pick_run xs i k;rw[List.filterMap_map] at this;have e2:((λx=>xs[x]?)∘λx=>i+x)=λm=>xs[i+m]? :=rfl;rw[e2] at this;rw[this]
theorem mn{t:Addr}{Q:Value->Shared->Prop}(ht:IsTup s.heap t items)(hs:s.heap.IsSliceOf sl vl vu .none)(pl:IsPart vl lo)(pu:IsPart vu hi)
  (hw:¬(sIx items.size 0 lo=0/\sIx items.size items.size hi=items.size))
  (h:Q (.ref s.heap.objs.size) {s with heap:=s.heap.push {cls:= .type "tuple",data:= .seq ((items.toList.drop (sIx items.size 0 lo)).take (sIx items.size items.size hi -sIx items.size 0 lo)).toArray}})
  (hsz:items.size<=sizeLine):wpAny (model prog w) A (getItem (.ref t) (.ref sl)) Q E s:=by
 have htake:sizeOk (.seq ((items.toList.drop (sIx items.size 0 lo)).take (sIx items.size items.size hi -sIx items.size 0 lo)).toArray):=by
  show((items.toList.drop (sIx items.size 0 lo)).take (sIx items.size items.size hi -sIx items.size 0 lo)).toArray.size<=sizeLine;rw[Gar,GcZ,Gcc,GaO];lia
 have hj:sIx items.size items.size hi<=items.size:=LJ _ _ (Gap _) hi;obtain⟨os,ye,T3,xr⟩:=id hs;have hTs:s.TypeIs (.ref sl) "slice":=⟨os,ye,T3⟩
 unfold getItem
 try with_reducible refine GbK ?_
 first|refine Gaa (Gac ?_)|skip
 refine Gaa (wpAny_sequenceKey ht.typeIs (by decide) ?_);refine Gaa (Gbt (name:=Str.ofString "__getitem__") ht.typeIs GcB
  (Gbb GcB ht.typeIs entry_tuple_getitem ?_ (args_tuple_getitem _ _)))
 show wpAny _ _ (Builtin.Tuple.tupleItemsOf (.ref t)>>=_) _ _ s;refine Gaa (tupleItemsOf_ ht ?_);refine Gaa (GdM hTs ?_);rw[Gaj (by decide)];refine Gaa (nI hs pl pu ?_);have hno:¬((((sIx items.size 0 lo:Nat):Int)==0&&(1:Int)==1&&(sIx items.size items.size hi -sIx items.size 0 lo)==items.size)=true):=by
  intro q;rw[Gas,Gas] at q;have q1:((sIx items.size 0 lo:Nat):Int)=0:=eq_of_beq q.1.1;have q2:sIx items.size items.size hi -sIx items.size 0 lo=items.size:=eq_of_beq q.2;exact hw ⟨by lia,by lia⟩
 show wpAny _ _ (if(((sIx items.size 0 lo:Nat):Int)==0&&(1:Int)==1&&(sIx items.size items.size hi -sIx items.size 0 lo)==items.size)=true then _ else _) _ _ s;rw[Gai hno,Gf]
 first
  |exact Gaa (m:=Builtin.Tuple.tupleExact _) (Gbd (Gac ⟨_,rfl,Gac h⟩) htake)
  |exact Gaa (m:=Builtin.Tuple.tupleExact _) (Gbd (Gaa (Gac (Gac ⟨_,rfl,Gac h⟩))) htake)
  |exact Gaa (Gaa (m:=Builtin.Tuple.tupleExact _) (Gbd (Gac (Gac ⟨_,rfl,Gac h⟩)) htake))
  |exact Gaa (Gaa (m:=Builtin.Tuple.tupleExact _) (Gbd (Gac ⟨_,rfl,Gac h⟩) htake))
end
end HT
namespace L2
open PySem PySem.Spec PyProof.Rows
abbrev TO:=St->Hp->(Option Int->Hp->Prop)->Prop
def PO(X:Cx)(e:Option Expr)(t:TO):Prop:=
 ∀(e8:List (Addr×Obj)) (s:Shared) (Z:St) (H:Hp) (Q:Option Int->Hp->Prop),Inv X e8 Z H s->t Z H Q->
  wpAny (model X.prog X.w) X.A (evalPart e X.env) (λu s' =>∃o H',Inv X e8 Z H' s' /\IsPart u o/\Q o H') X.xe s
def Ji:TO:=λ_ H Q=>Q none H
def O4(t:TE):TO:=λZ H Q=>t Z H λx H1=>∃i,x= .int i/\Q (some i) H1
theorem intsAre_of{ns:List Int}:∀{us:List Value},Vals (ns.map V.int) us->IntsAre us ns:=by
 induction ns with
 |nil=>intro us r;rw[GdN] at r;cases r;exact .nil
 |cons n ns ih=>
  intro us r;rw[Gay] at r;cases r with
  |cons r1 r2=>
   obtain⟨t,e⟩:=r1;subst e;exact .cons n t (ih r2)
section
variable{X:Cx}{e:Expr}{te:TE}{lo hi:Option Expr}{tl th:TO}{pos p2:Pos}
theorem Jj:PO X none Ji:=by
 intro e8 s Z H Q I h;rw[evalPart_none];exact Gac ⟨none,H,I,.none,h⟩
theorem Jk(h:PE X e te):PO X (some e) (O4 te):=by
 intro e8 s Z H Q I hw;rw[evalPart_some];refine thn (h e8 s Z H _ I hw) λu s1 ⟨x,H1,I1,r1,q1⟩=> ?_;obtain⟨i,rfl,q⟩:=q1;obtain⟨t,rfl⟩:=r1;exact⟨some i,H1,I1,.int i t,q⟩
def SlR(X:Cx)(r:V->Option Int->Option Int->Hp->VK->Prop):Prop:=
 ∀(e8:List (Addr×Obj)) (s:Shared) (Z:St) (H:Hp) (x:V) (v vl vu:Value) (lo hi:Option Int) (sl:Addr) (Q:VK),Inv X e8 Z H s->RelV x v->s.heap.IsSliceOf sl vl vu .none->IsPart vl lo->IsPart vu hi->r x lo hi H Q->
  ∃T id,typeLookup (.type T) "__getitem__"=pure (some (.builtin id))/\s.TypeIs v T/\wpAny (model X.prog X.w) X.A (getItem v (.ref sl)) (EP X e8 Z Q) X.xe s
theorem SlR.or{r r' :V->Option Int->Option Int->Hp->VK->Prop}(h:SlR X r)(h' :SlR X r'):SlR X (λx lo hi H Q=>r x lo hi H Q\/r' x lo hi H Q):=by
 intro e8 s Z H x v vl vu lo hi sl Q I rx hs pl pu q;rcases q with q|q
 .exact h e8 s Z H x v vl vu lo hi sl Q I rx hs pl pu q
 .exact h' e8 s Z H x v vl vu lo hi sl Q I rx hs pl pu q
def tSl(r:V->Option Int->Option Int->Hp->VK->Prop)(te:TE)(tl th:TO):TE:=λZ H Q=>te Z H λx H1=>tl Z H1 λl H2=>th Z H2 λu H3=>r x l u H3 Q
theorem Gg{r:V->Option Int->Option Int->Hp->VK->Prop}(hr:SlR X r)(he:PE X e te)(hl:PO X lo tl)(hu:PO X hi th):PE X (.Subscript e (.Slice lo hi none p2) pos) (tSl r te tl th):=by
 intro e8 s Z H Q I h;refine Subscript_ (thn (he e8 s Z H _ I h) λv s1 ⟨x,H1,I1,r1,q1⟩=> ?_);refine wpAny_Slice (thn (hl e8 s1 Z H1 _ I1 q1) λvl s2 ⟨l,H2,I2,pl,q2⟩=>thn (hu e8 s2 Z H2 _ I2 q2) λvu s3 ⟨u,H3,I3,pu,q3⟩=> ?_);rw[evalPart_none];refine Gac ?_;have I4:Inv X e8 Z H3 {s3 with heap:=s3.heap.push {cls:= .type "slice",data:= .fields #[vl,vu,.none]}}:=I3.kept (t' :=s3.toks) λb ob q=>Gaf _ q;obtain⟨T,id,hT,ht,hg⟩:=hr e8 {s3 with heap:=s3.heap.push {cls:= .type "slice",data:= .fields #[vl,vu,.none]}} Z H3 x v vl vu l u s3.heap.objs.size Q I4 r1 (Heap.IsSliceOf.new ..) pl pu q3;show wpAny (model X.prog X.w) X.A (subscriptTail e (.Slice lo hi none p2) v (.ref s3.heap.objs.size)) (EP X e8 Z Q) X.xe {s3 with heap:=s3.heap.push {cls:= .type "slice",data:= .fields #[vl,vu,.none]}};exact tail_any (ops:=[.ref s3.heap.objs.size,v]) ht hT hg (by with_unfolding_all rfl)
noncomputable def vY(xs:List V)(lo hi:Option Int):List V:=(xs.drop (HT.sIx xs.length 0 lo)).take (HT.sIx xs.length xs.length hi -HT.sIx xs.length 0 lo)
theorem oC(xs:List V)(lo hi:Option Int):(vY xs lo hi).length<=xs.length:=by
 unfold vY;rw[GcZ,Gcc];lia
def QB(K:PySem.W.Frag):V->Option Int->Option Int->Hp->VK->Prop:=λx lo hi H Q=>∃a xs,x= .ref a/\SqT K H a xs/\
 ¬(HT.sIx xs.length 0 lo=0/\HT.sIx xs.length xs.length hi=xs.length)/\∀p,H p=none->Q (.ref p) (upd H p (.tup (vY xs lo hi)))
theorem LK:SlR X (QB X.K):=by
 intro e8 s Z H x v vl vu lo hi sl Q I rx hs pl pu h;obtain⟨a,xs,rfl,hx,hw,q⟩:=h;cases rx;obtain⟨its,r,ht,hz⟩:=I.tuple hx;have eK:its.toArray.size=xs.length:=by rw[Gar];exact r.length.symm
 refine⟨"tuple",_,GcB.lookup,ht.typeIs, ?_⟩;refine HT.mn ht hs pl pu (by rw[eK];exact hw) ?_ (by rw[eK];exact hz);rw[eK];refine⟨.ref s.heap.objs.size,_,I.laid (t' :=s.toks) (o:= .tup (vY xs lo hi)) (λb ob q=>Gaf _ q) (Gap _) ?_,rfl,q _ (I.hok.fresh (Gap _))⟩;exact⟨Gbo (oC xs lo hi) hz,_,(r.drop (HT.sIx xs.length 0 lo)).take (HT.sIx xs.length xs.length hi -HT.sIx xs.length 0 lo),IsTup.new _ _⟩
def O5(K:PySem.W.Frag):R2:=λx y H Q=>∃a b ns ms,x= .ref a/\y= .ref b/\SqT K H a (ns.map V.int)/\SqT K H b (ms.map V.int)/\Q (.bl (HT.lexLt ns ms)) H
theorem LL(hu:X.A.units<cLine):OpR X (compareOp .Lt) (O5 X.K):=by
 intro e8 s Z H x y v u Q I rx ry h;obtain⟨a,b,ns,ms,rfl,rfl,ha,hb,q⟩:=h;cases rx;cases ry;obtain⟨its,r1,p1,_⟩:=I.tuple ha;obtain⟨eO,r2,p2,_⟩:=I.tuple hb;have i1:IntsAre its.toArray.toList ns:=intsAre_of r1;have i2:IntsAre eO.toArray.toList ms:=intsAre_of r2;exact HT.Bb p1 p2 i1 i2 hu ⟨.bl (HT.lexLt ns ms),H,I,rfl,q⟩
def L6(K:PySem.W.Frag):R2:=λx y H Q=>∃a b xs ys,x= .ref a/\y= .ref b/\SqT K H a xs/\SqT K H b ys/\xs≠[]/\xs.length+ys.length<=sizeLine/\
 (ys=[]->Q (.ref a) H)/\(ys≠[]->∀p,H p=none->Q (.ref p) (upd H p (.tup (xs++ys))))
theorem Vals.cf{xs:List V}{us:List Value}(r:Vals xs us):us=[]↔xs=[]:=by
 cases r with
 |nil=>simp
 |cons _ _=>simp
theorem Jl:OpR X (binaryOp .Add) (L6 X.K):=by
 intro e8 s Z H x y v u Q I rx ry h;obtain⟨a,b,xs,ys,rfl,rfl,ha,hb,hx,hz,q1,q2⟩:=h;cases rx;cases ry;obtain⟨its,r1,p1,_⟩:=I.tuple ha;obtain⟨eO,r2,p2,_⟩:=I.tuple hb;refine HT.Jh p1 p2 (λz=>hx (r1.cf.mp z)) (λz=> ⟨.ref a,H,I,rfl,q1 (r2.cf.mp z)⟩) (λz=> ?_) (by rw[<-r1.length,<-r2.length];exact hz);refine⟨.ref s.heap.objs.size,_,I.laid (t' :=s.toks) (o:= .tup (xs++ys)) (λb ob q=>Gaf _ q) (Gap _) ?_,rfl,q2 (λw=>z (r2.cf.mpr w)) _ (I.hok.fresh (Gap _))⟩;exact⟨by rw[Gah];exact hz,_,r1.append r2,IsTup.new _ _⟩
end
noncomputable def ixN(n:Nat)(i:Int):Option Nat:=if 0<=i then(if i<n then some i.toNat else none) else if -(n:Int)<=i then some (i+n).toNat else none
noncomputable def atI{α:Type}(xs:List α)(i:Int):Option α:=(ixN xs.length i).bind λj=>xs[j]?
variable{i:Int}
theorem CN{n:Nat}{j:Nat}(h:ixN n i=some j):seqIndex? i n=some j/\j<n/\-(n:Int)<=i/\i<n:=by
 unfold ixN at h;by_cases h0:0<=i
 .rw[Gaj h0] at h;by_cases h1:i<n
  .rw[Gaj h1] at h;have e:i.toNat=j:=Option.some.inj h;exact⟨by rw[seqIndex_of h0 h1,e],by lia,by lia,h1⟩
  .rw[Gai h1] at h;cases h
 .rw[Gai h0] at h;by_cases h1: -(n:Int)<=i
  .rw[Gaj h1] at h;have e:(i+n).toNat=j:=Option.some.inj h;exact⟨by rw[seqIndex_neg (by lia) h1,e],by lia,h1,by lia⟩
  .rw[Gai h1] at h;cases h
theorem uw{α:Type}{xs:List α}{v:α}(h:atI xs i=some v):∃j,seqIndex? i xs.length=some j/\xs[j]? =some v/\j<xs.length/\-(xs.length:Int)<=i/\i<xs.length:=by
 unfold atI at h;cases e:ixN xs.length i with
 |none=>rw[e] at h;cases h
 |some j=>
  rw[e] at h;obtain⟨h1,h2,h3,h4⟩:=CN e;exact⟨j,h1,h,h2,h3,h4⟩
def CO(b:Expr):Prop:=∀o i,subscripted b false o i=operate [o,i] (getItem o i)
def IxR(X:Cx)(r:R2):Prop:=
 ∀(value slice:Expr) (e8:List (Addr×Obj)) (s:Shared) (Z:St) (H:Hp) (x y:V) (v u:Value) (Q:VK),Inv X e8 Z H s->RelV x v->RelV y u->r x y H Q->
  subscripted slice false v u=operate [v,u] (getItem v u)->wpAny (model X.prog X.w) X.A (subscriptTail value slice v u) (EP X e8 Z Q) X.xe s
def MtR(X:Cx)(id:String)(r:V->List V->Hp->VK->Prop):Prop:=
 ∀(e8:List (Addr×Obj)) (s:Shared) (Z:St) (H:Hp) (x:V) (xs:List V) (v:Value) (us:List Value) (Q:VK),Inv X e8 Z H s->RelV x v->Vals xs us->r x xs H Q->
  wpAny (model X.prog X.w) X.A (call (.builtin id) (v::us)) (EP X e8 Z Q) X.xe s
section
variable{X:Cx}{a b:Expr}{ta tb:TE}{pos:Pos}
theorem IxR.or{r r' :R2}(h:IxR X r)(h' :IxR X r'):IxR X (λx y H Q=>r x y H Q\/r' x y H Q):=by
 intro value slice e8 s Z H x y v u Q I rx ry q hs;rcases q with q|q
 .exact h value slice e8 s Z H x y v u Q I rx ry q hs
 .exact h' value slice e8 s Z H x y v u Q I rx ry q hs
theorem O6{r:R2}(hr:IxR X r)(ha:PE X a ta)(hb:PE X b tb)(hs:CO b):PE X (.Subscript a b pos) (tOp r ta tb):=by
 intro e8 s Z H Q I h;exact Subscript_ (Lx ha hb I h λv u s2 x y H2 I2 rx ry q=>hr a b e8 s2 Z H2 x y v u Q I2 rx ry q (hs _ _))
def O7(K:PySem.W.Frag):R2:=λx y H Q=>∃p xs i v,x= .ref p/\y= .int i/\SqL K H p xs/\atI xs i=some v/\Q v H
def O8(K:PySem.W.Frag):R2:=λx y H Q=>∃p xs i v,x= .ref p/\y= .int i/\SqT K H p xs/\atI xs i=some v/\Q v H
def O9:R2:=λx y H Q=>∃z i c,x= .str z/\y= .int i/\z.length<=sizeLine/\atI z.cps.toList i=some c/\Q (.str ⟨#[c]⟩) H
theorem Jm:IxR X (O7 X.K):=by
 intro value slice e8 s Z H x y v u Q I rx ry h hs;obtain⟨p,xs,i,z,rfl,rfl,hq,he,q⟩:=h;cases rx;obtain⟨t,rfl⟩:=ry;obtain⟨its,r,pl,hz⟩:=I.list hq;obtain⟨j,h1,h2,h3,h4,h5⟩:=uw he;obtain⟨w,ew,xB⟩:=r.get h2;have hl:=r.length;have hn:=pL;have fin:EP X e8 Z Q w s:=⟨z,H,I,xB,q⟩
 by_cases h0:0<=i
 .have hj:i.toNat=j:=by
   rw[seqIndex_of h0 h5] at h1;exact Option.some.inj h1
  exact item_listR pl.isList h0 (by lia) (by rw[hj];simpa using ew) fin hs
 .have hj:(i+(its.toArray.size:Int)).toNat=j:=by
   rw[seqIndex_neg (by lia) h4] at h1;rw[Gar,<-hl];exact Option.some.inj h1
  exact subscriptTail_builtinR (x:=w) pl.isList.typeIs slot_list_getitem.lookup
   (wpAny_getItem_list_neg (Q:=λr s' =>r=w/\EP X e8 Z Q r s') pl.isList (by lia) (by rw[Gar]<;>lia) (by lia) (by rw[hj];simpa using ew) ⟨rfl,fin⟩) hs
theorem LM:IxR X (O8 X.K):=by
 intro value slice e8 s Z H x y v u Q I rx ry h hs;obtain⟨p,xs,i,z,rfl,rfl,hq,he,q⟩:=h;cases rx;obtain⟨t,rfl⟩:=ry;obtain⟨its,r,pl,hz⟩:=I.tuple hq;obtain⟨j,h1,h2,h3,h4,h5⟩:=uw he;obtain⟨w,ew,xB⟩:=r.get h2;have hl:=r.length;have hn:=pL;have fin:EP X e8 Z Q w s:=⟨z,H,I,xB,q⟩
 exact subscriptTail_builtinR (x:=w) pl.typeIs slot_tuple_getitem.lookup
  (getItem_tuple (j:=j) (Q:=λr s' =>r=w/\EP X e8 Z Q r s') pl (by lia) (by lia) (by rw[Gar,<-hl];exact h1) (by simpa using ew) ⟨rfl,fin⟩) hs
theorem LN:IxR X O9:=by
 intro value slice e8 s Z H x y v u Q I rx ry h hs;obtain⟨z,i,c,rfl,rfl,hz,he,q⟩:=h;obtain⟨t,rfl⟩:=rx;obtain⟨t',rfl⟩:=ry;obtain⟨j,h1,h2,h3,h4,h5⟩:=uw he;have hl:z.cps.toList.length=z.length:=by simp[Str.length]
 rw[hl] at h1 h4 h5;have hn:=pL;exact tail_any (typeIs_str s z t) slot_str_getitem.lookup (getItem_str (c:=c) (by
  have e1:decide (i< -(2^63:Int))=false:=Gau (by lia);have e2:decide (i>=2^63)=false:=Gau (by lia);rw[e1,e2,Bool.or_false]) (by rw[h1];simpa using h2) ⟨.str ⟨#[c]⟩,H,I.tok _,⟨_,rfl⟩,q⟩) hs
def rIx(K:PySem.W.Frag):R2:=λx y H Q=>O7 K x y H Q\/O8 K x y H Q\/O9 x y H Q
theorem LO:IxR X (rIx X.K):=Jm.or (LM.or LN)
theorem Be(its:List Value)(n j:Nat)(u:Value):Obj.mapSeq (·.setIfInBounds j u) {cls:= .type "list",data:= .seq its.toArray n}={cls:= .type "list",data:= .seq (its.set j u).toArray n}:=by
 simp[Obj.mapSeq]
theorem Inv.lst{e8:List (Addr×Obj)}{Z:St}{H:Hp}{s:Shared}{p:Addr}{xs:List V}(I:Inv X e8 Z H s)(h:H p=some (.lst xs)):
  ∃(its:List Value) (n:Nat),Vals xs its/\s.heap.get? p=some {cls:= .type "list",data:= .seq its.toArray n}/\xs.length<=sizeLine:=by
 obtain⟨z,its,n,r,e⟩:=I.hok p _ h;exact⟨its,n,r,e,z⟩
variable{s:Shared}{H:Hp}{Z:St}{e8:List (Addr×Obj)}
theorem Inv.LP{p:Addr}{xs ys:List V}{its its' :List Value}{n n' :Nat}{f:Obj->Obj}(I:Inv X e8 Z H s)(h:H p=some (.lst xs))
  (ho:s.heap.get? p=some {cls:= .type "list",data:= .seq its.toArray n})(hf:f {cls:= .type "list",data:= .seq its.toArray n}={cls:= .type "list",data:= .seq its'.toArray n' })(r:Vals ys its')(hz:ys.length<=sizeLine)(t:Nat):
  Inv X e8 Z (upd H p (.lst ys)) {s with heap:=s.heap.update p f,toks:=t}:=by
 have e:(s.heap.update p f).get? p=some {cls:= .type "list",data:= .seq its'.toArray n' }:=by
  rw[GaX f ho (by rw[hf]<;>rfl),hf]
 refine I.write (x:=p) (e:=p) (by rw[h];trivial) (.inl rfl) (λb u hb q=>(GbO _ _ (Ne.symm hb)).trans q) ⟨_,e⟩ ?_;exact⟨hz,its',n',r,e⟩
def L7:V->V->V->Hp->(Hp->Prop)->Prop:=λo i v H Q=>∃p xs k j,o= .ref p/\i= .int k/\H p=some (.lst xs)/\ixN xs.length k=some j/\Q (upd H p (.lst (xs.set j v)))
theorem set_list:NP X L7:=by
 intro e8 s Z H o i v ov iv u Q I ro ri rv h;obtain⟨p,xs,k,j,rfl,rfl,hp,hj,q⟩:=h;cases ro;obtain⟨t,rfl⟩:=ri;obtain⟨its,n,r,ho,hz⟩:=I.lst hp;obtain⟨h1,h2,h3,h4⟩:=CN hj;have hl:=r.length;have hn:=pL;have I' :Inv X e8 Z (upd H p (.lst (xs.set j v))) {s with heap:=s.heap.update p (Obj.mapSeq (·.setIfInBounds j u))}:=
  I.LP hp ho (Be its n j u) (r.set rv j) (by rw[List.length_set];exact hz) s.toks
 by_cases h0:0<=k
 .have hk:k.toNat=j:=by
   rw[seqIndex_of h0 h4] at h1;exact Option.some.inj h1
  exact PySem.W.ki_setAt ho h0 (by lia) (by rw[Gar,<-hl];exact h4) (by rw[hk];exact⟨_,I',q⟩)
 .have hk:(k+(its.toArray.size:Int)).toNat=j:=by
   rw[seqIndex_neg (by lia) h3] at h1;rw[Gar,<-hl];exact Option.some.inj h1
  exact PySem.W.ki_setBack ho (by lia) (by rw[Gar,<-hl];exact h3) (by lia) (by rw[hk];exact⟨_,I',q⟩)
theorem ux(lo hi:Option Int)(n:Nat):(sliceBounds lo hi none n).1=((HT.sIx n 0 lo:Nat):Int)/\(sliceBounds lo hi none n).2.1=((HT.sIx n n hi:Nat):Int)/\(sliceBounds lo hi none n).2.2=1:=by
 refine⟨?_, ?_,rfl⟩
 .cases lo with
  |none=>simp[sliceBounds,HT.sIx]
  |some i=>
   simp only[sliceBounds,HT.sIx,Option.getD_none,show(1:Int)>0 by decide,Gca];by_cases h:i<0
   .simp only[h,Gca]<;>lia
   .simp only[h,GbR]<;>lia
 .cases hi with
  |none=>simp[sliceBounds,HT.sIx]
  |some i=>
   simp only[sliceBounds,HT.sIx,Option.getD_none,show(1:Int)>0 by decide,Gca];by_cases h:i<0
   .simp only[h,Gca]<;>lia
   .simp only[h,GbR]<;>lia
theorem rZ(its:List Value)(lo hi:Option Int):slicePick its.toArray lo hi none=((its.drop (HT.sIx its.length 0 lo)).take (HT.sIx its.length its.length hi -HT.sIx its.length 0 lo)).toArray:=by
 obtain⟨h1,h2,h3⟩:=ux lo hi its.toArray.size;unfold slicePick;rw[h1,h2,h3];simp only[sliceRange_one,pick_run,Gar]<;>rfl
def QC(K:PySem.W.Frag):V->Option Int->Option Int->Hp->VK->Prop:=λx lo hi H Q=>∃a xs,x= .ref a/\SqL K H a xs/\∀p,H p=none->Q (.ref p) (upd H p (.lst (vY xs lo hi)))
theorem Jn:SlR X (QC X.K):=by
 intro e8 s Z H x v vl vu lo hi sl Q I rx hs pl pu h;obtain⟨a,xs,rfl,hx,q⟩:=h;cases rx;obtain⟨its,r,ht,hz⟩:=I.list hx;have eK:=r.length;refine⟨"list",_,slot_list_getitem.lookup,ht.isList.typeIs, ?_⟩;refine wpAny_getItem_list_slice ht.isList hs pl pu .none (by simp) ?_ (by rw[Gar]<;>lia);rw[rZ,<-eK];refine⟨.ref s.heap.objs.size,_,I.laid (t' :=s.toks) (o:= .lst (vY xs lo hi)) (λb ob q=>Gaf _ q) (Gap _) ?_,rfl,q _ (I.hok.fresh (Gap _))⟩;exact⟨Gbo (oC xs lo hi) hz,_,0,(r.drop (HT.sIx xs.length 0 lo)).take (HT.sIx xs.length xs.length hi -HT.sIx xs.length 0 lo),Gaw _ rfl⟩
noncomputable def sS:V->Bool
 | .non=>true
 | .bl _=>true
 | .int _=>true
 | .str _=>true
 |_=>false
noncomputable def eqV:V->V->Bool
 | .non,.non=>true
 | .bl a,.bl b=>a==b
 | .bl a,.int b=>(if a then 1 else 0)==b
 | .int a,.bl b=>a==(if b then 1 else 0)
 | .int a,.int b=>a==b
 | .str a,.str b=>a==b
 |_,_=>false
variable{v:Value}{x:V}
theorem Gh{A:Around}{y:V}{u:Value}(ry:RelV y u)(rx:RelV x v)(fy:sS y=true)(fx:sS x=true):SeqAt.EqAt A s u v (eqV y x):=by
 cases y with
 |non=>
  cases ry;cases x with
  |non=>cases rx;exact SeqAt.EqAt.same _
  |bl b=>cases rx;exact SeqAt.EqAt.none_bool b
  |int b=>obtain⟨t,rfl⟩:=rx;exact SeqAt.EqAt.none_int b t
  |str b=>obtain⟨t,rfl⟩:=rx;exact SeqAt.EqAt.none_str b t
  |_=>exact absurd (show false=true from fx) Gat
 |bl a=>
  cases ry;cases x with
  |non=>cases rx;exact SeqAt.EqAt.bool_none a
  |bl b=>cases rx;exact SeqAt.EqAt.bool_bool a b
  |int b=>obtain⟨t,rfl⟩:=rx;exact SeqAt.EqAt.bool_int a b t
  |str b=>obtain⟨t,rfl⟩:=rx;exact SeqAt.EqAt.bool_str a b t
  |_=>exact absurd (show false=true from fx) Gat
 |int a=>
  obtain⟨t',rfl⟩:=ry;cases x with
  |non=>cases rx;exact SeqAt.EqAt.int_none a t'
  |bl b=>cases rx;exact SeqAt.EqAt.int_bool a t' b
  |int b=>obtain⟨t,rfl⟩:=rx;exact SeqAt.EqAt.int_int a t' b t
  |str b=>obtain⟨t,rfl⟩:=rx;exact SeqAt.EqAt.int_str a t' b t
  |_=>exact absurd (show false=true from fx) Gat
 |str a=>
  obtain⟨t',rfl⟩:=ry;cases x with
  |non=>cases rx;exact SeqAt.EqAt.str_none a t'
  |bl b=>cases rx;exact SeqAt.EqAt.str_bool a t' b
  |int b=>obtain⟨t,rfl⟩:=rx;exact SeqAt.EqAt.str_int a t' b t
  |str b=>obtain⟨t,rfl⟩:=rx;exact SeqAt.EqAt.str_str a t' b t
  |_=>exact absurd (show false=true from fx) Gat
 |_=>exact absurd (show false=true from fy) Gat
theorem fq.or{f:Value}{r r' :List V->Hp->VK->Prop}(h:fq X f r)(h' :fq X f r'):fq X f (λxs H Q=>r xs H Q\/r' xs H Q):=by
 intro e8 s Z H xs us Q I rs q;rcases q with q|q
 .exact h e8 s Z H xs us Q I rs q
 .exact h' e8 s Z H xs us Q I rs q
theorem i5:fq X (.type "tuple") (λxs H Q=>∃p ys,xs=[.ref p]/\((SqL X.K H p ys/\∀l,H l=none->Q (.ref l) (upd H l (.tup ys)))\/(SqT X.K H p ys/\Q (.ref p) H))):=by
 intro e8 s Z H xs us Q I r h;obtain⟨p,ys,rfl,h⟩:=h;obtain⟨u,rfl,rx⟩:=vals1 r;cases rx;rcases h with⟨hq,q⟩| ⟨hq,q⟩
 .obtain⟨its,r',pl,hz⟩:=I.list hq;have eK:=r'.length;refine call_tuple_list pl.isList (λh' kp=> ?_) (by simp only[Gar]<;>lia);have I1:Inv X e8 Z H {s with heap:=h' }:=I.kept (t' :=s.toks) kp;have I2:Inv X e8 Z (upd H h'.objs.size (.tup ys)) {s with heap:=h'.push {cls:= .type "tuple",data:= .seq its.toArray}}:=
   I1.laid (t' :=s.toks) (λb o e=>Gaf _ e) (Gap _) (show bQ X.prog X.w _ _ _ (.tup ys) from⟨hz,its,r',IsTup.new _ _⟩)
  exact⟨.ref h'.objs.size,_,I2,rfl,q _ (I1.hok.fresh (Gap _))⟩
 .obtain⟨its,r',pl,hz⟩:=I.tuple hq;exact call_tuple_same pl ⟨.ref p,H,I,rfl,q⟩
def tyV(K:PySem.W.Frag)(T:String)(x:V)(H:Hp):Prop:=match x with
 | .str _=>T="str"
 | .int _=>T="int"
 | .ref p=>(T="list"/\∃xs,SqL K H p xs)\/(T="tuple"/\∃o,K.lookup p=some o/\o.cls= .type "tuple"/\o.dict=none)\/
   (T="dict"/\((∃eC,H p=some (.dK eC))\/∃eC,H p=some (.dT eC)))\/(T="set"/\∃S n,H p=some (.set S n))
 |_=>False
theorem LQ{T:String}(I:Inv X e8 Z H s)(r:RelV x v)(ty:tyV X.K T x H):
  s.TypeIs v T/\∀a,v= .ref a->∃ob,s.heap.get? a=some ob/\ob.dict=none:=by
 cases x with
 |str z=>
  obtain⟨t,rfl⟩:=r;cases(show T="str" from ty);exact⟨typeIs_str s z t,λ_ e=>nomatch e⟩
 |int i=>
  obtain⟨t,rfl⟩:=r;cases(show T="int" from ty);exact⟨typeIs_int s i t,λ_ e=>nomatch e⟩
 |ref p=>
  cases r;rcases ty with⟨rfl,xs,hq⟩| ⟨rfl,o,hk,hc,hd⟩| ⟨rfl,hk⟩| ⟨rfl,S,n,hk⟩
  .obtain⟨its,_,pl,_⟩:=I.list hq;refine⟨pl.isList.typeIs,λa e=> ?_⟩;cases e;obtain⟨o,n,e,c,hd,_⟩:=pl;exact⟨o,e,hd⟩
  .refine⟨⟨o,I.kIn p o hk,hc⟩,λa e=> ?_⟩;cases e;exact⟨o,I.kIn _ o hk,hd⟩
  .have z:∃o,s.heap.get? p=some o/\o.ExactDict:=by
    rcases hk with⟨eC,hk⟩| ⟨eC,hk⟩
    .obtain⟨_,_,_,_,o,_,_,e,ex,_⟩:=I.hok p _ hk;exact⟨o,e,ex⟩
    .obtain⟨_,_,_,_,o,_,_,e,ex,_⟩:=I.hok p _ hk;exact⟨o,e,ex⟩
   obtain⟨o,e,ex⟩:=z;refine⟨⟨o,e,ex.1⟩,λa e2=> ?_⟩;cases e2;exact⟨o,e,ex.2.1⟩
  .obtain⟨o,_,_,_,e,ex,_⟩:=I.hok p _ hk;refine⟨⟨o,e,ex.1⟩,λa e2=> ?_⟩;cases e2;exact⟨o,e,ex.2.1⟩
 |_=>exact False.elim ty
def tBM(K:PySem.W.Frag)(T:String)(r:V->List V->Hp->VK->Prop)(to:TE)(t:TA):TE:=λZ H Q=>to Z H λx H1=>tyV K T x H1/\t Z H1 λxs H2=>r x xs H2 Q
variable{o e:Expr}{es:List Expr}{to:TE}{t:TA}{name:Str}{apos eE:Pos}{T id:String}{r:V->List V->Hp->VK->Prop}
theorem CP(pa:PlainAttrs T)(slot:Slot T name id)(TR:typeOf (.builtin id)=pure (.type "method_descriptor"))(hm:MtR X id r)(ho:PE X o to)(ha:PA X (e::es) t)
  (eW:attributeBase o name X.env (eval o X.env)=eval o X.env:=by rfl)
  (xF:((backTo eE (starEach (e::es) X.env)).all (λx=> !x.1)&&(backToKw eE (keywordEach [] X.env)).all (λx=>x.1.isSome)
   &&decide ((e::es).length+([]:List Keyword).length+(if([]:List Keyword).isEmpty then 0 else 1)<30))=true:=by rfl)
  (eV:(apos.endLine==eE.line)=true:=by rfl)(hs:starEach (e::es) X.env=(false,eval e X.env)::starEach es X.env:=by rfl)(zd:(backTo eE (starEach es X.env)).any (·.1)=false:=by rfl):
  PE X (.Call (.Attribute o name apos) (e::es) [] eE) (tBM X.K T r to t):=by
 intro e8 s Z H Q I h;refine wpAny_Call_method_late eW xF eV rfl (thn (ho e8 s Z H _ I h) λv s1 ⟨x,H1,I1,r1,ty,q1⟩=> ?_);obtain⟨h1,h2⟩:=LQ I1 r1 ty;refine⟨T,id,pa,slot,TR,h1,h2, ?_⟩;have hA:=ha eE e8 s1 Z H1 _ I1 q1;rw[hs] at hA⊢;refine GcL (by show(false||(backTo eE (starEach es X.env)).any (·.1))=false;rw[zd]<;>rfl) (GdO ?_);exact thn hA λus s2 ⟨vs,H2,I2,r2,q2⟩=>hm e8 s2 Z H2 x vs v us Q I2 r1 r2 q2
end
def MtM(X:Cx)(id:String)(r:V->List V->Hp->VK->Prop):Prop:=
 ∀(e8:List (Addr×Obj)) (s:Shared) (Z:St) (H:Hp) (x:V) (xs:List V) (v:Value) (us:List Value) (Q:VK),Inv X e8 Z H s->RelV x v->Vals xs us->r x xs H Q->
  wpAny (model X.prog X.w) X.A (call (.builtin id) (v::us)) (EP X e8 Z Q) X.xe s
theorem Vals.one{x:V}{us:List Value}(p:Vals [x] us):∃u,us=[u]/\RelV x u:=by
 cases p with
 |cons r t=>cases t;exact⟨_,rfl,r⟩
section
variable{X:Cx}{e8:List (Addr×Obj)}{Z:St}{H:Hp}{s:Shared}{l b:Addr}{xs ys zs:List V}
variable{t' n:Nat}{its:List Value}
theorem Inv.LR{its' :List Value}{f:Array Value->Array Value}(I:Inv X e8 Z H s)(hH:H l=some (.lst xs))
  (e:s.heap.get? l=some {cls:= .type "list",data:= .seq its.toArray n})(hf:f its.toArray=its'.toArray)(hv:Vals ys its')(hz:ys.length<=sizeLine):
  Inv X e8 Z (upd H l (.lst ys)) {s with heap:=s.heap.update l (Obj.mapSeq f),toks:=t' }:=by
 have q:=PySem.IsL.update e f;rw[hf] at q;refine I.write (x:=l) (e:=l) (by rw[hH];exact trivial) (.inl rfl) (λb' u hb hu=>(GbO s.heap (Obj.mapSeq f) (Ne.symm hb)).trans hu) ⟨_,q⟩ ?_;exact⟨hz,its',_,hv,q⟩
theorem Inv.QD(I:Inv X e8 Z H s)(hv:Vals ys its)(hz:ys.length<=sizeLine):
  Inv X e8 Z (upd H s.heap.objs.size (.lst ys)) {s with heap:=s.heap.push {cls:= .type "list",data:= .seq its.toArray},toks:=t' }:=
 I.laid (λ_ _ q=>Gaf _ q) (Gap _) ⟨hz,its,0,hv,Gaw _ rfl⟩
theorem Inv.fresh(I:Inv X e8 Z H s):H s.heap.objs.size=none:=I.hok.fresh (Gap _)
theorem Inv.Jo(I:Inv X e8 Z H s)(hH:H l=some (.lst xs)):xs.length<=sizeLine/\∃(its:List Value) (n:Nat),Vals xs its/\xs.length=its.length/\s.heap.get? l=some {cls:= .type "list",data:= .seq its.toArray n}:=by
 obtain⟨z,its,n,r,e⟩:=I.hok l _ hH;exact⟨z,its,n,r,r.length,e⟩
theorem Gi(h:n<=sizeLine):Builtin.List.listTooLong n=false:=by
 unfold Builtin.List.listTooLong;exact Gau (by lia)
end
section
variable{X:Cx}
def CQ:V->List V->Hp->VK->Prop:=λx vs H Q=>∃l xs y,x= .ref l/\vs=[y]/\H l=some (.lst xs)/\xs.length<sizeLine/\Q .non (upd H l (.lst (xs++[y])))
theorem nJ:MtM X "list.append" CQ:=by
 intro e8 s Z H x vs v us Q I rx rv h;obtain⟨l,xs,y,rfl,rfl,hH,hz,q⟩:=h;cases rx;obtain⟨u,rfl,ru⟩:=rv.one;obtain⟨z,its,n,r,hl,e⟩:=I.Jo hH;refine call_meets F.slot_list_append ⟨_,e,rfl⟩ F.entry_list_append (F.args_list_append_2 _ _) (PySem.list_append l its.toArray n u (by rw[Gar];lia)) ⟨e, ?_⟩;refine⟨.non,_,I.LR (its' :=its++[u]) hH e (by simp) (r.append (.cons ru .nil)) ?_,rfl,q⟩;rw[Gah,GcT];lia
def Jp:V->List V->Hp->VK->Prop:=λx vs H Q=>∃l b xs zs,x= .ref l/\vs=[.ref b]/\H l=some (.lst xs)/\H b=some (.lst zs)/\xs.length+zs.length<=sizeLine/\Q .non (upd H l (.lst (xs++zs)))
theorem Es:MtM X "list.extend" Jp:=by
 intro e8 s Z H x vs v us Q I rx rv h;obtain⟨l,b,xs,zs,rfl,rfl,hH,hB,hz,q⟩:=h;cases rx;obtain⟨u,rfl,ru⟩:=rv.one;cases ru;obtain⟨z,its,n,r,hl,e⟩:=I.Jo hH;obtain⟨z2,eO,n2,r2,zP,e2⟩:=I.Jo hB;have hsz:its.toArray.size+eO.toArray.size<=sizeLine:=by rw[Gar,Gar];lia
 have hlong:¬(!its.toArray.isEmpty&&Builtin.List.listTooLong (its.toArray.size+eO.toArray.size))=true:=by
  rw[Gi hsz,Gct];exact Gat
 refine call_meets F.slot_list_extend ⟨_,e,rfl⟩ F.entry_list_extend (F.args_list_extend_2 _ _)
  (AutoSeq1.list_extend_list_list_0 l its.toArray n b eO.toArray n2 hlong (by rw[Gar];lia) (by lia)) ⟨e,e2, ?_⟩
 refine⟨.non,_,I.LR (its' :=its++eO) hH e (by simp) (r.append r2) ?_,rfl,q⟩;rw[Gah];lia
end
section
variable{Y:Type} [DecidableEq Y]
noncomputable def fF(eC:List (Y×V))(k:Y):Option V:=(eC.find? λkv=>decide (kv.1=k)).map (·.2)
noncomputable def putK(eC:List (Y×V))(k:Y)(v:V):List (Y×V):=
 if(eC.any λkv=>decide (kv.1=k))=true then eC.map (λkv=>if kv.1=k then(kv.1,v) else kv) else eC++[(k,v)]
theorem jA{p:Y×V}{r:List (Y×V)}{k:Y}(e:p.1=k):fF (p::r) k=some p.2:=by simp[fF,GbF,e]
theorem gn{p:Y×V}{r:List (Y×V)}{k:Y}(e:¬p.1=k):fF (p::r) k=fF r k:=by simp[fF,GbF,e]
theorem pT(k:Y):∀eC:List (Y×V),(eC.any λkv=>decide (kv.1=k))=(fF eC k).isSome
 |[]=>rfl
 |p::r=>by
  rw[GcF];by_cases e:p.1=k
  .simp only[jA e,Gaz e,Bool.true_or,Option.isSome_some]
  .rw[gn e,Gau e,Bool.false_or];exact pT k r
theorem jB(eC:List (Y×V))(k:Y)(v:V):(putK eC k v).length<=eC.length+1:=by
 unfold putK;split
 .rw[Gad];lia
 .rw[Gah,GaE,GaU];lia
theorem Gj{eC:List (Y×V)}{k:Y}(v:V)(h:fF eC k=none):putK eC k v=eC++[(k,v)]:=by
 unfold putK;rw[pT,h];exact Gai (by decide)
theorem nH.iD{o:Option V}{u:Option Value}(r:nH o u):o.isSome=u.isSome:=by
 cases o with
 |none=>cases u with
  |none=>rfl
  |some _=>exact(show False from r).elim
 |some _=>cases u with
  |none=>exact(show False from r).elim
  |some _=>rfl
theorem nH.getD{o:Option V}{u:Option Value}{d:V}{d' :Value}(r:nH o u)(rd:RelV d d'):RelV (o.getD d) (u.getD d'):=by
 cases o with
 |none=>cases u with
  |none=>exact rd
  |some _=>exact(show False from r).elim
 |some _=>cases u with
  |none=>exact(show False from r).elim
  |some _=>exact r
theorem KV.val{eC:List (Y×V)}{vs:List (Y×Value)}(r:KV eC vs)(k:Y):nH (fF eC k) (valueAt vs k):=by
 unfold KV at r;induction r with
 |nil=>exact True.intro
 | @cons p q ps qs h t ih=>
  obtain⟨h1,h2⟩:=h;by_cases e:p.1=k
  .have e' :q.1=k:=h1.symm.trans e;have b:valueAt (q::qs) k=some q.2:=by simp[valueAt,GbF,e']
   rw[jA e,b];exact h2
  .have e' :¬q.1=k:=λz=>e (h1.trans z);have b:valueAt (q::qs) k=valueAt qs k:=by simp[valueAt,GbF,e']
   rw[gn e,b];exact ih
theorem KV.any{eC:List (Y×V)}{vs:List (Y×Value)}(r:KV eC vs)(k:Y):(eC.any λkv=>decide (kv.1=k))=vs.any λkv=>decide (kv.1=k):=by
 unfold KV at r;induction r with
 |nil=>rfl
 |cons h t ih=>rw[GcF,GcF,ih,h.1]
variable{u:Value}{y:V}
theorem KV.LS{eC:List (Y×V)}{vs:List (Y×Value)}(r:KV eC vs)(k:Y)(ry:RelV y u):
  KV (eC.map λkv=>if kv.1=k then(kv.1,y) else kv) (vs.map λkv=>if kv.1=k then(kv.1,u) else kv):=by
 unfold KV at r⊢;induction r with
 |nil=>exact .nil
 | @cons p q ps qs h t ih=>
  rw[Gay,Gay];refine .cons ?_ ih;obtain⟨h1,h2⟩:=h;by_cases e:p.1=k
  .rw[Gaj e,Gaj (h1.symm.trans e)];exact⟨h1,ry⟩
  .rw[Gai e,Gai (λz=>e (h1.trans z))];exact⟨h1,h2⟩
theorem KV.put{eC:List (Y×V)}{vs:List (Y×Value)}(r:KV eC vs)(k:Y)(ry:RelV y u):KV (putK eC k y) (stored vs k u):=by
 unfold putK stored;rw[r.any k];by_cases e:(vs.any λkv=>decide (kv.1=k))=true
 .rw[Gaj e,Gaj e];exact r.LS k ry
 .rw[Gai e,Gai e];exact Paired.snoc r ⟨rfl,ry⟩
theorem KV.length{eC:List (Y×V)}{vs:List (Y×Value)}(r:KV eC vs):eC.length=vs.length:=Paired.length r
end
variable{u:Value}{w:World}{P:Program}
theorem sT{k:Key}(r:RelV (kV k) u):(br P w).is k u=true:=by
 cases k with
 |inl i=>obtain⟨t,e⟩:=(show∃t,u=Value.int i t from r);subst e;exact oA P w i t
 |inr x=>obtain⟨t,e⟩:=(show∃t,u=Value.str x t from r);subst e;exact oB P w x t
theorem sU{P:Program}{w:World}:∀{ks:List Key} {us:List Value},Vals (ks.map kV) us->ItemsAre (br P w) ks us
 |[],_,r=>by rw[GdN] at r;cases r;exact .nil
 |k::ks,_,r=>by
  rw[Gay] at r;cases r with
  |cons h t=>exact .cons (sT h) (sU t)
abbrev KT(H:Hp):List (List Key×V)->List (List Key×Addr×Value)->Prop:=Paired λp q=>p.1=q.1/\H q.2.1=some (.tup (p.1.map kV))/\RelV p.2 q.2.2
variable{xs:List (List Key×Addr×Value)}{eC:List (List Key×V)}{H:Hp}
theorem KT.val(r:KT H eC xs)(k:List Key):nH (fF eC k) ((atKey xs k).map (·.2)):=by
 induction r with
 |nil=>exact True.intro
 | @cons p q ps qs h t ih=>
  obtain⟨h1,_,h2⟩:=h;by_cases e:p.1=k
  .have e' :q.1=k:=h1.symm.trans e;have b:atKey (q::qs) k=some q.2:=by simp[atKey,GbF,e']
   rw[jA e,b];exact h2
  .have e' :¬q.1=k:=λz=>e (h1.trans z);have b:atKey (q::qs) k=atKey qs k:=by simp[atKey,GbF,e']
   rw[gn e,b];exact ih
variable{y:V}
theorem KT.LS(r:KT H eC xs)(k:List Key)(ry:RelV y u):
  KT H (eC.map λkv=>if kv.1=k then(kv.1,y) else kv) (xs.map (putAt k u)):=by
 induction r with
 |nil=>exact .nil
 | @cons p q ps qs h t ih=>
  rw[Gay,Gay];refine .cons ?_ ih;obtain⟨h1,h2,h3⟩:=h;unfold putAt;by_cases e:p.1=k
  .rw[Gaj e,Gaj (h1.symm.trans e)];exact⟨h1,h2,ry⟩
  .rw[Gai e,Gai (λz=>e (h1.trans z))];exact⟨h1,h2,h3⟩
variable{b:Addr}
theorem KT.put(r:KT H eC xs)(k:List Key)(hb:H b=some (.tup (k.map kV)))(ry:RelV y u):
  KT H (putK eC k y) (storedH xs k b u):=by
 have e:(eC.any λkv=>decide (kv.1=k))=(atKey xs k).isSome:=by
  rw[pT,(r.val k).iD,GdZ]
 unfold putK storedH;rw[e];by_cases q:(atKey xs k).isSome=true
 .rw[Gaj q,Gaj q];exact r.LS k ry
 .rw[Gai q,Gai q];exact Paired.snoc r ⟨rfl,hb,ry⟩
theorem KT.keeps{H' :Hp}(r:KT H eC xs)(ht:∀b ys,H b=some (.tup ys)->H' b=some (.tup ys)):KT H' eC xs:=
 Paired.J1 r λ_ _ z=> ⟨z.1,ht _ _ z.2.1,z.2.2⟩
section
variable{P:Program}{w:World}{H:Hp}{h:Heap}{a:Addr}
theorem L8{u:HO}(ok:HOk P w H h)(e:Rd H a u):bQ P w H h a u:=e.ok ok
variable{eC:List (Key×V)}
theorem oE(ok:HOk P w H h)(e:Rd H a (.dK eC)):eC.length<=sizeLine/\(a==sysModules)=false/\∃vs,KV eC vs/\h.DictOf (br P w) a vs:=
 show bQ P w H h a (.dK eC) from L8 ok e
theorem Oa(ok:HOk P w H h)(e:H a=some (.dK eC)):eC.length<=sizeLine/\(a==sysModules)=false/\∃vs,KV eC vs/\h.DictOf (br P w) a vs:=oE ok (.inl e)
theorem j5{ks:List Key}(ok:HOk P w H h)(e:H a=some (.tup (ks.map kV))):(tupleKind (br P w)).is h ks a:=by
 obtain⟨_,its,r,o,h1,h2,n,h3⟩:=(show bQ P w H h a (.tup (ks.map kV)) from ok a _ e)
 exact⟨o,its.toArray,n,h1,h2,h3,by simpa using sU r⟩
theorem pU{eC:List (List Key×V)}(ok:HOk P w H h)(e:Rd H a (.dT eC)):eC.length<=sizeLine/\(a==sysModules)=false/\
  ∃xs,KT H eC xs/\h.DictOfH (tupleKind (br P w)) a xs:=by
 obtain⟨z,y,xs,r,o,es,ep,h1,h2,h3,h4,h5⟩:=(show bQ P w H h a (.dT eC) from L8 ok e)
 refine⟨z,y,xs,r,o,es,ep,h1,h2,h3,h4,λx hx=> ?_,h5⟩;have all:∀{l:List (List Key×V)} {m:List (List Key×Addr×Value)},KT H l m->∀x∈m,(tupleKind (br P w)).is h x.1 x.2.1:=by
  intro l m q;induction q with
  |nil=>intro x hx;exact nomatch hx
  | @cons p q ps qs hq t ih=>
   intro x hx;rcases GaB.mp hx with e|hx
   .subst e;exact j5 ok (by rw[<-hq.1];exact hq.2.1)
   .exact ih x hx
 exact all r x hx
theorem Gk{eC:List (List Key×V)}(ok:HOk P w H h)(e:H a=some (.dT eC)):eC.length<=sizeLine/\(a==sysModules)=false/\
  ∃xs,KT H eC xs/\h.DictOfH (tupleKind (br P w)) a xs:=pU ok (.inl e)
end
def pV(H:Hp)(a:Addr)(y:V)(r:Option V):Prop:=
 (∃eC k,Rd H a (.dK eC)/\y=kV k/\r=fF eC k)\/∃eC k b,Rd H a (.dT eC)/\y= .ref b/\H b=some (.tup (k.map kV))/\r=fF eC k
def vZ(H:Hp)(a:Addr)(y v:V)(H' :Hp):Prop:=
 (∃eC k,H a=some (.dK eC)/\y=kV k/\eC.length<sizeLine/\H' =upd H a (.dK (putK eC k v)))\/
 ∃eC k b,H a=some (.dT eC)/\y= .ref b/\H b=some (.tup (k.map kV))/\eC.length<sizeLine/\H' =upd H a (.dT (putK eC k v))
theorem vZ.k{H:Hp}{a:Addr}{eC:List (Key×V)}{k:Key}{v:V}(e:H a=some (.dK eC))(hl:eC.length<sizeLine):vZ H a (kV k) v (upd H a (.dK (putK eC k v))):= .inl ⟨eC,k,e,rfl,hl,rfl⟩
variable{a:Addr}
theorem vZ.t{k:List Key}{v:V}(e:H a=some (.dT eC))(eb:H b=some (.tup (k.map kV)))(hl:eC.length<sizeLine):
  vZ H a (.ref b) v (upd H a (.dT (putK eC k v))):= .inr ⟨eC,k,b,e,rfl,eb,hl,rfl⟩
section
variable{X:Cx}{e8:List (Addr×Obj)}{Z:St}{H:Hp}{s:Shared}{a:Addr}{y v:V}{u r:Value}{o:Option V}{A:Around}{E:Value->Shared->Prop}
theorem Inv.big(I:Inv X e8 Z H s):sysModules<s.heap.objs.size:=by
 have h:mainGlobals<s.heap.objs.size:=(I.mod.glob.keeps I.bk).lt;exact Nat.lt_trans (by decide) h
theorem Et{Q:Value->Shared->Prop}(hu:A.units+1<cLine)(I:Inv X e8 Z H s)(g:pV H a y (some v))(ry:RelV y u)(h:∀w' s',Inv X e8 Z H s' ->RelV v w' ->Q w' s'):
  wpAny (model X.prog X.w) A (getItem (.ref a) u) Q E s:=by
 rcases g with⟨eC,k,e,ey,l⟩| ⟨eC,k,b,e,ey,eb,l⟩
 .subst ey;obtain⟨z,hd,vs,rel,dd⟩:=oE I.hok e;obtain⟨w',hw,xB⟩:=nH.some_of (v:=v) (o:=valueAt vs k) (by rw[l];exact rel.val k);exact wpAny_getItem_of (sT ry) dd.mapOf hw (h w' _ (I.tok _) xB)
 .subst ey;cases(show u=Value.ref b from ry);obtain⟨z,hd,xs,rel,dd⟩:=pU I.hok e;obtain⟨w',hw,xB⟩:=nH.some_of (v:=v) (o:=(atKey xs k).map (·.2)) (by rw[l];exact rel.val k);obtain⟨p,hp,yd⟩:=Gan.mp hw;refine wpAny_getItem_heap (Gcj hu) (j5 I.hok eb) dd hp ?_;rw[yd];exact h w' _ (I.tok _) xB
theorem QE{Q:Value->Shared->Prop}(hu:A.units+1<cLine)(I:Inv X e8 Z H s)(g:pV H a y o)(ry:RelV y u)(h:∀s',Inv X e8 Z H s' ->Q (.bool o.isSome) s'):
  wpAny (model X.prog X.w) A (compareOp .In u (.ref a)) Q E s:=by
 rcases g with⟨eC,k,e,ey,l⟩| ⟨eC,k,b,e,ey,eb,l⟩
 .subst ey;obtain⟨z,hd,vs,rel,dd⟩:=oE I.hok e;refine wpAny_in_of (sT ry) hd dd.mapOf ?_;rw[<-(rel.val k).iD,<-l];exact h _ (I.tok _)
 .subst ey;cases(show u=Value.ref b from ry);obtain⟨z,hd,xs,rel,dd⟩:=pU I.hok e;refine wpAny_in_heap (Gcj hu) (j5 I.hok eb) hd dd ?_;have q:=(rel.val k).iD;rw[GdZ] at q;rw[<-q,<-l];exact h _ (I.tok _)
theorem Jq{Q:Value->Shared->Prop}(hu:A.units+1<cLine)(I:Inv X e8 Z H s)(g:pV H a y o)(ry:RelV y u)(h:∀s',Inv X e8 Z H s' ->Q (.bool (!o.isSome)) s'):
  wpAny (model X.prog X.w) A (compareOp .NotIn u (.ref a)) Q E s:=by
 rcases g with⟨eC,k,e,ey,l⟩| ⟨eC,k,b,e,ey,eb,l⟩
 .subst ey;obtain⟨z,hd,vs,rel,dd⟩:=oE I.hok e;refine wpAny_notIn_of (sT ry) hd dd.mapOf ?_;rw[<-(rel.val k).iD,<-l];exact h _ (I.tok _)
 .subst ey;cases(show u=Value.ref b from ry);obtain⟨z,hd,xs,rel,dd⟩:=pU I.hok e;refine wpAny_notIn_heap (Gcj hu) (j5 I.hok eb) hd dd ?_;have q:=(rel.val k).iD;rw[GdZ] at q;rw[<-q,<-l];exact h _ (I.tok _)
variable{h' :Heap}
theorem pC{t' :Nat}{ob:HO}(I:Inv X e8 Z H s)(mu:Mut (H a))(hs:Heap.SameBut a s.heap h')(he:∃q,h'.get? a=some q)(new:bQ X.prog X.w (upd H a ob) h' a ob):
  Inv X e8 Z (upd H a ob) {s with heap:=h',toks:=t' }:=
 I.write (x:=a) (e:=a) mu (.inl rfl) (λb q hb z=>(hs.2 b hb).trans z) he new
variable{H' :Hp}
theorem LU{P:Program}{w:World}{eC:List (Key×V)}{vs:List (Key×Value)}(z:eC.length<=sizeLine)(hd:(a==sysModules)=false)(rel:KV eC vs)(dd:h'.DictOf (br P w) a vs):
  bQ P w H' h' a (.dK eC):=⟨z,hd,vs,rel,dd⟩
theorem Eu{Q:Unit->Shared->Prop}(hu:A.units+1<cLine)(I:Inv X e8 Z H s)(g:vZ H a y v H')(ry:RelV y u)(rv:RelV v r)(h:∀s',Inv X e8 Z H' s' ->Q () s'):
  wpAny (model X.prog X.w) A (setItem (.ref a) u r) Q E s:=by
 rcases g with⟨eC,k,e,ey,l,eH⟩| ⟨eC,k,b,e,ey,eb,l,eH⟩
 .subst ey eH;obtain⟨z,hd,vs,rel,dd⟩:=Oa I.hok e;have hz:vs.length<=sizeLine:=by rw[<-rel.length];exact z
  have hl:(putK eC k v).length<=sizeLine:=by have:=jB eC k v;lia
  refine wpAny_setItem_pairs (hsz:=hz) (sT ry) dd λh' zB hs=>h _ ?_;have he:∃q,h'.get? a=some q:=let⟨q,_,_,hq,_⟩:=zB;⟨q,hq⟩
  exact pC I (by rw[e];exact True.intro) hs he (LU hl hd (rel.put k rv) zB)
 .subst ey eH;cases(show u=Value.ref b from ry);obtain⟨z,hd,xs,rel,dd⟩:=Gk I.hok e;have hz:xs.length<=sizeLine:=by rw[<-Paired.length rel];exact z
  have hl:(putK eC k v).length<=sizeLine:=by have:=jB eC k v;lia
  refine wpAny_setItem_heap (hsz:=hz) (Gcj hu) (j5 I.hok eb) dd λh' zB hs=>h _ ?_;obtain⟨q,es,ep,hq,h2,h3,h4,_,h5⟩:=zB;refine pC I (by rw[e];exact True.intro) hs ⟨q,hq⟩ ⟨hl,hd,_,(rel.put k eb rv).keeps λc ys ec=> ?_,q,es,ep,hq,h2,h3,h4,h5⟩;rw[ag (CG ec e (λz=>nomatch z))];exact ec
end
section
variable{X:Cx}{e8:List (Addr×Obj)}{Z:St}{H:Hp}{s:Shared}{a:Addr}{eC:List (Key×V)}{k:Key}{u:Value}{A:Around}{E:Value->Shared->Prop}
theorem Ob{Q:Value->Shared->Prop}(I:Inv X e8 Z H s)(e:Rd H a (.dK eC))(h:∀t s',Inv X e8 Z H s' ->Q (.int eC.length t) s'):wpAny (model X.prog X.w) A (call (.builtin "len") [.ref a]) Q E s:=by
 obtain⟨z,hd,vs,rel,dd⟩:=oE I.hok e;refine call_len_dict hd dd (by rw[<-rel.length];rw[Gbw] at z;lia) ?_;rw[<-rel.length];exact h _ _ (I.tok _)
end
variable{s:Shared}{Z:St}{e8:List (Addr×Obj)}{X:Cx}
theorem w5{o:Option V}(I:Inv X e8 Z H s)(g:pV H a y o):s.TypeIs (.ref a) "dict":=by
 rcases g with⟨eC,k,e,_,_⟩| ⟨eC,k,b,e,_,_,_⟩
 .obtain⟨_,_,vs,_,dd⟩:=oE I.hok e;exact dd.typeIs
 .obtain⟨_,_,xs,_,dd⟩:=pU I.hok e;exact dd.typeIs
theorem Gm(h:Heap)(hb:sysModules<h.objs.size):bQ P w H (h.push {cls:= .type "dict",data:= .dict #[]}) h.objs.size (.dT []):=
 ⟨Gba _,beq_eq_false_iff_ne.mpr (Ne.symm (GaJ hb)),[],.nil,_,#[],0,Gaw _ rfl,⟨rfl,rfl,rfl⟩,rfl,rfl,List.nodup_nil⟩
def LV:TE:=λ_ H Q=>∀p,H p=none->Q (.ref p) (upd H p (.dT []))
section
variable{X:Cx}{pos:Pos}
theorem w6:PE X (.Dict [] [] pos) LV:=λe8 s Z H Q I h=>
 wpAny_Dict_empty ⟨.ref s.heap.objs.size,_,I.laid (a:=s.heap.objs.size) (o:= .dT []) (t' :=s.toks) (λ_ _ q=>Gaf _ q) (Gap _) (Gm s.heap I.big),rfl,h _ (I.hok.fresh (Gap _))⟩
end
structure M2(X:Cx)(o:Expr)(m:Str)(apos:Pos)(e f:Expr)(eE:Pos):Prop where
 base:attributeBase o m X.env (eval o X.env)=eval o X.env
 few:((backTo eE (starEach [e,f] X.env)).all (λx=> !x.1)&&(backToKw eE (keywordEach [] X.env)).all (λx=>x.1.isSome)
  &&decide (([e,f]:List Expr).length+([]:List Keyword).length+(if([]:List Keyword).isEmpty then 0 else 1)<30))=true
 line:(apos.endLine==eE.line)=true
 trees:backTo eE (starEach [e,f] X.env)=[(false,eval e X.env),(false,eval f X.env)]
def IsD(H:Hp)(a:Addr):Prop:=(∃eC,Rd H a (.dK eC))\/∃eC,Rd H a (.dT eC)
theorem Bf(I:Inv X e8 Z H s)(d:IsD H a):
  s.TypeIs (.ref a) "dict"/\(∀b,Value.ref a= .ref b->∃ob,s.heap.get? b=some ob/\ob.dict=none)/\(a==sysModules)=false:=by
 rcases d with⟨eC,e⟩| ⟨eC,e⟩
 .obtain⟨_,hd,vs,_,dd⟩:=oE I.hok e;refine⟨dd.typeIs,λb q=> ?_,hd⟩;cases q;obtain⟨ob,_,_,h1,h2,_⟩:=dd;exact⟨ob,h1,h2.2.1⟩
 .obtain⟨_,hd,xs,_,dd⟩:=pU I.hok e;refine⟨dd.typeIs,λb q=> ?_,hd⟩;cases q;obtain⟨ob,_,_,h1,h2,_⟩:=dd;exact⟨ob,h1,h2.2.1⟩
section
variable{X:Cx}{e8:List (Addr×Obj)}{Z:St}{H:Hp}{s:Shared}{a:Addr}{y d:V}{u r:Value}{o:Option V}{A:Around}{E:Value->Shared->Prop}
theorem LX{Q:Value->Shared->Prop}(hu:A.units+1<cLine)(I:Inv X e8 Z H s)(g:pV H a y o)(ry:RelV y u)(rd:RelV d r)(h:∀w' s',Inv X e8 Z H s' ->RelV (o.getD d) w' ->Q w' s'):
  wpAny (model X.prog X.w) A (call (.builtin "dict.get") [.ref a,u,r]) Q E s:=by
 rcases g with⟨eC,k,e,ey,l⟩| ⟨eC,k,b,e,ey,eb,l⟩
 .subst ey;obtain⟨z,hd,vs,rel,dd⟩:=oE I.hok e;refine call_meetsIn GdI dd.typeIs PySem.F.entry_dict_get (PySem.F.args_dict_get_3 _ _ _) (meets_dict_get_default (br X.prog X.w) a (sT ry) hd r) ⟨_,dd.mapOf,h _ _ (I.tok _) ?_⟩;rw[l];exact(rel.val k).getD rd
 .subst ey;cases(show u=Value.ref b from ry);obtain⟨z,hd,xs,rel,dd⟩:=pU I.hok e;refine call_meetsIn GdI dd.typeIs PySem.F.entry_dict_get (PySem.F.args_dict_get_3 _ _ _) (meetsH_dict_get_default (tupleKind (br X.prog X.w)) a b hd r) ⟨Gcj hu,k,xs,j5 I.hok eb,dd,h _ _ (I.tok _) ?_⟩;rw[l];exact(rel.val k).getD rd
end
def LY(td ty tx:TE):TE:=λZ H Q=>td Z H λx H1=>∃a,x= .ref a/\IsD H1 a/\ty Z H1 λy H2=>tx Z H2 λz H3=>∃o,pV H3 a y o/\Q (o.getD z) H3
section
variable{X:Cx}{o e f:Expr}{apos eE:Pos}{td ty tx:TE}
theorem Gn(hu:X.A.units+1<cLine)(ho:PE X o td)(he:PE X e ty)(hf:PE X f tx)(m:M2 X o "get" apos e f eE):PE X (.Call (.Attribute o "get" apos) [e,f] [] eE) (LY td ty tx):=by
 intro e8 s Z H Q I h;refine wpAny_Call_method m.base m.few m.line Gds GdI PySem.F.type_dict_get (thn (ho e8 s Z H _ I h) λu s1 ⟨x,H1,I1,rx,a,ex,d,q1⟩=> ?_);subst ex;obtain rfl:u=Value.ref a:=rx;obtain⟨t1,t2,_⟩:=Bf I1 d;refine⟨t1,t2, ?_⟩;rw[m.trees];refine GcL rfl (GdO (GcG (thn (he e8 s1 Z H1 _ I1 q1) λiv s2 ⟨y,H2,I2,ry,q2⟩=>
  GcG (thn (hf e8 s2 Z H2 _ I2 q2) λfv s3 ⟨z,H3,I3,rz,ov,g,q3⟩=>Calls.spliced_nil ?_))))
 exact LX hu I3 g ry rz λw' s4 I4 xB => ⟨_,H3,I4,xB,q3⟩
end
end L2
namespace Att
open PySem PySem.W PySem.Calls PyProof.Rows
variable{h:Heap}{P:Params}
theorem oX:∀(ns:List Int) (vs:List Value),WellAll P h vs (ns.map WData.int)->IntsAre vs ns:=by
 intro ns;induction ns with
 |nil=>
  intro vs w;rw[GdN] at w;cases w;exact .nil
 |cons n ns ih=>
  intro vs w;rw[Gay] at w;cases w with
  |cons a b=>
   cases a;exact .cons _ _ (ih _ b)
variable{n:Nat}
theorem Ew{l:OpenLaw}(hn:l.most=some n){args:List WData}{vals:List Value}
  (yC:l.row.toRowW.claim.pre args=true)(RN:WellAll P h vals args):
  ∃a vs ns,vals=[Value.ref a]/\args=[WData.list (ns.map WData.int)]/\h.get? a=some {cls:= .type "list",data:= .seq vs.toArray}/\IntsAre vs ns/\ns.length<=n:=by
 have hsh:WShape.hasAll [] args [.list .int]=true:=(pre_splitW yC).1;have hc:l.pre.holds [] {args:=args}=true:=(pre_splitW yC).2;obtain⟨d,r,rfl,h1,h2⟩:=hasAllW_cons hsh;obtain rfl:=hasAllW_nil h2;obtain⟨xs,rfl,h3⟩:=hasW_list h1;obtain⟨ns,rfl⟩:=items_int h3;have eK:ns.length<=n:=by
  unfold OpenLaw.pre at hc;have h4:(WTm.not (.lt (.lit (.int (n:Int))) (.len (.arg 0)))).holds [] {args:=[.list (ns.map .int)]}=true:=by
   have h4:=(holds_andW hc).1;rw[hn] at h4;exact h4
  have h5:=condW_of h4 (w_not (w_lt w_lit (w_len_list (w_arg rfl))));rw[Gad] at h5;refine Nat.le_of_not_lt λq=> ?_;have q' :(n:Int)<((ns.length:Nat):Int):=by lia
  first
   |(rw[Gaz q'] at h5;exact absurd h5 (by decide))
   |(simp at h5;lia)
 cases RN with
 |cons w1 w2=>
  cases w2;cases w1 with
  |list ho yF=>exact⟨_,_,ns,rfl,rfl,ho,oX ns _ yF,eK⟩
theorem Ex(l:OpenLaw)(args:List WData):l.row.toRowW.claim.post args (.bool true) args=true:=
 postW_of (r:=l.row.toRowW) (X:=(true==true))
  (show WShape.has [] (.bool true) .bool=true by first|rfl|decide|simp[WShape.has,WShape.arms,WShape.armsAll])
  (show(WTm.eq .res (.lit (.bool true))).value [] {args:=args,res:=some (.bool true),after:=args}=some (.bool (true==true)) from w_eq_bool (w_res rfl) w_lit) rfl
theorem w8{l:OpenLaw}{q:Program}{loose:List Str}{XP:(Str->Option Value)->Heap->Prop}{YP:World->Heap->Prop}{d:DefRec}
  (hn:l.most=some n)(zU:d.params.defaults=[])
  (call:∀(w:World) (s₀ s₁:Shared) (mg mb:Str->Option Value) (fa:Addr) (o:Obj) (pm cd doc:Value) (a:Addr) (vs:List Value) (ns:List Int),
   Ground q loose [] XP w s₀ mg mb s₁.heap->YP w s₁.heap->
   s₁.heap.get? fa=some o->o.data= .func (docDef d.name d.params d.body d.scope pm cd doc)->s₁.heap.CodeRec cd d.name->mg d.name=some (.ref fa)->
   s₁.heap.get? a=some {cls:= .type "list",data:= .seq vs.toArray}->IntsAre vs ns->ns.length<=n->s₁.gens=#[]->
   codeAny (model l.prog w) callerA (.call (.ref fa) ⟨[.ref a],[]⟩) (λr s' =>r= .ok (.ret (.bool true))/\OldK s₁.heap s'.heap/\s'.os=s₁.os/\AllBare s'.gens) s₁):
  WalkO q loose XP YP l.row.toRowW d [] (λf vs=>PySem.call f vs):=by
 intro w s₀ s₁ mg mb G Y fa o pm cd doc dV kV ho hd xu hD zN hg args vals as yC hlay hrd RN S8;obtain rfl:dV= .none:=Dflts.none hD zU;obtain rfl:kV= .none:=Dflts.noKw hD;obtain⟨a,vs,ns,rfl,rfl,zf,hints,eK⟩:=Ew hn yC RN;refine enter_call (codeAny_mono (call w s₀ s₁ mg mb fa o pm cd doc a vs ns G Y ho (fd_plain hd) xu zN zf hints eK hg) λr s' hq=> ?_);obtain⟨rfl,h2,h3,h4⟩:=hq;exact⟨.inl ⟨.bool true,.bool true,[],rfl,λ_=>rfl,.bool true,Ex l _,λ_=> ⟨List.Pairwise.nil,λ_ hm=>(nomatch hm)⟩⟩,h2,h3,h4⟩
end Att
namespace L2
open PySem PySem.Spec PyProof.Rows
variable{ns:List Int}{vs:List Value}
theorem nK(p:IntsAre vs ns):Vals (ns.map V.int) vs:=by
 induction p with
 |nil=>exact .nil
 |cons n t h ih=>exact .cons ⟨t,rfl⟩ ih
def Jr(H:Hp):Prop:=∀b,H b=none\/∃o xs,H b=some (.frz o (.lst xs))
theorem Gp{P:Program}{w:World}{K:PySem.W.Frag}{mg mb:Str->Option Value}{CX:CXT}{k:Nat}{fa a:Addr}{fd:FuncData}{x:Str}{sp:Sp}{s₁:Shared}
  (KX:K.In s₁.heap)(zx:s₁.heap.Ns mainGlobals mg)(hb:s₁.heap.Ns builtinsNs mb)(Sg:∀x:Str,x≠"__name__"->mb x=bootBuiltins x)(S9:s₁.heap.NoLimit)(hg:s₁.gens=#[])
  (ha:s₁.heap.get? a=some {cls:= .type "list",data:= .seq vs.toArray})(hi:IntsAre vs ns)(hl:ns.length<=sizeLine)(hr:gk k callerA)
  (F:∀base:Heap,K.In base->base.Ns mainGlobals mg->mj P w K mg base CX k fa fd [x] sp)(zW:∀(s:Shared) (u:Value),BindsTo s fd ⟨[u],[]⟩ [(x,u)])
  (yJ:∀H:Hp,Jr H->SqL K H a (ns.map V.int)->sp [.ref a] H (λv _=>v= .bl true) λ_ _ _=>False)
  (Sj:∀H e s',CX [] H s₁ (λ_ _ _=>False) e s' ->False):
  codeAny (model P w) callerA (.call (.ref fa) ⟨[.ref a],[]⟩) (λr s' =>r= .ok (.ret (.bool true))/\OldK s₁.heap s'.heap/\s'.os=s₁.os/\AllBare s'.gens) s₁:=by
 have rv:=nK hi;have lenV:=hi.length;have core:∀H:Hp,Jr H->SqL K H a (ns.map V.int)->HOk P w H s₁.heap->(∀b,H b≠none->b=a)->(H a≠none->K.lookup a=none)->
   codeAny (model P w) callerA (.call (.ref fa) ⟨[.ref a],[]⟩) (λr s' =>r= .ok (.ret (.bool true))/\OldK s₁.heap s'.heap/\s'.os=s₁.os/\AllBare s'.gens) s₁:=by
  intro H hO hS hok hA hK;have base_of:∀{b:Addr} {o:Obj},s₁.heap.get? b=some o->H b=none->(ur s₁.heap H).get? b=some o:=λe n=>FY e n;have noA:∀{b:Addr} {o:Obj} {es:Array DictEntry} {ep:Nat},s₁.heap.get? b=some o->o.data= .dict es ep->H b=none:=λ{b o es ep} e d=>by
   cases q:H b with
   |none=>rfl
   |some u=>
    have e' :b=a:=hA b (by rw[q];simp);subst e';rw[ha] at e;cases e
    have d' :Data.seq vs.toArray _=Data.dict es ep:=d;cases d'
  have nsK:∀{b:Addr} {m:Str->Option Value},s₁.heap.Ns b m->(ur s₁.heap H).Ns b m:=λ{b m} ⟨o,es,ep,e,d,r⟩=> ⟨o,es,ep,base_of e (noA e d),d,r⟩;have T6:K.In (ur s₁.heap H):=λb o e=>base_of (KX b o e) (by
   cases q:H b with
   |none=>rfl
   |some u=>
    have e' :b=a:=hA b (by rw[q];simp);subst e';rw[hK (by rw[q];simp)] at e;cases e)
  have hM:Mod K mg (ur s₁.heap H):=⟨T6,nsK zx,⟨mb,nsK hb,Sg⟩,let⟨mc,h1,h2⟩:=S9;⟨mc,nsK h1,h2⟩⟩
  have e0:Jf P w K mg (ur s₁.heap H) callerA [] s₁ H:=⟨rfl,hM,λb o e=>J3 e,Nat.le_of_eq (Ef _ _),trivial,λb hb=>absurd (show b∈([]:List Addr) from hb) (by simp),hok,.of_eq hg⟩
  refine codeAny_mono ((F _ T6 (nsK zx)).run callerA [] s₁ H ⟨[.ref a],[]⟩ [.ref a] [.ref a] _ _ hr e0 (zW s₁ (.ref a)) (.cons rfl .nil) (yJ H hO hS)) λr s' h=> ?_;cases r with
  |error e=>exact(Sj H e s' h).elim
  |ok fl=>
   cases fl with
   |next=>exact False.elim h
   |brk=>exact False.elim h
   |cont=>exact False.elim h
   |ret u=>
    obtain⟨v,H',os,bare,un,xP,r',q⟩:=h;have q' :v= .bl true:=q;subst q';obtain rfl:u=Value.bool true:=r';refine⟨rfl,OldK.of_keep λb o e=> ?_,os,bare⟩;cases q:H b with
    |none=>exact un.keep b o e q (by intro z;exact absurd (show b∈([]:List Addr) from z) (by simp)) (by simp)
    |some u=>
     rcases hO b with z| ⟨ob,xs,z⟩
     .rw[q] at z;cases z
     .have z2:=un.rV b ob _ z;obtain⟨e1,_⟩:=hok b _ z;obtain⟨e2,_⟩:=xP b _ z2;rw[e] at e1;cases e1
      exact e2
 cases hk:K.lookup a with
 |some o=>
  have e:=KX a o hk;rw[ha] at e;cases e;refine core (λ_=>none) (λ_=> .inl rfl) (.inr ⟨_,vs.toArray,_,hk,rfl,rfl,rfl,by rw[Gar,lenV];exact hl,by simpa using rv⟩) (λb u z=>by have z' :(none:Option HO)=some u:=z;cases z') (λb z=>absurd rfl z) λz=>absurd rfl z
 |none=>
  refine core (λb=>if b=a then some (.frz {cls:= .type "list",data:= .seq vs.toArray} (.lst (ns.map V.int))) else none) (λb=> ?_) (.inl (.inr ⟨{cls:= .type "list",data:= .seq vs.toArray},Gaj rfl⟩)) (λb u z=> ?_) (λb z=> ?_) λ_=>hk
  .by_cases hb:b=a
   .exact .inr ⟨_,_,Gaj hb⟩
   .exact .inl (Gai hb)
  .by_cases hb:b=a
   .have z' :=(Gaj hb).symm.trans z;cases z';subst hb;exact⟨ha,by rw[Gad];exact hl,vs,_,rv,ha⟩
   .have z' :=(Gai hb).symm.trans z;cases z'
  .by_cases hb:b=a
   .exact hb
   .exact absurd (Gai hb) z
theorem Js{l:PySem.W.OpenLaw}{n k:Nat}{q:Program}{loose:List Str}{XP:(Str->Option Value)->Heap->Prop}{YP:World->Heap->Prop}{d:DefRec}{K:Params->PySem.W.Frag}{CX:World->CXT}{sp:World->Sp}{x:Str}
  (hn:l.most=some n)(S7:n<=sizeLine)(zU:d.params.defaults=[])(hr:gk k callerA)
  (hY:∀(w:World) (h:Heap),YP w h->(K w.params).In h)
  (F:∀(w:World) (mg:Str->Option Value) (fa:Addr) (h:Heap),(K w.params).In h->h.Ns mainGlobals mg->mg d.name=some (.ref fa)->
   ∃fd:FuncData,(∀(s:Shared) (u:Value),BindsTo s fd ⟨[u],[]⟩ [(x,u)])/\
    ∀base:Heap,(K w.params).In base->base.Ns mainGlobals mg->mj l.prog w (K w.params) mg base (CX w) k fa fd [x] (sp w))
  (yJ:∀(w:World) (H:Hp) (a:Addr) (ns:List Int),ns.length<=n->Jr H->SqL (K w.params) H a (ns.map V.int)->sp w [.ref a] H (λv _=>v= .bl true) λ_ _ _=>False)
  (Sj:∀(w:World) (H:Hp) (s:Shared) (e:Value) (s' :Shared),CX w [] H s (λ_ _ _=>False) e s' ->False):
  PySem.W.WalkO q loose XP YP l.row.toRowW d [] (λf vs=>PySem.call f vs):=by
 refine Att.w8 hn zU λw s₀ s₁ mg mb fa o pm cd doc a vs ns G Y ho hd xu zN zf hints eK hg=> ?_;have KX:=hY w _ Y;obtain⟨fd,hb,hF⟩:=F w mg fa _ KX G.T.g zN;exact Gp KX G.T.g G.T.b G.T.builtins G.T.nolimit hg zf hints (Gbo eK S7) hr hF hb (λH hO hS=>yJ w H a ns eK hO hS) λH e s' =>Sj w H s₁ e s'
noncomputable def ko(s:Stmt):Arguments:=match s with
 | .FunctionDef _ a _ _ _ _ _ _ _ _=>a
 |_=>{posonlyargs:=[],args:=[],vararg:=none,kwonlyargs:=[],kw_defaults:=[],kwarg:=none,defaults:=[]}
noncomputable def fR(s:Stmt):List Stmt:=match s with
 | .FunctionDef _ _ b _ _ _ _ _ _ _=>b
 |_=>[]
noncomputable def bu(s:Stmt):Scope:=match s with
 | .FunctionDef _ _ _ _ _ _ sc _ _ _=>sc
 |_=>{kind:= .function,names:=[],isGenerator:=false,isCoroutine:=false}
noncomputable abbrev CX0:CXT:=λ_ _ _ _ _ _=>False
noncomputable abbrev E0:XK:=λ_ _ _=>False
theorem Oc{X:Cx}:Passes CX0 X E0:=λ_ _ _ _ _ _ _ h=>h.elim
structure Fun(K:PySem.W.Frag)(x qual:Str)(st:Stmt)(f:Addr)(fd:FuncData):Prop where
 ex:∃(oc:Value) (od:Option Addr) (kV doc pm:Value) (an:Option Addr) (xa ct:Value) (yV:Array (Option Value)),
  fd=PySem.W.fnOf x qual (ko st) (fR st) (bu st) .none kV doc pm an xa ct/\K.lookup f=some ⟨oc,od,.func fd,yV⟩/\PySem.W.codeIn K xa qual=true
 kp:PySem.W.keepIn K (.ref f)=true
section
variable{P:Program}{w:World}{K:PySem.W.Frag}{mg:Str->Option Value}{base:Heap}
variable{f:Addr}{st:Stmt}{x qual:Str}
theorem Fun.ok{fd:FuncData}{N ps:List Str}{k:Nat}{sp:Sp}(F:Fun K x qual st f fd)(S:j4 N ps (bu st))(len:∀vs H Q E,sp vs H Q E->vs.length=ps.length)
  (xQ:∀(xa:Value) (A:Around) (outer:List Env) (s:Shared) (H:Hp) (vs:List V) (Q:VK) (E:XK),gk k (A.deeper (envOfC qual (bu st) s.heap.objs.size f xa))->sp vs H Q E->
   ∃t,PSs (vW CX0 P w K mg base N qual (bu st) f xa A outer s H E).nox (fR st) t/\t {nx:=λ_ H' =>Q .non H',rt:=Q} (start N vs) H):mj P w K mg base CX0 (k+1) f fd ps sp:=by
 obtain⟨oc,od,kV,doc,pm,an,xa,ct,yV,rfl,lk,xu⟩:=F.ex;refine O3 lk xu S len λA outer s H vs Q E hr yJ=> ?_;obtain⟨t,h,q⟩:=xQ xa A outer s H vs Q E hr yJ;exact⟨t,h.nox,q⟩
theorem LZ{oc:Value}{od an:Option Addr}{yV:Array (Option Value)}{kV doc pm xa ct:Value}(l:K.lookup f=some ⟨oc,od,.func (PySem.W.fnOf x qual (ko st) (fR st) (bu st) .none kV doc pm an xa ct),yV⟩)
  (c:PySem.W.codeIn K xa qual=true)(k:PySem.W.keepIn K (.ref f)=true):Fun K x qual st f (PySem.W.fnOf x qual (ko st) (fR st) (bu st) .none kV doc pm an xa ct):=⟨⟨oc,od,kV,doc,pm,an,xa,ct,yV,rfl,l,c⟩,k⟩
end
theorem Od{A:Around}{k:Nat}(hr:gk k A):A.units+1<cLine:=GcH (Nat.add_le_add_left (by decide:1<=64) _) hr.units
def bR(H H' :Hp):Prop:=∀b o,H b=some o->H' b=some o
variable{H:Hp}
theorem bR.trans{H1 H2:Hp}(a:bR H H1)(b:bR H1 H2):bR H H2:=λc o h=>b c o (a c o h)
theorem bR.free{H' :Hp}(e:bR H H'){l:Addr}(h:H' l=Option.none):H l=Option.none:=by
 cases q:H l with
 |none=>rfl
 |some o=>
  rw[e l o q] at h;cases h
end L2
namespace Hd
noncomputable section
open PySem PySem.W PyProof.Rows L2
abbrev p0:=PySem.Challenge.pw_dosehouse_k65_room
noncomputable def top(i:Nat):Stmt:=p0.main.body.getD i (.Pass ⟨0,0,0,0⟩)
def view:Program:={p0 with main:={p0.main with body:=[1,2,3,5,7,8,10,12,14,15,16,17,18,19,20,21,22,24,25,27,28,29,30,31,32,33,34,35,36,37,38,39,40,41,42,43,44,45].map top}}
abbrev fd(n:Str)(i:Nat)(m:Str)(t c:Nat):FuncData:=fnOf n n (ko (top i)) (fR (top i)) (bu (top i)) .none .none .none (.str m t) none (.ref c) .none
def fo(d:FuncData):Obj:=⟨.type "function",none,.func d,#[]⟩
def co(n:Str)(t l k a:Nat)(x y:Value)(b u:Nat):Obj:={cls:= .type "code",data:= .fields #[.str n t,.str n (t+1),.str "/claim/cut.py" (t+2),.int l 0,.int k 0,.int 0 0,.int 0 0,.int 3 0,.ref a,.bool true,.int 181 0,.ref (a+1),.none,x,y,.ref b,.int u 0,.int l 0,.str "/claim/cut.py" (u+1)]}
def e(P:Params)(n:Str)(t:Nat)(v:Value):DictEntry:=⟨PyData.keyHash P n,.str n t,v⟩
def r(P:Params)(n:Str)(t a:Nat):DictEntry:=e P n t (.ref a)
abbrev m0:Str:="dosehouse.books"
abbrev m1:Str:="dosehouse.bounds"
abbrev m2:Str:="dosehouse.dues"
abbrev m3:Str:="dosehouse.faults"
abbrev m4:Str:="dosehouse.room"
abbrev m5:Str:="dosehouse.weights"
abbrev m6:Str:="dosehouse.windows"
abbrev m7:Str:="law_dosehouse_k65_room"
abbrev sV:=fd "laid_in" 1 m0 187 20
abbrev kU:=fd "with_giving" 2 m0 187 27
abbrev mq:=fd "givings_of" 3 m0 187 32
abbrev CT:=fd "bound" 5 m1 213 39
abbrev wa:=fd "due_of" 7 m2 223 46
abbrev wc:=fd "astray" 8 m2 223 53
abbrev oF:=fd "weight_at" 10 m5 245 60
abbrev Gq:=fd "sums" 12 m6 258 67
abbrev iE:=fd "goes_by_weight" 14 m3 274 72
abbrev kW:=fd "lone_faults" 15 m3 274 77
abbrev gO:=fd "marks_by_target" 16 m3 274 84
abbrev mw:=fd "cap_faults" 17 m3 274 91
abbrev iF:=fd "gaps_by_stuffs" 18 m3 274 98
abbrev kX:=fd "gap_between" 19 m3 274 105
abbrev mz:=fd "gap_faults" 20 m3 274 110
abbrev jC:=fd "twice_faults" 21 m3 274 115
abbrev we:=fd "faults" 22 m3 274 122
abbrev jD:=fd "giving_hours" 24 m4 359 127
abbrev Bg:=fd "room" 25 m4 359 134
abbrev jE:=fd "_law_mixed" 27 m7 382 141
abbrev nL:=fd "_law_far" 28 m7 382 148
abbrev sW:=fd "_law_cap" 29 m7 382 155
abbrev oG:=fd "_law_stuff" 30 m7 382 162
abbrev pW:=fd "_law_dues" 31 m7 382 169
abbrev oH:=fd "_law_order" 32 m7 382 176
abbrev jF:=fd "_law_world" 33 m7 382 183
abbrev lC:=fd "_law_hour" 34 m7 382 190
abbrev jG:=fd "_law_spots" 35 m7 382 195
abbrev j6:=fd "_law_weight" 36 m7 382 202
abbrev nM:=fd "_law_due" 37 m7 382 209
abbrev pX:=fd "_law_most" 38 m7 382 216
abbrev pY:=fd "_law_caps" 39 m7 382 223
abbrev pZ:=fd "_law_near" 40 m7 382 230
abbrev sX:=fd "_law_own" 41 m7 382 235
abbrev mB:=fd "_law_faults" 42 m7 382 242
abbrev q8:=fd "_law_with" 43 m7 382 249
abbrev q9:=fd "_law_book" 44 m7 382 256
abbrev Gr:=fd "law" 45 m7 382 263
def K(P:Params):Frag:=[(3,{cls:= .type "dict",data:= .dict #[e P "__name__" 165 (.str "law_dosehouse_k65_room" 382),e P "__doc__" 166 (.none),e P "__package__" 167 (.none),e P "__loader__" 168 (.builtin "__main__.__loader__#opaque"),e P "__spec__" 169 (.none),r P "__annotations__" 170 6,r P "__builtins__" 171 4,e P "__file__" 173 (.str "/claim/cut.py" 172),e P "__cached__" 174 (.none),r P "laid_in" 196 21,r P "with_giving" 206 28,r P "givings_of" 212 33,r P "bound" 222 40,r P "due_of" 235 47,r P "astray" 244 54,r P "weight_at" 257 61,r P "sums" 273 68,r P "goes_by_weight" 281 73,r P "lone_faults" 287 78,r P "marks_by_target" 298 85,r P "cap_faults" 316 92,r P "gaps_by_stuffs" 325 99,r P "gap_between" 334 106,r P "gap_faults" 340 111,r P "twice_faults" 346 116,r P "faults" 358 123,r P "giving_hours" 366 128,r P "room" 381 135,r P "_law_mixed" 393 142,r P "_law_far" 400 149,r P "_law_cap" 412 156,r P "_law_stuff" 427 163,r P "_law_dues" 440 170,r P "_law_order" 463 177,r P "_law_world" 480 184,r P "_law_hour" 493 191,r P "_law_spots" 499 196,r P "_law_weight" 510 203,r P "_law_due" 520 210,r P "_law_most" 528 217,r P "_law_caps" 547 224,r P "_law_near" 564 231,r P "_law_own" 570 236,r P "_law_faults" 582 243,r P "_law_with" 592 250,r P "_law_book" 612 257,r P "law" 629 264] 47}),
 (21,fo sV),(20,co "laid_in" 189 2 2 15 (.ref 17) (.ref 18) 19 194),
 (28,fo kU),(27,co "with_giving" 197 4 4 22 (.ref 24) (.ref 25) 26 204),
 (33,fo mq),(32,co "givings_of" 207 6 2 29 (.none) (.none) 31 210),
 (40,fo CT),(39,co "bound" 215 9 2 34 (.ref 36) (.ref 37) 38 220),
 (47,fo wa),(46,co "due_of" 225 18 2 41 (.ref 43) (.ref 44) 45 233),
 (54,fo wc),(53,co "astray" 236 27 2 48 (.ref 50) (.ref 51) 52 242),
 (61,fo oF),(60,co "weight_at" 247 33 3 55 (.ref 57) (.ref 58) 59 255),
 (68,fo Gq),(67,co "sums" 260 40 2 62 (.ref 64) (.ref 65) 66 271),
 (73,fo iE),(72,co "goes_by_weight" 276 54 1 69 (.none) (.none) 71 279),
 (78,fo kW),(77,co "lone_faults" 282 56 3 74 (.none) (.none) 76 285),
 (85,fo gO),(84,co "marks_by_target" 288 74 2 79 (.ref 81) (.ref 82) 83 296),
 (92,fo mw),(91,co "cap_faults" 299 80 3 86 (.ref 88) (.ref 89) 90 314),
 (99,fo iF),(98,co "gaps_by_stuffs" 317 91 1 93 (.ref 95) (.ref 96) 97 323),
 (106,fo kX),(105,co "gap_between" 326 97 3 100 (.ref 102) (.ref 103) 104 332),
 (111,fo mz),(110,co "gap_faults" 335 101 2 107 (.none) (.none) 109 338),
 (116,fo jC),(115,co "twice_faults" 341 114 2 112 (.none) (.none) 114 344),
 (123,fo we),(122,co "faults" 347 121 2 117 (.ref 119) (.ref 120) 121 356),
 (128,fo jD),(127,co "giving_hours" 361 129 2 124 (.none) (.none) 126 364),
 (135,fo Bg),(134,co "room" 367 131 4 129 (.ref 131) (.ref 132) 133 379),
 (142,fo jE),(141,co "_law_mixed" 384 146 2 136 (.ref 138) (.ref 139) 140 391),
 (149,fo nL),(148,co "_law_far" 394 152 1 143 (.ref 145) (.ref 146) 147 398),
 (156,fo sW),(155,co "_law_cap" 401 154 4 150 (.ref 152) (.ref 153) 154 410),
 (163,fo oG),(162,co "_law_stuff" 413 162 4 157 (.ref 159) (.ref 160) 161 425),
 (170,fo pW),(169,co "_law_dues" 428 172 3 164 (.ref 166) (.ref 167) 168 438),
 (177,fo oH),(176,co "_law_order" 441 180 6 171 (.ref 173) (.ref 174) 175 461),
 (184,fo jF),(183,co "_law_world" 464 196 1 178 (.ref 180) (.ref 181) 182 478),
 (191,fo lC),(190,co "_law_hour" 481 215 4 185 (.ref 187) (.ref 188) 189 491),
 (196,fo jG),(195,co "_law_spots" 494 223 1 192 (.none) (.none) 194 497),
 (203,fo j6),(202,co "_law_weight" 500 225 3 197 (.ref 199) (.ref 200) 201 508),
 (210,fo nM),(209,co "_law_due" 511 231 2 204 (.ref 206) (.ref 207) 208 518),
 (217,fo pX),(216,co "_law_most" 521 238 2 211 (.ref 213) (.ref 214) 215 526),
 (224,fo pY),(223,co "_law_caps" 529 246 5 218 (.ref 220) (.ref 221) 222 545),
 (231,fo pZ),(230,co "_law_near" 548 259 4 225 (.ref 227) (.ref 228) 229 562),
 (236,fo sX),(235,co "_law_own" 565 271 5 232 (.none) (.none) 234 568),
 (243,fo mB),(242,co "_law_faults" 571 290 2 237 (.ref 239) (.ref 240) 241 580),
 (250,fo q8),(249,co "_law_with" 583 297 4 244 (.ref 246) (.ref 247) 248 590),
 (257,fo q9),(256,co "_law_book" 593 299 3 251 (.ref 253) (.ref 254) 255 610),
 (264,fo Gr),(263,co "law" 613 319 1 258 (.ref 260) (.ref 261) 262 627)]
def as_:List Addr:=[3,21,20,28,27,33,32,40,39,47,46,54,53,61,60,68,67,73,72,78,77,85,84,92,91,99,98,106,105,111,110,116,115,123,122,128,127,135,134,142,141,149,148,156,155,163,162,170,169,177,176,184,183,191,190,196,195,203,202,210,209,217,216,224,223,231,230,236,235,243,242,250,249,257,256,264,263]
def hook:Hook:=kHook K as_ (λ_=>rfl)
def xt(s:Shared):Bool:=xlAt view [] s&&recOk (RowW.records (OpenRow.toRowW (OpenLaw.row PySem.Challenge.rw_dosehouse_k65_room))) s
theorem left:LeftO p0 view [] xt hook.obs hook.val 2764:=λw=>by kernel_rfl
end
end Hd
section
open PySem PySem.Spec PySem.W PyProof.Rows L2
theorem Hd.close(hc:∀d:DefRec,d.params.defaults=[]->d.name="law"->WalkO Hd.view [] (XL Hd.view []) (Hook.says Hd.hook) PySem.Challenge.rw_dosehouse_k65_room.row.toRowW d [] (λf vs=>PySem.call f vs)):PySem.Challenge.rw_dosehouse_k65_room.Holds:=by
 refine holds_law (by kernel_rfl) λRF=> ?_;refine holds_open (q:=Hd.view) (loose:=[]) (Xt:=Hd.xt) (XP:=XL Hd.view []) (Yf:=Hook.obs Hd.hook) (Ya:=Hook.val Hd.hook) (YP:=Hook.says Hd.hook) (N:=2764) Hd.left (Hook.of Hd.hook) (Hook.keeps Hd.hook) (λs e=>xl_of s (Bool.and_eq_true_iff.mp e).1) XL.keeps (by rfl) (by rfl) (by rfl) (λs e=>recFacts_of (Bool.and_eq_true_iff.mp e).2) (by rfl) RF (by decide+kernel) ⟨rfl,rfl,rfl,rfl,rfl,by decide+kernel⟩ ?hw ?hc
 case hw=>w_witness2
 case hc=>exact hc _ rfl rfl
end
namespace DL
open PySem
abbrev Key:=Sum Int Str
inductive D where
 |non
 |bl (b:Bool)
 |int (i:Int)
 |str (x:Str)
 |tup (ds:List D)
 |lst (ds:List D)
 |dK (eC:List (Key×D))
 |dT (eC:List (List Key×D))
 |scr (ns:List Int)
 |exc (C:Nat) (n:Str) (d:D)
 deriving Inhabited
mutual
@[simp] noncomputable def D.imm:D->Bool
 | .non=>true
 | .bl _=>true
 | .int _=>true
 | .str _=>true
 | .tup ds=>aC ds
 | .lst _=>false
 | .dK _=>false
 | .dT _=>false
 | .scr _=>true
 | .exc _ _ d=>d.imm
@[simp] noncomputable def aC:List D->Bool
 |[]=>true
 |d::ds=>d.imm&&aC ds
end
noncomputable def D.oI:D->Bool
 | .lst ds=>aC ds
 | .dK eC=>aC (eC.map (·.2))
 | .dT eC=>aC (eC.map (·.2))
 |d=>d.imm
noncomputable def D.top:D->Bool
 | .lst _=>true
 | .dK _=>true
 | .dT _=>true
 |_=>false
noncomputable def a9:Nat:=16777216
inductive Slot where
 |sh (d:D)
 |own (d:D)
 |lok (d:D)
 |bor (d:D)
abbrev Env:=List (Option Slot)
inductive Cls where
 |c|tn|to|tb
 deriving DecidableEq
structure RV where
 k:Cls
 d:D
abbrev DE:=Env->Option RV
abbrev DT:=Env->Option Bool
abbrev DA:=Env->Option (List RV)
abbrev DG:=D->Env->Option Env
inductive Out where
 |nx (e:Env)
 |ret (d:D)
 |bk (e:Env)
 |ct (e:Env)
abbrev DS:=Env->Option Out
noncomputable def i7(d:D):RV:=⟨if d.top then .tn else .c,d⟩
noncomputable def RV.free(r:RV):Bool:=match r.k with
 | .c=>true
 | .tn=>true
 |_=>false
@[simp] noncomputable def vE(i:Nat):DE:=λenv=>match env[i]? with
 |some (some (.sh d))=>some ⟨.c,d⟩
 |some (some (.own d))=>some ⟨.to,d⟩
 |some (some (.lok d))=>some ⟨.tb,d⟩
 |some (some (.bor d))=>some ⟨.tb,d⟩
 |_=>none
@[simp] noncomputable def kE(d:D):DE:=λ_=>some ⟨.c,d⟩
@[simp] noncomputable def opE(o:D->D->Option RV)(f g:DE):DE:=λenv=>(f env).bind λx=>(g env).bind λy=>o x.d y.d
@[simp] noncomputable def unE(o:D->Option RV)(f:DE):DE:=λenv=>(f env).bind λx=>o x.d
noncomputable def aA:D->D->Option RV
 | .int i,.int j=>some ⟨.c,.int (i+j)⟩
 | .str x,.str y=>if x.length+y.length<=a9 then some ⟨.c,.str (x++y)⟩ else none
 | .tup x,.tup y=>if x.length+y.length<=a9/\0<x.length then some ⟨.c,.tup (x++y)⟩ else none
 | .lst x,.lst y=>if x.length+y.length<=a9 then some ⟨.tn,.lst (x++y)⟩ else none
 |_,_=>none
noncomputable def kP:D->D->Option RV
 | .int i,.int j=>some ⟨.c,.int (i -j)⟩
 |_,_=>none
noncomputable def aZ(i j:Int):Bool:=decide (i.natAbs<18446744073709551616)||decide (j.natAbs<18446744073709551616)
noncomputable def bD:D->D->Option RV
 | .int i,.int j=>if aZ i j then some ⟨.c,.int (i*j)⟩ else none
 |_,_=>none
noncomputable def cP:D->D->Option RV
 | .int i,.int j=>if 0<j/\j<1073741824 then some ⟨.c,.int (i/j)⟩ else none
 |_,_=>none
noncomputable def aS:D->D->Option RV
 | .int i,.int j=>if 0<j then some ⟨.c,.int (i%j)⟩ else none
 |_,_=>none
noncomputable def Bh:D->D->Option RV
 | .int i,.int j=>if 0<=j/\j<=1000/\i.natAbs<1000000 then some ⟨.c,.int (i^j.toNat)⟩ else none
 |_,_=>none
noncomputable def Gs:D->Option RV
 | .int i=>some ⟨.c,.int (-i)⟩
 |_=>none
@[simp] noncomputable def aD:Nat->D->Bool
 |_,.non=>true
 |_,.bl _=>true
 |_,.int _=>true
 |_,.str _=>true
 |n+1,.tup ds=>ds.all (aD n)
 |n+1,.lst ds=>ds.all (aD n)
 |_,_=>false
@[simp] noncomputable def D.plain(d:D):Bool:=aD 20 d
mutual
@[simp] noncomputable def eqD:D->D->Bool
 | .non,.non=>true
 | .bl a,.bl b=>a==b
 | .bl a,.int b=>(if a then 1 else 0)==b
 | .int a,.bl b=>a==(if b then 1 else 0)
 | .int a,.int b=>a==b
 | .str a,.str b=>a==b
 | .tup a,.tup b=>kQ a b
 | .lst a,.lst b=>kQ a b
 |_,_=>false
@[simp] noncomputable def kQ:List D->List D->Bool
 |[],[]=>true
 |a::as,b::bs=>eqD a b&&kQ as bs
 |_,_=>false
end
noncomputable def eqB(x y:D):Option Bool:=if x.plain&&y.plain then some (eqD x y) else none
noncomputable def neB(x y:D):Option Bool:=if x.plain&&y.plain then some (!eqD x y) else none
noncomputable def bF:D->Bool
 | .non=>true
 |_=>false
noncomputable def jv(x y:D):Option Bool:=if bF y then some (bF x) else none
noncomputable def dR(x y:D):Option Bool:=if bF y then some (!bF x) else none
noncomputable def ltB:D->D->Option Bool
 | .int i,.int j=>some (decide (i<j))
 |_,_=>none
noncomputable def leB:D->D->Option Bool
 | .int i,.int j=>some (decide (i<=j))
 |_,_=>none
noncomputable def gtB:D->D->Option Bool
 | .int i,.int j=>some (decide (j<i))
 |_,_=>none
noncomputable def geB:D->D->Option Bool
 | .int i,.int j=>some (decide (j<=i))
 |_,_=>none
@[simp] noncomputable def aB(o:D->D->Option Bool)(f g:DE):DT:=λenv=>(f env).bind λx=>(g env).bind λy=>o x.d y.d
@[simp] noncomputable def bE(t:DT):DE:=λenv=>(t env).map λb=> ⟨.c,.bl b⟩
@[simp] noncomputable def qa(f:DE):DT:=λenv=>(f env).bind λx=>match x.d with
 | .bl b=>some b
 |_=>none
@[simp] noncomputable def gL(t u:DT):DT:=λenv=>(t env).bind λb=>if b then u env else some false
@[simp] noncomputable def orT(t u:DT):DT:=λenv=>(t env).bind λb=>if b then some true else u env
@[simp] noncomputable def Ey(t:DT):DT:=λenv=>(t env).map (!·)
@[simp] noncomputable def Bi(o p:D->D->Option Bool)(f g h:DE):DT:=λenv=>(f env).bind λx=>(g env).bind λy=>(o x.d y.d).bind λb=>if b then(h env).bind λz=>p y.d z.d else some false
@[simp] noncomputable def ifE(t:DT)(f g:DE):DE:=λenv=>(t env).bind λb=>if b then f env else g env
noncomputable def atD{α:Type}(xs:List α)(i:Int):Option α:=if 0<=i then xs[i.toNat]? else if -(xs.length:Int)<=i then xs[(i+xs.length).toNat]? else none
noncomputable def keyOf:D->Option Key
 | .int i=>some (.inl i)
 | .str x=>some (.inr x)
 |_=>none
@[simp] noncomputable def keysOf:List D->Option (List Key)
 |[]=>some []
 |d::ds=>(keyOf d).bind λk=>(keysOf ds).map (k:: ·)
section
variable{Y:Type} [DecidableEq Y]
noncomputable def look(eC:List (Y×D))(k:Y):Option D:=(eC.find? λkv=>decide (kv.1=k)).map (·.2)
noncomputable def put(eC:List (Y×D))(k:Y)(v:D):List (Y×D):=
 if(eC.any λkv=>decide (kv.1=k))=true then eC.map (λkv=>if kv.1=k then(kv.1,v) else kv) else eC++[(k,v)]
end
noncomputable def ixD:D->D->Option D
 | .lst xs,.int i=>atD xs i
 | .tup xs,.int i=>atD xs i
 | .str x,.int i=>if x.length<=a9 then(atD x.cps.toList i).map λc=> .str ⟨#[c]⟩ else none
 | .dK eC,k=>(keyOf k).bind λk=>look eC k
 | .dT eC,.tup ds=>(keysOf ds).bind λk=>look eC k
 | .scr ns,.int i=>(atD ns i).map .int
 |_,_=>none
@[simp] noncomputable def ixE(f g:DE):DE:=λenv=>(f env).bind λx=>(g env).bind λy=>(ixD x.d y.d).map λd=> ⟨.c,d⟩
@[simp] noncomputable def aa:DA:=λ_=>some []
@[simp] noncomputable def a7(f:DE)(r:DA):DA:=λenv=>(f env).bind λx=>(r env).bind λxs=>some (x::xs)
@[simp] noncomputable def aT(a:DA):DE:=λenv=>(a env).bind λrs=>if rs.all (·.free)&&decide (rs.length<=a9) then some ⟨.c,.tup (rs.map (·.d))⟩ else none
@[simp] noncomputable def fN(a:DA):DE:=λenv=>(a env).bind λrs=>if rs.all (·.free)&&decide (rs.length<=a9) then some ⟨.tn,.lst (rs.map (·.d))⟩ else none
@[simp] noncomputable def ak(sp:List D->Option D)(a:DA):DE:=λenv=>(a env).bind λrs=>(sp (rs.map (·.d))).map i7
@[simp] noncomputable def bN(o:List D->Option RV)(a:DA):DE:=λenv=>(a env).bind λrs=>o (rs.map (·.d))
noncomputable def cw:List D->Option RV
 |[.lst xs]=>some ⟨.c,.int xs.length⟩
 |[.tup xs]=>some ⟨.c,.int xs.length⟩
 |[.str x]=>if x.length<=a9 then some ⟨.c,.int x.length⟩ else none
 |[.dK eC]=>some ⟨.c,.int eC.length⟩
 |[.scr ns]=>some ⟨.c,.int ns.length⟩
 |_=>none
noncomputable def CU:List D->Option RV
 |[.int i,.int j]=>some ⟨.c,.int (if j<i then j else i)⟩
 |_=>none
noncomputable def df:List D->Option RV
 |[.lst xs]=>some ⟨.c,.tup xs⟩
 |[.tup xs]=>some ⟨.c,.tup xs⟩
 |_=>none
@[simp] noncomputable def uy:List D->Option (List Bool)
 |[]=>some []
 | .bl b::ds=>(uy ds).map (b:: ·)
 |_=>none
@[simp] noncomputable def CV:List D->Option (List Int)
 |[]=>some []
 | .int i::ds=>(CV ds).map (i:: ·)
 |_=>none
noncomputable def jH:D->Option (List D)
 | .lst xs=>some xs
 | .tup xs=>some xs
 | .scr ns=>some (ns.map .int)
 |_=>none
noncomputable def one(o:List D->Option RV):List D->Option RV
 |[d]=>(jH d).bind o
 |_=>none
noncomputable def anyS:List D->Option RV:=one λds=>(uy ds).map λbs=> ⟨.c,.bl (bs.any id)⟩
noncomputable def oY(i:Int)(ns:List Int):Int:=ns.foldl (λa b=>if b>a then b else a) i
noncomputable def jI(T:String):D->Bool
 | .non=>T=="NoneType"
 | .bl _=>T=="bool"||T=="int"
 | .int _=>T=="int"
 | .str _=>T=="str"
 | .tup _=>T=="tuple"
 | .lst _=>T=="list"
 | .dK _=>T=="dict"
 | .dT _=>T=="dict"
 | .scr _=>T=="list"
 | .exc _ _ _=>false
noncomputable def mC:D->Bool
 | .scr _=>true
 | .exc _ _ _=>true
 |_=>false
@[simp] noncomputable def Gu(T:String)(f:DE):DT:=λenv=>(f env).bind λx=>if mC x.d then none else some (jI T x.d)
noncomputable def sIx(n d:Nat):Option Int->Nat
 |none=>d
 |some v=>if v<0 then(v+(n:Int)).toNat else min v.toNat n
noncomputable def cutD{α:Type}(xs:List α)(lo hi:Option Int):List α:=(xs.drop (sIx xs.length 0 lo)).take (sIx xs.length xs.length hi -sIx xs.length 0 lo)
abbrev DO:=Env->Option (Option Int)
@[simp] noncomputable def noO:DO:=λ_=>some none
@[simp] noncomputable def wk(f:DE):DO:=λenv=>(f env).bind λx=>match x.d with
 | .int i=>some (some i)
 |_=>none
noncomputable def slD(lo hi:Option Int):D->Option RV
 | .lst xs=>some ⟨.tn,.lst (cutD xs lo hi)⟩
 | .tup xs=>if sIx xs.length 0 lo=0/\sIx xs.length xs.length hi=xs.length then none else some ⟨.c,.tup (cutD xs lo hi)⟩
 | .scr ns=>some ⟨.tn,.lst (cutD (ns.map .int) lo hi)⟩
 |_=>none
@[simp] noncomputable def slE(f:DE)(lo hi:DO):DE:=λenv=>(f env).bind λx=>(lo env).bind λl=>(hi env).bind λh=>slD l h x.d
@[simp] noncomputable def gN(i:Nat):DG:=λd env=>some (env.set i (some (.sh d)))
@[simp] noncomputable def gNs:List Nat->List D->Env->Option Env
 |[],[],env=>some env
 |i::is,d::ds,env=>gNs is ds (env.set i (some (.sh d)))
 |_,_,_=>none
@[simp] noncomputable def gT(is:List Nat):DG:=λd env=>match d with
 | .tup ds=>gNs is ds env
 |_=>none
@[simp] noncomputable def aF:DS:=λenv=>some (.nx env)
@[simp] noncomputable def bkS:DS:=λenv=>some (.bk env)
@[simp] noncomputable def aj(f g:DS):DS:=λenv=>(f env).bind λo=>match o with
 | .nx e=>g e
 |o=>some o
noncomputable def stored(i:Nat)(r:RV)(env:Env):Option Env:=match r.k with
 | .c=>some (env.set i (some (.sh r.d)))
 | .tn=>some (env.set i (some (.own r.d)))
 |_=>none
@[simp] noncomputable def aw(i:Nat)(f:DE):DS:=λenv=>(f env).bind λr=>(stored i r env).map .nx
@[simp] noncomputable def M0(g:DG)(f:DE):DS:=λenv=>(f env).bind λr=>match r.k with
 | .c=>(g r.d env).map .nx
 |_=>none
noncomputable def CW(r:RV):Bool:=match r.k with
 | .c=>r.d.imm
 | .tn=>r.d.oI
 | .to=>r.d.oI
 | .tb=>false
@[simp] noncomputable def retS(f:DE):DS:=λenv=>(f env).bind λr=>if CW r then some (.ret r.d) else none
@[simp] noncomputable def ifS(t:DT)(f g:DS):DS:=λenv=>(t env).bind λb=>if b then f env else g env
@[simp] noncomputable def forL(g:DG)(body:DS):List D->Env->Option Out
 |[],env=>some (.nx env)
 |d::ds,env=>(g d env).bind λe=>(body e).bind λo=>match o with
  | .nx e=>forL g body ds e
  | .ct e=>forL g body ds e
  | .bk e=>some (.nx e)
  | .ret d=>some (.ret d)
abbrev DI:=Env->Option (List D)
@[simp] noncomputable def b8(l:Option Nat)(env:Env):Env:=match l with
 |none=>env
 |some i=>match env[i]? with
  |some (some (.own d))=>env.set i (some (.lok d))
  |_=>env
@[simp] noncomputable def qb(l:Option Nat)(env:Env):Bool:=match l with
 |none=>false
 |some i=>match env[i]? with
  |some (some (.own _))=>true
  |_=>false
@[simp] noncomputable def gq(l:Option Nat)(env:Env):Env:=match l with
 |none=>env
 |some i=>match env[i]? with
  |some (some (.lok d))=>env.set i (some (.own d))
  |_=>env
noncomputable def freed(l:Option Nat)(b:Bool):Out->Out
 | .nx e=> .nx (if b then gq l e else e)
 |o=>o
@[simp] noncomputable def dU(l:Option Nat)(src:DI)(g:DG)(body:DS):DS:=λenv=>(src (b8 l env)).bind λds=>(forL g body ds (b8 l env)).map (freed l (qb l env))
noncomputable def cM(t:DT)(body:DS):Nat->Env->Option Out
 |0,_=>none
 |n+1,env=>(t env).bind λb=>if b then(body env).bind λo=>match o with
   | .nx e=>cM t body n e
   | .ct e=>cM t body n e
   | .bk e=>some (.nx e)
   | .ret d=>some (.ret d)
  else some (.nx env)
noncomputable def qc(t:DT)(body:DS):DS:=cM t body 100000
@[simp] noncomputable def gr(f:DE):DI:=λenv=>(f env).bind λr=>if r.k= .to then none else match r.d with
 | .lst xs=>some xs
 | .tup xs=>some xs
 | .scr ns=>some (ns.map .int)
 |_=>none
noncomputable def aJ(lo:Int)(n:Nat):List D:=(List.range n).map λ(k:Nat)=> .int (lo+(k:Int))
noncomputable def aY(i:Int):Bool:=decide (-4611686018427387904<=i)&&decide (i<4611686018427387904)
@[simp] noncomputable def dF(f:DE):DI:=λenv=>(f env).bind λr=>match r.d with
 | .int j=>if aY j then some (aJ 0 j.toNat) else none
 |_=>none
@[simp] noncomputable def CY(f g:DE):DI:=λenv=>(f env).bind λx=>(g env).bind λy=>match x.d,y.d with
 | .int i,.int j=>if aY i&&aY j then some (aJ i (j -i).toNat) else none
 |_,_=>none
@[simp] noncomputable def ownAt(i:Nat)(env:Env):Option D:=match env[i]? with
 |some (some (.own d))=>some d
 |_=>none
@[simp] noncomputable def fO(i:Nat)(f:DE):DS:=λenv=>(f env).bind λr=>(ownAt i env).bind λd=>match d with
 | .lst xs=>if r.free&&decide (xs.length<a9) then some (.nx (env.set i (some (.own (.lst (xs++[r.d])))))) else none
 |_=>none
@[simp] noncomputable def Oe(i:Nat)(f:DE):DS:=λenv=>(f env).bind λr=>(ownAt i env).bind λd=>match d,r.d with
 | .lst xs,.lst ys=>if(r.k== .tn)&&decide (xs.length+ys.length<=a9) then some (.nx (env.set i (some (.own (.lst (xs++ys)))))) else none
 |_,_=>none
noncomputable def putD(d k v:D):Option D:=match d with
 | .dK eC=>if eC.length<a9 then(keyOf k).map λk=> .dK (put eC k v) else none
 | .dT eC=>match k with
  | .tup ks=>if eC.length<a9 then(keysOf ks).map λk=> .dT (put eC k v) else none
  |_=>none
 | .lst xs=>match k with
  | .int j=>if 0<=j/\j<xs.length then some (.lst (xs.set j.toNat v)) else if j<0/\-(xs.length:Int)<=j then some (.lst (xs.set (j+xs.length).toNat v)) else none
  |_=>none
 |_=>none
@[simp] noncomputable def Bj:DE:=λ_=>some ⟨.tn,.dT []⟩
@[simp] noncomputable def Gv(i:Nat)(k v:DE):DS:=λenv=>(v env).bind λx=>(k env).bind λy=>(ownAt i env).bind λd=>if x.free then(putD d y.d x.d).map λd=> .nx (env.set i (some (.own d))) else none
noncomputable def d0:Option Slot->Option Slot
 |some (.sh d)=>some (.sh d)
 |some (.own d)=>some (.bor d)
 |some (.lok d)=>some (.bor d)
 |some (.bor d)=>some (.bor d)
 |none=>none
noncomputable def compEnv(n:Nat)(ax:List Nat)(env:Env):Env:=List.replicate n none++ax.map λi=>d0 (env[i]?.getD none)
@[simp] noncomputable def bX(g:DG)(t:DT)(f:DE):List D->Env->Option (List D)
 |[],_=>some []
 |d::ds,env=>(g d env).bind λe=>(t e).bind λb=>if b then(f e).bind λr=>if r.free then(bX g t f ds e).map (r.d:: ·) else none else bX g t f ds e
@[simp] noncomputable def gP(l:Option Nat)(n:Nat)(ax:List Nat)(src:DI)(g:DG)(t:DT)(f:DE):DE:=λenv=>(src (b8 l env)).bind λds=>if ds.length<=a9 then(bX g t f ds (compEnv n ax env)).map λrs=> ⟨.tn,.lst rs⟩ else none
@[simp] noncomputable def gQ:DT:=λ_=>some true
@[simp] noncomputable def bw(n:Nat)(ds:List D):Env:=ds.map (λd=>some (.sh d))++List.replicate (n -ds.length) none
@[simp] noncomputable def cx(n np:Nat)(body:DS):List D->Option D:=λds=>if ds.length=np then(body (bw n ds)).bind λo=>match o with
  | .ret d=>some d
  | .nx _=>some .non
  |_=>none
 else none
@[simp] theorem Jt{a b:String}:Str.ofString a=Str.ofString b↔a=b:=by
 constructor
 .intro h;rw[Str.ofString_eq_toList,Str.ofString_eq_toList] at h;have h1:a.toList.map Char.toNat=b.toList.map Char.toNat:=by
   injection h with h
   exact Array.toList_inj.mpr h|>λz=>by simpa using z
  have h2:a.toList=b.toList:=by
   have inj:∀(x y:List Char),x.map Char.toNat=y.map Char.toNat->x=y:=by
    intro x;induction x with
    |nil=>intro y e;cases y with
     |nil=>rfl
     |cons=>simp at e
    |cons c x ih=>intro y e;cases y with
     |nil=>simp at e
     |cons c' y=>
      simp only[Gay,List.cons.injEq] at e;rw[ih y e.2,Char.toNat_inj.mp e.1]
   exact inj _ _ h1
  exact String.toList_inj.mp h2
 .rintro rfl;rfl
section
variable{i j:Int}{x y:Str}{ds es:List D}{d:D}{env:Env}{n:Nat}
@[simp] theorem Of:aA (.int i) (.int j)=some ⟨.c,.int (i+j)⟩:=rfl
@[simp] theorem Og:aA (.str x) (.str y)=if x.length+y.length<=a9 then some ⟨.c,.str (x++y)⟩ else none:=rfl
@[simp] theorem Oh:aA (.tup ds) (.tup es)=if ds.length+es.length<=a9/\0<ds.length then some ⟨.c,.tup (ds++es)⟩ else none:=rfl
@[simp] theorem Oi:aA (.lst ds) (.lst es)=if ds.length+es.length<=a9 then some ⟨.tn,.lst (ds++es)⟩ else none:=rfl
@[simp] theorem Oj:kP (.int i) (.int j)=some ⟨.c,.int (i -j)⟩:=rfl
@[simp] theorem Ol:bD (.int i) (.int j)=if aZ i j then some ⟨.c,.int (i*j)⟩ else none:=rfl
@[simp] theorem Np:cP (.int i) (.int j)=if 0<j/\j<1073741824 then some ⟨.c,.int (i/j)⟩ else none:=rfl
@[simp] theorem Om:aS (.int i) (.int j)=if 0<j then some ⟨.c,.int (i%j)⟩ else none:=rfl
@[simp] theorem Oo:Bh (.int i) (.int j)=if 0<=j/\j<=1000/\i.natAbs<1000000 then some ⟨.c,.int (i^j.toNat)⟩ else none:=rfl
@[simp] theorem Oq:Gs (.int i)=some ⟨.c,.int (-i)⟩:=rfl
@[simp] theorem PX:ltB (.int i) (.int j)=some (decide (i<j)):=rfl
@[simp] theorem PY:leB (.int i) (.int j)=some (decide (i<=j)):=rfl
@[simp] theorem PZ:gtB (.int i) (.int j)=some (decide (j<i)):=rfl
@[simp] theorem Q0:geB (.int i) (.int j)=some (decide (j<=i)):=rfl
@[simp] theorem Q1:eqB (.int i) (.int j)=some (i==j):=rfl
@[simp] theorem Q2:eqB (.str x) (.str y)=some (x==y):=rfl
@[simp] theorem QF:eqB .non (.int j)=some false:=rfl
@[simp] theorem QG:eqB (.int j) .non=some false:=rfl
@[simp] theorem QH:eqB .non .non=some true:=rfl
@[simp] theorem Q3:neB (.int i) (.int j)=some (!(i==j)):=rfl
@[simp] theorem Q4:neB (.str x) (.str y)=some (!(x==y)):=rfl
@[simp] theorem QI:neB .non (.int j)=some true:=rfl
@[simp] theorem QJ:neB (.int j) .non=some true:=rfl
@[simp] theorem QK:neB .non .non=some false:=rfl
@[simp] theorem Nq:bF .non=true:=rfl
@[simp] theorem Nr:bF (.int i)=false:=rfl
@[simp] theorem Nt:bF (.str x)=false:=rfl
@[simp] theorem Ot{b:Bool}:bF (.bl b)=false:=rfl
@[simp] theorem Nu:bF (.tup ds)=false:=rfl
@[simp] theorem Nv:bF (.lst ds)=false:=rfl
@[simp] theorem Ou:jv d .non=some (bF d):=rfl
@[simp] theorem Nw:dR d .non=some (!bF d):=rfl
@[simp] theorem qd:cw [.lst ds]=some ⟨.c,.int ds.length⟩:=rfl
@[simp] theorem jJ:cw [.tup ds]=some ⟨.c,.int ds.length⟩:=rfl
@[simp] theorem Ov:cw [.str x]=if x.length<=a9 then some ⟨.c,.int x.length⟩ else none:=rfl
@[simp] theorem Ox{ns:List Int}:cw [.scr ns]=some ⟨.c,.int ns.length⟩:=rfl
@[simp] theorem Q5{eC:List (Key×D)}:cw [.dK eC]=some ⟨.c,.int eC.length⟩:=rfl
@[simp] theorem Nx:CU [.int i,.int j]=some ⟨.c,.int (if j<i then j else i)⟩:=rfl
@[simp] theorem M1:df [.lst ds]=some ⟨.c,.tup ds⟩:=rfl
@[simp] theorem M3:df [.tup ds]=some ⟨.c,.tup ds⟩:=rfl
@[simp] theorem Oy{T:String}:jI T .non=(T=="NoneType"):=rfl
@[simp] theorem Q6{T:String}{b:Bool}:jI T (.bl b)=(T=="bool"||T=="int"):=rfl
@[simp] theorem Oz{T:String}:jI T (.int i)=(T=="int"):=rfl
@[simp] theorem OC{T:String}:jI T (.str x)=(T=="str"):=rfl
@[simp] theorem OE{T:String}:jI T (.tup ds)=(T=="tuple"):=rfl
@[simp] theorem OF{T:String}:jI T (.lst ds)=(T=="list"):=rfl
@[simp] theorem Ny:mC .non=false:=rfl
@[simp] theorem OG{b:Bool}:mC (.bl b)=false:=rfl
@[simp] theorem Nz:mC (.int i)=false:=rfl
@[simp] theorem NA:mC (.str x)=false:=rfl
@[simp] theorem NB:mC (.tup ds)=false:=rfl
@[simp] theorem NC:mC (.lst ds)=false:=rfl
@[simp] theorem Q7{lo hi:Option Int}:slD lo hi (.lst ds)=some ⟨.tn,.lst (cutD ds lo hi)⟩:=rfl
@[simp] theorem uz{lo hi:Option Int}:slD lo hi (.tup ds)=if sIx ds.length 0 lo=0/\sIx ds.length ds.length hi=ds.length then none else some ⟨.c,.tup (cutD ds lo hi)⟩:=rfl
@[simp] theorem Q8{lo hi:Option Int}{ns:List Int}:slD lo hi (.scr ns)=some ⟨.tn,.lst (cutD (ns.map .int) lo hi)⟩:=rfl
@[simp] theorem OH:stored n ⟨.c,d⟩ env=some (env.set n (some (.sh d))):=rfl
@[simp] theorem ND:stored n ⟨.tn,d⟩ env=some (env.set n (some (.own d))):=rfl
@[simp] theorem Q9:CW ⟨.c,d⟩=d.imm:=rfl
@[simp] theorem OI:CW ⟨.tn,d⟩=d.oI:=rfl
@[simp] theorem OJ:CW ⟨.to,d⟩=d.oI:=rfl
@[simp] theorem NF:(D.lst ds).oI=aC ds:=rfl
@[simp] theorem OK{eC:List (List Key×D)}:(D.dT eC).oI=aC (eC.map (·.2)):=rfl
@[simp] theorem OL{eC:List (Key×D)}:(D.dK eC).oI=aC (eC.map (·.2)):=rfl
@[simp] theorem OM:i7 .non=⟨.c,.non⟩:=rfl
@[simp] theorem Qa{b:Bool}:i7 (.bl b)=⟨.c,.bl b⟩:=rfl
@[simp] theorem ON:i7 (.int i)=⟨.c,.int i⟩:=rfl
@[simp] theorem OO:i7 (.str x)=⟨.c,.str x⟩:=rfl
@[simp] theorem OP:i7 (.tup ds)=⟨.c,.tup ds⟩:=rfl
@[simp] theorem OQ:i7 (.lst ds)=⟨.tn,.lst ds⟩:=rfl
@[simp] theorem Qb{eC:List (List Key×D)}:i7 (.dT eC)=⟨.tn,.dT eC⟩:=rfl
@[simp] theorem Qc{eC:List (Key×D)}:i7 (.dK eC)=⟨.tn,.dK eC⟩:=rfl
@[simp] theorem QL:RV.free ⟨.c,d⟩=true:=rfl
@[simp] theorem Qd:RV.free ⟨.tn,d⟩=true:=rfl
@[simp] theorem OR{l:Option Nat}{b:Bool}:freed l b (.nx env)= .nx (if b then gq l env else env):=rfl
@[simp] theorem NG{l:Option Nat}{b:Bool}:freed l b (.ret d)= .ret d:=rfl
@[simp] theorem NH:keyOf (.int i)=some (.inl i):=rfl
@[simp] theorem NI:keyOf (.str x)=some (.inr x):=rfl
@[simp] theorem Qe:ixD (.lst ds) (.int i)=atD ds i:=rfl
@[simp] theorem Qf:ixD (.tup ds) (.int i)=atD ds i:=rfl
@[simp] theorem Qg{ns:List Int}:ixD (.scr ns) (.int i)=(atD ns i).map .int:=rfl
@[simp] theorem Qh:ixD (.str x) (.int i)=if x.length<=a9 then(atD x.cps.toList i).map λc=> .str ⟨#[c]⟩ else none:=rfl
@[simp] theorem QM{eC:List (List Key×D)}:ixD (.dT eC) (.tup ds)=(keysOf ds).bind λk=>look eC k:=rfl
theorem bU{α:Type}{xs:List α}{k:Nat}:atD xs (k:Int)=xs[k]? :=by
 unfold atD;rw[Gaj (by lia)];simp
@[simp] theorem QY{α:Type}{xs:List α}:atD xs 0=xs[0]? :=rfl
@[simp] theorem QZ{α:Type}{xs:List α}:atD xs 1=xs[1]? :=rfl
@[simp] theorem R0{α:Type}{xs:List α}:atD xs 2=xs[2]? :=rfl
@[simp] theorem R4{α:Type}{xs:List α}:atD xs 3=xs[3]? :=rfl
@[simp] theorem R5{α:Type}{xs:List α}:atD xs 4=xs[4]? :=rfl
@[simp] theorem R6{α:Type}{xs:List α}:atD xs 5=xs[5]? :=rfl
end
noncomputable def aR:D->List Int
 | .non=>[0]
 | .int i=>[1,i]
 | .str x=>2::x.cps.toList.map Int.ofNat
 |_=>[3]
noncomputable def dh{α:Type} [DecidableEq α](lt:α->α->Bool):List α->List α->Bool
 |[],[]=>false
 |[],_::_=>true
 |_::_,[]=>false
 |a::as,b::bs=>if a=b then dh lt as bs else lt a b
noncomputable def ltI(a b:Int):Bool:=decide (a<b)
noncomputable def ltC:List (List Int)->List (List Int)->Bool:=dh (dh ltI)
noncomputable def code:D->List (List Int)
 | .tup ds=>ds.map aR
 |d=>[aR d]
noncomputable def Ez(d:D):List D->List D
 |[]=>[d]
 |e::es=>if ltC (code d) (code e) then d::e::es else e::Ez d es
noncomputable def bY:List D->List D
 |[]=>[]
 |d::ds=>Ez d (bY ds)
noncomputable def tyD:D->Nat
 | .non=>0
 | .int _=>1
 | .str _=>2
 |_=>3
noncomputable def kR(d:D):Bool:=tyD d !=3
noncomputable def kY:List D->List D->Bool
 |a::as,b::bs=>if aR a=aR b then kY as bs else(tyD a==tyD b&&(tyD a==1||tyD a==2))
 |_,_=>true
noncomputable def EA:D->Bool
 | .int _=>true
 |_=>false
noncomputable def kS(t:Nat):D->Bool
 | .tup (f::r)=>tyD f==t&&r.all kR
 |_=>false
noncomputable def wm:D->D->Bool
 | .tup a,.tup b=>kY a b
 |_,_=>false
noncomputable def keysOk(ds:List D):Bool:=ds.all EA||((ds.all (kS 1)||ds.all (kS 2))&&ds.all λx=>ds.all λy=>wm x y)
noncomputable def sortedS:List D->Option RV:=one λds=>if decide (ds.length<64)&&keysOk ds then some ⟨.tn,.lst (bY ds)⟩ else none
structure uA{α:Type}(lt:α->α->Bool):Prop where
 irr:∀a,lt a a=false
 tr:∀a b c,lt a b=true->lt b c=true->lt a c=true
 tot:∀a b,lt a b=false->lt b a=false->a=b
theorem QN:uA ltI:=⟨λa=>by simp[ltI],λa b c h1 h2=>by simp[ltI] at*;lia,λa b h1 h2=>by simp[ltI] at*;lia⟩
section
variable{α:Type} [DecidableEq α]{lt:α->α->Bool}
theorem uA.lex(L:uA lt):uA (dh lt):=by
 refine⟨λa=> ?_,λa=> ?_,λa=> ?_⟩
 .induction a with
  |nil=>rfl
  |cons x xs ih=>simp[dh,ih]
 .induction a with
  |nil=>
   intro b c h1 h2;cases c with
   |nil=>cases b<;>simp[dh] at h1 h2
   |cons z zs=>rfl
  |cons x xs ih=>
   intro b c h1 h2;cases b with
   |nil=>simp[dh] at h1
   |cons y ys=>
    cases c with
    |nil=>simp[dh] at h2
    |cons z zs=>
     unfold dh at h1 h2⊢;by_cases e1:x=y
     .subst e1;rw[Gaj rfl] at h1;by_cases e2:x=z
      .subst e2;rw[Gaj rfl] at h2⊢;exact ih ys zs h1 h2
      .rw[Gai e2] at h2⊢;exact h2
     .rw[Gai e1] at h1;by_cases e2:y=z
      .subst e2;rw[Gai e1];exact h1
      .rw[Gai e2] at h2;by_cases e3:x=z
       .subst e3;have:=L.tr x y x h1 h2;rw[L.irr] at this;cases this
       .rw[Gai e3];exact L.tr x y z h1 h2
 .induction a with
  |nil=>
   intro b h1 h2;cases b with
   |nil=>rfl
   |cons y ys=>simp[dh] at h1
  |cons x xs ih=>
   intro b h1 h2;cases b with
   |nil=>simp[dh] at h2
   |cons y ys=>
    unfold dh at h1 h2;by_cases e:x=y
    .subst e;rw[Gaj rfl] at h1 h2;rw[ih ys h1 h2]
    .rw[Gai e] at h1;rw[Gai (Ne.symm e)] at h2;exact absurd (L.tot x y h1 h2) e
theorem uA.nt(L:uA lt){k x y:α}(h1:lt k y=true)(h2:lt x y=false):lt k x=true:=by
 cases h:lt y x with
 |true=>exact L.tr k y x h1 h
 |false=>rw[L.tot x y h2 h];exact h1
theorem uA.QO(L:uA lt){x y:α}(h:lt x y=true):lt y x=false:=by
 cases q:lt y x with
 |false=>rfl
 |true=>have:=L.tr x y x h q;rw[L.irr] at this;cases this
end
theorem EB:uA ltC:=QN.lex.lex
noncomputable def rank(cs:List (List (List Int)))(i:Nat):Int:=((cs.filter λc=>ltC c (cs[i]?.getD [])).length:Nat)
theorem lD{α:Type}{p q:α->Bool}:∀{l:List α},(∀x∈l,p x=true->q x=true)->(l.filter p).length<=(l.filter q).length
 |[],_=>Gap _
 |x::l,h=>by
  have ih:=lD (l:=l) λy hy=>h y (Gag _ hy);have hx:=h x Gak;cases hp:p x with
  |false=>
   rw[Gbl,hp];simp only[Gbe,GbR];refine Gbo ih ?_;rw[Gbl];split
   .rw[GaE];lia
   .exact Gap _
  |true=>rw[Gbl,Gbl,hp,hx hp];simp;exact ih
theorem kZ{α:Type}{p q:α->Bool}:∀{l:List α} {z:α},z∈l->p z=false->q z=true->(∀x∈l,p x=true->q x=true)->(l.filter p).length<(l.filter q).length
 |[],z,hz,_,_,_=>by cases hz
 |x::l,z,hz,h1,h2,h=>by
  rcases GaB.mp hz with e|hz
  .subst e;have:=lD (l:=l) (p:=p) (q:=q) λy hy=>h y (Gag _ hy);rw[Gbl,Gbl,h1,h2];simp;lia
  .have ih:=kZ hz h1 h2 λy hy=>h y (Gag _ hy);have hx:=h x Gak;cases hp:p x with
   |false=>
    rw[Gbl,hp];simp only[Gbe,GbR];rw[Gbl];split
    .rw[GaE];lia
    .exact ih
   |true=>rw[Gbl,Gbl,hp,hx hp];simp;exact ih
theorem CZ{cs:List (List (List Int))}{i j:Nat}(hi:i<cs.length)(hj:j<cs.length):decide (rank cs i<rank cs j)=ltC cs[i] cs[j]:=by
 unfold rank;rw[Gab hi,Gab hj];simp only[Option.getD_some];cases h:ltC cs[i] cs[j] with
 |true=>
  refine Gaz (Int.ofNat_lt.mpr ?_);exact kZ (z:=cs[i]) (GaF hi) (EB.irr _) h λc _ hc=>EB.tr _ _ _ hc h
 |false=>
  refine Gau (Gda.mpr (Int.ofNat_le.mpr ?_));exact lD λc _ hc=>EB.nt hc h
def gR(ds:List D):Prop:=ds.Pairwise λa b=>ltC (code b) (code a)=false
theorem nN(d:D):∀es:List D,(Ez d es).Perm (d::es)
 |[]=>List.Perm.refl _
 |e::es=>by
  unfold Ez;split
  .exact List.Perm.refl _
  .exact((nN d es).cons e).trans (List.Perm.swap d e es)
theorem bS:∀ds:List D,(bY ds).Perm ds
 |[]=>List.Perm.refl _
 |d::ds=>(nN d _).trans ((bS ds).cons d)
theorem oJ(d:D):∀{es:List D},gR es->gR (Ez d es)
 |[],_=>List.pairwise_singleton _ _
 |e::es,h=>by
  have h' :=GaY.mp h;unfold Ez;split
  .rename_i c;refine GaY.mpr ⟨λb hb=> ?_,h⟩;rcases GaB.mp hb with q|q
   .subst q;exact EB.QO c
   .cases z:ltC (code b) (code d) with
    |false=>rfl
    |true=>have:=EB.tr _ _ _ z c;rw[h'.1 b q] at this;cases this
  .rename_i c;refine GaY.mpr ⟨λb hb=> ?_,oJ d h'.2⟩;rcases GaB.mp ((nN d es).mem_iff.mp hb) with q|q
   .subst q;simpa using c
   .exact h'.1 b q
theorem dW:∀ds:List D,gR (bY ds)
 |[]=>List.Pairwise.nil
 |d::ds=>oJ d (dW ds)
theorem i8:∀{xs ys:List D},xs.Perm ys->gR xs->gR ys->(∀a∈xs,∀b∈xs,code a=code b->a=b)->xs=ys
 |[],ys,hp,_,_,_=>(List.nil_perm.mp hp).symm
 |x::xs,ys,hp,hx,hy,hi=>by
  cases ys with
  |nil=>exact absurd (List.perm_nil.mp hp) (by simp)
  |cons y ys=>
   have px:=GaY.mp hx;have py:=GaY.mp hy;have e:x=y:=by
    have mx:x∈y::ys:=hp.mem_iff.mp Gak;have my:y∈x::xs:=hp.mem_iff.mpr Gak;rcases GaB.mp mx with q|q
    .exact q
    .rcases GaB.mp my with r|r
     .exact r.symm
     .exact hi x Gak y my (EB.tot _ _ (py.1 x q) (px.1 y r)).symm.symm
   subst e;rw[i8 (List.perm_cons x|>.mp hp) px.2 py.2 λa ha b hb=>hi a (Gag _ ha) b (Gag _ hb)]
@[simp] noncomputable def dm:Nat->List D->List D
 |_,[]=>[]
 |i,x::xs=> .tup [.int i,x]::dm (i+1) xs
@[simp] noncomputable def D0(f:DE):DI:=λenv=>(f env).bind λr=>if r.k= .to then none else match r.d with
 | .lst xs=>some (dm 0 xs)
 | .tup xs=>some (dm 0 xs)
 |_=>none
theorem iG:∀(i:Nat) (xs:List D),(dm i xs).length=xs.length
 |_,[]=>rfl
 |i,x::xs=>by simp[iG (i+1) xs]
theorem iH:∀(k:Nat) (xs:List D) (i:Nat),(dm k xs)[i]? =(xs[i]?).map λx=> .tup [.int ((k+i:Nat)),x]
 |_,[],i=>by simp
 |k,x::xs,i=>by
  cases i with
  |zero=>simp
  |succ i=>
   simp only[dm,GcD];rw[iH (k+1) xs i,show k+1+i=k+(i+1) by lia]
noncomputable def l4(x:D)(ds:List D):Option Bool:=if aD 10 x&&ds.all (aD 10) then some (ds.any λy=>eqD y x) else none
noncomputable def inB(x y:D):Option Bool:=match y with
 | .dK eC=>(keyOf x).map λk=>(look eC k).isSome
 | .dT eC=>match x with
  | .tup ks=>(keysOf ks).map λk=>(look eC k).isSome
  |_=>none
 | .lst ds=>l4 x ds
 | .tup ds=>l4 x ds
 |_=>none
noncomputable def Bk(x y:D):Option Bool:=(inB x y).map (!·)
@[simp] theorem QP{x:D}{eC:List (Key×D)}:inB x (.dK eC)=(keyOf x).map λk=>(look eC k).isSome:=rfl
@[simp] theorem QQ{ks:List D}{eC:List (List Key×D)}:inB (.tup ks) (.dT eC)=(keysOf ks).map λk=>(look eC k).isSome:=rfl
noncomputable def Bl:List D->Option RV
 |[.int i]=>some ⟨.c,.int i⟩
 |[.bl b]=>some ⟨.c,.int (if b then 1 else 0)⟩
 |_=>none
@[simp] theorem OT{i:Int}:Bl [.int i]=some ⟨.c,.int i⟩:=rfl
@[simp] theorem Qi{b:Bool}:Bl [.bl b]=some ⟨.c,.int (if b then 1 else 0)⟩:=rfl
noncomputable def fG{α:Type}(xs:List α)(i:Int)(y:α):List α:=xs.take (if i<0 then(i+(xs.length:Int)).toNat else min i.toNat xs.length)++y::xs.drop (if i<0 then(i+(xs.length:Int)).toNat else min i.toNat xs.length)
theorem sY{α:Type}(xs:List α)(i:Int)(y:α):(fG xs i y).length=xs.length+1:=by
 unfold fG;rw[Gah,GaE,GcZ,Gcc];lia
theorem Bm{α:Type}(xs:List α)(i:Int)(y:α):(fG xs i y).Perm (y::xs):=by
 unfold fG;refine GdD.trans ?_;rw[List.take_append_drop]
@[simp] noncomputable def OU(i:Nat)(k v:DE):DS:=λenv=>(k env).bind λx=>(v env).bind λr=>(ownAt i env).bind λd=>match d,x.d with
 | .lst xs,.int j=>if r.free&&(decide (xs.length<a9)&&aY j) then some (.nx (env.set i (some (.own (.lst (fG xs j r.d)))))) else none
 |_,_=>none
noncomputable def mmD(best:Int->List Int->Int)(dv:D)(d:D):Option RV:=(jH d).bind λds=>(CV ds).map λns=>match ns with
 |[]=> ⟨.c,dv⟩
 |n::ns=> ⟨.c,.int (best n ns)⟩
@[simp] noncomputable def mmE(best:Int->List Int->Int)(dv:D)(f:DE):DE:=λenv=>(f env).bind λr=>mmD best dv r.d
noncomputable def unI:D->Int
 | .int i=>i
 |_=>0
noncomputable def M4:Key->D
 | .inl i=> .int i
 | .inr x=> .str x
noncomputable def EC:D->D->Option (Option D)
 | .dK eC,k=>(keyOf k).map λk=>look eC k
 | .dT eC,.tup ks=>(keysOf ks).map λk=>look eC k
 |_,_=>none
@[simp] noncomputable def Ju(o k d:DE):DE:=λenv=>(o env).bind λx=>(k env).bind λy=>(d env).bind λr=>if r.k= .c then(EC x.d y.d).map λv=> ⟨.c,v.getD r.d⟩ else none
@[simp] theorem Qj{eC:List (List Key×D)}{ks:List D}:EC (.dT eC) (.tup ks)=(keysOf ks).map λk=>look eC k:=rfl
noncomputable def cN(eC:List (List Key×D)):List D:=eC.map λp=> .tup [.tup (p.1.map M4),p.2]
@[simp] noncomputable def Gw(vw:List (List Key×D)->List D)(f:DE):DI:=λenv=>(f env).bind λr=>if r.k= .tn then match r.d with
 | .dT eC=>some (vw eC)
 |_=>none
 else none
@[simp] noncomputable def OV(i:Nat)(env:Env):Bool:=(List.range env.length).all λj=>j==i||match env[j]? with
 |some (some (.bor _))=>false
 |_=>true
@[simp] noncomputable def dictAt(i:Nat)(env:Env):Option (List (List Key×D)):=match env[i]? with
 |some (some (.own (.dT eC)))=>some eC
 |some (some (.lok (.dT eC)))=>some eC
 |some (some (.bor (.dT eC)))=>if OV i env then some eC else none
 |_=>none
@[simp] noncomputable def uB(vw:List (List Key×D)->List D)(i n:Nat)(ax:List Nat)(g:DG)(t:DT)(f:DE):DE:=λenv=>(dictAt i env).bind λeC=>
 if(vw eC).length<=a9 then(bX g t f (vw eC) (compEnv n ax (env.set i none))).map λrs=> ⟨.tn,.lst rs⟩ else none
noncomputable def uC:D->Bool
 | .tup (_::_)=>true
 |_=>false
@[simp] noncomputable def D1(env:Env):Bool:=env.all λz=>match z with
 |some (.bor _)=>false
 |_=>true
noncomputable def dd1(ks:List Int)(k:Int):List Int:=if k∈ks then ks else ks++[k]
noncomputable def ddF(ns:List Int):List Int:=ns.foldl dd1 []
abbrev Rws:=List (List Key×D)
abbrev DM:=Env->Rws->Option (Env×Rws)
@[simp] noncomputable def OW(f g:DM):DM:=λenv eh=>(f env eh).bind λq=>g q.1 q.2
@[simp] noncomputable def setM(j:Nat)(f:DE):DM:=λenv eh=>(f env).bind λr=>match r.k with
 | .c=>some (env.set j (some (.sh r.d)),eh)
 |_=>none
noncomputable def Gx(eC:Rws)(k:List Key)(d:D):Option Rws:=if eC.length<a9 then match eC.findIdx? (λp=>decide (p.1=k)) with
 |some j=>match eC[j]? with
  |some (_,.lst ds)=>if ds.length<a9 then some (eC.set j (k,.lst (ds++[d]))) else none
  |_=>none
 |none=>some (eC++[(k,.lst [d])])
 else none
@[simp] noncomputable def OX(k f:DE):DM:=λenv eh=>(k env).bind λy=>(f env).bind λr=>match y.d with
 | .tup ks=>if r.d.imm&&D1 env then(keysOf ks).bind λk=>(Gx eh k r.d).map λxX =>(env,xX) else none
 |_=>none
@[simp] noncomputable def mD(j:Nat)(f:DM):List D->DM
 |[],env,eh=>some (env,eh)
 |d::ds,env,eh=>(f (env.set j (some (.sh d))) eh).bind λq=>mD j f ds q.1 q.2
@[simp] noncomputable def L9(j:Nat)(e:DE)(f:DM):DM:=λenv eh=>(e env).bind λr=>match r.d with
 | .tup xs=>if aC xs then mD j f xs env eh else none
 |_=>none
@[simp] noncomputable def Gy(i:Nat)(f:DM):DS:=λenv=>(f (env.set i none) []).bind λq=>some (.ret (.dT q.2))
noncomputable def fH:D->D->Option RV
 | .tup [],.tup y=>some ⟨.c,.tup y⟩
 |x,y=>aA x y
noncomputable def ED(i:Nat)(env:Env):Bool:=(List.range env.length).all λj=>j==i||match env[j]? with
 |some none=>true
 |some (some (.sh d))=>d.imm
 |_=>false
noncomputable def imN:Nat->D->Bool
 |_,.int _=>true
 |_,.str _=>true
 |n+1,.tup ds=>ds.all (imN n)
 |_,_=>false
noncomputable def mE(acc:List D)(d:D):List D:=if acc.any (λe=>eqD e d) then acc else acc++[d]
noncomputable def nO(ds:List D):List D:=ds.foldl mE []
noncomputable def qe(ds:List D):Bool:=decide (ds.length<64)&&(ds.all λd=>uC d&&imN 4 d)&&keysOk ds
noncomputable def qf(f:DE):DE:=λenv=>(f env).bind λr=>match r.d with
 | .lst ds=>if qe ds then some ⟨.tn,.lst (bY (nO ds))⟩ else none
 |_=>none
noncomputable def intsOf:List D->Option (List Int)
 |[]=>some []
 | .int i::ds=>(intsOf ds).map (i:: ·)
 |_=>none
noncomputable def Jv:List Int->List Int->Bool
 |[],[]=>false
 |[],_::_=>true
 |_::_,[]=>false
 |x::xs,y::ys=>if x=y then Jv xs ys else decide (x<y)
noncomputable def Jw:D->D->Option Bool
 | .tup as,.tup bs=>(intsOf as).bind λx=>(intsOf bs).map λy=>Jv x y
 |_,_=>none
open PySem PySem.Spec PyProof.Rows L2
abbrev ao:=PySem.W.Frag
abbrev St:=L2.St
def isT:HO->Prop
 | .tup _=>True
 | .frz _ _=>True
 |_=>False
def Kl(K:ao)(a:Addr)(xs:List V):Prop:=∃(o:Obj) (its:Array Value) (n:Nat),K.lookup a=some o/\o.cls= .type "list"/\o.dict=none/\o.data= .seq its n/\its.size<=sizeLine/\Vals xs its.toList
def Scr(K:ao)(H:Hp)(a:Addr)(ns:List Int):Prop:=(∃o,H a=some (.frz o (.lst (ns.map V.int))))\/Kl K a (ns.map V.int)
def Xc(H:Hp)(a:Addr)(C:Nat)(n:Str)(v:V):Prop:=∃dx vs sl od,H a=some (.frz {cls:= .ref C,dict:=some dx,data:= .fields vs,slots:=sl} (.own a))/\H dx=some (.frz od (.xd [(n,v)]))
inductive Rep (K:ao) (F:Addr->Prop) (H:Hp):D->V->Prop where
 |non:Rep K F H .non .non
 |bl (b:Bool):Rep K F H (.bl b) (.bl b)
 |int (i:Int):Rep K F H (.int i) (.int i)
 |str (x:Str):Rep K F H (.str x) (.str x)
 |tup {a:Addr} {vs:List V} {ds:List D} (h:H a=some (.tup vs)) (l:ds.length=vs.length) (r:∀(i:Nat) d v,ds[i]? =some d->vs[i]? =some v->Rep K F H d v):Rep K F H (.tup ds) (.ref a)
 |lst {a:Addr} {vs:List V} {ds:List D} (f:F a) (h:Rd H a (.lst vs)) (l:ds.length=vs.length) (r:∀(i:Nat) d v,ds[i]? =some d->vs[i]? =some v->Rep K F H d v):Rep K F H (.lst ds) (.ref a)
 |scr {a:Addr} {ns:List Int} (h:Scr K H a ns):Rep K F H (.scr ns) (.ref a)
 |exc {a:Addr} {C:Nat} {n:Str} {v:V} {d:D} (h:Xc H a C n v) (r:Rep K F H d v):Rep K F H (.exc C n d) (.ref a)
 |dK {a:Addr} {ws:List (Key×V)} {eC:List (Key×D)} (f:F a) (h:H a=some (.dK ws)) (l:eC.map (·.1)=ws.map (·.1)) (r:∀(i:Nat) p q,eC[i]? =some p->ws[i]? =some q->Rep K F H p.2 q.2):Rep K F H (.dK eC) (.ref a)
 |dT {a:Addr} {ws:List (List Key×V)} {eC:List (List Key×D)} (f:F a) (h:H a=some (.dT ws)) (l:eC.map (·.1)=ws.map (·.1)) (r:∀(i:Nat) p q,eC[i]? =some p->ws[i]? =some q->Rep K F H p.2 q.2):Rep K F H (.dT eC) (.ref a)
def aI(K:ao)(F:Addr->Prop)(H:Hp)(ds:List D)(vs:List V):Prop:=ds.length=vs.length/\∀(i:Nat) d v,ds[i]? =some d->vs[i]? =some v->Rep K F H d v
def aP{Y:Type}(K:ao)(F:Addr->Prop)(H:Hp)(eC:List (Y×D))(ws:List (Y×V)):Prop:=eC.map (·.1)=ws.map (·.1)/\∀(i:Nat) p q,eC[i]? =some p->ws[i]? =some q->Rep K F H p.2 q.2
inductive Inn (K:ao) (F:Addr->Prop) (H:Hp):D->V->Prop where
 |non:Inn K F H .non .non
 |bl (b:Bool):Inn K F H (.bl b) (.bl b)
 |int (i:Int):Inn K F H (.int i) (.int i)
 |str (x:Str):Inn K F H (.str x) (.str x)
 |tup {a:Addr} {vs:List V} {ds:List D} (h:H a=some (.tup vs)) (r:aI K F H ds vs):Inn K F H (.tup ds) (.ref a)
 |lst {a:Addr} {vs:List V} {ds:List D} (h:Rd H a (.lst vs)) (r:aI K F H ds vs):Inn K F H (.lst ds) (.ref a)
 |scr {a:Addr} {ns:List Int} (h:Scr K H a ns):Inn K F H (.scr ns) (.ref a)
 |exc {a:Addr} {C:Nat} {n:Str} {v:V} {d:D} (h:Xc H a C n v) (r:Rep K F H d v):Inn K F H (.exc C n d) (.ref a)
 |dK {a:Addr} {ws:List (Key×V)} {eC:List (Key×D)} (h:H a=some (.dK ws)) (r:aP K F H eC ws):Inn K F H (.dK eC) (.ref a)
 |dT {a:Addr} {ws:List (List Key×V)} {eC:List (List Key×D)} (h:H a=some (.dT ws)) (r:aP K F H eC ws):Inn K F H (.dT eC) (.ref a)
section
variable{K:ao}{F F' :Addr->Prop}{H H' :Hp}{d:D}{v:V}{ds:List D}{vs:List V}
theorem Rep.inn(h:Rep K F H d v):Inn K F H d v:=by
 cases h with
 |non=>exact .non
 |bl b=>exact .bl b
 |int i=>exact .int i
 |str x=>exact .str x
 |tup h l r=>exact .tup h ⟨l,r⟩
 |lst f h l r=>exact .lst h ⟨l,r⟩
 |scr h=>exact .scr h
 |exc h r=>exact .exc h r
 |dK f h l r=>exact .dK h ⟨l,r⟩
 |dT f h l r=>exact .dT h ⟨l,r⟩
theorem Inn.rep(h:Inn K F H d v)(hf:∀a,v= .ref a->d.top=true->F a):Rep K F H d v:=by
 cases h with
 |non=>exact .non
 |bl b=>exact .bl b
 |int i=>exact .int i
 |str x=>exact .str x
 |tup h r=>exact .tup h r.1 r.2
 |lst h r=>exact .lst (hf _ rfl rfl) h r.1 r.2
 |scr h=>exact .scr h
 |exc h r=>exact .exc h r
 |dK h r=>exact .dK (hf _ rfl rfl) h r.1 r.2
 |dT h r=>exact .dT (hf _ rfl rfl) h r.1 r.2
def fS(F:Addr->Prop)(H H' :Hp):Prop:=∀b o,H b=some o->(F b\/isT o)->H' b=some o
theorem fS.of_same(h:bR H H'):fS F H H' :=λb o e _=>h b o e
theorem fS.tup{a:Addr}(s:fS F H H')(h:H a=some (.tup vs)):H' a=some (.tup vs):=s _ _ h (.inr trivial)
theorem fS.scr{a:Addr}{ns:List Int}(s:fS F H H')(h:Scr K H a ns):Scr K H' a ns:=by
 rcases h with⟨o,h⟩|h
 .exact .inl ⟨o,s _ _ h (.inr trivial)⟩
 .exact .inr h
variable{a:Addr}
theorem fS.xc{C:Nat}{n:Str}(s:fS F H H')(h:Xc H a C n v):Xc H' a C n v:=let⟨dx,vs,sl,od,h1,h2⟩:=h;⟨dx,vs,sl,od,s _ _ h1 (.inr trivial),s _ _ h2 (.inr trivial)⟩
variable{u:HO}
theorem fS.rd(s:fS F H H')(f:F a)(h:Rd H a u):Rd H' a u:=by
 rcases h with h| ⟨o,h⟩
 .exact .inl (s _ _ h (.inl f))
 .exact .inr ⟨o,s _ _ h (.inl f)⟩
theorem Rd.there(h:Rd H a u):H a≠none:=by
 rcases h with h| ⟨o,h⟩<;>rw[h]<;>simp
theorem Rep.gen(s:fS F H H')(hF:∀b,F b->H b≠none->F' b)(h:Rep K F H d v):Rep K F' H' d v:=by
 induction h with
 |non=>exact .non
 |bl b=>exact .bl b
 |int i=>exact .int i
 |str x=>exact .str x
 |tup h l r ih=>exact .tup (s.tup h) l ih
 |lst f h l r ih=>exact .lst (hF _ f (Rd.there h)) (s.rd f h) l ih
 |scr h=>exact .scr (s.scr h)
 |exc h r ih=>exact .exc (s.xc h) ih
 |dK f h l r ih=>exact .dK (hF _ f (by rw[h];simp)) (s _ _ h (.inl f)) l ih
 |dT f h l r ih=>exact .dT (hF _ f (by rw[h];simp)) (s _ _ h (.inl f)) l ih
theorem Rep.same(s:bR H H')(h:Rep K F H d v):Rep K F H' d v:=h.gen (.of_same s) λ_ f _=>f
theorem Rep.imp(hF:∀b,F b->F' b)(h:Rep K F H d v):Rep K F' H d v:=h.gen (.of_same λ_ _ e=>e) λb f _=>hF b f
theorem aI.gen(s:fS F H H')(hF:∀b,F b->H b≠none->F' b)(h:aI K F H ds vs):aI K F' H' ds vs:=⟨h.1,λi d v e1 e2=>(h.2 i d v e1 e2).gen s hF⟩
theorem aP.gen{Y:Type}{eC:List (Y×D)}{ws:List (Y×V)}(s:fS F H H')(hF:∀b,F b->H b≠none->F' b)(h:aP K F H eC ws):aP K F' H' eC ws:=⟨h.1,λi p q e1 e2=>(h.2 i p q e1 e2).gen s hF⟩
theorem Inn.gen(s:fS F H H')(hF:∀b,F b->H b≠none->F' b)(ht:∀a,v= .ref a->d.top=true->∀o,H a=some o->H' a=some o)(h:Inn K F H d v):Inn K F' H' d v:=by
 have rd:∀{a:Addr} {u:HO},(∀o,H a=some o->H' a=some o)->Rd H a u->Rd H' a u:=λk h=>by
  rcases h with h| ⟨o,h⟩
  .exact .inl (k _ h)
  .exact .inr ⟨o,k _ h⟩
 cases h with
 |non=>exact .non
 |bl b=>exact .bl b
 |int i=>exact .int i
 |str x=>exact .str x
 |tup h r=>exact .tup (s.tup h) (r.gen s hF)
 |lst h r=>exact .lst (rd (ht _ rfl rfl) h) (r.gen s hF)
 |scr h=>exact .scr (s.scr h)
 |exc h r=>exact .exc (s.xc h) (r.gen s hF)
 |dK h r=>exact .dK (ht _ rfl rfl _ h) (r.gen s hF)
 |dT h r=>exact .dT (ht _ rfl rfl _ h) (r.gen s hF)
theorem Inn.same(s:bR H H')(h:Inn K F H d v):Inn K F H' d v:=h.gen (.of_same s) (λ_ f _=>f) λ_ _ _ o e=>s _ o e
theorem Inn.imp(hF:∀b,F b->F' b)(h:Inn K F H d v):Inn K F' H d v:=h.gen (.of_same λ_ _ e=>e) (λb f _=>hF b f) λ_ _ _ _ e=>e
theorem Inn.any(h:Inn K F H d v):Rep K (λ_=>True) H d v:=(h.imp (F' :=λ_=>True) λ_ _=>trivial).rep λ_ _ _=>trivial
theorem pD{ds:List D}(h:aC ds=true):∀(i:Nat) d,ds[i]? =some d->d.imm=true:=by
 induction ds with
 |nil=>intro i d e;simp at e
 |cons x xs ih=>
  unfold aC at h;rw[Gas] at h;intro i d e;cases i with
  |zero=>simp at e;subst e;exact h.1
  |succ i=>exact ih h.2 i d (by simpa using e)
theorem Rep.imm(h:Rep K F H d v)(hd:d.imm=true):Rep K F' H d v:=by
 induction h with
 |non=>exact .non
 |bl b=>exact .bl b
 |int i=>exact .int i
 |str x=>exact .str x
 |tup h l r ih=>
  unfold D.imm at hd;exact .tup h l λi d v e1 e2=>ih i d v e1 e2 (pD hd i d e1)
 |lst f h l r ih=>simp[D.imm] at hd
 |scr h=>exact .scr h
 |exc h r ih=>
  unfold D.imm at hd;exact .exc h (ih hd)
 |dK f h l r ih=>simp[D.imm] at hd
 |dT f h l r ih=>simp[D.imm] at hd
theorem Inn.imm(h:Inn K F H d v)(hd:d.imm=true):Rep K F' H d v:=by
 refine Rep.imm (h.rep λa _ ht=> ?_) hd;cases d<;>simp[D.top] at ht<;>simp[D.imm] at hd
theorem aI.nil:aI K F H [] []:=⟨rfl,λi d v e=>by simp at e⟩
theorem aI.cf(h:aI K F H [] vs):vs=[]:=GcM h.1.symm
theorem aI.cons(h:Rep K F H d v)(r:aI K F H ds vs):aI K F H (d::ds) (v::vs):=by
 refine⟨by simp[r.1],λi x u e1 e2=> ?_⟩;cases i with
 |zero=>simp at e1 e2;subst e1;subst e2;exact h
 |succ i=>exact r.2 i x u (by simpa using e1) (by simpa using e2)
theorem aI.cons_inv(h:aI K F H (d::ds) vs):∃v r,vs=v::r/\Rep K F H d v/\aI K F H ds r:=by
 cases vs with
 |nil=>exact absurd h.1 (by simp)
 |cons v r=>exact⟨v,r,rfl,h.2 0 d v rfl rfl,by simpa using h.1,λi x u e1 e2=>h.2 (i+1) x u (by simpa using e1) (by simpa using e2)⟩
theorem aI.append:∀{ds es:List D} {vs us:List V},aI K F H ds vs->aI K F H es us->aI K F H (ds++es) (vs++us)
 |[],es,vs,us,h,r=>by rw[h.cf];exact r
 |d::ds,es,vs,us,h,r=>by
  obtain⟨v,w,rfl,h1,h2⟩:=h.cons_inv;exact .cons h1 (h2.append r)
theorem aI.take(n:Nat)(h:aI K F H ds vs):aI K F H (ds.take n) (vs.take n):=by
 refine⟨by simp[h.1],λi x u e1 e2=> ?_⟩;by_cases hi:i<n
 .rw[Gcv hi] at e1 e2;exact h.2 i x u e1 e2
 .rw[Gbj (by simp;lia)] at e1;cases e1
theorem aI.drop(n:Nat)(h:aI K F H ds vs):aI K F H (ds.drop n) (vs.drop n):=by
 refine⟨by simp[h.1],λi x u e1 e2=> ?_⟩;rw[Gdm] at e1 e2;exact h.2 _ x u e1 e2
theorem aI.set(h:aI K F H ds vs)(r:Rep K F H d v)(i:Nat):aI K F H (ds.set i d) (vs.set i v):=by
 refine⟨by simp[h.1],λj x u e1 e2=> ?_⟩;by_cases hj:i=j
 .subst hj;have hi:i<ds.length:=by have:=(Gal.mp e1).1;simpa using this
  rw[GaZ hi] at e1;rw[GaZ (by rw[<-h.1];exact hi)] at e2;cases e1;cases e2;exact r
 .rw[Gae hj] at e1 e2;exact h.2 j x u e1 e2
theorem aI.get{i:Nat}(h:aI K F H ds vs)(e:ds[i]? =some d):∃v,vs[i]? =some v/\Rep K F H d v:=by
 have hi:=(Gal.mp e).1;have eZ :i<vs.length:=by rw[<-h.1];exact hi
 exact⟨vs[i],by simp[eZ],h.2 i d _ e (by simp[eZ])⟩
theorem aI.imm(h:aI K F H ds vs)(hd:aC ds=true):aI K F' H ds vs:=⟨h.1,λi d v e1 e2=>(h.2 i d v e1 e2).imm (pD hd i d e1)⟩
end
def aW:Option (Option Slot)->Prop
 |some (some (.own _))=>True
 |some (some (.lok _))=>True
 |some (some (.bor _))=>True
 |_=>False
def wq:Option (Option Slot)->Prop
 |some (some (.own _))=>True
 |some (some (.lok _))=>True
 |_=>False
def isO:Option (Option Slot)->Prop
 |some (some (.own _))=>True
 |_=>False
def wx:Option (Option Slot)->Prop
 |some (some (.lok _))=>True
 |some (some (.bor _))=>True
 |_=>False
variable{x:Option (Option Slot)}
theorem sZ(h:aW x):isO x\/wx x:=by
 match x,h with
 |some (some (.own _)),_=>exact .inl trivial
 |some (some (.lok _)),_=>exact .inr trivial
 |some (some (.bor _)),_=>exact .inr trivial
theorem wx.top(h:wx x):aW x:=by
 match x,h with
 |some (some (.lok _)),_=>trivial
 |some (some (.bor _)),_=>trivial
theorem isO.ol(h:isO x):wq x:=by
 match x,h with
 |some (some (.own _)),_=>trivial
theorem wq.top(h:wq x):aW x:=by
 match x,h with
 |some (some (.own _)),_=>trivial
 |some (some (.lok _)),_=>trivial
def Cln(eD:Addr->Prop)(env:Env)(Z:St)(a:Addr):Prop:=¬eD a/\∀i:Nat,aW env[i]? ->Z[i]? ≠some (some (V.ref a))
def isW:HO->Prop
 | .lst _=>True
 | .dK _=>True
 | .dT _=>True
 |_=>False
def Wr(H:Hp)(a:Addr):Prop:=∃o,H a=some o/\isW o
def Ow(env:Env)(Z:St)(a:Addr):Prop:=∃i:Nat,isO env[i]? /\Z[i]? =some (some (.ref a))
structure au(K:ao)(H0:Hp)(eD:Addr->Prop)(env:Env)(Z:St)(H:Hp):Prop where
 same:bR H0 H
 len:env.length=Z.length
 bad:∀a,eD a->H a≠none
 sh:∀(i:Nat) d,env[i]? =some (some (.sh d))->∃v,Z[i]? =some (some v)/\Rep K (Cln eD env Z) H d v
 ow:∀(i:Nat) d,(env[i]? =some (some (.own d))\/env[i]? =some (some (.lok d)))->∃a,Z[i]? =some (some (.ref a))/\H0 a=none/\¬eD a/\Wr H a/\d.top=true/\Inn K (Cln eD env Z) H d (.ref a)
 bo:∀(i:Nat) d,env[i]? =some (some (.bor d))->∃a,Z[i]? =some (some (.ref a))/\Wr H a/\d.top=true/\Inn K (Cln eD env Z) H d (.ref a)
 dj:∀(i j:Nat) a,wq env[i]? ->aW env[j]? ->Z[i]? =some (some (.ref a))->Z[j]? =some (some (.ref a))->i=j
structure Stp(env:Env)(Z:St)(H:Hp)(eP :Env)(Z' :St)(H' :Hp):Prop where
 keep:∀b o,H b=some o->¬Ow env Z b->H' b=some o
 ow:∀b,Ow eP Z' b->Ow env Z b\/H b=none
 lk:∀i:Nat,wx eP[i]? ->eP[i]? =env[i]? /\Z'[i]? =Z[i]?
variable{H:Hp}{Z:St}{env:Env}
theorem Stp.refl:Stp env Z H env Z H:=⟨λ_ _ e _=>e,λ_ h=> .inl h,λ_ _=> ⟨rfl,rfl⟩⟩
theorem Stp.of_same{H' :Hp}(s:bR H H'):Stp env Z H env Z H' :=⟨λb o e _=>s b o e,λ_ h=> .inl h,λ_ _=> ⟨rfl,rfl⟩⟩
theorem Stp.trans{e1 e2 e3:Env}{s1 s2 s3:St}{H1 H2 H3:Hp}(a:Stp e1 s1 H1 e2 s2 H2)(b:Stp e2 s2 H2 e3 s3 H3):Stp e1 s1 H1 e3 s3 H3:=by
 refine⟨λc o e n=>b.keep c o (a.keep c o e n) λh=> ?_,λc h=> ?_,λi h=> ?_⟩
 .rcases a.ow c h with q|q
  .exact n q
  .rw[e] at q;cases q
 .rcases b.ow c h with q|q
  .exact a.ow c q
  .by_cases z:Ow e1 s1 c
   .exact .inl z
   .right
    cases e:H1 c with
    |none=>rfl
    |some o=>rw[a.keep c o e z] at q;cases q
 .obtain⟨h1,h2⟩:=b.lk i h;rw[h1] at h;obtain⟨h3,h4⟩:=a.lk i h;exact⟨h1.trans h3,h2.trans h4⟩
section
variable{K:ao}{H0 H H' H1:Hp}{eD:Addr->Prop}{env eP :Env}{Z Z' :St}{d:D}{v:V}{a:Addr}{i:Nat}
theorem Wr.same(s:bR H H')(w:Wr H a):Wr H' a:=let⟨o,h1,h2⟩:=w;⟨o,s a o h1,h2⟩
theorem Wr.there(w:Wr H a):H a≠none:=let⟨o,h1,_⟩:=w;by rw[h1];simp
theorem au.mono(E:au K H0 eD env Z H)(s:bR H H'):au K H0 eD env Z H' where
 same:=E.same.trans s
 len:=E.len
 bad:=λa h e=>E.bad a h (s.free e)
 sh:=λi d e=>let⟨v,h1,h2⟩:=E.sh i d e;⟨v,h1,h2.same s⟩
 ow:=λi d e=>let⟨a,h1,h2,h3,h4,h5,h6⟩:=E.ow i d e;⟨a,h1,h2,h3,h4.same s,h5,h6.same s⟩
 bo:=λi d e=>let⟨a,h1,h2,h3,h4⟩:=E.bo i d e;⟨a,h1,h2.same s,h3,h4.same s⟩
 dj:=E.dj
theorem au.OY(E:au K H0 eD env Z H)(h:aW env[i]?):∃d a,d.top=true/\Z[i]? =some (some (.ref a))/\Wr H a/\Inn K (Cln eD env Z) H d (.ref a):=by
 match e:env[i]?,h with
 |some (some (.own d)),_=>obtain⟨a,h1,_,_,h4,h5,h6⟩:=E.ow i d (.inl e);exact⟨d,a,h5,h1,h4,h6⟩
 |some (some (.lok d)),_=>obtain⟨a,h1,_,_,h4,h5,h6⟩:=E.ow i d (.inr e);exact⟨d,a,h5,h1,h4,h6⟩
 |some (some (.bor d)),_=>obtain⟨a,h1,h4,h5,h6⟩:=E.bo i d e;exact⟨d,a,h5,h1,h4,h6⟩
theorem au.La(E:au K H0 eD env Z H)(h:aW env[i]?)(e:Z[i]? =some (some (.ref a))):Wr H a:=by
 obtain⟨d,b,h1,h2,h3,h4⟩:=E.OY h;rw[e] at h2;cases h2
 exact h3
theorem au.mF(E:au K H0 eD env Z H)(h:aW env[i]?)(e:Z[i]? =some (some (.ref a))):H a≠none:=(E.La h e).there
theorem au.uD(E:au K H0 eD env Z H)(h:H a=none):Cln eD env Z a:=⟨λb=>E.bad a b h,λi t e=>E.mF t e h⟩
def i9(K:ao)(H0:Hp)(eD:Addr->Prop)(env:Env)(Z:St)(H H' :Hp)(r:RV)(v:V):Prop:=
 match r.k with
 | .c=>Rep K (Cln eD env Z) H' r.d v
 | .tn=>∃a,v= .ref a/\H a=none/\Wr H' a/\r.d.top=true/\Inn K (λb=>Cln eD env Z b/\b≠a) H' r.d v
 | .to=>∃a,v= .ref a/\H0 a=none/\Wr H' a/\r.d.top=true/\Inn K (Cln eD env Z) H' r.d v
 | .tb=>Inn K (Cln eD env Z) H' r.d v/\∀a,v= .ref a->r.d.top=true->¬Ow env Z a
theorem i9.inn{r:RV}(h:i9 K H0 eD env Z H H' r v):Inn K (Cln eD env Z) H' r.d v:=by
 obtain⟨k,d⟩:=r;cases k with
 |c=>exact Rep.inn h
 |tn=>obtain⟨_,_,_,_,_,h⟩:=h;exact h.imp λ_ z=>z.1
 |to=>obtain⟨_,_,_,_,_,h⟩:=h;exact h
 |tb=>exact h.1
theorem i9.rep{r:RV}(h:i9 K H0 eD env Z H H' r v)(E:au K H0 eD env Z H)(hf:r.free=true):Rep K (Cln eD env Z) H' r.d v:=by
 obtain⟨k,d⟩:=r;cases k with
 |c=>exact h
 |tn=>
  obtain⟨a,e,h1,_,_,h2⟩:=h;exact(h2.imp λ_ z=>z.1).rep λb eb _=>by rw[e] at eb;cases eb;exact E.uD h1
 |to=>simp[RV.free] at hf
 |tb=>simp[RV.free] at hf
theorem i9.same{r:RV}{H2:Hp}(h:i9 K H0 eD env Z H H' r v)(s:bR H' H2):i9 K H0 eD env Z H H2 r v:=by
 obtain⟨k,d⟩:=r;cases k with
 |c=>exact Rep.same s h
 |tn=>obtain⟨a,e,h1,w,t,h2⟩:=h;subst e;exact⟨a,rfl,h1,w.same s,t,h2.same s⟩
 |to=>obtain⟨a,e,h1,w,t,h2⟩:=h;subst e;exact⟨a,rfl,h1,w.same s,t,h2.same s⟩
 |tb=>exact⟨h.1.same s,h.2⟩
theorem i9.from{r:RV}(s:bR H H1)(h:i9 K H0 eD env Z H1 H' r v):i9 K H0 eD env Z H H' r v:=by
 obtain⟨k,d⟩:=r;cases k with
 |c=>exact h
 |tn=>obtain⟨a,e,h1,w,t,h2⟩:=h;exact⟨a,e,s.free h1,w,t,h2⟩
 |to=>exact h
 |tb=>exact h
def t8(K:ao)(H0 H' :Hp)(d:D)(v:V):Prop:=
 (d.top=true->∃a,v= .ref a/\H0 a=none/\Wr H' a)/\Inn K (λb=>H0 b=none/\v≠ .ref b) H' d v
theorem t8.rv(E:au K H0 eD env Z H)(h:t8 K H H' d v):i9 K H0 eD env Z H H' (i7 d) v:=by
 obtain⟨h1,h2⟩:=h;unfold i7;by_cases t:d.top=true
 .rw[Gaj t];obtain⟨a,e,n,w⟩:=h1 t;subst e;exact⟨a,rfl,n,w,t,h2.imp λb z=> ⟨E.uD z.1,λq=>z.2 (by rw[q])⟩⟩
 .rw[Gai t];exact(h2.imp λb z=>E.uD z.1).rep λ_ _ z=>absurd z t
end
def tE(X:Cx)(f:DE):TE:=λZ H Q=>∃H0 eD env r,au X.K H0 eD env Z H/\f env=some r/\∀v H',bR H H' ->i9 X.K H0 eD env Z H H' r v->Q v H'
def tT(X:Cx)(t:DT):TT:=λZ H Q=>∃H0 eD env b,au X.K H0 eD env Z H/\t env=some b/\∀H',bR H H' ->Q b H'
def tA(X:Cx)(a:DA):TA:=λZ H Q=>∃H0 eD env rs,au X.K H0 eD env Z H/\a env=some rs/\∀vs H',bR H H' ->Paired (i9 X.K H0 eD env Z H H') rs vs->Q vs H'
def OZ(X:Cx)(H0:Hp)(eD:Addr->Prop)(env:Env)(Z:St)(H:Hp)(E:Ends):Out->Prop
 | .nx e=>∀Z' H',au X.K H0 eD e Z' H' ->Stp env Z H e Z' H' ->E.nx Z' H'
 | .bk e=>∀Z' H',au X.K H0 eD e Z' H' ->Stp env Z H e Z' H' ->E.bk Z' H'
 | .ct e=>∀Z' H',au X.K H0 eD e Z' H' ->Stp env Z H e Z' H' ->E.ct Z' H'
 | .ret d=>∀v H',bR H0 H' ->t8 X.K H0 H' d v->E.rt v H'
def tS(X:Cx)(f:DS):TS:=λE Z H=>∃H0 eD env o,au X.K H0 eD env Z H/\f env=some o/\OZ X H0 eD env Z H E o
def tG(X:Cx)(g:DG):TG:=λv Z H Q=>∃H0 eD env d eP,au X.K H0 eD env Z H/\g d env=some eP /\Rep X.K (Cln eD env Z) H d v/\∀Z' H',au X.K H0 eD eP Z' H' ->Stp env Z H eP Z' H' ->Q Z' H'
abbrev PEd(X:Cx)(e:Expr)(f:DE):Prop:=PE X e (tE X f)
abbrev PTd(X:Cx)(e:Expr)(t:DT):Prop:=PT X e (tT X t)
abbrev PWd(X:Cx)(e:Expr)(t:DT):Prop:=PW X e (tT X t)
abbrev PAd(X:Cx)(es:List Expr)(a:DA):Prop:=PA X es (tA X a)
abbrev PSd(X:Cx)(st:Stmt)(f:DS):Prop:=PS X st (tS X f)
abbrev qg(X:Cx)(st:List Stmt)(f:DS):Prop:=PSs X st (tS X f)
abbrev PGd(X:Cx)(e:Expr)(g:DG):Prop:=PG X e (tG X g)
section
variable{X:Cx}{e a b c:Expr}{f g h:DE}{t u:DT}{pos:Pos}
theorem _root_.L2.PE.aE{t t' :TE}(h:PE X e t')(i:∀Z H Q,t Z H Q->t' Z H Q):PE X e t:=λe8 s Z H Q I q=>h e8 s Z H Q I (i Z H Q q)
variable{t' :TT}
theorem _root_.L2.PT.aE{t:TT}(h:PT X e t')(i:∀Z H Q,t Z H Q->t' Z H Q):PT X e t:=λe8 s Z H Q I q=>h e8 s Z H Q I (i Z H Q q)
theorem _root_.L2.PW.aE{t:TT}(h:PW X e t')(i:∀Z H Q,t Z H Q->t' Z H Q):PW X e t:=λwh e8 s Z H Q I q=>h wh e8 s Z H Q I (i Z H Q q)
theorem _root_.L2.PA.aE{es:List Expr}{t t' :TA}(h:PA X es t')(i:∀Z H Q,t Z H Q->t' Z H Q):PA X es t:=λpos e8 s Z H Q I q=>h pos e8 s Z H Q I (i Z H Q q)
theorem _root_.L2.PS.aE{st:Stmt}{t t' :TS}(h:PS X st t')(i:∀D Z H,t D Z H->t' D Z H):PS X st t:=λe8 s Z H D I q=>h e8 s Z H D I (i D Z H q)
theorem _root_.L2.PSs.aE{st:List Stmt}{t t' :TS}(h:PSs X st t')(i:∀D Z H,t D Z H->t' D Z H):PSs X st t:=λe8 s Z H D I q=>h e8 s Z H D I (i D Z H q)
theorem _root_.L2.PG.aE{t t' :TG}(h:PG X e t')(i:∀v Z H Q,t v Z H Q->t' v Z H Q):PG X e t:=λe8 s Z H v u Q I r q=>h e8 s Z H v u Q I r (i v Z H Q q)
variable{H:Hp}
theorem bB:bR H H:=λ_ _ e=>e
theorem eA{α β:Type}{o:Option α}{k:α->Option β}{y:β}(h:o.bind k=some y):∃x,o=some x/\k x=some y:=Option.bind_eq_some_iff.mp h
theorem Bn(i:Nat){x:Str}(hN:X.N[i]? =some x:=by rfl)(hv:Vis X.env.scope x:=by first|exact Or.inl rfl|exact Or.inr (Or.inl rfl)|exact Or.inr (Or.inr rfl))(hd:(x==("__debug__":Str))=false:=by decide)
  (xu:(x==("__classdict__":Str))=false:=by decide):PEd X (.Name x pos) (vE i):=by
 refine(jw hN hv hd xu).aE ?_;rintro Z H Q ⟨H0,eD,env,r,E,e,k⟩;unfold vE at e
 match q:env[i]?,e with
 |some (some (.sh d)),e=>
  cases e;obtain⟨v,h1,h2⟩:=E.sh i d q;exact⟨v,h1,k v H bB h2⟩
 |some (some (.own d)),e=>
  cases e;obtain⟨a,h1,h2,h3,h4,h5,h6⟩:=E.ow i d (.inl q);exact⟨_,h1,k _ H bB ⟨a,rfl,h2,h4,h5,h6⟩⟩
 |some (some (.lok d)),e=>
  cases e;obtain⟨a,h1,h2,h3,h4,h5,h6⟩:=E.ow i d (.inr q);refine⟨_,h1,k _ H bB ⟨h6,λb eb _ ⟨j,ho,hj⟩=> ?_⟩⟩;cases eb;have:=E.dj j i a ho.ol (by rw[q];trivial) hj h1;subst this;rw[q] at ho;exact ho
 |some (some (.bor d)),e=>
  cases e;obtain⟨a,h1,h4,h5,h6⟩:=E.bo i d q;refine⟨_,h1,k _ H bB ⟨h6,λb eb _ ⟨j,ho,hj⟩=> ?_⟩⟩;cases eb;have:=E.dj j i a ho.ol (by rw[q];trivial) hj h1;subst this;rw[q] at ho;exact ho
variable{j:Nat}
theorem nP{i:Int}:PEd X (.Constant (.int i) j pos) (kE (.int i)):=FZ.aE λZ H Q ⟨_,_,_,_,_,e,k⟩=>by cases e;exact k _ H bB (.int i)
theorem P0{b:Bool}:PEd X (.Constant (.bool b) j pos) (kE (.bl b)):=NK.aE λZ H Q ⟨_,_,_,_,_,e,k⟩=>by cases e;exact k _ H bB (.bl b)
theorem Bo:PEd X (.Constant .none j pos) (kE .non):=Lm.aE λZ H Q ⟨_,_,_,_,_,e,k⟩=>by cases e;exact k _ H bB .non
theorem Bp{x:Str}:PEd X (.Constant (.str x) j pos) (kE (.str x)):=Ln.aE λZ H Q ⟨_,_,_,_,_,e,k⟩=>by cases e;exact k _ H bB (.str x)
def RvN(K:ao)(F:Addr->Prop)(H H' :Hp)(r:RV)(v:V):Prop:=
 match r.k with
 | .c=>Rep K F H' r.d v
 | .tn=>∃a,v= .ref a/\H a=none/\Wr H' a/\r.d.top=true/\Inn K (λb=>F b/\b≠a) H' r.d v
 |_=>False
theorem RvN.ok{K:ao}{H0 H1 H' :Hp}{eD:Addr->Prop}{env:Env}{Z:St}{r:RV}{v:V}(h:RvN K (Cln eD env Z) H1 H' r v)(s:bR H H1):i9 K H0 eD env Z H H' r v:=by
 obtain⟨k,d⟩:=r;cases k with
 |c=>exact h
 |tn=>obtain⟨a,e,h1,w,t,h2⟩:=h;exact⟨a,e,s.free h1,w,t,h2⟩
 |to=>exact(show False from h).elim
 |tb=>exact(show False from h).elim
def OpD(X:Cx)(o:D->D->Option RV)(r:R2):Prop:=∀(F:Addr->Prop) (H:Hp) (dx dy:D) (x y:V) (rv:RV) (Q:VK),Inn X.K F H dx x->Inn X.K F H dy y->o dx dy=some rv->
 (∀v H',bR H H' ->RvN X.K F H H' rv v->Q v H')->r x y H Q
theorem qh{op:Operator}{o:D->D->Option RV}{r:R2}(ho:OpR X (binaryOp op) r)(hd:OpD X o r)(ha:PEd X a f)(hb:PEd X b g):PEd X (.BinOp a op b pos) (opE o f g):=by
 refine(NU ho ha hb).aE ?_;rintro Z H Q ⟨H0,eD,env,rv,E,e,k⟩;obtain⟨x,hx,e⟩:=eA e;obtain⟨y,hy,e⟩:=eA e;exact⟨H0,eD,env,x,E,hx,λvx H1 s1 R1=> ⟨H0,eD,env,y,E.mono s1,hy,λvy H2 s2 R2=>hd _ H2 x.d y.d vx vy rv Q (R1.inn.same s2) R2.inn e λv H3 s3 R3=>
  k v H3 (s1.trans (s2.trans s3)) (R3.ok (s1.trans s2))⟩⟩
variable{gi:Int->Int->Int}
theorem M5{o:D->D->Option RV}(h:∀dx dy rv,o dx dy=some rv->∃i j,dx= .int i/\dy= .int j/\rv=⟨.c,.int (gi i j)⟩):OpD X o (rI0 λi j=> .int (gi i j)):=by
 intro F H dx dy x y rv Q ix iy e k;obtain⟨i,j,rfl,rfl,rfl⟩:=h dx dy rv e;cases ix;cases iy
 exact⟨i,j,rfl,rfl,k _ H bB (.int _)⟩
theorem D2{o:D->D->Option RV}{C:Int->Int->Prop}(h:∀dx dy rv,o dx dy=some rv->∃i j,dx= .int i/\dy= .int j/\C i j/\rv=⟨.c,.int (gi i j)⟩):OpD X o (rI C λi j=> .int (gi i j)):=by
 intro F H dx dy x y rv Q ix iy e k;obtain⟨i,j,rfl,rfl,hc,rfl⟩:=h dx dy rv e;cases ix;cases iy
 exact⟨i,j,rfl,rfl,hc,k _ H bB (.int _)⟩
theorem Jx:OpD X kP (rI0 λi j=> .int (i -j)):=M5 λdx dy rv e=>by
 unfold kP at e;split at e
 .cases e;exact⟨_,_,rfl,rfl,rfl⟩
 .cases e
theorem Jy:OpD X bD (rI Ja λi j=> .int (i*j)):=D2 λdx dy rv e=>by
 unfold bD at e;split at e
 .split at e
  .rename_i i j q;cases e;refine⟨i,j,rfl,rfl, ?_,rfl⟩;unfold aZ at q;rw[GaR] at q;rcases q with q|q
   .left;have:=Gaq q;lia
   .right;have:=Gaq q;lia
  .cases e
 .cases e
theorem Gz:OpD X cP (rI NX λi j=> .int (i/j)):=D2 λdx dy rv e=>by
 unfold cP at e;split at e
 .split at e
  .rename_i i j q;cases e;exact⟨i,j,rfl,rfl,q,rfl⟩
  .cases e
 .cases e
theorem Jz:OpD X aS (rI (λ_ j=>0<j) λi j=> .int (i%j)):=D2 λdx dy rv e=>by
 unfold aS at e;split at e
 .split at e
  .rename_i i j q;cases e;exact⟨i,j,rfl,rfl,q,rfl⟩
  .cases e
 .cases e
theorem JA:OpD X Bh (rI NY λi j=> .int (i^j.toNat)):=D2 λdx dy rv e=>by
 unfold Bh at e;split at e
 .split at e
  .rename_i i j q;cases e;exact⟨i,j,rfl,rfl,⟨q.1,by lia,by lia⟩,rfl⟩
  .cases e
 .cases e
def Lb:R2:=λx y H Q=>∃l b xs zs,x= .ref l/\y= .ref b/\Rd H l (.lst xs)/\Rd H b (.lst zs)/\xs.length+zs.length<=sizeLine/\∀p,H p=none->Q (.ref p) (upd H p (.lst (xs++zs)))
theorem JB:OpR X (binaryOp .Add) Lb:=by
 intro e8 s Z H x y v u Q I rx ry h;obtain⟨l,b,xs,zs,rfl,rfl,hH,hB,hz,q⟩:=h;cases rx;cases ry;obtain⟨z,its,n,r,e⟩:=(show bQ X.prog X.w H s.heap l (.lst xs) from hH.ok I.hok)
 obtain⟨z2,eO,n2,r2,e2⟩:=(show bQ X.prog X.w H s.heap b (.lst zs) from hB.ok I.hok)
 have hl:=r.length;have zP:=r2.length;refine PySem.P.add_list e e2 ?_ (by rw[Gar,Gar];lia);have ea:its.toArray++eO.toArray=(its++eO).toArray:=by simp
 rw[ea];exact⟨.ref _,_,I.QD (t' :=s.toks) (r.append r2) (by rw[Gah];lia),rfl,q _ I.fresh⟩
theorem eM:a9=sizeLine:=by rw[Gbw];rfl
variable{p:Addr}
theorem aU{o:HO}(n:H p=none):bR H (upd H p o):=λb u e=>by rw[ag (cO e n)];exact e
variable{vs:List V}{ds:List D}
theorem dH{K:ao}{F:Addr->Prop}(n:H p=none)(r:aI K F H ds vs):Rep K F (upd H p (.tup vs)) (.tup ds) (.ref p):=by
 have r2:=r.gen (F' :=F) (.of_same (aU (o:= .tup vs) n)) λ_ f _=>f;exact .tup ay r2.1 r2.2
theorem fu{K:ao}{F:Addr->Prop}(n:H p=none)(r:aI K F H ds vs):Inn K (λb=>F b/\b≠p) (upd H p (.lst vs)) (.lst ds) (.ref p):=
 .lst (.inl ay) (r.gen (F' :=λb=>F b/\b≠p) (.of_same (aU (o:= .lst vs) n)) λb f hb=> ⟨f,λz=>hb (z▸n)⟩)
theorem qi{xs:List V}:Wr (upd H p (.lst xs)) p:=⟨_,ay,trivial⟩
def GA(K:ao):R2:=λx y H Q=>rI0 (λi j=> .int (i+j)) x y H Q\/(∃i j,x= .str i/\y= .str j/\i.length+j.length<=sizeLine/\Q (.str (i++j)) H)\/Lb x y H Q\/L6 K x y H Q
theorem D3:OpR X (binaryOp .Add) (GA X.K):=Ly.or (B9.or (JB.or Jl))
theorem aI.ne{K:ao}{F:Addr->Prop}(r:aI K F H ds vs):vs=[]↔ds=[]:=by
 constructor
 .intro z;subst z;exact GcM r.1
 .intro z;subst z;exact r.cf
theorem D4:OpD X aA (GA X.K):=by
 intro F H dx dy x y rv Q ix iy e k;unfold aA at e;split at e
 .cases e;cases ix;cases iy
  exact .inl ⟨_,_,rfl,rfl,k _ H bB (.int _)⟩
 .split at e
  .rename_i q;cases e;cases ix;cases iy
   exact .inr (.inl ⟨_,_,rfl,rfl,by rw[<-eM];exact q,k _ H bB (.str _)⟩)
  .cases e
 .split at e
  .rename_i xs ys q;cases e;cases ix with
   |tup hx rx=>
    cases iy with
    |tup hy ry=>
     refine .inr (.inr (.inr ⟨_,_,_,_,rfl,rfl,SqT.of hx,SqT.of hy, ?_, ?_, ?_, ?_⟩))
     .intro z;have:=rx.ne.mp z;subst this;exact absurd q.2 (by simp)
     .rw[<-rx.1,<-ry.1,<-eM];exact q.1
     .intro z;have:=ry.ne.mp z;subst this;refine k _ H bB ?_;rw[Gbs];exact .tup hx rx.1 rx.2
     .intro z p n;exact k _ _ (aU n) (dH n (rx.append ry))
  .cases e
 .split at e
  .rename_i xs ys q;cases e;cases ix with
   |lst hx rx=>
    cases iy with
    |lst hy ry=>
     refine .inr (.inr (.inl ⟨_,_,_,_,rfl,rfl,hx,hy,by rw[<-rx.1,<-ry.1,<-eM];exact q,λp n=> ?_⟩));exact k _ _ (aU n) ⟨p,rfl,n,qi,rfl,fu n (rx.append ry)⟩
  .cases e
 .cases e
def UnD(X:Cx)(o:D->Option RV)(r:V->Hp->VK->Prop):Prop:=∀(F:Addr->Prop) (H:Hp) (dx:D) (x:V) (rv:RV) (Q:VK),Inn X.K F H dx x->o dx=some rv->(∀v H',bR H H' ->RvN X.K F H H' rv v->Q v H')->r x H Q
theorem Pa{op:UnaryOp}{o:D->Option RV}{r:V->Hp->VK->Prop}(ho:UnR X (unaryOp op) r)(hd:UnD X o r)(ha:PEd X a f):PEd X (.UnaryOp op a pos) (unE o f):=by
 refine(NV ho ha).aE ?_;rintro Z H Q ⟨H0,eD,env,rv,E,e,k⟩;obtain⟨x,hx,e⟩:=eA e;exact⟨H0,eD,env,x,E,hx,λvx H1 s1 R1=>hd _ H1 x.d vx rv Q R1.inn e λv H3 s3 R3=>k v H3 (s1.trans s3) (R3.ok s1)⟩
theorem JC:UnD X Gs (rU λi=> .int (-i)):=by
 intro F H dx x rv Q ix e k;unfold Gs at e;split at e
 .cases e;cases ix;exact⟨_,rfl,k _ H bB (.int _)⟩
 .cases e
theorem Bq(ha:PEd X a f)(hb:PEd X b g):PEd X (.BinOp a .Add b pos) (opE aA f g):=qh D3 D4 ha hb
theorem Br(ha:PEd X a f)(hb:PEd X b g):PEd X (.BinOp a .Sub b pos) (opE kP f g):=qh Lz Jx ha hb
theorem Bs(ha:PEd X a f)(hb:PEd X b g):PEd X (.BinOp a .Mult b pos) (opE bD f g):=qh LA Jy ha hb
theorem uE(ha:PEd X a f)(hb:PEd X b g):PEd X (.BinOp a .FloorDiv b pos) (opE cP f g):=qh Jb Gz ha hb
theorem Bt(ha:PEd X a f)(hb:PEd X b g):PEd X (.BinOp a .Mod b pos) (opE aS f g):=qh LB Jz ha hb
theorem M6(ha:PEd X a f)(hb:PEd X b g):PEd X (.BinOp a .Pow b pos) (opE Bh f g):=qh LC JA ha hb
theorem M7(ha:PEd X a f):PEd X (.UnaryOp .USub a pos) (unE Gs f):=Pa LD JC ha
def OpB(X:Cx)(o:D->D->Option Bool)(r:R2):Prop:=∀(F:Addr->Prop) (H:Hp) (dx dy:D) (x y:V) (b:Bool) (Q:VK),Inn X.K F H dx x->Inn X.K F H dy y->o dx dy=some b->Q (.bl b) H->r x y H Q
variable{o:D->D->Option Bool}
theorem bZ{op:CmpOp}{r:R2}(ho:OpR X (compareOp op) r)(hd:OpB X o r)(ha:PEd X a f)(hb:PEd X b g)(hm:behindInMarks op b=false):PTd X (.Compare a [op] [b] pos) (aB o f g):=by
 refine(Jd ho ha hb hm).aE ?_;rintro Z H Q ⟨H0,eD,env,bb,E,e,k⟩;obtain⟨x,hx,e⟩:=eA e;obtain⟨y,hy,e⟩:=eA e;exact⟨H0,eD,env,x,E,hx,λvx H1 s1 R1=> ⟨H0,eD,env,y,E.mono s1,hy,λvy H2 s2 R2=>hd _ H2 x.d y.d vx vy bb _ (R1.inn.same s2) R2.inn e ⟨bb,rfl,k H2 (s1.trans s2)⟩⟩⟩
theorem nQ{op:CmpOp}{r:R2}(ho:OpR X (compareOp op) r)(hd:OpB X o r)(ha:PEd X a f)(hb:PEd X b g)(hm:behindInMarks op b=false):PEd X (.Compare a [op] [b] pos) (bE (aB o f g)):=by
 refine(Jc ho ha hb hm).aE ?_;rintro Z H Q ⟨H0,eD,env,rv,E,e,k⟩;obtain⟨bb,e',rfl⟩:=Gan.mp e;clear e;have e:=e';clear e';obtain⟨x,hx,e⟩:=eA e;obtain⟨y,hy,e⟩:=eA e;exact⟨H0,eD,env,x,E,hx,λvx H1 s1 R1=> ⟨H0,eD,env,y,E.mono s1,hy,λvy H2 s2 R2=>hd _ H2 x.d y.d vx vy bb _ (R1.inn.same s2) R2.inn e (k _ H2 (s1.trans s2) (.bl bb))⟩⟩
theorem D5{gb:Int->Int->Bool}(h:∀dx dy b,o dx dy=some b->∃i j,dx= .int i/\dy= .int j/\b=gb i j):OpB X o (rI0 λi j=> .bl (gb i j)):=by
 intro F H dx dy x y b Q ix iy e q;obtain⟨i,j,rfl,rfl,rfl⟩:=h dx dy b e;cases ix;cases iy
 exact⟨i,j,rfl,rfl,q⟩
theorem qj:OpB X ltB (rI0 λi j=> .bl (decide (i<j))):=D5 λdx dy b e=>by
 unfold ltB at e;split at e<;>cases e;exact⟨_,_,rfl,rfl,rfl⟩
theorem nR:OpB X leB (rI0 λi j=> .bl (decide (i<=j))):=D5 λdx dy b e=>by
 unfold leB at e;split at e<;>cases e;exact⟨_,_,rfl,rfl,rfl⟩
theorem uF:OpB X gtB (rI0 λi j=> .bl (decide (j<i))):=D5 λdx dy b e=>by
 unfold gtB at e;split at e<;>cases e;exact⟨_,_,rfl,rfl,rfl⟩
theorem M8:OpB X geB (rI0 λi j=> .bl (decide (j<=i))):=D5 λdx dy b e=>by
 unfold geB at e;split at e<;>cases e;exact⟨_,_,rfl,rfl,rfl⟩
theorem t9{K:ao}{F:Addr->Prop}{d:D}{x:V}(h:Inn K F H d x):decide (x= .non)=bF d:=by
 cases h<;>simp[bF]
theorem uG:OpB X jv (λx y H Q=>y= .non/\Q (.bl (decide (x= .non))) H):=by
 intro F H dx dy x y b Q ix iy e q;simp only[jv,dR] at e;split at e
 .rename_i h;cases e;cases iy<;>simp[bF] at h
  exact⟨rfl,by rw[t9 ix];exact q⟩
 .cases e
theorem wz:OpB X dR (λx y H Q=>y= .non/\Q (.bl (!decide (x= .non))) H):=by
 intro F H dx dy x y b Q ix iy e q;simp only[jv,dR] at e;split at e
 .rename_i h;cases e;cases iy<;>simp[bF] at h
  exact⟨rfl,by rw[t9 ix];exact q⟩
 .cases e
theorem GB(h:PEd X e f)(he:∀whole,isTrue e X.env whole=(do let v<-whole;standAt e.pos;holding [v] (truthy v)):=by intro _;rfl):PTd X e (qa f):=by
 refine(Lo h he).aE ?_;rintro Z H Q ⟨H0,eD,env,bb,E,e,k⟩;obtain⟨x,hx,e⟩:=eA e;split at e
 .rename_i b hb;cases e;refine⟨H0,eD,env,x,E,hx,λvx H1 s1 R1=> ⟨bb, ?_,k H1 s1⟩⟩;have i:=R1.inn;rw[hb] at i;cases i;rfl
 .cases e
theorem uH(ha:PTd X a t):PWd X (.BoolOp .And [a] pos) t:=J6 ha
theorem GC(ha:PTd X a t):PWd X (.BoolOp .Or [a] pos) t:=Lp ha
variable{rest:List Expr}
theorem nS(ha:PTd X a t)(hb:PWd X (.BoolOp .And (b::rest) pos) u):PWd X (.BoolOp .And (a::b::rest) pos) (gL t u):=by
 refine(Lq ha hb).aE ?_;rintro Z H Q ⟨H0,eD,env,bb,E,e,k⟩;obtain⟨x,hx,e⟩:=eA e;refine⟨H0,eD,env,x,E,hx,λH1 s1=> ?_⟩;cases x with
 |true=>rw[Gaj rfl];rw[Gaj rfl] at e;exact⟨H0,eD,env,bb,E.mono s1,e,λH2 s2=>k H2 (s1.trans s2)⟩
 |false=>rw[Gai Gat];rw[Gai Gat] at e;cases e;exact k H1 s1
theorem wA(ha:PTd X a t)(hb:PWd X (.BoolOp .Or (b::rest) pos) u):PWd X (.BoolOp .Or (a::b::rest) pos) (orT t u):=by
 refine(NL ha hb).aE ?_;rintro Z H Q ⟨H0,eD,env,bb,E,e,k⟩;obtain⟨x,hx,e⟩:=eA e;refine⟨H0,eD,env,x,E,hx,λH1 s1=> ?_⟩;cases x with
 |false=>rw[Gai Gat];rw[Gai Gat] at e;exact⟨H0,eD,env,bb,E.mono s1,e,λH2 s2=>k H2 (s1.trans s2)⟩
 |true=>rw[Gaj rfl];rw[Gaj rfl] at e;cases e;exact k H1 s1
theorem GF(ha:PTd X a t):PTd X (.UnaryOp .Not a pos) (Ey t):=by
 refine(Lr ha).aE ?_;rintro Z H Q ⟨H0,eD,env,bb,E,e,k⟩;obtain⟨x,hx,rfl⟩:=Gan.mp e;exact⟨H0,eD,env,x,E,hx,λH1 s1=>k H1 s1⟩
theorem GG(hc:PTd X c t)(ha:PEd X a f)(hb:PEd X b g):PEd X (.IfExp c a b pos) (ifE t f g):=by
 refine(G0 hc ha hb).aE ?_;rintro Z H Q ⟨H0,eD,env,rv,E,e,k⟩;obtain⟨x,hx,e⟩:=eA e;refine⟨H0,eD,env,x,E,hx,λH1 s1=> ?_⟩;cases x with
 |true=>rw[Gaj rfl];rw[Gaj rfl] at e;exact⟨H0,eD,env,rv,E.mono s1,e,λv H2 s2 R=>k v H2 (s1.trans s2) (R.from s1)⟩
 |false=>rw[Gai Gat];rw[Gai Gat] at e;exact⟨H0,eD,env,rv,E.mono s1,e,λv H2 s2 R=>k v H2 (s1.trans s2) (R.from s1)⟩
theorem wB{op yW :CmpOp}{p:D->D->Option Bool}{r r' :R2}(ho:OpR X (compareOp op) r)(hd:OpB X o r)(xx :OpR X (compareOp yW) r')(xb :OpB X p r')(ha:PEd X a f)(hb:PEd X b g)(hc:PEd X c h)
  (hm:lastMarks [op,yW] [b,c]=false:=by with_unfolding_all rfl):PTd X (.Compare a [op,yW] [b,c] pos) (Bi o p f g h):=by
 refine(Ga ho xx ha hb hc hm).aE ?_;rintro Z H Q ⟨H0,eD,env,bb,E,e,k⟩;obtain⟨x,hx,e⟩:=eA e;obtain⟨y,hy,e⟩:=eA e;obtain⟨b1,h1,e⟩:=eA e;refine⟨H0,eD,env,x,E,hx,λvx H1 s1 R1=> ⟨H0,eD,env,y,E.mono s1,hy,λvy H2 s2 R2=>hd _ H2 x.d y.d vx vy b1 _ (R1.inn.same s2) R2.inn h1 ⟨b1,rfl, ?_⟩⟩⟩;cases b1 with
 |true=>
  rw[Gaj rfl];rw[Gaj rfl] at e
  obtain⟨z,hz,e⟩:=eA e;exact⟨H0,eD,env,z,(E.mono s1).mono s2,hz,λvz H3 s3 R3=>xb _ H3 y.d z.d vy vz bb _ (R2.inn.same s3) R3.inn e ⟨bb,rfl,k H3 (s1.trans (s2.trans s3))⟩⟩
 |false=>
  rw[Gai Gat];rw[Gai Gat] at e;cases e
  exact⟨false,rfl,k H2 (s1.trans s2)⟩
end
section
variable{X:Cx}{e a b c:Expr}{f g h:DE}{t u:DT}{pos:Pos}
variable{H:Hp}
theorem Scr.sq{K:ao}{a:Addr}{ns:List Int}(h:Scr K H a ns):SqL K H a (ns.map V.int):=by
 rcases h with⟨o,h⟩|h
 .exact .inl (.inr ⟨o,h⟩)
 .exact .inr h
variable{d:D}{vs:List V}
theorem GH{K:ao}{F:Addr->Prop}{ds:List D}{i:Int}(r:aI K F H ds vs)(e:atD ds i=some d):∃v,atI vs i=some v/\Rep K F H d v:=by
 unfold atD at e;unfold atI ixN;rw[<-r.1];split at e
 .rename_i h0;obtain⟨v,h1,h2⟩:=r.get e;have hi:=(Gal.mp e).1;refine⟨v, ?_,h2⟩;rw[Gaj h0,Gaj (by lia)];exact h1
 .rename_i h0;split at e
  .rename_i h1;obtain⟨v,h2,h3⟩:=r.get e;refine⟨v, ?_,h3⟩;rw[Gai h0,Gaj h1];exact h2
  .cases e
def Pb:R2:=λx y H Q=>∃a v,x= .ref a/\pV H a y (some v)/\Q v H
theorem JD(hu:X.A.units+1<cLine):IxR X Pb:=by
 intro value slice e8 s Z H x y v u Q I rx ry h hs;obtain⟨a,z,rfl,g,q⟩:=h;cases rx;exact tail_any (w5 I g) PySem.F.slot_dict_getitem.lookup (Et hu I g ry λw' s3 I3 xB => ⟨z,H,I3,xB,q⟩) hs
def QR(K:ao):R2:=λx y H Q=>rIx K x y H Q\/Pb x y H Q
theorem JE(hu:X.A.units+1<cLine):IxR X (QR X.K):=LO.or (JD hu)
theorem iI{Y:Type} [DecidableEq Y]{K:ao}{F:Addr->Prop}{H:Hp}:∀{eC:List (Y×D)} {ws:List (Y×V)} {k:Y} {d:D},aP K F H eC ws->look eC k=some d->∃v,fF ws k=some v/\Rep K F H d v
 |[],ws,k,d,_,e=>by simp[look] at e
 |p::eC,[],k,d,r,_=>absurd r.1 (by simp)
 |p::eC,q::ws,k,d,r,e=>by
  have h1:p.1=q.1/\eC.map (·.1)=ws.map (·.1):=by have:=r.1;simpa using this
  have r2:aP K F H eC ws:=⟨h1.2,λi x y e1 e2=>r.2 (i+1) x y (by simpa using e1) (by simpa using e2)⟩
  by_cases z:p.1=k
  .have e' :look (p::eC) k=some p.2:=by simp[look,GbF,z]
   rw[e'] at e;cases e
   exact⟨q.2,jA (h1.1.symm.trans z),r.2 0 p q rfl rfl⟩
  .have e' :look (p::eC) k=look eC k:=by simp[look,GbF,z]
   rw[e'] at e;obtain⟨v,h3,h4⟩:=iI r2 e;exact⟨v,by rw[gn (λw=>z (h1.1.trans w))];exact h3,h4⟩
theorem kq{Y:Type} [DecidableEq Y]{K:ao}{F:Addr->Prop}{H:Hp}:∀{eC:List (Y×D)} {ws:List (Y×V)} {k:Y},aP K F H eC ws->look eC k=none->fF ws k=none
 |[],[],k,_,_=>rfl
 |[],q::ws,k,r,_=>absurd r.1 (by simp)
 |p::eC,[],k,r,_=>absurd r.1 (by simp)
 |p::eC,q::ws,k,r,e=>by
  have h1:p.1=q.1/\eC.map (·.1)=ws.map (·.1):=by have:=r.1;simpa using this
  have r2:aP K F H eC ws:=⟨h1.2,λi x y e1 e2=>r.2 (i+1) x y (by simpa using e1) (by simpa using e2)⟩
  by_cases z:p.1=k
  .have e' :look (p::eC) k=some p.2:=by simp[look,GbF,z]
   rw[e'] at e;cases e
  .have e' :look (p::eC) k=look eC k:=by simp[look,GbF,z]
   rw[e'] at e;rw[gn (λw=>z (h1.1.trans w))];exact kq r2 e
theorem nT{K:ao}{F:Addr->Prop}{x:V}{k:Key}(i:Inn K F H d x)(e:keyOf d=some k):x=kV k:=by
 unfold keyOf at e;split at e<;>cases e<;>cases i<;>rfl
theorem gS{K:ao}{F:Addr->Prop}{H:Hp}:∀{ds:List D} {vs:List V} {ks:List Key},aI K F H ds vs->keysOf ds=some ks->vs=ks.map kV
 |[],vs,ks,r,e=>by cases e;rw[r.cf];rfl
 |d::ds,vs,ks,r,e=>by
  obtain⟨v,w,rfl,h1,h2⟩:=r.cons_inv;unfold keysOf at e;obtain⟨k,hk,e⟩:=eA e;obtain⟨Uz,Sa,rfl⟩:=Gan.mp e;rw[nT h1.inn hk,gS h2 Sa]
  rfl
theorem mG{K:ao}{F:Addr->Prop}{k:D}{x y:V}(ix:Inn K F H d x)(iy:Inn K F H k y):
  (∀eC key,d= .dK eC->keyOf k=some key->∃a ws,x= .ref a/\aP K F H eC ws/\pV H a y (fF ws key))/\
  (∀eC ks key,d= .dT eC->k= .tup ks->keysOf ks=some key->∃a ws,x= .ref a/\aP K F H eC ws/\pV H a y (fF ws key)):=by
 refine⟨λeC key ed ek=> ?_,λeC ks key ed ek e=> ?_⟩
 .subst ed;cases ix with
  |dK h r=>exact⟨_,_,rfl,r,.inl ⟨_,key,.inl h,nT iy ek,rfl⟩⟩
 .subst ed ek;cases ix with
  |dT h r=>
   cases iy with
   |tup hy ry=>exact⟨_,_,rfl,r,.inr ⟨_,key,_,.inl h,rfl,by rw[<-gS ry e];exact hy,rfl⟩⟩
theorem GI(hu:X.A.units+1<cLine)(ha:PEd X a f)(hb:PEd X b g)(hs:CO b:=by exactλ_ _=>rfl):PEd X (.Subscript a b pos) (ixE f g):=by
 refine(O6 (JE hu) ha hb hs).aE ?_;rintro Z H Q ⟨H0,eD,env,rv,E,e,k⟩;obtain⟨x,hx,e⟩:=eA e;obtain⟨y,hy,e⟩:=eA e;obtain⟨d,e',rfl⟩:=Gan.mp e;clear e;have e:=e';clear e';refine⟨H0,eD,env,x,E,hx,λvx H1 s1 R1=> ⟨H0,eD,env,y,E.mono s1,hy,λvy H2 s2 R2=> ?_⟩⟩;have ix:=R1.inn.same s2;have iy:=R2.inn;have fin:∀v,Rep X.K (Cln eD env Z) H2 d v->Q v H2:=λv r=>k v H2 (s1.trans s2) r;generalize x.d=dx at ix e;generalize y.d=dy at iy e;unfold ixD at e;split at e
 .cases iy;cases ix with
  |lst h r=>
   obtain⟨v,h1,h2⟩:=GH r e;exact .inl (.inl ⟨_,_,_,v,rfl,rfl,.inl h,h1,fin v h2⟩)
 .cases iy;cases ix with
  |tup h r=>
   obtain⟨v,h1,h2⟩:=GH r e;exact .inl (.inr (.inl ⟨_,_,_,v,rfl,rfl,SqT.of h,h1,fin v h2⟩))
 .split at e
  .rename_i hz;obtain⟨ch,e',rfl⟩:=Gan.mp e;clear e;have e:=e';clear e';cases iy;cases ix
   refine .inl (.inr (.inr ⟨_,_,ch,rfl,rfl,by rw[<-eM];exact hz, ?_,fin _ (.str _)⟩));unfold atD at e;unfold atI ixN;split at e
   .rename_i h0;have hi:=(Gal.mp e).1;rw[Gaj h0,Gaj (by lia)];exact e
   .rename_i h0;split at e
    .rename_i h1;rw[Gai h0,Gaj h1];exact e
    .cases e
  .cases e
 .obtain⟨key,hk,e⟩:=eA e;obtain⟨p,ws,rfl,r,dg⟩:=(mG ix iy).1 _ key rfl hk;obtain⟨v,h1,h2⟩:=iI r e;rw[h1] at dg;exact .inr ⟨p,v,rfl,dg,fin v h2⟩
 .obtain⟨key,hk,e⟩:=eA e;obtain⟨p,ws,rfl,r,dg⟩:=(mG ix iy).2 _ _ key rfl rfl hk;obtain⟨v,h1,h2⟩:=iI r e;rw[h1] at dg;exact .inr ⟨p,v,rfl,dg,fin v h2⟩
 .obtain⟨n,e',rfl⟩:=Gan.mp e;clear e;have e:=e';clear e';cases iy;cases ix with
  |scr h=>
   refine .inl (.inl ⟨_,_,_,.int n,rfl,rfl,h.sq, ?_,fin _ (.int n)⟩);unfold atD at e;unfold atI ixN;rw[Gad];split at e
   .rename_i h0;have hi:=(Gal.mp e).1;rw[Gaj h0,Gaj (by lia)];show(List.map V.int _)[_]? =_;rw[Gam,e];rfl
   .rename_i h0;split at e
    .rename_i h1;rw[Gai h0,Gaj h1];show(List.map V.int _)[_]? =_;rw[Gam,e];rfl
    .cases e
 .cases e
theorem gx:PAd X [] aa:=by
 refine pO.aE ?_;rintro Z H Q ⟨H0,eD,env,rs,E,e,k⟩;cases e;exact k [] H bB .nil
variable{rs:List RV}{Z:St}{env:Env}{H0 H' :Hp}
theorem wC{K:ao}{H1:Hp}{eD:Addr->Prop}(s:bR H H1)(p:Paired (i9 K H0 eD env Z H1 H') rs vs):Paired (i9 K H0 eD env Z H H') rs vs:=L2.Paired.J1 p λ_ _ h=>h.from s
theorem d3{es:List Expr}{r:DA}(ha:PEd X e f)(hr:PAd X es r)(hs:starEach (e::es) X.env=(false,eval e X.env)::starEach es X.env:=by rfl):PAd X (e::es) (a7 f r):=by
 refine(mi ha hr hs).aE ?_;rintro Z H Q ⟨H0,eD,env,rs,E,e,k⟩;obtain⟨x,hx,e⟩:=eA e;obtain⟨xs,Rh,e⟩:=eA e;cases e;exact⟨H0,eD,env,x,E,hx,λvx H1 s1 R1=> ⟨H0,eD,env,xs,E.mono s1,Rh,λvs H2 s2 Rs=>k _ H2 (s1.trans s2) (.cons (R1.same s2) (wC s1 Rs))⟩⟩
theorem tf{K:ao}{eD:Addr->Prop}(E:au K H0 eD env Z H)(p:Paired (i9 K H0 eD env Z H H') rs vs):rs.all (·.free)=true->aI K (Cln eD env Z) H' (rs.map (·.d)) vs:=by
 induction p with
 |nil=>exactλ_=>aI.nil
 |cons h t ih=>
  intro f;rw[GbQ,Gas] at f;exact aI.cons (h.rep E f.1) (ih f.2)
variable{es:List Expr}
theorem Bu{r:DA}{j:Nat}(ha:PAd X es r):PEd X (.Tuple es j pos) (aT r):=by
 refine(LH ha).aE ?_;rintro Z H Q ⟨H0,eD,env,rv,E,e,k⟩;obtain⟨rs,hr,e⟩:=eA e;split at e
 .rename_i q;rw[Gas] at q;cases e;refine⟨H0,eD,env,rs,E,hr,λvs H1 s1 Rs=> ?_⟩;have rep:=tf E Rs q.1;refine⟨by rw[<-rep.1,Gad,<-eM];exact Gaq q.2,λp n=> ?_⟩;exact k _ _ (s1.trans (aU n)) (dH n rep)
 .cases e
theorem Bv{r:DA}(ha:PAd X es r):PEd X (.List es pos) (fN r):=by
 refine(Gb ha).aE ?_;rintro Z H Q ⟨H0,eD,env,rv,E,e,k⟩;obtain⟨rs,hr,e⟩:=eA e;split at e
 .rename_i q;rw[Gas] at q;cases e;refine⟨H0,eD,env,rs,E,hr,λvs H1 s1 Rs=> ?_⟩;have rep:=tf E Rs q.1;refine⟨by rw[<-rep.1,Gad,<-eM];exact Gaq q.2,λp n=> ?_⟩;exact k _ _ (s1.trans (aU n)) ⟨p,rfl,s1.free n,qi,rfl,fu n rep⟩
 .cases e
noncomputable def spD(K:ao)(np:Nat)(sp:List D->Option D):Sp:=λvs H Q _=>∃ds d,ds.length=np/\aI K (λ_=>True) H ds vs/\sp ds=some d/\∀v H',bR H H' ->t8 K H H' d v->Q v H'
theorem EF{K:ao}{eD:Addr->Prop}(p:Paired (i9 K H0 eD env Z H H') rs vs):aI K (λ_=>True) H' (rs.map (·.d)) vs:=by
 induction p with
 |nil=>exact aI.nil
 |cons h t ih=>exact aI.cons h.inn.any ih
variable{p:Pos}{x:Str}
theorem JF{CX:CXT}{k:Nat}{fa:Addr}{fd:FuncData}{ps:List Str}{np:Nat}{sp:List D->Option D}{r:DA}{E:XK}(F:mj X.prog X.w X.K X.mg X.base CX k fa fd ps (spD X.K np sp))(hr:gk k X.A)(hg:Gl X x)
  (hm:X.mg x=some (.ref fa))(hk:PySem.W.keepIn X.K (.ref fa)=true)(hb:Binds X.K fd ps [])(hx:Passes CX X E)(ha:PAd X (e::es) r)(hl:∀env rs,r env=some rs->rs.length=np)
  (yh:(x==("__debug__":Str))=false:=by decide)(he:starEach (e::es) X.env=(false,eval e X.env)::starEach es X.env:=by rfl)(xw:(backTo pos (starEach es X.env)).any (·.1)=false:=by rfl):
  PEd X (.Call (.Name x p) (e::es) [] pos) (ak sp r):=by
 refine(Jg (dvs:=[]) F hr hg hm hk hb .nil hx ha yh he xw).aE ?_;rintro Z H Q ⟨H0,eD,env,rv,E,e,k⟩;obtain⟨rs,yj,e⟩:=eA e;obtain⟨d,hd,rfl⟩:=Gan.mp e;refine⟨H0,eD,env,rs,E,yj,λvs H1 s1 Rs=> ⟨rs.map (·.d),d,by rw[Gad];exact hl env rs yj, ?_,hd,λv H2 s2 R2=>k v H2 (s1.trans s2) ((R2.rv (E.mono s1)).from s1)⟩⟩;rw[Gbs];exact EF Rs
def CallD(X:Cx)(o:List D->Option RV)(r:List V->Hp->VK->Prop):Prop:=∀(F:Addr->Prop) (H:Hp) (ds:List D) (vs:List V) (rv:RV) (Q:VK),Paired (Inn X.K F H) ds vs->o ds=some rv->(∀v H',bR H H' ->RvN X.K F H H' rv v->Q v H')->r vs H Q
theorem qk{K:ao}{eD:Addr->Prop}(p:Paired (i9 K H0 eD env Z H H') rs vs):Paired (Inn K (Cln eD env Z) H') (rs.map (·.d)) vs:=by
 induction p with
 |nil=>exact .nil
 |cons h t ih=>exact .cons h.inn ih
variable{ra:DA}{o:List D->Option RV}
theorem lE{id:String}{r:List V->Hp->VK->Prop}(hc:fq X (.builtin id) r)(hd:CallD X o r)(hg:Gl X x)(hm:X.mg x=none)(hv:bootBuiltins x=some (.builtin id))(ha:PAd X (e::es) ra)
  (hn:x≠"__name__":=by decide)(yh:(x==("__debug__":Str))=false:=by decide)(he:starEach (e::es) X.env=(false,eval e X.env)::starEach es X.env:=by rfl)(xw:(backTo pos (starEach es X.env)).any (·.1)=false:=by rfl):
  PEd X (.Call (.Name x p) (e::es) [] pos) (bN o ra):=by
 refine(pP hc hg hm hv ha hn yh he xw).aE ?_;rintro Z H Q ⟨H0,eD,env,rv,E,e,k⟩;obtain⟨rs,yj,e⟩:=eA e;exact⟨H0,eD,env,rs,E,yj,λvs H1 s1 Rs=>hd _ H1 _ vs rv Q (qk Rs) e λv H2 s2 R2=>k v H2 (s1.trans s2) (R2.ok s1)⟩
theorem mH{T:String}{r:List V->Hp->VK->Prop}(hc:fq X (.type T) r)(hd:CallD X o r)(hg:Gl X x)(hm:X.mg x=none)(hv:bootBuiltins x=some (.type T))(ha:PAd X (e::es) ra)
  (hn:x≠"__name__":=by decide)(yh:(x==("__debug__":Str))=false:=by decide)(he:starEach (e::es) X.env=(false,eval e X.env)::starEach es X.env:=by rfl)(xw:(backTo pos (starEach es X.env)).any (·.1)=false:=by rfl):
  PEd X (.Call (.Name x p) (e::es) [] pos) (bN o ra):=by
 refine(sR hc hg hm hv ha hn yh he xw).aE ?_;rintro Z H Q ⟨H0,eD,env,rv,E,e,k⟩;obtain⟨rs,yj,e⟩:=eA e;exact⟨H0,eD,env,rs,E,yj,λvs H1 s1 Rs=>hd _ H1 _ vs rv Q (qk Rs) e λv H2 s2 R2=>k v H2 (s1.trans s2) (R2.ok s1)⟩
theorem dX{R:D->V->Prop}(h:Paired R [d] vs):∃v,vs=[v]/\R d v:=by
 cases h with
 |cons h t=>cases t;exact⟨_,rfl,h⟩
theorem JG{R:D->V->Prop}{d2:D}(h:Paired R [d,d2] vs):∃v w,vs=[v,w]/\R d v/\R d2 w:=by
 cases h with
 |cons h t=>cases t with
  |cons h2 t=>cases t;exact⟨_,_,rfl,h,h2⟩
theorem nU:fq X (.builtin "len") (λxs H Q=>∃a eC,xs=[.ref a]/\Rd H a (.dK eC)/\Q (.int eC.length) H):=by
 intro e8 s Z H xs us Q I r h;obtain⟨a,eC,rfl,e,q⟩:=h;obtain⟨u,rfl,rx⟩:=vals1 r;cases rx;exact Ob I e λt s' I' => ⟨.int eC.length,H,I',⟨t,rfl⟩,q⟩
theorem nV:CallD X cw (λxs H Q=>(∃x n,xs=[x]/\O0 X.K x H n/\Q (.int n) H)\/(∃a eC,xs=[.ref a]/\Rd H a (.dK eC)/\Q (.int eC.length) H)):=by
 intro F H ds vs rv Q ps e k;unfold cw at e;split at e
 .cases e;obtain⟨v,rfl,i⟩:=dX ps;cases i with
  |lst h r=>exact .inl ⟨_,_,rfl,.inl ⟨_,.inl h,r.1⟩,k _ H bB (.int _)⟩
 .cases e;obtain⟨v,rfl,i⟩:=dX ps;cases i with
  |tup h r=>exact .inl ⟨_,_,rfl,.inr ⟨_,SqT.of h,r.1⟩,k _ H bB (.int _)⟩
 .split at e
  .rename_i q;cases e;obtain⟨v,rfl,i⟩:=dX ps;cases i;exact .inl ⟨_,_,rfl,⟨by rw[<-eM];exact q,rfl⟩,k _ H bB (.int _)⟩
  .cases e
 .cases e;obtain⟨v,rfl,i⟩:=dX ps;cases i with
  |dK h r=>
   have hl:=congrArg List.length r.1;rw[Gad,Gad] at hl;exact .inr ⟨_,_,rfl,.inl h,by rw[<-hl];exact k _ H bB (.int _)⟩
 .cases e;obtain⟨v,rfl,i⟩:=dX ps;cases i with
  |scr h=>exact .inl ⟨_,_,rfl,.inl ⟨_,h.sq,by simp⟩,k _ H bB (.int _)⟩
 .cases e
theorem Bw:CallD X CU (λxs H Q=>∃i j,xs=[.int i,.int j]/\Q (.int (if j<i then j else i)) H):=by
 intro F H ds vs rv Q ps e k;unfold CU at e;split at e
 .cases e;obtain⟨v,w,rfl,i1,i2⟩:=JG ps;cases i1;cases i2
  exact⟨_,_,rfl,k _ H bB (.int _)⟩
 .cases e
theorem jK:CallD X df (λxs H Q=>∃p ys,xs=[.ref p]/\((SqL X.K H p ys/\∀l,H l=none->Q (.ref l) (upd H l (.tup ys)))\/(SqT X.K H p ys/\Q (.ref p) H))):=by
 intro F H ds vs rv Q ps e k;unfold df at e;split at e
 .cases e;obtain⟨v,rfl,i⟩:=dX ps;cases i with
  |lst h r=>
   refine⟨_,_,rfl,.inl ⟨.inl h,λl n=> ?_⟩⟩;exact k _ _ (aU n) (dH n r)
 .cases e;obtain⟨v,rfl,i⟩:=dX ps;cases i with
  |tup h r=>exact⟨_,_,rfl,.inr ⟨SqT.of h,k _ H bB (.tup h r.1 r.2)⟩⟩
 .cases e
end
section
variable{K:ao}{H0 H H' :Hp}{eD:Addr->Prop}{env eP :Env}{Z Z' :St}{d:D}{v:V}{a:Addr}{i:Nat}
variable{j:Nat}
theorem eG{α:Type}{l:List α}{i:Nat}{x y:α}(e:(l.set i x)[j]? =some y):(i=j/\y=x)\/(i≠j/\l[j]? =some y):=by
 by_cases h:i=j
 .subst h;have hi:i<l.length:=by have:=(Gal.mp e).1;simpa using this
  rw[GaZ hi] at e;cases e;exact .inl ⟨rfl,rfl⟩
 .rw[Gae h] at e;exact .inr ⟨h,e⟩
theorem set_same{α:Type}{l:List α}{i:Nat}{x:α}(e:l[i]? =some x):l.set i x=l:=by
 apply GcO;intro j;by_cases h:i=j
 .subst h;rw[GaZ (Gal.mp e).1,e]
 .rw[Gae h]
theorem bV{α:Type}{l:List α}{i:Nat}{x:α}(h:i<l.length):(l.set i x)[i]? =some x:=GaZ h
theorem gy(h:aW (env.set i (some (.sh d)))[j]?):i≠j/\aW env[j]? :=by
 by_cases q:i=j
 .subst q;by_cases z:i<env.length
  .rw[bV z] at h;exact h.elim
  .rw[Gbj (by simpa using Nat.le_of_not_lt z)] at h;exact h.elim
 .rw[Gae q] at h;exact⟨q,h⟩
theorem au.l6(E:au K H0 eD env Z H)(r:Rep K (Cln eD env Z) H d v):au K H0 eD (env.set i (some (.sh d))) (Z.set i (some v)) H:=by
 have xh:∀b,Cln eD env Z b->Cln eD (env.set i (some (.sh d))) (Z.set i (some v)) b:=λb ⟨h1,h2⟩=> ⟨h1,λj t e=>by
  obtain⟨q,t⟩:=gy t;rw[Gae q] at e;exact h2 j t e⟩
 refine⟨E.same,by simp[E.len],E.bad,λj dj e=> ?_,λj dj e=> ?_,λj dj e=> ?_,λj k b t1 t2 e1 e2=> ?_⟩
 .rcases eG e with⟨q,e⟩| ⟨q,e⟩
  .cases e;subst q;have hi:i<env.length:=by have:=(Gal.mp e);simpa using this.1
   exact⟨v,bV (by rw[<-E.len];exact hi),r.imp xh⟩
  .obtain⟨w,h1,h2⟩:=E.sh j dj e;exact⟨w,by rw[Gae q];exact h1,h2.imp xh⟩
 .have e' :i≠j/\(env[j]? =some (some (.own dj))\/env[j]? =some (some (.lok dj))):=by
   rcases e with e|e
   .rcases eG e with⟨q,e⟩| ⟨q,e⟩
    .cases e
    .exact⟨q,.inl e⟩
   .rcases eG e with⟨q,e⟩| ⟨q,e⟩
    .cases e
    .exact⟨q,.inr e⟩
  obtain⟨b,h1,h2,h3,h4,h5,h6⟩:=E.ow j dj e'.2;exact⟨b,by rw[Gae e'.1];exact h1,h2,h3,h4,h5,h6.imp xh⟩
 .rcases eG e with⟨q,e⟩| ⟨q,e⟩
  .cases e
  .obtain⟨b,h1,hw,h2,h3⟩:=E.bo j dj e;exact⟨b,by rw[Gae q];exact h1,hw,h2,h3.imp xh⟩
 .obtain⟨q1,yS⟩:=gy t1.top;obtain⟨q2,t2⟩:=gy t2;rw[Gae q1] at e1 t1;rw[Gae q2] at e2;exact E.dj j k b t1 t2 e1 e2
theorem Stp.l6:Stp env Z H (env.set i (some (.sh d))) (Z.set i (some v)) H:=⟨λ_ _ e _=>e,λb ⟨j,h,e⟩=>by
 have h' :aW (env.set i (some (.sh d)))[j]? :=h.ol.top;obtain⟨q,_⟩:=gy h';rw[Gae q] at h e;exact .inl ⟨j,h,e⟩,λj h=>by
 obtain⟨q,_⟩:=gy h.top;rw[Gae q,Gae q];exact⟨rfl,rfl⟩⟩
theorem gU(h:aW (env.set i (some (.own d)))[j]?)(hi:i<env.length):i=j\/(i≠j/\aW env[j]?):=by
 by_cases q:i=j
 .exact .inl q
 .rw[Gae q] at h;exact .inr ⟨q,h⟩
theorem au.GJ(E:au K H0 eD env Z H)(hi:i<env.length)(n0:H0 a=none)(nb:¬eD a)(w:Wr H' a)(t:d.top=true)(s:bR H0 H')(bd:∀b,eD b->H' b≠none)
  (ne:∀j b,j≠i->aW env[j]? ->Z[j]? =some (some (.ref b))->b≠a/\H' b=H b)
  (inn:Inn K (Cln eD (env.set i (some (.own d))) (Z.set i (some (.ref a)))) H' d (.ref a))
  (xh:∀b,Cln eD env Z b->H b≠none->Cln eD (env.set i (some (.own d))) (Z.set i (some (.ref a))) b)
  (de:fS (Cln eD env Z) H H'):
  au K H0 eD (env.set i (some (.own d))) (Z.set i (some (.ref a))) H' :=by
 have keep:∀{j:Nat} {b:Addr} {dj:D},j≠i->aW env[j]? ->Z[j]? =some (some (.ref b))->Inn K (Cln eD env Z) H dj (.ref b)->Inn K (Cln eD (env.set i (some (.own d))) (Z.set i (some (.ref a)))) H' dj (.ref b):=λ{j b dj} hj tj ej h=>
  h.gen de xh λb' eb _ o e=>by cases eb;rw[(ne j b hj tj ej).2];exact e
 refine⟨s,by simp[E.len],bd,λj dj e=> ?_,λj dj e=> ?_,λj dj e=> ?_,λj k b t1 t2 e1 e2=> ?_⟩
 .rcases eG e with⟨q,e⟩| ⟨q,e⟩
  .cases e
  .obtain⟨u,h1,h2⟩:=E.sh j dj e;exact⟨u,by rw[Gae q];exact h1,h2.gen de xh⟩
 .have e' :(i=j/\dj=d)\/(i≠j/\(env[j]? =some (some (.own dj))\/env[j]? =some (some (.lok dj)))):=by
   rcases e with e|e
   .rcases eG e with⟨q,e⟩| ⟨q,e⟩
    .cases e;exact .inl ⟨q,rfl⟩
    .exact .inr ⟨q,.inl e⟩
   .rcases eG e with⟨q,e⟩| ⟨q,e⟩
    .cases e
    .exact .inr ⟨q,.inr e⟩
  rcases e' with⟨q,rfl⟩| ⟨q,e'⟩
  .subst q;exact⟨a,bV (by rw[<-E.len];exact hi),n0,nb,w,t,inn⟩
  .obtain⟨b,h1,h2,h3,h4,h5,h6⟩:=E.ow j dj e';have tj:aW env[j]? :=by rcases e' with e' |e' <;>rw[e']<;>trivial
   refine⟨b,by rw[Gae q];exact h1,h2,h3, ?_,h5,keep (Ne.symm q) tj h1 h6⟩;unfold Wr;rw[(ne j b (Ne.symm q) tj h1).2];exact h4
 .rcases eG e with⟨q,e⟩| ⟨q,e⟩
  .cases e
  .obtain⟨b,h1,hw,h2,h3⟩:=E.bo j dj e;have tj:aW env[j]? :=by rw[e];trivial
   refine⟨b,by rw[Gae q];exact h1, ?_,h2,keep (Ne.symm q) tj h1 h3⟩;unfold Wr;rw[(ne j b (Ne.symm q) tj h1).2];exact hw
 .rcases gU t1.top hi with q1| ⟨q1,yS⟩
  .rcases gU t2 hi with q2| ⟨q2,RB⟩
   .rw[<-q1,<-q2]
   .subst q1;rw[bV (by rw[<-E.len];exact hi)] at e1;cases e1;rw[Gae q2] at e2;exact absurd rfl (ne k a (Ne.symm q2) RB e2).1
  .rcases gU t2 hi with q2| ⟨q2,RB⟩
   .subst q2;rw[bV (by rw[<-E.len];exact hi)] at e2;cases e2;rw[Gae q1] at e1;exact absurd rfl (ne j a (Ne.symm q1) yS e1).1
   .rw[Gae q1] at e1 t1;rw[Gae q2] at e2;exact E.dj j k b t1 RB e1 e2
theorem wD(hi:i<env.length)(hs:env.length=Z.length){b:Addr}(h:Cln eD env Z b)(hb:b≠a):Cln eD (env.set i (some (.own d))) (Z.set i (some (.ref a))) b:=⟨h.1,λj t e=>by
 rcases gU t hi with q| ⟨q,t⟩
 .subst q;rw[bV (by rw[<-hs];exact hi)] at e;cases e;exact hb rfl
 .rw[Gae q] at e;exact h.2 j t e⟩
theorem au.ql(E:au K H0 eD env Z H)(s:bR H H')(hi:i<env.length)(n:H a=none)(w:Wr H' a)(t:d.top=true)(U8:Inn K (λb=>Cln eD env Z b/\b≠a) H' d (.ref a)):
  au K H0 eD (env.set i (some (.own d))) (Z.set i (some (.ref a))) H' :=by
 have xh:∀b,Cln eD env Z b->b≠a->Cln eD (env.set i (some (.own d))) (Z.set i (some (.ref a))) b:=λb h hb=>wD hi E.len h hb;have cln' :∀b,Cln eD env Z b->H b≠none->Cln eD (env.set i (some (.own d))) (Z.set i (some (.ref a))) b:=λb h hb=>xh b h λz=>hb (z▸n);refine E.GJ (H' :=H') hi (E.same.free n) (λb=>E.bad a b n) w t (E.same.trans s) (λb h e=>E.bad b h (s.free e)) (λj b hj tj ej=> ?_) (U8.imp λb h=>xh b h.1 h.2) cln' (.of_same s);have hb:=E.mF tj ej;refine⟨λz=>hb (z▸n), ?_⟩;cases q:H b with
 |none=>exact absurd q hb
 |some o=>exact s b o q
theorem Stp.ql(s:bR H H')(hi:i<env.length)(hs:env.length=Z.length)(n:H a=none):Stp env Z H (env.set i (some (.own d))) (Z.set i (some (.ref a))) H' :=⟨λb o e _=>s b o e,λb ⟨j,h,e⟩=>by
 by_cases q:i=j
 .subst q;rw[bV (by rw[<-hs];exact hi)] at e;cases e;exact .inr n
 .rw[Gae q] at h e;exact .inl ⟨j,h,e⟩,λj h=>by
 by_cases q:i=j
 .subst q;rw[bV hi] at h;exact h.elim
 .rw[Gae q,Gae q];exact⟨rfl,rfl⟩⟩
theorem au.change{d' :D}{o:HO}(E:au K H0 eD env Z H)(e:env[i]? =some (some (.own d)))(ea:Z[i]? =some (some (.ref a)))(wo:isW o)(t:d'.top=true)
  (inn:Inn K (Cln eD env Z) (upd H a o) d' (.ref a)):au K H0 eD (env.set i (some (.own d'))) Z (upd H a o)/\Stp env Z H (env.set i (some (.own d'))) Z (upd H a o):=by
 have hi:i<env.length:=(Gal.mp e).1;obtain⟨a',h1,h2,h3,h4,h5,h6⟩:=E.ow i d (.inl e);rw[ea] at h1;cases h1
 have hZ:Z.set i (some (.ref a))=Z:=set_same ea;have hU:∀j,aW (env.set i (some (.own d')))[j]? ↔aW env[j]? :=λj=>by
  by_cases q:i=j
  .subst q;rw[bV hi,e];exact⟨λ_=>trivial,λ_=>trivial⟩
  .rw[Gae q]
 have clnE:∀b,Cln eD env Z b->Cln eD (env.set i (some (.own d'))) Z b:=λb h=> ⟨h.1,λj tj ej=>h.2 j ((hU j).mp tj) ej⟩;have ca:∀b,Cln eD env Z b->b≠a:=λb h z=>by subst z;exact h.2 i (by rw[e];trivial) ea
 have de:fS (Cln eD env Z) H (upd H a o):=λb x hb q=>by
  have:b≠a:=by
   rintro rfl;rcases q with q|q
   .exact ca b q rfl
   .obtain⟨y,hy,wy⟩:=h4;rw[hb] at hy;cases hy
    cases x<;>simp[isT] at q<;>exact wy
  rw[ag this];exact hb
 have keepA:∀b x,H b=some x->b≠a->(upd H a o) b=some x:=λb x hb hn=>by rw[ag hn];exact hb
 refine⟨?_,⟨λb x hb n=>keepA b x hb λz=>n ⟨i,by rw[e];trivial,by rw[z];exact ea⟩,λb ⟨j,h,ej⟩=> .inl ?_,λj h=> ?_⟩⟩
 .have:=E.GJ (H' :=upd H a o) (a:=a) (d:=d') hi h2 h3 ⟨o,ay,wo⟩ t (λb x hb=>keepA b x (E.same b x hb) λz=>by rw[z,h2] at hb;cases hb)
   (λb hb z=>by
    by_cases q:b=a
    .subst q;rw[ay] at z;cases z
    .rw[ag q] at z;exact E.bad b hb z)
   (λj b hj tj ej=>by
    have:b≠a:=by rintro rfl;exact hj (E.dj i j b (by rw[e];trivial) tj ea ej).symm
    exact⟨this,by rw[ag this]⟩)
   (by rw[hZ];exact inn.imp clnE) (λb h _=>by rw[hZ];exact clnE b h) de
  rw[hZ] at this;exact this
 .by_cases q:i=j
  .subst q;exact⟨i,by rw[e];trivial,ej⟩
  .rw[Gae q] at h;exact⟨j,h,ej⟩
 .by_cases q:i=j
  .subst q;rw[bV hi] at h;exact h.elim
  .rw[Gae q];exact⟨rfl,rfl⟩
end
section
variable{X:Cx}{e a b c:Expr}{f g h:DE}{t u:DT}{pos:Pos}{st:Stmt}{rest:List Stmt}{s1 s2:DS}
theorem Bx:qg X [] aF:=by
 refine J7.aE ?_;rintro D Z H ⟨H0,eD,env,o,E,e,k⟩;cases e;exact k Z H E .refl
theorem uI(h1:PSd X st s1)(h2:qg X rest s2):qg X (st::rest) (aj s1 s2):=by
 refine(md h1 h2).aE ?_;rintro D Z H ⟨H0,eD,env,o,E,e,k⟩;obtain⟨o1,h1,e⟩:=eA e;refine⟨H0,eD,env,o1,E,h1, ?_⟩;cases o1 with
 |nx e1=>
  intro Z1 H1 E1 p1;refine⟨H0,eD,e1,o,E1,e, ?_⟩;cases o with
  |nx e2=>exactλZ2 H2 E2 p2=>k Z2 H2 E2 (p1.trans p2)
  |bk e2=>exactλZ2 H2 E2 p2=>k Z2 H2 E2 (p1.trans p2)
  |ct e2=>exactλZ2 H2 E2 p2=>k Z2 H2 E2 (p1.trans p2)
  |ret d=>exact k
 |bk e1=>cases e;exact k
 |ct e1=>cases e;exact k
 |ret d=>cases e;exact k
theorem By(h1:PSd X st s1):qg X [st] s1:=uu h1
theorem GK:PSd X (.Break pos) bkS:=by
 refine G3.aE ?_;rintro D Z H ⟨H0,eD,env,o,E,e,k⟩;cases e;exact k Z H E .refl
variable{d:D}{H0 H' :Hp}
theorem JH{K:ao}{F:Addr->Prop}{v:V}(i:Inn K F H' d v)(hd:d.imm=true):t8 K H0 H' d v:=by
 refine⟨λt=> ?_,(i.imm hd).inn⟩;cases d<;>simp[D.top] at t<;>simp[D.imm] at hd
variable{H:Hp}
theorem Pc{Y:Type}{K:ao}{F F' :Addr->Prop}{eC:List (Y×D)}{ws:List (Y×V)}(r:aP K F H eC ws)(h:aC (eC.map (·.2))=true):aP K F' H eC ws:=
 ⟨r.1,λi p q e1 e2=>(r.2 i p q e1 e2).imm (pD h i p.2 (by rw[Gam,e1];rfl))⟩
theorem D6{K:ao}{F:Addr->Prop}{a:Addr}(i:Inn K F H' d (.ref a))(hd:d.oI=true)(n:H0 a=none)(w:Wr H' a):t8 K H0 H' d (.ref a):=by
 refine⟨λ_=> ⟨a,rfl,n,w⟩, ?_⟩;cases i with
 |tup h r=>exact(Inn.imm (.tup h r) (by exact hd)).inn
 |scr h=>exact .scr h
 |exc h r=>exact(Inn.imm (.exc h r) (by exact hd)).inn
 |lst h r=>exact .lst h (r.imm hd)
 |dK h r=>exact .dK h (Pc r hd)
 |dT h r=>exact .dT h (Pc r hd)
theorem Bz(he:PEd X e f):PSd X (.Return (some e) pos) (retS f):=by
 refine(G4 he).aE ?_;rintro D Z H ⟨H0,eD,env,o,E,e,k⟩;obtain⟨r,hr,e⟩:=eA e;split at e
 .rename_i ok;cases e;refine⟨H0,eD,env,r,E,hr,λv H1 s1 R=>k v H1 (E.same.trans s1) ?_⟩;obtain⟨kd,d⟩:=r;cases kd with
  |c=>exact JH R.inn ok
  |tn=>
   have ii:=R.inn;obtain⟨a,rfl,n,w,t,i⟩:=R;exact D6 ii ok (E.same.free n) w
  |to=>
   have ii:=R.inn;obtain⟨a,rfl,n,w,t,i⟩:=R;exact D6 ii ok n w
  |tb=>exact absurd (show false=true from ok) Gat
 .cases e
theorem GL{xs ys:List Stmt}(hc:PTd X c t)(ha:qg X xs s1)(hb:qg X ys s2):PSd X (.If c xs ys pos) (ifS t s1 s2):=by
 refine(NO hc ha hb).aE ?_;rintro D Z H ⟨H0,eD,env,o,E,e,k⟩;obtain⟨x,hx,e⟩:=eA e;refine⟨H0,eD,env,x,E,hx,λH1 s1=> ?_⟩;have st:Stp env Z H env Z H1:= .of_same s1;have fin:∀{s:DS},s env=some o->tS X s D Z H1:=λ{s} e=> ⟨H0,eD,env,o,E.mono s1,e,by
  cases o with
  |nx e2=>exactλZ2 H2 E2 p2=>k Z2 H2 E2 (st.trans p2)
  |bk e2=>exactλZ2 H2 E2 p2=>k Z2 H2 E2 (st.trans p2)
  |ct e2=>exactλZ2 H2 E2 p2=>k Z2 H2 E2 (st.trans p2)
  |ret d=>exact k⟩
 dsimp only;cases x with
 |true=>rw[Gaj rfl];rw[Gaj rfl] at e;exact fin e
 |false=>rw[Gai Gat];rw[Gai Gat] at e;exact fin e
variable{x:Str}{i:Nat}{Z:St}{env:Env}
theorem BA{X:Cx}{eD:Addr->Prop}(E:au X.K H0 eD env Z H)(hl:Z.length=X.N.length)(hi:X.N[i]? =some x):i<env.length:=by
 rw[E.len,hl];exact(Gal.mp hi).1
theorem BB{pos' :Pos}(hN:X.N.Nodup)(hi:X.N[i]? =some x)(hx:Loc X.env.scope x)(he:PEd X e f)(hs:swapsWith e (some (.Name x pos')) pos.line X.env=pure false:=by rfl)
  (hf:X.fn x=true\/X.env.scope.names.lookup x=some .local:=by first|exact .inl rfl|exact .inr rfl|assumption):PSd X (.Assign [.Name x pos'] e pos) (aw i f):=by
 intro e8 s Z H D I hw;have hl:=I.len;refine(B5 hN hi hx he hs hf) e8 s Z H D I ?_;obtain⟨H0,eD,env,o,E,e,k⟩:=hw;obtain⟨r,hr,e⟩:=eA e;obtain⟨e',xU,rfl⟩:=Gan.mp e;have hie:i<env.length:=BA E hl hi;refine⟨H0,eD,env,r,E,hr,λv H1 s1 R=> ?_⟩;have st:Stp env Z H env Z H1:= .of_same s1;obtain⟨kd,d⟩:=r;unfold stored at xU;cases kd with
 |c=>
  cases xU;exact k _ H1 ((E.mono s1).l6 R) (st.trans .l6)
 |tn=>
  cases xU;obtain⟨a,rfl,n,w,t,i⟩:=R;exact k _ H1 (E.ql s1 hie n w t i) (.ql s1 hie E.len n)
 |to=>cases xU
 |tb=>cases xU
def BC(K:ao)(F N:Addr->Prop)(J:It)(ds:List D)(H1:Hp):Prop:=
 ∀Hi:Hp,(∀b o,H1 b=some o->N b->Hi b=some o)->(∀(i:Nat) d,ds[i]? =some d->J.go i Hi/\∀x H2,J.yld i Hi x H2->bR Hi H2/\Rep K F H2 d x)/\J.stop ds.length Hi
def tI(X:Cx)(src:DI):TI:=λZ H R=>∃H0 eD env ds,au X.K H0 eD env Z H/\src env=some ds/\∀J H',bR H H' ->BC X.K (λb=>Cln eD env Z b/\H' b≠none) (λb=>¬Ow env Z b) J ds H' ->R J H'
abbrev PId(X:Cx)(tg iter:Expr)(src:DI):Prop:=PI X tg iter (tI X src)
theorem _root_.L2.PI.aE{tg iter:Expr}{w w' :TI}(h:PI X tg iter w')(i:∀Z H R,w Z H R->w' Z H R):PI X tg iter w:=λe8 s Z H R I q=>h e8 s Z H R I (i Z H R q)
theorem au.lock{K:ao}{eD:Addr->Prop}(E:au K H0 eD env Z H)(l:Option Nat):au K H0 eD (b8 l env) Z H/\(∀b,Ow (b8 l env) Z b->Ow env Z b)/\∀i:Nat,aW (b8 l env)[i]? ↔aW env[i]? :=by
 cases l with
 |none=>exact⟨E,λ_ h=>h,λ_=>Iff.rfl⟩
 |some j=>
  unfold b8;dsimp only;split
  .rename_i d q;have hj:j<env.length:=(Gal.mp q).1;have hU:∀i,aW (env.set j (some (.lok d)))[i]? ↔aW env[i]? :=λi=>by
    by_cases z:j=i
    .subst z;rw[bV hj,q];exact⟨λ_=>trivial,λ_=>trivial⟩
    .rw[Gae z]
   have xh:∀b,Cln eD env Z b->Cln eD (env.set j (some (.lok d))) Z b:=λb h=> ⟨h.1,λi t e=>h.2 i ((hU i).mp t) e⟩;refine⟨⟨E.same,by simpa using E.len,E.bad,λi di e=> ?_,λi di e=> ?_,λi di e=> ?_,λi k b t1 t2 e1 e2=> ?_⟩,λb ⟨i,h,e⟩=> ?_,hU⟩
   .rcases eG e with⟨z,e⟩| ⟨z,e⟩
    .cases e
    .obtain⟨v,h1,h2⟩:=E.sh i di e;exact⟨v,h1,h2.imp xh⟩
   .have e' :env[i]? =some (some (.own di))\/env[i]? =some (some (.lok di)):=by
     rcases e with e|e
     .rcases eG e with⟨z,e⟩| ⟨z,e⟩
      .cases e
      .exact .inl e
     .rcases eG e with⟨z,e⟩| ⟨z,e⟩
      .cases e;subst z;exact .inl q
      .exact .inr e
    obtain⟨b,h1,h2,h3,h4,h5,h6⟩:=E.ow i di e';exact⟨b,h1,h2,h3,h4,h5,h6.imp xh⟩
   .rcases eG e with⟨z,e⟩| ⟨z,e⟩
    .cases e
    .obtain⟨b,h1,hw,h2,h3⟩:=E.bo i di e;exact⟨b,h1,hw,h2,h3.imp xh⟩
   .have yS :wq env[i]? :=by
     by_cases z:j=i
     .subst z;rw[q];trivial
     .rw[Gae z] at t1;exact t1
    exact E.dj i k b yS ((hU k).mp t2) e1 e2
   .by_cases z:j=i
    .subst z;rw[bV hj] at h;exact h.elim
    .rw[Gae z] at h;exact⟨i,h,e⟩
  .exact⟨E,λ_ h=>h,λ_=>Iff.rfl⟩
theorem au.free{K:ao}{eD:Addr->Prop}(E:au K H0 eD env Z H)(l:Option Nat):au K H0 eD (gq l env) Z H:=by
 cases l with
 |none=>exact E
 |some j=>
  unfold gq;dsimp only;split
  .rename_i d q;have hj:j<env.length:=(Gal.mp q).1;have hU:∀i,aW (env.set j (some (.own d)))[i]? ↔aW env[i]? :=λi=>by
    by_cases z:j=i
    .subst z;rw[bV hj,q];exact⟨λ_=>trivial,λ_=>trivial⟩
    .rw[Gae z]
   have xh:∀b,Cln eD env Z b->Cln eD (env.set j (some (.own d))) Z b:=λb h=> ⟨h.1,λi t e=>h.2 i ((hU i).mp t) e⟩;refine⟨E.same,by simpa using E.len,E.bad,λi di e=> ?_,λi di e=> ?_,λi di e=> ?_,λi k b t1 t2 e1 e2=> ?_⟩
   .rcases eG e with⟨z,e⟩| ⟨z,e⟩
    .cases e
    .obtain⟨v,h1,h2⟩:=E.sh i di e;exact⟨v,h1,h2.imp xh⟩
   .have e' :env[i]? =some (some (.own di))\/env[i]? =some (some (.lok di)):=by
     rcases e with e|e
     .rcases eG e with⟨z,e⟩| ⟨z,e⟩
      .cases e;subst z;exact .inr q
      .exact .inl e
     .rcases eG e with⟨z,e⟩| ⟨z,e⟩
      .cases e
      .exact .inr e
    obtain⟨b,h1,h2,h3,h4,h5,h6⟩:=E.ow i di e';exact⟨b,h1,h2,h3,h4,h5,h6.imp xh⟩
   .rcases eG e with⟨z,e⟩| ⟨z,e⟩
    .cases e
    .obtain⟨b,h1,hw,h2,h3⟩:=E.bo i di e;exact⟨b,h1,hw,h2,h3.imp xh⟩
   .have yS :wq env[i]? :=by
     by_cases z:j=i
     .subst z;rw[q];trivial
     .rw[Gae z] at t1;exact t1
    exact E.dj i k b yS ((hU k).mp t2) e1 e2
  .exact E
end
section
variable{X:Cx}{e a b c:Expr}{f g h:DE}{t u:DT}{pos:Pos}{st:Stmt}{rest:List Stmt}{s1 s2:DS}
variable{i:Nat}{l:Option Nat}{env:Env}
theorem wF(h:∀j,l=some j->j≠i):(b8 l env)[i]? =env[i]? :=by
 unfold b8;split
 .rfl
 .rename_i j;split
  .rw[Gae (h j rfl)]
  .rfl
variable{H:Hp}{Z:St}
theorem Stp.loop{xg:Env}{ZN:St}{HN:Hp}(p:Stp (b8 l env) Z H xg ZN HN)(lo:∀b,Ow (b8 l env) Z b->Ow env Z b):Stp env Z H (if qb l env then gq l xg else xg) ZN HN:=by
 have same:qb l env=false->b8 l env=env:=λh=>by
  unfold qb at h;unfold b8;split at h
  .rfl
  .split at h
   .cases h
   .rfl
 cases ho:qb l env with
 |false=>
  rw[Gai Gat];rw[same ho] at p;exact p
 |true=>
  rw[Gaj rfl];unfold qb at ho;split at ho
  .cases ho
  .rename_i j;split at ho
   .rename_i d q;have hj:j<env.length:=(Gal.mp q).1;have lockj:(b8 (some j) env)[j]? =some (some (.lok d)):=by unfold b8;simp only[q];exact bV hj
    have other:∀i,j≠i->(b8 (some j) env)[i]? =env[i]? :=λi hi=>wF λk e=>by cases e;exact hi
    refine⟨λb o e n=>p.keep b o e λz=>n (lo b z),λb ⟨i,h,e⟩=> ?_,λi h=> ?_⟩
    .by_cases z:j=i
     .subst z;unfold gq at h;dsimp only at h;split at h
      .rename_i d' q';obtain⟨h1,h2⟩:=p.lk j (by rw[q'];trivial);rw[h2] at e;exact .inl ⟨j,by rw[q];trivial,e⟩
      .rcases p.ow b ⟨j,h,e⟩ with w|w
       .exact .inl (lo b w)
       .exact .inr w
     .have h' :isO xg[i]? :=by
       unfold gq at h;dsimp only at h;split at h
       .rw[Gae z] at h;exact h
       .exact h
      rcases p.ow b ⟨i,h',e⟩ with w|w
      .exact .inl (lo b w)
      .exact .inr w
    .by_cases z:j=i
     .subst z;unfold gq at h⊢;dsimp only at h⊢;split at h
      .rename_i d' q';have hj' :j<xg.length:=(Gal.mp q').1;rw[bV hj'] at h;exact h.elim
      .rename_i q';obtain⟨h1,_⟩:=p.lk j h;rw[lockj] at h1;exact absurd h1 (q' d)
     .have hN:(gq (some j) xg)[i]? =xg[i]? :=by
       unfold gq;dsimp only;split
       .rw[Gae z]
       .rfl
      rw[hN] at h⊢;obtain⟨h1,h2⟩:=p.lk i h;rw[other i z] at h1;exact⟨h1,h2⟩
   .cases ho
theorem tm{eD:Addr->Prop}{eP :Env}{Z' :St}{H' :Hp}(p:Stp env Z H eP Z' H'){b:Addr}(h:Cln eD env Z b)(hb:H b≠none):Cln eD eP Z' b:=⟨h.1,λi t e=>by
 rcases sZ t with o|o
 .rcases p.ow b ⟨i,o,e⟩ with⟨j,w,ej⟩|w
  .exact h.2 j w.ol.top ej
  .exact hb w
 .obtain⟨h1,h2⟩:=p.lk i o;rw[h1] at t;rw[h2] at e;exact h.2 i t e⟩
variable{sb:DS}{gd:DG}{body:List Stmt}{tg:Expr}
theorem BD{iter:Expr}{src:DI}(hp:PassesOwn (model X.prog X.w) X.A X.env X.xe)(hc:X.calm=true)(hi:PId X tg iter src)(hg:PGd X tg gd)(hb:qg X body sb)
  (hs:∀x,foldedSetIterable iter X.env x=pure x:=by intro _;rfl):PSd X (.For tg iter body [] pos) (dU l src gd sb):=by
 refine(G8 hp hc hi hg hb hs).aE ?_;rintro D Z H ⟨H0,eD,env,o,E,e,k⟩;obtain⟨ds,xr,e⟩:=eA e;obtain⟨o1,S3,rfl⟩:=Gan.mp e;obtain⟨EL,lo,_⟩:=E.lock l;refine⟨H0,eD,b8 l env,ds,EL,xr,λJ H1 sH it=> ?_⟩;have E1:=EL.mono sH;have st1:Stp env Z H env Z H1:= .of_same sH;have nxOk:∀xg ZN HN,o1= .nx xg->au X.K H0 eD xg ZN HN->Stp (b8 l env) Z H1 xg ZN HN->D.nx ZN HN:=λxg ZN HN eo EN pN=>by
  subst eo;refine k ZN HN ?_ (st1.trans (pN.loop lo));show au X.K H0 eD (if qb l env then gq l xg else xg) ZN HN;split
  .exact EN.free l
  .exact EN
 refine⟨λi m Z' H' =>m=ds.length -i/\i<=ds.length/\∃eI,au X.K H0 eD eI Z' H' /\Stp (b8 l env) Z H1 eI Z' H' /\forL gd sb (ds.drop i) eI=some o1,
  ⟨ds.length,by simp,Gba _,_,E1,.refl,by simpa using S3⟩, ?_⟩
 rintro i m Z' H' ⟨rfl,hle,eI,Ei,pi,ei⟩;obtain⟨items,stop⟩:=it H' λb o hb n=>pi.keep b o hb n;by_cases eU:i<ds.length
 .obtain⟨go,yld⟩:=items i ds[i] (by simp[eU]);refine .inr ⟨go,λZ2 H2=>(ds.length -(i+1))=ds.length -(i+1)/\i+1<=ds.length/\∃eI,au X.K H0 eD eI Z2 H2/\Stp (b8 l env) Z H1 eI Z2 H2/\forL gd sb (ds.drop (i+1)) eI=some o1,λZ2 H2 q=> ⟨_,by lia,q⟩,λx H2 y=> ?_⟩;obtain⟨s2,rep⟩:=yld x H2 y;have hd:ds.drop i=ds[i]::ds.drop (i+1):=GbT eU;rw[hd] at ei;unfold forL at ei;obtain⟨e2,yM,ei⟩:=eA ei;obtain⟨o2,Sh,ei⟩:=eA ei;refine⟨H0,eD,eI,ds[i],e2,Ei.mono s2,yM,rep.imp λb q=>tm pi q.1 q.2,λZ3 H3 E3 p3=> ?_⟩;have p3' :Stp (b8 l env) Z H1 e2 Z3 H3:=(pi.trans (.of_same s2)).trans p3;refine⟨H0,eD,e2,o2,E3,Sh, ?_⟩;cases o2 with
  |nx e4=>exactλZ4 H4 E4 p4=> ⟨rfl,eU,e4,E4,p3'.trans p4,ei⟩
  |ct e4=>exactλZ4 H4 E4 p4=> ⟨rfl,eU,e4,E4,p3'.trans p4,ei⟩
  |bk e4=>
   cases ei
   exactλZ4 H4 E4 p4=>nxOk e4 Z4 H4 rfl E4 (p3'.trans p4)
  |ret d=>
   cases ei;exact k
 .have hi:i=ds.length:=by lia
  subst hi;rw[GdE] at ei;cases ei;exact .inl ⟨stop,nxOk eI Z' H' rfl Ei pi⟩
theorem GN(hp:PassesOwn (model X.prog X.w) X.A X.env X.xe)(hc:PTd X c t)(hb:qg X body sb):PSd X (.While c body [] pos) (qc t sb):=by
 refine(G6 hp hc hb).aE ?_;rintro D Z H ⟨H0,eD,env,o,E,e,k⟩;refine⟨λm Z' H' =>∃eI,au X.K H0 eD eI Z' H' /\Stp env Z H eI Z' H' /\cM t sb m eI=some o,⟨100000,env,E,.refl,e⟩, ?_⟩;rintro m Z' H' ⟨eI,Ei,pi,ei⟩;cases m with
 |zero=>cases ei
 |succ m=>
  unfold cM at ei;obtain⟨bb,Sg,ei⟩:=eA ei;refine⟨H0,eD,eI,bb,Ei,Sg,λH1 s1=> ?_⟩;have pi1:Stp env Z H eI Z' H1:=pi.trans (.of_same s1);dsimp only;cases bb with
  |true=>
   rw[Gaj rfl];rw[Gaj rfl] at ei;obtain⟨o2,Sh,ei⟩:=eA ei;refine⟨λZ2 H2=>∃eI,au X.K H0 eD eI Z2 H2/\Stp env Z H eI Z2 H2/\cM t sb m eI=some o,λZ2 H2 q=> ⟨m,by lia,q⟩,H0,eD,eI,o2,Ei.mono s1,Sh, ?_⟩;cases o2 with
   |nx e4=>exactλZ4 H4 E4 p4=> ⟨e4,E4,pi1.trans p4,ei⟩
   |ct e4=>exactλZ4 H4 E4 p4=> ⟨e4,E4,pi1.trans p4,ei⟩
   |bk e4=>cases ei;exactλZ4 H4 E4 p4=>k Z4 H4 E4 (pi1.trans p4)
   |ret d=>cases ei;exact k
  |false=>
   rw[Gai Gat];rw[Gai Gat] at ei;cases ei;exact k Z' H1 (Ei.mono s1) pi1
variable{H0:Hp}
theorem au.dI{K:ao}{eD:Addr->Prop}(E:au K H0 eD env Z H){b:Addr}{o:HO}(h:Ow env Z b)(hb:H b=some o):¬isT o:=by
 intro q;obtain⟨i,h1,h2⟩:=h;obtain⟨y,hy,wy⟩:=E.La h1.ol.top h2;rw[hb] at hy;cases hy
 cases o<;>simp[isT] at q<;>exact wy
variable{v:V}{d:D}
theorem au.ku{K:ao}{eD:Addr->Prop}{Hi:Hp}(E:au K H0 eD env Z H)(keep:∀b o,H b=some o->¬Ow env Z b->Hi b=some o)(r:Rep K (Cln eD env Z) H d v):
  Rep K (λb=>Cln eD env Z b/\H b≠none) Hi d v:=
 r.gen (λb o hb q=>keep b o hb (by
  rcases q with q|q
  .exactλ⟨i,h1,h2⟩=>q.2 i h1.ol.top h2
  .exactλw=>E.dI w hb q)) λb q hb=> ⟨q,hb⟩
def QS(K:ao)(tl:TE):TI:=λZ H R=>tl Z H λx H1=>∃a,x= .ref a/\(((∃xs,SqL K H1 a xs)/\R (Itl K a) H1)\/((∃xs,SqT K H1 a xs)/\R (Itt K a) H1))
theorem GO{l:Expr}{tl:TE}(hl:PE X l tl):PI X tg l (QS X.K tl):=by
 intro e8 s Z H R I h;refine thn (hl e8 s Z H _ I h) λv s1 ⟨x,H1,I1,r1,q1⟩=> ?_;obtain⟨a,e,q1⟩:=q1;subst e;cases r1;have fp:∀b∈[s1.heap.objs.size],lA X e8 H1 b:=λb hb=>by
  have e:b=s1.heap.objs.size:=by simpa using hb
  subst e;exact I1.Eg (Gap _) (I1.hok.fresh (Gap _))
 rcases q1 with⟨⟨xs,hq⟩,q⟩| ⟨⟨xs,hq⟩,q⟩
 .obtain⟨its,rv,p,hz⟩:=I1.list hq;refine wpAny_pyIter_list p.isList ?_;exact⟨s1.heap.objs.size,[s1.heap.objs.size],_,_,H1,rfl,I1.kept (t' :=s1.toks) λb o e=>Gaf _ e,Eh a _,⟨_,Gaw _ rfl,rfl,rfl⟩,fp,q⟩
 .obtain⟨its,rv,p,hz⟩:=I1.tuple hq;refine Gdn (show s1.heap.IsTuple a its.toArray from p) ?_;exact⟨s1.heap.objs.size,[s1.heap.objs.size],_,_,H1,rfl,I1.kept (t' :=s1.toks) λb o e=>Gaf _ e,B6 a _,⟨_,Gaw _ rfl,rfl,rfl⟩,fp,q⟩
variable{H1:Hp}
theorem D7{eD:Addr->Prop}{kd:Cls}(E:au X.K H0 eD env Z H)(ht:d.top=true)(hk:kd≠ .to)(Rv:i9 X.K H0 eD env Z H H1 ⟨kd,d⟩ v):∀a,v= .ref a->¬Ow env Z a:=λa ea=>by
 cases kd with
 |c=>
  have Rv' :Rep X.K (Cln eD env Z) H1 d v:=Rv;have fin:∀b,Cln eD env Z b->¬Ow env Z b:=λb f ⟨i,h1,h2⟩=>f.2 i h1.ol.top h2;cases Rv' with
  |tup h l r=>simp[D.top] at ht
  |lst f h l r=>cases ea;exact fin _ f
  |dK f h l r=>cases ea;exact fin _ f
  |dT f h l r=>cases ea;exact fin _ f
  |non=>cases ea
  |bl b=>cases ea
  |int i=>cases ea
  |str x=>cases ea
  |scr h=>simp[D.top] at ht
  |exc _ _=>simp[D.top] at ht
 |tn=>
  obtain⟨a',e',n,_⟩:=Rv;rw[e'] at ea;cases ea
  exactλ⟨i,h1,h2⟩=>E.mF h1.ol.top h2 n
 |to=>exact absurd rfl hk
 |tb=>exact Rv.2 a ea ht
theorem BE(he:PEd X e f):PId X tg e (gr f):=by
 refine(GO he).aE ?_;rintro Z H R ⟨H0,eD,env,ds,E,hf,k⟩;obtain⟨⟨kd,d⟩,hr,hf⟩:=eA hf;split at hf
 .cases hf
 rename_i hk;refine⟨H0,eD,env,_,E,hr,λv H1 s1 Rv=> ?_⟩;have ii:=Rv.inn;have E1:=E.mono s1;split at hf
 .rename_i xs hd;cases hf;have xb :d= .lst ds:=hd;subst xb;have hno:=D7 E rfl hk Rv;cases ii with
  | @lst la lv _ h r=>
   refine⟨_,rfl,.inl ⟨⟨_,.inl h⟩,k _ H1 s1 λHi keep=> ?_⟩⟩;have hh:Rd Hi la (.lst lv):=by
    rcases h with h| ⟨o,h⟩
    .exact .inl (keep _ _ h (hno _ rfl))
    .exact .inr ⟨o,keep _ _ h (hno _ rfl)⟩
   refine⟨λi d hd=> ?_,⟨_,.inl hh,by rw[r.1];exact Gap _⟩⟩;obtain⟨x,h1,h2⟩:=r.get hd;refine⟨⟨_,x,.inl hh,h1⟩,λy H2 ⟨e2,e3⟩=> ?_⟩;subst e2;refine⟨bB, ?_⟩;have:=e3 _ (.inl hh);rw[h1] at this;cases this
   exact E1.ku keep h2
 .rename_i xs hd;cases hf;have xb :d= .tup ds:=hd;subst xb;cases ii with
  | @tup la lv _ h r=>
   refine⟨_,rfl,.inr ⟨⟨_,SqT.of h⟩,k _ H1 s1 λHi keep=> ?_⟩⟩;have hh:Hi la=some (.tup lv):=keep _ _ h λw=>E1.dI w h trivial;refine⟨λi d hd=> ?_,⟨_,SqT.of hh,by rw[r.1];exact Gap _⟩⟩;obtain⟨x,h1,h2⟩:=r.get hd;refine⟨⟨_,x,SqT.of hh,h1⟩,λy H2 ⟨e2,e3⟩=> ?_⟩;subst e2;refine⟨bB, ?_⟩;have:=e3 _ (SqT.of hh);rw[h1] at this;cases this
   exact E1.ku keep h2
 .rename_i ns hd;cases hf;have xb :d= .scr ns:=hd;subst xb;cases ii with
  | @scr la _ h=>
   refine⟨_,rfl,.inl ⟨⟨_,h.sq⟩,k _ H1 s1 λHi keep=> ?_⟩⟩;have hh:Scr X.K Hi la ns:=by
    rcases h with⟨o,h⟩|h
    .exact .inl ⟨o,keep _ _ h λw=>E1.dI w h trivial⟩
    .exact .inr h
   refine⟨λi d hd=> ?_,⟨_,hh.sq,by simp⟩⟩;rw[Gam] at hd;cases q:ns[i]? with
   |none=>rw[q] at hd;cases hd
   |some n=>
    rw[q] at hd;cases hd
    refine⟨⟨_,.int n,hh.sq,by rw[Gam,q];rfl⟩,λy H2 ⟨e2,e3⟩=> ?_⟩;subst e2;have:=e3 _ hh.sq;rw[Gam,q] at this;cases this
    exact⟨bB,.int n⟩
 .cases hf
variable{n:Nat}
theorem jz{lo:Int}{F N:Addr->Prop}:BC X.K F N (Itr lo n) (aJ lo n) H1:=λHi _=>by
 refine⟨λi d hd=> ?_,by show n<=(aJ lo n).length;simp[aJ]⟩;have hi:i<n:=by have:=(Gal.mp hd).1;simpa[aJ] using this
 refine⟨hi,λx H2 ⟨e1,e2⟩=> ?_⟩;subst e1 e2;have:d= .int (lo+(i:Int)):=by
  unfold aJ at hd;rw[Gam,GdV hi] at hd;cases hd;rfl
 subst this;exact⟨bB,.int _⟩
theorem dJ{i:Int}(h:aY i=true): -(2^62)<=i/\i<2^62:=by
 unfold aY at h;rw[Gas] at h;have h1:=Gaq h.1;have h2:=Gaq h.2;lia
variable{p:Pos}
theorem tq(hg:Gl X "range")(hm:X.mg "range"=none)(he:PEd X e f)(hs:starEach [e] X.env=[(false,eval e X.env)]:=by rfl):PId X tg (.Call (.Name "range" p) [e] [] pos) (dF f):=by
 refine(Ej hg hm (d3 he gx hs) hs).aE ?_;rintro Z H R ⟨H0,eD,env,ds,E,hf,k⟩;obtain⟨r,hr,hf⟩:=eA hf;split at hf
 .rename_i j hd;split at hf
  .rename_i hz;cases hf;refine⟨H0,eD,env,[r],E,by unfold a7 aa;rw[hr];rfl,λvs H1 s1 Rs=> ?_⟩;cases Rs with
   |cons R1 t=>
    cases t;have i:=R1.inn;rw[hd] at i;cases i;exact⟨j,rfl,(dJ hz).1,(dJ hz).2,k _ H1 s1 jz⟩
  .cases hf
 .cases hf
theorem EG(hg:Gl X "range")(hm:X.mg "range"=none)(ha:PEd X a f)(hb:PEd X b g)(hs:starEach [a,b] X.env=[(false,eval a X.env),(false,eval b X.env)]:=by rfl)(xj:starEach [b] X.env=[(false,eval b X.env)]:=by rfl):
  PId X tg (.Call (.Name "range" p) [a,b] [] pos) (CY f g):=by
 refine(Ek hg hm (d3 ha (d3 hb gx xj) (by rw[hs,xj])) hs xj).aE ?_;rintro Z H R ⟨H0,eD,env,ds,E,hf,k⟩;obtain⟨r,hr,hf⟩:=eA hf;obtain⟨r',Rk,hf⟩:=eA hf;split at hf
 .rename_i i j hd xb;split at hf
  .rename_i hz;rw[Gas] at hz;cases hf;refine⟨H0,eD,env,[r,r'],E,by simp only[a7,aa,hr,Rk];rfl,λvs H1 s1 Rs=> ?_⟩;cases Rs with
   |cons R1 t=>
    cases t with
    |cons R2 t=>
     cases t;have i1:=R1.inn;rw[hd] at i1;cases i1;have i2:=R2.inn;rw[xb] at i2;cases i2;exact⟨i,j,rfl,⟨(dJ hz.1).1,(dJ hz.1).2,(dJ hz.2).1,(dJ hz.2).2⟩,k _ H1 s1 jz⟩
  .cases hf
 .cases hf
theorem bW{x:Str}(hN:X.N.Nodup)(hi:X.N[i]? =some x)(hx:Loc X.env.scope x)(hf:X.fn x=true\/X.env.scope.names.lookup x=some .local:=by first|exact .inl rfl|exact .inr rfl|assumption):PGd X (.Name x pos) (gN i):=by
 refine(CJ hN hi hx hf).aE ?_;rintro v Z H Q ⟨H0,eD,env,d,eP,E,hg,r,k⟩;cases hg;exact k _ H (E.l6 r) .l6
def tGs(X:Cx)(is:List Nat):TGs:=λvs Z H Q=>∃H0 eD env ds eP,au X.K H0 eD env Z H/\gNs is ds env=some eP /\aI X.K (λb=>Cln eD env Z b/\H b≠none) H ds vs/\∀Z' H',au X.K H0 eD eP Z' H' ->Stp env Z H eP Z' H' ->Q Z' H'
variable{es:List Expr}
theorem _root_.L2.PGs.aE{t t' :TGs}(h:PGs X es t')(i:∀v Z H Q,t v Z H Q->t' v Z H Q):PGs X es t:=λe8 s Z H v u Q I r q=>h e8 s Z H v u Q I r (i v Z H Q q)
theorem uJ:PGs X [] (tGs X []):=by
 refine J8.aE ?_;rintro vs Z H Q ⟨H0,eD,env,ds,eP,E,hg,r,k⟩;cases ds with
 |nil=>cases hg;exact⟨r.cf,k Z H E .refl⟩
 |cons d ds=>cases hg
variable{is:List Nat}
theorem mI(h1:PGd X e (gN i))(h2:PGs X es (tGs X is))(hs:(assignEach (e::es) X.env).map (·.2)=assign e X.env::(assignEach es X.env).map (·.2):=by rfl):PGs X (e::es) (tGs X (i::is)):=by
 refine(G5 h1 h2 hs).aE ?_;rintro vs Z H Q ⟨H0,eD,env,ds,eP,E,hg,r,k⟩;cases ds with
 |nil=>cases hg
 |cons d ds=>
  obtain⟨v,vr,rfl,r1,r2⟩:=r.cons_inv;refine⟨v,vr,rfl,H0,eD,env,d,_,E,rfl,r1.imp λ_ q=>q.1,λZ1 H1 E1 p1=> ?_⟩;refine⟨H0,eD,_,ds,eP,E1,hg,r2.gen (λb o hb q=>p1.keep b o hb (by
   rcases q with q|q
   .exactλ⟨j,w1,w2⟩=>q.1.2 j w1.ol.top w2
   .exactλw=>E.dI w hb q)) (λb q hb=> ⟨tm p1 q.1 hb, ?_⟩),λZ2 H2 E2 p2=>k Z2 H2 E2 (p1.trans p2)⟩
  cases o:H b with
  |none=>exact absurd o hb
  |some x=>rw[p1.keep b x o λ⟨j,w1,w2⟩=>q.1.2 j w1.ol.top w2];simp
theorem D8:∀{is:List Nat} {ds:List D} {env eP :Env},gNs is ds env=some eP ->ds.length=is.length
 |[],[],_,_,_=>rfl
 |[],_::_,_,_,h=>by cases h
 |_::_,[],_,_,h=>by cases h
 |i::is,d::ds,env,eP,h=>by
  have:=D8 (is:=is) (ds:=ds) h;simp[this]
theorem BF{j:Nat}(hc:X.calm=true)(h:PGs X es (tGs X is))(hn:(assignEach es X.env).length=n:=by rfl)(xU:(assignEach es X.env).findIdx? (·.1)=none:=by rfl)(hl:is.length=n:=by rfl):PGd X (.Tuple es j pos) (gT is):=by
 refine(Lu hc h hn xU).aE ?_;rintro v Z H Q ⟨H0,eD,env,d,eP,E,hg,r,k⟩;unfold gT at hg;split at hg
 .rename_i ds;cases r with
  |tup h l r=>
   refine⟨_,_,rfl,SqT.of h,by rw[<-l,D8 hg,hl],H0,eD,env,ds,eP,E,hg,⟨l,λi d v e1 e2=>(r i d v e1 e2).gen (.of_same bB) λb q hb=> ⟨q,hb⟩⟩,k⟩
 .cases hg
theorem M9(he:PEd X e f)(hg:PGd X tg gd)(hs:swapsWithSole [tg] e pos.line X.env=pure false:=by rfl)(hw:swappedStores [tg] e X.env=pure none:=by rfl)(h1:(assignEach [tg] X.env).map (·.2)=[assign tg X.env]:=by rfl):PSd X (.Assign [tg] e pos) (M0 gd f):=by
 refine(Lv he hg hs hw h1).aE ?_;rintro D Z H ⟨H0,eD,env,o,E,e,k⟩;obtain⟨⟨kd,d⟩,hr,e⟩:=eA e;cases kd with
 |c=>
  obtain⟨eP,yN,rfl⟩:=Gan.mp e;exact⟨H0,eD,env,_,E,hr,λv H1 s1 R=> ⟨H0,eD,env,d,eP,E.mono s1,yN,R,λZ2 H2 E2 p2=>k Z2 H2 E2 ((Stp.of_same s1).trans p2)⟩⟩
 |tn=>cases e
 |to=>cases e
 |tb=>cases e
end
section
variable{X:Cx}{e a b c:Expr}{f g h:DE}{t u:DT}{pos:Pos}{st:Stmt}{rest:List Stmt}{s1 s2:DS}
variable{d:D}{i:Nat}
theorem mJ{env:Env}(h:ownAt i env=some d):env[i]? =some (some (.own d)):=by
 unfold ownAt at h;split at h
 .rename_i d' q;cases h;exact q
 .cases h
variable{H:Hp}
theorem mK{K:ao}{F:Addr->Prop}{ds:List D}{a:Addr}(w:Wr H a)(i:Inn K F H (.lst ds) (.ref a)):∃vs,H a=some (.lst vs)/\aI K F H ds vs:=by
 cases i with
 |lst h r=>
  rcases h with h| ⟨o,h⟩
  .exact⟨_,h,r⟩
  .obtain⟨y,hy,wy⟩:=w;rw[h] at hy;cases hy;exact wy.elim
variable{px apos eE:Pos}{x:Str}
theorem nW(hN:X.N[i]? =some x)(hv:Vis X.env.scope x)(he:PEd X e f)(hd:(x==("__debug__":Str))=false:=by decide)(xu:(x==("__classdict__":Str))=false:=by decide)
  (hX:starEach [e] X.env=[(false,eval e X.env)]:=by rfl)
  (eW:attributeBase (.Name x px) "append" X.env (eval (.Name x px) X.env)=eval (.Name x px) X.env:=by rfl)
  (xF:((backTo eE (starEach [e] X.env)).all (λx=> !x.1)&&(backToKw eE (keywordEach [] X.env)).all (λx=>x.1.isSome)
   &&decide (([e]:List Expr).length+([]:List Keyword).length+(if([]:List Keyword).isEmpty then 0 else 1)<30))=true:=by rfl)
  (eV:(apos.endLine==eE.line)=true:=by rfl)(hs:swapsWith (.Call (.Attribute (.Name x px) "append" apos) [e] [] eE) none pos.line X.env=pure false:=by rfl):
  PSd X (.Expr (.Call (.Attribute (.Name x px) "append" apos) [e] [] eE) pos) (fO i f):=by
 refine(pB (CP GcE PySem.F.slot_list_append PySem.F.type_list_append nJ (jw hN hv hd xu) (d3 he gx hX) eW xF eV hX rfl) hs).aE ?_;rintro D Z H ⟨H0,eD,env,o,E,e,k⟩;obtain⟨r,hr,e⟩:=eA e;obtain⟨d,hd,e⟩:=eA e;have q:=mJ hd;split at e
 .rename_i xs;split at e
  .rename_i z;rw[Gas] at z;cases e;obtain⟨a,h1,h2,h3,h4,h5,h6⟩:=E.ow i _ (.inl q);obtain⟨vs,hH,rp⟩:=mK h4 h6;refine⟨_,h1,.inl ⟨rfl,vs,.inl (.inl hH)⟩,H0,eD,env,[r],E,by unfold a7 aa;rw[hr];rfl,λws H2 s2 Rs=> ?_⟩;cases Rs with
   | @cons _ v _ _ R1 tl=>
    cases tl;have ym:=s2 _ _ hH;refine⟨a,vs,v,rfl,rfl,ym,by rw[<-rp.1,<-eM];exact Gaq z.2, ?_⟩;have E2:=E.mono s2;have rep1:=R1.rep E z.1;have rp2:aI X.K (Cln eD env Z) H2 (xs++[r.d]) (vs++[v]):=(rp.gen (.of_same s2) λ_ f _=>f).append (.cons rep1 .nil);obtain⟨E3,p3⟩:=E2.change (d' := .lst (xs++[r.d])) (o:= .lst (vs++[v])) q h1 trivial rfl (.lst (.inl ay) (rp2.gen (λb o hb w=>by
     have:b≠a:=by
      rintro rfl;rcases w with w|w
      .exact w.2 i (by rw[q];trivial) h1
      .rw[ym] at hb;cases hb;exact w
     rw[ag this];exact hb) λ_ f _=>f))
    exact k Z _ E3 ((Stp.of_same s2).trans p3)
  .cases e
 .cases e
theorem EH(hN:X.N[i]? =some x)(hv:Vis X.env.scope x)(he:PEd X e f)(hd:(x==("__debug__":Str))=false:=by decide)(xu:(x==("__classdict__":Str))=false:=by decide)
  (hX:starEach [e] X.env=[(false,eval e X.env)]:=by rfl)
  (eW:attributeBase (.Name x px) "extend" X.env (eval (.Name x px) X.env)=eval (.Name x px) X.env:=by rfl)
  (xF:((backTo eE (starEach [e] X.env)).all (λx=> !x.1)&&(backToKw eE (keywordEach [] X.env)).all (λx=>x.1.isSome)
   &&decide (([e]:List Expr).length+([]:List Keyword).length+(if([]:List Keyword).isEmpty then 0 else 1)<30))=true:=by rfl)
  (eV:(apos.endLine==eE.line)=true:=by rfl)(hs:swapsWith (.Call (.Attribute (.Name x px) "extend" apos) [e] [] eE) none pos.line X.env=pure false:=by rfl):
  PSd X (.Expr (.Call (.Attribute (.Name x px) "extend" apos) [e] [] eE) pos) (Oe i f):=by
 refine(pB (CP GcE PySem.F.slot_list_extend PySem.F.type_list_extend Es (jw hN hv hd xu) (d3 he gx hX) eW xF eV hX rfl) hs).aE ?_;rintro D Z H ⟨H0,eD,env,o,E,e,k⟩;obtain⟨⟨kd,rd⟩,hr,e⟩:=eA e;obtain⟨d,hd,e⟩:=eA e;have q:=mJ hd;split at e
 .rename_i xs ys hrd;have hrd' :rd= .lst ys:=hrd;subst hrd';split at e
  .rename_i z;rw[Gas] at z;cases e;have hk:kd= .tn:=by have:=z.1;simpa using this
   subst hk;obtain⟨a,h1,h2,h3,h4,h5,h6⟩:=E.ow i _ (.inl q);obtain⟨vs,hH,rp⟩:=mK h4 h6;refine⟨_,h1,.inl ⟨rfl,vs,.inl (.inl hH)⟩,H0,eD,env,[⟨.tn,.lst ys⟩],E,by unfold a7 aa;rw[hr];rfl,λws H2 s2 Rs=> ?_⟩;cases Rs with
   | @cons _ v _ _ R1 tl=>
    cases tl;obtain⟨b,rfl,nb,wb,_,ib⟩:=R1;obtain⟨us,hB,ru⟩:=mK wb ib;have ym:=s2 _ _ hH;refine⟨a,b,vs,us,rfl,rfl,ym,hB,by rw[<-rp.1,<-ru.1,<-eM];exact Gaq z.2, ?_⟩;have E2:=E.mono s2;have rp2:aI X.K (Cln eD env Z) H2 (xs++ys) (vs++us):=(rp.gen (.of_same s2) λ_ f _=>f).append (ru.gen (.of_same bB) λ_ f _=>f.1);obtain⟨E3,p3⟩:=E2.change (d' := .lst (xs++ys)) (o:= .lst (vs++us)) q h1 trivial rfl (.lst (.inl ay) (rp2.gen (λb o hb w=>by
     have:b≠a:=by
      rintro rfl;rcases w with w|w
      .exact w.2 i (by rw[q];trivial) h1
      .rw[ym] at hb;cases hb;exact w
     rw[ag this];exact hb) λ_ f _=>f))
    exact k Z _ E3 ((Stp.of_same s2).trans p3)
  .cases e
 .cases e
def QT(K:ao):List V->Hp->VK->Prop:=λxs H Q=>∃x T t b,xs=[x,.ty T]/\lB K H x (.type t)/\PySem.W.kitOne K (.type t) (.type T)=some b/\Q (.bl b) H
theorem GP:fq X (.builtin "isinstance") (QT X.K):=by
 intro e8 s Z H xs us Q I r h;obtain⟨x,T,t,bb,rfl,ty,hk,q⟩:=h;obtain⟨u,w',rfl,r1,r2⟩:=vals2 r;cases r2;exact Ep I r1 ty hk λtk=> ⟨.bl bb,H,I.tok _,rfl,q⟩
def GQ(K:ao)(T:String):Prop:=∀t∈["NoneType","bool","int","str","tuple","list","dict"],PySem.W.kitOne K (.type t) (.type T)=some (T==t||(t=="bool"&&T=="int"))
theorem JI{K:ao}{F:Addr->Prop}{x:V}(i:Inn K F H d x)(hs:mC d=false):∃t∈["NoneType","bool","int","str","tuple","list","dict"],lB K H x (.type t)/\∀S,jI S d=(S==t||(t=="bool"&&S=="int")):=by
 have rdl:∀{a:Addr} {vs:List V},Rd H a (.lst vs)->lB K H (.ref a) (.type "list"):=λh=>by
  rcases h with h| ⟨o,h⟩
  .exact .lst h
  .exact .frz h
 cases i with
 |non=>exact⟨"NoneType",by simp,.non,λS=>by simp[jI]⟩
 |bl b=>exact⟨"bool",by simp,.bl b,λS=>by simp[jI]⟩
 |int i=>exact⟨"int",by simp,.int i,λS=>by simp[jI]⟩
 |str x=>exact⟨"str",by simp,.str x,λS=>by simp[jI]⟩
 |tup h r=>exact⟨"tuple",by simp,.tup h,λS=>by simp[jI]⟩
 |lst h r=>exact⟨"list",by simp,rdl h,λS=>by simp[jI]⟩
 |dK h r=>exact⟨"dict",by simp,.dK h,λS=>by simp[jI]⟩
 |dT h r=>exact⟨"dict",by simp,.dT h,λS=>by simp[jI]⟩
 |scr h=>cases hs
 |exc _ _=>cases hs
theorem GR{T:String}{p p2:Pos}(TC:GQ X.K T)(he:PEd X e f)(hg:Gl X "isinstance")(hm:X.mg "isinstance"=none)(yM:Gl X x)(zO:X.mg x=none)(TQ:bootBuiltins x=some (.type T))(S7:x≠"__name__":=by decide)(hd2:(x==("__debug__":Str))=false:=by decide)
  (hX:starEach [e,.Name x p2] X.env=(false,eval e X.env)::starEach [.Name x p2] X.env:=by rfl)(xj:starEach [.Name x p2] X.env=(false,eval (.Name x p2) X.env)::starEach [] X.env:=by rfl)(xw:(backTo pos (starEach [.Name x p2] X.env)).any (·.1)=false:=by rfl):
  PEd X (.Call (.Name "isinstance" p) [e,.Name x p2] [] pos) (bE (Gu T f)):=by
 have ht:PE X (.Name x p2) (tC (.ty T)):=J5 yM zO TQ rfl S7 hd2;refine(pP GP hg hm (by decide+kernel) (mi he (mi ht pO xj) hX) (by decide) (by decide) hX xw).aE ?_;rintro Z H Q ⟨H0,eD,env,rv,E,e,k⟩;obtain⟨bb,e',rfl⟩:=Gan.mp e;clear e;have e:=e';clear e';obtain⟨r,hr,e⟩:=eA e;split at e
 .cases e
 .rename_i hs;cases e;refine⟨H0,eD,env,r,E,hr,λv H1 s1 R=> ?_⟩;obtain⟨t,ht,ty,hb⟩:=JI R.inn (by simpa using hs);exact⟨v,T,t,_,rfl,ty,TC t ht,by rw[<-hb T];exact k _ H1 s1 (.bl _)⟩
theorem uK:∀env rs,aa env=some rs->rs.length=0:=λenv rs h=>by cases h;rfl
theorem qm{r:DA}{n:Nat}(h:∀env rs,r env=some rs->rs.length=n):∀env rs,a7 f r env=some rs->rs.length=n+1:=λenv rs e=>by
 obtain⟨x,_,e⟩:=eA e;obtain⟨xs,hx,e⟩:=eA e;cases e;rw[GaE,h env xs hx]
theorem au.start{K:ao}{H:Hp}{N:List Str}{ds:List D}{vs:List V}(hl:ds.length<=N.length)(r:aI K (λ_=>True) H ds vs):au K H (λ_=>False) (bw N.length ds) (start N vs) H:=by
 have nt:∀i:Nat,¬aW (bw N.length ds)[i]? :=λi h=>by
  unfold bw at h;by_cases hi:i<ds.length
  .rw[GaQ (by simpa using hi),Gam] at h;cases q:ds[i]? with
   |none=>rw[q] at h;exact h
   |some d=>rw[q] at h;exact h
  .rw[GaK (by simpa using hi),GcC] at h;split at h<;>exact h
 have no:∀{i:Nat} {s:Slot},(bw N.length ds)[i]? =some (some s)->aW (some (some s))->False:=λ{i s} e h=>nt i (by rw[e];exact h);refine⟨λ_ _ e=>e,by simp[bw,L2.start,r.1],λ_ h=>h.elim,λi d e=> ?_,λi d e=> ?_,λi d e=> ?_,λi j a t _ _ _=>(nt i t.top).elim⟩
 .unfold bw at e;by_cases hi:i<ds.length
  .rw[GaQ (by simpa using hi),Gam] at e;cases q:ds[i]? with
   |none=>rw[q] at e;cases e
   |some d' =>
    rw[q] at e;have e' :d' =d:=by simpa using e
    subst e';obtain⟨v,h1,h2⟩:=r.get q;refine⟨v, ?_,h2.imp λb _=> ⟨λz=>z,λj t=>(nt j t).elim⟩⟩;unfold L2.start;rw[GaQ (by rw[Gad,<-r.1];exact hi),Gam,h1];rfl
  .rw[GaK (by simpa using hi),GcC] at e;split at e<;>cases e
 .rcases e with e|e
  .exact(no e trivial).elim
  .exact(no e trivial).elim
 .exact(no e trivial).elim
theorem Pd{P:Program}{w:World}{K:ao}{mg:Str->Option Value}{base:Heap}{qual:Str}{sd:Stmt}{fa:Addr}{fd:FuncData}{N ps:List Str}{k np:Nat}{body:DS}(F:Fun K x qual sd fa fd)(S:j4 N ps (bu sd))(S4:ps.length=np)
  (xQ:∀(xa:Value) (A:Around) (outer:List PySem.Env) (s:Shared) (H:Hp) (E:XK),gk k (A.deeper (envOfC qual (bu sd) s.heap.objs.size fa xa))->
   qg (vW CX0 P w K mg base N qual (bu sd) fa xa A outer s H E).nox (fR sd) body):mj P w K mg base CX0 (k+1) fa fd ps (spD K np (cx N.length np body)):=by
 refine F.ok S (λvs H Q E h=> ?_) λxa A outer s H vs Q E hr h=> ⟨_,xQ xa A outer s H E hr, ?_⟩
 .obtain⟨ds,d,h1,h2,_⟩:=h;rw[<-h2.1,h1,S4]
 .obtain⟨ds,d,h1,h2,h3,k⟩:=h;unfold cx at h3;rw[Gaj h1] at h3;obtain⟨o,ho,h3⟩:=eA h3;have hl:ds.length<=N.length:=by
   have:=congrArg List.length S.pre;rw[GcZ] at this;lia
  refine⟨H,λ_=>False,bw N.length ds,o,au.start hl h2,ho, ?_⟩;cases o with
  |ret d' =>cases h3;exactλv H' s' R=>k v H' s' R
  |nx e=>cases h3;exactλZ' H' E' p' =>k .non H' E'.same ⟨λt=>(by cases t),.non⟩
  |bk e=>cases h3
  |ct e=>cases h3
theorem Ma{K:ao}{a:Addr}{ns:List Int}{sp:List D->Option D}{E:XK}(hO:Jr H)(hS:SqL K H a (ns.map V.int))(h:sp [.scr ns]=some (.bl true)):spD K 1 sp [.ref a] H (λv _=>v= .bl true) E:=by
 refine⟨[.scr ns],.bl true,rfl,aI.cons (.scr ?_) .nil,h,λv H' _ R=> ?_⟩
 .rcases hS with(z|z)|z
  .rcases hO a with q| ⟨o,xs,q⟩<;>rw[z] at q<;>cases q
  .exact .inl z
  .exact .inr z
 .have i:=R.2;cases i;rfl
end
variable{d:D}{n:Nat}
theorem plain_all{ds:List D}(h:ds.all (aD n)=true){i:Nat}(e:ds[i]? =some d):aD n d=true:=Gao.mp h d (GaD e)
inductive BG (K:ao) (F:Addr->Prop) (H:Hp):D->V->Prop where
 |non:BG K F H .non .non
 |bl (b:Bool):BG K F H (.bl b) (.bl b)
 |int (i:Int):BG K F H (.int i) (.int i)
 |str (x:Str):BG K F H (.str x) (.str x)
 |tup {a:Addr} {vs:List V} {ds:List D} (h:H a=some (.tup vs)) (l:ds.length=vs.length) (r:∀(i:Nat) d v,ds[i]? =some d->vs[i]? =some v->Rep K F H d v):BG K F H (.tup ds) (.ref a)
 |lst {a:Addr} {vs:List V} {ds:List D} (f:F a) (h:Rd H a (.lst vs)) (l:ds.length=vs.length) (r:∀(i:Nat) d v,ds[i]? =some d->vs[i]? =some v->Rep K F H d v):BG K F H (.lst ds) (.ref a)
theorem bK{K:ao}{F:Addr->Prop}{H:Hp}{v:V}(p:aD n d=true)(r:Rep K F H d v):BG K F H d v:=by
 cases r with
 |non=>exact .non
 |bl b=>exact .bl b
 |int i=>exact .int i
 |str x=>exact .str x
 |tup h l r=>exact .tup h l r
 |lst f h l r=>exact .lst f h l r
 |_=>cases n<;>exact(Gat p).elim
theorem qo:∀(n:Nat) (d:D),aD n d=true->eqD d d=true:=by
 intro n;induction n with
 |zero=>intro d h;cases d<;>simp[aD] at h<;>simp[eqD]
 |succ n ih=>
  have all:∀ds:List D,ds.all (aD n)=true->kQ ds ds=true:=by
   intro ds;induction ds with
   |nil=>intro _;rfl
   |cons d ds ih2=>
    intro h;rw[GbQ,Gas] at h;simp[kQ,ih d h.1,ih2 h.2]
  intro d h;cases d<;>simp only[aD] at h<;>first
   |(simp[eqD];done)
   |(simp only[eqD];exact all _ h)
   |cases h
theorem gz:∀{ds es:List D},ds.length≠es.length->kQ ds es=false
 |[],[],h=>absurd rfl h
 |[],_::_,_=>rfl
 |_::_,[],_=>rfl
 |d::ds,e::es,h=>by
  unfold kQ;rw[gz (by simpa using h),Gct]
theorem dM:∀{ds es:List D},ds.length=es.length->(List.range ds.length).all (λj=>eqD (ds.getD j .non) (es.getD j .non))=kQ ds es
 |[],[],_=>rfl
 |[],_::_,h=>by simp at h
 |_::_,[],h=>by simp at h
 |d::ds,e::es,h=>by
  have ih:=dM (ds:=ds) (es:=es) (by simpa using h);unfold kQ;rw[GaE,List.range_succ_eq_map,GbQ,Gbp,<-ih]
  rfl
section
variable{X:Cx}{e8:List (Addr×Obj)}{Z:St}{H:Hp}{s:Shared}
theorem uL{K:ao}{F G:Addr->Prop}:∀(n:Nat) {d d' :D} {v:V},aD n d=true->aD n d' =true->Rep K F H d v->Rep K G H d' v->d=d' :=by
 intro n;induction n with
 |zero=>intro d d' v h1 h2 r1 r2;cases bK h1 r1<;>first|exact(Gat h1).elim|(cases bK h2 r2;rfl)
 |succ n ih=>
  have all:∀{ds es:List D} {vs:List V},ds.all (aD n)=true->es.all (aD n)=true->ds.length=vs.length->es.length=vs.length->(∀(i:Nat) d v,ds[i]? =some d->vs[i]? =some v->Rep K F H d v)->(∀(i:Nat) d v,es[i]? =some d->vs[i]? =some v->Rep K G H d v)->ds=es:=by
   intro ds es vs p1 p2 l1 l2 r1 r2;apply GcO;intro i;by_cases hi:i<vs.length
   .have e1:ds[i]? =some ds[i]:=by simp[l1,hi]
    have e2:es[i]? =some es[i]:=by simp[l2,hi]
    have e3:vs[i]? =some vs[i]:=by simp[hi]
    rw[e1,e2,ih (plain_all p1 e1) (plain_all p2 e2) (r1 i _ _ e1 e3) (r2 i _ _ e2 e3)]
   .rw[Gbj (by lia),Gbj (by lia)]
  intro d d' v h1 h2 r1 r2;cases bK h1 r1 with
  |non=>cases bK h2 r2;rfl
  |bl b=>cases bK h2 r2;rfl
  |int i=>cases bK h2 r2;rfl
  |str x=>cases bK h2 r2;rfl
  |tup h l r=>
   cases bK h2 r2 with
   |tup h' l' r' =>
    rw[h] at h';cases h'
    rw[all (by simpa[aD] using h1) (by simpa[aD] using h2) l l' r r']
   |lst f h' l' r' =>rcases h' with h' | ⟨o,h'⟩<;>rw[h] at h' <;>cases h'
  |lst f h l r=>
   cases bK h2 r2 with
   |tup h' l' r' =>rcases h with h| ⟨o,h⟩<;>rw[h] at h' <;>cases h'
   |lst f' h' l' r' =>
    have:∀{xs ys:List V} {a:Addr},Rd H a (.lst xs)->Rd H a (.lst ys)->xs=ys:=λz1 z2=>by
     rcases z1 with z1| ⟨o,z1⟩<;>rcases z2 with z2| ⟨o',z2⟩<;>rw[z1] at z2<;>cases z2<;>rfl
    cases this h h';rw[all (by simpa[aD] using h1) (by simpa[aD] using h2) l l' r r']
theorem item_at{ds:List D}{vs:List V}{its:List Value}{K:ao}{F:Addr->Prop}(l:ds.length=vs.length)(r:∀(i:Nat) d v,ds[i]? =some d->vs[i]? =some v->Rep K F H d v)(rv:Vals vs its){j:Nat}(h:j<its.toArray.size):
  ∃d v,ds[j]? =some d/\ds.getD j .non=d/\Rep K F H d v/\RelV v its.toArray[j]:=by
 have hj:j<its.length:=by simpa using h
 have hv:j<vs.length:=by rw[rv.length];exact hj
 have hd:j<ds.length:=by rw[l];exact hv
 obtain⟨u,e1,e2⟩:=rv.get (i:=j) (x:=vs[j]) (by simp[hv]);refine⟨ds[j],vs[j],by simp[hd],by simp[hd],r j _ _ (by simp[hd]) (by simp[hv]), ?_⟩;have:its.toArray[j]=u:=by
  have:=e1;simp[hj] at this
  simpa using this
 rw[this];exact e2
variable{n:Nat}{A:Around}
theorem in1_units(h:A.units+(n+1)<cLine):A.in1.units+n<cLine:=by
 show A.units+1+n<_;lia
theorem qp(I:Inv X e8 Z H s){F G:Addr->Prop}:∀(n:Nat) {dx dy:D} {x y:V} {v u:Value} {A:Around},aD n dx=true->aD n dy=true->Rep X.K F H dx x->Rep X.K G H dy y->RelV x v->RelV y u->A.units+n<cLine->SeqAt.EqAt A s v u (eqD dx dy):=by
 have flat:∀{dx dy:D} {x y:V} {v u:Value} {A:Around},Rep X.K F H dx x->Rep X.K G H dy y->RelV x v->RelV y u->sS x=true->sS y=true->SeqAt.EqAt A s v u (eqD dx dy):=by
  intro dx dy x y v u A r1 r2 rv ru fx fy;have e:eqD dx dy=eqV x y:=by
   cases r1<;>first|exact(Gat fx).elim|(cases r2<;>first|exact(Gat fy).elim|rfl)
  rw[e];exact Gh rv ru fx fy
 intro n;induction n with
 |zero=>
  intro dx dy x y v u A p1 p2 r1 r2 rv ru hu;refine flat r1 r2 rv ru ?_ ?_
  .cases bK p1 r1<;>first|rfl|exact(Gat p1).elim
  .cases bK p2 r2<;>first|rfl|exact(Gat p2).elim
 |succ n ih=>
  intro dx dy x y v u A p1 p2 r1 r2 rv ru hu;have hu0:A.units<cLine:=by lia
  cases bK p1 r1 with
  | @tup a vs1 ds1 h l r=>
   cases rv;obtain⟨its,xi,ht,_⟩:=I.tuple (SqT.of h);cases bK p2 r2 with
   |non=>cases ru;exact SeqAt.EqAt.tuple_none ht hu0
   |bl b=>cases ru;exact SeqAt.EqAt.tuple_bool b ht hu0
   |int i=>obtain⟨t,rfl⟩:=ru;exact SeqAt.EqAt.tuple_int i t ht hu0
   |str z=>obtain⟨t,rfl⟩:=ru;exact SeqAt.EqAt.tuple_str z t ht hu0
   |lst f' h' l' r' =>
    cases ru;obtain⟨eO,eX,pl,_⟩:=I.list (.inl h');exact SeqAt.EqAt.tuple_list ht pl.isList hu0
   | @tup b vs2 ds2 h' l' r' =>
    cases ru;by_cases hab:a=b
    .subst hab;have:=uL (n+1) p1 p2 (Rep.tup h l r) (Rep.tup h' l' r');rw[<-this,qo _ _ p1];exact SeqAt.EqAt.same _
    .obtain⟨eO,eX,h7,_⟩:=I.tuple (SqT.of h');have hX:its.toArray.size=ds1.length:=by rw[Gar,<-xi.length,l]
     have xj:eO.toArray.size=ds2.length:=by rw[Gar,<-eX.length,l']
     have key:=SeqAt.RcAt.tuples (e:=λj=>eqD (ds1.getD j .non) (ds2.getD j .non)) ht h7 hu0 λj h1 h2=>by
      obtain⟨d1,v1,q1,q2,q3,q4⟩:=item_at l r xi h1;obtain⟨d2,v2,w1,w2,w3,w4⟩:=item_at l' r' eX h2;rw[q2,w2];exact ih (plain_all (by simpa[aD] using p1) q1) (plain_all (by simpa[aD] using p2) w1) q3 w3 q4 w4 (in1_units hu)
     refine SeqAt.EqAt.of_refs hab ?_;show SeqAt.RcAt A s (.ref a) (.ref b) (kQ ds1 ds2);rw[hX,xj] at key;by_cases hl:ds1.length=ds2.length
     .rw[<-hl,Nat.min_self,dM hl] at key
      simpa using key
     .rw[gz hl];have:(ds1.length==ds2.length)=false:=by simpa using hl
      rw[this,Gct] at key;exact key
  | @lst a vs1 ds1 f h l r=>
   cases rv;obtain⟨its,xi,pl,_⟩:=I.list (.inl h);have ht:=pl.isList;cases bK p2 r2 with
   |non=>cases ru;exact SeqAt.EqAt.list_none ht hu0
   |bl b=>cases ru;exact SeqAt.EqAt.list_bool b ht hu0
   |int i=>obtain⟨t,rfl⟩:=ru;exact SeqAt.EqAt.list_int i t ht hu0
   |str z=>obtain⟨t,rfl⟩:=ru;exact SeqAt.EqAt.list_str z t ht hu0
   |tup h' l' r' =>
    cases ru;obtain⟨eO,eX,h7,_⟩:=I.tuple (SqT.of h');exact SeqAt.EqAt.list_tuple ht h7 hu0
   | @lst b vs2 ds2 f' h' l' r' =>
    cases ru;by_cases hab:a=b
    .subst hab;have:=uL (n+1) p1 p2 (Rep.lst f h l r) (Rep.lst f' h' l' r');rw[<-this,qo _ _ p1];exact SeqAt.EqAt.same _
    .obtain⟨eO,eX,yn,_⟩:=I.list (.inl h');have h7:=yn.isList;have hX:its.toArray.size=ds1.length:=by rw[Gar,<-xi.length,l]
     have xj:eO.toArray.size=ds2.length:=by rw[Gar,<-eX.length,l']
     refine SeqAt.EqAt.of_refs hab ?_;show SeqAt.RcAt A s (.ref a) (.ref b) (kQ ds1 ds2);by_cases hl:ds1.length=ds2.length
     .have key:=SeqAt.RcAt.lists (e:=λj=>eqD (ds1.getD j .non) (ds2.getD j .non)) ht h7 (by rw[hX,xj,hl]) hu0 λj h1 h2=>by
       obtain⟨d1,v1,q1,q2,q3,q4⟩:=item_at l r xi h1;obtain⟨d2,v2,w1,w2,w3,w4⟩:=item_at l' r' eX h2;rw[q2,w2];exact ih (plain_all (by simpa[aD] using p1) q1) (plain_all (by simpa[aD] using p2) w1) q3 w3 q4 w4 (in1_units hu)
      rw[hX,dM hl] at key;exact key
     .rw[gz hl];exact SeqAt.RcAt.lists_lengths ht h7 (by rw[hX,xj];simpa using hl) hu0
  |non=>
   cases rv;cases bK p2 r2 with
   |tup h' l' r' =>cases ru;obtain⟨eO,eX,h7,_⟩:=I.tuple (SqT.of h');exact SeqAt.EqAt.none_tuple h7 hu0
   |lst f' h' l' r' =>cases ru;obtain⟨eO,eX,yn,_⟩:=I.list (.inl h');exact SeqAt.EqAt.none_list yn.isList hu0
   |_=>exact flat .non (by first|exact .non|exact .bl _|exact .int _|exact .str _) rfl ru rfl rfl
  |bl b=>
   cases bK p2 r2 with
   |tup h' l' r' =>cases rv;cases ru;obtain⟨eO,eX,h7,_⟩:=I.tuple (SqT.of h');exact SeqAt.EqAt.bool_tuple b h7 hu0
   |lst f' h' l' r' =>cases rv;cases ru;obtain⟨eO,eX,yn,_⟩:=I.list (.inl h');exact SeqAt.EqAt.bool_list b yn.isList hu0
   |_=>exact flat (.bl b) (by first|exact .non|exact .bl _|exact .int _|exact .str _) rv ru rfl rfl
  |int i=>
   cases bK p2 r2 with
   |tup h' l' r' =>obtain⟨t,rfl⟩:=rv;cases ru;obtain⟨eO,eX,h7,_⟩:=I.tuple (SqT.of h');exact SeqAt.EqAt.int_tuple i t h7 hu0
   |lst f' h' l' r' =>obtain⟨t,rfl⟩:=rv;cases ru;obtain⟨eO,eX,yn,_⟩:=I.list (.inl h');exact SeqAt.EqAt.int_list i t yn.isList hu0
   |_=>exact flat (.int i) (by first|exact .non|exact .bl _|exact .int _|exact .str _) rv ru rfl rfl
  |str z=>
   cases bK p2 r2 with
   |tup h' l' r' =>obtain⟨t,rfl⟩:=rv;cases ru;obtain⟨eO,eX,h7,_⟩:=I.tuple (SqT.of h');exact SeqAt.EqAt.str_tuple z t h7 hu0
   |lst f' h' l' r' =>obtain⟨t,rfl⟩:=rv;cases ru;obtain⟨eO,eX,yn,_⟩:=I.list (.inl h');exact SeqAt.EqAt.str_list z t yn.isList hu0
   |_=>exact flat (.str z) (by first|exact .non|exact .bl _|exact .int _|exact .str _) rv ru rfl rfl
theorem wG(I:Inv X e8 Z H s){F G:Addr->Prop}{dx dy:D}{x y:V}{v u:Value}(p1:aD n dx=true)(p2:aD n dy=true)(r1:Rep X.K F H dx x)(r2:Rep X.K G H dy y)(rv:RelV x v)(ru:RelV y u)(hu:A.units+n<cLine):
  SeqAt.RcAt A s v u (eqD dx dy)/\SeqAt.RcNeAt A s v u (!eqD dx dy):=by
 have hu0:A.units<cLine:=by lia
 have tupAt:∀{a:Addr} {vs:List V},H a=some (.tup vs)->∃its:List Value,s.heap.IsTuple a its.toArray:=λh=>let⟨its,_,ht,_⟩:=I.tuple (SqT.of h);⟨its,ht⟩
 have lstAt:∀{a:Addr} {vs:List V},Rd H a (.lst vs)->∃its:List Value,s.heap.IsList a its.toArray:=λh=>let⟨its,_,pl,_⟩:=I.list (.inl h);⟨its,pl.isList⟩
 cases bK p1 r1 with
 |non=>
  cases rv;cases bK p2 r2 with
  |non=>cases ru;exact⟨.none_none,.none_none⟩
  |bl b=>cases ru;exact⟨.none_bool b,.none_bool b⟩
  |int i=>obtain⟨t,rfl⟩:=ru;exact⟨.none_int i t,.none_int i t⟩
  |str z=>obtain⟨t,rfl⟩:=ru;exact⟨.none_str z t,.none_str z t⟩
  |tup h' l' r' =>cases ru;obtain⟨its,ht⟩:=tupAt h';exact⟨.none_tuple ht hu0,.none_tuple ht hu0⟩
  |lst f' h' l' r' =>cases ru;obtain⟨its,ht⟩:=lstAt h';exact⟨.none_list ht hu0,.none_list ht hu0⟩
 |bl b=>
  cases rv;cases bK p2 r2 with
  |non=>cases ru;exact⟨.bool_none b,.bool_none b⟩
  |bl b' =>cases ru;exact⟨.bool_bool b b',.bool_bool b b'⟩
  |int i=>obtain⟨t,rfl⟩:=ru;exact⟨.bool_int b i t,.bool_int b i t⟩
  |str z=>obtain⟨t,rfl⟩:=ru;exact⟨.bool_str b z t,.bool_str b z t⟩
  |tup h' l' r' =>cases ru;obtain⟨its,ht⟩:=tupAt h';exact⟨.bool_tuple b ht hu0,.bool_tuple b ht hu0⟩
  |lst f' h' l' r' =>cases ru;obtain⟨its,ht⟩:=lstAt h';exact⟨.bool_list b ht hu0,.bool_list b ht hu0⟩
 |int i=>
  obtain⟨t,rfl⟩:=rv;cases bK p2 r2 with
  |non=>cases ru;exact⟨.int_none i t,.int_none i t⟩
  |bl b' =>cases ru;exact⟨.int_bool i t b',.int_bool i t b'⟩
  |int j=>obtain⟨t',rfl⟩:=ru;exact⟨.int_int i t j t',.int_int i t j t'⟩
  |str z=>obtain⟨t',rfl⟩:=ru;exact⟨.int_str i t z t',.int_str i t z t'⟩
  |tup h' l' r' =>cases ru;obtain⟨its,ht⟩:=tupAt h';exact⟨.int_tuple i t ht hu0,.int_tuple i t ht hu0⟩
  |lst f' h' l' r' =>cases ru;obtain⟨its,ht⟩:=lstAt h';exact⟨.int_list i t ht hu0,.int_list i t ht hu0⟩
 |str z=>
  obtain⟨t,rfl⟩:=rv;cases bK p2 r2 with
  |non=>cases ru;exact⟨.str_none z t,.str_none z t⟩
  |bl b' =>cases ru;exact⟨.str_bool z t b',.str_bool z t b'⟩
  |int j=>obtain⟨t',rfl⟩:=ru;exact⟨.str_int z t j t',.str_int z t j t'⟩
  |str z' =>obtain⟨t',rfl⟩:=ru;exact⟨.str_str z t z' t',.str_str z t z' t'⟩
  |tup h' l' r' =>cases ru;obtain⟨its,ht⟩:=tupAt h';exact⟨.str_tuple z t ht hu0,.str_tuple z t ht hu0⟩
  |lst f' h' l' r' =>cases ru;obtain⟨its,ht⟩:=lstAt h';exact⟨.str_list z t ht hu0,.str_list z t ht hu0⟩
 | @tup a vs1 ds1 h l r=>
  cases n with
  |zero=>simp[aD] at p1
  |succ n=>
   cases rv;obtain⟨its,xi,ht,_⟩:=I.tuple (SqT.of h);cases bK p2 r2 with
   |non=>cases ru;exact⟨.tuple_none ht hu0,.tuple_none ht hu0⟩
   |bl b=>cases ru;exact⟨.tuple_bool b ht hu0,.tuple_bool b ht hu0⟩
   |int i=>obtain⟨t,rfl⟩:=ru;exact⟨.tuple_int i t ht hu0,.tuple_int i t ht hu0⟩
   |str z=>obtain⟨t,rfl⟩:=ru;exact⟨.tuple_str z t ht hu0,.tuple_str z t ht hu0⟩
   |lst f' h' l' r' =>cases ru;obtain⟨eO,h7⟩:=lstAt h';exact⟨.tuple_list ht h7 hu0,.tuple_list ht h7 hu0⟩
   | @tup b vs2 ds2 h' l' r' =>
    cases ru;obtain⟨eO,eX,h7,_⟩:=I.tuple (SqT.of h');have hX:its.toArray.size=ds1.length:=by rw[Gar,<-xi.length,l]
    have xj:eO.toArray.size=ds2.length:=by rw[Gar,<-eX.length,l']
    have items:∀j (h1:j<its.toArray.size) (h2:j<eO.toArray.size),SeqAt.EqAt A.in1 s its.toArray[j] eO.toArray[j] ((λj=>eqD (ds1.getD j .non) (ds2.getD j .non)) j):=λj h1 h2=>by
     obtain⟨d1,v1,q1,q2,q3,q4⟩:=item_at l r xi h1;obtain⟨d2,v2,w1,w2,w3,w4⟩:=item_at l' r' eX h2;dsimp only;rw[q2,w2];exact qp I n (plain_all (by simpa[aD] using p1) q1) (plain_all (by simpa[aD] using p2) w1) q3 w3 q4 w4 (in1_units hu)
    have k1:=SeqAt.RcAt.tuples ht h7 hu0 items;have k2:=SeqAt.RcNeAt.tuples ht h7 hu0 items;have e:((List.range (min its.toArray.size eO.toArray.size)).all (λj=>eqD (ds1.getD j .non) (ds2.getD j .non))&&its.toArray.size==eO.toArray.size)=kQ ds1 ds2:=by
     rw[hX,xj];by_cases hl:ds1.length=ds2.length
     .rw[<-hl,Nat.min_self,dM hl];simp
     .rw[gz hl];have:(ds1.length==ds2.length)=false:=by simpa using hl
      rw[this,Gct]
    rw[e] at k1 k2;exact⟨k1,k2⟩
 | @lst a vs1 ds1 f h l r=>
  cases n with
  |zero=>simp[aD] at p1
  |succ n=>
   cases rv;obtain⟨its,xi,pl,_⟩:=I.list (.inl h);have ht:=pl.isList;cases bK p2 r2 with
   |non=>cases ru;exact⟨.list_none ht hu0,.list_none ht hu0⟩
   |bl b=>cases ru;exact⟨.list_bool b ht hu0,.list_bool b ht hu0⟩
   |int i=>obtain⟨t,rfl⟩:=ru;exact⟨.list_int i t ht hu0,.list_int i t ht hu0⟩
   |str z=>obtain⟨t,rfl⟩:=ru;exact⟨.list_str z t ht hu0,.list_str z t ht hu0⟩
   |tup h' l' r' =>cases ru;obtain⟨eO,h7⟩:=tupAt h';exact⟨.list_tuple ht h7 hu0,.list_tuple ht h7 hu0⟩
   | @lst b vs2 ds2 f' h' l' r' =>
    cases ru;obtain⟨eO,eX,yn,_⟩:=I.list (.inl h');have h7:=yn.isList;have hX:its.toArray.size=ds1.length:=by rw[Gar,<-xi.length,l]
    have xj:eO.toArray.size=ds2.length:=by rw[Gar,<-eX.length,l']
    have items:∀j (h1:j<its.toArray.size) (h2:j<eO.toArray.size),SeqAt.EqAt A.in1 s its.toArray[j] eO.toArray[j] ((λj=>eqD (ds1.getD j .non) (ds2.getD j .non)) j):=λj h1 h2=>by
     obtain⟨d1,v1,q1,q2,q3,q4⟩:=item_at l r xi h1;obtain⟨d2,v2,w1,w2,w3,w4⟩:=item_at l' r' eX h2;dsimp only;rw[q2,w2];exact qp I n (plain_all (by simpa[aD] using p1) q1) (plain_all (by simpa[aD] using p2) w1) q3 w3 q4 w4 (in1_units hu)
    show SeqAt.RcAt A s (.ref a) (.ref b) (kQ ds1 ds2)/\SeqAt.RcNeAt A s (.ref a) (.ref b) (!kQ ds1 ds2);by_cases hl:ds1.length=ds2.length
    .have k1:=SeqAt.RcAt.lists ht h7 (by rw[hX,xj,hl]) hu0 items;have k2:=SeqAt.RcNeAt.lists ht h7 (by rw[hX,xj,hl]) hu0 items;rw[hX,dM hl] at k1 k2;exact⟨k1,k2⟩
    .rw[gz hl];exact⟨SeqAt.RcAt.lists_lengths ht h7 (by rw[hX,xj];simpa using hl) hu0,SeqAt.RcNeAt.lists_lengths ht h7 (by rw[hX,xj];simpa using hl) hu0⟩
end
section
variable{X:Cx}
def JJ(K:ao)(neg:Bool):R2:=λx y H Q=>∃F dx dy,Inn K F H dx x/\Inn K F H dy y/\dx.plain=true/\dy.plain=true/\Q (.bl (if neg then !eqD dx dy else eqD dx dy)) H
theorem qq(hu:X.A.units+20<cLine):OpR X (compareOp .Eq) (JJ X.K false):=by
 intro e8 s Z H x y v u Q I rx ry h;obtain⟨F,dx,dy,i1,i2,p1,p2,q⟩:=h;exact(wG I (n:=20) p1 p2 i1.any i2.any rx ry hu).1 X.prog X.w _ _ ⟨.bl (eqD dx dy),H,I,rfl,q⟩
theorem Mb(hu:X.A.units+20<cLine):OpR X (compareOp .NotEq) (JJ X.K true):=by
 intro e8 s Z H x y v u Q I rx ry h;obtain⟨F,dx,dy,i1,i2,p1,p2,q⟩:=h;exact(wG I (n:=20) p1 p2 i1.any i2.any rx ry hu).2 X.prog X.w _ _ ⟨.bl (!eqD dx dy),H,I,rfl,q⟩
theorem qr:OpB X eqB (JJ X.K false):=by
 intro F H dx dy x y b Q ix iy e q;unfold eqB at e;split at e
 .rename_i z;rw[Gas] at z;cases e;exact⟨F,dx,dy,ix,iy,z.1,z.2,q⟩
 .cases e
theorem Mc:OpB X neB (JJ X.K true):=by
 intro F H dx dy x y b Q ix iy e q;unfold neB at e;split at e
 .rename_i z;rw[Gas] at z;cases e;exact⟨F,dx,dy,ix,iy,z.1,z.2,q⟩
 .cases e
theorem JK{A:Around}{k:Nat}(hr:gk k A):A.units+20<cLine:=GcH (Nat.add_le_add_left (by decide:20<=64) _) hr.units
theorem BH:bootBuiltins "len"=some (.builtin "len"):=by decide+kernel
theorem Md:bootBuiltins "min"=some (.builtin "min"):=by decide+kernel
theorem Me:bootBuiltins "max"=some (.builtin "max"):=by decide+kernel
theorem Mf:bootBuiltins "any"=some (.builtin "any"):=by decide+kernel
theorem tu:bootBuiltins "sorted"=some (.builtin "sorted"):=by decide+kernel
theorem GU:bootBuiltins "int"=some (.type "int"):=by decide+kernel
theorem JL:bootBuiltins "bool"=some (.type "bool"):=by decide+kernel
theorem qt:bootBuiltins "tuple"=some (.type "tuple"):=by decide+kernel
theorem uM:bootBuiltins "enumerate"=some (.type "enumerate"):=by decide+kernel
theorem JM{K:ao}:GQ K "int":=by
 intro t ht;simp only[GaB,GdF,or_false] at ht;rcases ht with rfl|rfl|rfl|rfl|rfl|rfl|rfl<;>rfl
theorem GW{K:ao}:GQ K "bool":=by
 intro t ht;simp only[GaB,GdF,or_false] at ht;rcases ht with rfl|rfl|rfl|rfl|rfl|rfl|rfl<;>rfl
end
theorem lF{env:PySem.Env}:∀(names:List (Str×NameKind)),(∀y∈names,y.2= .free->∃c,env.cells.lookup y.1=some c)->∀(cs:List (Str×Addr)),(∀n c,cs.lookup n=some c->env.cells.lookup n=some c)->
  ∃cl:List (Str×Addr),(forIn names cs λx r=>(do
    if(x.2==NameKind.free)=true then pure (ForInStep.yield ((x.1,<-cellOf env x.1)::r)) else pure (ForInStep.yield r):Sem (ForInStep (List (Str×Addr)))))=pure cl/\
   (∀n c,cl.lookup n=some c->env.cells.lookup n=some c)/\(∀y∈names,y.2= .free->∃c,cl.lookup y.1=some c)/\∀n c,cs.lookup n=some c->∃c',cl.lookup n=some c'
 |[],_,cs,h=>by
  refine⟨cs,rfl,h, ?_,λn c e=> ⟨c,e⟩⟩;intro y hy;cases hy
 |(x,k)::names,hf,cs,h=>by
  by_cases hk:k= .free
  .subst hk;obtain⟨c,hc⟩:=hf (x,.free) Gak rfl;have xm:cellOf env x=pure c:=by unfold cellOf;rw[hc]<;>rfl
   obtain⟨cl,h1,h2,h3,h4⟩:=lF names (λy hy=>hf y (Gag _ hy)) ((x,c)::cs) (λn c' e=>by
    by_cases z:n=x
    .subst z;simp[Gbm] at e;subst e;exact hc
    .have z' :(n==x)=false:=by simpa using z
     simp[Gbm,z'] at e;exact h n c' e)
   refine⟨cl, ?_,h2,λy hy Rg=> ?_,λn c' e=> ?_⟩
   .rw[GdP];simp only[xm];exact h1
   .rcases GaB.mp hy with rfl|hy
    .exact h4 x c (by simp[Gbm])
    .exact h3 y hy Rg
   .by_cases z:n=x
    .subst z;exact h4 n c (by simp[Gbm])
    .have z' :(n==x)=false:=by simpa using z
     exact h4 n c' (by simp[Gbm,z',e])
  .have xo :(k==NameKind.free)=false:=by simpa using hk
   obtain⟨cl,h1,h2,h3,h4⟩:=lF names (λy hy=>hf y (Gag _ hy)) cs h;refine⟨cl, ?_,h2,λy hy Rg=> ?_,h4⟩
   .rw[GdP];simp only[xo];exact h1
   .rcases GaB.mp hy with rfl|hy
    .exact absurd Rg hk
    .exact h3 y hy Rg
theorem ie{env:PySem.Env}{scope:Scope}(hf:∀y∈scope.names,y.2= .free->∃c,env.cells.lookup y.1=some c):
  ∃cl:List (Str×Addr),closureFor scope env=pure cl/\(∀n c,cl.lookup n=some c->env.cells.lookup n=some c)/\∀y∈scope.names,y.2= .free->∃c,cl.lookup y.1=some c:=by
 obtain⟨cl,h1,h2,h3,_⟩:=lF scope.names hf [] (λn c e=>by simp at e);refine⟨cl, ?_,h2,h3⟩;unfold closureFor;exact(congrArg (λm=>m>>=pure) h1).trans (by rfl)
theorem mem_of_lookup{x:Str}{k:NameKind}:∀{l:List (Str×NameKind)},l.lookup x=some k->(x,k)∈l
 |[],h=>by simp at h
 |(n,k')::r,h=>by
  rw[Gbm] at h;cases hx:x==n with
  |true=>rw[hx] at h;cases h;rw[Gdb] at hx;subst hx;exact Gak
  |false=>rw[hx] at h;exact Gag _ (mem_of_lookup h)
theorem lG{env:PySem.Env}{x:Str}:∀{names:List (Str×NameKind)},(∀y∈names,y.2≠ .cell)->((names.map λ(n,k)=>if(k==NameKind.free&&env.scope.kind== .function&&env.kindOf n==some .cell) then(n,NameKind.cell) else(n,k)).lookup x=some .cell\/
   (names.map λ(n,k)=>if(k==NameKind.free&&env.scope.kind== .function&&env.kindOf n==some .cell) then(n,NameKind.cell) else(n,k)).lookup x=some .free)->(x,NameKind.free)∈names
 |[],_,h=>by simp at h
 |(n,k)::r,hc,h=>by
  have hk:k≠ .cell:=hc (n,k) Gak;rw[Gay] at h;dsimp only at h;split at h
  .rename_i q;have q1:k= .free:=by
    rw[Gas,Gas] at q
    simpa using q.1.1
   subst q1;rw[Gbm] at h;cases hx:x==n with
   |true=>rw[Gdb] at hx;subst hx;exact Gak
   |false=>rw[hx] at h;exact Gag _ (lG (λy hy=>hc y (Gag _ hy)) h)
  .rw[Gbm] at h;cases hx:x==n with
   |true=>
    rw[hx] at h;rw[Gdb] at hx;subst hx
    rcases h with h|h
    .cases h;exact absurd rfl hk
    .cases h;exact Gak
   |false=>rw[hx] at h;exact Gag _ (lG (λy hy=>hc y (Gag _ hy)) h)
theorem fT{env:PySem.Env}{x:Str}:∀{names:List (Str×NameKind)},names.lookup x=some .free->((names.map λ(n,k)=>if(k==NameKind.free&&env.scope.kind== .function&&env.kindOf n==some .cell) then(n,NameKind.cell) else(n,k)).lookup x=some .cell\/
   (names.map λ(n,k)=>if(k==NameKind.free&&env.scope.kind== .function&&env.kindOf n==some .cell) then(n,NameKind.cell) else(n,k)).lookup x=some .free)
 |[],h=>by simp at h
 |(n,k)::r,h=>by
  rw[Gbm] at h;rw[Gay];dsimp only;cases hx:x==n with
  |true=>
   rw[hx] at h;cases h
   split
   .left;rw[Gbm,hx]
   .right;rw[Gbm,hx]
  |false=>
   rw[hx] at h;split
   .rw[Gbm,hx];exact fT h
   .rw[Gbm,hx];exact fT h
noncomputable def blk(X:Cx)(scope:Scope)(cl:List (Str×Addr))(C:Addr)(N:List Str)(s:Shared)(H:Hp)(ex:List Addr):Cx:=
 {X with N:=N,s₀:=s,H0:=H,env:=compEnvC scope cl C X.env,outer:=X.stack,ex:=ex,fn:=λ_=>false,pn:=[],xe:=λ_ _=>False}
noncomputable def Pe:Option NameKind->Bool
 |some .cell=>true
 |some .free=>true
 |_=>false
structure ij(X:Cx)(scope:Scope)(N:List Str)(n:Nat)(ax:List Nat):Prop where
 cell:(scope.names.all λy=>y.2 != .cell)=true
 kind:scope.kind= .function
 names:(scope.names.all λy=>y.2 != .local||scope.names.lookup y.1==some .local)=true
 free:(scope.names.all λy=>y.2 != .free||Pe (X.env.kindOf y.1))=true
 cap:N.drop n=ax.map λi=>(X.N[i]?).getD ("":Str)
 le:n<=N.length
 lt:(ax.all λi=>decide (i<X.N.length))=true
 fr:((N.drop n).all λx=>scope.names.lookup x==some .free)=true
def pE(X:Cx)(ifs:List Expr)(tt:TT):Prop:=∀(e8:List (Addr×Obj)) (s:Shared) (Z:St) (H:Hp) (Q:Bool->Hp->Prop),Inv X e8 Z H s->tt Z H Q->
 wpAny (model X.prog X.w) X.A (forIn ifs true λc r=>if r=true then do let ok<-isTrue c X.env (eval c X.env);pure (ForInStep.yield ok) else pure (ForInStep.yield r)) (TP X e8 Z Q) X.xe s
variable{X:Cx}
theorem nX:pE X [] (tT X gQ):=λe8 s Z H Q I ⟨_,_,_,_,_,e,k⟩=>by
 cases e;exact wpAny_tests_nil ⟨H,I,k H bB⟩
theorem nY{c:Expr}{t:DT}(h:PTd X c t):pE X [c] (tT X t):=λe8 s Z H Q I q=>wpAny_tests_one (h e8 s Z H Q I q)
variable{n j:Nat}{ax:List Nat}
theorem pF{α:Type}{f:Nat->Option α}{y:α}(h:(List.replicate n (none:Option α)++ax.map f)[j]? =some (some y)):∃i,ax[j -n]? =some i/\n<=j/\f i=some y:=by
 by_cases hj:j<n
 .rw[GaQ (by simpa using hj),GcC] at h;rw[Gaj hj] at h;cases h
 .rw[GaK (by simp;lia),GdH,Gam] at h;cases q:ax[j -n]? with
  |none=>rw[q] at h;cases h
  |some i=>rw[q] at h;simp only[GbL,GcP] at h;exact⟨i,rfl,by lia,h⟩
theorem GX{i:Nat}{α:Type}{f:Nat->Option α}(h1:ax[j -n]? =some i)(h2:n<=j):(List.replicate n (none:Option α)++ax.map f)[j]? =some (f i):=by
 rw[GaK (by simp;lia),GdH,Gam,h1];rfl
noncomputable def jL(n:Nat)(ax:List Nat)(Z:St):St:=List.replicate n none++ax.map λi=>Z[i]?.getD none
def l7(eD:Addr->Prop)(env:Env)(Z:St)(p:Addr):Addr->Prop:=λa=>a=p\/¬Cln eD env Z a
theorem getD_some{α:Type}{o:Option (Option α)}{y:α}(h:o.getD none=some y):o=some (some y):=by
 cases o with
 |none=>cases h
 |some z=>simp only[Option.getD_some] at h;rw[h]
variable{env:Env}
theorem wH{sl:Slot}(e:(compEnv n ax env)[j]? =some (some sl)):∃i,ax[j -n]? =some i/\n<=j/\d0 (env[i]?.getD none)=some sl:=pF e
variable{Z:St}
theorem D9{a:Addr}(t:aW (compEnv n ax env)[j]?)(e:(jL n ax Z)[j]? =some (some (.ref a))):∃i:Nat,aW env[i]? /\Z[i]? =some (some (.ref a)):=by
 cases q:(compEnv n ax env)[j]? with
 |none=>rw[q] at t;exact t.elim
 |some z=>
  cases z with
  |none=>rw[q] at t;exact t.elim
  |some sl=>
   obtain⟨i,e1,e2,e3⟩:=wH q;obtain⟨i',yq,_,Uu⟩:=pF e;rw[e1] at yq;cases yq
   refine⟨i, ?_,getD_some Uu⟩;rw[q] at t;cases r:env[i]? with
   |none=>rw[r] at e3;cases e3
   |some z=>cases z with
    |none=>rw[r] at e3;cases e3
    |some z=>
     rw[r] at e3;cases z with
     |sh d=>cases e3;exact t.elim
     |own d=>trivial
     |lok d=>trivial
     |bor d=>trivial
theorem JN:¬isO (compEnv n ax env)[j]? :=λt=>by
 match q:(compEnv n ax env)[j]?,t with
 |some (some (.own d)),_=>
  obtain⟨i,_,_,e3⟩:=wH q;cases q:env[i]?.getD none with
  |none=>rw[q] at e3;cases e3
  |some z=>rw[q] at e3;cases z<;>cases e3
variable{p:Addr}{H H0:Hp}
theorem au.block{K:ao}{eD:Addr->Prop}(E:au K H0 eD env Z H)(n:Nat)(ax:List Nat)(hp:H p=none):
  au K H (l7 eD env Z p) (compEnv n ax env) (jL n ax Z) (upd H p (.lst [])):=by
 have sm:bR H (upd H p (.lst [])):=aU hp;have slot:∀(j:Nat) (sl:Slot),(compEnv n ax env)[j]? =some (some sl)->∃i,ax[j -n]? =some i/\n<=j/\d0 (env[i]?.getD none)=some sl:=λj sl e=>pF e;have noO:∀(j:Nat) d,(compEnv n ax env)[j]? ≠some (some (.own d))/\(compEnv n ax env)[j]? ≠some (some (.lok d)):=λj d=>by
  constructor<;>
  .intro e;obtain⟨i,_,_,e3⟩:=slot j _ e;cases q:env[i]?.getD none with
   |none=>rw[q] at e3;cases e3
   |some z=>rw[q] at e3;cases z<;>cases e3
 have topAd:∀(j:Nat) a,aW (compEnv n ax env)[j]? ->(jL n ax Z)[j]? =some (some (.ref a))->∃i:Nat,aW env[i]? /\Z[i]? =some (some (.ref a)):=λj a t e=>D9 t e;have xh:∀b,Cln eD env Z b->H b≠none->Cln (l7 eD env Z p) (compEnv n ax env) (jL n ax Z) b:=λb h hb=>by
  refine⟨λz=> ?_,λj t e=> ?_⟩
  .rcases z with z|z
   .subst z;exact hb hp
   .exact z h
  .obtain⟨i,t',e'⟩:=topAd j b t e;exact h.2 i t' e'
 refine⟨sm, ?_, ?_, ?_, ?_, ?_, ?_⟩
 .simp[compEnv,jL]
 .intro a ha;rcases ha with ha|ha
  .subst ha;rw[ay];simp
  .intro z;refine ha ⟨λb=>E.bad a b (sm.free z),λi t e=>E.mF t e (sm.free z)⟩
 .intro j d e;obtain⟨i,e1,e2,e3⟩:=slot j _ e;have q:env[i]? =some (some (.sh d)):=by
   cases r:env[i]? with
   |none=>rw[r] at e3;cases e3
   |some z=>cases z with
    |none=>rw[r] at e3;cases e3
    |some z=>rw[r] at e3;cases z<;>cases e3;rfl
  obtain⟨v,h1,h2⟩:=E.sh i d q;refine⟨v, ?_,h2.gen (.of_same sm) xh⟩;unfold jL;rw[GX e1 e2,h1];rfl
 .intro j d e;rcases e with e|e
  .exact absurd e (noO j d).1
  .exact absurd e (noO j d).2
 .intro j d e;obtain⟨i,e1,e2,e3⟩:=slot j _ e;have q:aW env[i]? /\(env[i]? =some (some (.own d))\/env[i]? =some (some (.lok d))\/env[i]? =some (some (.bor d))):=by
   cases r:env[i]? with
   |none=>rw[r] at e3;cases e3
   |some z=>cases z with
    |none=>rw[r] at e3;cases e3
    |some z=>
     rw[r] at e3;cases z with
     |sh d=>cases e3
     |own d=>cases e3;exact⟨trivial,.inl rfl⟩
     |lok d=>cases e3;exact⟨trivial,.inr (.inl rfl)⟩
     |bor d=>cases e3;exact⟨trivial,.inr (.inr rfl)⟩
  have fact:∃a,Z[i]? =some (some (.ref a))/\Wr H a/\d.top=true/\Inn K (Cln eD env Z) H d (.ref a):=by
   rcases q.2 with q|q|q
   .obtain⟨a,h1,_,_,h4,h5,h6⟩:=E.ow i d (.inl q);exact⟨a,h1,h4,h5,h6⟩
   .obtain⟨a,h1,_,_,h4,h5,h6⟩:=E.ow i d (.inr q);exact⟨a,h1,h4,h5,h6⟩
   .exact E.bo i d q
  obtain⟨a,h1,h4,h5,h6⟩:=fact;refine⟨a, ?_,h4.same sm,h5,h6.gen (.of_same sm) xh λ_ _ _ o e=>sm _ o e⟩;unfold jL;rw[GX e1 e2,h1];rfl
 .intro j k a t;exfalso;cases q:(compEnv n ax env)[j]? with
  |none=>rw[q] at t;exact t
  |some z=>cases z with
   |none=>rw[q] at t;exact t
   |some z=>cases z with
    |sh d=>rw[q] at t;exact t
    |own d=>exact(noO j d).1 q
    |lok d=>exact(noO j d).2 q
    |bor d=>rw[q] at t;exact t
theorem au.grow{K:ao}{eD:Addr->Prop}{vs us:List V}(E:au K H0 eD env Z H)(hb:eD p)(h0:H0 p=none)(hp:H p=some (.lst vs))(hl:∀i:Nat,wx env[i]? ->Z[i]? ≠some (some (.ref p))):au K H0 eD env Z (upd H p (.lst us)):=by
 have de:fS (Cln eD env Z) H (upd H p (.lst us)):=λb o e q=>by
  refine(ag ?_).trans e;rintro rfl;rcases q with q|q
  .exact q.1 hb
  .rw[hp] at e;cases e;exact q
 have wr:∀{a},Wr H a->Wr (upd H p (.lst us)) a:=λ{a} ⟨o,h1,h2⟩=>by
  by_cases z:a=p
  .subst z;exact⟨_,ay,trivial⟩
  .exact⟨o,(ag z).trans h1,h2⟩
 refine⟨λb o e=>(ag λz=>by subst z;rw[h0] at e;cases e).trans (E.same b o e),E.len,λa ha=> ?_,λi d e=> ?_,λi d e=> ?_,λi d e=> ?_,E.dj⟩
 .by_cases z:a=p
  .subst z;rw[ay];simp
  .rw[ag z];exact E.bad a ha
 .obtain⟨v,h1,h2⟩:=E.sh i d e;exact⟨v,h1,h2.gen de λ_ f _=>f⟩
 .obtain⟨a,h1,h2,h3,h4,h5,h6⟩:=E.ow i d e;refine⟨a,h1,h2,h3,wr h4,h5,h6.gen de (λ_ f _=>f) λb eb _ o q=> ?_⟩;cases eb;exact(ag (λz:a=p=>h3 (by rw[z];exact hb))).trans q
 .obtain⟨a,h1,h4,h5,h6⟩:=E.bo i d e;refine⟨a,h1,wr h4,h5,h6.gen de (λ_ f _=>f) λb eb _ o q=> ?_⟩;cases eb;exact(ag (λz:a=p=>hl i (by rw[e];trivial) (by rw[<-z];exact h1))).trans q
theorem ex7{a b c d e f g:Type}{P:a->b->c->d->e->f->g->Prop}{G:Prop}(h:∀x1 x2 x3 x4 x5 x6 x7,P x1 x2 x3 x4 x5 x6 x7->G):(∃x1 x2 x3 x4 x5 x6 x7,P x1 x2 x3 x4 x5 x6 x7)->G:=λ⟨x1,x2,x3,x4,x5,x6,x7,q⟩=>h x1 x2 x3 x4 x5 x6 x7 q
structure CoI(X:Cx)(scope:Scope)(cl:List (Str×Addr))(C:Addr)(N:List Str)(s:Shared)(H:Hp)(fp:List Addr)(tn:Nat->Heap->Prop)(eD:Addr->Prop)(env:Env)(Z:St)(p:Addr)(gd:DG)(t:DT)(f:DE)(ds rs:List D)(m:Nat)(s' :Shared)(i:Nat)(Zi:St)(Hi:Hp)(eI:Env)(vs:List V)(done rest:List D):Prop where
 em:m=ds.length -i
 hi:i<=ds.length
 Ii:Inv (blk X scope cl C N s H fp) [] Zi Hi s'
 sti:tn i s'.heap
 fri:∀b∈fp,Hi b=none
 Ei:au X.K H (l7 eD env Z p) eI Zi Hi
 hpi:Hi p=some (.lst vs)
 ri:aI X.K (λb=>Cln eD env Z b/\b≠p) Hi done vs
 owi:∀j:Nat,¬isO eI[j]?
 lbi:∀(j:Nat) a,wx eI[j]? ->Zi[j]? =some (some (.ref a))->¬Cln eD env Z a
 dl:done.length<=i
 ci:bX gd t f (ds.drop i) eI=some rest
 eqi:done++rest=rs
section
variable{X:Cx}{pos:Pos}
variable{x:Str}{scope:Scope}
theorem gA{env:PySem.Env}(h:scope.names.lookup x=some .local):(relabel scope env).names.lookup x=some .local:=lookup_relabel_local h
variable{ex:List Addr}{H:Hp}{s:Shared}{N:List Str}{C:Addr}{cl:List (Str×Addr)}
theorem g7(h:scope.names.lookup x=some .local):Vis (blk X scope cl C N s H ex).env.scope x:= .inl (gA h)
theorem bx(h:scope.names.lookup x=some .local):Loc (blk X scope cl C N s H ex).env.scope x:= .inl (gA h)
theorem iJ(h:scope.names.lookup x=some .free):Vis (blk X scope cl C N s H ex).env.scope x:= .inr (fT h)
variable{fp:List Addr}{Z:St}{e8:List (Addr×Obj)}{ax:List Nat}{n:Nat}
theorem EI{h₁:Heap}{tk:Nat}(S:ij X scope N n ax)(I:Inv X e8 Z H s)
  (yO:∀x c,cl.lookup x=some c->X.env.cells.lookup x=some c)(Rp:∀y∈scope.names,y.2= .free->∃c,cl.lookup y.1=some c)(hf:∀b∈fp,lA X e8 H b)(Rq:∀b∈fp,b<s.heap.objs.size)
  (hC:s.heap.objs.size+1=C)(zx:h₁.Ns C λ_=>none)(old:∀b o,s.heap.get? b=some o->h₁.get? b=some o)(zm:h₁.get? s.heap.objs.size=some {cls:= .type "list",data:= .seq ([]:List Value).toArray}):
  Inv (blk X scope cl C N s H fp) [] (jL n ax Z) (upd H s.heap.objs.size (.lst [])) {s with heap:=h₁,toks:=tk}:=by
 have zb:=I.fresh;have hCn:H C=none:=I.hok.fresh (by lia);have xy:C≠s.heap.objs.size:=λz=>by rw[z] at hC;exact Nat.succ_ne_self _ hC
 have xm:∀y∈scope.names,y.2≠ .cell:=λy hy z=>by
  have:=Gao.mp S.cell y hy;rw[z] at this;simp at this
 have cells:∀x c,cl.lookup x=some c->∃v,s.heap.IsCell c v:=λx c e=>I.cell x c (yO x c e);have cNe:∀x c,cl.lookup x=some c->c≠s.heap.objs.size:=λx c e z=>by
  obtain⟨v,q⟩:=cells x c e;exact absurd q.lt (by rw[z];exact Gbx _)
 refine⟨⟨I.ok.mod,S.kind,I.ok.glob,I.ok.blt,by show s.heap.objs.size<=C;lia,λx y c e1 e2=>I.ok.inj x y c (yO x c e1) (yO y c e2),λx hx=> ?_,λx c e=>(by cases e),I.ok.hd,I.ok.frames,.inl rfl,λb hb=> ⟨?_,λx c e=>(hf b hb).2.2.2.2.1 x c (yO x c e)⟩,
  I.bs,Gbo I.ok.bsz I.sz,λb o e hb=> ?_,λb hb hs=> ?_,I.stack,I.CH⟩,rfl,I.bare,Un.laid old (Gap _) zb,⟨_,zx,λj x v e1 e2 e3=> ?_⟩,λx c e=> ?_,(ag xy).trans hCn,λx c e=>(ag (cNe x c e)).trans (I.iZ x c (yO x c e)),λp hp=> ?_, ?_, ?_⟩
 .obtain⟨c,hc⟩:=Rp (x,.free) (lG xm hx) rfl;exact⟨c,hc⟩
 .intro z;have:=Rq b hb;have z' :b=C:=z;rw[z',<-hC] at this;exact Gbx _ (Nat.lt_of_succ_lt this)
 .rcases(hf b hb).2.2.2.1 with z|z
  .exact I.ok.IY b o e z
  .exact absurd (GaH (Gav e) (Gbo I.ok.bsz z)) (Gbx _)
 .have xO :b∈frs X.stack:=hs;rcases GaB.mp (I.B4 b xO) with z|z
  .exact(hf b hb).2.1 z
  .exact(hf b hb).2.2.1 z
 ·
  obtain⟨i,f1,f2,f3⟩:=pF e2;have f3' :=getD_some f3;have yq :N[j]? =some x:=e1;have hd:(N.drop n)[j -n]? =some x:=by rw[Gdm];rw[show n+(j -n)=j by lia];exact yq
  have hxf:scope.names.lookup x=some .free:=by
   have:=Gao.mp S.fr x (GaD hd)
   simpa using this
  rw[S.cap,Gam,f1] at hd;have hi:i<X.N.length:=Gaq (Gao.mp S.lt i (GaD f1));have hXN:X.N[i]? =some x:=by
   simp only[GbL,GcP] at hd;rw[Gab hi] at hd⊢
   simpa using hd
  have hk:Pe (X.env.kindOf x)=true:=by
   have:=Gao.mp S.free (x,.free) (mem_of_lookup hxf)
   simpa using this
  have xo :X.env.kindOf x=some .cell\/X.env.kindOf x=some .free:=by
   cases q:X.env.kindOf x with
   |none=>rw[q] at hk;cases hk
   |some z=>rw[q] at hk;cases z<;>first|(cases hk;done)|exact .inl rfl|exact .inr rfl
  obtain⟨m,hm,look⟩:=I.loc;have hv:Vis X.env.scope x:= .inr xo;obtain⟨u,ru,l⟩:=look i x v hXN f3' hv;refine⟨u,ru,.inr ⟨?_, ?_⟩⟩
  .exact fT hxf
  .rcases l with⟨l,_⟩| ⟨_,c,hc,o,ho,yy⟩
   .rcases xo with z|z<;>rw[l] at z<;>cases z
   .obtain⟨c',yl⟩:=Rp (x,.free) (mem_of_lookup hxf) rfl;have:=yO x c' yl;rw[hc] at this;cases this
    exact⟨c,yl,o,old _ _ ho,yy⟩
 .obtain⟨v,o,ho,yy⟩:=cells x c e;exact⟨v,o,old _ _ ho,yy⟩
 .cases hp
 .exact I.hok.laid old (Gap _) ⟨Gba _,[],0,.nil,zm⟩
 .show(jL n ax Z).length=N.length;have:=congrArg List.length S.cap;rw[Gcc,Gad] at this;have:=S.le;simp[jL];lia
theorem JO{xY :List (Addr×Obj)}{Z' :St}{H' :Hp}{s' :Shared}(I:Inv X e8 Z H s)(hf:∀b∈fp,lA X e8 H b)
  (I' :Inv (blk X scope cl C N s H fp) xY Z' H' s'):Inv X e8 Z H' s' :=
 I.L3 I'.os I'.base I'.hok I'.bare λb hb=> ⟨(hf b hb).2.2.2.1,(hf b hb).2.1,(hf b hb).2.2.2.2.1,(hf b hb).2.2.2.2.2⟩
def Pf(K:ao)(H H' :Hp)(F:Addr->Prop)(p:Addr)(rs:List D):Prop:=bR H H' /\H p=none/\∃vs,H' p=some (.lst vs)/\aI K (λb=>F b/\b≠p) H' rs vs
def qu(gd:DG):Prop:=∀d e e',gd d e=some e' ->(∀j:Nat,¬isO e[j]?)->∀j:Nat,¬isO e'[j]?
variable{i:Nat}
theorem Dc{e:Env}{d:D}(h:∀j:Nat,¬isO e[j]?):∀j:Nat,¬isO (e.set i (some (.sh d)))[j]? :=λj z=>by
 by_cases q:i=j
 .subst q;by_cases hl:i<e.length
  .rw[GaZ hl] at z;exact z
  .rw[Gbj (by simp;lia)] at z;exact z
 .rw[Gae q] at z;exact h j z
theorem dn:qu (gN i):=λd e e' h n=>by cases h;exact Dc n
theorem tD:∀(is:List Nat) (ds:List D) (e e' :Env),gNs is ds e=some e' ->(∀j:Nat,¬isO e[j]?)->∀j:Nat,¬isO e'[j]?
 |[],[],e,e',h,n=>by cases h;exact n
 |i::is,d::ds,e,e',h,n=>tD is ds _ e' h (Dc n)
 |[],_::_,_,_,h,_=>by cases h
 |_::_,[],_,_,h,_=>by cases h
theorem GY{is:List Nat}:qu (gT is):=λd e e' h n=>by
 unfold gT at h;split at h
 .exact tD is _ e e' h n
 .cases h
theorem nZ{H0:Hp}{it:Addr}{tn:Nat->Heap->Prop}{J:It}{tg iter elt:Expr}{ifs:List Expr}{E:Value->Shared->Prop}
  {gd:DG}{t:DT}{f:DE}{ds rs:List D}{eD:Addr->Prop}{env:Env}{RR:Value->Addr->Result->Shared->Prop}(hc:X.calm=true)(S:ij X scope N n ax)(I:Inv X e8 Z H s)
  (yO:∀x c,cl.lookup x=some c->X.env.cells.lookup x=some c)(Rp:∀y∈scope.names,y.2= .free->∃c,cl.lookup y.1=some c)(hf:∀b∈fp,lA X e8 H b)(T:Turn X.prog X.w X.K tg J fp it tn)(st:tn 0 s.heap)
  (hg:∀C s' H',PGd (blk X scope cl C N s' H' fp) tg gd)(ht:∀C s' H',pE (blk X scope cl C N s' H' fp) ifs (tT X t))(he:∀C s' H',PEd (blk X scope cl C N s' H' fp) elt f)
  (EE:au X.K H0 eD env Z H)(io:BC X.K (λb=>Cln eD env Z b/\H b≠none) (λb=>¬Ow env Z b) J ds H)(yD:qu gd)(hz:ds.length<=a9)(hl:bX gd t f ds (compEnv n ax env)=some rs)
  (Um:∀p C s' H' m,Inv X e8 Z H' s' ->s'.heap.Ns C m->s.heap.objs.size<=C->lA X e8 H' C->Pf X.K H H' (Cln eD env Z) p rs->RR (.ref p) C (.ok .next) s'):
  wpAny (model X.prog X.w) X.A (newList []) (λacc s₃=>wpAny (model X.prog X.w) X.A (newFunctionEnv scope X.env.globals cl [] X.env.qual none .none (some X.env)) (λzZ s₄=>
   codeAny (model X.prog X.w) X.A (.compStart (.ListComp elt [⟨tg,iter,ifs,0⟩] scope pos) 0 (.ref it) acc {zZ with scope:=relabel scope X.env}) (RR acc zZ.locals) s₄) E s₃) E s:=by
 have xm:∀y∈scope.names,y.2≠ .cell:=λy hy z=>by
  have:=Gao.mp S.cell y hy;rw[z] at this;simp at this
 refine Gbd (wpAny_newFunctionEnv xm (by intro y hy;simp at hy) (λh₁ hns₁ hsb₁=> ?_) S.kind);dsimp only at hns₁ hsb₁⊢;generalize ym:s.heap.push {cls:= .type "list",dict:=none,data:= .seq ([]:List Value).toArray}=H2 at hns₁ hsb₁⊢;have hC:s.heap.objs.size+1=H2.objs.size:=by rw[<-ym,Gce]
 have hDC:s.heap.objs.size≠H2.objs.size:=by rw[<-hC];exact GaJ (Gcw _)
 have hCle:s.heap.objs.size<=H2.objs.size:=by rw[<-hC];exact GbU _
 have old:∀b o,s.heap.get? b=some o->h₁.get? b=some o:=λb o e=>hsb₁.extBut b o (by rw[<-hC];exact GaJ (Gcb (Gav e))) (Gaf _ (ym▸Gaf _ e));have zm:h₁.get? s.heap.objs.size=some {cls:= .type "list",data:= .seq ([]:List Value).toArray}:=hsb₁.extBut _ _ hDC (Gaf _ (ym▸Gaw _ rfl));have Rq:∀b∈fp,b<s.heap.objs.size:=λb hb=>by obtain⟨o,e,_⟩:=T.obj 0 _ st b hb;exact Gav e
 have st₁:tn 0 h₁:=T.keep 0 _ _ st λb _ o e=>old b o e;have zb:=I.fresh;generalize hC' :H2.objs.size=C at*;have I1:Inv (blk X scope cl C N s H fp) [] (jL n ax Z) (upd H s.heap.objs.size (.lst [])) {s with heap:=h₁,toks:=s.toks+([]:List (Str×Value)).length}:=EI S I yO Rp hf Rq hC (by
  have z:(λx:Str=>([]:List (Str×Value)).reverse.lookup x)=λ_=>none:=by funext x;rfl
  rw[z] at hns₁;exact hns₁) old zm
 have E1:=EE.block n ax zb;generalize hp:s.heap.objs.size=p at*;have loop:codeAny (model X.prog X.w) X.A (.compLoop (.ListComp elt [⟨tg,iter,ifs,0⟩] scope pos) 0 (.ref it) (.ref p) (compEnvC scope cl C X.env)) (RR (.ref p) C) {s with heap:=h₁,toks:=s.toks+([]:List (Str×Value)).length}:=by
  refine codeAny_loop rfl (λm s' =>∃i Zi Hi eI vs done rest,CoI X scope cl C N s H fp tn eD env Z p gd t f ds rs m s' i Zi Hi eI vs done rest) ?_ ds.length ?_
  .refineλm s' =>ex7 λi Zi Hi eI vs done rest J0=> ?_
   have e0:=J0.em;subst e0;have hi:=J0.hi;have Ii:=J0.Ii;have sti:=J0.sti;have fri:=J0.fri;have Ei:=J0.Ei;have hpi:=J0.hpi;have ri:=J0.ri;have owi:=J0.owi;have lbi:=J0.lbi;have dl:=J0.dl;have ci:=J0.ci;have eqi:=J0.eqi;have hfi:∀{H' :Hp},(∀b∈fp,H' b=none)->∀b∈fp,lA (blk X scope cl C N s H fp) [] H' b:=λhn b hb=>by
    refine⟨hn b hb,(Ii.ok.exf b hb).1,Ii.ok.IZ b hb,.inl hb,(Ii.ok.exf b hb).2,λq hq=>(by cases hq)⟩
   have xZ:∀b o,H b=some o->Hi b=some o:=Ei.same;obtain⟨items,stop⟩:=io Hi λb o hb _=>xZ b o hb;show wpAny _ X.A ((compTurn (.ListComp elt [⟨tg,iter,ifs,0⟩] scope pos) 0 (.ref it) (.ref p) (compEnvC scope cl C X.env)).onRaise (λx=>do noteFrame x (compEnvC scope cl C X.env);theTreesLotGoes x)) _ _ s';refine wpAny_noted ?_;rw[compTurn_list];refine Gaa (wpAny_standAt (Gaa ?_));by_cases eU:i<ds.length
   .obtain⟨go,yld⟩:=items i ds[i] (by simp[eU]);refine thn (T.item (blk X scope cl C N s H fp) rfl rfl rfl hc i [] s' Zi Hi _ Ii (hfi fri) sti go) λr s4 ⟨u,hr,h4⟩=> ?_;subst hr;refine Gaa (thn h4 λ_ s5 ⟨x,H5,I5,r5,y5,yT,Sk⟩=> ?_);obtain⟨s2,rep⟩:=yld x H5 y5;have I5' :=I5.pinned (hfi Sk) (T.obj _ _ yT);have hd:ds.drop i=ds[i]::ds.drop (i+1):=GbT eU;rw[hd] at ci;unfold bX at ci;obtain⟨e2,yM,ci⟩:=eA ci;obtain⟨bb,h7,ci⟩:=eA ci;have clnIn:∀b,Cln eD env Z b/\H b≠none->Cln (l7 eD env Z p) eI Zi b:=λb ⟨q1,q2⟩=>by
     refine⟨λz=>z.elim (λz=>q2 (by rw[z];exact zb)) λz=>z q1,λj tj ej=> ?_⟩;rcases sZ tj with o|o
     .exact owi j o
     .exact lbi j b o ej q1
    refine Gaa (thn (Gcg (hg C s H _ s5 Zi H5 x u (λZ6 H6=>au X.K H (l7 eD env Z p) e2 Z6 H6/\Stp eI Zi H5 e2 Z6 H6) I5' r5 ⟨H,l7 eD env Z p,eI,ds[i],e2,Ei.mono s2,yM,rep.imp clnIn,λZ' H' E' p' => ⟨E',p'⟩⟩) (λ_ _ q=>q) λ_ _ q=>q.elim) λ_ s6 ⟨Z6,H6,I6,E6,p6⟩=> ?_);have RL:=yD _ _ _ yM owi;have s56:bR H5 H6:=λb o e=>p6.keep b o e λ⟨j,z,_⟩=>owi j z;have Sy:∀(j:Nat) a,wx e2[j]? ->Z6[j]? =some (some (.ref a))->¬Cln eD env Z a:=λj a z ej=>by
     obtain⟨q1,q2⟩:=p6.lk j z;rw[q1] at z;rw[q2] at ej
     exact lbi j a z ej
    have again:∀{H7:Hp} {s7:Shared} {Ra :List V} {xR xM :List D},Inv (blk X scope cl C N s H fp) ([]++pK fp s5.heap) Z6 H7 s7->au X.K H (l7 eD env Z p) e2 Z6 H7->H7 p=some (.lst Ra)->aI X.K (λb=>Cln eD env Z b/\b≠p) H7 xR Ra ->
      xR.length<=i+1->bX gd t f (ds.drop (i+1)) e2=some xM ->xR ++xM =rs->
      ∃m,m<ds.length -i/\∃i Zi Hi eI vs done rest,CoI X scope cl C N s H fp tn eD env Z p gd t f ds rs m s7 i Zi Hi eI vs done rest:=by
     intro H7 s7 Ra xR xM I7 E7 Rl r7 Uw c7 q7;refine⟨ds.length -(i+1),by lia,i+1,Z6,H7,e2,Ra,xR,xM,⟨rfl,eU,I7.mh,T.keep _ _ _ yT λb hb o e=>(I7.pin (b,o) (Gbi _ (Gbi _ (j3 hb e)))).1,λb hb=> ?_,E7,Rl,r7,RL,Sy,Uw,c7,q7⟩⟩;obtain⟨o,e,d⟩:=T.obj _ _ yT b hb;exact(I7.pin (b,o) (Gbi _ (Gbi _ (j3 hb e)))).2.1
    refine Gaa (thn (Gcg (ht C s H _ s6 Z6 H6 (λb' H7=>b' =bb/\bR H6 H7) I6 ⟨H,l7 eD env Z p,e2,bb,E6,h7,λH' s' => ⟨rfl,s'⟩⟩) (λ_ _ q=>q) λ_ _ q=>q.elim) λok s7 ⟨H7,I7,hok,Ss⟩=> ?_);subst hok;have sAll:bR Hi H7:=s2.trans (s56.trans Ss);have E7:=E6.mono Ss;have Rl:H7 p=some (.lst vs):=sAll _ _ hpi;have r7:=ri.gen (F' :=λb=>Cln eD env Z b/\b≠p) (.of_same sAll) λ_ q _=>q;cases ok with
    |false=>
     rw[Gai Gat] at ci;exact Gac ⟨rfl,again I7 E7 Rl r7 (Nat.le_succ_of_le dl) ci eqi⟩
    |true=>
     rw[Gaj rfl] at ci;obtain⟨r,hr,ci⟩:=eA ci;split at ci
     .rename_i xA;obtain⟨xM,c8,rfl⟩:=Gan.mp ci;refine Gaa (Gaa (thn (Gcg (he C s H _ s7 Z6 H7 (λv H8=>bR H7 H8/\i9 X.K H (l7 eD env Z p) e2 Z6 H7 H8 r v) I7 ⟨H,l7 eD env Z p,e2,r,E7,hr,λv H' s' R=> ⟨s',R⟩⟩) (λ_ _ q=>q) λ_ _ q=>q.elim) λy s8 ⟨v,H8,I8,ry,RG,R⟩=> ?_));have E8:=E7.mono RG;have RY:H8 p=some (.lst vs):=RG _ _ Rl;have r8:=(r7.gen (F' :=λb=>Cln eD env Z b/\b≠p) (.of_same RG) λ_ q _=>q)
      have vr:Rep X.K (λb=>Cln eD env Z b/\b≠p) H8 r.d v:=(R.rep E7 xA).imp λb q=> ⟨Classical.byContradiction λz=>q.1 (.inr z),λz=>q.1 (.inl z)⟩;have eK:vs.length<sizeLine:=by
       rw[<-eM,<-ri.1];lia
      refine Gaa (thn (Gcg (nJ (X:=blk X scope cl C N s H fp) _ s8 Z6 H8 (.ref p) [v] (.ref p) [y] (λ_ H9=>H9=upd H8 p (.lst (vs++[v]))) I8 rfl (.cons ry .nil) ⟨p,vs,v,rfl,rfl,RY,eK,rfl⟩) (λ_ _ q=>q) λ_ _ q=>q.elim) λ_ s9 ⟨_,H9,I9,_,h9⟩=> ?_);subst h9;have lbp:∀j:Nat,wx e2[j]? ->Z6[j]? ≠some (some (.ref p)):=λj z ej=>Sy j p z ej (EE.uD zb);have de:fS (λb=>Cln eD env Z b/\b≠p) H8 (upd H8 p (.lst (vs++[v]))):=λb o e q=>by
       refine(ag ?_).trans e;rintro rfl;rcases q with q|q
       .exact q.2 rfl
       .rw[RY] at e;cases e;exact q
      refine Gac (Gac ⟨rfl,again I9 (E8.grow (.inl rfl) zb RY lbp) ay ((r8.append (aI.cons vr .nil)).gen de λ_ q _=>q) (by simp;lia) c8 ?_⟩);rw[<-eqi,GaW];rfl
     .cases ci
   .have eZ :i=ds.length:=by lia
    subst eZ;rw[GdE] at ci;cases ci;rw[Gbs] at eqi;subst eqi;refine thn (T.done (blk X scope cl C N s H fp) rfl rfl rfl hc ds.length [] s' Zi Hi _ Ii (hfi fri) sti stop) λr s4 ⟨hr,I4⟩=> ?_;subst hr;obtain⟨m,hm,_⟩:=I4.loc;have IX:=JO I hf I4;exact Gac (Um p C s4 Hi m IX hm hCle ⟨I4.free,(I.Eg (by rw[hp];exact hCle) (I.hok.fresh (by rw[hp];exact hCle))).2⟩ ⟨xZ,zb,vs,hpi,ri⟩)
  .exact⟨0,_,_,_,[],[],rs,⟨by simp,Gba _,I1,st₁,λb hb=>(ag (by rintro rfl;exact Gbx _ (Rq _ hb))).trans (hf b hb).1,E1,ay,aI.nil,λj=>JN,λj a z e=>by
    obtain⟨i,t1,t2⟩:=D9 z.top e
    exactλq=>q.2 i t1 t2,Gap _,by simpa using hl,rfl⟩⟩
 exact codeAny_compStart_list loop (T.self X.A 0 _ _ _ st₁ loop)
end
section
variable{X:Cx}{pos:Pos}
variable{l:Option Nat}{ax:List Nat}{n:Nat}
theorem mL{env:Env}:compEnv n ax (b8 l env)=compEnv n ax env:=by
 cases l with
 |none=>rfl
 |some j=>
  unfold b8;dsimp only;split
  .rename_i d q;unfold compEnv;congr 1;apply GaP;intro i _;by_cases z:j=i
   .subst z;rw[GaZ (Gal.mp q).1,q];rfl
   .rw[Gae z]
  .rfl
theorem ij.cells{scope:Scope}{N:List Str}{n:Nat}{ax:List Nat}{e8:List (Addr×Obj)}{Z:St}{H:Hp}{s:Shared}(S:ij X scope N n ax)(I:Inv X e8 Z H s):∀y∈scope.names,y.2= .free->∃c,X.env.cells.lookup y.1=some c:=λy hy hf=>by
 have hk:=Gao.mp S.free y hy;rw[hf] at hk;simp only[bne_self_eq_false,Bool.false_or] at hk;refine I.ok.has y.1 ?_;cases q:X.env.kindOf y.1 with
 |none=>rw[q] at hk;cases hk
 |some z=>rw[q] at hk;cases z<;>first|(cases hk;done)|exact .inl rfl|exact .inr rfl
variable{N:List Str}{scope:Scope}
theorem ij.BI(S:ij X scope N n ax):∀y∈scope.names,y.2= .local->scope.names.lookup y.1=some .local:=λy hy hl=>by
 have:=Gao.mp S.names y hy;rw[hl] at this
 simpa using this
structure Blk(X:Cx)(scope:Scope)(N:List Str)(tg elt:Expr)(ifs:List Expr)(gd:DG)(t:DT)(f:DE):Prop where
 g:∀cl C s H ex,PGd (blk X scope cl C N s H ex) tg gd
 t:∀cl C s H ex,pE (blk X scope cl C N s H ex) ifs (tT X t)
 e:∀cl C s H ex,PEd (blk X scope cl C N s H ex) elt f
theorem _root_.L2.Inv.GZ{e8:List (Addr×Obj)}{Z:St}{H:Hp}{s:Shared}{C:Addr}{h' :Heap}(I:Inv X e8 Z H s)(F:lA X e8 H C)(hs:Heap.SameBut C s.heap h'):Inv X e8 Z H {s with heap:=h' }:=
 I.turned (t' :=s.toks) (λb o hb e=>(hs.2 b hb).trans e) F.1 F.2.1 F.2.2.2.1 F.2.2.2.2.1 F.2.2.2.2.2
variable{f:DE}{gd:DG}{ifs:List Expr}{tg iter elt:Expr}
theorem fU{src:DI}{t:DT}(hc:X.calm=true)(S:ij X scope N n ax)(hi:PId X tg iter src)(yD:qu gd)(B:Blk X scope N tg elt ifs gd t f)
  (hs:∀x,foldedSetIterable iter X.env x=pure x:=by intro _;rfl):PEd X (.ListComp elt [⟨tg,iter,ifs,0⟩] scope pos) (gP l n ax src gd t f):=by
 intro e8 s Z H Q I hw;obtain⟨H0,eD,env,r,E,e,k⟩:=hw;unfold gP at e;obtain⟨ds,xr,e⟩:=eA e;split at e
 .rename_i hz;obtain⟨rs,yj,rfl⟩:=Gan.mp e;obtain⟨EL,lo,hU⟩:=E.lock l;obtain⟨cl,h1,h2,h3⟩:=ie (S.cells I);rw[eval_ListComp];refine Gdo (use:=none) rfl hs h1 S.kind S.BI ?_;refine thn (hi e8 s Z H (λJ H' =>bR H H' /\BC X.K (λb=>Cln eD (b8 l env) Z b/\H' b≠none) (λb=>¬Ow (b8 l env) Z b) J ds H') I ⟨H0,eD,b8 l env,ds,EL,xr,λJ H' s' io=> ⟨s',io⟩⟩) λv s1 q1=>thn q1 λzG s2 q2=> ?_;obtain⟨it,fp,tn,J,H2,e,I2,T,yU,f2,sH,io⟩:=q2;subst e;refine nZ (RR:=λacc C=>compPost (model X.prog X.w) X.A X.xe none (EP X e8 Z Q) acc C) hc S I2 h2 h3 f2 T yU (λC s' H' =>B.g cl C s' H' fp) (λC s' H' =>B.t cl C s' H' fp) (λC s' H' =>B.e cl C s' H' fp) (EL.mono sH) io yD hz (by rw[mL];exact yj) ?_;intro p C s' H' m IX hm hC hF G;refine⟨m,hm,λh' xO => ⟨.ref p,H',IX.GZ hF xO,rfl, ?_⟩⟩;obtain⟨g1,g2,vs,g3,g4⟩:=G;exact k _ H' (sH.trans g1) ⟨p,rfl,sH.free g2,⟨_,g3,trivial⟩,rfl,.lst (.inl g3) (g4.gen (.of_same bB) λb q _=> ⟨⟨q.1.1,λi ti ei=>q.1.2 i ((hU i).mpr ti) ei⟩,q.2⟩)⟩
 .cases e
theorem JP{i:Nat}{x:Str}{pos' yY:Pos}{src:DI}{t:DT}(hN:X.N.Nodup)(eZ :X.N[i]? =some x)(hx:Loc X.env.scope x)(hc:X.calm=true)(S:ij X scope N n ax)
  (hi:PId X tg iter src)(yD:qu gd)(B:Blk X scope N tg elt ifs gd t f)
  (TU:swapsWith (.ListComp elt [⟨tg,iter,ifs,0⟩] scope yY) (some (.Name x pos')) pos.line X.env=pure true:=by rfl)(hs:∀x,foldedSetIterable iter X.env x=pure x:=by intro _;rfl)
  (hf:X.fn x=true\/X.env.scope.names.lookup x=some .local:=by first|exact .inl rfl|exact .inr rfl|assumption):PSd X (.Assign [.Name x pos'] (.ListComp elt [⟨tg,iter,ifs,0⟩] scope yY) pos) (aw i (gP l n ax src gd t f)):=by
 intro e8 s Z H D I hw;have hl:=I.len;obtain⟨H0,eD,env,o,E,e,k⟩:=hw;obtain⟨r,hr,e⟩:=eA e;obtain⟨e',xU,rfl⟩:=Gan.mp e;have hie:i<env.length:=BA E hl eZ;unfold gP at hr;obtain⟨ds,xr,hr⟩:=eA hr;split at hr
 .rename_i hz;obtain⟨rs,yj,rfl⟩:=Gan.mp hr;cases xU;obtain⟨EL,lo,hU⟩:=E.lock l;obtain⟨cl,h1,h2,h3⟩:=ie (S.cells I);rw[exec_Assign_Name_used _ _ _ _ TU];refine Gaa (wpAny_standAt (Gaa ?_));show wpAny _ X.A (do let _<-comprehension (.ListComp elt [⟨tg,iter,ifs,0⟩] scope yY) scope X.env _ (newList []) false (eval iter X.env) (some (assign (.Name x pos') X.env))) _ _ s;refine Gaa (Gcg (Gdo (use:=some (assign (.Name x pos') X.env)) (Q:=λ_ s' =>SP X e8 D .next s') rfl hs h1 S.kind S.BI ?_) (λ_ s' hq=>Gac (Gac hq)) λ_ _ e=>e);refine thn (hi e8 s Z H (λJ H' =>bR H H' /\BC X.K (λb=>Cln eD (b8 l env) Z b/\H' b≠none) (λb=>¬Ow (b8 l env) Z b) J ds H') I ⟨H0,eD,b8 l env,ds,EL,xr,λJ H' s' io=> ⟨s',io⟩⟩) λv s1 q1=>thn q1 λzG s2 q2=> ?_;obtain⟨it,fp,tn,J,H2,e,I2,T,yU,f2,sH,io⟩:=q2;subst e;refine nZ (RR:=λacc C=>compPost (model X.prog X.w) X.A X.xe (some (assign (.Name x pos') X.env)) (λ_ s' =>SP X e8 D .next s') acc C) hc S I2 h2 h3 f2 T yU (λC s' H' =>B.g cl C s' H' fp) (λC s' H' =>B.t cl C s' H' fp) (λC s' H' =>B.e cl C s' H' fp) (EL.mono sH) io yD hz (by rw[mL];exact yj) ?_;intro p C s' H' m IX hm hC hF G;obtain⟨g1,g2,vs,g3,g4⟩:=G;show wpAny _ X.A (assign (.Name x pos') X.env (.ref p)) _ _ _;refine wpAny_assign_Name (sJ IX hN eZ hx (v:= .ref p) rfl (λRc I'' ⟨a,TV,ha⟩=> ?_) hf);have hCa:C≠a:=by
   rcases ha with ha|ha
   .rw[ha];exact hF.2.1
   .exactλz=>hF.2.2.2.2.1 x a ha z.symm
  refine⟨m,hm.sameBut TV hCa,λh' xO => ⟨_,H',I''.GZ hF xO, ?_⟩⟩;exact k _ H' (E.ql (sH.trans g1) hie (sH.free g2) ⟨_,g3,trivial⟩ rfl (.lst (.inl g3) (g4.gen (.of_same bB) λb q _=> ⟨⟨q.1.1,λi ti ei=>q.1.2 i ((hU i).mpr ti) ei⟩,q.2⟩))) (.ql (sH.trans g1) hie E.len (sH.free g2))
 .cases hr
end
section
variable{X:Cx}{scope:Scope}{cl:List (Str×Addr)}{C:Addr}{N:List Str}{s:Shared}{H:Hp}{ex:List Addr}{x:Str}
theorem dN(h:N.Nodup):(blk X scope cl C N s H ex).N.Nodup:=h
theorem dO(h:scope.names.lookup x=some .local):(blk X scope cl C N s H ex).fn x=true\/(blk X scope cl C N s H ex).env.scope.names.lookup x=some .local:= .inr (gA h)
end
section
variable{X:Cx}{e a b c:Expr}{f g h:DE}{pos:Pos}
def tO(X:Cx)(o:DO):TO:=λZ H Q=>∃H0 eD env i,au X.K H0 eD env Z H/\o env=some i/\∀H',bR H H' ->Q i H'
theorem _root_.L2.PO.aE{e:Option Expr}{t t' :TO}(h:PO X e t')(i:∀Z H Q,t Z H Q->t' Z H Q):PO X e t:=λe8 s Z H Q I q=>h e8 s Z H Q I (i Z H Q q)
theorem tF:PO X none (tO X noO):=Jj.aE λZ H Q ⟨_,_,_,_,_,e,k⟩=>by cases e;exact k H bB
theorem tH(he:PEd X e f):PO X (some e) (tO X (wk f)):=by
 refine(Jk he).aE ?_;rintro Z H Q ⟨H0,eD,env,o,E,ho,k⟩;obtain⟨r,hr,ho⟩:=eA ho;split at ho
 .rename_i i hd;cases ho;refine⟨H0,eD,env,r,E,hr,λv H1 s1 R=> ?_⟩;have q:=R.inn;rw[hd] at q;cases q;exact⟨i,rfl,k H1 s1⟩
 .cases ho
theorem uN(n d:Nat)(o:Option Int):HT.sIx n d o=sIx n d o:=by
 cases o<;>rfl
variable{ds:List D}{H:Hp}
theorem qv{K:ao}{F:Addr->Prop}{vs:List V}{lo hi:Option Int}(r:aI K F H ds vs):aI K F H (cutD ds lo hi) (vY vs lo hi):=by
 unfold cutD vY;rw[uN,uN,<-r.1];exact(r.drop _).take _
theorem wI{K:ao}{F:Addr->Prop}{H:Hp}:∀{ns:List Int},aI K F H (ns.map .int) (ns.map V.int)
 |[]=> .nil
 |n::ns=> .cons (.int n) wI
theorem wJ{lo hi:Option Expr}{l u:DO}{p2:Pos}(he:PEd X e f)(hl:PO X lo (tO X l))(hu:PO X hi (tO X u)):PEd X (.Subscript e (.Slice lo hi none p2) pos) (slE f l u):=by
 refine(Gg (Jn.or LK) he hl hu).aE ?_;rintro Z H Q ⟨H0,eD,env,rv,E,hf,k⟩;obtain⟨r,hr,hf⟩:=eA hf;obtain⟨lv,zh,hf⟩:=eA hf;obtain⟨uv,xN,hf⟩:=eA hf;refine⟨H0,eD,env,r,E,hr,λv H1 s1 R=> ⟨H0,eD,env,lv,E.mono s1,zh,λH2 s2=> ⟨H0,eD,env,uv,(E.mono s1).mono s2,xN,λH3 s3=> ?_⟩⟩⟩;have i3:=(R.inn.same s2).same s3;have s13:=s1.trans (s2.trans s3);unfold slD at hf;split at hf
 .rename_i xs hd;cases hf;rw[hd] at i3;cases i3 with
  |lst hh rr=>exact .inl ⟨_,_,rfl,.inl hh,λp n=>k _ _ (s13.trans (aU n)) ⟨p,rfl,s13.free n,qi,rfl,fu n (qv rr)⟩⟩
 .rename_i xs hd;split at hf
  .cases hf
  .rename_i hw;cases hf;rw[hd] at i3;cases i3 with
   |tup hh rr=>exact .inr ⟨_,_,rfl,SqT.of hh,by rw[uN,uN,<-rr.1];exact hw,λp n=>k _ _ (s13.trans (aU n)) (dH n (qv rr))⟩
 .rename_i ns hd;cases hf;rw[hd] at i3;cases i3 with
  |scr hh=>exact .inl ⟨_,_,rfl,hh.sq,λp n=>k _ _ (s13.trans (aU n)) ⟨p,rfl,s13.free n,qi,rfl,fu n (qv wI)⟩⟩
 .cases hf
theorem wK{e8:List (Addr×Obj)}{Z:St}{s:Shared}{p:Addr}{ys:List V}{Q:Value->Shared->Prop}{E:Value->Shared->Prop}(hc:X.calm=true)(I:Inv X e8 Z H s)(h:SqL X.K H p ys\/SqT X.K H p ys)
  (k:∀(It:Addr) fp wr P St (s₂:Shared),Walks X.prog X.w X.A.in1 It fp wr ys.length P St->St 0 s₂.heap->(∀b∈fp,b<s₂.heap.objs.size)->(∀(i:Nat) v,P i v->∃y,ys[i]? =some y/\RelV y v)->
   (∀h' tk,(∀b o,b∉wr->s₂.heap.get? b=some o->h'.get? b=some o)->Inv X e8 Z H {s₂ with heap:=h',toks:=tk})->Q (.ref It) s₂):wpAny (model X.prog X.w) X.A.in1 (pyIter (.ref p)) Q E s:=by
 have hh:X.A.in1.handled=none:=I.ok.hd hc;have kept:∀{oi:Obj} {h' :Heap} {tk:Nat},(∀b o,b∉[s.heap.objs.size]->(s.heap.push oi).get? b=some o->h'.get? b=some o)->Inv X e8 Z H {s with heap:=h',toks:=tk}:=λ{oi h' tk} hk=>
  I.kept λb o e=>hk b o (by simp only[Gbr];exact GaJ (Gav e)) (Gaf _ e)
 have get:∀{its:List Value},Vals ys its->∀(i:Nat) v,its.toArray[i]? =some v->∃y,ys[i]? =some y/\RelV y v:=λ{its} r i v e=>by
  have e' :its[i]? =some v:=by simpa using e
  obtain⟨hi,_⟩:=Gal.mp e';have eZ :i<ys.length:=by rw[r.length];exact hi
  obtain⟨u,hu,ru⟩:=r.get (x:=ys[i]) (i:=i) (by simp[eZ]);rw[e'] at hu;cases hu
  exact⟨ys[i],by simp[eZ],ru⟩
 have lts:∀{oi:Obj},p<s.heap.objs.size->∀b∈[s.heap.objs.size,p],b<(s.heap.push oi).objs.size:=λ{oi} hp b hb=>by
  rw[Gce];rcases GaB.mp hb with rfl|hb
  .exact Gcw _
  .rcases GaB.mp hb with rfl|hb
   .exact Gcb hp
   .cases hb
 rcases h with hq|hq
 .obtain⟨its,rv,pl,hz⟩:=I.list hq;have eU:p<s.heap.objs.size:=by obtain⟨_,e,_⟩:=pl.isList;exact Gav e
  have W:=Walks.list (prog:=X.prog) (w:=X.w) hh s.heap.objs.size p (GaJ eU) its.toArray;have hsz:its.toArray.size=ys.length:=by rw[Gar,rv.length]
  rw[hsz] at W;exact wpAny_pyIter_list pl.isList (k _ _ _ _ _ _ W ⟨⟨_,Gaw _ rfl,rfl,rfl⟩,pl.isList.push _⟩ (lts eU) (get rv) λh' tk hk=>kept hk)
 .obtain⟨its,rv,pl,hz⟩:=I.tuple hq;have pl' :s.heap.IsTuple p its.toArray:=pl;have eU:p<s.heap.objs.size:=by obtain⟨_,e,_⟩:=pl';exact Gav e
  have W:=Walks.tuple (prog:=X.prog) (w:=X.w) hh s.heap.objs.size p (GaJ eU) its.toArray;have hsz:its.toArray.size=ys.length:=by rw[Gar,rv.length]
  rw[hsz] at W;exact Gdn pl' (k _ _ _ _ _ _ W ⟨⟨_,Gaw _ rfl,rfl,rfl⟩,pl'.at λo e=>Gaf _ e⟩ (lts eU) (get rv) λh' tk hk=>kept hk)
theorem range_any(bs:List Bool):(List.range bs.length).any (λi=>bs[i]?.getD false)=bs.any id:=by
 rw[Bool.eq_iff_iff];simp only[Gcx,GaV,id];constructor
 .rintro⟨i,hi,h⟩;rw[Gab hi] at h;exact⟨bs[i],GaF hi,h⟩
 .rintro⟨b,hb,h⟩;obtain⟨i,hi,rfl⟩:=GbM hb;exact⟨i,hi,by rw[Gab hi];exact h⟩
theorem wL{A:Around}{P:Nat->Value->Prop}{bs:List Bool}(hP:∀(i:Nat) v,P i v->∃y,(bs.map V.bl)[i]? =some y/\RelV y v):TruthOf X.prog X.w A P (λi=>bs[i]?.getD false):=by
 intro i v s Q E p q;obtain⟨y,hy,r⟩:=hP i v p;rw[Gam] at hy;cases hb:bs[i]? with
 |none=>rw[hb] at hy;cases hy
 |some b=>
  rw[hb] at hy;cases hy
  cases r;refine Gco ?_;have q' :Q (bs[i]?.getD false) s:=q;rw[hb] at q';exact q'
theorem EJ(hc:X.calm=true):fq X (.builtin "any") (λxs H Q=>∃(p:Addr) (bs:List Bool),xs=[.ref p]/\(SqL X.K H p (bs.map V.bl)\/SqT X.K H p (bs.map V.bl))/\Q (.bl (bs.any id)) H):=by
 intro e8 s Z H xs us Q I rv h;obtain⟨p,bs,rfl,hq,q⟩:=h;obtain⟨u,rfl,ru⟩:=rv.one;cases ru;refine call_any_walk (wK hc I hq λIt fp wr P St s₂ W st lt hP kept=> ⟨It,fp,wr,_,P,St,_,rfl,W,st,wL hP,λh' tk hk=> ?_⟩);rw[Gad,range_any];exact⟨.bl (bs.any id),H,kept h' tk hk,rfl,q⟩
noncomputable def uO(ns:List Int)(i:Nat):Int:=ns[i]?.getD 0
variable{ns:List Int}
theorem wM{P:Nat->Value->Prop}(hP:∀(i:Nat) v,P i v->∃y,(ns.map V.int)[i]? =some y/\RelV y v):∀i v,P i v->∃t,v= .int (uO ns i) t:=by
 intro i v p;obtain⟨y,hy,r⟩:=hP i v p;rw[Gam] at hy;cases hb:ns[i]? with
 |none=>rw[hb] at hy;cases hy
 |some n=>
  rw[hb] at hy;cases hy
  obtain⟨t,rfl⟩:=r;exact⟨t,by unfold uO;rw[hb];rfl⟩
theorem EK{f:Int->Int->Int}{i:Int}{k:Nat}(hk:k<ns.length):(ns.take (k+1)).foldl f i=f ((ns.take k).foldl f i) (ns[k]):=by
 rw[GdG hk,List.foldl_append];rfl
theorem Ha{n:Int}{ns:List Int}:∀k,k<=ns.length->uO (n::ns) (argBest (λi j=>decide (uO (n::ns) i>uO (n::ns) j)) k)=(ns.take k).foldl (λa b=>if b>a then b else a) n
 |0,_=>by simp[argBest,uO]
 |k+1,hk=>by
  have ih:= @Ha n ns k (by lia);rw[EK (by lia),argBest];have e:uO (n::ns) (k+1)=ns[k]:=by simp[uO,show k<ns.length by lia]
  rw[ih,e];simp only[decide_eq_true_eq];split
  .exact e
  .exact ih
theorem wN{K:ao}{F:Addr->Prop}{H:Hp}:∀{ds:List D} {vs:List V} {bs:List Bool},aI K F H ds vs->uy ds=some bs->vs=bs.map V.bl
 |[],vs,bs,r,e=>by cases e;exact r.cf
 |d::ds,vs,bs,r,e=>by
  obtain⟨v,w,rfl,h1,h2⟩:=r.cons_inv;cases d<;>try (cases e;done)
  obtain⟨xf,e',rfl⟩:=Gan.mp e;cases h1;rw[wN h2 e'];rfl
theorem Dd{K:ao}{F:Addr->Prop}{H:Hp}:∀{ds:List D} {vs:List V} {bs:List Int},aI K F H ds vs->CV ds=some bs->vs=bs.map V.int
 |[],vs,bs,r,e=>by cases e;exact r.cf
 |d::ds,vs,bs,r,e=>by
  obtain⟨v,w,rfl,h1,h2⟩:=r.cons_inv;cases d<;>try (cases e;done)
  obtain⟨xf,e',rfl⟩:=Gan.mp e;cases h1;rw[Dd h2 e'];rfl
theorem BJ{K:ao}{F:Addr->Prop}{d:D}{v:V}(i:Inn K F H d v)(e:jH d=some ds):∃p vs,v= .ref p/\(SqL K H p vs\/SqT K H p vs)/\aI K F H ds vs:=by
 unfold jH at e;split at e
 .cases e;cases i with
  |lst h r=>exact⟨_,_,rfl,.inl (.inl h),r⟩
 .cases e;cases i with
  |tup h r=>exact⟨_,_,rfl,.inr (SqT.of h),r⟩
 .rename_i ns;cases e;cases i with
  |scr h=>
   refine⟨_,_,rfl,.inl h.sq,by simp,λi d v e1 e2=> ?_⟩;rw[Gam] at e1 e2;cases q:ns[i]? with
   |none=>rw[q] at e1;cases e1
   |some n=>rw[q] at e1 e2;cases e1;cases e2;exact .int n
 .cases e
theorem Hb{o:List D->Option RV}{rv:RV}(h:one o ds=some rv):∃d xs,ds=[d]/\jH d=some xs/\o xs=some rv:=by
 unfold one at h;split at h
 .obtain⟨xs,h1,h2⟩:=eA h;exact⟨_,xs,rfl,h1,h2⟩
 .cases h
theorem EM:CallD X anyS (λxs H Q=>∃(p:Addr) (bs:List Bool),xs=[.ref p]/\(SqL X.K H p (bs.map V.bl)\/SqT X.K H p (bs.map V.bl))/\Q (.bl (bs.any id)) H):=by
 intro F H ds vs rv Q ps e k;obtain⟨d,xs,rfl,h1,h2⟩:=Hb e;obtain⟨bs,hb,rfl⟩:=Gan.mp h2;obtain⟨v,rfl,i⟩:=dX ps;obtain⟨p,vs,rfl,hs,r⟩:=BJ i h1;rw[wN r hb] at hs;exact⟨p,bs,rfl,hs,k _ H bB (.bl _)⟩
end
section
variable{X:Cx}{e a b c:Expr}{f g h:DE}{pos:Pos}
theorem aP.cons{Y:Type}{K:ao}{F:Addr->Prop}{H:Hp}{eC:List (Y×D)}{ws:List (Y×V)}{k:Y}{d:D}{v:V}(h:Rep K F H d v)(r:aP K F H eC ws):aP K F H ((k,d)::eC) ((k,v)::ws):=by
 refine⟨by simp[r.1],λi x u e1 e2=> ?_⟩;cases i with
 |zero=>simp at e1 e2;subst e1;subst e2;exact h
 |succ i=>exact r.2 i x u (by simpa using e1) (by simpa using e2)
variable{d:D}{H:Hp}
theorem aP.cons_inv{Y:Type}{K:ao}{F:Addr->Prop}{eC:List (Y×D)}{ws:List (Y×V)}{k:Y}(h:aP K F H ((k,d)::eC) ws):∃v r,ws=(k,v)::r/\Rep K F H d v/\aP K F H eC r:=by
 cases ws with
 |nil=>exact absurd h.1 (by simp)
 |cons q r=>
  obtain⟨k',v⟩:=q;have h1:k=k' /\eC.map (·.1)=r.map (·.1):=by have:=h.1;simpa using this
  obtain⟨rfl,h2⟩:=h1;exact⟨v,r,rfl,h.2 0 (k,d) (k,v) rfl rfl,h2,λi x y e1 e2=>h.2 (i+1) x y (by simpa using e1) (by simpa using e2)⟩
theorem aP.nil{Y:Type}{K:ao}{F:Addr->Prop}:aP K F H ([]:List (Y×D)) []:=⟨rfl,λi p q e=>by simp at e⟩
theorem aP.cf{Y:Type}{K:ao}{F:Addr->Prop}{ws:List (Y×V)}(h:aP K F H [] ws):ws=[]:=by
 cases ws with
 |nil=>rfl
 |cons q r=>exact absurd h.1 (by simp)
theorem aP.len{Y:Type}{K:ao}{F:Addr->Prop}{eC:List (Y×D)}{ws:List (Y×V)}(h:aP K F H eC ws):eC.length=ws.length:=by
 have:=congrArg List.length h.1
 simpa using this
theorem aP.over{Y:Type} [DecidableEq Y]{K:ao}{F:Addr->Prop}{H:Hp}{k:Y}{d:D}{v:V}(hv:Rep K F H d v):∀{eC:List (Y×D)} {ws:List (Y×V)},aP K F H eC ws->
  aP K F H (eC.map λkv=>if kv.1=k then(kv.1,d) else kv) (ws.map λkv=>if kv.1=k then(kv.1,v) else kv)
 |[],ws,r=>by rw[r.cf];exact .nil
 |(k',d')::eC,ws,r=>by
  obtain⟨v',w,rfl,h1,h2⟩:=r.cons_inv;rw[Gay,Gay];dsimp only;split
  .exact .cons hv (aP.over hv h2)
  .exact .cons h1 (aP.over hv h2)
theorem aP.snoc{Y:Type}{K:ao}{F:Addr->Prop}{H:Hp}{k:Y}{d:D}{v:V}(hv:Rep K F H d v):∀{eC:List (Y×D)} {ws:List (Y×V)},aP K F H eC ws->aP K F H (eC++[(k,d)]) (ws++[(k,v)])
 |[],ws,r=>by rw[r.cf];exact .cons hv .nil
 |(k',d')::eC,ws,r=>by
  obtain⟨v',w,rfl,h1,h2⟩:=r.cons_inv;exact .cons h1 (aP.snoc hv h2)
theorem aP.any{Y:Type} [DecidableEq Y]{K:ao}{F:Addr->Prop}{H:Hp}{k:Y}:∀{eC:List (Y×D)} {ws:List (Y×V)},aP K F H eC ws->(eC.any λkv=>decide (kv.1=k))=(ws.any λkv=>decide (kv.1=k))
 |[],ws,r=>by rw[r.cf];rfl
 |(k',d')::eC,ws,r=>by
  obtain⟨v',w,rfl,h1,h2⟩:=r.cons_inv;rw[GcF,GcF,aP.any h2]
theorem aP.put{Y:Type} [DecidableEq Y]{K:ao}{F:Addr->Prop}{H:Hp}{eC:List (Y×D)}{ws:List (Y×V)}{k:Y}{d:D}{v:V}(r:aP K F H eC ws)(hv:Rep K F H d v):aP K F H (put eC k d) (putK ws k v):=by
 unfold DL.put putK;rw[r.any];split
 .exact r.over hv
 .exact r.snoc hv
theorem Mg{K:ao}{F:Addr->Prop}{eC:List (Key×D)}{a:Addr}(i:Inn K F H (.dK eC) (.ref a)):∃ws,H a=some (.dK ws)/\aP K F H eC ws:=by
 cases i with
 |dK h r=>exact⟨_,h,r⟩
theorem Mh{K:ao}{F:Addr->Prop}{eC:List (List Key×D)}{a:Addr}(i:Inn K F H (.dT eC) (.ref a)):∃ws,H a=some (.dT ws)/\aP K F H eC ws:=by
 cases i with
 |dT h r=>exact⟨_,h,r⟩
def Lc:V->V->V->Hp->(Hp->Prop)->Prop:=λo i v H Q=>L7 o i v H Q\/∃a H4,o= .ref a/\vZ H a i v H4/\Q H4
theorem JQ(hu:X.A.units+1<cLine):NP X Lc:=by
 intro e8 s Z H o i v ov iv u Q I ro ri rv h;rcases h with h| ⟨a,H4,rfl,g,q⟩
 .exact set_list e8 s Z H o i v ov iv u Q I ro ri rv h
 .cases ro;exact Eu hu I g ri rv λs4 I4=> ⟨H4,I4,q⟩
def QU(td ty tv:TE):TS:=λD Z H=>tv Z H λv H1=>td Z H1 λx H2=>ty Z H2 λy H3=>Lc x y v H3 λH4=>D.nx Z H4
variable{pos' :Pos}{value:Expr}
theorem Mi{o i:Expr}{td ty tv:TE}(hu:X.A.units+1<cLine)(ho:PE X o td)(hi:PE X i ty)(hv:PE X value tv)(hs:swapsWith value (some (.Subscript o i pos')) pos.line X.env=pure false):PS X (.Assign [.Subscript o i pos'] value pos) (QU td ty tv):=by
 intro e8 s Z H D I h;refine wpAny_Assign_Subscript (thn (hv e8 s Z H _ I h) λr s1 ⟨v,H1,I1,rv,q1⟩=>thn (ho e8 s1 Z H1 _ I1 q1) λu s2 ⟨x,H2,I2,rx,q2⟩=>thn (hi e8 s2 Z H2 _ I2 q2) λiv s3 ⟨y,H3,I3,ry,q3⟩=> ?_) hs;exact thn (JQ hu e8 s3 Z H3 x y v u iv r _ I3 rx ry rv q3) λ_ s4 ⟨H4,I4,q4⟩=> ⟨Z,H4,I4,q4⟩
variable{i:Nat}
theorem mM{eD:Addr->Prop}{env:Env}{Z:St}{a:Addr}{o o' :HO}(q:env[i]? =some (some (.own d)))(h1:Z[i]? =some (some (.ref a)))(hH:H a=some o')(hw:isW o'):fS (Cln eD env Z) H (upd H a o):=λb x hb w=>by
 have:b≠a:=by
  rintro rfl;rcases w with w|w
  .exact w.2 i (by rw[q];trivial) h1
  .rw[hH] at hb;cases hb
   cases o' <;>simp[isT] at w<;>exact hw
 rw[ag this];exact hb
theorem Mj{x:Str}{px:Pos}{k:Expr}{fk fv:DE}(hu:X.A.units+1<cLine)(hN:X.N[i]? =some x)(hv:Vis X.env.scope x)(hk:PEd X k fk)(he:PEd X value fv)(hd:(x==("__debug__":Str))=false:=by decide)(xu:(x==("__classdict__":Str))=false:=by decide)
  (hs:swapsWith value (some (.Subscript (.Name x px) k pos')) pos.line X.env=pure false:=by rfl):PSd X (.Assign [.Subscript (.Name x px) k pos'] value pos) (Gv i fk fv):=by
 refine(Mi hu (jw hN hv hd xu) hk he hs).aE ?_;rintro D Z H ⟨H0,eD,env,o,E,e,kk⟩;obtain⟨r,hr,e⟩:=eA e;obtain⟨y,hy,e⟩:=eA e;obtain⟨d,hd,e⟩:=eA e;have q:=mJ hd;split at e
 .rename_i xA;obtain⟨d',hp,rfl⟩:=Gan.mp e;refine⟨H0,eD,env,r,E,hr,λv H1 s1 R=> ?_⟩;have E1:=E.mono s1;obtain⟨a,h1,h2,h3,h4,h5,h6⟩:=E1.ow i _ (.inl q);refine⟨_,h1,H0,eD,env,y,E1,hy,λvy H3 s3 Ry=> ?_⟩;have E3:=E1.mono s3;have rep:=(R.rep E xA).same s3;have i6:=h6.same s3;have iy:=Ry.inn;have fin:∀(o' :HO) (RK :HO),H3 a=some RK ->isW RK ->isW o' ->d'.top=true->Inn X.K (Cln eD env Z) (upd H3 a o') d' (.ref a)->D.nx Z (upd H3 a o'):=λo' RK hH hw TN ht inn=>by
   obtain⟨E4,p4⟩:=E3.change (d' :=d') (o:=o') q h1 TN ht inn;exact kk Z _ E4 (((Stp.of_same s1).trans (.of_same s3)).trans p4)
  unfold putD at hp;split at hp
  .rename_i eC;split at hp
   .rename_i hz;obtain⟨key,xk,rfl⟩:=Gan.mp hp;obtain⟨ws,hH,rp⟩:=Mg i6;have hy' :=nT iy xk;subst hy';refine .inr ⟨a,_,rfl,vZ.k hH (by rw[<-rp.len,<-eM];exact hz),fin _ _ hH trivial trivial rfl ?_⟩;exact .dK ay ((rp.put rep).gen (mM q h1 hH trivial) λ_ f _=>f)
   .cases hp
  .rename_i eC;split at hp
   .rename_i ks Sa;split at hp
    .rename_i hz;obtain⟨key,xk,rfl⟩:=Gan.mp hp;obtain⟨ws,hH,rp⟩:=Mh i6;rw[Sa] at iy;cases iy with
     |tup hb rb=>
      have:=gS rb xk;subst this;refine .inr ⟨a,_,rfl,vZ.t hH hb (by rw[<-rp.len,<-eM];exact hz),fin _ _ hH trivial trivial rfl ?_⟩;exact .dT ay ((rp.put rep).gen (mM q h1 hH trivial) λ_ f _=>f)
    .cases hp
   .cases hp
  .rename_i xs;split at hp
   .rename_i j hj;rw[hj] at iy;cases iy;obtain⟨vs,hH,rp⟩:=mK (h4.same s3) i6;split at hp
    .rename_i hb;cases hp;refine .inl ⟨a,vs,j,j.toNat,rfl,rfl,hH, ?_,fin _ _ hH trivial trivial rfl ?_⟩
     .unfold ixN;rw[Gaj hb.1,Gaj (by rw[<-rp.1];exact hb.2)]
     .exact .lst (.inl ay) ((rp.set rep j.toNat).gen (mM q h1 hH trivial) λ_ f _=>f)
    .split at hp
     .rename_i hb;cases hp;refine .inl ⟨a,vs,j,(j+xs.length).toNat,rfl,rfl,hH, ?_,fin _ _ hH trivial trivial rfl ?_⟩
      .unfold ixN;rw[Gai (by lia),Gaj (by rw[<-rp.1];lia),rp.1]
      .exact .lst (.inl ay) ((rp.set rep _).gen (mM q h1 hH trivial) λ_ f _=>f)
     .cases hp
   .cases hp
  .cases hp
 .cases e
theorem Hc:PEd X (.Dict [] [] pos) Bj:=w6.aE λZ H Q ⟨_,_,_,_,E,e,k⟩ p n=>by
 cases e;exact k _ _ (aU n) ⟨p,rfl,n,⟨_,ay,trivial⟩,rfl,.dT ay .nil⟩
end
open PySem.W (KasT kas_rev kas_asc kas_desc kas_tail3 kas_descPart kas_count kas_place kas_bin kas_sort)
section
variable{rk:Nat->Int}{N:Nat}
def Asks(rk:Nat->Int)(N:Nat){α:Type}:KasT α->(α->Prop)->Prop
 | .ret a,Q=>Q a
 | .ask i j k,Q=>i<N/\j<N/\Asks rk N (k (decide (rk i<rk j))) Q
theorem Asks.mono{α:Type}{Q Q' :α->Prop}(hq:∀a,Q a->Q' a):∀(t:KasT α),Asks rk N t Q->Asks rk N t Q'
 | .ret a,h=>hq a h
 | .ask i j k,h=> ⟨h.1,h.2.1,Asks.mono hq _ h.2.2⟩
theorem Asks.then{α β:Type}{f:α->KasT β}{Q:β->Prop}:∀(t:KasT α),Asks rk N t (λa=>Asks rk N (f a) Q)->Asks rk N (t.bind f) Q
 | .ret a,h=>h
 | .ask i j k,h=> ⟨h.1,h.2.1,Asks.then _ h.2.2⟩
theorem Asks.wp{α:Type}{cmp:Nat->Nat->(Bool->Shared->Prop)->Shared->Prop}{s:Shared}(hc:∀i j C,i<N->j<N->C (decide (rk i<rk j)) s->cmp i j C s){Q:α->Prop}{G:α->Shared->Prop}(hG:∀a,Q a->G a s):
  ∀(t:KasT α),Asks rk N t Q->t.kasWp cmp G s
 | .ret a,h=>hG a h
 | .ask i j k,h=>hc i j _ h.1 h.2.1 (Asks.wp hc hG _ h.2.2)
def Ord(N:Nat)(p:Array Nat):Prop:=p.toList.Perm (List.range N)
theorem Ord.size{p:Array Nat}(h:Ord N p):p.size=N:=by
 have:=List.Perm.length_eq h
 simpa using this
variable{i:Nat}{p:Array Nat}
theorem Ord.lt(h:Ord N p)(hN:0<N):p.getD i 0<N:=by
 by_cases hi:i<p.size
 .have e:p.getD i 0=p[i]:=by simp[Array.getD,hi]
  rw[e];have m:p[i]∈p.toList:=by simp
  exact GaV.mp (h.mem_iff.mp m)
 .have e:p.getD i 0=0:=by simp[Array.getD,hi]
  rw[e];exact hN
variable{p' :Array Nat}
theorem Ord.De(h:Ord N p)(q:p'.Perm p):Ord N p' :=List.Perm.trans (Array.perm_iff_toList_perm.mp q) h
noncomputable def bO(rk:Nat->Int)(p:Array Nat)(i:Nat):Int:=rk (p.getD i 0)
variable{j:Nat}
theorem gB(h:p'[i]? =p[j]?):bO rk p' i=bO rk p j:=by
 unfold bO;have e:p'.getD i 0=p.getD j 0:=by
  rw[Gbh,Gbh,h]
 rw[e]
def Up(rk:Nat->Int)(p:Array Nat)(k:Nat):Prop:=∀u v,u<=v->v<k->bO rk p u<=bO rk p v
def Down(rk:Nat->Int)(p:Array Nat)(k:Nat):Prop:=∀u v,u<=v->v<k->bO rk p v<=bO rk p u
theorem BK(hj:j<=p.size)(k:Nat):bO rk (kas_rev p i j) k=if i<=k/\k<j then bO rk p (i+j -1 -k) else bO rk p k:=by
 have g:=getElem?_mirror_all (i:=i) hj k;split
 .rename_i c;rw[Gaj c] at g;exact gB g
 .rename_i c;rw[Gai c] at g;exact gB g
theorem iK(hj:j<=p.size)(he:∀k,i<=k->k<j->bO rk p k=bO rk p (j -1))(k:Nat):bO rk (kas_rev p i j) k=bO rk p k:=by
 rw[BK hj];split
 .rename_i c;rw[he (i+j -1 -k) (by lia) (by lia),he k c.1 c.2]
 .rfl
theorem mN(h:Ord N p):Ord N (kas_rev p i j):=h.De (mirror_perm p i j ((j -i)/2))
theorem BL{p:Array Nat}(hp:Ord N p)(hN:0<N):∀(f n:Nat),1<=n->Up rk p n->Asks rk N (kas_asc p f n) λm=>n<=m/\m<=n+f/\Up rk p m/\(m=n+f\/bO rk p m<bO rk p (m -1))
 |0,n,h1,hu=> ⟨Gap n,Gap n,hu,.inl rfl⟩
 |f+1,n,h1,hu=>by
  refine⟨hp.lt hN,hp.lt hN, ?_⟩;by_cases c:rk (p.getD n 0)<rk (p.getD (n -1) 0)
  .rw[Gaz c];dsimp only;rw[Gaj rfl]
   exact⟨Gap n,by lia,hu,.inr c⟩
  .rw[Gau c];dsimp only;rw[Gai Gat]
   have nxt:Up rk p (n+1):=λu v xN hv=>by
    rcases Gbg v n with hvn|hvn
    .exact hu u v xN hvn
    .have ev:v=n:=by lia
     subst ev;have c' :bO rk p (v -1)<=bO rk p v:=Gda.mp c;rcases Gck xN with e|e
     .subst e;exact Gch _
     .exact Gee (hu u (v -1) (by lia) (by lia)) c'
   refine Asks.mono (λm hm=> ?_) _ (BL hp hN f (n+1) (by lia) nxt);obtain⟨q1,q2,q3,q4⟩:=hm;refine⟨by lia,by lia,q3, ?_⟩;rcases q4 with q4|q4
   .left;lia
   .exact .inr q4
theorem Down.snoc{k:Nat}(hd:Down rk p k)(hk:1<=k)(e:∀i,bO rk p' i=bO rk p i)(c:bO rk p k<=bO rk p (k -1)):Down rk p' (k+1):=λu v xN hv=>by
 rw[e,e];rcases Gbg v k with hvk|hvk
 .exact hd u v xN hvk
 .have ev:v=k:=by lia
  subst ev;rcases Gck xN with q|q
  .subst q;exact Gch _
  .exact Gee c (hd u (v -1) (by lia) (by lia))
theorem pG(hN:0<N):∀(f:Nat) (p:Array Nat) (n q:Nat),Ord N p->1<=n->n+f<=N->Down rk p n->q+1<=n->(∀i,n -(q+1)<=i->i<n->bO rk p i=bO rk p (n -1))->
  Asks rk N (kas_desc f p n q) λr=>Ord N r.1/\n<=r.2.1/\r.2.1<=n+f/\Down rk r.1 r.2.1/\r.2.2+1<=r.2.1/\∀i,r.2.1 -(r.2.2+1)<=i->i<r.2.1->bO rk r.1 i=bO rk r.1 (r.2.1 -1)
 |0,p,n,q,hp,h1,zy,hd,hq,he=> ⟨hp,Gap n,Gap n,hd,hq,he⟩
 |f+1,p,n,q,hp,h1,zy,hd,hq,he=>by
  have sz:=hp.size;refine⟨hp.lt hN,hp.lt hN, ?_⟩;by_cases c:rk (p.getD n 0)<rk (p.getD (n -1) 0)
  .rw[Gaz c];dsimp only;rw[Gaj rfl]
   have c' :bO rk p n<=bO rk p (n -1):=Gef c;by_cases z:q>0
   .rw[Gaj z];have eq:=λk=>iK (rk:=rk) (i:=n -(q+1)) (by lia) he k;exact Asks.mono (λr ⟨a1,a2,a3,a4⟩=> ⟨a1,by lia,by lia,a4⟩) _ (pG hN f _ (n+1) 0 (mN hp) (by lia) (by lia) (hd.snoc h1 eq c') (by lia) λi i1 i2=>by rw[show i=n+1 -1 by lia])
   .rw[Gai z];exact Asks.mono (λr ⟨a1,a2,a3,a4⟩=> ⟨a1,by lia,by lia,a4⟩) _ (pG hN f p (n+1) 0 hp (by lia) (by lia) (hd.snoc h1 (λ_=>rfl) c') (by lia) λi i1 i2=>by rw[show i=n+1 -1 by lia])
  .rw[Gau c];dsimp only;rw[Gai Gat]
   refine⟨hp.lt hN,hp.lt hN, ?_⟩;by_cases g:rk (p.getD (n -1) 0)<rk (p.getD n 0)
   .rw[Gaz g];dsimp only;rw[Gaj rfl]
    exact⟨hp,Gap n,Nat.le_add_right n (f+1),hd,hq,he⟩
   .rw[Gau g];dsimp only;rw[Gai Gat]
    have eq:bO rk p n=bO rk p (n -1):=Int.le_antisymm (Gda.mp g) (Gda.mp c);refine Asks.mono (λr ⟨a1,a2,a3,a4⟩=> ⟨a1,by lia,by lia,a4⟩) _ (pG hN f p (n+1) (q+1) hp (by lia) (by lia) (hd.snoc h1 (λ_=>rfl) (Int.le_of_eq eq)) (by lia) λi i1 i2=> ?_);rcases Gbg i n with hi|hi
    .rw[he i (by lia) hi,show n+1 -1=n by lia,eq]
    .rw[show i=n+1 -1 by lia]
variable{n M:Nat}
theorem Df(hp:Ord N p)(hN:0<N)(h1:1<=n)(hn:n<=M)(hM:M<=N)(hd:Down rk p n):Asks rk N (kas_tail3 n M p) λr=>Ord N r.2/\1<=r.1/\r.1<=M/\Up rk r.2 r.1:=by
 have sz:=hp.size;refine Asks.then _ (Asks.mono (λm ⟨a1,a2,a3,_⟩=> ⟨mN hp,by lia,by lia,a3⟩) _ (BL (mN hp) hN (M -n) n h1 λu v xN hv=> ?_));rw[BK (by lia),BK (by lia),Gaj ⟨Gba _,by lia⟩,Gaj ⟨Gba _,hv⟩];exact hd _ _ (by lia) (by lia)
theorem oK(hp:Ord N p)(hN:0<N)(h1:1<=n)(hn:n+1<=M)(hM:M<=N)(hd:Down rk p (n+1)):Asks rk N (kas_descPart n M p) λr=>Ord N r.2/\1<=r.1/\r.1<=M/\Up rk r.2 r.1:=by
 have sz:=hp.size;refine Asks.then _ (Asks.mono (λr ⟨a1,a2,a3,a4,a5,a6⟩=> ?_) _ (pG hN (M -(n+1)) p (n+1) 0 hp (by lia) (by lia) hd (by lia) λi i1 i2=>by rw[show i=n+1 -1 by lia]));have s1:=a1.size;split
 .refine Df (mN a1) hN (by lia) (by lia) hM λu v xN hv=> ?_;rw[iK (by lia) a6,iK (by lia) a6];exact a4 u v xN hv
 .exact Df a1 hN (by lia) (by lia) hM a4
theorem He(hp:Ord N p)(UD:1<=M)(hM:M<=N):Asks rk N (kas_count M p) λr=>Ord N r.2/\1<=r.1/\r.1<=M/\Up rk r.2 r.1:=by
 have hN:0<N:=by lia
 have sz:=hp.size;refine Asks.then _ (Asks.mono (λn ⟨a1,a2,a3,a4⟩=> ?_) _ (BL hp hN (M -1) 1 (Gap 1) λu v xN hv=>by rw[show u=v by lia];exact Gch _));by_cases c:(n==M)=true
 .rw[Gaj c];exact⟨hp,a1,by lia,a3⟩
 .rw[Gai c];have cn:n≠M:=λz=>c (by simp[z]);have fall:bO rk p n<bO rk p (n -1):=by
   rcases a4 with z|z
   .lia
   .exact z
  by_cases g:n>1
  .rw[Gaj g];refine⟨hp.lt hN,hp.lt hN, ?_⟩;by_cases r:rk (p.getD 0 0)<rk (p.getD (n -1) 0)
   .rw[Gaz r];dsimp only;rw[Gaj rfl]
    exact⟨hp,a1,by lia,a3⟩
   .rw[Gau r];dsimp only;rw[Gai Gat]
    have all:∀k,0<=k->k<n->bO rk p k=bO rk p (n -1):=λk _ hk=>by
     have b1:=a3 0 k (Gba _) hk;have b2:=a3 k (n -1) (by lia) (by lia);have b3:bO rk p (n -1)<=bO rk p 0:=Gda.mp r;lia
    refine oK (mN hp) hN a1 (by lia) hM λu v xN hv=> ?_;rw[iK (by lia) all,iK (by lia) all];rcases Gbg v n with hvn|hvn
    .rw[all u (Gba _) (by lia),all v (Gba _) hvn];exact Gch _
    .have ev:v=n:=by lia
     subst ev;rcases Gck xN with q|q
     .subst q;exact Gch _
     .rw[all u (Gba _) q];exact Gef fall
  .rw[Gai g];have en:n=1:=by lia
   subst en;refine oK hp hN (Gap 1) (by lia) hM λu v xN hv=> ?_;rcases Gck xN with q|q
   .subst q;exact Gch _
   .have eu:u=0:=by lia
    have ev:v=1:=by lia
    subst eu ev;exact Gef fall
theorem qx{p:Array Nat}{k:Nat}(hp:Ord N p)(hN:0<N)(hu:Up rk p k):∀(f l r:Nat),l<=r->r<=k->r -l<=f->(∀i,i<l->bO rk p i<=bO rk p k)->(∀i,r<=i->i<k->bO rk p k<bO rk p i)->
  Asks rk N (kas_place p k f l r) λm=>m<=k/\(∀i,i<m->bO rk p i<=bO rk p k)/\∀i,m<=i->i<k->bO rk p k<bO rk p i
 |0,l,r,h1,h2,h3,h4,h5=>by
  have e:l=r:=by lia
  subst e;exact⟨h2,h4,h5⟩
 |f+1,l,r,h1,h2,h3,h4,h5=>by
  unfold kas_place;by_cases c:l>=r
  .rw[Gaj c];have e:l=r:=by lia
   subst e;exact⟨h2,h4,h5⟩
  .rw[Gai c];refine⟨hp.lt hN,hp.lt hN, ?_⟩;by_cases g:rk (p.getD k 0)<rk (p.getD ((l+r)/2) 0)
   .rw[Gaz g];dsimp only;rw[Gaj rfl]
    exact qx hp hN hu f l ((l+r)/2) (by lia) (by lia) (by lia) h4 λi i1 i2=>Int.lt_of_lt_of_le g (hu ((l+r)/2) i i1 i2)
   .rw[Gau g];dsimp only;rw[Gai Gat]
    exact qx hp hN hu f ((l+r)/2+1) r (by lia) h2 (by lia) (λi i1=>Gee (hu i ((l+r)/2) (by lia) (by lia)) (Gda.mp g)) h5
theorem Mk{k d:Nat}(hk:k<p.size)(hd:d<=k)(i:Nat):bO rk (bubble p k d) i=if i=k -d then bO rk p k else if k -d<i/\i<=k then bO rk p (i -1) else bO rk p i:=by
 have g:=getElem?_bubble hk d hd i;split
 .rename_i c;rw[Gaj c] at g;exact gB g
 .rename_i c;rw[Gai c] at g;split
  .rename_i c2;rw[Gaj c2] at g;exact gB g
  .rename_i c2;rw[Gai c2] at g;exact gB g
theorem Hg(hN:0<N):∀(f:Nat) (p:Array Nat) (k:Nat),Ord N p->k+f=N->Up rk p k->Asks rk N (kas_bin f p k) λr=>Ord N r/\Up rk r N
 |0,p,k,hp,hk,hu=>by
  have e:k=N:=by lia
  subst e;exact⟨hp,hu⟩
 |f+1,p,k,hp,hk,hu=>by
  have sz:=hp.size;refine Asks.then _ (Asks.mono (λm ⟨a1,a2,a3⟩=> ?_) _ (qx hp hN hu k 0 k (Gba _) (Gap _) (by lia) (λi hi=>by lia) λi i1 i2=>by lia));refine Hg hN f _ (k+1) (hp.De (bubble_perm p k (k -m))) (by lia) λu v xN hv=> ?_;have B:=λi=>Mk (rk:=rk) (p:=p) (k:=k) (d:=k -m) (by lia) (by lia) i;rw[B u,B v];have em:k -(k -m)=m:=by lia
  rw[em];by_cases u1:u=m
  .rw[Gaj u1];by_cases v1:v=m
   .rw[Gaj v1];exact Gch _
   .rw[Gai v1];rw[Gaj ⟨by lia,by lia⟩];exact Gef (a3 (v -1) (by lia) (by lia))
  .rw[Gai u1];by_cases u2:m<u/\u<=k
   .rw[Gaj u2,Gai (show¬v=m by lia),Gaj ⟨by lia,by lia⟩];exact hu (u -1) (v -1) (by lia) (by lia)
   .rw[Gai u2];by_cases v1:v=m
    .rw[Gaj v1];exact a2 u (by lia)
    .rw[Gai v1];by_cases v2:m<v/\v<=k
     .rw[Gaj v2];exact hu u (v -1) (by lia) (by lia)
     .rw[Gai v2];exact hu u v xN (by lia)
theorem JR(hN:1<=N):Asks rk N (kas_sort N) λr=>Ord N r/\Up rk r N:=by
 have h0:Ord N (List.toArray (List.range N)):=List.Perm.refl _;refine Asks.then _ (Asks.mono (λr ⟨a1,a2,a3,a4⟩=> ?_) _ (He h0 hN (Gap N)));split
 .exact Hg (by lia) _ _ _ a1 (by lia) (by rw[show max r.1 1=r.1 by lia];exact a4)
 .rename_i c;have e:r.1=N:=by lia
  rw[e] at a4;exact⟨a1,a4⟩
end
def FO(h:Heap)(a:Addr)(T:String)(vs:Array Value):Prop:=∃o,h.get? a=some o/\o.cls= .type T/\o.data= .fields vs
def Hh(h:Heap)(d:Addr)(es:Array DictEntry)(ep:Nat):Prop:=∃o,h.get? d=some o/\o.ExactDict/\o.data= .dict es ep
section
variable{prog:Program}{w:World}{A:Around}{E:Value->Shared->Prop}{z:Shared}
variable{p:Option Value}{ep:Nat}{d:Addr}
theorem Hj{es:Array DictEntry}{Q:Array DictEntry->Shared->Prop}(x:Hh z.heap d es ep)(h:Q es z):wpAny (model prog w) A (dictEntries d p) Q E z:=let⟨_,ho,_,hd⟩:=x;wpAny_dictEntries ho hd h
theorem Ld{es:Array DictEntry}{Q:Nat->Shared->Prop}(x:Hh z.heap d es ep)(h:Q ep z):wpAny (model prog w) A (dictEpoch d p) Q E z:=let⟨_,ho,_,hd⟩:=x;wpAny_dictEpoch ho hd h
variable{vs:Array Value}{T:String}{a:Addr}
theorem FO.ty(x:FO z.heap a T vs):z.TypeIs (.ref a) T:=let⟨o,ho,hc,_⟩:=x;⟨o,ho,hc⟩
theorem uP{Q:Array Value->Shared->Prop}(x:FO z.heap a T vs)(h:Q vs z):wpAny (model prog w) A (fieldsOf (.ref a)) Q E z:=let⟨_,ho,_,hd⟩:=x;wpAny_fieldsOf ho hd h
variable{x:Value}
theorem dY{k:Nat}{Q:Unit->Shared->Prop}(f:FO z.heap a T vs)(h:∀h',FO h' a T (vs.setIfInBounds k x)/\Heap.SameBut a z.heap h' ->Q () {z with heap:=h' })(hk:k<vs.size):
  wpAny (model prog w) A (setField (.ref a) k x) Q E z:=by
 obtain⟨⟨c,dc,dt,sl⟩,ho,hc,hd⟩:=f;cases hc;cases hd
 exact GcU ho rfl hk (h _ ⟨⟨_,GaX _ ho rfl,rfl,rfl⟩,GbE ..⟩)
variable{h:Heap}
theorem FO.at{h' :Heap}(x:FO h a T vs)(k:∀o,h.get? a=some o->h'.get? a=some o):FO h' a T vs:=let⟨o,q,r⟩:=x;⟨o,k o q,r⟩
theorem FO.lt(x:FO h a T vs):a<h.objs.size:=let⟨_,q,_⟩:=x;Gav q
theorem j7{i:Nat}{Q:Value->Shared->Prop}(f:FO z.heap a T vs)(e:vs[i]? =some x)(h:Q x z):wpAny (model prog w) A (field (.ref a) i) Q E z:=let⟨_,ho,_,hd⟩:=f;wpAny_field ho hd e h
theorem Hk{α:Type}{Q:α->Shared->Prop}(hh:A.handled=none)(h:∀h' a,(∀b o,z.heap.get? b=some o->h'.get? b=some o)/\(∃o,h'.get? a=some o/\o.cls= .type "StopIteration")->E (.ref a) {z with heap:=h' }):
  wpAny (model prog w) A (newExc (.type "StopIteration") []>>=λe=>(raiseNew e:Sem α)) Q E z:=by
 obtain⟨hp,g,dr,tk,os⟩:=z
 wp_walk using Gbd
 .unfold raiseNew
  wp_walk
  exact h _ _ ⟨λb o e=>Gaf _ (Gaf _ e),_,Gaw _ rfl,rfl⟩
 all_goals size_fits
theorem uQ{e:Addr}{Q:Bool->Shared->Prop}(x:∃o,z.heap.get? e=some o/\o.cls= .type "StopIteration")(h:Q true z):wpAny (model prog w) A (isInstance (.ref e) (.type "StopIteration")) Q E z:=
 wpAny_isInstance (T:="StopIteration") x isSubtype_stop h
theorem Pg(es:Array DictEntry)(i:Nat):(if(i:Int)<0 then none else es[(i:Int).toNat]?)=es[i]? :=by simp;lia
def Emp(h:Heap)(S:Addr):Prop:=∃c,h.get? S=some {cls:= .type "list",data:= .seq #[] c}
theorem on{α:Type}{t:Sem α}{Q Q' :α->Shared->Prop}(h:wpAny (model prog w) A t Q E z)(k:∀a s,Q a s->Q' a s):wpAny (model prog w) A t Q' E z:=Gcg h k λ_ _ x=>x
variable{S:Addr}
theorem touched{Q:Unit->Shared->Prop}(e:Emp z.heap S)(h:∀h2,Emp h2 S/\(∀b o,b≠S->z.heap.get? b=some o->h2.get? b=some o)->Q () {z with heap:=h2}):wpAny (model prog w) A (Builtin.List.listTouch (.ref S)) Q E z:=by
 obtain⟨c,e⟩:=e;have e1:=GaX (Obj.mapSeq (·.push Value.none)) e rfl;refine Gaa (wpAny_updateSeq e rfl (wpAny_updateSeq (hz:=by seq_fits) e1 rfl (h _ ⟨⟨_,GaX (Obj.mapSeq (·.pop)) e1 rfl⟩,λb o n k=> ?_⟩)));rw[GbO _ _ (Ne.symm n),GbO _ _ (Ne.symm n),k]
variable{v:Value}
theorem Hl{res:Value}{R:Result->Shared->Prop}(hT:z.TypeIs v T)(n1:(Value.type T== .type "list")=false)(n2:(Value.type T== .type "tuple")=false)(n3:Builtin.List.listSameRef (.ref S) v=false)
  (h:wpAny (model prog w) A.in1 (pyIter v) (λi s1=>wpAny (model prog w) A.in1 (Builtin.List.listLengthHint v) (λ_ s2=>Emp s2.heap S/\∀h2,Emp h2 S->(∀b o,b≠S->s2.heap.get? b=some o->h2.get? b=some o)->
   codeAny (model prog w) A (.builtin "list.extend.loop" ⟨[.ref S,i,res],[]⟩) R {s2 with heap:=h2}) (λe s' =>R (.error e) s') s1) (λe s' =>R (.error e) s') z):
  wpAny (model prog w) A.in1 (Builtin.List.listExtendWith (.ref S) v res) (λfin s' =>match fin with| .done f=>R (.ok f) s' | .again c' =>c'.quiet=true/\codeAny (model prog w) A c' R s') (λe s' =>R (.error e) s') z:=by
 wp_walk using GdM hT,on h
 intro i s1 q
 wp_walk using on q
 rintro b s2 ⟨e,q⟩;have quiet:Code.quiet (.builtin "list.extend.loop" ⟨[.ref S,i,res],[]⟩)=true:=GdB F.plain_extend_loop _;apply GcI<;>intro _
 .wp_walk using touched e
  exactλh2 k=>Gac ⟨quiet,q h2 k.1 k.2⟩
 .exact Gac ⟨quiet,q _ e λ_ _ _ k=>k⟩
theorem JS{c:Code}{Q:Value->Shared->Prop}(h:∀R:Result->Shared->Prop,(∀v s',Q v s' ->R (.ok (.ret v)) s')->codeAny (model prog w) A c R z):wpAny (model prog w) A (runValue c) Q E z:=wpAny_runValue (h _ λ_ _ q=>q)
theorem gather{Q:List Value->Shared->Prop}
  (h:∀R:Result->Shared->Prop,(∀s' acc c,s'.heap.get? z.heap.objs.size=some {cls:= .type "list",dict:=none,data:= .seq acc c,slots:=#[]}->Q acc.toList s' ->R (.ok (.ret (.ref z.heap.objs.size))) s')->
   wpAny (model prog w) A.in1 (Builtin.List.listExtendWith (.ref z.heap.objs.size) v (.ref z.heap.objs.size)) (λfin s' =>match fin with| .done f=>R (.ok f) s' | .again c' =>c'.quiet=true/\codeAny (model prog w) A c' R s') (λe s' =>R (.error e) s') {z with heap:=z.heap.push (seqObj "list" #[] 0)}):
  wpAny (model prog w) A (collect v) Q E z:=by
 unfold collect;apply Gaa;apply JS;intro R r;apply GbX entry_proto_collect';apply Gaa;refine wpAny_newList (Gac ⟨Code.quiet_builtin _ (by decide+kernel), ?_⟩);apply GbX entry_list_iadd';rw[GbY (by decide+kernel:plainId "list.__iadd__"=true)];exact h R λs' acc c k q=>r _ _ (Gaa (wpAny_load k (Gac q)))
theorem uR{Q:List Value->Shared->Prop}
  (h:∀h1:Heap,Emp h1 z.heap.objs.size->(∀b o,z.heap.get? b=some o->h1.get? b=some o)->∀R:Result->Shared->Prop,
   (∀s' acc c,s'.heap.get? z.heap.objs.size=some {cls:= .type "list",dict:=none,data:= .seq acc c,slots:=#[]}->Q acc.toList s' ->R (.ok (.ret (.ref z.heap.objs.size))) s')->
   wpAny (model prog w) A.in1 (Builtin.List.listExtendWith (.ref z.heap.objs.size) v (.ref z.heap.objs.size)) (λfin s' =>match fin with| .done f=>R (.ok f) s' | .again c' =>c'.quiet=true/\codeAny (model prog w) A c' R s') (λe s' =>R (.error e) s') {z with heap:=h1}):
  wpAny (model prog w) A (collect v) Q E z:=gather (h _ ⟨0,Gaw _ rfl⟩ λb o=>Gaf _)
def wO(h:Heap)(S:Addr)(acc:Array Value):Prop:=∃c,h.get? S=some {cls:= .type "list",dict:=none,data:= .seq acc c,slots:=#[]}
end
open PySem.W (KatLex KatTups kas_sort kas_ask kat_kind kat_lt kat_one kat_run kat_snds BoolBack kat_lt_int)
def FlV:D->Value->Prop
 | .non,v=>v= .none
 | .int i,v=>∃t,v= .int i t
 | .str x,v=>∃t,v= .str x t
 |_,_=>False
def j8(h:Heap):D->Value->Prop
 | .int i,v=>∃t,v= .int i t
 | .tup fs,v=>∃a o n us,v= .ref a/\h.get? a=some o/\o.cls= .type "tuple"/\o.data= .seq (List.toArray us) n/\Paired FlV fs us
 |_,_=>False
variable{d:D}
theorem j8.keep{h h' :Heap}{v:Value}(k:j8 h d v)(e:∀b o,h.get? b=some o->h'.get? b=some o):j8 h' d v:=by
 cases d with
 |int i=>exact k
 |tup fs=>obtain⟨a,o,n,us,h1,h2,h3⟩:=k;exact⟨a,o,n,us,h1,e _ _ h2,h3⟩
 |_=>exact k
theorem jM{α β:Type}{R S:α->β->Prop}(h:∀a b,R a b->S a b){xs:List α}{ys:List β}(p:Paired R xs ys):Paired S xs ys:=L2.Paired.J1 p h
theorem JT{xs ys:List Nat}(h:xs.map Int.ofNat=ys.map Int.ofNat):xs=ys:=by
 induction xs generalizing ys with
 |nil=>cases ys with
  |nil=>rfl
  |cons=>simp at h
 |cons x xs ih=>cases ys with
  |nil=>simp at h
  |cons y ys=>
   simp only[Gay,List.cons.injEq] at h;rw[ih h.2,Int.ofNat_inj.mp h.1]
variable{x y:Str}
theorem JU(h:x.cps.toList=y.cps.toList):x=y:=by
 cases x;cases y
 simp only at h;rw[Array.toList_inj.mp h]
variable{a:D}
theorem o4{b:D}(ha:kR a=true)(hb:kR b=true)(h:aR a=aR b):a=b:=by
 cases a<;>cases b<;>simp[kR,tyD] at ha hb<;>simp[aR] at h
 .rfl
 .rw[h]
 .have:=JU (JT h);rw[this]
theorem tJ:∀{as bs:List D},as.all kR=true->bs.all kR=true->as.map aR=bs.map aR->as=bs
 |[],[],_,_,_=>rfl
 |[],_::_,_,_,h=>by simp at h
 |_::_,[],_,_,h=>by simp at h
 |a::as,b::bs,ha,hb,h=>by
  rw[GbQ,Gas] at ha hb;simp only[Gay,List.cons.injEq] at h;rw[o4 ha.1 hb.1 h.1,tJ ha.2 hb.2 h.2]
theorem Ml{t:Nat}(h:(tyD a==t)=true)(ht:t≠3):kR a=true:=by
 unfold kR;rw[Gdb] at h;rw[h]
 simpa using ht
theorem kx{t:Nat}(ht:t≠3)(h:kS t d=true):∃f r,d= .tup (f::r)/\tyD f=t/\(f::r).all kR=true:=by
 unfold kS at h;split at h
 .rename_i f r;rw[Gas] at h;refine⟨f,r,rfl,Gdb.mp h.1, ?_⟩;rw[GbQ,Gas];exact⟨Ml h.1 ht,h.2⟩
 .cases h
theorem iL(h:EA d=true):∃i,d= .int i:=by
 unfold EA at h;split at h
 .exact⟨_,rfl⟩
 .cases h
theorem wQ{ds:List D}(h:keysOk ds=true):∀a∈ds,∀b∈ds,code a=code b->a=b:=by
 intro a ha b hb e;unfold keysOk at h;rw[GaR,Gas,GaR] at h;have tup:∀t,t≠3->ds.all (kS t)=true->a=b:=λt ht hk=>by
  obtain⟨f,r,rfl,_,q1⟩:=kx ht (Gao.mp hk a ha);obtain⟨f',r',rfl,_,q2⟩:=kx ht (Gao.mp hk b hb);rw[tJ q1 q2 e]
 rcases h with h| ⟨h|h,_⟩
 .obtain⟨i,rfl⟩:=iL (Gao.mp h a ha);obtain⟨j,rfl⟩:=iL (Gao.mp h b hb);simp[code,aR] at e;rw[e]
 .exact tup 1 (by decide) h
 .exact tup 2 (by decide) h
theorem Dg{i j:Int}:dh ltI (aR (.int i)) (aR (.int j))=decide (i<j):=by
 unfold aR;simp only[dh,Gca];by_cases e:i=j
 .subst e;simp
 .rw[Gai e];rfl
theorem Dh:∀(xs ys:List Nat),dh ltI (xs.map Int.ofNat) (ys.map Int.ofNat)=decide (xs<ys)
 |[],[]=>by simp[dh]
 |[],y::ys=>by simp[dh]
 |x::xs,[]=>by simp[dh]
 |x::xs,y::ys=>by
  simp only[Gay,dh];by_cases e:x=y
  .subst e;rw[Gaj rfl,Dh xs ys];simp[List.cons_lt_cons_iff]
  .rw[Gai (λz:Int.ofNat x=Int.ofNat y=>e (Int.ofNat_inj.mp z))];have:(x::xs<y::ys)↔x<y:=by rw[List.cons_lt_cons_iff];simp[e]
   unfold ltI;simp[this]
theorem JV:dh ltI (aR (.str x)) (aR (.str y))=decide (x.cps.toList<y.cps.toList):=by
 unfold aR;simp only[dh,Gca];exact Dh _ _
section
variable{prog:Program}{w:World}{A:Around}{E:Value->Shared->Prop}{s:Shared}
variable{u v:Value}{b:D}
theorem Ph{a:D}{Q:Bool->Shared->Prop}(ha:FlV a u)(hb:FlV b v)(ht:tyD a=tyD b)(h:Q (decide (aR a=aR b)) s):wpAny (model prog w) A (eqBool u v) Q E s:=by
 cases a<;>cases b<;>simp[tyD] at ht<;>try exact ha.elim
 .cases ha;cases hb
  unfold eqBool;refine GbK ?_;simp only[aR,decide_true] at h;rw[Gaj (by rfl)];exact Gaa (wpAny_rule (Gac h))
 .obtain⟨t,rfl⟩:=ha;obtain⟨t',rfl⟩:=hb;refine wpAny_eqBool_int ?_;rename_i i j;have e:decide (aR (.int i)=aR (.int j))=(i==j):=by
   simp only[aR];by_cases q:i=j
   .subst q;simp
   .simp[q]
  rw[e] at h;exact h
 .obtain⟨t,rfl⟩:=ha;obtain⟨t',rfl⟩:=hb;refine eqBool_str ?_;rename_i i j;have e:decide (aR (.str i)=aR (.str j))=(i==j):=by
   by_cases q:i=j
   .subst q;simp
   .have:¬aR (.str i)=aR (.str j):=λz=>q (by
     have:=o4 (a:= .str i) (b:= .str j) rfl rfl z;cases this;rfl)
    simp[q,this]
  rw[e] at h;exact h
theorem Pj{a:D}{one:Bool}{Q:Bool->Shared->Prop}(ha:FlV a u)(hb:FlV b v)(ht:tyD a=tyD b)(hk:tyD a=1\/tyD a=2)(h:Q (dh ltI (aR a) (aR b)) s):wpAny (model prog w) A (oneLt' one u v) Q E s:=by
 cases a<;>cases b<;>simp[tyD] at ht hk
 .obtain⟨t,rfl⟩:=ha;obtain⟨t',rfl⟩:=hb;rw[Dg] at h;cases one with
  |true=>exact oneLt_int h
  |false=>exact kat_one _ _ (PyProof.Rows.lt_int h)
 .obtain⟨t,rfl⟩:=ha;obtain⟨t',rfl⟩:=hb;rw[JV] at h;cases one with
  |true=>exact oneLt_str h
  |false=>exact kat_one _ _ (PyProof.Rows.lt_str h)
theorem Mm{b fin:Bool}{Q:Bool->Shared->Prop}:∀{as bs:List D} {us vs:List Value} (i:Nat),Paired FlV as us->Paired FlV bs vs->kY as bs=true->fin=decide (as.length<bs.length)->Q (ltC (as.map aR) (bs.map aR)) s->KatLex prog w A b fin Q (us.zip vs) i s:=by
 intro as;induction as with
 |nil=>
  intro bs us vs i p1 p2 _ hf h;have h' :Q fin s:=by
   rw[hf];cases p2 with
   |nil=>exact h
   |cons _ _=>rw[Gaz (by simp)];exact h
  cases p1;exact h'
 |cons a as ih=>
  intro bs us vs i p1 p2 hc hf h;cases p1 with
  | @cons _ u _ us ha ta=>
  cases p2 with
  |nil=>
   have h' :Q fin s:=by rw[hf,Gau (by simp)];exact h
   exact h'
  | @cons c v cs vs hb tb=>
  unfold kY at hc;have h0:ltC ((a::as).map aR) ((c::cs).map aR)=if aR a=aR c then ltC (as.map aR) (cs.map aR) else dh ltI (aR a) (aR c):=rfl
  rw[h0] at h;have ht:tyD a=tyD c:=by
   split at hc
   .rename_i e;cases a<;>first|exact ha.elim|(cases c<;>first|exact hb.elim|rfl|(simp[aR] at e;done))
   .rw[Gas] at hc;exact Gdb.mp hc.1
  show wpAny _ _ (eqBool u v) _ _ s;refine Ph ha hb ht ?_;by_cases e:aR a=aR c
  .rw[Gaz e,Gaj rfl];rw[Gaj e] at h hc;exact ih (i+1) ta tb hc (by rw[hf];simp) h
  .rw[Gau e,Gai Gat];rw[Gai e] at h hc;rw[Gas,GaR] at hc;exact Pj ha hb ht (hc.2.imp Gdb.mp Gdb.mp) h
variable{vs:List Value}{ds:List D}
theorem wR{Y:SortKind}(hK:Paired (j8 s.heap) ds vs)(hok:keysOk ds=true)(hY:(ds.all EA=true/\Y=oneType')\/((ds.all (kS 1)||ds.all (kS 2))=true/\(ds.all λx=>ds.all λy=>wm x y)=true/\Y=tuples' true)):
  ∀i j C,i<ds.length->j<ds.length->C (decide (rank (ds.map code) i<rank (ds.map code) j)) s->kas_ask prog w A Y vs i j C s:=by
 intro i j C hi hj h;have hl:=hK.length;rw[CZ (by simpa using hi) (by simpa using hj)] at h;simp only[Gcf] at h;unfold kas_ask;have gi:vs.getD i Value.none=vs[i]:=by simp[<-hl,hi]
 have gj:vs.getD j Value.none=vs[j]:=by simp[<-hl,hj]
 rw[gi,gj];have at_:∀{ds:List D} {vs:List Value},Paired (j8 s.heap) ds vs->∀(i:Nat) (h1:i<ds.length) (h2:i<vs.length),j8 s.heap ds[i] vs[i]:=by
  intro ds vs hK;induction hK with
  |nil=>intro i h1;simp at h1
  |cons h t ih=>
   intro i h1 h2;cases i with
   |zero=>exact h
   |succ i=>exact ih i (by simpa using h1) (by simpa using h2)
 have ki:=at_ hK i hi (by lia);have kj:=at_ hK j hj (by lia);rcases hY with⟨a1,rfl⟩| ⟨a1,a2,rfl⟩
 .obtain⟨x,hx⟩:=iL (Gao.mp a1 ds[i] (GaF hi));obtain⟨y,hy⟩:=iL (Gao.mp a1 ds[j] (GaF hj));rw[hx] at ki h;rw[hy] at kj h;obtain⟨t,ei⟩:=ki;obtain⟨t',ej⟩:=kj;rw[ei,ej];refine kat_lt_int ?_;have e:ltC (code (.int x)) (code (.int y))=decide (x<y):=by
   show dh (dh ltI) [aR (.int x)] [aR (.int y)]=_;unfold dh;split
   .rename_i z;have:=o4 (a:= .int x) (b:= .int y) rfl rfl z;cases this;simp[dh]
   .exact Dg
  rw[e] at h;exact h
 .have tup:∀d∈ds,∃fs,d= .tup fs:=λd hd=>by
   rw[GaR] at a1;rcases a1 with a1|a1
   .obtain⟨f,r,e,_⟩:=kx (by decide) (Gao.mp a1 d hd);exact⟨_,e⟩
   .obtain⟨f,r,e,_⟩:=kx (by decide) (Gao.mp a1 d hd);exact⟨_,e⟩
  have cm:=Gao.mp (Gao.mp a2 ds[i] (GaF hi)) ds[j] (GaF hj);obtain⟨xs,hx⟩:=tup ds[i] (GaF hi);obtain⟨ys,hy⟩:=tup ds[j] (GaF hj);rw[hx] at ki h cm;rw[hy] at kj h cm;obtain⟨a,o,n,us,ei,h1,h2,h3,h4⟩:=ki;obtain⟨a',o',n',Uy,ej,xV,Rr,Ur,T8⟩:=kj;rw[ei,ej];refine kat_lt h1 h3 xV Ur ?_;exact Mm 0 h4 T8 cm (by rw[Gar,Gar,h4.length,T8.length]) h
theorem tK{t:Nat}(ht:t≠3)(p:Paired (j8 s.heap) ds vs):ds.all (kS t)=true->∃fs:List Value,∃gs:List D,KatTups s.heap vs fs/\Paired FlV gs fs/\(∀g∈gs,tyD g=t)/\fs.length=vs.length:=by
 induction p with
 |nil=>exactλ_=> ⟨[],[],trivial,.nil,(by intro g hg;cases hg),rfl⟩
 |cons h tl ih=>
  intro hk;rw[GbQ,Gas] at hk;obtain⟨fs,gs,h1,h2,h3,h4⟩:=ih hk.2;obtain⟨f,r,rfl,q1,q2⟩:=kx ht hk.1;obtain⟨a,o,n,us,rfl,g1,g2,g3,g4⟩:=h;cases g4 with
  |cons p t=>
   refine⟨_::fs,f::gs,KatTups.cons g1 g2 g3 (by simp) h1,.cons p h2,λg hg=> ?_,by simp[h4]⟩;rcases GaB.mp hg with e|e
   .subst e;exact q1
   .exact h3 g e
theorem Di{M:Model}{h:Heap}{d:D}{t:Nat}(hd:FlV d v)(ht:tyD d=t):(t=1->PySem.W.Looks M h (typeOf v) (.type "int"))/\(t=2->PySem.W.Looks M h (typeOf v) (.type "str")):=by
 subst ht;cases d<;>simp[tyD]<;>try exact hd.elim
 .obtain⟨u,rfl⟩:=hd;exact PySem.W.Looks.of_pure rfl
 .obtain⟨u,rfl⟩:=hd;exact PySem.W.Looks.of_pure rfl
theorem tL{Q:SortKind->Shared->Prop}(hK:Paired (j8 s.heap) ds vs)(hok:keysOk ds=true)(h2:2<=ds.length)
  (h:∀Y,((ds.all EA=true/\Y=oneType')\/((ds.all (kS 1)||ds.all (kS 2))=true/\(ds.all λx=>ds.all λy=>wm x y)=true/\Y=tuples' true))->Q Y s):wpAny (model prog w) A (keyKind' vs.toArray) Q E s:=by
 have hl:=hK.length;unfold keysOk at hok;rw[GaR,Gas] at hok;rcases hok with hok| ⟨hok,hc⟩
 .have ia:∀{ds:List D} {vs:List Value},Paired (j8 s.heap) ds vs->ds.all EA=true->∃ns,IntsAre vs ns:=by
   intro ds vs hK;induction hK with
   |nil=>intro _;exact⟨[],.nil⟩
   |cons p t ih=>
    intro hk;rw[GbQ,Gas] at hk;obtain⟨ns,q⟩:=ih hk.2;obtain⟨i,rfl⟩:=iL hk.1;obtain⟨u,rfl⟩:=p;exact⟨i::ns,.cons i u q⟩
  obtain⟨ns,q⟩:=ia hK hok
  match vs,hl,q with
  |[],e,_=>rw[GaU] at e;lia
  |[_],e,_=>rw[GcT] at e;lia
  |v1::v2::vr,_,q=>
   rw[keyKind_ints q];exact Gac (h _ (.inl ⟨hok,rfl⟩))
 .have xP :=hok;rw[GaR] at xP;rcases xP with a1|a1
  .obtain⟨fs,gs,q1,q2,q3,q4⟩:=tK (s:=s) (by decide) hK a1;refine kat_kind (T:= .type "int") q1 (by rw[q4,<-hl];lia) (λv hv=> ?_) (by rfl) (h _ (.inr ⟨hok,hc,rfl⟩));obtain⟨g,hg,Sb⟩:∃g∈gs,FlV g v:=by
    clear q1 q3 q4;induction q2 with
    |nil=>cases hv
    |cons p t ih=>
     rcases GaB.mp hv with e|e
     .subst e;exact⟨_,Gak,p⟩
     .obtain⟨g,h1,h2⟩:=ih e;exact⟨g,Gag _ h1,h2⟩
   exact(Di Sb (q3 g hg)).1 rfl
  .obtain⟨fs,gs,q1,q2,q3,q4⟩:=tK (s:=s) (by decide) hK a1;refine kat_kind (T:= .type "str") q1 (by rw[q4,<-hl];lia) (λv hv=> ?_) (by rfl) (h _ (.inr ⟨hok,hc,rfl⟩));obtain⟨g,hg,Sb⟩:∃g∈gs,FlV g v:=by
    clear q1 q3 q4;induction q2 with
    |nil=>cases hv
    |cons p t ih=>
     rcases GaB.mp hv with e|e
     .subst e;exact⟨_,Gak,p⟩
     .obtain⟨g,h1,h2⟩:=ih e;exact⟨g,Gag _ h1,h2⟩
   exact(Di Sb (q3 g hg)).2 rfl
theorem Hm(vs:List Value):(vs.toArray.zip vs.toArray).map (·.2)=vs.toArray:=by
 apply Array.toList_inj.mp;rw[Array.toList_map,Array.toList_zip];exact List.map_snd_zip (Gap _)
variable{n:Nat}{a:Addr}
theorem BM{P:PySem.Fin->Shared->Prop}{Ok:Array Value->Prop}(ho:s.heap.get? a=some (seqObj "list" vs.toArray n))(sz:vs.length<=sizeLine)(one:vs.length<2->Ok vs.toArray)(len:∀out,Ok out->out.size=vs.length)
  (big:∀G:Heap,(∀b o,b≠a->s.heap.get? b=some o->G.get? b=some o)->2<=vs.length->wpAny (model prog w) A (keyKind' vs.toArray) (λY s1=>wpAny (model prog w) A (sortRuns'.run (SortSt.mk' Y (vs.toArray.zip vs.toArray) #[] 7 none)) (λr s2=>s2={s with heap:=G}/\failedOf r.2=none/\Ok ((arrOf r.2).map (·.2))) E s1) E {s with heap:=G})
  (h:∀out,Ok out->P (.done (.ret .none)) {s with heap:=sortedHeap s.heap a vs out}):wpAny (model prog w) A (Builtin.«list.sort» ⟨[.ref a],[]⟩) P E s:=by
 have⟨ep,e1⟩:∃ep,(s.heap.update a (Obj.mapSeq λ_=>(#[]:Array Value))).get? a=some (seqObj "list" #[] ep):=⟨_,get?_update_seq ho _⟩
 rw[list_sort_plain];refine Gaa (listItems_at ho rfl (Gaa (listUpdate_at ho rfl (Gaa (seqEpoch_at e1 rfl (Gaa (wpAny_newTuple (Gaa (wpAny_newList (GbK ?_) (Gba _))) sz)))) (by simpa using sz) (Gba _))));have e2:=Gaf (seqObj "list" #[] 0) (Gaf (seqObj "tuple" vs.toArray 0) e1);have last:∀st:SortSt,failedOf st=none->Ok ((arrOf st).map (·.2))->wpAny (model prog w) A (do
   let touched:=(<-seqEpoch a) !=ep
   Builtin.List.listUpdate (.ref a) λ_=>(arrOf st).map (·.2)
   if let some e:=failedOf st then rule "list.sort.comparison-raised";throw e
   if touched then rule "list.sort.modified";raiseError "ValueError" "list modified during sort"
   ret .none) P E {s with heap:=((s.heap.update a (Obj.mapSeq λ_=>(#[]:Array Value))).push (seqObj "tuple" vs.toArray 0)).push (seqObj "list" #[] 0)}:=λst f ok=>by
  refine Gaa (seqEpoch_at e2 rfl (Gaa (listUpdate_at e2 rfl ?_ (Gba _) (by rw[len _ ok];lia))));rw[f]
  wp_walk
  exact h _ ok
 by_cases c:vs.length<2
 .have c' :vs.toArray.size<2:=by simpa using c
  rw[Gaj c',Gaj c'];refine Gaa (Gac (Gaa (Gac (last (SortSt.mk' general' (vs.toArray.zip vs.toArray) #[] 7 none) rfl ?_))));show Ok ((vs.toArray.zip vs.toArray).map (·.2));rw[Hm];exact one c
 .have c' :¬vs.toArray.size<2:=by simpa using c
  rw[Gai c',Gai c'];refine Gaa (on (big _ (λb o n q=>Gaf _ (Gaf _ ((GbO _ _ (Ne.symm n)).trans q))) (by lia)) λY s1 q=>Gaa (on q ?_));rintro⟨⟨⟩,st⟩ s2 ⟨rfl,f,ok⟩;exact last st f ok
def j9(cs:List (List (List Int)))(vs:List Value)(out:Array Value):Prop:=∃p:Array Nat,Ord vs.length p/\Up (rank cs) p vs.length/\out=List.toArray (p.toList.map λi=>vs.getD i Value.none)
variable{cs:List (List (List Int))}
theorem j9.len{out:Array Value}(x:j9 cs vs out):out.size=vs.length:=by
 obtain⟨p,h1,_,rfl⟩:=x;rw[Gar,Gad,GaO,h1.size]
theorem j9.one(c:vs.length<2):j9 cs vs vs.toArray:=by
 refine⟨List.toArray (List.range vs.length),List.Perm.refl _,λu v q r=> ?_, ?_⟩
 .rw[show u=v by lia];exact Gch _
 .rcases vs with _| ⟨x,_| ⟨y,t⟩⟩
  .rfl
  .rfl
  .exact absurd c (by simp)
def uS(prog:Program)(w:World)(A:Around)(E:Value->Shared->Prop)(s:Shared)(cs:List (List (List Int)))(vs:List Value):Prop:=
 2<=vs.length->∀Q:SortKind->Shared->Prop,(∀Y,(∀i j C,i<vs.length->j<vs.length->C (decide (rank cs i<rank cs j)) s->kas_ask prog w A Y vs i j C s)->Q Y s)->wpAny (model prog w) A (keyKind' vs.toArray) Q E s
theorem l8{P:PySem.Fin->Shared->Prop}(ho:s.heap.get? a=some (seqObj "list" vs.toArray n))(yP:vs.length<64)
  (hK:∀G:Heap,(∀b o,b≠a->s.heap.get? b=some o->G.get? b=some o)->uS prog w A E {s with heap:=G} cs vs)
  (h:∀p:Array Nat,Ord vs.length p->Up (rank cs) p vs.length->P (.done (.ret .none)) {s with heap:=sortedHeap s.heap a vs (List.toArray (p.toList.map λi=>vs.getD i Value.none))}):wpAny (model prog w) A (Builtin.«list.sort» ⟨[.ref a],[]⟩) P E s:=by
 refine BM (Ok:=j9 cs vs) ho (by rw[Gbw];lia) j9.one (λ_ q=>q.len) (λG kp c=>hK G kp c _ λY hY=> ?_) λ_ ⟨p,h1,h2,e⟩=>e▸h p h1 h2;refine Gcg (kat_run (E:=E) (Q:=λst s2=>s2={s with heap:=G}/\failedOf st=none/\j9 cs vs ((arrOf st).map (·.2))) (G:=λp s' =>s' ={s with heap:=G}/\Ord vs.length p/\Up (rank cs) p vs.length) rfl (by lia) yP (λp st s' q1 q2 q3 q4=> ?_) (Asks.wp (s:={s with heap:=G}) (λi j C hi hj=>hY i j C hi hj) (λp hp=> ⟨rfl,hp.1,hp.2⟩) _ (JR (by lia)))) (λr s' q=>q) λ_ _ e=>e;exact⟨q4.1,q3,p,q4.2.1,q4.2.2,kat_snds rfl q2⟩
theorem uT{P:PySem.Fin->Shared->Prop}(ho:s.heap.get? a=some (seqObj "list" vs.toArray n))(yP:vs.length<64)(hK:Paired (j8 s.heap) ds vs)(hok:keysOk ds=true)
  (h:∀p:Array Nat,Ord vs.length p->Up (rank (ds.map code)) p vs.length->P (.done (.ret .none)) {s with heap:=sortedHeap s.heap a vs (List.toArray (p.toList.map λi=>vs.getD i Value.none))}):wpAny (model prog w) A (Builtin.«list.sort» ⟨[.ref a],[]⟩) P E s:=by
 have hl:=hK.length;refine l8 ho yP (λG kp c Q q=> ?_) h;have one:∀{d:D} {v:Value},j8 s.heap d v->j8 G d v:=λ{d v} k=>by
  cases d with
  |tup fs=>
   obtain⟨b,o,m,us,h1,h2,h3,h4⟩:=k;refine⟨b,o,m,us,h1,kp b o (λz=> ?_) h2,h3,h4⟩;rw[z,ho] at h2;cases h2;exact absurd h3 (by simp[seqObj])
  |_=>exact k
 have hKG:=jM (λ_ _=>one) hK;exact tL (s:={s with heap:=G}) hKG hok (by lia) λY hY=>q Y λi j C hi hj hc=>wR (s:={s with heap:=G}) hKG hok hY i j C (by lia) (by lia) hc
variable{T:String}{o:Obj}{l:Addr}
theorem wU{Q:List Value->Shared->Prop}(ho:s.heap.get? l=some o)(hc:o.cls= .type T)(hT:T="list"\/T="tuple")(hd:o.data= .seq vs.toArray n)
  (h:Q vs {s with heap:=(s.heap.push (seqObj "list" #[] 0)).update s.heap.objs.size (Obj.mapSeq (· ++vs.toArray))})(hsz:vs.length<=sizeLine):wpAny (model prog w) A (collect (.ref l)) Q E s:=by
 have e0:(s.heap.push (seqObj "list" #[] 0)).get? s.heap.objs.size=some (seqObj "list" #[] 0):=Gaw _ rfl;have el:=Gaf (seqObj "list" #[] 0) ho;have up:(#[]++vs.toArray:Array Value)=vs.toArray:=by simp
 have ek:((s.heap.push (seqObj "list" #[] 0)).update s.heap.objs.size (Obj.mapSeq (· ++vs.toArray))).get? s.heap.objs.size=some (seqObj "list" (#[]++vs.toArray) _):=get?_update_seq e0 _;rw[up] at ek;refine gather λR r=> ?_;have c:(Builtin.List.listSameRef (.ref s.heap.objs.size) (.ref l)||Value.type T== .type "list"||Value.type T== .type "tuple")=true:=by rcases hT with rfl|rfl<;>rw[GaR,GaR]<;>simp
 exact Gaa (GdM ⟨o,el,hc⟩ (wpAny_ite_true (by rw[c];rfl) (Gaa (listItems_at el hd (Gaa (listItems_at e0 rfl (GbZ (by simp) (Gaa (listUpdate_at e0 rfl (Gac (r _ vs.toArray _ ek h)) (Gba _) (by rw[up,Gar];lia))))))))))
theorem EO{Q:Value->Shared->Prop}(ho:s.heap.get? l=some o)(hc:o.cls= .type T)(hT:T="list"\/T="tuple")(hd:o.data= .seq vs.toArray n)(yP:vs.length<64)(hK:Paired (j8 s.heap) ds vs)(hok:keysOk ds=true)
  (h:∀p:Array Nat,Ord vs.length p->Up (rank (ds.map code)) p vs.length->Q (.ref (s.heap.objs.size+1)) {s with heap:=sortedAll s.heap vs (List.toArray (p.toList.map λi=>vs.getD i Value.none))}):wpAny (model prog w) A (call (.builtin "sorted") [.ref l]) Q E s:=by
 have szl:vs.length<=sizeLine:=by rw[Gbw];lia
 refine Calls.call_function_entry kind_sorted plain_sorted entry_sorted (args_sorted1 _) ?_;unfold Builtin.«sorted»;refine Gaa (m:=checkCount "sorted" 1 1 _) (Gac (Gaa (wU ho hc hT hd ?_ szl)));refine Gaa (wpAny_newList ?_ szl);generalize hG:(s.heap.push (seqObj "list" #[] 0)).update s.heap.objs.size (Obj.mapSeq (· ++vs.toArray))=G;have hsz:G.objs.size=s.heap.objs.size+1:=by rw[<-hG,Heap.size_update,size_push']
 have yK:(G.push (seqObj "list" vs.toArray 0)).get? (s.heap.objs.size+1)=some (seqObj "list" vs.toArray 0):=by rw[<-hsz];exact Gaw _ rfl
 have keep:∀b o,s.heap.get? b=some o->(G.push (seqObj "list" vs.toArray 0)).get? b=some o:=λb o e=>by
  have eU:=Gav e;refine Gaf _ ?_;rw[<-hG,Heap.get?_update_ne _ _ _ _ (GaJ eU)];exact Gaf _ e
 have hKG:Paired (j8 (G.push (seqObj "list" vs.toArray 0))) ds vs:=by
  exact jM (λ_ _ p=>p.keep keep) hK
 show wpAny _ _ _ _ _ {s with heap:=G.push (seqObj "list" vs.toArray 0)};rw[hsz];refine Gaa (GbK (Gbb slot_list_sort ⟨_,yK,rfl⟩ entry_list_sort (uT (s:={s with heap:=G.push (seqObj "list" vs.toArray 0)}) yK yP hKG hok λp h1 h2=> ⟨_,rfl, ?_⟩) (args_list_sort _)));have:=h p h1 h2;unfold sortedAll at this;rw[hG] at this;exact Gac ⟨_,rfl,this⟩
end
section
variable{X:Cx}
variable{u:Value}{v:V}{d:D}{H:Hp}
theorem Pk{K:ao}{F:Addr->Prop}(r:Rep K F H d v)(hf:kR d=true)(ru:RelV v u):FlV d u:=by
 cases r<;>simp[kR,tyD] at hf
 .cases ru;rfl
 .exact ru
 .exact ru
theorem Hn{K:ao}{F:Addr->Prop}{H:Hp}:∀{ds:List D} {vs:List V} {us:List Value},aI K F H ds vs->ds.all kR=true->Vals vs us->Paired FlV ds us
 |[],vs,us,r,_,ru=>by
  have:=r.cf;subst this;cases ru;exact .nil
 |d::ds,vs,us,r,hf,ru=>by
  obtain⟨v,w,rfl,h1,h2⟩:=r.cons_inv;rw[GbQ,Gas] at hf;cases ru with
  |cons r1 r2=>exact .cons (Pk h1 hf.1 r1) (Hn h2 hf.2 r2)
noncomputable def isKey(d:D):Bool:=match d with
 | .int _=>true
 | .tup fs=>fs.all kR
 |_=>false
theorem j5{e8:List (Addr×Obj)}{Z:St}{F:Addr->Prop}{s:Shared}(I:Inv X e8 Z H s)(r:Rep X.K F H d v)(hk:isKey d=true)(ru:RelV v u):j8 s.heap d u:=by
 cases r<;>simp[isKey] at hk
 .exact ru
 .rename_i a vs fs h l r;cases ru;obtain⟨its,rv,⟨o,h1,h2,n,h3⟩,_⟩:=I.tuple (SqT.of h);exact⟨a,o,n,its,rfl,h1,h2,h3,Hn ⟨l,r⟩ (Gao.mpr hk) rv⟩
theorem uU{e8:List (Addr×Obj)}{Z:St}{F:Addr->Prop}{H:Hp}{s:Shared}(I:Inv X e8 Z H s):∀{ds:List D} {vs:List V} {us:List Value},aI X.K F H ds vs->ds.all isKey=true->Vals vs us->Paired (j8 s.heap) ds us
 |[],vs,us,r,_,ru=>by
  have:=r.cf;subst this;cases ru;exact .nil
 |d::ds,vs,us,r,hf,ru=>by
  obtain⟨v,w,rfl,h1,h2⟩:=r.cons_inv;rw[GbQ,Gas] at hf;cases ru with
  |cons r1 r2=>exact .cons (j5 I h1 hf.1 r1) (uU I h2 hf.2 r2)
variable{ds:List D}
theorem wV(h:keysOk ds=true):ds.all isKey=true:=by
 unfold keysOk at h;rw[GaR,Gas,GaR] at h;refine Gao.mpr λd hd=> ?_;have tup:∀t,t≠3->ds.all (kS t)=true->isKey d=true:=λt ht hk=>by
  obtain⟨f,r,rfl,_,q1⟩:=kx ht (Gao.mp hk d hd);exact q1
 rcases h with h| ⟨h|h,_⟩
 .obtain⟨i,rfl⟩:=iL (Gao.mp h d hd);rfl
 .exact tup 1 (by decide) h
 .exact tup 2 (by decide) h
theorem range_getD{α:Type}{xs:List α}{d:α}:(List.range xs.length).map (λi=>xs.getD i d)=xs:=by
 apply Gdc
 .simp
 .intro i h1 h2;simp[h2]
variable{p:Array Nat}
theorem iM{α:Type}{xs:List α}{d:α}(h:Ord xs.length p):(p.toList.map λi=>xs.getD i d).Perm xs:=by
 have:=GdC (λi=>xs.getD i d) h;rw[range_getD] at this;exact this
theorem Ho{n:Nat}(h:Ord n p){i:Nat}(hi:i<p.toList.length):p.toList[i]<n:=GaV.mp (h.mem_iff.mp (GaF hi))
theorem qy(h:Ord ds.length p)(hu:Up (rank (ds.map code)) p ds.length):gR (p.toList.map λi=>ds.getD i .non):=by
 refine Gdh.mpr λi j hi hj yk=> ?_;rw[Gad] at hi hj;rw[Gcf,Gcf];have bi:=Ho h hi;have bj:=Ho h hj;have hs:=h.size;have eZ :i<p.size:=by simpa using hi
 have hj' :j<p.size:=by simpa using hj
 have u:=hu i j (GcS yk) (by lia);unfold bO at u;have ei:p.getD i 0=p.toList[i]:=by simp[Array.getD,eZ]
 have ej:p.getD j 0=p.toList[j]:=by simp[Array.getD,hj']
 rw[ei,ej] at u;have r:=CZ (cs:=ds.map code) (i:=p.toList[j]) (j:=p.toList[i]) (by simpa using bj) (by simpa using bi);rw[Gau (Gda.mpr u)] at r;simp only[Gcf] at r;have gd:∀{k:Nat} (hk:k<ds.length),ds.getD k .non=ds[k]:=λ{k} hk=>by simp[hk]
 have gi:=gd bi;have gj:=gd bj;rw[gi,gj];exact r.symm
variable{vs:List V}
theorem wW{K:ao}{F:Addr->Prop}(h:Ord ds.length p)(r:aI K F H ds vs):aI K F H (p.toList.map λi=>ds.getD i .non) (p.toList.map λi=>vs.getD i .non):=by
 refine⟨by simp,λi d v e1 e2=> ?_⟩;rw[Gam] at e1 e2;cases q:p.toList[i]? with
 |none=>rw[q] at e1;cases e1
 |some k=>
  rw[q] at e1 e2;have hk:k<ds.length:=GaV.mp (h.mem_iff.mp (GaD q));have xD:k<vs.length:=by rw[<-r.1];exact hk
  cases e1;cases e2
  exact r.2 k _ _ (by simp[hk]) (by simp[xD])
theorem wX{us:List Value}(h:Ord vs.length p)(r:Vals vs us):Vals (p.toList.map λi=>vs.getD i .non) (p.toList.map λi=>us.getD i Value.none):=by
 have hl:=r.length;have all:∀(l:List Nat),(∀i∈l,i<vs.length)->Vals (l.map λi=>vs.getD i .non) (l.map λi=>us.getD i Value.none):=by
  intro l;induction l with
  |nil=>intro _;exact .nil
  |cons i l ih=>
   intro hm;have hi:=hm i Gak;obtain⟨u,hu,ru⟩:=r.get (x:=vs[i]) (i:=i) (by simp[hi]);refine .cons ?_ (ih λj hj=>hm j (Gag _ hj));have e1:vs.getD i .non=vs[i]:=by simp[hi]
   have e2:us.getD i Value.none=u:=by simp[hu]
   show RelV (vs.getD i .non) (us.getD i Value.none);rw[e1,e2];exact ru
 exact all _ λi hi=>GaV.mp (h.mem_iff.mp hi)
def Dj(K:ao):List V->Hp->VK->Prop:=λxs H Q=>∃(p:Addr) (ds:List D) (vs:List V) (F:Addr->Prop),xs=[.ref p]/\(SqL K H p vs\/SqT K H p vs)/\aI K F H ds vs/\ds.length<64/\keysOk ds=true/\
 ∀l out,H l=none->(∀F',aI K F' H ds vs->aI K F' H (bY ds) out)->Q (.ref l) (upd H l (.lst out))
theorem oM:fq X (.builtin "sorted") (Dj X.K):=by
 intro e8 s Z H xs us Q I rv h;obtain⟨p,ds,vs,F,rfl,hq,hr,yP,hok,q⟩:=h;obtain⟨u,rfl,ru⟩:=rv.one;cases ru;obtain⟨o,T,n,its,ho,hc,hT,hd,xi⟩:∃(o:Obj) (T:String) (n:Nat) (its:List Value),s.heap.get? p=some o/\o.cls= .type T/\(T="list"\/T="tuple")/\o.data= .seq its.toArray n/\Vals vs its:=by
  rcases hq with hq|hq
  .obtain⟨its,xi,pl,_⟩:=I.list hq;obtain⟨o,h1,h2,n,h3⟩:=pl.isList;exact⟨o,"list",n,its,h1,h2,.inl rfl,h3,xi⟩
  .obtain⟨its,xi,⟨o,h1,h2,n,h3⟩,_⟩:=I.tuple hq;exact⟨o,"tuple",n,its,h1,h2,.inr rfl,h3,xi⟩
 have e1:its.length=ds.length:=by rw[<-xi.length,hr.1]
 have hK:=uU I hr (wV hok) xi;refine EO ho hc hT hd (by lia) hK hok λod h1 h2=> ?_;have xV :Ord ds.length od:=by rw[<-e1];exact h1
 have Rr :Up (rank (ds.map code)) od ds.length:=by rw[<-e1];exact h2
 have uniq:(od.toList.map λi=>ds.getD i .non)=bY ds:=i8 ((iM xV).trans (bS ds).symm) (qy xV Rr) (dW ds) λa ha b hb=>wQ hok a ((iM xV).mem_iff.mp ha) b ((iM xV).mem_iff.mp hb);obtain⟨c,xJ⟩:=sortedAll_at s.heap its (List.toArray (od.toList.map λi=>its.getD i Value.none));have fresh:H (s.heap.objs.size+1)=none:=I.hok.fresh (GbU _);have h1v:Ord vs.length od:=by rw[<-hr.1];exact xV
 refine⟨.ref (s.heap.objs.size+1),_,I.laid (a:=s.heap.objs.size+1) (o:= .lst (od.toList.map λi=>vs.getD i .non)) (t' :=s.toks) (λb ob e=>sortedAll_old e) (GbU _) ?_,rfl,q _ _ fresh λF' r=> ?_⟩
 .refine⟨?_,_,c,wX h1v xi,xJ⟩;rw[Gad,GaO,h1v.size,<-hr.1,Gbw];lia
 .rw[<-uniq];exact wW xV r
theorem mO:CallD X sortedS (Dj X.K):=by
 intro F H ds vs rv Q ps e k;obtain⟨d,xs,rfl,h1,h2⟩:=Hb e;split at h2
 .rename_i c;rw[Gas] at c;cases h2;obtain⟨v,rfl,i⟩:=dX ps;obtain⟨p,vs,rfl,hs,r⟩:=BJ i h1;exact⟨p,xs,vs,F,rfl,hs,r,Gaq c.1,c.2,λl out hl hr=>k _ _ (aU hl) ⟨l,rfl,hl,qi,rfl,fu hl (hr F r)⟩⟩
 .cases h2
end
section
variable{X:Cx}{e a b c:Expr}{f g h:DE}{pos:Pos}
theorem _root_.L2.Inv.qz{e8:List (Addr×Obj)}{Z:St}{H:Hp}{s s' :Shared}{ch:List Addr}{T:Addr}{o:HO}(I:Inv X e8 Z H s)(hf:∀b∈ch,lA X e8 H b)(ye:s'.os=s.os)(hg:s'.gens=s.gens)
  (k:∀b u,b∉ch->s.heap.get? b=some u->s'.heap.get? b=some u)(hT:s.heap.objs.size<=T)(new:bQ X.prog X.w (upd H T o) s'.heap T o):Inv X e8 Z (upd H T o) s' :=by
 have hn:H T=none:=I.hok.fresh hT;have ne:∀{b u},H b=some u->b≠T:=λ{b u} q=>cO q hn;refine I.L3 (ch:=ch) ye ⟨λb ob q _ _ hx=>k b ob hx q,λb ob q _ _ hx=> ⟨ob.slots,k b ob hx q⟩,λb ob q n _=> ?_,λb ob q hx=> ⟨ob,k b ob hx q⟩,λb xs q=> ?_,λb ob u q=> ?_,λb ps q=> ⟨#[], ?_⟩⟩ ?_ (by rw[hg];exact I.bare) λb hb=> ⟨(hf b hb).2.2.2.1,(hf b hb).2.1,(hf b hb).2.2.2.2.1,(hf b hb).2.2.2.2.2⟩
 .rw[ag (GaJ (GaH (Gav q) hT))];exact n
 .rw[ag (ne q)];exact q
 .rw[ag (ne q)];exact q
 .rw[ag (ne q),q];simp
 .intro b u q;by_cases hb:b=T
  .subst hb;rw[ay] at q;cases q;exact new
  .rw[ag hb] at q;have tr:∀{c v},H c=some v->c∉ch:=λ{c v} z hc=>by rw[(hf c hc).1] at z;cases z
   refine(I.hok b u q).de (λc v hc z=>k c v ?_ z) (λc z=>by rw[ag (ne z)];exact z) λc xs z=>by rw[ag (ne z)];exact z
   rcases hc with hc|hc
   .rw[hc];exact tr q
   .exact tr hc
noncomputable def Ite(K:ao)(l:Addr):It:=
 ⟨λi H=>∃xs x,SqL K H l xs/\xs[i]? =some x,λi H x H' =>∃p y,H p=none/\x= .ref p/\H' =upd H p (.tup [.int i,y])/\∀xs,SqL K H l xs->xs[i]? =some y,λi H=>∃xs,SqL K H l xs/\xs.length<=i⟩
variable{tp:Pos}{elts:List Expr}{w:World}{P:Program}
theorem ER{K:ao}{x1}(en it l:Addr)(xy:en≠it):Turn P w K (.Tuple elts x1 tp) (Ite K l) [en,it] en (λi h=>(∃old,IsEnum h en it i old)/\h.IsListIter it l i) where
 mem:=by simp
 obj:=λi h st b hb=>by
  obtain⟨⟨old,he⟩,o,e,c,d⟩:=st;rcases GaB.mp hb with z|z
  .subst z;exact⟨_,he,λv z=>by
    have z' :Data.fields _=Data.cell v:=z;cases z'⟩
  .have z' :b=it:=by simpa using z
   subst z';exact⟨o,e,λv z=>by rw[d] at z;cases z⟩
 keep:=λi h h' st k=> ⟨let⟨old,he⟩:=st.1;⟨old,k en (by simp) _ he⟩,st.2.at λo e=>k it (by simp) o e⟩
 item:=by
  intro X hP hw hK hc i e8 s Z H E I hf st hg;subst hP hw hK;obtain⟨⟨old,he⟩,hit⟩:=st;obtain⟨xs,x,hq,hx⟩:=hg;obtain⟨its,rv,p,hz⟩:=I.list hq;obtain⟨u,hu,ru⟩:=rv.get hx;refine wpAny_pyNext_enum_item he hit p.isList (x:=u) (by simpa using hu) xy λh' ho xE hT hsz kk=> ⟨_,rfl, ?_⟩;refine wpAny_letOwnedTupleGo_enum (s:={s with heap:=h',toks:=s.toks+1}) ho λh2 zS sb=> ?_;have hltE:en<s.heap.objs.size:=Gav he;have kept:∀b o,b∉[en,it]->s.heap.get? b=some o->h2.get? b=some o:=λb o hb e=>by
   have b1:b≠en:=λz=>hb (by simp[z]);have b2:b≠it:=λz=>hb (by simp[z]);exact(sb.2 b b1).trans (kk b o b1 b2 e)
  have zX:h2.get? s.heap.objs.size=some {cls:= .type "tuple",data:= .seq #[.int i s.toks,u]}:=(sb.2 _ (GbW hltE)).trans hT;have I1:Inv X e8 Z (upd H s.heap.objs.size (.tup [.int i,x])) {s with heap:=h2,toks:=s.toks+1}:=I.qz (ch:=[en,it]) hf rfl rfl kept (Gap _) (by
   refine⟨by simp[Gbw],[.int i s.toks,u],.cons ⟨_,rfl⟩ (.cons ru .nil),_,zX,rfl,0,rfl⟩)
  refine⟨.ref s.heap.objs.size,_,I1,rfl,⟨_,x,I.fresh,rfl,rfl,λys hy=>by rw[I.vU hy hq];exact hx⟩,⟨⟨u,by simpa using zS⟩,xE.at λo e=>(sb.2 it (Ne.symm xy)).trans e⟩,λb hb=> ?_⟩;obtain⟨o,ob,_⟩:∃o,s.heap.get? b=some o/\True:=by
   rcases GaB.mp hb with z|z
   .subst z;exact⟨_,he,trivial⟩
   .have z' :b=it:=by simpa using z
    subst z';obtain⟨o,e,_⟩:=hit;exact⟨o,e,trivial⟩
  rw[ag (GaJ (Gav ob))];exact(hf b hb).1
 done:=by
  intro X hP hw hK hc i e8 s Z H E I hf st hg;subst hP hw hK;obtain⟨⟨old,he⟩,hit⟩:=st;obtain⟨xs,hq,hx⟩:=hg;obtain⟨its,rv,p,hz⟩:=I.list hq;obtain⟨f0,f1,f2,f3,f4,f5⟩:=hf it (by simp);have hl:=rv.length;exact wpAny_pyNext_enum_end (I.ok.hd hc) he hit p.isList (by simp;lia) λh' eb=> ⟨rfl,I.turned (t' :=s.toks) (λb o hb e=>eb b o hb e) f0 f1 f3 f4 f5⟩
 self:=λ_ _ _ _ _ st h=>let⟨old,he⟩:=st.1;Gdt he h
variable{z:Shared}{A:Around}{prog:Program}
theorem qA{E:Value->Shared->Prop}{it t:Addr}{i:Nat}{its:Array Value}{Q:Value->Shared->Prop}(hh:A.handled=none)(hit:z.heap.IsTupleIter it t i)(ht:z.heap.IsTuple t its)
  (hQ:∀x h',its[i]? =some x->h'.IsTupleIter it t (i+1)->Heap.SameBut it z.heap h' ->Q x {z with heap:=h' })
  (hE:∀h' e,its[i]? =none->Heap.ExtBut it z.heap h' ->(∃o,h'.get? e=some o/\o.cls= .type "StopIteration")->E (.ref e) {z with heap:=h' }):wpAny (model prog w) A (Builtin.SmallTypes.nextOf (.ref it)) Q E z:=by
 have f:FO z.heap it _ _:=hit;obtain⟨ol,U2,_,nl,Ue⟩:=ht
 wp_walk using Gbt f.ty F.slot_tuple_iterator_next,Gbb F.slot_tuple_iterator_next f.ty F.entry_tuple_iterator_next (ha:=F.args_tuple_iterator_next_1 _),j7 (i:=0) (x:= .ref t) f rfl,j7 (i:=1) (x:= .int i 0) f rfl,Gcu U2 Ue
 rw[show its[(i:Int).toNat]? =its[i]? by simp];cases h:its[i]? with
 |some x=>
  wp_walk using dY f
  .exactλh' k=>Gac ⟨_,rfl,Gac (hQ x h' h k.1 k.2)⟩
  .show _<2;decide
 |none=>
  wp_walk using dY f
  .exactλh1 k=>Hk hh λh' a q=>hE h' a h (λb o n e=>q.1 b o (k.2.extBut b o n e)) q.2
  .show _<2;decide
theorem ES(hh:A.handled=none)(it l:Addr)(xy:l≠it)(its:Array Value):Draws prog w A it [it,l] its.size (λi v=>its[i]? =some v) (λi h=>h.IsTupleIter it l i/\h.IsTuple l its) where
 live:=λ_ _ st=>let⟨o,ho,_⟩:=st.1;⟨o,ho⟩
 frame:=λ_ _ _ st hk=> ⟨st.1.at λo e=>hk it (by simp) o e,let⟨o,ho,r⟩:=st.2;⟨o,hk l (by simp) _ ho,r⟩⟩
 item:=λi z Q E hi st hQ=>qA hh st.1 st.2 (λx h' hx xE xO =>hQ x h' z.toks hx ⟨xE,let⟨o,ho,r⟩:=st.2;⟨o,xO.extBut _ _ xy ho,r⟩⟩ xO) λ_ _ q=>absurd hi (by simpa using q)
 done:=λz Q E st hE=>qA hh st.1 st.2 (λ_ _ q=>absurd (Gbf.mp q).1 (Gbx _)) λh' e _=>hE h' e
noncomputable def Pl(K:ao)(l:Addr):It:=
 ⟨λi H=>∃xs x,SqT K H l xs/\xs[i]? =some x,λi H x H' =>∃p y,H p=none/\x= .ref p/\H' =upd H p (.tup [.int i,y])/\∀xs,SqT K H l xs->xs[i]? =some y,λi H=>∃xs,SqT K H l xs/\xs.length<=i⟩
theorem BN{K:ao}{x1}(en it l:Addr)(xy:en≠it)(hle:l≠en)(U7:l≠it):Turn P w K (.Tuple elts x1 tp) (Pl K l) [en,it] en (λi h=>(∃old,IsEnum h en it i old)/\h.IsTupleIter it l i) where
 mem:=by simp
 obj:=λi h st b hb=>by
  obtain⟨⟨old,he⟩,o,e,c,d⟩:=st;rcases GaB.mp hb with z|z
  .subst z;exact⟨_,he,λv z=>by
    have z' :Data.fields _=Data.cell v:=z;cases z'⟩
  .have z' :b=it:=by simpa using z
   subst z';exact⟨o,e,λv z=>by rw[d] at z;cases z⟩
 keep:=λi h h' st k=> ⟨let⟨old,he⟩:=st.1;⟨old,k en (by simp) _ he⟩,st.2.at λo e=>k it (by simp) o e⟩
 item:=by
  intro X hP hw hK hc i e8 s Z H E I hf st hg;subst hP hw hK;obtain⟨⟨old,he⟩,hit⟩:=st;obtain⟨xs,x,hq,hx⟩:=hg;obtain⟨its,rv,p,hz⟩:=I.tuple hq;obtain⟨u,hu,ru⟩:=rv.get hx;have hi:i<its.toArray.size:=by
   have:=(Gal.mp hu).1
   simpa using this
  refine wpAny_pyNext_enum_itemD (ES (A:=X.A.in1) (I.ok.hd hc) it l U7 its.toArray) he ⟨hit,p⟩ hi xy (by simp[xy,Ne.symm hle]) λu' h' tk SG ho xE hT hsz kk=> ⟨_,rfl, ?_⟩;have hit1:=xE.1;have eu:u' =u:=by
   have zJ:its.toArray[i]? =some u:=by simpa using hu
   rw[zJ] at SG;cases SG;rfl
  subst eu;refine wpAny_letOwnedTupleGo_enum (s:={s with heap:=h',toks:=tk+1}) ho λh2 zS sb=> ?_;have hltE:en<s.heap.objs.size:=Gav he;have kept:∀b o,b∉[en,it]->s.heap.get? b=some o->h2.get? b=some o:=λb o hb e=>by
   have b1:b≠en:=λz=>hb (by simp[z]);have b2:b≠it:=λz=>hb (by simp[z]);exact(sb.2 b b1).trans (kk b o b1 b2 e)
  have zX:h2.get? s.heap.objs.size=some {cls:= .type "tuple",data:= .seq #[.int i tk,u']}:=(sb.2 _ (GbW hltE)).trans hT;have I1:Inv X e8 Z (upd H s.heap.objs.size (.tup [.int i,x])) {s with heap:=h2,toks:=tk+1}:=I.qz (ch:=[en,it]) hf rfl rfl kept (Gap _) (by
   refine⟨by simp[Gbw],[.int i tk,u'],.cons ⟨_,rfl⟩ (.cons ru .nil),_,zX,rfl,0,rfl⟩)
  refine⟨.ref s.heap.objs.size,_,I1,rfl,⟨_,x,I.fresh,rfl,rfl,λys hy=>by rw[I.sL hy hq];exact hx⟩,⟨⟨u',by simpa using zS⟩,hit1.at λo e=>(sb.2 it (Ne.symm xy)).trans e⟩,λb hb=> ?_⟩;obtain⟨o,ob,_⟩:∃o,s.heap.get? b=some o/\True:=by
   rcases GaB.mp hb with z|z
   .subst z;exact⟨_,he,trivial⟩
   .have z' :b=it:=by simpa using z
    subst z';obtain⟨o,e,_⟩:=hit;exact⟨o,e,trivial⟩
  rw[ag (GaJ (Gav ob))];exact(hf b hb).1
 done:=by
  intro X hP hw hK hc i e8 s Z H E I hf st hg;subst hP hw hK;obtain⟨⟨old,he⟩,hit⟩:=st;obtain⟨xs,hq,hx⟩:=hg;obtain⟨its,rv,p,hz⟩:=I.tuple hq;obtain⟨f0,f1,f2,f3,f4,f5⟩:=hf it (by simp);have hl:=rv.length;have fe:FO s.heap en "enumerate" _:=⟨_,he,rfl,rfl⟩
  have pt:s.heap.IsTuple l its.toArray:=p
  wp_walk using Gbt fe.ty F.slot_enumerate_next,Gbb F.slot_enumerate_next fe.ty F.entry_enumerate_next (ha:=F.args_enumerate_next_1 _),j7 (i:=2) (x:= .ref it) fe rfl,qA (A:=X.A.in1) (I.ok.hd hc) hit pt
  .exactλx h' q=>absurd (Gbf.mp q).1 (by simp;lia)
  .exactλh' e _ eb q=>Gaa (uQ q (Gac ⟨rfl,I.turned (t' :=s.toks) (λb o hb e=>eb b o hb e) f0 f1 f3 f4 f5⟩))
 self:=λ_ _ _ _ _ st h=>let⟨old,he⟩:=st.1;Gdt he h
theorem Hq{E:Value->Shared->Prop}{b:Bool}{Q:Bool->Shared->Prop}(h:∀b,Q b z):wpAny (model prog w) A (pure b) Q E z:=Gac (h b)
theorem wY(l:Addr)(items:Array Value):
  Meets (Builtin.«enumerate.__new__» ⟨[.type "enumerate",.ref l],[]⟩) (λ_ R s=>s.heap.IsTuple l items/\
   R (.ok (.ret (.ref (s.heap.objs.size+1)))) {s with heap:=(s.heap.push {cls:= .type "tuple_iterator",data:= .fields #[.ref l,.int 0 0]}).push {cls:= .type "enumerate",data:= .fields #[.none,.bool false,.ref s.heap.objs.size,rawInt 0,.none,.none]}}):=by
 apply Meets.of_wp;rintro prog w A R s ⟨hl,h⟩;have sub:=sub_enumerate
 wp_walk using Gdn hl,wpAny_stack_any
 intro st;refine Hq λshort=> ?_;have sz:(s.heap.push {cls:= .type "tuple_iterator",data:= .fields #[.ref l,.int 0 0]}).objs.size=s.heap.objs.size+1:=Gce ..;rw[<-sz] at h;cases short<;>wp_walk using Gdn hl<;>exact⟨_,rfl,h⟩
theorem BO{E:Value->Shared->Prop}{l:Addr}{items:Array Value}{Q:Value->Shared->Prop}(hL:z.heap.IsTuple l items)
  (h:∀h',IsEnum h' (z.heap.objs.size+1) z.heap.objs.size 0 .none->h'.IsTupleIter z.heap.objs.size l 0->(∀b o,z.heap.get? b=some o->h'.get? b=some o)->Q (.ref (z.heap.objs.size+1)) {z with heap:=h' }):
  wpAny (model prog w) A (call (.type "enumerate") [.ref l]) Q E z:=by
 have sz:(z.heap.push {cls:= .type "tuple_iterator",data:= .fields #[.ref l,.int 0 0]}).objs.size=z.heap.objs.size+1:=Gce ..;have en:IsEnum ((z.heap.push {cls:= .type "tuple_iterator",data:= .fields #[.ref l,.int 0 0]}).push {cls:= .type "enumerate",data:= .fields #[.none,.bool false,.ref z.heap.objs.size,rawInt 0,.none,.none]}) (z.heap.objs.size+1) z.heap.objs.size 0 .none:=sz▸Gaw _ rfl;exact callType_new F.called_enumerate (by decide) (F.typeCall_enumerate_1 _) (F.newCall_enumerate_1 _) (λ_=>F.args_object_init_2 _ _) F.entry_enumerate_new (wY l items) ⟨hL,⟨_,en,rfl⟩,h _ en ⟨_,Gaf _ (Gaw _ rfl),rfl,rfl⟩ λb o q=>Gaf _ (Gaf _ q)⟩
def Pn(K:ao)(tl:TA):TI:=λZ H R=>tl Z H λvs H1=>∃l,vs=[.ref l]/\(((∃xs,SqL K H1 l xs)/\R (Ite K l) H1)\/((∃xs,SqT K H1 l xs)/\R (Pl K l) H1))
variable{p:Pos}
theorem JW{x1}{ta:TA}(hg:Gl X "enumerate")(hm:X.mg "enumerate"=none)(ha:PA X [a] ta)(hs:starEach [a] X.env=[(false,eval a X.env)]:=by rfl):PI X (.Tuple elts x1 tp) (.Call (.Name "enumerate" p) [a] [] pos) (Pn X.K ta):=by
 intro e8 s Z H R I h;refine Call_ (ly I hg hm uM (Gci (thn (ha pos e8 s Z H _ I h) λus s1 ⟨vs,H1,I1,r1,q1⟩=> ?_) hs rfl));obtain⟨l,e,q1⟩:=q1;subst e;cases r1 with
 |cons r rr=>
  cases rr;cases r;have Td:∀b∈[s1.heap.objs.size+1,s1.heap.objs.size],lA X e8 H1 b:=λb hb=>by
   rcases GaB.mp hb with z|z
   .subst z;exact I1.Eg (GbU _) (I1.hok.fresh (GbU _))
   .have z' :b=s1.heap.objs.size:=by simpa using z
    subst z';exact I1.Eg (Gap _) (I1.hok.fresh (Gap _))
  rcases q1 with⟨⟨xs,hq⟩,q⟩| ⟨⟨xs,hq⟩,q⟩
  .obtain⟨its,rv,pl,hz⟩:=I1.list hq;refine call_enumerate_list pl.isList λh' he hit hsz kk=> ?_;refine Gdt (s:={s1 with heap:=h' }) he ?_;exact⟨s1.heap.objs.size+1,[s1.heap.objs.size+1,s1.heap.objs.size],_,_,H1,rfl,I1.kept (t' :=s1.toks) kk,ER _ _ l (Nat.succ_ne_self _),⟨⟨.none,he⟩,hit⟩,Td,q⟩
  .obtain⟨its,rv,pl,hz⟩:=I1.tuple hq;have eU:l<s1.heap.objs.size:=pl.lt;refine BO (show s1.heap.IsTuple l its.toArray from pl) λh' he hit kk=> ?_;refine Gdt (s:={s1 with heap:=h' }) he ?_;exact⟨s1.heap.objs.size+1,[s1.heap.objs.size+1,s1.heap.objs.size],_,_,H1,rfl,I1.kept (t' :=s1.toks) kk,BN _ _ l (Nat.succ_ne_self _) (GaJ (Gcb eU)) (GaJ eU),⟨⟨.none,he⟩,hit⟩,Td,q⟩
theorem JX{x1}(hg:Gl X "enumerate")(hm:X.mg "enumerate"=none)(he:PEd X e f)(hs:starEach [e] X.env=[(false,eval e X.env)]:=by rfl):PId X (.Tuple elts x1 tp) (.Call (.Name "enumerate" p) [e] [] pos) (D0 f):=by
 refine(JW hg hm (d3 he gx hs) hs).aE ?_;rintro Z H R ⟨H0,eD,env,ds,E,hf,k⟩;obtain⟨⟨kd,d⟩,hr,hf⟩:=eA hf;split at hf
 .cases hf
 rename_i hk;split at hf
 .rename_i xs hd;have xb :d= .lst xs:=hd;subst xb;cases hf;refine⟨H0,eD,env,[⟨kd,.lst xs⟩],E,by unfold a7 aa;rw[hr];rfl,λvs H1 s1 Rs=> ?_⟩;cases Rs with
  |cons Rv tl=>
   cases tl;have ii:=Rv.inn;have hno:=D7 E rfl hk Rv;have E1:=E.mono s1;cases ii with
   | @lst la lv _ h r=>
    refine⟨_,rfl,.inl ⟨⟨_,.inl h⟩,k _ H1 s1 λHi keep=> ?_⟩⟩;have hh:Rd Hi la (.lst lv):=by
     rcases h with h| ⟨o,h⟩
     .exact .inl (keep _ _ h (hno _ rfl))
     .exact .inr ⟨o,keep _ _ h (hno _ rfl)⟩
    refine⟨λi d hd=> ?_,⟨_,.inl hh,by rw[iG,r.1];exact Gap _⟩⟩;rw[iH] at hd;obtain⟨y,hy,rfl⟩:=Gan.mp hd;obtain⟨v,h1,h2⟩:=r.get hy;refine⟨⟨_,v,.inl hh,h1⟩,λz H2 ⟨p,w,hp,ez,eH,ew⟩=> ?_⟩;subst ez eH;have:=ew _ (.inl hh);rw[h1] at this;cases this
    refine⟨aU hp, ?_⟩;have rp:=E1.ku keep h2;rw[show(((0+i:Nat)):Int)=(i:Int) by simp];exact dH hp (.cons (.int _) (.cons rp .nil))
 .rename_i xs hd;have xb :d= .tup xs:=hd;subst xb;cases hf;refine⟨H0,eD,env,[⟨kd,.tup xs⟩],E,by unfold a7 aa;rw[hr];rfl,λvs H1 s1 Rs=> ?_⟩;cases Rs with
  |cons Rv tl=>
   cases tl;have ii:=Rv.inn;have E1:=E.mono s1;cases ii with
   | @tup la lv _ h r=>
    refine⟨_,rfl,.inr ⟨⟨_,SqT.of h⟩,k _ H1 s1 λHi keep=> ?_⟩⟩;have hh:Hi la=some (.tup lv):=keep _ _ h λw=>E1.dI w h trivial;refine⟨λi d hd=> ?_,⟨_,SqT.of hh,by rw[iG,r.1];exact Gap _⟩⟩;rw[iH] at hd;obtain⟨y,hy,rfl⟩:=Gan.mp hd;obtain⟨v,h1,h2⟩:=r.get hy;refine⟨⟨_,v,SqT.of hh,h1⟩,λz H2 ⟨p,w,hp,ez,eH,ew⟩=> ?_⟩;subst ez eH;have:=ew _ (SqT.of hh);rw[h1] at this;cases this
    refine⟨aU hp, ?_⟩;have rp:=E1.ku keep h2;rw[show(((0+i:Nat)):Int)=(i:Int) by simp];exact dH hp (.cons (.int _) (.cons rp .nil))
 .cases hf
end
section
variable{X:Cx}{e a b c:Expr}{f g h:DE}{pos:Pos}
def Mn(neg:Bool):R2:=λx y H Q=>∃a o,y= .ref a/\pV H a x o/\Q (.bl (if neg then !o.isSome else o.isSome)) H
theorem ET(hu:X.A.units+1<cLine):OpR X (compareOp .In) (Mn false):=by
 intro e8 s Z H x y v u Q I rx ry h;obtain⟨p,o,rfl,g,q⟩:=h;cases ry;exact QE hu I g rx λs' I' => ⟨.bl o.isSome,H,I',rfl,q⟩
theorem BP(hu:X.A.units+1<cLine):OpR X (compareOp .NotIn) (Mn true):=by
 intro e8 s Z H x y v u Q I rx ry h;obtain⟨p,o,rfl,g,q⟩:=h;cases ry;exact Jq hu I g rx λs' I' => ⟨.bl (!o.isSome),H,I',rfl,q⟩
variable{v:V}{H:Hp}
theorem JY{K:ao}{F:Addr->Prop}(n:Nat){d d' :D}(p:aD n d=true)(q:aD n d' =true)(r:Rep K F H d v)(t:Rep K F H d' v):d=d' :=uL n p q r t
noncomputable def Po:Value->V
 | .bool b=> .bl b
 | .int i _=> .int i
 | .str x _=> .str x
 | .bytes b _=> .byt b
 | .float b _=> .flt b
 | .ref a=> .ref a
 | .type n=> .ty n
 |_=> .non
variable{u:Value}
theorem wZ(h:RelV v u):Po u=v:=by
 cases v<;>first|(obtain⟨t,rfl⟩:=h;rfl)|(have h' :=h;unfold RelV at h';subst h';rfl)
theorem Hr{v' :V}(h:RelV v u)(h' :RelV v' u):v=v' :=(wZ h).symm.trans (wZ h')
def Mo(K:ao)(neg:Bool):R2:=λx y H Q=>∃p xs dx ds,y= .ref p/\(SqL K H p xs\/SqT K H p xs)/\aD 10 dx=true/\ds.all (aD 10)=true/\Rep K (λ_=>True) H dx x/\aI K (λ_=>True) H ds xs/\Q (.bl (if neg then !ds.any (λy=>eqD y dx) else ds.any (λy=>eqD y dx))) H
variable{x:V}{dx:D}
theorem mP{e8:List (Addr×Obj)}{Z:L2.St}{z:Shared}(I:Inv X e8 Z H z)(hu:X.A.units+20<cLine){xs:List V}{its:List Value}{ds:List D}{v:Value}(r:Vals xs its)(hx:aD 10 dx=true)(hs:ds.all (aD 10)=true)
  (rx:Rep X.K (λ_=>True) H dx x)(rs:aI X.K (λ_=>True) H ds xs)(rv:RelV x v):∃ev:Value->Bool,(∀w∈its,SeqAt.EqAt X.A.in1 z w v (ev w))/\its.any ev=ds.any λy=>eqD y dx:=by
 classical
 have hll:=r.length;have tri:∀(i:Nat) (w:Value),its[i]? =some w->∃d u,ds[i]? =some d/\xs[i]? =some u/\RelV u w/\Rep X.K (λ_=>True) H d u/\aD 10 d=true:=λi w hw=>by
  have hi:i<its.length:=(Gal.mp hw).1;have hd:ds[i]? =some (ds[i]'(by rw[rs.1,hll];exact hi)):=Gab _;obtain⟨u,Rj,zJ⟩:=rs.get hd;obtain⟨w',SA,TM⟩:=r.get Rj;rw[hw] at SA;cases SA
  exact⟨_,u,hd,Rj,TM,zJ,Gao.mp hs _ (GaD hd)⟩
 refine⟨λw=>decide (∃(i:Nat) (d:D),its[i]? =some w/\ds[i]? =some d/\eqD d dx=true),λw hw=> ?_, ?_⟩
 .obtain⟨i,hi⟩:=Gcr hw;obtain⟨d,u,h1,h2,h3,h4,h5⟩:=tri i w hi;have key:decide (∃(i:Nat) (d:D),its[i]? =some w/\ds[i]? =some d/\eqD d dx=true)=eqD d dx:=by
   cases q:eqD d dx with
   |true=>exact Gaz ⟨i,d,hi,h1,q⟩
   |false=>
    refine Gau ?_;rintro⟨j,d',g1,g2,g3⟩;obtain⟨d2,u2,k1,k2,k3,k4,k5⟩:=tri j w g1;rw[g2] at k1;cases k1
    have eu:=Hr h3 k3;subst eu;rw[JY 10 h5 k5 h4 k4] at q;rw[q] at g3;cases g3
  show SeqAt.EqAt X.A.in1 z w v (decide _);rw[key];exact qp I 10 h5 hx h4 rx h3 rv (by show X.A.units+1+10<_;lia)
 .rw[Bool.eq_iff_iff,Gcx,Gcx];constructor
  .rintro⟨w,hw,e⟩;obtain⟨i,d,_,h2,h3⟩:=Gaq e;exact⟨d,GaD h2,h3⟩
  .rintro⟨d,hd,e⟩;obtain⟨i,hi⟩:=Gcr hd;have hl:i<its.length:=by rw[<-hll,<-rs.1];exact(Gal.mp hi).1
   exact⟨its[i],GaF hl,Gaz ⟨i,d,Gab hl,hi,e⟩⟩
theorem Mp(hu:X.A.units+20<cLine):OpR X (compareOp .In) (Mo X.K false):=by
 intro e8 z Z H x y v u Q I rx ry h;obtain⟨p,xs,dx,ds,rfl,hq,fx,fs,r1,r2,q⟩:=h;cases ry;rcases hq with hq|hq
 .obtain⟨its,r,pl,hz⟩:=I.list hq;obtain⟨ev,e1,e2⟩:=mP I hu r fx fs r1 r2 rx;refine SeqAt.in_listAt ev pl.isList (λw hw=>e1 w (by simpa using hw)) ⟨.bl _,H,I,rfl, ?_⟩;rw[show its.toArray.any ev=its.any ev by simp,e2];exact q
 .obtain⟨its,r,pl,hz⟩:=I.tuple hq;obtain⟨ev,e1,e2⟩:=mP I hu r fx fs r1 r2 rx;refine SeqAt.in_tupleAt ev pl (λw hw=>e1 w (by simpa using hw)) ⟨.bl _,H,I,rfl, ?_⟩;rw[show its.toArray.any ev=its.any ev by simp,e2];exact q
theorem JZ(hu:X.A.units+20<cLine):OpR X (compareOp .NotIn) (Mo X.K true):=by
 intro e8 z Z H x y v u Q I rx ry h;obtain⟨p,xs,dx,ds,rfl,hq,fx,fs,r1,r2,q⟩:=h;cases ry;rcases hq with hq|hq
 .obtain⟨its,r,pl,hz⟩:=I.list hq;obtain⟨ev,e1,e2⟩:=mP I hu r fx fs r1 r2 rx;refine SeqAt.notIn_listAt ev pl.isList (λw hw=>e1 w (by simpa using hw)) ⟨.bl _,H,I,rfl, ?_⟩;rw[show its.toArray.any ev=its.any ev by simp,e2];exact q
 .obtain⟨its,r,pl,hz⟩:=I.tuple hq;obtain⟨ev,e1,e2⟩:=mP I hu r fx fs r1 r2 rx;refine SeqAt.notIn_tupleAt ev pl (λw hw=>e1 w (by simpa using hw)) ⟨.bl _,H,I,rfl, ?_⟩;rw[show its.toArray.any ev=its.any ev by simp,e2];exact q
def EU(K:ao)(neg:Bool):R2:=λx y H Q=>Mo K neg x y H Q\/Mn neg x y H Q
theorem BQ(hu:X.A.units+20<cLine):OpR X (compareOp .In) (EU X.K false):=(Mp hu).or (ET (by lia))
theorem K0(hu:X.A.units+20<cLine):OpR X (compareOp .NotIn) (EU X.K true):=(JZ hu).or (BP (by lia))
theorem Dk{neg:Bool}{F:Addr->Prop}{dy:D}{y:V}{b:Bool}{Q:VK}(ix:Inn X.K F H dx x)(iy:Inn X.K F H dy y)(e:inB dx dy=some b)(q:Q (.bl (if neg then !b else b)) H):EU X.K neg x y H Q:=by
 have seq:∀{ds:List D} {p:Addr} {vs:List V},y= .ref p->(SqL X.K H p vs\/SqT X.K H p vs)->aI X.K F H ds vs->l4 dx ds=some b->EU X.K neg x y H Q:=λ{ds p vs} ey hs r hb=>by
  unfold l4 at hb;split at hb
  .rename_i c;rw[Gas] at c;cases hb;exact .inl ⟨p,vs,dx,ds,ey,hs,c.1,c.2,ix.any,⟨r.1,λi d v e1 e2=>(r.2 i d v e1 e2).inn.any⟩,q⟩
  .cases hb
 unfold inB at e;split at e
 .obtain⟨k,hk,rfl⟩:=Gan.mp e;obtain⟨g1,g2⟩:=mG iy ix;obtain⟨p,ws,ey,r,g⟩:=g1 _ k rfl hk;refine .inr ⟨p,_,ey,g, ?_⟩;rename_i eC;have:(fF ws k).isSome=(look eC k).isSome:=by
   cases z:look eC k with
   |none=>rw[kq r z];rfl
   |some d=>obtain⟨v,h1,_⟩:=iI r z;rw[h1];rfl
  rw[this];exact q
 .split at e
  .rename_i _ eC _ ks;obtain⟨k,hk,rfl⟩:=Gan.mp e;obtain⟨g1,g2⟩:=mG iy ix;obtain⟨p,ws,ey,r,g⟩:=g2 _ _ k rfl rfl hk;refine .inr ⟨p,_,ey,g, ?_⟩;have:(fF ws k).isSome=(look eC k).isSome:=by
    cases z:look eC k with
    |none=>rw[kq r z];rfl
    |some d=>obtain⟨v,h1,_⟩:=iI r z;rw[h1];rfl
   rw[this];exact q
  .cases e
 .cases iy with
  |lst h r=>exact seq rfl (.inl (.inl h)) r e
 .cases iy with
  |tup h r=>exact seq rfl (.inr (SqT.of h)) r e
 .cases e
theorem BR:OpB X inB (EU X.K false):=λF H dx dy x y b Q ix iy e q=>Dk (neg:=false) ix iy e q
theorem K1:OpB X Bk (EU X.K true):=λF H dx dy x y b Q ix iy e q=>by
 obtain⟨b',e',rfl⟩:=Gan.mp e;exact Dk (neg:=true) ix iy e' q
end
namespace Fr
end Fr
section
variable{X:Cx}{e a b c:Expr}{f g h:DE}{pos:Pos}
theorem EV:CallD X Bl (λxs H Q=>(∃i,xs=[.int i]/\Q (.int i) H)\/∃k,xs=[.bl k]/\Q (.int (if k then 1 else 0)) H):=by
 intro F H ds vs rv Q ps e k;unfold Bl at e;split at e
 .cases e;obtain⟨v,rfl,i⟩:=dX ps;cases i;exact .inl ⟨_,rfl,k _ H bB (.int _)⟩
 .cases e;obtain⟨v,rfl,i⟩:=dX ps;cases i;exact .inr ⟨_,rfl,k _ H bB (.int _)⟩
 .cases e
theorem Hs{xs:List V}{its:List Value}(r:Vals xs its){x:V}{u:Value}(hx:RelV x u)(j:Int):Vals (fG xs j x) (PySem.W.kl_ins its j u):=by
 have hl:=r.length;unfold fG PySem.W.kl_ins;rw[hl];have tk:∀{xs:List V} {its:List Value} (r:Vals xs its) (n:Nat),Vals (xs.take n) (its.take n):=by
  intro xs its r;induction r with
  |nil=>intro n;simp;exact .nil
  |cons h t ih=>intro n;cases n with
   |zero=>exact .nil
   |succ n=>exact .cons h (ih n)
 have dr:∀{xs:List V} {its:List Value} (r:Vals xs its) (n:Nat),Vals (xs.drop n) (its.drop n):=by
  intro xs its r;induction r with
  |nil=>intro n;simp;exact .nil
  |cons h t ih=>intro n;cases n with
   |zero=>exact .cons h t
   |succ n=>exact ih n
 exact(tk r _).append (.cons hx (dr r _))
def K2:V->List V->Hp->VK->Prop:=λx vs H Q=>∃l xs j y,x= .ref l/\vs=[.int j,y]/\H l=some (.lst xs)/\xs.length<sizeLine/\-(2^62)<=j/\j<2^62/\Q .non (upd H l (.lst (fG xs j y)))
theorem EW:MtM X "list.insert" K2:=by
 intro e8 z Z H x vs v us Q I rx rv h;obtain⟨l,xs,j,y,rfl,rfl,hH,hz,h1,h2,q⟩:=h;cases rx;cases rv with
 |cons r1 t1=>
  cases t1 with
  |cons r2 t2=>
   cases t2;obtain⟨t,rfl⟩:=r1;rename_i u;obtain⟨_,its,n,r,hl,e⟩:=I.Jo hH;have hfit:Builtin.List.listFitsIndex j=true:=by simp[Builtin.List.listFitsIndex];lia
   refine call_meets F.slot_list_insert ⟨_,e,rfl⟩ F.entry_list_insert (F.args_list_insert_3 _ _ _) (PySem.AutoSeq1.list_insert_list_int_val_1 l its.toArray n j t u (by simp[hfit]) (by rw[Gar];lia)) ⟨e, ?_⟩;refine⟨.non,_,I.LR (its' :=PySem.W.kl_ins its j u) hH e ?_ (Hs r r2 j) ?_,rfl,q⟩
   .show(its.toArray.extract 0 _).push u++its.toArray.extract _=_;rw[PySem.W.kl_ins_eq];simp only[Gar]
    rfl
   .rw[sY];lia
theorem EX{i:Nat}{x:Str}{px apos eE:Pos}(hN:X.N[i]? =some x)(hv:Vis X.env.scope x)(he:PEd X e f)(ha:PEd X a g)(hd:(x==("__debug__":Str))=false:=by decide)(xu:(x==("__classdict__":Str))=false:=by decide)
  (hX:starEach [e,a] X.env=(false,eval e X.env)::starEach [a] X.env:=by rfl)(xj:starEach [a] X.env=[(false,eval a X.env)]:=by rfl)
  (eW:attributeBase (.Name x px) "insert" X.env (eval (.Name x px) X.env)=eval (.Name x px) X.env:=by rfl)
  (xF:((backTo eE (starEach [e,a] X.env)).all (λx=> !x.1)&&(backToKw eE (keywordEach [] X.env)).all (λx=>x.1.isSome)
   &&decide (([e,a]:List Expr).length+([]:List Keyword).length+(if([]:List Keyword).isEmpty then 0 else 1)<30))=true:=by rfl)
  (eV:(apos.endLine==eE.line)=true:=by rfl)(hs:swapsWith (.Call (.Attribute (.Name x px) "insert" apos) [e,a] [] eE) none pos.line X.env=pure false:=by rfl):
  PSd X (.Expr (.Call (.Attribute (.Name x px) "insert" apos) [e,a] [] eE) pos) (OU i f g):=by
 refine(pB (CP GcE PySem.F.slot_list_insert PySem.F.type_list_insert EW (jw hN hv hd xu) (d3 he (d3 ha gx xj) hX) eW xF eV hX (by rw[xj];rfl)) hs).aE ?_;rintro D Z H ⟨H0,eD,env,o,E,e,k⟩;obtain⟨r,hr,e⟩:=eA e;obtain⟨r2,TY,e⟩:=eA e;obtain⟨d,hd,e⟩:=eA e;have q:=mJ hd;obtain⟨kd,rd⟩:=r;split at e
 .rename_i xs j hj;have hj' :rd= .int j:=hj;split at e
  .rename_i z;rw[Gas,Gas] at z;obtain⟨z1,z2,z3⟩:=z;cases e;subst hj';obtain⟨a,h1,h2,h3,h4,h5,h6⟩:=E.ow i _ (.inl q);obtain⟨vs,hH,rp⟩:=mK h4 h6;refine⟨_,h1,.inl ⟨rfl,vs,.inl (.inl hH)⟩,H0,eD,env,[⟨kd,.int j⟩,r2],E,by unfold a7 aa;rw[hr,TY];rfl,λws H2 s2 Rs=> ?_⟩;cases Rs with
   | @cons _ v _ _ R1 tl=>
    cases tl with
    | @cons _ v2 _ _ R2 tl=>
    cases tl;have i1:=R1.inn;cases i1;have ym:=s2 _ _ hH;have sj:=dJ z3;refine⟨a,vs,j,v2,rfl,rfl,ym,by rw[<-rp.1,<-eM];exact Gaq z2,sj.1,sj.2, ?_⟩;have E2:=E.mono s2;have rep1:=R2.rep E z1;have rp1:aI X.K (Cln eD env Z) H2 xs vs:=rp.gen (.of_same s2) λ_ f _=>f;have rp2:aI X.K (Cln eD env Z) H2 (fG xs j r2.d) (fG vs j v2):=by
     unfold fG;rw[<-rp1.1];exact(rp1.take _).append (.cons rep1 (rp1.drop _))
    obtain⟨E3,p3⟩:=E2.change (d' := .lst (fG xs j r2.d)) (o:= .lst (fG vs j v2)) q h1 trivial rfl (.lst (.inl ay) (rp2.gen (λb o hb w=>by
     have:b≠a:=by
      rintro rfl;rcases w with w|w
      .exact w.2 i (by rw[q];trivial) h1
      .rw[ym] at hb;cases hb;exact w
     rw[ag this];exact hb) λ_ f _=>f))
    exact k Z _ E3 ((Stp.of_same s2).trans p3)
  .cases e
 .cases e
theorem A0{K:ao}{F:Addr->Prop}{H:Hp}{α:Type}{dd:α->D}{vv:α->V}(h:∀n,Rep K F H (dd n) (vv n)):∀{l:List α},aI K F H (l.map dd) (l.map vv)
 |[]=> .nil
 |x::l=> .cons (h x) (A0 h)
end
def Pp(prog:Program)(w:World)(A:Around)(op:CmpOp)(G:Shared->Prop)(P:Nat->Value->Prop)(bt:Nat->Nat->Bool):Prop:=
 ∀i j vi vj (z:Shared) (Q:Value->Shared->Prop) (E:Value->Shared->Prop),G z->P i vi->P j vj->Q (.bool (bt i j)) z->wpAny (model prog w) A (richCompare op vi vj) Q E z
noncomputable def mmO(mx:Bool):CmpOp:=bif mx then .Gt else .Lt
noncomputable def mmN(mx:Bool):String:=bif mx then "max.loop" else "min.loop"
noncomputable def iN:Option Value->Array Value
 |none=>#[]
 |some v=>#[v,v]
section
variable{prog:Program}{w:World}{A:Around}{R:Result->Shared->Prop}{I B:Addr}{kw:List (Str×Value)}{z:Shared}
variable{old:Option Value}
theorem uV{v:Option Value}{Q:Unit->Shared->Prop}{E:Value->Shared->Prop}(e:wO z.heap B (iN old))(h:∀h',wO h' B (iN v)->(∀b o,b≠B->z.heap.get? b=some o->h'.get? b=some o)->Q () {z with heap:=h' }):
  wpAny (model prog w) A (updateSeq B λ_=>iN v) Q E z:=by
 obtain⟨c,e⟩:=e;have l1:(iN old).size<=2:=by cases old<;>simp[iN]
 have l2:(iN v).size<=2:=by cases v<;>simp[iN]
 have:=Gbw;refine wpAny_updateSeq e rfl (h _ ⟨_,GaX _ e rfl⟩ λb o n q=> ?_) (by lia) (by lia);rw[GbO _ _ (Ne.symm n),q]
theorem Dl(mx:Bool)
  (h:wpAny (model prog w) A.in1 (pyNext (.ref I)) (λr s' =>wO s'.heap B (iN old)/\match r,old with
   |none,some v=>∀h',(∀b o,b≠B->s'.heap.get? b=some o->h'.get? b=some o)->R (.ok (.ret v)) {s' with heap:=h' }
   |none,none=>∃k d t,kw=(k,d)::t/\R (.ok (.ret d)) s'
   |some x,some v=>∃bt:Bool,(∀Q E,Q (.bool bt) s' ->wpAny (model prog w) A.in1 (richCompare (mmO mx) x v) Q E s')/\∀h',wO h' B (iN (some (if bt then x else v)))->(∀b o,b≠B->s'.heap.get? b=some o->h'.get? b=some o)->codeAny (model prog w) A (.builtin (mmN mx) ⟨[.ref I,.none,.ref B],kw⟩) R {s' with heap:=h' }
   |some x,none=>∀h',wO h' B (iN (some x))->(∀b o,b≠B->s'.heap.get? b=some o->h'.get? b=some o)->codeAny (model prog w) A (.builtin (mmN mx) ⟨[.ref I,.none,.ref B],kw⟩) R {s' with heap:=h' }) (λ_ _=>False) z)(hB:wO z.heap B (iN old)):
  codeAny (model prog w) A (.builtin (mmN mx) ⟨[.ref I,.none,.ref B],kw⟩) R z:=by
 obtain⟨c,e⟩:=id hB;have quiet:Code.quiet (.builtin (mmN mx) ⟨[.ref I,.none,.ref B],kw⟩)=true:=by cases mx<;>exact GdB (by decide+kernel) _
 cases mx
 all_goals
  first
  |(apply GbX F.entry_min_loop;rw[GbY F.plain_min_loop])
  |(apply GbX F.entry_max_loop;rw[GbY F.plain_max_loop])
  refine Gaa (Gcu e rfl (Gaa (wpAny_tryCatch (Gcg h (λr s' q=> ?_) λ_ _ q=>q.elim))));obtain⟨e',q⟩:=q;rcases r with _|x<;>rcases old with _|v
  .obtain⟨k,d,t,rfl,q⟩:=q;exact Gaa (wpAny_rule (Gac q))
  .exact Gaa (uV (v:=none) e' λh' _ k=>Gaa (wpAny_letGo (Gac (q h' k))))
  .exact Gaa (Gac (Gaa (uV (v:=some x) e' λh' l k=>Gac ⟨quiet,q h' l k⟩)))
  .obtain⟨bt,q1,q2⟩:=q;refine Gaa (Gac (Gaa (wpAny_tryCatch (GbK (Gaa (q1 _ _ (Gaa (GbK (Gco (Gaa (wpAny_letGo (Gac ?_))))))))))));cases bt
   .exact Gaa (wpAny_letGo (Gac ⟨quiet,q2 _ e' λ_ _ _ k=>k⟩))
   .exact Gaa (uV (v:=some x) e' λh' l k=>Gaa (wpAny_letGo (Gac ⟨quiet,q2 h' l k⟩)))
variable{fp wr:List Addr}{n:Nat}{P:Nat->Value->Prop}{St:Nat->Heap->Prop}{G:Shared->Prop}
theorem Dm(mx:Bool)(W:Walks prog w A.in1 I fp wr n P St)(bt:Nat->Nat->Bool)(zV:Pp prog w A.in1 (mmO mx) G P bt)(hf:B∉fp)
  (hG:∀h' tk,(∀b o,b∉wr->b≠B->z.heap.get? b=some o->h'.get? b=some o)->G {z with heap:=h',toks:=tk})
  (hE:n=0->∃k d t,kw=(k,d)::t/\∀h' tk,(∀b o,b∉wr->b≠B->z.heap.get? b=some o->h'.get? b=some o)->R (.ok (.ret d)) {z with heap:=h',toks:=tk})
  (hR:0<n->∀v h' tk,P (argBest bt (n -1)) v->(∀b o,b∉wr->b≠B->z.heap.get? b=some o->h'.get? b=some o)->R (.ok (.ret v)) {z with heap:=h',toks:=tk}):
  ∀(k i:Nat) (old:Option Value) (h:Heap) (tk:Nat),i+k=n->St i h->wO h B (iN old)->(∀b o,b∉wr->b≠B->z.heap.get? b=some o->h.get? b=some o)->(match old with|none=>i=0|some v=>0<i/\P (argBest bt (i -1)) v)->
   codeAny (model prog w) A (.builtin (mmN mx) ⟨[.ref I,.none,.ref B],kw⟩) R {z with heap:=h,toks:=tk}
 |0,i,old,h,tk,hk,st,l,kp,ho=>by
  cases hk;refine Dl mx (W.done {z with heap:=h,toks:=tk} _ _ st λh' yi k=> ⟨let⟨c,e⟩:=l;⟨c,k B _ (λm=>hf (W.sub _ m)) e⟩, ?_⟩) l;have kp' :∀b o,b∉wr->b≠B->z.heap.get? b=some o->h'.get? b=some o:=λb o q1 q2 q=>k b o q1 (kp b o q1 q2 q);cases old with
  |none=>
   obtain⟨a,d,t,q1,q2⟩:=hE ho;exact⟨a,d,t,q1,q2 h' yi kp'⟩
  |some v=>exactλh2 k2=>hR ho.1 v h2 yi ho.2 λb o q1 q2 q=>k2 b o q2 (kp' b o q1 q2 q)
 |k+1,i,old,h,tk,hk,st,l,kp,ho=>by
  refine Dl mx (W.item i {z with heap:=h,toks:=tk} _ _ (by lia) st λx h' yi hP xK k' => ⟨let⟨c,e⟩:=l;⟨c,k' B _ (λm=>hf (W.sub _ m)) e⟩, ?_⟩) l;have kp' :∀b o,b∉wr->b≠B->z.heap.get? b=some o->h'.get? b=some o:=λb o q1 q2 q=>k' b o q1 (kp b o q1 q2 q);have go:∀v h2,wO h2 B (iN (some v))->(∀b o,b≠B->h'.get? b=some o->h2.get? b=some o)->P (argBest bt i) v->codeAny (model prog w) A (.builtin (mmN mx) ⟨[.ref I,.none,.ref B],kw⟩) R {z with heap:=h2,toks:=yi }:=λv h2 l2 k2 hv=>
   Dm mx W bt zV hf hG hE hR k (i+1) (some v) h2 yi (by lia) (W.frame _ _ _ xK λb m o q=>k2 b o (λe=>hf (e▸m)) q) l2 (λb o q1 q2 q=>k2 b o q2 (kp' b o q1 q2 q)) ⟨Gcy _,hv⟩
  cases old with
  |none=>
   cases ho
   exactλh2 l2 k2=>go x h2 l2 k2 hP
  |some v=>
   obtain⟨pos,hv⟩:=ho;obtain⟨j,rfl⟩:∃j,i=j+1:=⟨i -1,by lia⟩
   refine⟨bt (j+1) (argBest bt j),λQ E q=>zV _ _ x v _ Q E (hG h' yi kp') hP hv q,λh2 l2 k2=>go _ h2 l2 k2 ?_⟩;show P (if bt (j+1) (argBest bt j)=true then j+1 else argBest bt j) _;split
   .exact hP
   .exact hv
theorem BS(a d:Value):argsOk "min" ⟨[a],[(Str.ofString "default",d)]⟩:=by unfold argsOk;kernel_rfl
theorem BU(a d:Value):argsOk "max" ⟨[a],[(Str.ofString "default",d)]⟩:=by unfold argsOk;kernel_rfl
noncomputable def mmF(mx:Bool):String:=bif mx then "max" else "min"
abbrev MMs(prog:Program)(w:World)(A:Around)(mx:Bool)(od:Option Value)(Q:Value->Shared->Prop)(it:Value)(s₂:Shared):Prop:=∃I fp wr n P St bt G,it= .ref I/\Walks prog w A.in1 I fp wr n P St/\St 0 s₂.heap/\(∀b∈fp,b<s₂.heap.objs.size)/\Pp prog w A.in1 (mmO mx) G P bt/\
 (∀h' tk,(∀b o,b∉wr->s₂.heap.get? b=some o->h'.get? b=some o)->G {s₂ with heap:=h',toks:=tk})/\(n=0->∃d,od=some d/\∀h' tk,(∀b o,b∉wr->s₂.heap.get? b=some o->h'.get? b=some o)->Q d {s₂ with heap:=h',toks:=tk})/\
 (0<n->∀v h' tk,P (argBest bt (n -1)) v->(∀b o,b∉wr->s₂.heap.get? b=some o->h'.get? b=some o)->Q v {s₂ with heap:=h',toks:=tk})
theorem mQ(mx:Bool)(od:Option Value){E Q:Value->Shared->Prop}{it:Value}{s₂:Shared}(q:MMs prog w A mx od Q it s₂):codeAny (model prog w) A (.builtin (mmN mx) ⟨[it,.none,.ref s₂.heap.objs.size],od.toList.map λd=>(Str.ofString "default",d)⟩) (λr s' =>match r with| .ok (.ret v)=>Q v s' | .ok _=>False| .error e=>E e s') {s₂ with heap:=s₂.heap.push {cls:= .type "list",data:= .seq #[]}}:=by
 obtain⟨I,fp,wr,n,P,St,bt,G,rfl,W,st,lt,hc,hG,h0,hv⟩:=q;have up:∀{h' :Heap},(∀b o,b∉wr->b≠s₂.heap.objs.size->s₂.heap.get? b=some o->h'.get? b=some o)->∀b o,b∉wr->s₂.heap.get? b=some o->h'.get? b=some o:=λk b o q e=>k b o q (GaJ (Gav e)) e;refine Dm (z:=s₂) mx W bt hc (λm=>Gbx _ (lt _ m)) (λh' tk k=>hG h' tk (up k)) (λn0=> ?_) (λp v h' tk hp k=>hv p v h' tk hp (up k)) n 0 none _ s₂.toks (Gbc _) (W.frame _ _ _ st λb _ o e=>Gaf _ e) ⟨0,Gaw _ rfl⟩ (λb o _ _ e=>Gaf _ e) rfl;obtain⟨d,rfl,hd⟩:=h0 n0;exact⟨_,d,_,rfl,λh' tk k=>hd h' tk (up k)⟩
theorem K3(mx:Bool)(od:Option Value){x:Value}{E Q:Value->Shared->Prop}(h:wpAny (model prog w) A.in1 (pyIter x) (MMs prog w A mx od Q) E z):wpAny (model prog w) A (call (.builtin (mmF mx)) [x] (od.toList.map λd=>(Str.ofString "default",d))) Q E z:=by
 have quiet:∀a,Code.quiet (.builtin (mmN mx) a)=true:=λa=>by cases mx<;>exact GdB (by decide+kernel) _
 cases mx<;>cases od
 .exact GcV F.kind_min F.plain_min F.entry_min (F.args_min1 _) (Gaa (Gdg (a:=[none,none]) rfl (Gaa (Gac (Gaa (on h λ_ _ q=>Gaa (Gbd (Gac ⟨quiet _,mQ _ _ q⟩))))))))
 .exact GcV F.kind_min F.plain_min F.entry_min (BS _ _) (Gaa (Gdg (a:=[none,some _]) rfl (Gaa (Gac (Gaa (on h λ_ _ q=>Gaa (Gbd (Gac ⟨quiet _,mQ _ _ q⟩))))))))
 .exact GcV F.kind_max F.plain_max F.entry_max (F.args_max1 _) (Gaa (Gdg (a:=[none,none]) rfl (Gaa (Gac (Gaa (on h λ_ _ q=>Gaa (Gbd (Gac ⟨quiet _,mQ _ _ q⟩))))))))
 .exact GcV F.kind_max F.plain_max F.entry_max (BU _ _) (Gaa (Gdg (a:=[none,some _]) rfl (Gaa (Gac (Gaa (on h λ_ _ q=>Gaa (Gbd (Gac ⟨quiet _,mQ _ _ q⟩))))))))
end
section
variable{X:Cx}{e a b c:Expr}{f g h:DE}{pos:Pos}
def Mq(K:ao)(dv:V)(t:TA):TE:=λZ H Q=>t Z H λvs H1=>∃(p:Addr) (ns:List Int),vs=[.ref p]/\(SqL K H1 p (ns.map V.int)\/SqT K H1 p (ns.map V.int))/\Q (match ns with|[]=>dv|n::ns=> .int (oY n ns)) H1
variable{dv:V}{dx:Expr}{p kp:Pos}
theorem K4{pos:Pos}{t:TA}(hc:X.calm=true)(hg:Gl X "max")(hm:X.mg "max"=none)(ha:PA X [e] t)(hd:PE X dx (tC dv))(hs:starEach [e] X.env=[(false,eval e X.env)]:=by rfl):PE X (.Call (.Name "max" p) [e] [⟨some "default",dx,kp⟩] pos) (Mq X.K dv t):=by
 intro e8 z Z H Q I h;refine Gdk (ly I hg hm Me ?_);refine PyProof.Rows.callWith_kw (thn (ha pos e8 z Z H _ I h) λus s1 ⟨vs,H1,I1,r1,q1⟩=> ?_) (by rw[hs];rfl) (by rw[hs];rfl) rfl rfl;obtain⟨l,ns,e1,hq,q⟩:=q1;subst e1;cases r1 with
 |cons r rr=>
  cases rr;cases r;refine PyProof.Rows.kws_cons (thn (hd e8 s1 Z H1 (λv H2=>v=dv/\H2=H1) I1 ⟨rfl,rfl⟩) λdu s2 ⟨v,H2,I2,r2,e2,e3⟩=>PyProof.Rows.kws_nil ?_);subst e2 e3;show wpAny _ _ (call (.builtin "max") [.ref l] [(Str.ofString "default",du)]) _ _ _;refine K3 true (some du) (wK hc I2 hq λIt fp wr P St s₃ W st lt hP kept=> ⟨It,fp,wr,_,P,St,_,λ_=>True,rfl,W,st,lt,λi j vi vj zz Q' E' _ hi hj U0 =>CmpOf.ints_gt (uO ns) (wM hP) i j vi vj zz Q' E' hi hj U0,λ_ _ _=>trivial,λhn=> ⟨du,rfl,λh' tk hk=> ?_⟩,λhn u h' tk hu hk=> ?_⟩)
  .cases ns with
   |nil=>exact⟨v,H2,kept h' tk hk,r2,q⟩
   |cons n ns=>simp at hn
  .cases ns with
   |nil=>simp at hn
   |cons n ns=>
    obtain⟨t,rfl⟩:=wM hP _ _ hu;rw[show((n::ns).map V.int).length -1=ns.length by simp,Ha _ (Gap _),List.take_length];exact⟨.int (oY n ns),H2,kept h' tk hk,⟨t,rfl⟩,q⟩
theorem K5{pos:Pos}{dd:D}(hc:X.calm=true)(hg:Gl X "max")(hm:X.mg "max"=none)(he:PEd X e f)(hd:PE X dx (tC dv))(Ud:∀K F H,Inn K F H dd dv)(ht:dd.top=false)(hs:starEach [e] X.env=[(false,eval e X.env)]:=by rfl):PEd X (.Call (.Name "max" p) [e] [⟨some "default",dx,kp⟩] pos) (mmE oY dd f):=by
 refine(K4 hc hg hm (d3 he gx hs) hd hs).aE ?_;rintro Z H Q ⟨H0,eD,env,rv,E,e,k⟩;obtain⟨r,hr,e⟩:=eA e;refine⟨H0,eD,env,[r],E,by unfold a7 aa;rw[hr];rfl,λvs H1 s1 Rs=> ?_⟩;cases Rs with
 |cons R1 tl=>
  cases tl;unfold mmD at e;obtain⟨ds,h1,e⟩:=eA e;obtain⟨ns,h2,e⟩:=Gan.mp e;obtain⟨p,vs,rfl,hq,rr⟩:=BJ R1.inn h1;rw[Dd rr h2] at hq;refine⟨p,ns,rfl,hq, ?_⟩;subst e;cases ns with
  |nil=>exact k _ _ s1 ((Ud _ _ _).rep λa _ w=>by rw[ht] at w;cases w)
  |cons n ns=>exact k _ _ s1 (.int _)
end
section
variable{X:Cx}{e a b c:Expr}{f g h:DE}{pos:Pos}
theorem K6{K:ao}{F:Addr->Prop}{H:Hp}(k:Key):Rep K F H (M4 k) (kV k):=by
 cases k with
 |inl i=>exact .int i
 |inr x=>exact .str x
end
section
variable{X:Cx}{e a b c:Expr}{f g h:DE}{pos:Pos}
variable{H:Hp}
theorem Mr{K:ao}{F:Addr->Prop}{d:D}{v:V}{k:D}{o:Option D}(i:Inn K F H d v)(e:EC d k=some o):∃p,v= .ref p/\IsD H p:=by
 unfold EC at e;split at e
 .cases i with
  |dK h r=>exact⟨_,rfl,.inl ⟨_,.inl h⟩⟩
 .cases i with
  |dT h r=>exact⟨_,rfl,.inr ⟨_,.inl h⟩⟩
 .cases e
theorem Ht{K:ao}{F:Addr->Prop}{dx dy rd:D}{y vz:V}{p:Addr}{o' :Option D}(ix:Inn K F H dx (.ref p))(iy:Inn K F H dy y)(e:EC dx dy=some o')(rz:Rep K F H rd vz):∃o,pV H p y o/\Rep K F H (o'.getD rd) (o.getD vz):=by
 obtain⟨g1,g2⟩:=mG ix iy;have fin:∀{Y:Type} [DecidableEq Y] {eC:List (Y×D)} {ws:List (Y×V)} {k:Y},aP K F H eC ws->Rep K F H ((look eC k).getD rd) ((fF ws k).getD vz):=λ{Y _ eC ws k} rp=>by
  cases z:look eC k with
  |none=>rw[kq rp z];exact rz
  |some d=>obtain⟨v,h1,h2⟩:=iI rp z;rw[h1];exact h2
 unfold EC at e;split at e
 .obtain⟨k',hk,rfl⟩:=Gan.mp e;obtain⟨q,ws,eq,rp,gg⟩:=g1 _ k' rfl hk;cases eq;exact⟨_,gg,fin rp⟩
 .obtain⟨k',hk,rfl⟩:=Gan.mp e;obtain⟨q,ws,eq,rp,gg⟩:=g2 _ _ k' rfl rfl hk;cases eq;exact⟨_,gg,fin rp⟩
 .cases e
theorem K7{apos eE:Pos}{o:Expr}(hu:X.A.units+1<cLine)(ho:PEd X o f)(he:PEd X a g)(hd:PEd X b h)(m:M2 X o "get" apos a b eE):PEd X (.Call (.Attribute o "get" apos) [a,b] [] eE) (Ju f g h):=by
 refine(Gn hu ho he hd m).aE ?_;rintro Z H Q ⟨H0,eD,env,rv,E,e,k⟩;obtain⟨x,hx,e⟩:=eA e;obtain⟨y,hy,e⟩:=eA e;obtain⟨r,hr,e⟩:=eA e;split at e
 .rename_i hc;obtain⟨o',e',rfl⟩:=Gan.mp e;refine⟨H0,eD,env,x,E,hx,λvx H1 s1 R1=> ?_⟩;obtain⟨p,rfl,hD⟩:=Mr R1.inn e';refine⟨p,rfl,hD,H0,eD,env,y,E.mono s1,hy,λvy H2 s2 R2=> ⟨H0,eD,env,r,(E.mono s1).mono s2,hr,λvz H3 s3 R3=> ?_⟩⟩;have rz:Rep X.K (Cln eD env Z) H3 r.d vz:=R3.rep ((E.mono s1).mono s2) (by unfold RV.free;rw[hc]);obtain⟨ov,gg,rp⟩:=Ht ((R1.inn.same s2).same s3) (R2.inn.same s3) e' rz;exact⟨ov,gg,k _ H3 (s1.trans (s2.trans s3)) rp⟩
 .cases e
end
section
variable{prog:Program}{w:World}{A:Around}{E:Value->Shared->Prop}{s:Shared}
theorem oZ(d:Addr)(hd:(d==sysModules)=false):MeetsIn prog w (Builtin.«dict.items» ⟨[.ref d],[]⟩) (λ_ R s=>s.TypeIs (.ref d) "dict"/\R (.ok (.ret (.ref s.heap.objs.size))) {s with heap:=s.heap.push {cls:= .type "dict_items",data:= .fields #[.ref d]}}):=by
 apply MeetsIn.of_wp;rintro A R s ⟨hm,h⟩
 wp_walk using wpAny_notOrdered_dict hm,Gbd
 .exact⟨_,rfl,h⟩
 .size_fits
variable{ep:Nat}{d:Addr}
theorem qB{v:Addr}{es:Array DictEntry}{Q:Value->Shared->Prop}(hv:s.heap.IsItemsView v d)(hm:Hh s.heap d es ep)
  (hQ:Q (.ref s.heap.objs.size) {s with heap:=s.heap.push {cls:= .type "dict_itemiterator",data:= .fields #[.none,.bool false,.ref d,.int 0 0,.int es.size 0,.int ep 0,.none,.none]}}):wpAny (model prog w) A (pyIter (.ref v)) Q E s:=by
 have f:FO s.heap v _ _:=hv;apply Gdu f.ty F.slot_dict_items_iter;apply Gbb F.slot_dict_items_iter f.ty F.entry_dict_items_iter (ha:=F.args_dict_items_iter_1 _)
 wp_walk using j7 (i:=0) (x:= .ref d) f rfl,Hj hm,Ld hm,Gbd
 .exact⟨_,rfl,_,_,⟨_,Gaw _ rfl,rfl⟩,GcN.lookup,hQ⟩
 .simp[sizeOk,Builtin.Dict_items.ownsTuple,Builtin.Dict_items.ownedTupleFields,Gbw]
abbrev ItI(h:Heap)(it d:Addr)(i n ep:Nat)(f0 f1 ok ov:Value):Prop:=FO h it "dict_itemiterator" #[f0,f1,.ref d,.int i 0,.int n 0,.int ep 0,ok,ov]
def Kept(h:Heap)(it:Addr)(f0 f1:Value):Prop:=f0= .none\/∃(a:Addr) (oa:Obj) (f:Bool),f0=rawInt a/\f1= .bool f/\h.get? a=some oa/\a≠it
variable{f0 f1 ov:Value}{it:Addr}
theorem EY{x2 x3 x4 x5 ok k v:Value}{Q:Value->Shared->Prop}(f:FO s.heap it "dict_itemiterator" #[f0,f1,x2,x3,x4,x5,ok,ov])(hf:Kept s.heap it f0 f1)
  (h:∀h' g0 g1 zu zt,FO h' it "dict_itemiterator" #[g0,g1,x2,x3,x4,x5,zu,zt]->((f0= .none/\g0=rawInt s.heap.objs.size/\g1= .bool false)\/(f0≠ .none/\g0=f0/\g1= .bool true))->
   h'.get? s.heap.objs.size=some {cls:= .type "tuple",data:= .seq #[k,v]}->h'.objs.size=s.heap.objs.size+1->(∀b o,b≠it->s.heap.get? b=some o->h'.get? b=some o)->Q (.ref s.heap.objs.size) {s with heap:=h' }):
  wpAny (model prog w) A (Builtin.Dict_items.pairFromOwner (.ref it) 6 k v) Q E s:=by
 have ne:s.heap.objs.size≠it:=GbW f.lt;apply Gaa;refine wpAny_newTuple ?_;have f2:=f.at λo=>Gaf {cls:= .type "tuple",data:= .seq #[k,v]};have t2:(s.heap.push {cls:= .type "tuple",data:= .seq #[k,v]}).get? s.heap.objs.size=_:=Gaw _ rfl;have k2:∀b o,s.heap.get? b=some o->(s.heap.push {cls:= .type "tuple",data:= .seq #[k,v]}).get? b=some o:=λb o=>Gaf _;have z2:(s.heap.push {cls:= .type "tuple",data:= .seq #[k,v]}).objs.size=s.heap.objs.size+1:=Gce ..;generalize s.heap.push {cls:= .type "tuple",data:= .seq #[k,v]}=p at*;have fin:∀h',Heap.SameBut it p h' ->h'.get? s.heap.objs.size=some {cls:= .type "tuple",data:= .seq #[k,v]}/\h'.objs.size=s.heap.objs.size+1/\∀b o,b≠it->s.heap.get? b=some o->h'.get? b=some o:=λh' sb=> ⟨sb.extBut _ _ ne t2,sb.1.trans z2,λb o n e=>sb.extBut b o n (k2 b o e)⟩;rcases hf with rfl| ⟨a,oa,b,rfl,rfl,ha,UC⟩
 .wp_walk using j7 (i:=0) (x:= .none) f2 rfl,j7 (i:=6) (x:=ok) f2 rfl,j7 (i:=7) (x:=ov) f2 rfl,dY f2
  .rintro h3 ⟨f3,s3⟩;refine Gaa (dY f3 (λh4 ⟨f4,s4⟩=>Gaa (dY f4 (λh5 ⟨f5,s5⟩=>Gaa (dY f5 (λh6 ⟨f6,s6⟩=>Gaa (wpAny_letGo (Gac ?_))) (by simp))) (by simp))) (by simp));obtain⟨q1,q2,q3⟩:=fin h6 (((s3.trans s4).trans s5).trans s6);exact h h6 _ _ _ _ f6 (.inl ⟨rfl,rfl,rfl⟩) q1 q2 q3
  .show _<8;decide
 .wp_walk using j7 (i:=0) (x:=rawInt a) f2 rfl,PySem.W.kdx_alive (k2 a oa ha),j7 (i:=1) (x:= .bool b) f2 rfl
  have q1:(Value.bool b !=Value.bool true)= !b:=by cases b<;>rfl
  rw[q1];have no:rawInt (a:Int)≠Value.none:=by simp[rawInt]
  cases b with
  |true=>
   wp_walk
   obtain⟨q1,q2,q3⟩:=fin p (Heap.SameBut.refl _ _);exact h p _ _ _ _ f2 (.inr ⟨no,rfl,rfl⟩) q1 q2 q3
  |false=>
   wp_walk using dY f2
   .rintro h3 ⟨f3,s3⟩
    wp_walk
    obtain⟨q1,q2,q3⟩:=fin h3 s3;exact h h3 _ _ _ _ f3 (.inr ⟨no,rfl,rfl⟩) q1 q2 q3
   .show _<8;decide
variable{i:Nat}
theorem jN{es:Array DictEntry}{ok:Value}{Q:Option Value->Shared->Prop}(hh:A.handled=none)(hit:ItI s.heap it d i es.size ep f0 f1 ok ov)(hm:Hh s.heap d es ep)(hf:Kept s.heap it f0 f1)
  (hQ:∀e h' g0 g1 zu zt,es[i]? =some e->ItI h' it d (i+1) es.size ep g0 g1 zu zt ->((f0= .none/\g0=rawInt s.heap.objs.size/\g1= .bool false)\/(f0≠ .none/\g0=f0/\g1= .bool true))->
   h'.get? s.heap.objs.size=some {cls:= .type "tuple",data:= .seq #[e.key,e.val]}->(∀b o,b≠it->s.heap.get? b=some o->h'.get? b=some o)->Q (some (.ref s.heap.objs.size)) {s with heap:=h' })
  (hE:∀h',es.size<=i->Heap.ExtBut it s.heap h' ->Q none {s with heap:=h' }):wpAny (model prog w) A (pyNext (.ref it)) Q E s:=by
 have hT:=hit.ty
 wp_walk using Gbt hT GcN,Gbb GcN hT F.entry_dict_itemiterator_next (ha:=F.args_dict_itemiterator_next_1 _),Hj hm,Ld hm,uP hit,GcJ hT
 rw[Pg];cases h:es[i]? with
 |some e=>
  wp_walk using GcJ hT,wpAny_isOneOf_itemiter hT,dY hit
  .rintro h1 ⟨f,hs⟩;replace f:ItI h1 it d (i+1) es.size ep f0 f1 ok ov:=f;have kp:Kept h1 it f0 f1:=hf.imp id λ⟨a,o,b,q1,q2,q3,q4⟩=> ⟨a,o,b,q1,q2,hs.extBut a o q4 q3,q4⟩
   wp_walk using wpAny_isOneOf_itemiter f.ty,EY f kp
   intro h' g0 g1 zu zt f' g t _ k;rw[show h1.objs.size=s.heap.objs.size from hs.1] at*;exact Gac ⟨_,rfl,Gac (hQ e h' g0 g1 zu zt h f' g t λb o n q=>k b o n (hs.extBut b o n q))⟩
  .show _<8;decide
 |none=>
  wp_walk using GcJ hT,dY hit
  .rintro h' ⟨f,hs⟩;exact Hk hh λh2 a k=>Gaa (uQ k.2 (Gac (hE h2 (by simpa using h) λb o n e=>k.1 b o (hs.extBut b o n e))))
  .show _<8;decide
theorem Hu{elts:List Expr}{x1}{pos:Pos}{a:Addr}{n:Nat}{ok:Value}{Q:Unit->Shared->Prop}(he:ItI s.heap it d i n ep (rawInt a) f1 ok ov)
  (hQ:∀h',ItI h' it d i n ep .none f1 ok ov->Heap.SameBut it s.heap h' ->Q () {s with heap:=h' }):
  wpAny (model prog w) A (letOwnedTupleGo (.Tuple elts x1 pos) (.ref it) (.ref a)) Q E s:=by
 obtain⟨⟨c,dc,dt,sl⟩,ho,hc,hd⟩:=id he;cases hc;cases hd
 apply Gaa;apply wpAny_load ho;apply GcI<;>intro hi
 .exact Gaa (wpAny_rule (dY he (λh' k=>hQ h' k.1 k.2) (by simp)))
 .exact absurd (by simp) hi
end
section
variable{X:Cx}{e a b c:Expr}{f g h:DE}{pos:Pos}{e8:List (Addr×Obj)}{Z:St}{H:Hp}{s:Shared}
variable{o:Obj}{eC:List (List Key×V)}{d:Addr}
theorem _root_.L2.Inv.freeze(I:Inv X e8 Z H s)(e:H d=some (.dT eC))(ho:s.heap.get? d=some o):Inv X e8 Z (upd H d (.frz o (.dT eC))) s:=by
 have:=pC (t' :=s.toks) (h' :=s.heap) (ob:= .frz o (.dT eC)) I (by rw[e];trivial) (Heap.SameBut.refl _ _) ⟨o,ho⟩
  ⟨ho,(I.hok d _ e).de (λb u _ q=>q) (λb q=>by rw[ag (CG q e (by simp))];exact q) λb xs q=>by rw[ag (CG q e (by simp))];exact q⟩
 exact this
theorem _root_.L2.Inv.Ms(I:Inv X e8 Z H s)(e:H d=some (.frz o (.dT eC)))(hn:∀o u,X.H0 d≠some (.frz o u)):Inv X e8 Z (upd H d (.dT eC)) s:=by
 have ne:∀{b:Addr},H b=none->b≠d:=λq z=>by rw[z,e] at q;cases q
 have nt:∀{b:Addr} {u:HO},H b=some u->u≠ .frz o (.dT eC)->b≠d:=λq hu z=>by rw[z,e] at q;cases q;exact hu rfl
 refine⟨I.ok,I.os,I.bare,⟨I.base.keep,I.base.slot,λb ob q n hx=> ?_,I.base.there,λb xs q=> ?_,λb ob u q=> ?_,λb ps q=> ?_⟩,I.loc,I.cell, ?_,λx c q=> ?_,λp hp=> ?_,λb u q=> ?_,I.len⟩
 .have:=I.base.free b ob q n hx;rw[ag (ne this)];exact this
 .have:=I.base.vO b xs q;rw[ag (nt this (by simp))];exact this
 .have:=I.base.rV b ob u q;rw[ag (λz=>hn ob u (by rw[<-z];exact q))];exact this
 .obtain⟨more,q'⟩:=I.base.vP b ps q;exact⟨more,by rw[ag (nt q' (by simp))];exact q'⟩
 .rw[ag (ne I.free)];exact I.free
 .rw[ag (ne (I.iZ x c q))];exact I.iZ x c q
 .obtain⟨h1,h2,h3⟩:=I.pin p hp;exact⟨h1,by rw[ag (ne h2)];exact h2,h3⟩
 .have st:∀{b:Addr} {u:HO},bQ X.prog X.w H s.heap b u->bQ X.prog X.w (upd H d (.dT eC)) s.heap b u:=λx=>
   x.de (λ_ _ _ q=>q) (λc q=>by rw[ag (nt q (by simp))];exact q) λc xs q=>by rw[ag (nt q (by simp))];exact q
  by_cases hb:b=d
  .subst hb;rw[ay] at q;cases q
   exact st (I.hok b _ e).2
  .rw[ag hb] at q;exact st (I.hok b _ q)
variable{ep:Nat}
theorem Dn{es:Array DictEntry}(I:Inv X e8 Z H s)(e:H d=some (.frz o (.dT eC)))(hd:o.data= .dict es ep):Hh s.heap d es ep/\es.size=eC.length/\
  ∀(i:Nat) p,eC[i]? =some p->∃b en,es[i]? =some en/\en.key= .ref b/\H b=some (.tup (p.1.map kV))/\RelV p.2 en.val:=by
 obtain⟨ho,h1,h2,xs,kt,o',Ru,Rw,xx,hx,xb,he,_⟩:=I.hok d _ e;rw[ho] at xx;cases xx
 rw[hd] at xb;cases xb
 have hl:eC.length=xs.length:=Paired.length kt;have hs:es.size=xs.length:=by rw[<-GaO,he,Gad]
 refine⟨⟨o,ho,hx,hd⟩,by lia,λi p hp=> ?_⟩;have hi:i<xs.length:=by rw[<-hl];exact(Gal.mp hp).1
 have rel:∀{l:List (List Key×V)} {m:List (List Key×Addr×Value)},Paired (λ(p:List Key×V) (q:List Key×Addr×Value)=>p.1=q.1/\H q.2.1=some (.tup (p.1.map kV))/\RelV p.2 q.2.2) l m->∀(i:Nat) p q,l[i]? =some p->m[i]? =some q->H q.2.1=some (.tup (p.1.map kV))/\RelV p.2 q.2.2:=by
  intro l m q;induction q with
  |nil=>intro i p q h;simp at h
  |cons hq t ih=>
   intro i p' q' h1 h2;cases i with
   |zero=>simp at h1 h2;subst h1 h2;exact hq.2
   |succ i=>exact ih i p' q' (by simpa using h1) (by simpa using h2)
 obtain⟨r1,r2⟩:=rel kt i p xs[i] hp (by simp[hi]);refine⟨xs[i].2.1,entryOfKey (tupleKind (br X.prog X.w)) xs[i], ?_,rfl,r1,r2⟩;have:es.toList[i]? =some (entryOfKey (tupleKind (br X.prog X.w)) xs[i]):=by rw[he,Gam];simp[hi]
 simpa using this
noncomputable def Mt(d:Addr)(o:Obj)(eC:List (List Key×V)):It:=
 ⟨λi H=>H d=some (.frz o (.dT eC))/\i<eC.length,λi H x H' =>∃p b q,eC[i]? =some p/\H b=some (.tup (p.1.map kV))/\H q=none/\x= .ref q/\H' =upd H q (.tup [.ref b,p.2]),λi H=>H d=some (.frz o (.dT eC))/\eC.length<=i⟩
variable{w:World}
theorem BV{prog:Program}{A:Around}{E:Value->Shared->Prop}{s:Shared}{it:Addr}{i n:Nat}{f0 f1 ok ov:Value}{Q:Value->Shared->Prop}(hit:ItI s.heap it d i n ep f0 f1 ok ov)(h:Q (.ref it) s):wpAny (model prog w) A (pyIter (.ref it)) Q E s:=by
 have hT:=hit.ty;apply Gdu hT Gdq;apply Gbb Gdq hT PySem.W.kcp_entry (ha:=PySem.F.args_dict_itemiterator_iter_1 _);exact Gac ⟨_,rfl,_,_,hT,PySem.F.slot_dict_itemiterator_next.lookup,h⟩
variable{tp:Pos}{elts:List Expr}
theorem BW{P:Program}{K:ao}{x1}(it d:Addr)(o:Obj)(eC:List (List Key×V))(es:Array DictEntry)(ep:Nat)(hd:o.data= .dict es ep)(xy:d≠it):
  Turn P w K (.Tuple elts x1 tp) (Mt d o eC) [it] it (λi h=>∃f1 ok ov,ItI h it d i es.size ep .none f1 ok ov) where
 mem:=by simp
 obj:=λi h st b hb=>by
  have e:b=it:=by simpa using hb
  subst e;obtain⟨f1,ok,ov,o,e,c,d⟩:=st;exact⟨o,e,λv z=>by rw[d] at z;cases z⟩
 keep:=λi h h' st k=>let⟨f1,ok,ov,e⟩:=st;⟨f1,ok,ov,e.at (k it (by simp))⟩
 item:=by
  intro X hP hw hK hc i e8 s Z H E I hf st hg;subst hP hw hK;obtain⟨he,hi⟩:=hg;obtain⟨hr,hz,hx⟩:=Dn I he hd;obtain⟨f1,ok,ov,hit⟩:=st;obtain⟨b,en,q1,q2,q3,q4⟩:=hx i eC[i] (by simp[hi]);refine jN (I.ok.hd hc) hit hr (.inl rfl) (λUJ h' g0 g1 zu zt Tx xE hg hT kk=> ⟨_,rfl, ?_⟩) λ_ hl _=>absurd hl (by lia);cases q1.symm.trans Tx;have Sd:g0=rawInt s.heap.objs.size:=by
   rcases hg with⟨_,z,_⟩| ⟨z,_⟩
   .exact z
   .exact absurd rfl z
  subst Sd;refine Hu (s:={s with heap:=h' }) xE λh2 zS sb=> ?_;have eU:it<s.heap.objs.size:=hit.lt;have kept:∀b o,b∉[it]->s.heap.get? b=some o->h2.get? b=some o:=λb o hb e=>by
   have b1:b≠it:=λz=>hb (by simp[z]);exact(sb.2 b b1).trans (kk b o b1 e)
  have zX:h2.get? s.heap.objs.size=some {cls:= .type "tuple",data:= .seq #[en.key,en.val]}:=(sb.2 _ (GbW eU)).trans hT;have I1:Inv X e8 Z (upd H s.heap.objs.size (.tup [.ref b,eC[i].2])) {s with heap:=h2}:=I.qz (ch:=[it]) hf rfl rfl kept (Gap _) (by
   refine⟨by simp[Gbw],[en.key,en.val],.cons q2 (.cons q4 .nil),_,zX,rfl,0,rfl⟩)
  refine⟨.ref s.heap.objs.size,_,I1,rfl,⟨eC[i],b,_,by simp[hi],q3,I.fresh,rfl,rfl⟩,⟨_,_,_,zS⟩,λb' hb=> ?_⟩;have z:b' =it:=by simpa using hb
  subst z;rw[ag (GaJ eU)];exact(hf b' hb).1
 done:=by
  intro X hP hw hK hc i e8 s Z H E I hf st hg;subst hP hw hK;obtain⟨he,hi⟩:=hg;obtain⟨hr,hz,hx⟩:=Dn I he hd;obtain⟨f0,f1,f2,f3,f4,f5⟩:=hf it (by simp);obtain⟨UH,ok,ov,hit⟩:=st;exact jN (I.ok.hd hc) hit hr (.inl rfl) (λ_ _ _ _ _ _ q=>absurd (Gbf.mp q).1 (by lia)) λh' _ eb=> ⟨rfl,I.turned (t' :=s.toks) (λb o hb e=>eb b o hb e) f0 f1 f3 f4 f5⟩
 self:=λ_ _ _ _ _ st h=>let⟨_,_,_,e⟩:=st;BV e h
def Hv(X:Cx)(J:Addr->Obj->List (List Key×V)->It)(to:TE):TI:=λZ H R=>to Z H λx H1=>∃d eC,x= .ref d/\H1 d=some (.dT eC)/\∀o,(∀o u,X.H0 d≠some (.frz o u))->R (J d o eC) (upd H1 d (.frz o (.dT eC)))
theorem A1{o:Expr}{x1}{to:TE}{apos eE:Pos}(ho:PE X o to)(eW:attributeBase o "items" X.env (eval o X.env)=eval o X.env:=by rfl)(eV:(apos.endLine==eE.line)=true:=by rfl):PI X (.Tuple elts x1 tp) (.Call (.Attribute o "items" apos) [] [] eE) (Hv X Mt to):=by
 intro e8 s Z H R I h;refine wpAny_Call_method0_late eW eV (thn (ho e8 s Z H _ I h) λv s1 ⟨x,H1,I1,r1,d,eC,ex,hd,q1⟩=> ?_);subst ex;cases r1;obtain⟨_,xr,xs,kt,ob,es,ep,S2,hx,yy,he,_⟩:=Gk I1.hok hd;obtain⟨t1,t2,_⟩:=Bf I1 (.inr ⟨eC,.inl hd⟩);refine⟨"dict","dict.items",Gds,PySem.F.slot_dict_items,PySem.F.type_dict_items,t1,t2,GcL rfl (PySem.evalArgs_none ?_)⟩;refine call_meetsIn PySem.F.slot_dict_items t1 PySem.F.entry_dict_items (PySem.F.args_dict_items_1 _) (oZ d xr) ⟨t1, ?_⟩;generalize hh1:s1.heap.push {cls:= .type "dict_items",data:= .fields #[.ref d]}=h1;have hv:h1.IsItemsView s1.heap.objs.size d:=by rw[<-hh1];exact⟨_,Gaw _ rfl,rfl,rfl⟩
 have k1:∀b u,s1.heap.get? b=some u->h1.get? b=some u:=λb u q=>by rw[<-hh1];exact Gaf _ q
 have I2:Inv X e8 Z H1 {s1 with heap:=h1}:=I1.kept (t' :=s1.toks) k1;refine qB (s:={s1 with heap:=h1}) hv ⟨ob,k1 _ _ S2,hx,yy⟩ ?_;have I3:Inv X e8 Z H1 {s1 with heap:=h1.push {cls:= .type "dict_itemiterator",data:= .fields #[.none,.bool false,.ref d,.int 0 0,.int es.size 0,.int ep 0,.none,.none]}}:=I2.kept (t' :=s1.toks) λb u q=>Gaf _ q;have I4:=I3.freeze hd (o:=ob) (Gaf _ (k1 _ _ S2));have eU:d<h1.objs.size:=Gav (k1 _ _ S2);have fresh:(upd H1 d (.frz ob (.dT eC))) h1.objs.size=none:=by
  rw[ag (GbW eU)];exact I2.fresh
 refine⟨h1.objs.size,[h1.objs.size],_,_,_,rfl,I4,BW _ d ob eC es ep yy (GaJ eU),⟨_,_,_,_,Gaw _ rfl,rfl,rfl⟩,λb hb=> ?_,q1 ob λo u z=> ?_⟩
 .have z:b=h1.objs.size:=by simpa using hb
  subst z;exact I2.Eg (Gap _) fresh
 .have:=I1.base.rV d o u z;rw[hd] at this;cases this
end
section
variable{X:Cx}{e a b c:Expr}{f g h:DE}{pos:Pos}
def BX(J:Addr->Obj->List (List Key×V)->It)(vw:List (List Key×D)->List D):Prop:=
 ∀{K:ao} {Hf:Hp} {a:Addr} {o:Obj} {ws:List (List Key×V)} {eC:List (List Key×D)} {F F' Nn:Addr->Prop},Hf a=some (.frz o (.dT ws))->aP K F Hf eC ws->
  (∀b u,Hf b=some u->(F b\/isT u)->Nn b)->(∀b,F b->Hf b≠none->F' b)->BC K F' Nn (J a o ws) (vw eC) Hf
variable{H:Hp}
theorem tN{Y:Type}{K:ao}{F:Addr->Prop}{eC:List (Y×D)}{ws:List (Y×V)}(r:aP K F H eC ws):eC.length=ws.length:=by
 have:=congrArg List.length r.1
 simpa using this
variable{i:Nat}
theorem EZ{Y:Type}{K:ao}{F:Addr->Prop}{eC:List (Y×D)}{ws:List (Y×V)}(r:aP K F H eC ws){p:Y×D}(e:eC[i]? =some p):∃q,ws[i]? =some q/\p.1=q.1/\Rep K F H p.2 q.2:=by
 have hi:i<ws.length:=by rw[<-tN r];exact(Gal.mp e).1
 have hq:ws[i]? =some ws[i]:=Gab hi;refine⟨ws[i],hq, ?_,r.2 i p _ e hq⟩;have:=congrArg (λl=>l[i]?) r.1;simp only[Gam,e,hq,GbL,GcP] at this;exact this
theorem qC:BX Mt cN:=by
 intro K Hf a o ws eC F F' Nn hA r hN hF Hi keep;have T7:Hi a=some (.frz o (.dT ws)):=keep a _ hA (hN a _ hA (.inr trivial));have r' :aP K F' Hi eC ws:=r.gen (λb u hb q=>keep b u hb (hN b u hb q)) hF;refine⟨λi d hd=> ?_,T7,by unfold cN;rw[Gad,tN r];exact Gap _⟩;unfold cN at hd;rw[Gam] at hd;obtain⟨p,hp,rfl⟩:=Gan.mp hd;obtain⟨q,h1,h2,h3⟩:=EZ r' hp;refine⟨⟨T7,(Gal.mp h1).1⟩,λx H2 ⟨q',b,t,e2,e3,e4,e5,e6⟩=> ?_⟩;subst e5 e6;rw[h1] at e2;cases e2
 refine⟨aU e4,dH e4 (.cons ?_ (.cons h3 .nil))⟩;have rs:aI K F' Hi (p.1.map M4) (q.1.map kV):=by rw[h2];exact A0 λk=>K6 k
 exact .tup e3 rs.1 rs.2
variable{vw:List (List Key×D)->List D}{tg iter:Expr}
theorem K8{J:Addr->Obj->List (List Key×V)->It}(hi:PI X tg iter (Hv X J (tE X f)))(hv:BX J vw):PId X tg iter (Gw vw f):=by
 refine hi.aE ?_;rintro Z H R ⟨H0,eD,env,ds,E,hf,k⟩;obtain⟨⟨kd,d⟩,hr,hf⟩:=eA hf;split at hf
 .rename_i hk;have xo :kd= .tn:=hk;subst xo;split at hf
  .rename_i eC hd;have xb :d= .dT eC:=hd;subst xb;cases hf;refine⟨H0,eD,env,⟨.tn,.dT eC⟩,E,hr,λv H1 s1 Rv=> ?_⟩;obtain⟨a,ev,hn,wr,_,ii⟩:=Rv;subst ev;cases ii with
   | @dT _ ws _ h r=>
    refine⟨a,ws,rfl,h,λo zy=> ?_⟩;have sm:bR H (upd H1 a (.frz o (.dT ws))):=λb u q=>by
     rw[ag (cO q hn)];exact s1 b u q
    have E1:=E.mono sm;refine k _ _ sm (hv ay (r.gen (λb u hb q=> ?_) λb q _=>q) (λb u hb q=> ?_) λb q hb=> ⟨q.1,hb⟩)
    .have:b≠a:=by
      rcases q with q|q
      .exact q.2
      .intro z;subst z;rw[h] at hb;cases hb;exact q
     rw[ag this];exact hb
    .rcases q with q|q
     .exactλ⟨i,h1,h2⟩=>q.1.2 i h1.ol.top h2
     .exactλw=>E1.dI w hb q
  .cases hf
 .cases hf
variable{apos eE tp:Pos}{elts:List Expr}
theorem Hw{o:Expr}{x1}(ho:PEd X o f)(eW:attributeBase o "items" X.env (eval o X.env)=eval o X.env:=by rfl)(eV:(apos.endLine==eE.line)=true:=by rfl):PId X (.Tuple elts x1 tp) (.Call (.Attribute o "items" apos) [] [] eE) (Gw cN f):=K8 (A1 ho eW eV) qC
variable{j:Nat}{env:Env}
theorem iO{sl:Slot}(h:(env.set i none)[j]? =some (some sl)):j≠i/\env[j]? =some (some sl):=by
 by_cases z:i=j
 .subst z;rw[Gea] at h;simp at h
 .rw[Gae z] at h;exact⟨Ne.symm z,h⟩
theorem mR(h:aW (env.set i none)[j]?):j≠i/\aW env[j]? :=by
 by_cases z:i=j
 .subst z;rw[Gea] at h;split at h
  .split at h<;>exact h.elim
  .exact absurd rfl (by assumption)
 .rw[Gae z] at h;exact⟨Ne.symm z,h⟩
theorem A2(h:wq (env.set i none)[j]?):j≠i/\wq env[j]? :=by
 by_cases z:i=j
 .subst z;rw[Gea] at h;split at h
  .split at h<;>exact h.elim
  .exact absurd rfl (by assumption)
 .rw[Gae z] at h;exact⟨Ne.symm z,h⟩
variable{ws:List (List Key×V)}{o:Obj}{Z:St}{H0:Hp}
theorem au.Pq{K:ao}{eD:Addr->Prop}{a:Addr}(E:au K H0 eD env Z H)(ti:aW env[i]?)(ea:Z[i]? =some (some (.ref a)))
  (yz:∀j:Nat,j≠i->aW env[j]? ->Z[j]? ≠some (some (.ref a)))(hH:H a=some (.dT ws)):
  au K (λb=>if b=a then none else H0 b) (λb=>eD b\/b=a) (env.set i none) Z (upd H a (.frz o (.dT ws)))/\∀b,Cln (λb=>eD b\/b=a) (env.set i none) Z b↔Cln eD env Z b:=by
 have cl:∀b,Cln (λb=>eD b\/b=a) (env.set i none) Z b↔Cln eD env Z b:=λb=>by
  constructor
  .intro q;refine⟨λz=>q.1 (.inl z),λj tj ej=> ?_⟩;by_cases z:j=i
   .subst z;rw[ea] at ej;cases ej;exact q.1 (.inr rfl)
   .exact q.2 j (by rw[Gae (Ne.symm z)];exact tj) ej
  .intro q;refine⟨λz=> ?_,λj tj ej=>q.2 j (mR tj).2 ej⟩;rcases z with z|z
   .exact q.1 z
   .subst z;exact q.2 i ti ea
 have na:¬Cln eD env Z a:=λq=>q.2 i ti ea;have de:fS (Cln eD env Z) H (upd H a (.frz o (.dT ws))):=λb u hb q=>by
  have:b≠a:=by
   rcases q with q|q
   .intro z;subst z;exact na q
   .intro z;subst z;rw[hH] at hb;cases hb;exact q
  rw[ag this];exact hb
 have hF:∀b,Cln eD env Z b->H b≠none->Cln (λb=>eD b\/b=a) (env.set i none) Z b:=λb q _=>(cl b).mpr q;refine⟨⟨λb u q=> ?_,by rw[List.length_set];exact E.len,λb q=> ?_,λj d q=> ?_,λj d q=> ?_,λj d q=> ?_,λj k b tj tk ej ek=> ?_⟩,cl⟩
 .by_cases z:b=a
  .subst z;rw[Gaj rfl] at q;cases q
  .rw[Gai z] at q;rw[ag z];exact E.same b u q
 .rcases q with q|q
  .by_cases z:b=a
   .subst z;rw[ay];simp
   .rw[ag z];exact E.bad b q
  .subst q;rw[ay];simp
 .obtain⟨v,h1,h2⟩:=E.sh j d (iO q).2;exact⟨v,h1,h2.gen de hF⟩
 .have q' :j≠i/\(env[j]? =some (some (.own d))\/env[j]? =some (some (.lok d))):=by
   rcases q with q|q
   .exact⟨(iO q).1,.inl (iO q).2⟩
   .exact⟨(iO q).1,.inr (iO q).2⟩
  have tj:aW env[j]? :=by rcases q'.2 with z|z<;>rw[z]<;>trivial
  obtain⟨a',h1,h2,h3,h4,h5,h6⟩:=E.ow j d q'.2;have ne:a' ≠a:=λz=>yz j q'.1 tj (by rw[h1,z]);refine⟨a',h1,by rw[Gai ne];exact h2,λz=>z.elim h3 ne, ?_,h5,h6.gen de hF λb eb _ u hu=> ?_⟩
  .obtain⟨u,hu,wu⟩:=h4;exact⟨u,by rw[ag ne];exact hu,wu⟩
  .cases eb;rw[ag ne];exact hu
 .have q' :=iO q;have tj:aW env[j]? :=by rw[q'.2];trivial
  obtain⟨a',h1,h4,h5,h6⟩:=E.bo j d q'.2;have ne:a' ≠a:=λz=>yz j q'.1 tj (by rw[h1,z]);refine⟨a',h1, ?_,h5,h6.gen de hF λb eb _ u hu=> ?_⟩
  .obtain⟨u,hu,wu⟩:=h4;exact⟨u,by rw[ag ne];exact hu,wu⟩
  .cases eb;rw[ag ne];exact hu
 .exact E.dj j k b (A2 tj).2 (mR tk).2 ej ek
theorem Rep.Ms{K:ao}{F:Addr->Prop}{a:Addr}{d:D}{v:V}(hH:H a=some (.frz o (.dT ws)))(nf:¬F a)(r:Rep K F H d v):Rep K F (upd H a (.dT ws)) d v:=by
 induction r with
 |non=>exact .non
 |bl b=>exact .bl b
 |int i=>exact .int i
 |str x=>exact .str x
 | @tup b vs ds h l r ih=>
  refine .tup ?_ l ih;rw[ag λz=>by subst z;rw[hH] at h;cases h];exact h
 | @lst b vs ds f h l r ih=>
  have ne:b≠a:=λz=>by subst z;exact nf f
  refine .lst f ?_ l ih;rcases h with h| ⟨o',h⟩
  .exact .inl (by rw[ag ne];exact h)
  .exact .inr ⟨o',by rw[ag ne];exact h⟩
 | @exc b C n v d h r ih=>
  obtain⟨dx,vs,sl,od,h1,h2⟩:=h;exact .exc ⟨dx,vs,sl,od,by rw[ag λz=>by subst z;rw[hH] at h1;cases h1];exact h1,by rw[ag λz=>by subst z;rw[hH] at h2;cases h2];exact h2⟩ ih
 | @scr b ns h=>
  refine .scr ?_;rcases h with⟨o',h⟩|h
  .exact .inl ⟨o',by rw[ag λz=>by subst z;rw[hH] at h;cases h];exact h⟩
  .exact .inr h
 | @dK b ws' eC f h l r ih=>exact .dK f (by rw[ag λz=>by subst z;exact nf f];exact h) l ih
 | @dT b ws' eC f h l r ih=>exact .dT f (by rw[ag λz=>by subst z;exact nf f];exact h) l ih
variable{eC:List (List Key×D)}
theorem Le{a:Addr}{K:ao}{F:Addr->Prop}(ii:Inn K F H (.dT eC) (.ref a)):∃ws,H a=some (.dT ws)/\aP K F H eC ws:=by
 cases ii with
 |dT h r=>exact⟨_,h,r⟩
theorem F4{K:ao}{eD:Addr->Prop}(E:au K H0 eD env Z H)(e:dictAt i env=some eC):
  ∃a ws,aW env[i]? /\Z[i]? =some (some (.ref a))/\(∀j:Nat,j≠i->aW env[j]? ->Z[j]? ≠some (some (.ref a)))/\H a=some (.dT ws)/\aP K (Cln eD env Z) H eC ws:=by
 unfold dictAt at e;have own:∀{d:D},(env[i]? =some (some (.own d))\/env[i]? =some (some (.lok d)))->d= .dT eC->∃a ws,aW env[i]? /\Z[i]? =some (some (.ref a))/\(∀j:Nat,j≠i->aW env[j]? ->Z[j]? ≠some (some (.ref a)))/\H a=some (.dT ws)/\aP K (Cln eD env Z) H eC ws:=by
  intro d q hd;subst hd;obtain⟨a,h1,h2,h3,h4,h5,h6⟩:=E.ow i _ q;obtain⟨ws,g1,g2⟩:=Le h6;refine⟨a,ws,by rcases q with z|z<;>rw[z]<;>trivial,h1,λj hj tj ej=>hj (E.dj i j a (by rcases q with z|z<;>rw[z]<;>trivial) tj h1 ej).symm,g1,g2⟩
 split at e
 .rename_i q;cases e;exact own (.inl q) rfl
 .rename_i q;cases e;exact own (.inr q) rfl
 .rename_i q;split at e
  .rename_i hs;cases e;obtain⟨a,h1,h4,h5,h6⟩:=E.bo i _ q;obtain⟨ws,g1,g2⟩:=Le h6;refine⟨a,ws,by rw[q];trivial,h1,λj hj tj ej=> ?_,g1,g2⟩;have eU:j<env.length:=by
    rcases Gbg j env.length with z|z
    .exact z
    .rw[Gbj z] at tj;exact tj.elim
   have hsj:=Gao.mp hs j (GaV.mpr eU);cases hq:env[j]? with
   |none=>rw[hq] at tj;exact tj.elim
   |some sl=>
    cases sl with
    |none=>rw[hq] at tj;exact tj.elim
    |some sl=>
     cases sl with
     |sh d=>rw[hq] at tj;exact tj.elim
     |own d=>exact hj (E.dj j i a (by rw[hq];trivial) (by rw[q];trivial) ej h1)
     |lok d=>exact hj (E.dj j i a (by rw[hq];trivial) (by rw[q];trivial) ej h1)
     |bor d=>rw[hq] at hsj;simp[hj] at hsj
  .cases e
 .cases e
variable{gd:DG}{ax:List Nat}{n:Nat}{N:List Str}{scope:Scope}{ifs:List Expr}{elt:Expr}
theorem Hx{t:DT}{f:DE}{J:Addr->Obj->List (List Key×V)->It}(hc:X.calm=true)(S:ij X scope N n ax)
  (hi:PI X tg iter (Hv X J (NJ i)))(hv:BX J vw)(yD:qu gd)(B:Blk X scope N tg elt ifs gd t f)
  (hs:∀x,foldedSetIterable iter X.env x=pure x:=by intro _;rfl):PEd X (.ListComp elt [⟨tg,iter,ifs,0⟩] scope pos) (uB vw i n ax gd t f):=by
 intro e8 s Z H Q I hw;obtain⟨H0,eD,env,r,E,e,k⟩:=hw;unfold uB at e;obtain⟨eC,hk,e⟩:=eA e;split at e
 .rename_i hz;obtain⟨rs,yj,rfl⟩:=Gan.mp e;obtain⟨a,ws,ti,ea,yz,hH,rp⟩:=F4 E hk;obtain⟨cl,h1,h2,h3⟩:=ie (S.cells I);rw[eval_ListComp];refine Gdo (use:=none) rfl hs h1 S.kind S.BI ?_;refine thn (hi e8 s Z H (λJ' H' =>∃o,(∀o u,X.H0 a≠some (.frz o u))/\J' =J a o ws/\H' =upd H a (.frz o (.dT ws))) I ⟨.ref a,ea,a,ws,rfl,hH,λo zy=> ⟨o,zy,rfl,rfl⟩⟩) λv s1 q1=>thn q1 λzG s2 q2=> ?_;obtain⟨it,fp,tn,J2,H2,e,I2,T,yU,f2,o,zy,eJ,eH⟩:=q2;subst e eJ eH;obtain⟨E2,Sn⟩:=E.Pq (o:=o) ti ea yz hH;have na:¬Cln eD env Z a:=λq=>q.2 i ti ea;have de:fS (Cln eD env Z) H (upd H a (.frz o (.dT ws))):=λb u hb q=>by
   have:b≠a:=by
    rcases q with q|q
    .intro z;subst z;exact na q
    .intro z;subst z;rw[hH] at hb;cases hb;exact q
   rw[ag this];exact hb
  have io:BC X.K (λb=>Cln (λb=>eD b\/b=a) (env.set i none) Z b/\(upd H a (.frz o (.dT ws))) b≠none) (λb=>¬Ow (env.set i none) Z b) (J a o ws) (vw eC) (upd H a (.frz o (.dT ws))):=
   hv (F:=Cln (λb=>eD b\/b=a) (env.set i none) Z) ay (rp.gen de λb q _=>(Sn b).mpr q) (λb u hb q=>by
    rcases q with q|q
    .exactλ⟨j,h1,h2⟩=>q.2 j h1.ol.top h2
    .exactλw=>E2.dI w hb q) λb q hb=> ⟨q,hb⟩
  refine nZ (RR:=λacc C=>compPost (model X.prog X.w) X.A X.xe none (EP X e8 Z Q) acc C) hc S I2 h2 h3 f2 T yU (λC s' H' =>B.g cl C s' H' fp) (λC s' H' =>B.t cl C s' H' fp) (λC s' H' =>B.e cl C s' H' fp) E2 io yD hz yj ?_;intro p C s' H' m IX hm hC hF G;obtain⟨g1,g2,vs,g3,g4⟩:=G;have hA:H' a=some (.frz o (.dT ws)):=g1 a _ ay;have y1:p≠a:=λz=>by subst z;rw[ay] at g2;cases g2
  refine⟨m,hm,λh' xO => ⟨.ref p,upd H' a (.dT ws),(IX.GZ hF xO).Ms hA zy,rfl, ?_⟩⟩;have sm:bR H (upd H' a (.dT ws)):=λb u q=>by
   by_cases z:b=a
   .subst z;rw[ay,<-q,hH]
   .rw[ag z];exact g1 b u (by rw[ag z];exact q)
  have Ta :(upd H' a (.dT ws)) p=some (.lst vs):=by rw[ag y1];exact g3
  refine k _ _ sm ⟨p,rfl,by rw[ag y1] at g2;exact g2,⟨_,Ta,trivial⟩,rfl,.lst (.inl Ta) ⟨g4.1,λj d v e1 e2=> ?_⟩⟩;have r1:=Rep.Ms hA (λq=>na ((Sn a).mp q.1)) (g4.2 j d v e1 e2);exact r1.imp λb q=> ⟨(Sn b).mp q.1,q.2⟩
 .cases e
theorem uW{x1}{t:DT}{f:DE}{x:Str}{px:Pos}(hN:X.N[i]? =some x)(hv:Vis X.env.scope x)(hc:X.calm=true)(S:ij X scope N n ax)
  (yD:qu gd)(B:Blk X scope N (.Tuple elts x1 tp) elt ifs gd t f)(hd:(x==("__debug__":Str))=false:=by decide)(xu:(x==("__classdict__":Str))=false:=by decide)
  (eW:attributeBase (.Name x px) "items" X.env (eval (.Name x px) X.env)=eval (.Name x px) X.env:=by rfl)(eV:(apos.endLine==eE.line)=true:=by rfl)
  (hs:∀y,foldedSetIterable (.Call (.Attribute (.Name x px) "items" apos) [] [] eE) X.env y=pure y:=by intro _;rfl):
  PEd X (.ListComp elt [⟨.Tuple elts x1 tp,.Call (.Attribute (.Name x px) "items" apos) [] [] eE,ifs,0⟩] scope pos) (uB cN i n ax gd t f):=Hx hc S (A1 (jw hN hv hd xu) eW eV) qC yD B hs
end
open PySem.W (KatLex KatTups kas_sort kas_ask kat_kind kat_lt kat_one kat_run kat_snds BoolBack kat_lt_int)
section
variable{K:ao}{H0 H H' H1:Hp}{eD R9 :Addr->Prop}{env eP :Env}{Z Z' :St}{d:D}{v:V}{a p:Addr}{i j:Nat}{as:List Addr}{eh:List (List D)}
theorem Hy(nb:D1 env=true){k:Nat}(e:env[k]? =some (some (.bor d))):False:=by
 have:=Gao.mp nb _ (GaD e);cases this
theorem au.Hz{o o' :HO}(E:au K H0 eD env Z H)(hb:eD a)(h0:H0 a=none)(h:H a=some o)(ho:¬isT o)(nb:D1 env=true):au K H0 eD env Z (upd H a o'):=by
 have de:fS (Cln eD env Z) H (upd H a o'):=λb x hx q=>by
  have:b≠a:=by
   rintro rfl;rcases q with q|q
   .exact q.1 hb
   .rw[h] at hx;cases hx;exact ho q
  rw[ag this];exact hx
 refine⟨λb x hx=> ?_,E.len,λb q z=> ?_,λk dk e=> ?_,λk dk e=> ?_,λk dk e=>(Hy nb e).elim,E.dj⟩
 .have:b≠a:=by rintro rfl;rw[h0] at hx;cases hx
  rw[ag this];exact E.same b x hx
 .by_cases m:b=a
  .subst m;rw[ay] at z;cases z
  .rw[ag m] at z;exact E.bad b q z
 .obtain⟨u,h1,h2⟩:=E.sh k dk e;exact⟨u,h1,h2.gen de λ_ f _=>f⟩
 .obtain⟨b,h1,h2,h3,h4,h5,h6⟩:=E.ow k dk e;have m:b≠a:=λz=>h3 (z▸hb);refine⟨b,h1,h2,h3, ?_,h5,h6.gen de (λ_ f _=>f) λc ec _ x hx=> ?_⟩
  .unfold Wr;rw[ag m];exact h4
  .cases ec;rw[ag m];exact hx
theorem au.hide(E:au K H0 eD env Z H)(i:Nat)(v:V):au K H0 eD (env.set i none) (Z.set i (some v)) H:=by
 have hU:∀{k:Nat},aW (env.set i none)[k]? ->i≠k/\aW env[k]? :=λ{k} t=>by
  by_cases q:i=k
  .subst q;by_cases z:i<env.length
   .rw[bV z] at t;exact t.elim
   .rw[Gbj (by simpa using Nat.le_of_not_lt z)] at t;exact t.elim
  .rw[Gae q] at t;exact⟨q,t⟩
 have xh:∀b,Cln eD env Z b->Cln eD (env.set i none) (Z.set i (some v)) b:=λb h=> ⟨h.1,λk t e=>by
  obtain⟨q,t⟩:=hU t;rw[Gae q] at e;exact h.2 k t e⟩
 refine⟨E.same,by simp[E.len],E.bad,λk dk e=> ?_,λk dk e=> ?_,λk dk e=> ?_,λk l b t1 t2 e1 e2=> ?_⟩
 .rcases eG e with⟨q,e⟩| ⟨q,e⟩
  .cases e
  .obtain⟨u,h1,h2⟩:=E.sh k dk e;exact⟨u,by rw[Gae q];exact h1,h2.imp xh⟩
 .have e' :i≠k/\(env[k]? =some (some (.own dk))\/env[k]? =some (some (.lok dk))):=by
   rcases e with e|e
   .rcases eG e with⟨q,e⟩| ⟨q,e⟩
    .cases e
    .exact⟨q,.inl e⟩
   .rcases eG e with⟨q,e⟩| ⟨q,e⟩
    .cases e
    .exact⟨q,.inr e⟩
  obtain⟨b,h1,h2,h3,h4,h5,h6⟩:=E.ow k dk e'.2;exact⟨b,by rw[Gae e'.1];exact h1,h2,h3,h4,h5,h6.imp xh⟩
 .rcases eG e with⟨q,e⟩| ⟨q,e⟩
  .cases e
  .obtain⟨b,h1,hw,h2,h3⟩:=E.bo k dk e;exact⟨b,by rw[Gae q];exact h1,hw,h2,h3.imp xh⟩
 .obtain⟨q1,yS⟩:=hU t1.top;obtain⟨q2,t2⟩:=hU t2;rw[Gae q1] at e1 t1;rw[Gae q2] at e2;exact E.dj k l b t1 t2 e1 e2
theorem au.Dp{New:Addr->Prop}(E:au K H0 eD env Z H)(s:bR H H')(h1:∀b,New b->H b=none)(h2:∀b,New b->H' b≠none):au K H0 (λb=>eD b\/New b) env Z H' :=by
 have xh:∀b,Cln eD env Z b->H b≠none->Cln (λb=>eD b\/New b) env Z b:=λb h n=> ⟨λq=>q.elim h.1 λz=>n (h1 b z),h.2⟩;refine⟨E.same.trans s,E.len,λb q z=>q.elim (λq=>E.bad b q (s.free z)) λq=>h2 b q z,λk dk e=> ?_,λk dk e=> ?_,λk dk e=> ?_,E.dj⟩
 .obtain⟨u,q1,q2⟩:=E.sh k dk e;exact⟨u,q1,q2.gen (.of_same s) xh⟩
 .obtain⟨b,q1,q2,q3,q4,q5,q6⟩:=E.ow k dk e;exact⟨b,q1,q2,λz=>z.elim q3 λz=>q4.there (h1 b z),q4.same s,q5,q6.gen (.of_same s) xh λc ec _ x hx=>s c x hx⟩
 .obtain⟨b,q1,qw,q2,q3⟩:=E.bo k dk e;exact⟨b,q1,qw.same s,q2,q3.gen (.of_same s) xh λc ec _ x hx=>s c x hx⟩
end
open PySem.W (kas_item)
open PySem.W (kas_item kas_swaps_map)
section
variable{prog:Program}{w:World}{A:Around}{E:Value->Shared->Prop}{s:Shared}
theorem uX{ds:List D}{vs:List Value}(hK:Paired (j8 s.heap) ds vs)(hok:keysOk ds=true):uS prog w A E s (ds.map code) vs:=λh2 Q hQ=>by
 have hl:=hK.length;exact tL hK hok (by lia) λY hY=>hQ Y λi j C hi hj hc=>wR hK hok hY i j C (by lia) (by lia) hc
theorem F5{h G:Heap}(kG:∀b o,h.get? b=some o->G.get? b=some o){d:D}{v:Value}(k:j8 h d v):j8 G d v:=by
 cases d with
 |int i=>exact k
 |tup fs=>
  obtain⟨b,o,m,us,h1,h2,h3,h4⟩:=k;exact⟨b,o,m,us,h1,kG b o h2,h3,h4⟩
 |_=>exact k
end
def Ris(xs:Array Nat):Prop:=∀i j:Nat,i<j->∀x y,xs[i]? =some x->xs[j]? =some y->x<y
def Bel(xs:Array Nat)(j r:Nat):Prop:=r<=xs.size/\(∀(i x:Nat),i<r->xs[i]? =some x->x<j)/\∀(i x:Nat),r<=i->xs[i]? =some x->j<=x
theorem qD{xs:Array Nat}{j:Nat}(hr:Ris xs):∀(f lo hi:Nat),lo<=hi->hi<=xs.size->hi -lo<=f->(∀(i x:Nat),i<lo->xs[i]? =some x->x<j)->(∀(i x:Nat),hi<=i->xs[i]? =some x->j<=x)->Bel xs j (SetTable.below.go xs j f lo hi)
 |0,lo,hi,h1,h2,h3,h4,h5=>by
  have e:lo=hi:=by lia
  subst e;exact⟨h2,h4,h5⟩
 |f+1,lo,hi,h1,h2,h3,h4,h5=>by
  unfold SetTable.below.go;by_cases c:lo<hi
  .rw[Gaj c];have hm:(lo+hi)/2<xs.size:=by lia
   have gm:xs[(lo+hi)/2]? =some xs[(lo+hi)/2]:=GaA hm;have gd:xs.getD ((lo+hi)/2) j=xs[(lo+hi)/2]:=by simp[Array.getD,hm]
   dsimp only;rw[gd];by_cases c2:xs[(lo+hi)/2]<j
   .rw[Gaj c2];refine qD hr f _ _ (by lia) h2 (by lia) (λi x eZ hx=> ?_) h5;rcases Gbg i ((lo+hi)/2) with q|q
    .have:=hr i _ q x _ hx gm;lia
    .rw[show i=(lo+hi)/2 by lia,gm] at hx;cases hx;exact c2
   .rw[Gai c2];refine qD hr f _ _ (by lia) (by lia) (by lia) h4 (λi x eZ hx=> ?_);rcases Gbg ((lo+hi)/2) i with q|q
    .have:=hr _ i q _ x gm hx;lia
    .rw[show i=(lo+hi)/2 by lia,gm] at hx;cases hx;lia
  .rw[Gai c];have e:lo=hi:=by lia
   subst e;exact⟨h2,h4,h5⟩
variable{j:Nat}{xs:Array Nat}
theorem iP(hr:Ris xs):Bel xs j (SetTable.below xs j):=
 qD hr xs.size 0 xs.size (Gba _) (Gap _) (by lia) (λi x hi=>by lia) (λi x hi hx=>by
  rw[GbP hi] at hx;cases hx)
theorem uY{p i:Nat}(hp:p<=xs.size):(SetTable.insertAt xs p j)[i]? =if i<p then xs[i]? else if i=p then some j else xs[i -1]? :=by
 have e:(SetTable.insertAt xs p j)[i]? =(SetTable.insertAt xs p j).toList[i]? :=by simp
 rw[e,Gcz];have l1:(xs.toList.take p).length=p:=by simp;lia
 by_cases c:i<p
 .rw[Gaj c,GaQ (by rw[l1];exact c),Gcv c];simp
 .rw[Gai c,GaK (by rw[l1];lia),l1];by_cases c2:i=p
  .rw[Gaj c2,c2,GdQ];rfl
  .rw[Gai c2,show i -p=(i -p -1)+1 by lia,GcD,Gdm,show p+(i -p -1)=i -1 by lia];simp
theorem BY(hr:Ris xs)(hn:xs[SetTable.below xs j]? ≠some j):Ris (SetTable.insertAt xs (SetTable.below xs j) j):=by
 obtain⟨b1,b2,b3⟩:=iP (j:=j) hr;generalize SetTable.below xs j=p at*;have b3' :∀(i x:Nat),p<=i->xs[i]? =some x->j<x:=λi x hi hx=>by
  have h1:=b3 i x hi hx;rcases Gbg j x with q|q
  .exact q
  .have e:x=j:=by lia
   subst e;rcases Gbg p i with c|c
   .obtain⟨y,hy⟩:∃y,xs[p]? =some y:=⟨xs[p]'(by
     have:i<xs.size:=by
      rcases Gbg i xs.size with z|z
      .exact z
      .rw[GbP z] at hx;cases hx
     lia),GaA _⟩
    have h2:=b3 p y (Gap _) hy;have h3:=hr p i c y x hy hx;lia
   .rw[show i=p by lia] at hx;exact absurd hx hn
 intro i k hik x y hx hy;rw[uY b1] at hx hy;by_cases c1:i<p
 .rw[Gaj c1] at hx;by_cases c2:k<p
  .rw[Gaj c2] at hy;exact hr i k hik x y hx hy
  .rw[Gai c2] at hy;have h1:=b2 i x c1 hx;by_cases c3:k=p
   .rw[Gaj c3] at hy;cases hy;exact h1
   .rw[Gai c3] at hy;have:=b3' (k -1) y (by lia) hy;lia
 .rw[Gai c1,] at hx;rw[Gai (by lia)] at hy;by_cases c2:i=p
  .rw[Gaj c2] at hx;cases hx
   rw[Gai (by lia)] at hy;exact b3' (k -1) y (by lia) hy
  .rw[Gai c2] at hx;rw[Gai (by lia)] at hy;exact hr (i -1) (k -1) (by lia) x y hx hy
def Tb(bt:Bool)(t:SetTable):Prop:=t.led= !bt/\(t.plain=true->Ris t.place)
theorem A3{n:Nat}{g:Nat->Option Nat}:Ris (((List.range n).filterMap λj=>(g j).map λk=>(j,k)).map (·.1)).toArray:=by
 have pw:∀(l:List Nat),l.Pairwise (· < ·)->((l.filterMap λj=>(g j).map λk=>(j,k)).map (·.1)).Pairwise (· < ·):=by
  intro l;induction l with
  |nil=>intro _;exact List.Pairwise.nil
  |cons a l ih=>
   intro h;have h' :=GaY.mp h;rw[GcA];cases hg:g a with
   |none=>simpa[hg] using ih h'.2
   |some k=>
    simp only[hg,GbL,Gay];refine GaY.mpr ⟨λb hb=> ?_,ih h'.2⟩;obtain⟨q,hq,rfl⟩:=Gax.mp hb;obtain⟨j,hj,e⟩:=Gdj.mp hq;cases hgj:g j with
    |none=>rw[hgj] at e;cases e
    |some k' =>rw[hgj] at e;cases e;exact h'.1 j hj
 have:=pw (List.range n) List.pairwise_lt_range;intro i j yk x y hx hy;generalize ((List.range n).filterMap λj=>(g j).map λk=>(j,k)).map (·.1)=l at*;have zH :l[i]? =some x:=by simpa using hx
 have hy' :l[j]? =some y:=by simpa using hy
 obtain⟨h1,rfl⟩:=Gal.mp zH;obtain⟨h2,rfl⟩:=Gal.mp hy';exact Gdh.mp this i j h1 h2 yk
section
variable{prog:Program}{w:World}{A:Around}{E:Value->Shared->Prop}{z:Shared}
def SAt(g:Heap)(a:Addr)(es:Array (Int×Value))(t:SetTable):Prop:=∃o ep,g.get? a=some o/\o.ExactSet/\o.data= .set es ep t
theorem Dq{a:Addr}{es fs:Array (Int×Value)}{t u:SetTable}{Q:Unit->Shared->Prop}(x:SAt z.heap a es t)(b:fs.size<=sizeLine)(h:∀g,SAt g a fs u/\Heap.SameBut a z.heap g->Q () {z with heap:=g}):wpAny (model prog w) A (storeSet a fs u) Q E z:=by
 obtain⟨o,ep,ho,hx,hd⟩:=x;have q:=GaX (Obj.putSet fs u) ho (by rw[putSet_of fs u hd];rfl);rw[putSet_of fs u hd] at q;exact wpAny_storeSet_of ho hd (h _ ⟨⟨_,_,q,hx,rfl⟩,GbE ..⟩) b
end
section
variable{prog:Program}{w:World}{A:Around}{R:Result->Shared->Prop}
theorem tP{S I:Addr}{n:Nat}(J:Nat->Shared->Prop)
  (step:∀i s Q E,i<n->J i s->(∀v s',(∀(Q' :Bool->Shared->Prop) E',(∀b y,J (i+1) y->Q' b y)->wpAny (model prog w) A.in1 (setAdd S v) Q' E' s')->Q (some v) s')->wpAny (model prog w) A.in1 (pyNext (.ref I)) Q E s)
  (stop:∀s Q E,J n s->(∀s',R (.ok (.ret .none)) s' ->Q none s')->wpAny (model prog w) A.in1 (pyNext (.ref I)) Q E s):
  ∀k i s,i+k=n->J i s->codeAny (model prog w) A (.builtin "set.update.loop" ⟨[.ref S,.ref I],[]⟩) R s
 |0,i,s,hk,j=>by
  subst hk;apply GbX Gdp;rw[GbY Gcl];exact Gaa (stop s _ _ j λs' r=>Gac r)
 |k+1,i,s,hk,j=>by
  apply GbX Gdp;rw[GbY Gcl];exact Gaa (step i s _ _ (by lia) j λv s' add=>Gaa (GbK (add _ _ λb y q=>Gac ⟨GdB Gcl _,tP J step stop k (i+1) y (by lia) q⟩)))
end
noncomputable def jO(w:World):Bool:=w.params.followText "set-order"
section
variable{prog:Program}{w:World}{A:Around}{E:Value->Shared->Prop}{z:Shared}
noncomputable abbrev qE(w:World):Obj:={cls:= .type "set",dict:=none,data:= .set #[] 0 (.fresh 0 0 (!jO w))}
theorem after{c:Code}{Q:Value->Shared->Prop}{R:Result->Shared->Prop}(h:codeAny (model prog w) A c (wants Q E) z)(k:∀v s',Q v s' ->R (.ok (.ret v)) s')(e:∀x s',E x s' ->R (.error x) s'):codeAny (model prog w) A c R z:=by
 refine codeAny_mono h ?_;rintro(x|(v|_|_|_)) s' q
 .exact e x s' q
 all_goals first|exact k _ s' q|exact q.elim
theorem HA(a:Value){R:Value->Shared->Prop}(h:R (.ref z.heap.objs.size) {z with heap:=z.heap.push (qE w)}):codeAny (model prog w) A (.call (.builtin "set.__new__") ⟨[.type "set",a],[]⟩) (wants R E) z:=by
 have c:=PySem.F.newCall_set_1 a;have q:Code.quiet (.builtin "set.__new__" ⟨[.type "set",a],[]⟩)=true:=GdB PySem.F.plain_set_new _;have sub:=PySem.sub_set_self;apply codeAny_of_tree;refine Gaa (Gdg c (Gac ⟨q,GbX PySem.F.entry_set_new ?_⟩));rw[GbY PySem.F.plain_set_new]
 wp_walk using wpAny_askSetting
 exact h
theorem Mu{l:Addr}{items:Array Value}{R:Value->Shared->Prop}(hl:z.heap.IsList l items)
  (h:∀h1:Heap,h1.get? z.heap.objs.size=some (qE w)->h1.IsListIter (z.heap.objs.size+1) l 0->(∀b o,z.heap.get? b=some o->h1.get? b=some o)->
   codeAny (model prog w) A.in1.in1 (.builtin "set.update.loop" ⟨[.ref z.heap.objs.size,.ref (z.heap.objs.size+1)],[]⟩) (wants (λ_ s' =>R (.ref z.heap.objs.size) s') E) {z with heap:=h1}):
  wpAny (model prog w) A (call (.type "set") [.ref l]) R E z:=by
 obtain⟨c,tl,mro⟩:=GbJ.mro;have made:=GbJ.made;have sub:=GbJ.sub;have nt:=GbJ.notType;have cc:=GbJ.canCreate;have ct:=PySem.F.typeCall_set_1 (.ref l);apply wpAny_call;apply codeAny_of_tree;refine Gac ⟨Code.quiet_builtin _ (by decide+kernel), ?_⟩;apply GbX PySem.F.entry_type_call;rw[Around.under_plain (weight_type_call_type "set" [.ref l] []) rfl]
 wp_walk
 refine after (HA (.ref l) (R:=λo y=>o= .ref z.heap.objs.size/\y={z with heap:=z.heap.push (qE w)}) ⟨rfl,rfl⟩) ?_ λ_ _ q=>q;rintro _ _ ⟨rfl,rfl⟩;have eS:(z.heap.push (qE w)).get? z.heap.objs.size=some (qE w):=Gaw _ rfl;have tS:Shared.TypeIs {z with heap:=z.heap.push (qE w)} (.ref z.heap.objs.size) "set":=⟨_,eS,rfl⟩
 have lo:=GbJ.init.lookup;have bi:=GbJ.init.bind (.ref z.heap.objs.size)
 wp_walk
 refine after (Q:=λr s' =>r= .none/\R (.ref z.heap.objs.size) s') (E:=E) ?_ (λv s' q=> ?_) λ_ _ q=>q
 .apply codeAny_call_builtin GbJ.init.plain PySem.F.entry_set_init;apply PySem.check_set_init_1 tS;obtain⟨⟨oc,od,dt,sl⟩,ho,hc,n,hd⟩:=hl;cases hc;cases hd
  have el:=Gaf (qE w) ho;have s1:=PySem.F.sub_list_set;have s2:=PySem.F.sub_list_frozenset;have nd:(Value.type "list"==Value.type "dict")=false:=rfl;have il:(z.heap.push (qE w)).IsList l items:=⟨_,el,rfl,n,rfl⟩
  clear mro made nt cc ct lo bi
  wp_walk using wpAny_pyIter_list il
  have sz:(z.heap.push (qE w)).objs.size=z.heap.objs.size+1:=Gce ..;rw[show Shared.heap {z with heap:=z.heap.push (qE w)}=z.heap.push (qE w) from rfl,sz];exact after (h _ (Gaf _ eS) ⟨_,sz▸Gaw _ rfl,rfl,rfl⟩ λb o q=>Gaf _ (Gaf _ q)) (λv s' q=>Gac (Gac ⟨rfl,q⟩)) λ_ _ q=>q
 .obtain⟨rfl,q⟩:=q
  wp_walk
  exact q
end
namespace Fr
theorem tQ:Manifest.owners.lookup (String.ofList ['r', 'o', 't', 'a', 'r', 'e', 't', 'i', '_', 't', 'e', 's'].reverse)=some Manifest.sig_set_iterator:=by kernel_rfl
theorem qF:isSubtype (.type "set_iterator") (.type "set_iterator")=pure true:=by rw[isSubtype_type];kernel_rfl
theorem bT:PySem.Slot "set_iterator" "__next__" "set_iterator.__next__":=
 .of (owner:="set_iterator") (n:="__next__") (by rw[GdR,GcW];kernel_rfl) (by decide+kernel) (by decide+kernel) (by decide+kernel) (.inl (by decide+kernel)) qF
theorem d4:entryFor table "set_iterator.__next__"=some Builtin.«set_iterator.__next__» :=entryFor_of_tree (by kernel_rfl)
theorem dG(a:Value):argsOk "set_iterator.__next__" ⟨[a],[]⟩:=by
 unfold argsOk;rw[signature?_of (id:="set_iterator.__next__") (n:=['_', '_', 't', 'x', 'e', 'n', '_', '_']) (o:=['r', 'o', 't', 'a', 'r', 'e', 't', 'i', '_', 't', 'e', 's']) (by kernel_rfl) tQ]
 kernel_rfl
theorem qG:PySem.Slot "set_iterator" "__iter__" "set_iterator.__iter__":=
 .of (owner:="set_iterator") (n:="__iter__") (by rw[GdR,GcW];kernel_rfl) (by decide+kernel) (by decide+kernel) (by decide+kernel) (.inl (by decide+kernel)) qF
theorem p8(a:Value):argsOk "set_iterator.__iter__" ⟨[a],[]⟩:=by
 unfold argsOk;rw[signature?_of (id:="set_iterator.__iter__") (n:=['_', '_', 'r', 'e', 't', 'i', '_', '_']) (o:=['r', 'o', 't', 'a', 'r', 'e', 't', 'i', '_', 't', 'e', 's']) (by kernel_rfl) tQ]
 kernel_rfl
theorem o5:entryFor table "set_iterator.__iter__"=some Builtin.«dict_keyiterator.__iter__» :=
 entryFor_alias (id' :="dict_keyiterator.__iter__") (by kernel_rfl) (by decide+kernel) (by decide+kernel) (by kernel_rfl)
theorem qH:isSubtype (.type "set") (.type "set")=pure true:=by rw[isSubtype_type];kernel_rfl
theorem K9:Manifest.owners.lookup (String.ofList ['t', 'e', 's'].reverse)=some Manifest.sig_set:=by kernel_rfl
theorem A4:PySem.Slot "set" "__iter__" "set.__iter__":=
 .of (owner:="set") (n:="__iter__") (by rw[GdR,GcW];kernel_rfl) (by decide+kernel) (by decide+kernel) (by decide+kernel) (.inl (by decide+kernel)) qH
theorem Ka:PySem.Slot "set" "__len__" "set.__len__":=
 .of (owner:="set") (n:="__len__") (by rw[GdR,GcW];kernel_rfl) (by decide+kernel) (by decide+kernel) (by decide+kernel) (.inl (by decide+kernel)) qH
theorem se(a:Value):argsOk "set.__iter__" ⟨[a],[]⟩:=by
 unfold argsOk;rw[signature?_of (id:="set.__iter__") (n:=['_', '_', 'r', 'e', 't', 'i', '_', '_']) (o:=['t', 'e', 's']) (by kernel_rfl) K9]
 kernel_rfl
theorem qI:entryFor table "set.__iter__"=some Builtin.«frozenset.__iter__» :=
 entryFor_alias (id' :="frozenset.__iter__") (by kernel_rfl) (by decide+kernel) (by decide+kernel) (by kernel_rfl)
end Fr
theorem lH{α:Type}:∀(xs:List α) (i:Nat) (h:i<xs.length),(xs[i]::xs.eraseIdx i).Perm xs
 |x::xs,0,h=>by simp
 |x::xs,i+1,h=>by
  have h' :i<xs.length:=by simpa using h
  simp only[List.getElem_cons_succ,List.eraseIdx_cons_succ];exact(List.Perm.swap _ _ _).trans ((lH xs i h').cons x)
theorem Dr{α:Type}{next:Nat->Nat}:∀(f k:Nat) (left:List α) (out:Array α),left.length=f->(pickOrder.go next f k left out).toList.Perm (out.toList++left)
 |0,k,left,out,e=>by
  have:left=[]:=Gbu.mp e;subst this;simp[pickOrder.go]
 |f+1,k,left,out,e=>by
  have hl:next k%left.length<left.length:=Gdd _ (by lia);unfold pickOrder.go;rw[Gab hl];dsimp only;refine(Dr f (k+1) _ _ (by rw[List.length_eraseIdx_of_lt hl];lia)).trans ?_;rw[Array.toList_push,GaW];refine List.Perm.append_left _ ?_;exact(lH _ _ hl)
theorem tR{α:Type}(next:Nat->Nat)(xs:Array α):(pickOrder next xs).toList.Perm xs.toList:=by
 have:=Dr (next:=next) xs.size 0 xs.toList #[] (by simp)
 simpa[pickOrder] using this
section
variable{prog:Program}{w:World}{A:Around}{E:Value->Shared->Prop}{z:Shared}
theorem uZ{α:Type}(n:Nat):∀(xs:List α) (z:Shared) (Q:List α->Shared->Prop),xs.length=n->(∀ys d,ys.Perm xs->Q ys {z with drawn:=d})->wpAny (model prog w) A (drawOrder n xs) Q E z:=by
 induction n with
 |zero=>
  intro xs z Q e h;have:xs=[]:=Gbu.mp e;subst this;exact Gac (h [] z.drawn (List.Perm.refl _))
 |succ n ih=>
  intro xs z Q e h;cases xs with
  |nil=>cases e
  |cons x xs=>
  unfold drawOrder;refine Gaa (λΓ p hΓ=> ⟨Nat.succ_ne_zero _, ?_⟩)
  suffices hs:∀(i:Nat),i<(x::xs).length->wpAny (model prog w) A (match(x::xs)[i]? with|some y=>(do return y::(<-drawOrder n ((x::xs).eraseIdx i)))|none=>unsupported "internal:drawOrder") Q E {z with drawn:=z.drawn.bump .order} from hs _ (Gdd _ (Gcy _))
  intro i hi;rw[Gab hi];dsimp only;refine Gaa (ih _ _ _ (by rw[List.length_eraseIdx_of_lt hi];lia) λys d hp=> ?_);exact Gac (h _ d ((hp.cons _).trans (lH _ _ hi)))
def lI(h:Heap)(a:Addr)(es:Array (Int×Value))(ep:Nat)(t:SetTable):Prop:=∃o,h.get? a=some o/\o.ExactSet/\o.data= .set es ep t
variable{ep:Nat}{es:Array (Int×Value)}{a:Addr}{h h' :Heap}
theorem lI.at{t:SetTable}(x:lI h a es ep t)(e:∀o,h.get? a=some o->h'.get? a=some o):lI h' a es ep t:=let⟨o,ho,r⟩:=x;⟨o,e _ ho,r⟩
theorem lI.ty{t:SetTable}(x:lI z.heap a es ep t):z.TypeIs (.ref a) "set":=let⟨o,ho,hc,_⟩:=x;⟨o,ho,hc.1⟩
inductive Way (w:World) (a:Addr) (es:Array (Int×Value)) (ep:Nat) (t:SetTable) (h:Heap) (tp:Addr):Value->Nat->List (Int×Value)->Prop
 |text {i:Nat}:jO w=true->Way w a es ep t h tp (rawInt 0) i (pickOrder (w.params.setOrder a ep) es).toList
 |drawn {i:Nat} {ps:List Nat}:IsTup h tp (ps.map λ(j:Nat)=>rawInt j).toArray->ps.Perm (List.range es.size)->Way w a es ep t h tp (.ref tp) i (ps.map λj=>es.getD j (0,.none))
 |plain {i:Nat} {s:Nat}:jO w=false->¬(t.plain=false/\es.size>1)->Ris t.place->t.led=true->(s=if i=0 then 0 else t.place.getD (i -1) 0+1)->Way w a es ep t h tp (rawInt s) i es.toList
def fV(w:World)(h:Heap)(it a tp:Addr)(es:Array (Int×Value))(ep:Nat)(t:SetTable)(xs:List (Int×Value))(i:Nat):Prop:=
 ∃o first,h.get? it=some o/\o.cls= .type "set_iterator"/\o.data= .fields #[first,rawInt i,.ref a,rawInt es.size,rawInt ep]/\Way w a es ep t h tp first i xs
variable{xs:List (Int×Value)}{i:Nat}{tp:Addr}
theorem Way.perm{t:SetTable}{f:Value}(x:Way w a es ep t h tp f i xs):xs.Perm es.toList:=by
 cases x with
 |text _=>exact tR _ _
 |drawn _ hp=>
  refine(hp.map _).trans ?_;have:(List.range es.size).map (λj=>es.getD j (0,Value.none))=es.toList:=by
   apply Gdc
   .simp
   .intro i h1 h2;simp at h1 h2⊢;simp[Array.getD,h2]
  rw[this]
 |plain _ _ _ _ _=>exact List.Perm.refl _
theorem below_at{xs:Array Nat}(hr:Ris xs)(hi:i<=xs.size):SetTable.below xs (if i=0 then 0 else xs.getD (i -1) 0+1)=i:=by
 obtain⟨h1,h2,h3⟩:=iP (j:=if i=0 then 0 else xs.getD (i -1) 0+1) hr;generalize SetTable.below xs (if i=0 then 0 else xs.getD (i -1) 0+1)=r at*;by_cases c:i=0
 .subst c;simp only[Gaj] at h2;rcases Nat.eq_zero_or_pos r with q|q
  .exact q
  .have:=h2 0 xs[0] q (GaA _);exact absurd this (Nat.not_lt_zero _)
 .simp only[Gai c] at h2 h3;have hg:xs.getD (i -1) 0=xs[i -1]'(by lia):=by simp[Array.getD,show i -1<xs.size by lia]
  rw[hg] at h2 h3;have g1:xs[i -1]? =some (xs[i -1]'(by lia)):=GaA _;have a1:i<=r:=by
   rcases Gbg r i with q|q
   .have:=h3 (i -1) _ (by lia) g1;lia
   .exact q
  have a2:r<=i:=by
   rcases Gbg i r with q|q
   .have g2:xs[i]? =some (xs[i]'(by lia)):=GaA _;have b1:=h2 i _ q g2;have b2:=hr (i -1) i (by lia) _ _ g1 g2;lia
   .exact q
  lia
variable{it:Addr}
theorem fV.ty{t:SetTable}(x:fV w z.heap it a tp es ep t xs i):z.TypeIs (.ref it) "set_iterator":=let⟨o,f,ho,hc,_⟩:=x;⟨o,ho,hc⟩
theorem kz{Q:Bool->Shared->Prop}(h:Q (jO w) z):wpAny (model prog w) A setsByText Q E z:=Gaa (wpAny_askSetting (Gac h))
variable{s:Nat}
theorem qJ{t:SetTable}{Q:Option (Value×Nat)->Shared->Prop}(hm:lI z.heap a es ep t)(hf:t.fits es.size=true)
  (h1:jO w=false)(h2:¬(t.plain=false/\es.size>1))(h3:Ris t.place)(h4:t.led=true)(hi:i<=es.size)(hs:s=if i=0 then 0 else t.place.getD (i -1) 0+1)
  (h:Q (es[i]?.map λe=>(e.2,t.place.getD i 0+1)) z):wpAny (model prog w) A (setNext a s i ep) Q E z:=by
 obtain⟨o,ho,hx,hd⟩:=hm;have hsz:t.place.size=es.size:=by
  unfold SetTable.fits at hf;simp at hf;lia
 unfold setNext;refine Gaa (GaT ho hd hf (Gaa (kz ?_)));dsimp only;rw[h1];simp only[Gbe,GbR];show wpAny _ _ (if(!t.plain&&decide (es.size>1))=true then _ else _) _ _ z;rw[Gai (by intro q;simp at q;exact h2 q)];show wpAny _ _ ((if(!t.led&& !es.isEmpty)=true then unsupported "set:maker-not-led" else pure ())>>=_) _ _ z;rw[Gai (by rw[h4];simp)];refine Gaa (Gac ?_);have hb:SetTable.below t.place s=i:=by rw[hs];exact below_at h3 (by lia)
 rw[hb];refine Gac ?_;rcases Gbg i es.size with c|c
 .rw[GaA c] at h⊢;rw[GaA (show i<t.place.size by lia)];have:t.place.getD i 0=t.place[i]'(by lia):=by simp[Array.getD,show i<t.place.size by lia]
  rw[this] at h;exact h
 .rw[GbP c] at h⊢;exact h
theorem tU{t:SetTable}{Q:Option (Value×Nat)->Shared->Prop}(hm:lI z.heap a es ep t)(hf:t.fits es.size=true)
  (h1:jO w=true)(h:Q ((pickOrder (w.params.setOrder a ep) es)[i]?.map λe=>(e.2,s)) z):wpAny (model prog w) A (setNext a s i ep) Q E z:=by
 obtain⟨o,ho,hx,hd⟩:=hm;unfold setNext;refine Gaa (GaT ho hd hf (Gaa (kz ?_)));dsimp only;rw[h1];simp only[Gca];rw[Gai (by simp)];refine Gaa ?_;unfold setWalk;refine Gaa (GaT ho hd hf (Gaa (kz ?_)))
 try dsimp only
 rw[h1];simp only[Gca];refine Gaa (wpAny_askSetting (Gac ?_));exact Gac h
theorem BZ{j:Nat}{t:SetTable}{Q:Value->Shared->Prop}(hm:lI z.heap a es ep t)(hf:t.fits es.size=true)(hj:j<es.size)
  (h:Q es[j].2 z):wpAny (model prog w) A (setNextDrawn a j ep) Q E z:=by
 obtain⟨o,ho,hx,hd⟩:=hm;unfold setNextDrawn;refine Gaa (GaT ho hd hf ?_)
 try dsimp only
 rw[Gai (by simp),GaA hj];exact Gac h
theorem F6{vs:Array Value}(x:IsTup h tp vs)(xy:tp≠it)(sb:Heap.SameBut it h h'):IsTup h' tp vs:=by
 obtain⟨o,ho,r⟩:=x;exact⟨o,(sb.2 tp xy).trans ho,r⟩
theorem HB{t:SetTable}{e:Int×Value}{Q:Option Value->Shared->Prop}(hit:fV w z.heap it a tp es ep t xs i)(hm:lI z.heap a es ep t)(hf:t.fits es.size=true)(xy:tp≠it)(hx:xs[i]? =some e)
  (hQ:∀h',fV w h' it a tp es ep t xs (i+1)->Heap.SameBut it z.heap h' ->Q (some e.2) {z with heap:=h' }):wpAny (model prog w) A (pyNext (.ref it)) Q E z:=by
 obtain⟨o,first,ho,hc,hd,hw⟩:=id hit;obtain⟨os,ye,Rh,xr⟩:=id hm;have hl:i<es.size:=by
  have h1:=(Gal.mp hx).1;have:=hw.perm.length_eq;simp at this;lia
 unfold pyNext;refine Gaa (wpAny_attempt (Gbt (name:=Str.ofString "__next__") hit.ty Fr.bT (Gbb Fr.bT hit.ty Fr.d4 ?_ (Fr.dG _))));unfold Builtin.«set_iterator.__next__»;refine Gaa (Gdg (a:=(Value.ref it,[])) rfl ?_);dsimp only;refine Gaa (wpAny_fieldsOf ho hd ?_);dsimp only[rawInt];refine Gaa (Gaa (GaT ye xr hf (Gac ?_)));dsimp only;rw[Gai (by simp)];have up:∀(f:Value),Way w a es ep t z.heap tp f (i+1) xs->∀h' o',h'.get? it=some o' ->o'.cls= .type "set_iterator"->o'.data= .fields #[f,rawInt ((i+1:Nat):Int),.ref a,rawInt es.size,rawInt ep]->Heap.SameBut it z.heap h' ->fV w h' it a tp es ep t xs (i+1):=λf Ub h' o' g1 g2 g3 sb=>by
  refine⟨o',f,g1,g2,g3, ?_⟩;cases Ub with
  |text q=>exact .text q
  |drawn q1 q2=>exact .drawn (F6 q1 xy sb) q2
  |plain q1 q2 q3 q4 q5=>exact .plain q1 q2 q3 q4 q5
 cases hw with
 |text hb=>
  dsimp only[rawInt];refine Gaa (tU hm hf hb ?_);have zH :(pickOrder (w.params.setOrder a ep) es)[i]? =some e:=by simpa using hx
  simp only[GaI,zH,GbL];refine Gaa (GcU ho hd (by simp) ?_);have xS:=GaX (Obj.mapFields (·.setIfInBounds 0 (rawInt ((Int.toNat 0:Nat):Int)))) ho (Gcn (Gbv hd _));have hd2:=Gbv hd (·.setIfInBounds 0 (rawInt ((Int.toNat 0:Nat):Int)));refine Gaa (GcU (s:={z with heap:=_}) xS hd2 (by simp) ?_);have sb:=(GbE z.heap it (Obj.mapFields (·.setIfInBounds 0 (rawInt ((Int.toNat 0:Nat):Int))))).trans (GbE _ it (Obj.mapFields (·.setIfInBounds 1 (rawInt ((i:Int)+1)))));refine Gac ⟨e.2,rfl,Gac (hQ _ (up (rawInt 0) (.text hb) _ _ (GaX _ xS (Gcn (Gbv hd2 _))) ((GcQ ..).trans ((GcQ ..).trans hc)) (by rw[Gbv hd2];simp[rawInt]) sb) sb)⟩
 | @drawn _ ps ht hp=>
  obtain⟨p,hpi,rfl⟩:∃p,ps[i]? =some p/\es.getD p (0,Value.none)=e:=by
   rw[Gam] at hx;obtain⟨p,h1,h2⟩:=Gan.mp hx;exact⟨p,h1,h2⟩
  have xw:p<es.size:=by
   have:=hp.mem_iff.mp (GaD hpi)
   simpa using this
  dsimp only;obtain⟨ot,S0,Uh,n,yy⟩:=id ht;refine Gaa (Gcu S0 yy ?_);have hq:(List.map (λ(j:Nat)=>rawInt j) ps).toArray[i]? =some (rawInt p):=by simp[hpi]
  simp only[GaI,hq];dsimp only[rawInt];simp only[GaI];refine Gaa (BZ hm hf xw ?_);refine Gaa (GcU ho hd (by simp) ?_);have sb:=(GbE z.heap it (Obj.mapFields (·.setIfInBounds 1 (rawInt ((i:Int)+1)))))
  have eg:es.getD p (0,Value.none)=es[p]:=by simp[Array.getD,xw]
  rw[eg] at hQ;refine Gac ⟨es[p].2,rfl,Gac (hQ _ (up (.ref tp) (.drawn ht hp) _ _ (GaX _ ho (Gcn (Gbv hd _))) ((GcQ ..).trans hc) (by rw[Gbv hd];simp[rawInt]) sb) sb)⟩
 | @plain _ s q1 q2 q3 q4 q5=>
  dsimp only[rawInt];simp only[GaI];have zH :es[i]? =some e:=by simpa using hx
  refine Gaa (qJ hm hf q1 q2 q3 q4 (GcS hl) q5 ?_);rw[zH];simp only[GbL];refine Gaa (GcU ho hd (by simp) ?_);have xS:=GaX (Obj.mapFields (·.setIfInBounds 0 (rawInt ((t.place.getD i 0+1:Nat):Int)))) ho (Gcn (Gbv hd _));have hd2:=Gbv hd (·.setIfInBounds 0 (rawInt ((t.place.getD i 0+1:Nat):Int)));refine Gaa (GcU (s:={z with heap:=_}) xS hd2 (by simp) ?_);have sb:=(GbE z.heap it (Obj.mapFields (·.setIfInBounds 0 (rawInt ((t.place.getD i 0+1:Nat):Int))))).trans (GbE _ it (Obj.mapFields (·.setIfInBounds 1 (rawInt ((i:Int)+1)))));refine Gac ⟨e.2,rfl,Gac (hQ _ (up (rawInt ((t.place.getD i 0+1:Nat):Int)) (.plain q1 q2 q3 q4 (by simp)) _ _ (GaX _ xS (Gcn (Gbv hd2 _))) ((GcQ ..).trans ((GcQ ..).trans hc)) (by rw[Gbv hd2];simp[rawInt]) sb) sb)⟩
end
section
variable{prog:Program}{w:World}{A:Around}{E:Value->Shared->Prop}{z:Shared}
variable{xs:List (Int×Value)}{ep i:Nat}{es:Array (Int×Value)}{it a tp:Addr}
theorem Kb{t:SetTable}{Q:Option Value->Shared->Prop}(hh:A.handled=none)(hit:fV w z.heap it a tp es ep t xs i)(hm:lI z.heap a es ep t)(hf:t.fits es.size=true)(hi:i=es.size)
  (hQ:∀h',Heap.ExtBut it z.heap h' ->Q none {z with heap:=h' }):wpAny (model prog w) A (pyNext (.ref it)) Q E z:=by
 obtain⟨o,first,ho,hc,hd,hw⟩:=id hit;obtain⟨os,ye,Rh,xr⟩:=id hm;have f:FO z.heap it "set_iterator" _:=⟨o,ho,hc,hd⟩
 have out:∀h1 (P:PySem.Fin->Shared->Prop),Heap.SameBut it z.heap h1->wpAny (model prog w) A.in1 (newExc (.type "StopIteration") []>>=λe=>(raiseNew e:Sem PySem.Fin)) P (λe s' =>wpAny (model prog w) A (isInstance e (.type "StopIteration")>>=λb=>if b=true then pure none else throw e) Q E s') {z with heap:=h1}:=λh1 P sb=>
  Hk hh λh2 e k=>Gaa (uQ k.2 (Gac (hQ h2 λb o n q=>k.1 b o (sb.extBut b o n q))))
 cases hw with
 |text hb=>
  have no:(pickOrder (w.params.setOrder a ep) es)[i]? =none:=GbP (by
   have:=(tR (w.params.setOrder a ep) es).length_eq;simp only[GaO] at this;lia)
  have r:∀{Q' :Option (Value×Nat)->Shared->Prop} {E'},Q' none z->wpAny (model prog w) A.in1 (setNext a (Int.toNat 0) (i:Int).toNat (ep:Int).toNat) Q' E' z:=λq=>tU (i:=(i:Int).toNat) hm hf hb (by simp only[GaI,no,Option.map_none];exact q)
  wp_walk using Gbt f.ty Fr.bT,Gbb Fr.bT f.ty Fr.d4 (ha:=Fr.dG _),uP f,GaT ye xr hf,r,dY f
  .exactλh1 k=>out h1 _ k.2
  .show _<5;decide
 | @drawn _ ps ht hp=>
  obtain⟨ot,S0,Uh,n,yy⟩:=id ht;have no:(List.map (λ(j:Nat)=>rawInt j) ps).toArray[(i:Int).toNat]? =none:=by
   have:=hp.length_eq;simp at this;simp;lia
  wp_walk using Gbt f.ty Fr.bT,Gbb Fr.bT f.ty Fr.d4 (ha:=Fr.dG _),uP f,GaT ye xr hf,Gcu S0 yy
  rw[no];exact Gaa (dY f (λh1 ⟨f1,s1⟩=>Gaa (dY f1 (λh2 ⟨f2,s2⟩=>out h2 _ (s1.trans s2)) (by simp))) (by simp))
 | @plain _ s q1 q2 q3 q4 q5=>
  have r:∀{Q' :Option (Value×Nat)->Shared->Prop} {E'},Q' none z->wpAny (model prog w) A.in1 (setNext a (s:Int).toNat (i:Int).toNat (ep:Int).toNat) Q' E' z:=λq=>qJ (i:=i) hm hf q1 q2 q3 q4 (Nat.le_of_eq hi) q5 (by rw[GbP (by lia)];exact q)
  wp_walk using Gbt f.ty Fr.bT,Gbb Fr.bT f.ty Fr.d4 (ha:=Fr.dG _),uP f,GaT ye xr hf,r,dY f
  .exactλh1 k=>out h1 _ k.2
  .show _<5;decide
theorem C0{t:SetTable}{Q:Value->Shared->Prop}(hit:fV w z.heap it a tp es ep t xs i)(h:Q (.ref it) z):wpAny (model prog w) A (pyIter (.ref it)) Q E z:=
 Gdu hit.ty Fr.qG (Gbb Fr.qG hit.ty Fr.o5 (Gac ⟨_,rfl,_,_,hit.ty,Fr.bT.lookup,h⟩) (Fr.p8 _))
theorem Way.at{t:SetTable}{h h' :Heap}{f:Value}(x:Way w a es ep t h tp f i xs)(k:∀o,h.get? tp=some o->h'.get? tp=some o):Way w a es ep t h' tp f i xs:=by
 cases x with
 |text q=>exact .text q
 |drawn q1 q2=>
  obtain⟨o,ho,r⟩:=q1;exact .drawn ⟨o,k o ho,r⟩ q2
 |plain q1 q2 q3 q4 q5=>exact .plain q1 q2 q3 q4 q5
theorem F7(hh:A.handled=none)(I a tp:Addr)(xy:a≠I)(U3:tp≠I)(es:Array (Int×Value))(ep:Nat)(t:SetTable)(hf:t.fits es.size=true)(xs:List (Int×Value))(Rh:xs.length=es.size):
  Walks prog w A I [I,a,tp] [I] es.size (λi v=>∃e,xs[i]? =some e/\v=e.2) (λi h=>fV w h I a tp es ep t xs i/\lI h a es ep t) where
 sub:=λb hb=>by simp at hb;simp[hb]
 frame:=λi h h' st hk=>by
  obtain⟨⟨o,f,ho,hc,hd,hw⟩,hs⟩:=st;exact⟨⟨o,f,hk I (by simp) o ho,hc,hd,hw.at λo e=>hk tp (by simp) o e⟩,hs.at λo e=>hk a (by simp) o e⟩
 item:=λi z Q E hi st hQ=>by
  have hx:xs[i]? =some (xs[i]'(by lia)):=Gab _;exact HB st.1 st.2 hf U3 hx λh' xE xO =>hQ _ h' z.toks ⟨_,hx,rfl⟩ ⟨xE,st.2.at λo e=>xO.extBut a o xy e⟩ λb o hb e=>xO.extBut b o (λh=>hb (by simp[h])) e
 done:=λz Q E st hQ=>Kb hh st.1 st.2 hf rfl λh' zT =>hQ h' z.toks λb o hb e=>zT b o (λh=>hb (by simp[h])) e
 self:=λ_ _ _ _ st hQ=>C0 st.1 hQ
theorem HC{t:SetTable}{Q:Value->Shared->Prop}(hm:lI z.heap a es ep t)(hf:t.fits es.size=true)(hT:Tb (jO w) t)(eK:es.size<=sizeLine)
  (hQ:∀(h' :Heap) (it tp:Addr) (d:Drawn) (xs:List (Int×Value)),z.heap.objs.size<=it->tp≠it->z.heap.objs.size<=tp->(∀b o,z.heap.get? b=some o->h'.get? b=some o)->fV w h' it a tp es ep t xs 0->xs.length=es.size->xs.Perm es.toList->Q (.ref it) {z with heap:=h',drawn:=d}):
  wpAny (model prog w) A (pyIter (.ref a)) Q E z:=by
 obtain⟨o,ho,hx,hd⟩:=id hm;have hTy:z.TypeIs (.ref a) "set":=hm.ty;have hsz:t.place.size=es.size:=by
  unfold SetTable.fits at hf;simp at hf;lia
 refine Gdu hTy Fr.A4 (Gbb Fr.A4 hTy Fr.qI ?_ (Fr.se _));unfold Builtin.«frozenset.__iter__»;refine Gaa (m:=Builtin.Frozenset.slot0 "__iter__" ⟨[.ref a],[]⟩) (Gdg (a:=a) rfl ?_);unfold Builtin.Frozenset.sizeOf;refine Gaa (Gaa (Gaa (GaT ho hd hf (Gac (Gac ?_)))));dsimp only;refine Gaa ?_;unfold setDrawn;refine Gaa (GaT ho hd hf (Gaa (kz ?_)))
 try dsimp only
 refine Gac ?_;by_cases c:(!jO w&&(!t.plain&&decide (es.size>1)))=true
 .show wpAny _ _ (if(!jO w&&(!t.plain&&decide (es.size>1)))=true then _ else _) _ _ z;rw[Gaj c];refine Gaa (uZ es.size (List.range es.size) z _ (by simp) λps d hp=> ?_);have xw:ps.length=es.size:=by rw[hp.length_eq];simp
  refine Gaa (wpAny_newTuple ?_ (by rw[Gad];lia));have S3:(z.heap.push {cls:= .type "tuple",data:= .seq (ps.map λ(i:Nat)=>rawInt i).toArray}).get? a=some o:=Gaf _ ho;refine Gaa (m:=setEpoch a) (Gaa (GaT (s:={z with heap:=_,drawn:=d}) S3 hd hf (Gac ?_)));dsimp only;unfold newFields;refine Gaa (Gbd (Gac ⟨_,rfl,"set_iterator",_,⟨_,Gaw _ rfl,rfl⟩,Fr.bT.lookup, ?_⟩) (by size_fits));refine hQ _ _ z.heap.objs.size d (ps.map λj=>es.getD j (0,.none)) (by rw[Gce];exact GbU _) (by rw[Gce];exact GaJ (Gcw _)) (Gap _) (λb o e=>Gaf _ (Gaf _ e)) ?_ (by simp[xw]) (Way.perm (w:=w) (a:=a) (ep:=ep) (i:=0) (t:=t) (.drawn (h:=z.heap.push {cls:= .type "tuple",data:= .seq (ps.map λ(i:Nat)=>rawInt i).toArray}) (tp:=z.heap.objs.size) ⟨_,Gaw _ rfl,rfl,0,rfl⟩ hp));exact⟨_,_,Gaw _ rfl,rfl,rfl,.drawn ⟨_,Gaf _ (Gaw _ rfl),rfl,0,rfl⟩ hp⟩
 .show wpAny _ _ (if(!jO w&&(!t.plain&&decide (es.size>1)))=true then _ else _) _ _ z;rw[Gai c];refine Gaa (Gac ?_);refine Gaa (m:=setEpoch a) (Gaa (GaT ho hd hf (Gac ?_)));dsimp only;unfold newFields;refine Gaa (Gbd (Gac ⟨_,rfl,"set_iterator",_,⟨_,Gaw _ rfl,rfl⟩,Fr.bT.lookup, ?_⟩) (by size_fits));obtain⟨xs,hW⟩:∃xs,Way w a es ep t (z.heap.push {cls:= .type "set_iterator",data:= .fields #[rawInt 0,rawInt 0,.ref a,rawInt es.size,rawInt ep]}) (z.heap.objs.size+1) (rawInt 0) 0 xs:=by
   cases hb:jO w with
   |true=>exact⟨_,.text hb⟩
   |false=>
    have c' :¬(t.plain=false/\es.size>1):=λq=>c (by rw[hb,q.1];simp[q.2]);refine⟨_,.plain (s:=0) hb c' ?_ (by rw[hT.1,hb];rfl) (by simp)⟩;cases hp:t.plain with
    |true=>exact hT.2 hp
    |false=>
     intro i j yk x y hx hy;have:es.size<=1:=by
      rcases Gbg 1 es.size with q|q
      .exact absurd ⟨hp,q⟩ c'
      .exact q
     have h2:=(Gbf.mp hy).1;lia
  exact hQ _ _ (z.heap.objs.size+1) z.drawn xs (Gap _) (GbW (Gcw _)) (GbU _) (λb o e=>Gaf _ e) ⟨_,_,Gaw _ rfl,rfl,rfl,hW⟩ (by have:=hW.perm.length_eq;simpa using this) hW.perm
theorem HE{d:Addr}{Q:Bool->Shared->Prop}(hT:z.TypeIs (.ref d) "set")(h:Q false z):wpAny (model prog w) A (Builtin.List.listLengthHint (.ref d)) Q E z:=by
 have sp:splitId "set.__len__"=some ("set","__len__"):=by decide+kernel
 apply Gaa;apply GdS hT Fr.Ka.lookup;dsimp only;rw[sp]
 wp_walk using wpAny_isInstance hT Fr.qH,GdM hT
 exact h
theorem C1{R:Result->Shared->Prop}{t:SetTable}(hh:A.handled=none)(hm:lI z.heap a es ep t)(hf:t.fits es.size=true)(hT:Tb (jO w) t)(eK:es.size<=sizeLine)(S:Addr)(res:Value)(hS:Emp z.heap S)(Si:S≠a)
  (hR:∀h' tk d yr c' (xs:List (Int×Value)),(∀b o,b≠S->z.heap.get? b=some o->h'.get? b=some o)->h'.get? S=some {cls:= .type "list",dict:=none,data:= .seq yr c',slots:=#[]}->xs.Perm es.toList->yr.toList=xs.map (·.2)->R (.ok (.ret res)) {z with heap:=h',toks:=tk,drawn:=d}):
  wpAny (model prog w) A.in1 (Builtin.List.listExtendWith (.ref S) (.ref a) res) (λfin s' =>match fin with| .done f=>R (.ok f) s' | .again c' =>c'.quiet=true/\codeAny (model prog w) A c' R s') (λe s' =>R (.error e) s') z:=by
 have lS:S<z.heap.objs.size:=let⟨_,e⟩:=hS;Gav e
 have la:a<z.heap.objs.size:=let⟨o,ho,_⟩:=hm;Gav ho
 refine Hl hm.ty rfl rfl (by simp[Builtin.List.listSameRef,Si]) (HC hm hf hT eK λh1 it tp d xs gi ne gt k1 hI xl xp=>HE (z:={z with heap:=h1,drawn:=d}) (let⟨o,ho,hc,_⟩:=hm;⟨o,k1 _ _ ho,hc.1⟩) ⟨let⟨c,e⟩:=hS;⟨c,k1 _ _ e⟩,λh2 ⟨c,e⟩ k=> ?_⟩);have W:=(F7 (prog:=prog) (w:=w) (A:=A.in1) hh it a tp (GaJ (GaH la gi)) ne es ep t hf xs xl).toS;have nit:it≠S:=GbW (GaH lS gi);have ntp:tp≠S:=GbW (GaH lS gt);refine codeAny_extend_loopS W eK S (by simp[Ne.symm nit,Ne.symm ntp,Si]) res es.size 0 _ #[] c rfl (Gba _) ⟨let⟨o,f,ho,hc,hd,hw⟩:=hI;⟨o,f,k it o nit ho,hc,hd,hw.at λo=>k tp o ntp⟩,hm.at λo q=>k a o (Ne.symm Si) (k1 _ _ q)⟩ e (ItemsOf.nil _) λs' yr c' mv e' items=> ?_;rw[Moved.eq_with mv];refine hR s'.heap s'.toks d yr c' xs (λb o n q=>mv.heap b o (λm=> ?_) (k b o n (k1 _ _ q))) e' xp (GcO λi=> ?_)
 .have lb:=Gav q;simp only[GaB,GdF,or_false] at m;rcases m with rfl|rfl
  .exact n rfl
  .exact Gbx _ (GaH lb gi)
 .rw[Gbk,Gam];cases q:yr[i]? with
  |some v=>
   obtain⟨en,h1,rfl⟩:=items.2 i v q;rw[h1];rfl
  |none=>
   have:es.size<=i:=by rw[<-items.1];simpa using q
   rw[Gbj (by lia)];rfl
theorem A5{t:SetTable}{Q:List Value->Shared->Prop}(hh:A.handled=none)(hm:lI z.heap a es ep t)(hf:t.fits es.size=true)(hT:Tb (jO w) t)(eK:es.size<=sizeLine)
  (h:∀h' tk d (xs:List (Int×Value)),z.heap.objs.size<h'.objs.size->(∀b o,z.heap.get? b=some o->h'.get? b=some o)->xs.Perm es.toList->Q (xs.map (·.2)) {z with heap:=h',toks:=tk,drawn:=d}):wpAny (model prog w) A (collect (.ref a)) Q E z:=by
 have old:∀{b o},z.heap.get? b=some o->b≠z.heap.objs.size:=λe=>GaJ (Gav e);refine uR λh1 e k R r=>C1 (z:={z with heap:=h1}) hh (hm.at (k a)) hf hT eK _ _ e (let⟨o,ho,_⟩:=hm;Ne.symm (old ho)) λh' tk d acc c xs k' e' xp ha=> ?_;exact r _ acc c e' (ha▸h h' tk d xs (Gav e') (λb o q=>k' b o (old q) (k b o q)) xp)
end
section
variable{X:Cx}{e8:List (Addr×Obj)}{Z:St}{H:Hp}{s:Shared}
theorem _root_.L2.Inv.draw(I:Inv X e8 Z H s)(d:Drawn):Inv X e8 Z H {s with drawn:=d}:=⟨I.ok,I.os,I.bare,I.base,I.loc,I.cell,I.free,I.iZ,I.pin,I.hok,I.len⟩
end
section
variable{X:Cx}{e a b c:Expr}{f g h:DE}{pos:Pos}{e8:List (Addr×Obj)}{Z:St}{H:Hp}{s:Shared}
theorem nK:∀{ns:List Int} {us:List Value},Vals (ns.map V.int) us->IntsAre us ns
 |[],_,.nil=> .nil
 |n::ns,_,.cons h t=>by
  obtain⟨k,rfl⟩:=h;exact .cons n k (nK t)
end
namespace Fr
end Fr
section
variable{prog:Program}{w:World}{K:Type} [DecidableEq K]{knd:HeapKind prog w K}{A:Around}{E:Value->Shared->Prop}{s:Shared}
variable{d:Addr}
theorem HF{o:Obj}{es:Array DictEntry}{ep:Nat}{ys:List (K×Addr×Value)}{f:Array DictEntry->Array DictEntry}{p:Option Value}{Q:Unit->Shared->Prop}(ho:s.heap.get? d=some o)(hc:o.ExactDict)(hd:o.data= .dict es ep)(he:(f es).toList=ys.map (entryOfKey knd))
  (Ro:∀x∈ys,knd.is s.heap x.1 x.2.1)(hn:(ys.map (·.1)).Nodup)(hz:es.size<=sizeLine)(hf:(f es).size<=es.size+1)(h:∀h',h'.DictOfH knd d ys->Heap.SameBut d s.heap h' ->Q () {s with heap:=h' }):wpAny (model prog w) A (updateDictKeys d f p) Q E s:=by
 have sb:=GbE s.heap d (Obj.mapDictKeys f);refine wpAny_updateDictKeys ho hd (h _ ⟨_,f es,ep+1,GaX _ ho ?_,hc.mapDictKeys _,Obj.data_mapDictKeys hd _,he,λx m=>knd.keeps (Ro x m) ho hd sb,hn⟩ sb) hz hf;exact Obj.isFreed_of_dict (Obj.data_mapDictKeys hd _)
theorem pb{a:Addr}{xs:List (K×Addr×Value)}{k:K}{v:Value}{Q:Value->Shared->Prop}(hu:knd.room A)(xk:knd.is s.heap k a)(hm:s.heap.DictOfH knd d xs)
  (za:∀p,atKey xs k=some p->Q p.2 {s with toks:=s.toks+knd.draws k})
  (S6:atKey xs k=none->∀h',h'.DictOfH knd d (storedH xs k a v)->Heap.SameBut d s.heap h' ->Q v {s with heap:=h',toks:=s.toks+knd.draws k})
  (hsz:xs.length<=sizeLine):
  wpAny (model prog w) A (dictSetDefault d (.ref a) v) Q E s:=by
 obtain⟨o,es,ep,ho,hc,hd,he,Ro,hn⟩:=hm;have sz:=size_of_entries he
 wp_walk using knd.pyHash hu xk,wpAny_dictFind_heap (s:={s with toks:=s.toks+knd.draws k}) hu xk ho hd he Ro hn
 .intro no;have none' :=atKey_none_of_get no;have ys:=storedH_new none' a v;refine Gaa (wpAny_rule (Gaa (HF (knd:=knd) (ys:=storedH xs k a v) (s:={s with toks:=s.toks+knd.draws k}) ho hc hd ?_ ?_ ?_ (by lia) (by simp) λh' q1 q2=>Gac (S6 none' h' q1 q2))))
  .rw[ys,Array.toList_push,he,GaC];rfl
  .rw[ys];intro x m;rcases GaL.mp m with m|m
   .exact Ro x m
   .rw[Gbr.mp m];exact xk
  .rw[ys,GaC,GcR];exact⟨hn,by simp,λx m y n=>by simp at n;rw[n];exactλe=>not_mem_keys_of_get no (e▸m)⟩
 .intro j p at_;have e:=entry_at he j;rw[at_] at e
  wp_walk using wpAny_dictEntries (s:={s with toks:=s.toks+knd.draws k}) ho hd
  rw[e]
  wp_walk
  exact za p (atKey_of_get hn at_)
theorem mS(d a:Addr)(hd:(d==sysModules)=false)(dflt:Value):
  MeetsIn prog w (Builtin.«dict.setdefault» ⟨[.ref d,.ref a,dflt],[]⟩) (λA R s=>knd.room A.in1/\∃k xs,knd.is s.heap k a/\s.heap.DictOfH knd d xs/\xs.length<=sizeLine/\
   (∀p,atKey xs k=some p->R (.ok (.ret p.2)) {s with toks:=s.toks+knd.draws k})/\
   (atKey xs k=none->∀h',h'.DictOfH knd d (storedH xs k a dflt)->Heap.SameBut d s.heap h' ->R (.ok (.ret dflt)) {s with heap:=h',toks:=s.toks+knd.draws k})):=by
 apply MeetsIn.of_wp;rintro A R s ⟨hu,k,xs,xk,hm,hsz,h1,h2⟩
 wp_walk using wpAny_notOrdered_dict hm.typeIs,pb hu xk hm
 .exactλp q=>Gac ⟨_,rfl,h1 p q⟩
 .exactλq h' q1 q2=>Gac ⟨_,rfl,h2 q h' q1 q2⟩
 .exact hsz
end
section
variable{X:Cx}{e8:List (Addr×Obj)}{Z:St}{H:Hp}{s:Shared}{a b:Addr}{d:V}{u r:Value}{o:Option V}{A:Around}{E:Value->Shared->Prop}
theorem v8{eC:List (List Key×V)}{k:List Key}{Q:Value->Shared->Prop}(hu:A.units+1<cLine)(I:Inv X e8 Z H s)(e:H a=some (.dT eC))(eb:H b=some (.tup (k.map kV)))(hl:eC.length<sizeLine)(rd:RelV d r)
  (h1:∀v w' s',fF eC k=some v->Inv X e8 Z H s' ->RelV v w' ->Q w' s')(h2:∀s',fF eC k=none->Inv X e8 Z (upd H a (.dT (putK eC k d))) s' ->Q r s'):
  wpAny (model X.prog X.w) A (call (.builtin "dict.setdefault") [.ref a,.ref b,r]) Q E s:=by
 obtain⟨z,hd,xs,rel,dd⟩:=Gk I.hok e;have hz:xs.length<=sizeLine:=by rw[<-Paired.length rel];exact z
 refine call_meetsIn PySem.F.slot_dict_setdefault dd.typeIs PySem.F.entry_dict_setdefault (PySem.F.args_dict_setdefault_3 _ _ _) (mS (knd:=tupleKind (br X.prog X.w)) a b hd r) ⟨Gcj hu,k,xs,L2.j5 I.hok eb,dd,hz,λp hp=> ?_,λhn h' zB hs=> ?_⟩
 .have rv:=rel.val k;rw[hp] at rv;cases hv:fF eC k with
  |none=>rw[hv] at rv;exact rv.elim
  |some v=>rw[hv] at rv;exact h1 v _ _ hv (I.tok _) rv
 .have rv:=rel.val k;rw[hn] at rv;cases hv:fF eC k with
  |some v=>rw[hv] at rv;exact rv.elim
  |none=>
   refine h2 _ hv ?_;have zi :(putK eC k d).length<=sizeLine:=by have:=jB eC k d;lia
   obtain⟨q,es,ep,hq,g2,g3,g4,_,g5⟩:=zB;refine pC I (by rw[e];exact True.intro) hs ⟨q,hq⟩ ⟨zi,hd,_,(rel.put k eb rd).keeps λc ys ec=> ?_,q,es,ep,hq,g2,g3,g4,g5⟩;rw[ag (CG ec e (λz=>nomatch z))];exact ec
end
def Mv(td ty tx:TE):TE:=λZ H Q=>td Z H λx H1=>∃a,x= .ref a/\IsD H1 a/\ty Z H1 λy H2=>tx Z H2 λz H3=>∃eC k b,H3 a=some (.dT eC)/\y= .ref b/\H3 b=some (.tup (k.map kV))/\eC.length<sizeLine/\
 (∀v,fF eC k=some v->Q v H3)/\(fF eC k=none->Q z (upd H3 a (.dT (putK eC k z))))
section
variable{X:Cx}{o e f:Expr}{apos eE:Pos}{td ty tx:TE}
theorem HG(hu:X.A.units+1<cLine)(ho:PE X o td)(he:PE X e ty)(hf:PE X f tx)(m:M2 X o "setdefault" apos e f eE):PE X (.Call (.Attribute o "setdefault" apos) [e,f] [] eE) (Mv td ty tx):=by
 intro e8 s Z H Q I h;refine wpAny_Call_method m.base m.few m.line Gds PySem.F.slot_dict_setdefault PySem.F.type_dict_setdefault (thn (ho e8 s Z H _ I h) λu s1 ⟨x,H1,I1,rx,a,ex,d,q1⟩=> ?_);subst ex;obtain rfl:u=Value.ref a:=rx;obtain⟨t1,t2,_⟩:=Bf I1 d;refine⟨t1,t2, ?_⟩;rw[m.trees];refine GcL rfl (GdO (GcG (thn (he e8 s1 Z H1 _ I1 q1) λiv s2 ⟨y,H2,I2,ry,q2⟩=>
  GcG (thn (hf e8 s2 Z H2 _ I2 q2) λfv s3 ⟨z,H3,I3,rz,eC,k,b,e1,e2,e3,e4,e5,e6⟩=>Calls.spliced_nil ?_))))
 subst e2;cases(show iv=Value.ref b from ry);exact v8 hu I3 e1 e3 e4 rz (λv w' s4 hv I4 rv=> ⟨_,H3,I4,rv,e5 v hv⟩) λs4 hv I4=> ⟨_,_,I4,rz,e6 hv⟩
end
def fI(eD:Addr->Prop)(p:Addr)(ws:List (List Key×V))(b:Addr):Prop:=eD b\/b=p\/V.ref b∈ws.map (·.2)
structure da(K:ao)(eD:Addr->Prop)(env:Env)(Z:St)(H:Hp)(i:Nat)(p:Addr)(ws:List (List Key×V))(eC:Rws):Prop where
 at_:Z[i]? =some (some (.ref p))
 hid:env[i]? =some none
 top:H p=some (.dT ws)
 keys:eC.map (·.1)=ws.map (·.1)
 row:∀(j:Nat) k v d,ws[j]? =some (k,v)->eC[j]? =some (k,d)->∃a ds vs,v= .ref a/\d= .lst ds/\a≠p/\H a=some (.lst vs)/\aI K (λ_=>False) H ds vs
 inj:∀(j j' :Nat) k k' a,ws[j]? =some (k,V.ref a)->ws[j']? =some (k',V.ref a)->j=j'
def lJ(H H' :Hp):Prop:=∀b o,H b=some o->isT o->H' b=some o
variable{H H1:Hp}
theorem lJ.trans{H2:Hp}(a:lJ H H1)(b:lJ H1 H2):lJ H H2:=λc o e t=>b c o (a c o e t) t
theorem lJ.same(s:bR H H1):lJ H H1:=λc o e _=>s c o e
theorem lJ.upd{H:Hp}{a:Addr}{o o' :HO}(h:H a=some o)(n:¬isT o):lJ H (upd H a o'):=λc x e t=>by
 have:c≠a:=by rintro rfl;rw[h] at e;cases e;exact n t
 rw[ag this];exact e
section
variable{K:ao}{H0 H H' H1:Hp}{eD R9 :Addr->Prop}{env eP :Env}{Z Z' :St}{d:D}{v:V}{a p:Addr}{i j:Nat}{ws:List (List Key×V)}{eC:Rws}
theorem da.mono(N:da K eD env Z H i p ws eC)(s:bR H H'):da K eD env Z H' i p ws eC where
 at_:=N.at_
 hid:=N.hid
 top:=s _ _ N.top
 keys:=N.keys
 row:=λj k v d h1 h2=>let⟨a,ds,vs,e1,e2,e3,e4,e5⟩:=N.row j k v d h1 h2;⟨a,ds,vs,e1,e2,e3,s _ _ e4,e5.gen (.of_same s) λ_ f _=>f⟩
 inj:=N.inj
theorem da.l6(N:da K eD env Z H i p ws eC)(yk:i≠j):da K eD (env.set j (some (.sh d))) (Z.set j (some v)) H i p ws eC where
 at_:=by rw[Gae (Ne.symm yk)];exact N.at_
 hid:=by rw[Gae (Ne.symm yk)];exact N.hid
 top:=N.top
 keys:=N.keys
 row:=λj k v d h1 h2=>let⟨a,ds,vs,e1,e2,e3,e4,e5⟩:=N.row j k v d h1 h2;⟨a,ds,vs,e1,e2,e3,e4,e5⟩
 inj:=N.inj
theorem da.Mw(N:da K eD env Z H i p ws eC):da K R9 env Z H i p ws eC:=⟨N.at_,N.hid,N.top,N.keys,N.row,N.inj⟩
theorem da.app{vs:List V}{ds:List D}{k:List Key}(N:da K eD env Z H i p ws eC)(ba:eD a)(ha:ws[j]? =some (k,.ref a))(hd:eC[j]? =some (k,.lst ds))(hv:H a=some (.lst vs))(rp:aI K (λ_=>False) H (ds++[d]) (vs++[v])):
  da K eD env Z (upd H a (.lst (vs++[v]))) i p ws (eC.set j (k,.lst (ds++[d]))):=by
 have de:fS (λ_=>False) H (upd H a (.lst (vs++[v]))):=λb x hx q=>by
  have:b≠a:=by
   rintro rfl;rcases q with q|q
   .exact q
   .rw[hv] at hx;cases hx;exact q
  rw[ag this];exact hx
 have y1:p≠a:=by
  obtain⟨a',_,_,e1,_,e3,_⟩:=N.row j k _ _ ha hd;cases e1;exact Ne.symm e3
 have zj:=(Gal.mp hd).1;refine⟨N.at_,N.hid,by rw[ag y1];exact N.top, ?_,λj' k' v' d' h1 h2=> ?_,N.inj⟩
 .rw[List.map_set,<-N.keys];apply GcO;intro m;by_cases q:j=m
  .subst q;rw[GaZ (by simpa using zj),Gam,hd];rfl
  .rw[Gae q]
 .by_cases q:j=j'
  .subst q;rw[ha] at h1;cases h1
   rw[GaZ zj] at h2;cases h2;exact⟨a,_,_,rfl,rfl,Ne.symm y1,ay,rp.gen de λ_ f _=>f⟩
  .rw[Gae q] at h2;obtain⟨a',xn,us,e1,e2,e3,e4,e5⟩:=N.row j' k' v' d' h1 h2;subst e1;have na:a' ≠a:=by
    rintro rfl;exact q (N.inj j j' _ _ _ ha h1)
   exact⟨a',xn,us,rfl,e2,e3,by rw[ag na];exact e4,e5.gen de λ_ f _=>f⟩
theorem da.make{k:List Key}(N:da K eD env Z H i p ws eC)(bp:eD p)(ba:eD a)(hn:V.ref a∉ws.map (·.2))(y1:a≠p)(hv:H a=some (.lst [])):da K eD env Z (upd H p (.dT (ws++[(k,.ref a)]))) i p (ws++[(k,.ref a)]) (eC++[(k,.lst [])]):=by
 have de:fS (λ_=>False) H (upd H p (.dT (ws++[(k,.ref a)]))):=λb x hx q=>by
  have:b≠p:=by
   rintro rfl;rcases q with q|q
   .exact q
   .rw[N.top] at hx;cases hx;exact q
  rw[ag this];exact hx
 have eK:eC.length=ws.length:=by have:=congrArg List.length N.keys;simpa using this
 refine⟨N.at_,N.hid,ay,by rw[GaC,GaC,N.keys];rfl,λj' k' v' d' h1 h2=> ?_,λj1 j2 k1 k2 b h1 h2=> ?_⟩
 .by_cases q:j' <ws.length
  .rw[GaQ q] at h1;rw[GaQ (by lia)] at h2;obtain⟨a',xn,us,e1,e2,e3,e4,e5⟩:=N.row j' k' v' d' h1 h2;exact⟨a',xn,us,e1,e2,e3,by rw[ag e3];exact e4,e5.gen de λ_ f _=>f⟩
  .rw[GaK (by lia)] at h1;rw[GaK (by lia)] at h2;rw[eK] at h2;cases hz:j' -ws.length with
   |zero=>
    rw[hz] at h1 h2;cases h1;cases h2
    exact⟨a,[],[],rfl,rfl,y1,by rw[ag y1];exact hv,.nil⟩
   |succ n=>rw[hz] at h1;simp at h1
 .by_cases q1:j1<ws.length
  .rw[GaQ q1] at h1;by_cases q2:j2<ws.length
   .rw[GaQ q2] at h2;exact N.inj j1 j2 _ _ _ h1 h2
   .rw[GaK (by lia)] at h2;cases hz:j2 -ws.length with
    |zero=>
     rw[hz] at h2;cases h2
     exact absurd (Gax.mpr ⟨_,GaD h1,rfl⟩) hn
    |succ n=>rw[hz] at h2;simp at h2
  .rw[GaK (by lia)] at h1;cases hz:j1 -ws.length with
   |succ n=>rw[hz] at h1;simp at h1
   |zero=>
    rw[hz] at h1;cases h1
    by_cases q2:j2<ws.length
    .rw[GaQ q2] at h2;exact absurd (Gax.mpr ⟨_,GaD h2,rfl⟩) hn
    .rw[GaK (by lia)] at h2;cases hz2:j2 -ws.length with
     |succ n=>rw[hz2] at h2;simp at h2
     |zero=>lia
end
def FrW(H0:Hp)(eD:Addr->Prop)(p:Addr)(ws:List (List Key×V)):Prop:=∀b,(b=p\/V.ref b∈ws.map (·.2))->H0 b=none/\¬eD b
variable{ws:List (List Key×V)}{eC:Rws}
theorem va{k:List Key}(h:eC.map (·.1)=ws.map (·.1)):eC.findIdx? (λp=>decide (p.1=k))=ws.findIdx? (λp=>decide (p.1=k)):=by
 have h1:(eC.map (·.1)).findIdx? (λq=>decide (q=k))=eC.findIdx? (λp=>decide (p.1=k)):=by rw[Geb];rfl
 have h2:(ws.map (·.1)).findIdx? (λq=>decide (q=k))=ws.findIdx? (λp=>decide (p.1=k)):=by rw[Geb];rfl
 rw[<-h1,<-h2,h]
theorem find_some:∀{ws:List (List Key×V)} {k:List Key} {j:Nat},ws.findIdx? (λp=>decide (p.1=k))=some j->∃v,ws[j]? =some (k,v)/\fF ws k=some v
 |[],k,j,h=>by simp at h
 |p::ws,k,j,h=>by
  rw[List.findIdx?_cons] at h;by_cases c:p.1=k
  .rw[Gaz c] at h;cases h;exact⟨p.2,by rw[<-c];rfl,jA c⟩
  .rw[Gau c] at h;simp only[Gbe,GbR] at h;obtain⟨j',hj,rfl⟩:=Gan.mp h;obtain⟨v,h1,h2⟩:=find_some hj;exact⟨v,by rw[GcD];exact h1,by rw[gn c];exact h2⟩
theorem find_none:∀{ws:List (List Key×V)} {k:List Key},ws.findIdx? (λp=>decide (p.1=k))=none->fF ws k=none
 |[],k,h=>rfl
 |p::ws,k,h=>by
  rw[List.findIdx?_cons] at h;by_cases c:p.1=k
  .rw[Gaz c] at h;cases h
  .rw[Gau c] at h;simp only[Gbe,GbR] at h;rw[gn c];exact find_none (Option.map_eq_none_iff.mp h)
theorem C2{j:Nat}{k:List Key}{v:V}{q:List Key×D}(h:eC.map (·.1)=ws.map (·.1))(h1:eC[j]? =some q)(h2:ws[j]? =some (k,v)):q.1=k:=by
 have e1:(eC.map (·.1))[j]? =some q.1:=by rw[Gam,h1];rfl
 have e2:(ws.map (·.1))[j]? =some k:=by rw[Gam,h2];rfl
 rw[h,e2] at e1;cases e1;rfl
def tM(X:Cx)(i:Nat)(f:DM):TS:=λD Z H=>∃H0 eD env p ws eC q,au X.K H0 (fI eD p ws) env Z H/\da X.K (fI eD p ws) env Z H i p ws eC/\FrW H0 eD p ws/\f env eC=some q/\
 ∀Z' H' ws',au X.K H0 (fI eD p ws') q.1 Z' H' ->da X.K (fI eD p ws') q.1 Z' H' i p ws' q.2->FrW H0 eD p ws' ->lJ H H' ->D.nx Z' H'
section
variable{X:Cx}{e a b c:Expr}{f g h:DE}{t u:DT}{pos:Pos}{st:Stmt}{rest body:List Stmt}{i j:Nat}{x:Str}{n1 n2:DM}
theorem Kc(h1:PS X st (tM X i n1)):PSs X [st] (tM X i n1):=uu h1
theorem HH(h1:PS X st (tM X i n1))(h2:PSs X rest (tM X i n2)):PSs X (st::rest) (tM X i (OW n1 n2)):=by
 refine(md h1 h2).aE ?_;rintro D Z H ⟨H0,eD,env,p,ws,eC,q,E,N,h0,e,k⟩;obtain⟨q1,hq,e⟩:=eA e;exact⟨H0,eD,env,p,ws,eC,q1,E,N,h0,hq,λZ' H' ws' E' N' f' t' => ⟨H0,eD,q1.1,p,ws',q1.2,q,E',N',f',e,λZ2 H2 yw E2 N2 f2 t2=>k Z2 H2 yw E2 N2 f2 (t'.trans t2)⟩⟩
variable{pos' :Pos}
theorem Mx(hN:X.N.Nodup)(hj:X.N[j]? =some x)(hx:Loc X.env.scope x)(yk:i≠j)(he:PEd X e f)(hs:swapsWith e (some (.Name x pos')) pos.line X.env=pure false:=by rfl)
  (hf:X.fn x=true\/X.env.scope.names.lookup x=some .local:=by first|exact .inl rfl|exact .inr rfl|assumption):PS X (.Assign [.Name x pos'] e pos) (tM X i (setM j f)):=by
 refine(B5 hN hj hx he hs hf).aE ?_;rintro D Z H ⟨H0,eD,env,p,ws,eC,q,E,N,h0,e,k⟩;obtain⟨⟨kr,d⟩,hr,e⟩:=eA e;cases kr with
 |c=>
  cases e;refine⟨H0,_,env,_,E,hr,λv H1 s1 R=> ?_⟩;exact k _ _ ws ((E.mono s1).l6 R) ((N.mono s1).l6 yk) h0 (.same s1)
 |tn=>cases e
 |to=>cases e
 |tb=>cases e
theorem bindM{α β:Type}{o:Option α}{f:α->Option β}{b:β}(h:o.bind f=some b):∃a,o=some a/\f a=some b:=eA h
variable{px:Pos}
theorem My{ap cp apos eE lp:Pos}{ke:Expr}(hu:X.A.units+1<cLine)(hN:X.N[i]? =some x)(hv:Vis X.env.scope x)(hk:PEd X ke g)(he:PEd X e f)(hd:(x==("__debug__":Str))=false:=by decide)(xu:(x==("__classdict__":Str))=false:=by decide)
  (m:M2 X (.Name x px) "setdefault" ap ke (.List [] lp) cp:=by exact⟨rfl,rfl,rfl,rfl⟩)
  (hX:starEach [e] X.env=[(false,eval e X.env)]:=by rfl)
  (eW:attributeBase (.Call (.Attribute (.Name x px) "setdefault" ap) [ke,.List [] lp] [] cp) "append" X.env (eval (.Call (.Attribute (.Name x px) "setdefault" ap) [ke,.List [] lp] [] cp) X.env)=eval (.Call (.Attribute (.Name x px) "setdefault" ap) [ke,.List [] lp] [] cp) X.env:=by rfl)
  (xF:((backTo eE (starEach [e] X.env)).all (λx=> !x.1)&&(backToKw eE (keywordEach [] X.env)).all (λx=>x.1.isSome)
   &&decide (([e]:List Expr).length+([]:List Keyword).length+(if([]:List Keyword).isEmpty then 0 else 1)<30))=true:=by rfl)
  (eV:(apos.endLine==eE.line)=true:=by rfl)(hs:swapsWith (.Call (.Attribute (.Call (.Attribute (.Name x px) "setdefault" ap) [ke,.List [] lp] [] cp) "append" apos) [e] [] eE) none pos.line X.env=pure false:=by rfl):
  PS X (.Expr (.Call (.Attribute (.Call (.Attribute (.Name x px) "setdefault" ap) [ke,.List [] lp] [] cp) "append" apos) [e] [] eE) pos) (tM X i (OX g f)):=by
 refine(pB (CP GcE PySem.F.slot_list_append PySem.F.type_list_append nJ (HG hu (jw hN hv hd xu) hk (Gb pO) m) (d3 he gx hX) eW xF eV hX rfl) hs).aE ?_;rintro D Z H ⟨H0,eD,env,p,ws,eC,q,E,N,h0,e,kk⟩;obtain⟨⟨ky,dy⟩,hy,e⟩:=bindM e;obtain⟨r,hr,e⟩:=bindM e;cases dy with
 |tup ks=>
  dsimp only at e;split at e
  .rename_i z;rw[Gas] at z;obtain⟨key,xk,e⟩:=bindM e;obtain⟨yZ,yx,e⟩:=Gan.mp e;cases e;have bp:fI eD p ws p:= .inr (.inl rfl);refine⟨_,N.at_,p,rfl,.inr ⟨ws,.inl N.top⟩,H0,_,env,_,E,hy,λvy H1 s1 Ry=> ?_⟩;have iy:Inn X.K (Cln (fI eD p ws) env Z) H1 (.tup ks) vy:=Ry.inn;cases iy with
   | @tup bk kv _ hb rb=>
    have ekv:=gS rb xk;subst ekv;have E1:=E.mono s1;have N1:=N.mono s1;refine⟨Gba _,λa1 yX => ?_⟩;have sA:bR H1 (upd H1 a1 (.lst [])):=aU yX;have Ui:upd H1 a1 (.lst []) bk=some (.tup (key.map kV)):=sA _ _ hb;have N2:=N1.mono sA;have E2:=E1.mono sA;have eK:eC.length=ws.length:=by have:=congrArg List.length N.keys;simpa using this
    have szk:eC.length<a9/\((∃jj ds k0,eC.findIdx? (λp=>decide (p.1=key))=some jj/\eC[jj]? =some (k0,.lst ds)/\ds.length<a9/\yZ =eC.set jj (key,.lst (ds++[r.d])))\/(eC.findIdx? (λp=>decide (p.1=key))=none/\yZ =eC++[(key,.lst [r.d])])):=by
     unfold Gx at yx;split at yx
     .rename_i hz;refine⟨hz, ?_⟩;split at yx
      .rename_i jj yf;split at yx
       .rename_i k0 ds xr;split at yx
        .rename_i hl;cases yx;exact .inl ⟨jj,ds,k0,yf,xr,hl,rfl⟩
        .cases yx
       .cases yx
      .rename_i yf;cases yx;exact .inr ⟨yf,rfl⟩
     .cases yx
    have fin:∀(H2:Hp) (yw:List (List Key×V)) (yA:Rws) (jj:Nat) (a:Addr) (ds:List DL.D),au X.K H0 (fI eD p yw) env Z H2->da X.K (fI eD p yw) env Z H2 i p yw yA->FrW H0 eD p yw->lJ H H2->yw[jj]? =some (key,.ref a)->yA[jj]? =some (key,.lst ds)->ds.length<a9->yZ =yA.set jj (key,.lst (ds++[r.d]))->
      tyV X.K "list" (.ref a) H2/\tA X (a7 f aa) Z H2 λvs H3=>CQ (.ref a) vs H3 λ_ H4=>D.nx Z H4:=by
     intro H2 yw yA jj a ds E2 N2 F2 T2 hw hkv hl ek;obtain⟨a',xn,vs,e1,e2,e3,SE,rp⟩:=N2.row jj _ _ _ hw hkv;cases e1;cases e2
     have ba:fI eD p yw a:= .inr (.inr (Gax.mpr ⟨_,GaD hw,rfl⟩));refine⟨.inl ⟨rfl,vs,.inl (.inl SE)⟩,H0,_,env,[r],E2,by unfold a7 aa;rw[hr];rfl,λus H3 s3 Rs=> ?_⟩;cases Rs with
     | @cons _ v _ _ R1 tl=>
      cases tl;have yB:=s3 _ _ SE;have N3:=N2.mono s3;have E3:=E2.mono s3;refine⟨_,vs,v,rfl,rfl,yB,by rw[<-rp.1,<-eM];exact hl, ?_⟩;have rep1:Rep X.K (λ_=>False) H3 r.d v:=R1.inn.imm z.1;have rp3:aI X.K (λ_=>False) H3 (ds++[r.d]) (vs++[v]):=(rp.gen (.of_same s3) λ_ f _=>f).append (.cons rep1 .nil);have N4:=N3.app ba hw hkv yB rp3;rw[<-ek] at N4;exact kk Z _ yw (E3.Hz ba (F2 a (.inr (Gax.mpr ⟨_,GaD hw,rfl⟩))).1 yB (λz=>z) z.2) N4 F2 ((T2.trans (.same s3)).trans (.upd yB λz=>z))
    refine⟨ws,key,bk,N2.top,rfl,Ui,by rw[<-eK,<-eM];exact szk.1,λv hv=> ?_,λhv=> ?_⟩
    .rcases szk.2 with⟨jj,ds,k0,yf,xr,hl,ek⟩| ⟨yf,_⟩
     .rw[va N.keys] at yf;obtain⟨v',hw,zI⟩:=find_some yf;rw[hv] at zI;cases zI
      have hk0:k0=key:=C2 N.keys xr hw;subst hk0;obtain⟨a',_,_,e1,_⟩:=N.row jj _ _ _ hw xr;subst e1;exact fin _ ws eC jj a' ds E2 N2 h0 ((lJ.same s1).trans (.same sA)) hw xr hl ek
     .rw[va N.keys] at yf;rw[find_none yf] at hv;cases hv
    .rcases szk.2 with⟨jj,ds,k0,yf,xr,hl,ek⟩| ⟨yf,ek⟩
     .rw[va N.keys] at yf;obtain⟨v',hw,zI⟩:=find_some yf;rw[hv] at zI;cases zI
     .have hn:V.ref a1∉ws.map (·.2):=λhm=>by
       obtain⟨⟨k1,v1⟩,U6,zO⟩:=Gax.mp hm;have hm2' :v1=V.ref a1:=zO;subst hm2';obtain⟨j1,yL⟩:=List.mem_iff_getElem?.mp U6;have hj1' :j1<eC.length:=by rw[eK];exact(Gal.mp yL).1
       have hk1:eC[j1]? =some eC[j1]:=Gab hj1';have xD:eC[j1].1=k1:=C2 N.keys hk1 yL;obtain⟨a',_,us,e1,_,_,e4,_⟩:=N1.row j1 k1 _ eC[j1].2 yL (by rw[hk1,<-xD]);cases e1;rw[yX] at e4;cases e4
      have y1:a1≠p:=λq=>by subst q;rw[N1.top] at yX;cases yX
      rw[Gj _ hv];have eB:(λb=>fI eD p ws b\/b=a1)=fI eD p (ws++[(key,V.ref a1)]):=by
       funext b
       apply propext;unfold fI;rw[GaC,GaL];simp only[Gay,GdN,Gbr,V.ref.injEq];constructor
       .rintro((h|h|h)|h)
        .exact .inl h
        .exact .inr (.inl h)
        .exact .inr (.inr (.inl h))
        .exact .inr (.inr (.inr h))
       .rintro(h|h|h|h)
        .exact .inl (.inl h)
        .exact .inl (.inr (.inl h))
        .exact .inl (.inr (.inr h))
        .exact .inr h
      have E3:au X.K H0 (fI eD p (ws++[(key,V.ref a1)])) env Z (upd H1 a1 (.lst [])):=by
       rw[<-eB];exact E1.Dp (New:=λb=>b=a1) sA (λb hb=>by rw[hb];exact yX) λb hb=>by rw[hb,ay];simp
      have N3:da X.K (fI eD p (ws++[(key,V.ref a1)])) env Z (upd H1 a1 (.lst [])) i p ws eC:=by
       exact N1.Mw.mono sA
      have F3:FrW H0 eD p (ws++[(key,V.ref a1)]):=λb hb=>by
       rw[GaC,GaL] at hb;simp only[Gay,GdN,Gbr,V.ref.injEq] at hb;rcases hb with h|h|h
       .exact h0 b (.inl h)
       .exact h0 b (.inr h)
       .subst h;exact⟨E1.same.free yX,λq=>E1.bad b (.inl q) yX⟩
      have bp' :fI eD p (ws++[(key,V.ref a1)]) p:= .inr (.inl rfl);have ba' :fI eD p (ws++[(key,V.ref a1)]) a1:= .inr (.inr (by rw[GaC,GaL];exact .inr Gak));have N4:=N3.make (k:=key) bp' ba' hn y1 ay;have E4:=E3.Hz (o' := .dT (ws++[(key,V.ref a1)])) bp' (F3 p (.inl rfl)).1 N3.top (λz=>z) z.2;have lw:(ws++[(key,V.ref a1)])[ws.length]? =some (key,V.ref a1):=by rw[GaK (Gap _),GdQ];rfl
      have lk:(eC++[(key,DL.D.lst [])])[ws.length]? =some (key,DL.D.lst []):=by rw[<-eK,GaK (Gap _),GdQ];rfl
      refine fin _ _ (eC++[(key,DL.D.lst [])]) ws.length a1 [] E4 N4 F3 (((lJ.same s1).trans (.same sA)).trans (.upd N3.top λz=>z)) lw lk (by rw[eM,Gbw];exact(by decide:(0:Nat)<16777216)) ?_;rw[ek,<-eK,List.set_append_right _ _ (Gap _),GdQ]
      rfl
  .cases e
 |_=>cases e
theorem Mz(hp:PassesOwn (model X.prog X.w) X.A X.env X.xe)(hc:X.calm=true)(he:PEd X e f)(hN:X.N.Nodup)(hj:X.N[j]? =some x)(hx:Loc X.env.scope x)(yk:i≠j)(hb:PSs X body (tM X i n1))
  (hs:∀x,foldedSetIterable e X.env x=pure x:=by intro _;rfl)
  (hf:X.fn x=true\/X.env.scope.names.lookup x=some .local:=by first|exact .inl rfl|exact .inr rfl|assumption):
  PS X (.For (.Name x px) e body [] pos) (tM X i (L9 j f n1)):=by
 refine(G8 hp hc (GO he) (CJ hN hj hx hf) hb hs).aE ?_;rintro D Z H ⟨H0,eD,env,p,ws,eC,q,E,N,h0,e,k⟩;obtain⟨⟨kr,d⟩,hr,e⟩:=bindM e;split at e
 .rename_i xs hd;have xb :d= .tup xs:=hd;subst xb;split at e
  .rename_i him;refine⟨H0,_,env,_,E,hr,λv H1 s1 R=> ?_⟩;have i1:Inn X.K (Cln (fI eD p ws) env Z) H1 (.tup xs) v:=R.inn;cases i1 with
   | @tup la lv _ Rm rr=>
    have hll:xs.length=lv.length:=rr.1;refine⟨_,rfl,.inr ⟨⟨_,SqT.of Rm⟩, ?_⟩⟩;refine⟨λc n Z' H' =>n=xs.length -c/\c<=xs.length/\lJ H1 H' /\∃eI yb z0,au X.K H0 (fI eD p yb) eI Z' H' /\da X.K (fI eD p yb) eI Z' H' i p yb z0/\FrW H0 eD p yb/\mD j n1 (xs.drop c) eI z0=some q,
     ⟨xs.length,by simp,Gba _,λ_ _ e _=>e,env,ws,eC,E.mono s1,N.mono s1,h0,by simpa using e⟩, ?_⟩
    rintro c n Z' H' ⟨rfl,hle,tS,eI,yb,z0,Ei,Ni,Fi,ei⟩;have hla' :H' la=some (.tup lv):=tS _ _ Rm trivial;by_cases eU:c<xs.length
    .have hd:xs.drop c=xs[c]::xs.drop (c+1):=GbT eU;rw[hd] at ei;unfold mD at ei;obtain⟨q1,hq,ei⟩:=bindM ei;have zh:lv[c]? =some (lv[c]'(by lia)):=Gab _;refine .inr ⟨⟨lv,_,SqT.of hla',zh⟩,λZ2 H2=>lJ H1 H2/\∃eI yb z0,au X.K H0 (fI eD p yb) eI Z2 H2/\da X.K (fI eD p yb) eI Z2 H2 i p yb z0/\FrW H0 eD p yb/\mD j n1 (xs.drop (c+1)) eI z0=some q,λZ2 H2 z=> ⟨xs.length -(c+1),by lia,rfl,eU,z⟩,λy H2 ⟨e2,e3⟩=> ?_⟩;subst e2;have ey:=e3 _ (SqT.of hla');rw[zh] at ey;cases ey;have rep0:=rr.2 c _ _ (Gab eU) zh;have rep1:Rep X.K (λ_=>False) H1 xs[c] lv[c]:=rep0.imm (pD him c _ (Gab eU));have rep2:Rep X.K (Cln (fI eD p yb) eI Z') H2 xs[c] lv[c]:=rep1.gen (λb o hb w=>w.elim (λz=>z.elim) λw=>tS b o hb w) λ_ z _=>z.elim;refine⟨H0,eD,eI.set j (some (.sh xs[c])),p,yb,z0,q1,Ei.l6 rep2,Ni.l6 yk,Fi,hq,λZ3 H3 To E3 N3 F3 t3=> ?_⟩;exact⟨tS.trans t3,q1.1,To,q1.2,E3,N3,F3,ei⟩
    .have yl :c=xs.length:=by lia
     subst yl;rw[GdE] at ei;cases ei;exact .inl ⟨⟨lv,SqT.of hla',by lia⟩,k Z' H' yb Ei Ni Fi ((lJ.same s1).trans tS)⟩
  .cases e
 .cases e
theorem F8{dp rp:Pos}(hN:X.N.Nodup)(hi:X.N[i]? =some x)(hx:Loc X.env.scope x)(hv:Vis X.env.scope x)(h1:PS X st (tM X i n1))(hd:(x==("__debug__":Str))=false:=by decide)(xu:(x==("__classdict__":Str))=false:=by decide)
  (hs:swapsWith (.Dict [] [] dp) (some (.Name x pos')) pos.line X.env=pure false:=by rfl)
  (hf:X.fn x=true\/X.env.scope.names.lookup x=some .local:=by first|exact .inl rfl|exact .inr rfl|assumption):
  qg X [.Assign [.Name x pos'] (.Dict [] [] dp) pos,st,.Return (some (.Name x px)) rp] (Gy i n1):=by
 intro e8 z Z H D I hw;have hl:=I.len;refine(md (B5 hN hi hx w6 hs hf) (md h1 (uu (G4 (jw hi hv hd xu))))) e8 z Z H D I ?_;obtain⟨H0,eD,env,o,E,e,k⟩:=hw;obtain⟨q,hq,e⟩:=bindM e;cases e;have hie:i<env.length:=BA E hl hi;have hie' :i<Z.length:=by rw[<-E.len];exact hie
 intro p np;have eB:(λb=>eD b\/b=p)=fI eD p []:=by
  funext b
  apply propext;unfold fI;simp
 have E1:au X.K H0 (fI eD p []) (env.set i none) (Z.set i (some (.ref p))) (upd H p (.dT [])):=by
  rw[<-eB];exact(E.hide i (.ref p)).Dp (New:=λb=>b=p) (aU np) (λb hb=>by rw[hb];exact np) λb hb=>by rw[hb,ay];simp
 have N1:da X.K (fI eD p []) (env.set i none) (Z.set i (some (.ref p))) (upd H p (.dT [])) i p [] []:=
  ⟨bV hie',bV hie,ay,rfl,λj k v d h=>by simp at h,λj j' k k' a h=>by simp at h⟩
 have F1:FrW H0 eD p []:=λb hb=>by
  rcases hb with rfl|hb
  .exact⟨E.same.free np,λq=>E.bad b q np⟩
  .simp at hb
 refine⟨H0,eD,env.set i none,p,[],[],q,E1,N1,F1,hq,λZ' H' ws' E' N' F' _=> ?_⟩;refine⟨.ref p,N'.at_,k (.ref p) H' E'.same ⟨λ_=> ⟨p,rfl,(F' p (.inl rfl)).1,⟨_,N'.top,trivial⟩⟩,.dT N'.top ⟨N'.keys,λj pd wd e1 e2=> ?_⟩⟩⟩;obtain⟨kd,dd⟩:=pd;obtain⟨kw,vw⟩:=wd;have ek:kd=kw:=C2 N'.keys e1 e2;subst ek;obtain⟨a,ds,vs,r1,r2,r3,r4,r5⟩:=N'.row j kd vw dd e2 e1;subst r1 r2;have fa:=F' a (.inr (Gax.mpr ⟨_,GaD e2,rfl⟩));exact .lst ⟨fa.1,λz=>r3 (by cases z;rfl)⟩ (.inl r4) r5.1 λj' d v h1 h2=>(r5.2 j' d v h1 h2).imp λ_ z=>z.elim
end
theorem cH{N P:List Str}{sc:Scope}(a:sc.kind= .function:=by rfl)(b:sc.isCoroutine=false:=by rfl)(c:sc.isGenerator=false:=by rfl)(d:N.Nodup:=by decide+kernel)(e:N.take P.length=P:=by rfl)(f:∀x∈P,sc.names.lookup x=some .local\/sc.names.lookup x=some .cell:=by decide+kernel)(g:∀y∈sc.names,y.2≠ .free:=by decide+kernel):j4 N P sc:=⟨a,b,c,d,e,f,g⟩
section
variable{X:Cx}{e a b c:Expr}{f g h:DE}{pos:Pos}
theorem HI{prog:Program}{w:World}{A:Around}{E:Value->Shared->Prop}{z:Shared}{t b:Addr}{ws:List Value}{Q:Value->Shared->Prop}(ht:IsTup z.heap t #[])(hb:IsTup z.heap b ws.toArray)(h:Q (.ref b) z):wpAny (model prog w) A (binaryOp .Add (.ref t) (.ref b)) Q E z:=by
 obtain⟨⟨cls,dd,data,sl⟩,ho,hc,n,hd⟩:=id ht;obtain⟨⟨zY,yQ,data2,yH⟩,xS,yE,n2,hd2⟩:=id hb;simp only at hc hd yE hd2;subst hc hd yE hd2;exact concat_meets ⟨_,ho,rfl⟩ ⟨_,xS,rfl⟩ noFill_tuple_add seq_tuple_add Gdw Gdr (Gdl _ _)
  (tuple_addW0 t b #[] ws.toArray n n2 dd yQ sl yH (by simp)) ⟨ho,xS,h⟩
def Lf(K:ao):R2:=λx y H Q=>∃a b ys,x= .ref a/\y= .ref b/\SqT K H a []/\SqT K H b ys/\Q (.ref b) H
theorem Kd:OpR X (binaryOp .Add) (Lf X.K):=by
 intro e8 s Z H x y v u Q I rx ry h;obtain⟨a,b,ys,rfl,rfl,ha,hb,q⟩:=h;cases rx;cases ry;obtain⟨its,r1,p1,_⟩:=I.tuple ha;obtain⟨eO,r2,p2,_⟩:=I.tuple hb;have e:its=[]:=r1.cf.mpr rfl;subst e;exact HI p1 p2 ⟨.ref b,H,I,rfl,q⟩
theorem HJ:OpD X fH (λx y H Q=>Lf X.K x y H Q\/GA X.K x y H Q):=by
 intro F H dx dy x y rv Q ix iy e k;unfold fH at e;split at e
 .cases e;cases ix with
  |tup hx rx=>
   cases iy with
   |tup hy ry=>
    have:=rx.ne.mpr rfl;subst this;exact .inl ⟨_,_,_,rfl,rfl,SqT.of hx,SqT.of hy,k _ H bB (.tup hy ry.1 ry.2)⟩
 .exact .inr (D4 F H dx dy x y rv Q ix iy e k)
theorem Ds(ha:PEd X a f)(hb:PEd X b g):PEd X (.BinOp a .Add b pos) (opE fH f g):=qh (Kd.or D3) HJ ha hb
end
noncomputable def fQ(mask:Nat):Nat->Nat×Nat->Nat×Nat
 |0,x=>x
 |n+1,x=>fQ mask n (SetTable.leap mask x.1 x.2)
theorem tV(mask:Nat):∀(m n:Nat) (x:Nat×Nat),fQ mask (m+n) x=fQ mask n (fQ mask m x)
 |0,n,x=>by rw[Gbc];rfl
 |m+1,n,x=>by
  rw[Nat.succ_add];exact tV mask m n (SetTable.leap mask x.1 x.2)
noncomputable def lcg(mask:Nat):Nat->Nat->Nat
 |0,i=>i
 |n+1,i=>lcg mask n ((i*5+1)%(mask+1))
theorem A6(mask:Nat):∀(n i:Nat),fQ mask n (i,0)=(lcg mask n i,0)
 |0,i=>rfl
 |n+1,i=>by
  show fQ mask n (SetTable.leap mask i 0)=_;have:SetTable.leap mask i 0=((i*5+1)%(mask+1),0):=by simp[SetTable.leap]
  rw[this,A6 mask n]
  rfl
theorem mT(mask:Nat):∀(n:Nat) (x:Nat×Nat),(fQ mask n x).2=x.2/32^n
 |0,x=>by simp[fQ]
 |n+1,x=>by
  show(fQ mask n (SetTable.leap mask x.1 x.2)).2=_;rw[mT mask n];show x.2/32/32^n=_;rw[Nat.div_div_eq_div_mul,Nat.pow_succ,Nat.mul_comm]
theorem Dt(mask:Nat):∀(n:Nat) (x:Nat×Nat),x.1<=mask->(fQ mask n x).1<=mask
 |0,x,h=>h
 |n+1,x,h=>Dt mask n _ (Gcq (Gdd _ (Gcy _)))
noncomputable def qK(mask:Nat):Nat->Nat->List Nat
 |0,_=>[]
 |n+1,i=>i::qK mask n ((i*5+1)%(mask+1))
theorem A7(mask:Nat):∀(n i m:Nat),m<n->(qK mask n i)[m]? =some (lcg mask m i)
 |0,i,m,h=>by lia
 |n+1,i,0,h=>rfl
 |n+1,i,m+1,h=>by
  show(qK mask n ((i*5+1)%(mask+1)))[m]? =_;exact A7 mask n _ m (by lia)
theorem qL(mask:Nat):∀(n i:Nat),(qK mask n i).length=n
 |0,i=>rfl
 |n+1,i=>by show(qK mask n _).length+1=n+1;rw[qL mask n]
theorem pH(mask:Nat):∀(m n i:Nat),lcg mask (m+n) i=lcg mask n (lcg mask m i)
 |0,n,i=>by rw[Gbc];rfl
 |m+1,n,i=>by
  rw[Nat.succ_add];exact pH mask m n _
noncomputable def cE(mask:Nat):Bool:=((List.range (mask+1)).all λe=>(qK mask (mask+1) 0).contains e)&&lcg mask (mask+1) 0==0
theorem Pr:cE 31=true:=by decide+kernel
theorem MA:cE 127=true:=by decide+kernel
variable{mask:Nat}
theorem HK{e:Nat}(h:cE mask=true)(he:e<=mask):∃m,m<=mask/\lcg mask m 0=e:=by
 unfold cE at h;rw[Gas] at h;have h2:=Gao.mp h.1 e (GaV.mpr (by lia));have h3:e∈qK mask (mask+1) 0:=by simpa using h2
 obtain⟨m,hm,e1⟩:=GbM h3;rw[qL] at hm;refine⟨m,by lia, ?_⟩;have:=A7 mask (mask+1) 0 m hm;rw[Gab (by rw[qL];exact hm),e1] at this;exact(Option.some.inj this).symm
variable{i:Nat}
theorem MB{e:Nat}(h:cE mask=true)(hi:i<=mask)(he:e<=mask):∃m,m<=mask/\lcg mask m i=e:=by
 obtain⟨a,ha,ea⟩:=HK h hi;obtain⟨b,hb,eb⟩:=HK h he;by_cases c:a<=b
 .refine⟨b -a,by lia, ?_⟩;rw[<-ea,<-pH,show a+(b -a)=b by lia];exact eb
 .refine⟨mask+1 -a+b,by lia, ?_⟩;have z:lcg mask (mask+1) 0=0:=by
   unfold cE at h;rw[Gas] at h
   simpa using h.2
  have e0:lcg mask (mask+1 -a) i=0:=by
   rw[<-ea,<-pH,show a+(mask+1 -a)=mask+1 by lia];exact z
  rw[pH,e0];exact eb
theorem tW{p e:Nat}(h:cE mask=true)(hi:i<=mask)(hp:p<2^64)(he:e<=mask):∃n,1<=n/\n<=mask+13/\(fQ mask n (i,p)).1=e:=by
 have z:(fQ mask 13 (i,p)).2=0:=by
  rw[mT];exact Nat.div_eq_of_lt (GaH hp (by decide))
 have l:=Dt mask 13 (i,p) hi;obtain⟨m,hm,e1⟩:=MB h l he;refine⟨13+m,by lia,by lia, ?_⟩;rw[tV];have:fQ mask 13 (i,p)=((fQ mask 13 (i,p)).1,0):=Prod.ext rfl z;rw[this,A6];exact e1
theorem o6(mask i:Nat):SetTable.runEnd mask i -i<=9:=by
 unfold SetTable.runEnd;split<;>lia
structure POk(t:SetTable)(p:SetTable.Probe):Prop where
 i:p.i<=t.mask
 more:p.more<=9
 Nm:p.perturb<2^64
theorem POk.start(t:SetTable)(h:Int):POk t (t.probeStart h):=by
 refine⟨?_,o6 _ _, ?_⟩
 .exact Gcq (Gdd _ (Gcy _))
 .show SetTable.bits h<2^64;unfold SetTable.bits;have h1:0<=h%(2^64:Int):=GbG _ (by decide);have h2:h%(2^64:Int)<2^64:=GbC _ (by decide);lia
theorem POk.adv{t:SetTable}{p:SetTable.Probe}(h:POk t p):POk t (t.advance p):=by
 unfold SetTable.advance;split
 .exact⟨h.i,by show p.more -1<=9;have:=h.more;lia,h.Nm⟩
 .refine⟨?_,o6 _ _, ?_⟩
  .exact Gcq (Gdd _ (Gcy _))
  .show p.perturb/32<2^64;exact GcH (Nat.div_le_self _ _) h.Nm
theorem F9(t:SetTable)(p:SetTable.Probe)(d:Option Nat):(t.advance {p with dummy:=d})={t.advance p with dummy:=d}:=by
 unfold SetTable.advance;dsimp only;split<;>rfl
theorem A8(t:SetTable)(p:SetTable.Probe):{t.advance p with dummy:=p.dummy}=t.advance p:=by
 unfold SetTable.advance;dsimp only;split<;>rfl
theorem qM{t:SetTable}{hashAt:Nat->Int}{h:Int}{e:Nat}(he:t.slot e= .empty):∀(fuel n:Nat) (p:SetTable.Probe),1<=n->p.more<=9->(fQ t.mask n (p.i,p.perturb)).1=e->p.more+10*(n -1)+1<fuel->(SetTable.probe.go t hashAt h fuel p).isSome=true
 |0,n,p,_,_,_,hf=>by lia
 |fuel+1,n,p,hn,hm,hl,hf=>by
  have rec_:∀d:Option Nat,(SetTable.probe.go t hashAt h fuel {t.advance p with dummy:=d}).isSome=true:=λd=>by
   by_cases c:p.more>0
   .have ea:t.advance p={p with j:=p.j+1,more:=p.more -1}:=by
     unfold SetTable.advance;rw[Gaj c]
    rw[ea];exact qM he fuel n _ hn (by show p.more -1<=9;lia) hl (by show p.more -1+10*(n -1)+1<fuel;lia)
   .have ea:t.advance p={p with j:=(SetTable.leap t.mask p.i p.perturb).1,more:=SetTable.runEnd t.mask (SetTable.leap t.mask p.i p.perturb).1 -(SetTable.leap t.mask p.i p.perturb).1,i:=(SetTable.leap t.mask p.i p.perturb).1,perturb:=(SetTable.leap t.mask p.i p.perturb).2}:=by
     unfold SetTable.advance;rw[Gai c]
    rw[ea];have hr:=o6 t.mask (SetTable.leap t.mask p.i p.perturb).1;by_cases c1:n=1
    .subst c1;have hj:(SetTable.leap t.mask p.i p.perturb).1=e:=hl;cases fuel with
     |zero=>lia
     |succ fuel=>
      unfold SetTable.probe.go;dsimp only;rw[hj,he]
      rfl
    .obtain⟨n',rfl⟩:∃n',n=n' +1:=⟨n -1,by lia⟩
     refine qM he fuel n' _ (by lia) hr hl ?_;show SetTable.runEnd t.mask (SetTable.leap t.mask p.i p.perturb).1 -(SetTable.leap t.mask p.i p.perturb).1+10*(n' -1)+1<fuel;lia
  unfold SetTable.probe.go;cases q:t.slot p.j with
  |empty=>rfl
  |dummy=>
   dsimp only;rw[F9];exact rec_ _
  |live i=>
   dsimp only;split
   .rfl
   .have:=rec_ p.dummy;rw[A8] at this;exact this
theorem C3{t:SetTable}{hashAt:Nat->Int}{h:Int}{e:Nat}{p:SetTable.Probe}(hc:cE t.mask=true)(hp:POk t p)(he:t.slot e= .empty)(zR:e<=t.mask):(t.probe hashAt h p).isSome=true:=by
 obtain⟨n,h1,h2,h3⟩:=tW hc hp.i hp.Nm zR;unfold SetTable.probe SetTable.turns;exact qM he _ n p h1 hp.more h3 (by have:=hp.more;lia)
theorem qN{mask:Nat}{owner:Array (Option Nat)}{e:Nat}(he:owner[e]? =some none):∀(fuel n i p:Nat),n<fuel->(fQ mask n (i,p)).1=e->∃j,SetTable.layClean.free mask owner fuel i p=some j/\owner[j]? =some none
 |0,n,i,p,hf,_=>by lia
 |fuel+1,n,i,p,hf,hl=>by
  unfold SetTable.layClean.free;cases q:(List.range (SetTable.runEnd mask i+1 -i)).find? λk=>(owner.getD (i+k) (some 0)).isNone with
  |some k=>
   refine⟨i+k,rfl, ?_⟩;have h1:(owner.getD (i+k) (some 0)).isNone=true:=by simpa using List.find?_some q
   rw[Gbh] at h1;cases z:owner[i+k]? with
   |none=>rw[z] at h1;simp at h1
   |some o=>
    rw[z] at h1;simp at h1;rw[h1]
  |none=>
   dsimp only;cases n with
   |zero=>
    exfalso;have hi:i=e:=hl;have:=GbS.mp q 0 (GaV.mpr (by unfold SetTable.runEnd;split<;>lia));rw[Nat.add_zero,hi,Gbh,he] at this;simp at this
   |succ n=>exact qN he fuel n _ _ (by lia) hl
theorem Fb{mask:Nat}{owner:Array (Option Nat)}{e:Nat}{h:Int}(hc:cE mask=true)(he:owner[e]? =some none)(zR:e<=mask):∃j,SetTable.layClean.free mask owner (SetTable.turns mask) (SetTable.bits h%(mask+1)) (SetTable.bits h)=some j/\owner[j]? =some none:=by
 have hp:SetTable.bits h<2^64:=by
  unfold SetTable.bits;have h1:0<=h%(2^64:Int):=GbG _ (by decide);have h2:h%(2^64:Int)<2^64:=GbC _ (by decide);lia
 obtain⟨n,h1,h2,h3⟩:=tW (i:=SetTable.bits h%(mask+1)) hc (Gcq (Gdd _ (Gcy _))) hp zR;exact qN he _ n _ _ (by unfold SetTable.turns;lia) h3
theorem Du:∀{l:List (Option Nat)} {j m:Nat},l[j]? =some none->((l.set j (some m)).filterMap id).Perm (m::l.filterMap id)
 |[],j,m,h=>by simp at h
 |x::l,0,m,h=>by
  simp at h;subst h;simp
 |x::l,j+1,m,h=>by
  have h' :l[j]? =some none:=by simpa using h
  have ih:=Du (m:=m) h';rw[GaM];cases x with
  |none=>simpa using ih
  |some y=>
   show(y::(l.set j (some m)).filterMap id).Perm (m::y::l.filterMap id);exact(List.Perm.cons y ih).trans (List.Perm.swap m y _)
theorem has_none:∀{l:List (Option Nat)},(l.filterMap id).length<l.length->∃e:Nat,l[e]? =some none
 |[],h=>by simp at h
 |none::l,_=> ⟨0,rfl⟩
 |some x::l,h=>by
  have:(l.filterMap id).length<l.length:=by
   simp at h
   simpa using h
  obtain⟨e,he⟩:=has_none this;exact⟨e+1,by simpa using he⟩
structure Laid(mask m:Nat)(owner:Array (Option Nat)):Prop where
 size:owner.size=mask+1
 occ:(owner.toList.filterMap id).Perm (List.range m)
theorem C4(mask:Nat):Laid mask 0 (Array.replicate (mask+1) none):=by
 refine⟨by simp, ?_⟩;have:((Array.replicate (mask+1) (none:Option Nat)).toList.filterMap id)=[]:=by
  rw[Array.toList_replicate,List.filterMap_eq_nil_iff];intro x hx;rw[List.eq_of_mem_replicate hx]
  rfl
 rw[this];exact List.Perm.refl _
theorem Fc(owner:Array (Option Nat)):∀n,n=owner.size->((List.range n).filterMap λj=>(owner.getD j none).map λk=>(j,k)).map (·.2)=owner.toList.filterMap id:=by
 intro n hn;subst hn;have e:owner.toList=(List.range owner.size).map λj=>owner.getD j none:=by
  apply GcO;intro i;rw[Gam,Gbk];by_cases c:i<owner.size
  .rw[GdV c,GaA c,GbL,Gbh,GaA c]
   rfl
  .rw[GbP (by lia),Gbj (by simp;lia)]
   rfl
 rw[e,List.filterMap_map,List.map_filterMap];congr 1
 funext j
 show Option.map _ (Option.map _ _)=id (owner.getD j none);cases owner.getD j none<;>rfl
inductive Im (h:Heap):Nat->D->Value->Prop where
 |int (n:Nat) (i:Int) (t:Tok):Im h n (.int i) (.int i t)
 |str (n:Nat) (x:Str) (t:Tok):Im h n (.str x) (.str x t)
 |tup {n m:Nat} {a:Addr} {o:Obj} {items:Array Value} {ds:List D} (ho:h.get? a=some o) (hc:o.cls= .type "tuple") (hd:o.data= .seq items m) (hl:ds.length=items.toList.length) (hi:∀(i:Nat) d v,ds[i]? =some d->items.toList[i]? =some v->Im h n d v):Im h (n+1) (.tup ds) (.ref a)
noncomputable def b9(w:World):Nat->D->Int
 |_,.int i=>hashInt i
 |_,.str x=>hashStr w x
 |n+1,.tup ds=>reduceHash (Builtin.Tuple.tupleHashOf (ds.map (b9 w n)))
 |_,_=>0
section
variable{prog:Program}{w:World}{A:Around}{E:Value->Shared->Prop}{s:Shared}
def vb(prog:Program)(w:World)(A:Around)(s:Shared)(v:Value)(h:Int):Prop:=∀(tk:Nat) (R:Int->Shared->Prop) (E:Value->Shared->Prop),(∀yi,tk<=yi ->R h {s with toks:=yi })->wpAny (model prog w) A (pyHash v) R E {s with toks:=tk}
theorem qO{n:Nat}:∀{vs:List Value} {ds:List D} (acc:Array Int) (tk:Nat) {Q:Array Int->Shared->Prop},ds.length=vs.length->(∀(i:Nat) d v,ds[i]? =some d->vs[i]? =some v->vb prog w A s v (b9 w n d))->(∀yi,tk<=yi ->Q (acc++(ds.map (b9 w n)).toArray) {s with toks:=yi })->
  wpAny (model prog w) A (forIn vs acc λx hs=>pyHash x>>=λh=>pure (ForInStep.yield (hs.push h))) Q E {s with toks:=tk}
 |[],[],acc,tk,Q,_,_,h=>Gac (by simpa using h tk (Gap _))
 |v::vs,d::ds,acc,tk,Q,hl,hi,h=>by
  rw[GdP];refine Gaa (Gaa (hi 0 d v rfl rfl tk _ _ λSo le=>Gac ?_));refine qO (acc.push (b9 w n d)) So (by simpa using hl) (λi d v e1 e2=>hi (i+1) d v e1 e2) λTp Rf=> ?_;have:=h Tp (Gbo le Rf)
  simpa using this
variable{n:Nat}
theorem C5{a:Addr}{o:Obj}{items:Array Value}{m:Nat}{ds:List D}(hu:A.units<cLine)(ho:s.heap.get? a=some o)(hc:o.cls= .type "tuple")(hd:o.data= .seq items m)(hl:ds.length=items.toList.length)
  (hi:∀(i:Nat) d v,ds[i]? =some d->items.toList[i]? =some v->vb prog w A.in1 s v (b9 w n d)):vb prog w A s (.ref a) (b9 w (n+1) (.tup ds)):=by
 intro tk Q E h;have hT:({s with toks:=tk}:Shared).TypeIs (.ref a) "tuple":=⟨o,ho,hc⟩
 have nn:(some (Value.builtin "tuple.__hash__")==some Value.none)=false:=beq_builtin_none _;unfold pyHash
 wp_walk using wpAny_cRoomFor_or (.inr hu),GdS hT Gdv.lookup,wpAny_callSpecialIfBoundUnlessNone?_slot hT Gdv,Gbb Gdv hT F.entry_tuple_hash (ha:=F.args_tuple_hash_1 _),wpAny_tupleItemsOf ho hd
 rw[hd];refine Gac (Gac (Gaa ?_));rw[<-Array.forIn_toList];refine qO #[] tk hl hi λSo le=>wpAny_ret_mkInt ?_;rw[show(#[]++(ds.map (b9 w n)).toArray:Array Int).toList=ds.map (b9 w n) by simp];have q:∀t,tk<=t->Q (reduceHash (Builtin.Tuple.tupleHashOf (ds.map (b9 w n)))) {s with toks:=t}:=h;unfold reduceHash at q;have Rf:=Nat.le_succ_of_le le;refine GcI (λc=>Gac ?_) (λc=>Gaa (wpAny_rule (Gac ?_)))
 .rw[Gaj c] at q
  first|exact q _ Rf|exact q _ le
 .rw[Gai c] at q
  first|exact q _ Rf|exact q _ le
theorem Ke{d:D}{v:Value}(p:Im s.heap n d v):∀{A:Around},A.units+n<cLine->vb prog w A s v (b9 w n d):=by
 induction p with
 |int n i t=>
  intro A hu tk R E h;have e:b9 w n (.int i)=(br prog w).hash (.inl i):=by cases n<;>rfl
  rw[e] at h;exact(br prog w).pyHash (k:= .inl i) (oA prog w i t) (h _ (by first|exact Gap _|exact GbU _))
 |str n x t=>
  intro A hu tk R E h;have e:b9 w n (.str x)=(br prog w).hash (.inr x):=by cases n<;>rfl
  rw[e] at h;exact(br prog w).pyHash (k:= .inr x) (oB prog w x t) (h _ (by first|exact Gap _|exact GbU _))
 | @tup n _ _ _ _ _ ho hc hd hl hi ih=>exactλhu=>C5 (by lia) ho hc hd hl λi d v e1 e2=>ih i d v e1 e2 (by rename_i A;show A.units+1+n<cLine;lia)
end
section
variable{prog:Program}{w:World}{A:Around}{E:Value->Shared->Prop}{s:Shared}
variable{items:Array Value}
theorem o7{β:Type}{body:Value->β->Sem (ForInStep β)}{b0:β}{Q:β->Shared->Prop}(step:∀v∈items.toList,∀P:ForInStep β->Shared->Prop,P (.yield b0) s->(∀b,Q b s->P (.done b) s)->wpAny (model prog w) A (body v b0) P E s)(fin:Q b0 s):wpAny (model prog w) A (forIn items b0 body) Q E s:=by
 rw[<-Array.forIn_toList]
 suffices∀l:List Value,(∀v∈l,v∈items.toList)->wpAny (model prog w) A (forIn l b0 body) Q E s from this _ λ_ q=>q
 intro l;induction l with
 |nil=>exactλ_=>Gac fin
 |cons v l ih=>
  intro all;rw[GdP];exact Gaa (step v (all v Gak) _ (ih λx m=>all x (Gag _ m)) λb q=>Gac q)
theorem Im.item{n:Nat}{ds:List D}(hl:ds.length=items.toList.length)(hi:∀(i:Nat) d v,ds[i]? =some d->items.toList[i]? =some v->Im s.heap n d v){v:Value}(m:v∈items.toList):∃d,Im s.heap n d v:=by
 obtain⟨i,h⟩:=List.mem_iff_getElem?.mp m;have lt:i<ds.length:=by rw[hl];exact(Gal.mp h).1
 exact⟨_,hi i ds[i] v (Gab lt) h⟩
theorem qP:∀(n:Nat) {k:Nat} {d:D} {v:Value} {E:Value->Shared->Prop} {Q:Bool->Shared->Prop},Im s.heap n d v->n<=k->Q true s->wpAny (model prog w) A (eqIsQuiet k v) Q E s
 |_,_,_,_,_,_,.int ..,_,h=>by rw[eqIsQuiet_byValue _ rfl];exact Gac h
 |_,_,_,_,_,_,.str ..,_,h=>by rw[eqIsQuiet_byValue _ rfl];exact Gac h
 |n+1,k+1,_,.ref a,_,_,.tup ho hc hd hl hi,hk,h=>by
  have hT:s.TypeIs (.ref a) "tuple":=⟨_,ho,hc⟩
  unfold eqIsQuiet;apply Gaa;apply GdS hT F.slot_tuple_eq.lookup;refine Gaa (wpAny_isInstance hT isSubtype_tuple_tuple (GbZ rfl (Gaa (Gcu ho hd (Gaa (o7 (λv m P yes _=> ?_) ?_))))))
  .obtain⟨d,im⟩:=Im.item hl hi m;exact Gaa (qP n im (by lia) (GbZ rfl (Gac yes)))
  .exact Gac h
theorem qQ:∀(n:Nat) {k:Nat} {d:D} {v:Value} {E:Value->Shared->Prop} {Q:Bool->Shared->Prop},Im s.heap n d v->n<=k->Q false s->wpAny (model prog w) A (ofAClassStatement k v) Q E s
 |_,_,_,_,_,_,.int ..,_,h=>by unfold ofAClassStatement;exact Gac h
 |_,_,_,_,_,_,.str ..,_,h=>by unfold ofAClassStatement;exact Gac h
 |n+1,k+1,_,.ref a,_,_,.tup ho hc hd hl hi,hk,h=>by
  have hT:s.TypeIs (.ref a) "tuple":=⟨_,ho,hc⟩
  unfold ofAClassStatement;refine Gaa (GdM hT (wpAny_ite_true rfl (Gaa (Gac (GbZ rfl (Gaa (Gcu ho hd (Gaa (o7 (λv m P yes _=> ?_) ?_)))))))))
  .obtain⟨d,im⟩:=Im.item hl hi m;exact Gaa (qQ n im (by lia) (GbZ rfl (Gac yes)))
  .exact Gac h
theorem HL:∀(n:Nat) {k:Nat} {d:D} {v:Value} {E:Value->Shared->Prop} {Q:Bool->Shared->Prop},Im s.heap n d v->n<=k->(∀b,Q b s)->wpAny (model prog w) A (hashByValue k v) Q E s
 |_,k,_,_,_,_,.int ..,_,h=>by cases k<;>exact Gac (h _)
 |_,k,_,_,_,_,.str ..,_,h=>by cases k<;>exact Gac (h _)
 |n+1,k+1,_,.ref a,_,_,.tup ho hc hd hl hi,hk,h=>by
  have hT:s.TypeIs (.ref a) "tuple":=⟨_,ho,hc⟩
  unfold hashByValue;apply Gaa;apply GdS hT Gdv.lookup;refine Gaa (Gcu ho hd (Gaa (o7 (λv m P yes no=> ?_) ?_)))
  .obtain⟨d,im⟩:=Im.item hl hi m;refine Gaa (HL n im (by lia) λb=> ?_);cases b
   .exact wpAny_ite_true rfl (Gac (no _ (Gac (h _))))
   .exact GbZ rfl (Gac yes)
  .exact Gac (h _)
end
section
variable{s:Shared}
theorem HM(n:Nat):∀{d:D} {v:Value},Im s.heap n d v->aD n d=true:=by
 induction n with
 |zero=>
  intro d v im;cases im<;>rfl
 |succ n ih=>
  intro d v im;cases im with
  |int _ i t=>rfl
  |str _ x t=>rfl
  | @tup _ m a o items ds ho hc hd hl hi=>
   show ds.all (aD n)=true;rw[Gao];intro d hdm;obtain⟨i,U9,rfl⟩:=GbM hdm;exact ih (hi i ds[i] items.toList[i] (Gab U9) (Gab (by lia)))
theorem qR(n:Nat):∀{d e:D} {v:Value},Im s.heap n d v->Im s.heap n e v->d=e:=by
 induction n with
 |zero=>
  intro d e v i1 i2;cases i1<;>cases i2<;>rfl
 |succ n ih=>
  intro d e v i1 i2;cases i1 with
  |int _ i t=>cases i2;rfl
  |str _ x t=>cases i2;rfl
  | @tup _ m a o items ds ho hc hd hl hi=>
   cases i2 with
   | @tup _ m' _ o' items' xn xx yl xb zi eZ =>
    rw[ho] at xx;cases xx;rw[hd] at xb;cases xb;congr 1;apply Gdc (by lia);intro i h1 h2;exact ih (hi i _ items.toList[i] (Gab h1) (Gab (by lia))) (eZ i _ _ (Gab h2) (Gab (by lia)))
theorem Pt(n:Nat):∀{dx dy:D} {v u:Value} {A:Around},Im s.heap n dx v->Im s.heap n dy u->A.units+n<cLine->SeqAt.EqAt A s v u (eqD dx dy):=by
 have flat:∀{x y:V} {v u:Value} {A:Around} {b:Bool},RelV x v->RelV y u->sS x=true->sS y=true->b=eqV x y->SeqAt.EqAt A s v u b:=by
  intro x y v u A b rv ru fx fy e;rw[e];exact Gh rv ru fx fy
 induction n with
 |zero=>
  intro dx dy v u A i1 i2 hu;cases i1 with
  |int _ i t=>
   cases i2 with
   |int _ j t' =>exact flat (x:= .int i) (y:= .int j) ⟨t,rfl⟩ ⟨t',rfl⟩ rfl rfl rfl
   |str _ y t' =>exact flat (x:= .int i) (y:= .str y) ⟨t,rfl⟩ ⟨t',rfl⟩ rfl rfl rfl
  |str _ x t=>
   cases i2 with
   |int _ j t' =>exact flat (x:= .str x) (y:= .int j) ⟨t,rfl⟩ ⟨t',rfl⟩ rfl rfl rfl
   |str _ y t' =>exact flat (x:= .str x) (y:= .str y) ⟨t,rfl⟩ ⟨t',rfl⟩ rfl rfl rfl
 |succ n ih=>
  intro dx dy v u A i1 i2 hu;have hu0:A.units<cLine:=by lia
  cases i1 with
  |int _ i t=>
   cases i2 with
   |int _ j t' =>exact flat (x:= .int i) (y:= .int j) ⟨t,rfl⟩ ⟨t',rfl⟩ rfl rfl rfl
   |str _ y t' =>exact flat (x:= .int i) (y:= .str y) ⟨t,rfl⟩ ⟨t',rfl⟩ rfl rfl rfl
   |tup ho hc hd hl hi=>exact SeqAt.EqAt.int_tuple i t ⟨_,ho,hc,_,hd⟩ hu0
  |str _ x t=>
   cases i2 with
   |int _ j t' =>exact flat (x:= .str x) (y:= .int j) ⟨t,rfl⟩ ⟨t',rfl⟩ rfl rfl rfl
   |str _ y t' =>exact flat (x:= .str x) (y:= .str y) ⟨t,rfl⟩ ⟨t',rfl⟩ rfl rfl rfl
   |tup ho hc hd hl hi=>exact SeqAt.EqAt.str_tuple x t ⟨_,ho,hc,_,hd⟩ hu0
  | @tup _ m a o items ds ho hc hd hl hi=>
   have ht:IsTup s.heap a items:=⟨_,ho,hc,_,hd⟩
   have i1' :Im s.heap (n+1) (.tup ds) (.ref a):= .tup ho hc hd hl hi;cases i2 with
   |int _ j t' =>exact SeqAt.EqAt.tuple_int j t' ht hu0
   |str _ y t' =>exact SeqAt.EqAt.tuple_str y t' ht hu0
   | @tup _ m' b o' items' xn xx yl xb zi eZ =>
    have i2' :Im s.heap (n+1) (.tup xn) (.ref b):= .tup xx yl xb zi eZ;by_cases hab:a=b
    .subst hab;have:=qR (n+1) i1' i2';rw[<-this,qo _ _ (HM _ i1')];exact SeqAt.EqAt.same _
    .have h7:IsTup s.heap b items' :=⟨_,xx,yl,_,xb⟩
     have hX:items.size=ds.length:=by rw[hl];simp
     have xj:items'.size=xn.length:=by rw[zi];simp
     have key:=SeqAt.RcAt.tuples (e:=λj=>eqD (ds.getD j .non) (xn.getD j .non)) ht h7 hu0 λj h1 h2=>by
      have e1:ds.getD j .non=ds[j]'(by lia):=by rw[Gdf,Gab (by lia)];rfl
      have e2:xn.getD j .non=xn[j]'(by lia):=by rw[Gdf,Gab (by lia)];rfl
      rw[e1,e2];exact ih (hi j _ _ (Gab (by lia)) (by rw[Gbk];exact GaA h1)) (eZ j _ _ (Gab (by lia)) (by rw[Gbk];exact GaA h2)) (in1_units hu)
     refine SeqAt.EqAt.of_refs hab ?_;show SeqAt.RcAt A s (.ref a) (.ref b) (kQ ds xn);rw[hX,xj] at key;by_cases hll:ds.length=xn.length
     .rw[<-hll,Nat.min_self,dM hll] at key
      simpa using key
     .rw[gz hll];have:(ds.length==xn.length)=false:=by simpa using hll
      rw[this,Gct] at key;exact key
end
noncomputable def b4(t:SetTable):Nat->SetTable.Probe->SetTable.Probe
 |0,p=>p
 |n+1,p=>b4 t n (t.advance p)
theorem iQ(t:SetTable):∀(m n:Nat) (p:SetTable.Probe),b4 t (m+n) p=b4 t n (b4 t m p)
 |0,n,p=>by rw[Gbc];rfl
 |m+1,n,p=>by
  rw[Nat.succ_add];exact iQ t m n _
theorem iR(t:SetTable)(n:Nat)(p:SetTable.Probe):b4 t (n+1) p=t.advance (b4 t n p):=iQ t n 1 p
structure TOk(t:SetTable)(n:Nat):Prop where
 cov:cE t.mask=true
 odd:t.mask%2=1
 dum:t.dummies=#[]
 size:t.place.size=n
 few:n<=t.mask
theorem ja{t:SetTable}(h:t.dummies=#[])(j:Nat):t.slot j= .empty\/∃i,t.slot j= .live i/\t.place[i]? =some j:=by
 unfold SetTable.slot;dsimp only;split
 .rename_i c;exact .inr ⟨_,rfl,by simpa using c⟩
 .rw[h]
  left
  have:SetTable.has #[] j=false:=by
   unfold SetTable.has;simp
  rw[this];simp
theorem Dv:∀(N:Nat) (l:List Nat),l.length<N->∃e,e<N/\e∉l
 |0,l,h=>by lia
 |N+1,l,h=>by
  by_cases c:N∈l
  .obtain⟨e,he,hn⟩:=Dv N (l.erase N) (by rw[List.length_erase_of_mem c];have:=List.length_pos_of_mem c;lia);refine⟨e,by lia,λz=>hn ?_⟩;exact(List.mem_erase_of_ne (by lia)).mpr z
  .exact⟨N,by lia,c⟩
variable{n:Nat}
theorem TOk.hole{t:SetTable}(h:TOk t n):∃e,e<=t.mask/\t.slot e= .empty:=by
 obtain⟨e,he,hn⟩:=Dv (t.mask+1) t.place.toList (by rw[GaO,h.size];have:=h.few;lia);refine⟨e,by lia, ?_⟩;rcases ja h.dum e with q| ⟨i,_,hp⟩
 .exact q
 .exfalso;apply hn;have:t.place.toList[i]? =some e:=by rw[Gbk];exact hp
  exact GaD this
theorem gV{t:SetTable}{hashAt:Nat->Int}{h:Int}(hd:t.dummies=#[]):∀(fuel:Nat) (p:SetTable.Probe) (met:SetTable.Met),p.dummy=none->SetTable.probe.go t hashAt h fuel p=some met->
  ∃m,m<fuel/\(∀m',m' <m->∃i,t.slot (b4 t m' p).j= .live i/\hashAt i≠h)/\((met= .empty (b4 t m p).j none/\t.slot (b4 t m p).j= .empty)\/∃i,met= .candidate (b4 t m p).j i (t.advance (b4 t m p))/\t.slot (b4 t m p).j= .live i/\hashAt i=h)
 |0,p,met,_,e=>by cases e
 |fuel+1,p,met,hp,e=>by
  unfold SetTable.probe.go at e;rcases ja hd p.j with q| ⟨i,q,_⟩
  .rw[q] at e;cases e;exact⟨0,by lia,λm' h=>by lia,.inl ⟨by rw[hp];rfl,q⟩⟩
  .rw[q] at e;dsimp only at e;split at e
   .rename_i c;cases e;exact⟨0,by lia,λm' h=>by lia,.inr ⟨i,rfl,q,by simpa using c⟩⟩
   .rename_i c;have xy:hashAt i≠h:=by simpa using c
    have xC :(t.advance p).dummy=none:=by
     have:=A8 t p;unfold SetTable.advance;split<;>exact hp
    obtain⟨m,h0,h1,h2⟩:=gV hd fuel (t.advance p) met xC e;refine⟨m+1,by lia,λm' yo => ?_,h2⟩;cases m' with
    |zero=>exact⟨i,q,xy⟩
    |succ m' =>exact h1 m' (by lia)
theorem qS{t:SetTable}{hashAt:Nat->Int}{h:Int}{p:SetTable.Probe}(T:TOk t n)(hp:POk t p)(hd:p.dummy=none):∃met m,m<10*SetTable.turns t.mask/\t.probe hashAt h p=some met/\(∀m',m' <m->∃i,t.slot (b4 t m' p).j= .live i/\hashAt i≠h)/\
  ((met= .empty (b4 t m p).j none/\t.slot (b4 t m p).j= .empty)\/∃i,met= .candidate (b4 t m p).j i (t.advance (b4 t m p))/\t.slot (b4 t m p).j= .live i/\hashAt i=h):=by
 obtain⟨e,he,hs⟩:=T.hole;have hsome:=C3 (hashAt:=hashAt) (h:=h) T.cov hp hs he;obtain⟨met,hm⟩:=Option.isSome_iff_exists.mp hsome;obtain⟨m,h0,h1,h2⟩:=gV T.dum _ p met hd hm;exact⟨met,m,h0,hm,h1,h2⟩
theorem POk.b4{t:SetTable}{p:SetTable.Probe}(h:POk t p):∀n,POk t (b4 t n p)
 |0=>h
 |n+1=>by
  rw[iR];exact(POk.b4 h n).adv
theorem HP{t:SetTable}(T:TOk t n)(h:Int):∃K,K<10*SetTable.turns t.mask/\t.slot (b4 t K (t.probeStart h)).j= .empty/\∀k,k<K->∃i,t.slot (b4 t k (t.probeStart h)).j= .live i:=by
 obtain⟨met,m,h0,_,h1,h2⟩:=qS (hashAt:=λ_=>h+1) (h:=h) (p:=t.probeStart h) T (.start t h) rfl;refine⟨m,h0, ?_,λk hk=> ?_⟩
 .rcases h2 with⟨_,q⟩| ⟨i,_,_,q⟩
  .exact q
  .exfalso;lia
 .obtain⟨i,q,_⟩:=h1 k hk;exact⟨i,q⟩
def HQ(t:SetTable)(h:Int)(j:Nat):Prop:=∃k,(b4 t k (t.probeStart h)).j=j/\∀k',k' <k->∃i,t.slot (b4 t k' (t.probeStart h)).j= .live i
section
variable{prog:Program}{w:World}{A:Around}{E:Value->Shared->Prop}{s:Shared}
theorem Kf{n:Nat}{dx:D}{x:Value}{stored:List Value}{Q:Bool->Shared->Prop}(hx:Im s.heap n dx x)(hs:∀y∈stored,∃d,Im s.heap n d y)(hn:n<=8)(h:Q false s):wpAny (model prog w) A (searchCouldBeSeen x stored) Q E s:=by
 unfold searchCouldBeSeen;refine Gaa ?_;refine wpAny_forIn_list _ (λrest r s' =>r.1=none/\s' =s/\∀y∈rest,y∈stored) _ ?_ ?_ _ _ ⟨rfl,rfl,λy hy=>hy⟩
 .rintro y rest r s' ⟨hr,xO,yF⟩;obtain⟨d,hy⟩:=hs y (yF y Gak);have more:∀z∈rest,z∈stored:=λz hz=>yF z (Gag _ hz);rw[xO];dsimp only;split
  all_goals
   split
   .exact Gac ⟨rfl,rfl,more⟩
   .refine Gaa (qP n hx hn ?_);simp only[Bool.not_true,Gbe,GbR];refine Gaa (qP n hy hn ?_);simp only[Bool.not_true,Gbe,GbR];refine Gaa (qQ n hx hn ?_);simp only[Gbe,GbR];refine Gaa (qQ n hy hn ?_);simp only[Gbe,GbR];exact Gac ⟨rfl,rfl,more⟩
 .rintro⟨r1,r2⟩ s' ⟨hr,xO,_⟩;simp only at hr;subst hr;rw[xO];exact Gac h
structure lK(w:World)(g:Heap)(n:Nat)(es:Array (Int×Value))(t:SetTable):Prop where
 tok:TOk t es.size
 el:∀(i:Nat) h v,es[i]? =some (h,v)->∃b d,v= .ref b/\Im g n d v/\h=b9 w n d
 ris:Ris t.place
 way:∀(i:Nat) h v j,es[i]? =some (h,v)->t.place[i]? =some j->HQ t h j
end
section
variable{prog:Program}{w:World}{A:Around}{E:Value->Shared->Prop}{s:Shared}
noncomputable def storedAt(es:Array (Int×Value))(i:Nat):Int:=(es[i]?.map (·.1)).getD 0
theorem A9(t:SetTable)(h:Int):∀k,(b4 t k (t.probeStart h)).dummy=none
 |0=>rfl
 |k+1=>by
  have ih:=A9 t h k;rw[iR];unfold SetTable.advance;split<;>exact ih
def lL(g:Heap)(n:Nat)(es:Array (Int×Value))(dx:D)(i:Nat):Prop:=∀h v d,es[i]? =some (h,v)->Im g n d v->eqD d dx=false
theorem vc{t:SetTable}{i j:Nat}(hr:Ris t.place)(h:t.place[i]? =some j):t.slot j= .live i:=by
 obtain⟨_,b2,b3⟩:=iP (j:=j) hr;have e:SetTable.below t.place j=i:=by
  rcases Gec i (SetTable.below t.place j) with z|z|z
  .exact absurd (b2 i j z h) (Gbx _)
  .exact z.symm
  .have hi:=(Gbf.mp h).1;have g:t.place[SetTable.below t.place j]? =some (t.place[SetTable.below t.place j]'(by lia)):=GaA (by lia);have h1:=b3 _ _ (Gap _) g;have h2:=hr _ _ z _ _ g h;lia
 unfold SetTable.slot;dsimp only;rw[e,h];simp
theorem Dw(n:Nat):∀{d e:D} {v u:Value},Im s.heap n d v->Im s.heap n e u->eqD d e=true->d=e:=by
 induction n with
 |zero=>
  intro d e v u i1 i2 h;cases i1<;>cases i2<;>simp at h<;>simp[h]
 |succ n ih=>
  intro d e v u i1 i2 h;cases i1 with
  |int _ i t=>cases i2<;>simp at h<;>simp[h]
  |str _ x t=>cases i2<;>simp at h<;>simp[h]
  | @tup _ m a o items ds ho hc hd hl hi=>
   cases i2 with
   |int _ i t=>simp at h
   |str _ x t=>simp at h
   | @tup _ m' b o' items' xn xx yl xb zi eZ =>
    have h' :kQ ds xn =true:=by simpa using h
    have hll:ds.length=xn.length:=by
     rcases Nat.decEq ds.length xn.length with z|z
     .rw[gz z] at h';cases h'
     .exact z
    rw[<-dM hll] at h';congr 1;refine Gdc hll λi h1 h2=> ?_;have:=Gao.mp h' i (GaV.mpr h1);have e1:ds.getD i .non=ds[i]:=by simp[h1]
    have e2:xn.getD i .non=xn[i]:=by simp[h2]
    rw[e1,e2] at this;exact ih (hi i _ items.toList[i] (Gab h1) (Gab (by lia))) (eZ i _ items'.toList[i] (Gab h2) (Gab (by lia))) this
variable{dx:D}{n:Nat}{es:Array (Int×Value)}
theorem C6{t:SetTable}{x:Value}(X:lK w s.heap n es t)(hx:Im s.heap n dx x){k:Nat}(hk:t.slot (b4 t k (t.probeStart (b9 w n dx))).j= .empty)
  (past:∀k',k' <k->∃i,t.slot (b4 t k' (t.probeStart (b9 w n dx))).j= .live i/\lL s.heap n es dx i)(i:Nat):lL s.heap n es dx i:=by
 intro h v d he im;cases hq:eqD d dx with
 |false=>rfl
 |true=>
  exfalso;have ed:=Dw n im hx hq;subst ed;have hi:i<t.place.size:=by
   rw[X.tok.size];exact(Gbf.mp he).1
  have hp:t.place[i]? =some t.place[i]:=GaA hi;obtain⟨b,d',hv,yI,hh⟩:=X.el i h v he;have:=qR n im yI;subst this;subst hh;obtain⟨k2,e2,before⟩:=X.way i _ v _ he hp;have sl:=vc X.ris hp;rcases Gec k2 k with z|z|z
  .obtain⟨i',q,un⟩:=past k2 z;rw[e2,sl] at q;cases q;have:=un _ v d he im;rw[this] at hq;cases hq
  .subst z;rw[e2,sl] at hk;cases hk
  .obtain⟨i',q⟩:=before k z;rw[hk] at q;cases q
theorem Aa{a:Addr}{o:Obj}{ep:Nat}{t:SetTable}{b:Addr}{R:SetFound->Shared->Prop}(ho:s.heap.get? a=some o)(hd:o.data= .set es ep t)(hf:t.fits es.size=true)(X:lK w s.heap n es t)(hx:Im s.heap n dx (.ref b))(hn:n<=8)(hu:A.units+n<cLine)
  {K:Nat}(hK:t.slot (b4 t K (t.probeStart (b9 w n dx))).j= .empty)
  (h1:(∃i,¬lL s.heap n es dx i)->R (.there none) s)
  (h2:∀k,t.slot (b4 t k (t.probeStart (b9 w n dx))).j= .empty->(∀k',k' <k->∃i,t.slot (b4 t k' (t.probeStart (b9 w n dx))).j= .live i)->(∀i,lL s.heap n es dx i)->R (.free (b4 t k (t.probeStart (b9 w n dx))).j false) s):
  ∀(fuel k:Nat) (xW:Option SetTable.Probe),xW.getD (t.probeStart (b9 w n dx))=b4 t k (t.probeStart (b9 w n dx))->K -k<fuel->(∀k',k' <k->∃i,t.slot (b4 t k' (t.probeStart (b9 w n dx))).j= .live i/\lL s.heap n es dx i)->
   wpAny (model prog w) A (setSearchFrom a (.ref b) (b9 w n dx) true fuel xW) R E s:=by
 have hK' :=hK;have na:=λk=>C6 (k:=k) X hx;generalize hhe:b9 w n dx=hh at*;intro fuel;induction fuel with
 |zero=>intro k xW _ eU;lia
 |succ fuel ih=>
  intro k xW xU eU past;have hkK:k<=K:=by
   rcases Gbg K k with z|z
   .obtain⟨i,q,_⟩:=past K z;rw[hK] at q;cases q
   .exact z
  unfold setSearchFrom;refine Gaa (GaT ho hd hf ?_);dsimp only;have gw:t.gaveWay=false:=by
   unfold SetTable.gaveWay;rw[X.tok.odd]
   rfl
  rw[gw];simp only[Gbe,GbR];rw[xU];have pk:POk t (b4 t k (t.probeStart hh)):=(POk.start t _).b4 k;obtain⟨met,m,_,hm,p1,p2⟩:=qS (hashAt:=storedAt es) (h:=hh) X.tok pk (A9 t hh k)
  erw[hm]
  rw[<-iQ] at p2;have past2:∀k',k' <k+m->∃i,t.slot (b4 t k' (t.probeStart hh)).j= .live i/\lL s.heap n es dx i:=λk' xo =>by
   rcases Gbg k' k with z|z
   .exact past k' z
   .obtain⟨i,q,xy⟩:=p1 (k' -k) (by lia);rw[<-iQ,show k+(k' -k)=k' by lia] at q;refine⟨i,q,λh v d he im=> ?_⟩;cases hq:eqD d dx with
    |false=>rfl
    |true=>
     exfalso;have ed:=Dw n im hx hq;subst ed;obtain⟨b',d',hv,yI,SX⟩:=X.el i h v he;have:=qR n im yI;subst this;apply xy;unfold storedAt;rw[he,<-hhe,<-SX]
     rfl
  rcases p2 with⟨rfl,q⟩| ⟨i,rfl,q,hi⟩
  .dsimp only;exact Gac (h2 _ q (λk' z=>let⟨i,q,_⟩:=past2 k' z;⟨i,q⟩) (na _ q past2))
  .have hj:t.place[i]? =some (b4 t (k+m) (t.probeStart hh)).j:=by
    rcases ja X.tok.dum (b4 t (k+m) (t.probeStart hh)).j with z| ⟨i',z,hp⟩
    .rw[q] at z;cases z
    .rw[q] at z;cases z;exact hp
   have hlt2:i<es.size:=by
    have:=(Gbf.mp hj).1;rw[X.tok.size] at this;exact this
   have yp:es[i]? =some (es[i].1,es[i].2):=GaA hlt2;obtain⟨c,d,hv,im,SX⟩:=X.el i _ _ yp;have hkm:k+m<K:=by
    rcases Gec (k+m) K with z|z|z
    .exact z
    .rw[z,hK] at q;cases q
    .obtain⟨i',q',_⟩:=past2 K z;rw[hK] at q';cases q'
   have sm:t.sameMemory t.moves t.mask=some true:=by
    unfold SetTable.sameMemory;simp
   have nx:t.advance (b4 t (k+m) (t.probeStart hh))=b4 t (k+m+1) (t.probeStart hh):=(iR t _ _).symm;have hseen:∀y∈((es.filter (·.1==hh)).toList.map (·.2)),∃d,Im s.heap n d y:=λy hy=>by
    obtain⟨e,he,rfl⟩:=Gax.mp hy;have zT :e∈es:=(Array.mem_filter.mp (GdL.mp he)).1;obtain⟨i',eZ,rfl⟩:=Array.getElem_of_mem zT;obtain⟨_,d',_,yI,_⟩:=X.el i' es[i'].1 es[i'].2 (GaA eZ);exact⟨d',yI⟩
   dsimp only;rw[yp,nx];rw[hv] at im;dsimp only;rw[hv];refine GcI (λ_=>Gaa (Kf hx hseen hn ?_)) (λ_=> ?_)
   all_goals
    try simp only[Gbe,GbR]
    refine Gaa (GbK (Pt n im hx hu prog w _ _ ?_));refine Gaa (GaT ho hd hf ?_);dsimp only;cases hq:eqD d dx with
    |true=>
     simp only[Bool.and_self,Gca];refine Gac (h1 ⟨i,λz=> ?_⟩);have:=z _ _ d yp (by rw[hv];exact im);rw[hq] at this;cases this
    |false=>
     simp only[Gct,Gbe,GbR];rw[sm];simp only[Gca];rw[q];dsimp only;rw[yp];dsimp only;rw[hv];refine Gaa (wpAny_isSame_ref_self (Gaa (Gac ?_)));simp only[Gca];refine ih (k+m+1) _ rfl (by lia) λk' xo => ?_;rcases Gbg k' (k+m) with z|z
     .exact past2 k' z
     .refine⟨i,by rw[show k' =k+m by lia];exact q,λh v d' he yI => ?_⟩;rw[yp] at he;cases he;rw[hv] at yI;have:=qR n im yI;rw[<-this];exact hq
end
theorem kA{t u:SetTable}(h:t.mask=u.mask):∀(n:Nat) (p:SetTable.Probe),b4 t n p=b4 u n p
 |0,p=>rfl
 |n+1,p=>by
  have e:t.advance p=u.advance p:=by
   unfold SetTable.advance;rw[h]
  show b4 t n (t.advance p)=b4 u n (u.advance p);rw[e];exact kA h n _
theorem lM{t u:SetTable}(h:t.mask=u.mask)(x:Int):t.probeStart x=u.probeStart x:=by
 unfold SetTable.probeStart;rw[h]
variable{j:Nat}{h:Int}
theorem Ab{t u:SetTable}(hm:t.mask=u.mask)(hk:∀j i,t.slot j= .live i->∃i',u.slot j= .live i')(x:HQ t h j):HQ u h j:=by
 obtain⟨k,e,b⟩:=x;refine⟨k,by rw[<-kA hm,<-lM hm];exact e,λk' xo => ?_⟩;obtain⟨i,q⟩:=b k' xo;rw[<-kA hm,<-lM hm];exact hk _ _ q
variable{p i:Nat}
theorem kB{α:Type}{xs:Array α}{j:α}(hp:p<=xs.size):(SetTable.insertAt xs p j)[i]? =if i<p then xs[i]? else if i=p then some j else xs[i -1]? :=by
 have e:(SetTable.insertAt xs p j)[i]? =(SetTable.insertAt xs p j).toList[i]? :=by simp
 rw[e,Gcz];have l1:(xs.toList.take p).length=p:=by simp;lia
 by_cases c:i<p
 .rw[Gaj c,GaQ (by rw[l1];exact c),Gcv c];simp
 .rw[Gai c,GaK (by rw[l1];lia),l1];by_cases c2:i=p
  .rw[Gaj c2,c2,GdQ];rfl
  .rw[Gai c2,show i -p=(i -p -1)+1 by lia,GcD,Gdm,show p+(i -p -1)=i -1 by lia];simp
theorem lN{α:Type}{xs:Array α}{j:α}(hp:p<=xs.size):(SetTable.insertAt xs p j).size=xs.size+1:=by
 have:(SetTable.insertAt xs p j).size=(SetTable.insertAt xs p j).toList.length:=by simp
 rw[this,Gcz];simp;lia
theorem C7{α:Type}{xs:Array α}{j:α}:(SetTable.insertAt xs p j).toList.Perm (j::xs.toList):=by
 rw[Gcz];refine GdD.trans (List.Perm.cons j ?_);rw[List.take_append_drop]
theorem Kg{t:SetTable}(h:t.dummies=#[]):(t.put j).1.dummies=#[]:=by
 unfold SetTable.put;dsimp only;rw[h];have:SetTable.has #[] j=false:=by
  unfold SetTable.has;simp
 rw[this]
 rfl
theorem C8{t:SetTable}(h:t.slot j= .empty):t.place[SetTable.below t.place j]? ≠some j:=by
 intro e;unfold SetTable.slot at h;dsimp only at h;rw[e] at h;simp at h
theorem MC{t:SetTable}{n:Nat}(T:TOk t n)(hr:Ris t.place)(hj:t.slot j= .empty)(hn:n+1<=t.mask):TOk (t.put j).1 (n+1)/\Ris (t.put j).1.place/\∀j' i,t.slot j' = .live i->∃i',(t.put j).1.slot j' = .live i' :=by
 have bl:=(iP (j:=j) hr).1;have Rk :Ris (t.put j).1.place:=BY hr (C8 hj);refine⟨⟨T.cov,T.odd,Kg T.dum, ?_,hn⟩,Rk,λj' i q=> ?_⟩
 .show(SetTable.insertAt t.place _ j).size=_;rw[lN bl,T.size]
 .rcases ja T.dum j' with z| ⟨i',z,hp⟩
  .rw[q] at z;cases z
  .have xC :(t.put j).1.place[if i' <SetTable.below t.place j then i' else i' +1]? =some j' :=by
    show(SetTable.insertAt t.place _ j)[_]? =_;rw[kB bl];by_cases c:i' <SetTable.below t.place j
    .rw[Gaj c,Gaj c];exact hp
    .rw[Gai c,Gai (by lia),Gai (by lia)];exact hp
   exact⟨_,vc Rk xC⟩
section
variable{w:World}
theorem lK.put{g:Heap}{n:Nat}{es:Array (Int×Value)}{t:SetTable}{d:D}{b:Addr}{k:Nat}(X:lK w g n es t)(hx:Im g n d (.ref b))(hk:t.slot (b4 t k (t.probeStart (b9 w n d))).j= .empty)
  (past:∀k',k' <k->∃i,t.slot (b4 t k' (t.probeStart (b9 w n d))).j= .live i)(hn:es.size+1<=t.mask):
  lK w g n (SetTable.insertAt es (t.put (b4 t k (t.probeStart (b9 w n d))).j).2 (b9 w n d,.ref b)) (t.put (b4 t k (t.probeStart (b9 w n d))).j).1:=by
 generalize hj:(b4 t k (t.probeStart (b9 w n d))).j=j at*;have bl:=(iP (j:=j) X.ris).1;have bl2:SetTable.below t.place j<=es.size:=by rw[<-X.tok.size];exact bl
 obtain⟨T,R,keep⟩:=MC X.tok X.ris hk hn;have e2:(t.put j).2=SetTable.below t.place j:=rfl;rw[e2];have wn:HQ t (b9 w n d) j:=⟨k,hj,past⟩
 refine⟨by rw[lN bl2];exact T,λi h v he=> ?_,R,λi h v j' he hp=> ?_⟩
 .rw[kB bl2] at he;split at he
  .exact X.el i h v he
  .split at he
   .cases he;exact⟨b,d,rfl,hx,rfl⟩
   .exact X.el (i -1) h v he
 .have xC :(SetTable.insertAt t.place (SetTable.below t.place j) j)[i]? =some j' :=hp;rw[kB bl] at xC;rw[kB bl2] at he;refine Ab (t:=t) rfl keep ?_;split at he
  .rename_i c;rw[Gaj c] at xC;exact X.way i h v j' he xC
  .rename_i c;rw[Gai c] at xC;split at he
   .rename_i c2;rw[Gaj c2] at xC;cases he;cases xC;exact wn
   .rename_i c2;rw[Gai c2] at xC;exact X.way (i -1) h v j' he xC
end
noncomputable def T0(mask:Nat):SetTable:={SetTable.fresh 0 0 false with mask:=mask}
theorem mU{t:SetTable}{p:SetTable.Probe}:∀k,k<=p.more->b4 t k p={p with j:=p.j+k,more:=p.more -k}
 |0,_=>rfl
 |k+1,h=>by
  rw[iR,mU k (by lia)];unfold SetTable.advance;dsimp only;rw[Gaj (by lia),Nat.sub_sub,Nat.add_assoc]
def Tkn(owner:Array (Option Nat))(j:Nat):Prop:=∃m,owner[j]? =some (some m)
def HR(mask:Nat)(owner:Array (Option Nat))(h:Int)(j:Nat):Prop:=∃k,(b4 (T0 mask) k ((T0 mask).probeStart h)).j=j/\∀k',k' <k->Tkn owner (b4 (T0 mask) k' ((T0 mask).probeStart h)).j
variable{mask:Nat}
theorem Fd(h:i<=mask):i<=SetTable.runEnd mask i/\SetTable.runEnd mask i<=mask:=by
 unfold SetTable.runEnd;split<;>lia
theorem HS{owner:Array (Option Nat)}(hj:j<owner.size)(h:(owner.getD j (some 0)).isNone=false):Tkn owner j:=by
 rw[Gbh,GaA hj] at h;cases q:owner[j] with
 |none=>simp[q] at h
 |some m=>exact⟨m,by rw[GaA hj,q]⟩
theorem Ac{mask:Nat}{owner:Array (Option Nat)}(hs:owner.size=mask+1):∀(fuel i p j:Nat),i<=mask->SetTable.layClean.free mask owner fuel i p=some j->
  ∃k,(b4 (T0 mask) k {j:=i,more:=SetTable.runEnd mask i -i,i:=i,perturb:=p,dummy:=none}).j=j/\∀k',k' <k->Tkn owner (b4 (T0 mask) k' {j:=i,more:=SetTable.runEnd mask i -i,i:=i,perturb:=p,dummy:=none}).j
 |0,i,p,j,_,e=>by cases e
 |fuel+1,i,p,j,hi,e=>by
  have re:=Fd hi;unfold SetTable.layClean.free at e;cases q:(List.range (SetTable.runEnd mask i+1 -i)).find? λk=>(owner.getD (i+k) (some 0)).isNone with
  |some k=>
   rw[q] at e;cases e;have hk:k<SetTable.runEnd mask i+1 -i:=GaV.mp (List.mem_of_find?_eq_some q);refine⟨k, ?_,λk' xo => ?_⟩
   .rw[mU k (by show k<=SetTable.runEnd mask i -i;lia)]
   .rw[mU k' (by show k' <=SetTable.runEnd mask i -i;lia)];show Tkn owner (i+k');have:=(List.find?_range_eq_some.mp q).2.2 k' xo;exact HS (by lia) (by simpa using this)
  |none=>
   rw[q] at e;dsimp only at e;obtain⟨k,h1,h2⟩:=Ac hs fuel (SetTable.leap mask i p).1 (SetTable.leap mask i p).2 j (Gcq (Gdd _ (Gcy _))) e;have all:∀k',k' <=SetTable.runEnd mask i -i->Tkn owner (i+k'):=λk' xo =>by
    have:=GbS.mp q k' (GaV.mpr (by lia));exact HS (by lia) (Bool.eq_false_iff.mpr this)
   have step:b4 (T0 mask) (SetTable.runEnd mask i -i+1) {j:=i,more:=SetTable.runEnd mask i -i,i:=i,perturb:=p,dummy:=none}={j:=(SetTable.leap mask i p).1,more:=SetTable.runEnd mask (SetTable.leap mask i p).1 -(SetTable.leap mask i p).1,i:=(SetTable.leap mask i p).1,perturb:=(SetTable.leap mask i p).2,dummy:=none}:=by
    rw[iR,mU (SetTable.runEnd mask i -i) (Gap _)];unfold SetTable.advance;dsimp only;rw[Gai (by lia)]
    rfl
   refine⟨SetTable.runEnd mask i -i+1+k, ?_,λk' xo => ?_⟩
   .rw[iQ,step];exact h1
   .rcases Gbg k' (SetTable.runEnd mask i -i+1) with z|z
    .rw[mU k' (by show k' <=SetTable.runEnd mask i -i;lia)];exact all k' (by lia)
    .have:=h2 (k' -(SetTable.runEnd mask i -i+1)) (by lia);rw[<-step,<-iQ,show SetTable.runEnd mask i -i+1+(k' -(SetTable.runEnd mask i -i+1))=k' by lia] at this;exact this
theorem HR.mono{ow Su :Array (Option Nat)}(x:HR mask ow h j)(k:∀j,Tkn ow j->Tkn Su j):HR mask Su h j:=let⟨n,e,b⟩:=x;⟨n,e,λk' xo =>k _ (b k' xo)⟩
def MD(mask:Nat)(all:List Int)(owner:Array (Option Nat)):Prop:=∀(j k:Nat),owner[j]? =some (some k)->∃h,all[k]? =some h/\HR mask owner h j
theorem Ad{mask:Nat}(hc:cE mask=true):∀(hs pre:List Int) (owner:Array (Option Nat)),Laid mask pre.length owner->MD mask (pre++hs) owner->(pre++hs).length<=mask->∃xv,Laid mask (pre++hs).length xv /\MD mask (pre++hs) xv /\
  hs.foldl (λacc h=>do
   let(owner,k)<-acc
   let j<-SetTable.layClean.free mask owner (SetTable.turns mask) (SetTable.bits h%(mask+1)) (SetTable.bits h)
   pure (owner.setIfInBounds j (some k),k+1)) (some (owner,pre.length))=some (xv,(pre++hs).length)
 |[],pre,owner,L,W,_=>by
  rw[Gbs] at W⊢;exact⟨owner,L,W,rfl⟩
 |h::hs,pre,owner,L,W,hl=>by
  have zi :pre.length+(hs.length+1)<=mask:=by simpa using hl
  have lt:(owner.toList.filterMap id).length<owner.toList.length:=by
   have e1:owner.toList.length=mask+1:=by rw[GaO];exact L.size
   rw[L.occ.length_eq,List.length_range,e1];lia
  obtain⟨e,he⟩:=has_none lt;have zT :owner[e]? =some none:=by rw[<-Gbk];exact he
  have zR:e<=mask:=by
   have:=(Gal.mp he).1;rw[GaO,L.size] at this;lia
  obtain⟨j,hj,hn⟩:=Fb (h:=h) hc zT zR;have hJ :owner.toList[j]? =some none:=by rw[Gbk];exact hn
  have hjs:j<owner.size:=(Gbf.mp hn).1;have wj:HR mask owner h j:=Ac L.size _ _ _ j (Gcq (Gdd _ (Gcy _))) hj;have L' :Laid mask (pre++[h]).length (owner.setIfInBounds j (some pre.length)):=by
   refine⟨by simpa using L.size, ?_⟩;rw[Array.toList_setIfInBounds];refine(Du hJ).trans ?_;rw[Gah,GcT,List.range_succ];exact(List.Perm.cons pre.length L.occ).trans (List.perm_append_comm (l₁:=[pre.length]) (l₂:=List.range pre.length))
  have mono:∀x,Tkn owner x->Tkn (owner.setIfInBounds j (some pre.length)) x:=λx ⟨m,hm⟩=>by
   by_cases c:j=x
   .subst c;rw[hn] at hm;cases hm
   .exact⟨m,by rw[GdJ c];exact hm⟩
  have W' :MD mask ((pre++[h])++hs) (owner.setIfInBounds j (some pre.length)):=by
   intro x k hx;rw[GaW,List.singleton_append];by_cases c:j=x
   .subst c;rw[Array.getElem?_setIfInBounds_self_of_lt hjs] at hx;cases hx;exact⟨h,by simp,wj.mono mono⟩
   .rw[GdJ c] at hx;obtain⟨h',e1,e2⟩:=W x k hx;exact⟨h',e1,e2.mono mono⟩
  obtain⟨xv,L2,W2,e2⟩:=Ad hc hs (pre++[h]) _ L' W' (by simpa using hl);rw[GaW,List.singleton_append] at L2 W2 e2;refine⟨xv,L2,W2, ?_⟩;rw[GbH,<-e2];congr 1;show(SetTable.layClean.free mask owner (SetTable.turns mask) (SetTable.bits h%(mask+1)) (SetTable.bits h)).bind _=_;rw[hj,Gah]
  rfl
theorem Fe{finger moves:Nat}{led plain:Bool}{hashes:Array Int}(hc:cE mask=true)(hl:hashes.size<=mask):∃t order,SetTable.laid mask finger moves led plain hashes=some (t,order)/\order.toList.Perm (List.range hashes.size)/\t.mask=mask/\t.place.size=hashes.size/\t.dummies=#[]/\t.plain=plain/\t.led=led/\Ris t.place/\
  ∀(i k j:Nat),order[i]? =some k->t.place[i]? =some j->∃h,hashes[k]? =some h/\HQ t h j:=by
 obtain⟨owner,L,W,e⟩:=Ad hc hashes.toList [] (Array.replicate (mask+1) none) (C4 mask) (λj k h=>by
  rw[Array.getElem?_replicate] at h;split at h<;>cases h) (by simpa using hl)
 rw[GbB] at L W e;rw[GaO] at L e;have el:SetTable.layClean mask hashes=some owner:=by
  unfold SetTable.layClean;rw[<-Array.foldl_toList];refine(congrArg (Option.map (λ(x:Array (Option Nat)×Nat)=>x.1)) e).trans rfl
 have r:=Fc owner (mask+1) L.size.symm;unfold SetTable.laid;rw[el];refine⟨_,_,rfl, ?_,rfl, ?_,rfl,rfl,rfl,A3 (g:=λj=>owner.getD j none), ?_⟩
 .rw[List.toList_toArray];exact(by rw[r];exact L.occ:(((List.range (mask+1)).filterMap λj=>(owner.getD j none).map λk=>(j,k)).map (·.2)).Perm (List.range hashes.size))
 .show(((List.range (mask+1)).filterMap λj=>(owner.getD j none).map λk=>(j,k)).map (·.1)).toArray.size=_;rw[Gar,Gad];have:=congrArg List.length r;rw[Gad] at this;rw[this,L.occ.length_eq,List.length_range]
 .intro i k j hk hj;have hris:=A3 (n:=mask+1) (g:=λj=>owner.getD j none);generalize zh:((List.range (mask+1)).filterMap λj=>(owner.getD j none).map λk=>(j,k))=live at*;have xo :(live.map (·.2))[i]? =some k:=by simpa using hk
  have hj' :(live.map (·.1))[i]? =some j:=by simpa using hj
  have hmem:∀x m,(x,m)∈live↔owner[x]? =some (some m):=λx m=>by
   rw[<-zh,Gdj];constructor
   .rintro⟨a,_,h2⟩;cases q:owner.getD a none with
    |none=>rw[q] at h2;cases h2
    |some c=>
     rw[q] at h2;cases h2;rw[Gbh] at q;cases z:owner[x]? with
     |none=>rw[z] at q;cases q
     |some o=>rw[z] at q;rw[<-q];rfl
   .intro h;have hx:=(Gbf.mp h).1;refine⟨x,GaV.mpr (by rw[<-L.size];exact hx), ?_⟩;rw[Gbh,h]
    rfl
  obtain⟨q,hq,rfl⟩:∃q,live[i]? =some q/\q.1=j:=by
   rw[Gam] at hj';exact Gan.mp hj'
  have hq2:q.2=k:=by
   rw[Gam,hq] at xo;exact Option.some.inj xo
  have ho:=(hmem q.1 q.2).mp (GaD hq);rw[hq2] at ho;obtain⟨h,e1,k0,e2,b⟩:=W _ _ ho;have am:∀u:SetTable,u.mask=mask->∀n,b4 u n (u.probeStart h)=b4 (T0 mask) n ((T0 mask).probeStart h):=λu hu n=>by rw[kA (t:=u) (u:=T0 mask) hu,lM (t:=u) (u:=T0 mask) hu]
  refine⟨h,by rw[<-Gbk];exact e1,k0, ?_,λk' xo => ?_⟩
  .rw[<-e2];exact congrArg (λz:SetTable.Probe=>z.j) (am {mask:=mask,place:=_,dummies:=#[],finger:=finger,led:=led,moves:=moves,plain:=plain} rfl k0)
  .obtain⟨m,hm⟩:=b k' xo;obtain⟨i',eZ,e'⟩:=GbM ((hmem _ _).mpr hm);rw[am _ rfl];refine⟨i',vc hris ?_⟩;show((live.map (·.1)).toArray)[i']? =_;simp[eZ,e']
variable{n:Nat}{g:Heap}
theorem Im.mono{g' :Heap}(hk:∀b o,g.get? b=some o->g'.get? b=some o){d:D}{v:Value}(p:Im g n d v):Im g' n d v:=by
 induction p with
 |int n i t=>exact .int n i t
 |str n x t=>exact .str n x t
 |tup ho hc hd hl hi ih=>exact .tup (hk _ _ ho) hc hd hl ih
theorem lK.mono{w:World}{g g' :Heap}{n:Nat}{es:Array (Int×Value)}{t:SetTable}(hk:∀b o,g.get? b=some o->g'.get? b=some o)(X:lK w g n es t):lK w g' n es t:=⟨X.tok,λi h v e=>let⟨b,d,h1,h2,h3⟩:=X.el i h v e;⟨b,d,h1,h2.mono hk,h3⟩,X.ris,X.way⟩
theorem lK.off{w:World}{es:Array (Int×Value)}{t:SetTable}(X:lK w g n es t):lK w g n es {t with plain:=false}:=
 ⟨⟨X.tok.cov,X.tok.odd,X.tok.dum,X.tok.size,X.tok.few⟩,X.el,X.ris,λi h v j e p=>Ab (t:=t) rfl (λj i q=> ⟨i,q⟩) (X.way i h v j e p)⟩
theorem TOk.fits{t:SetTable}{n:Nat}(T:TOk t n):t.fits n=true:=by
 unfold SetTable.fits SetTable.fill;rw[T.dum,T.size];have:=T.few
 simpa using this
theorem TOk.full{t:SetTable}(T:TOk t n):t.tooFull=decide (n*5>=t.mask*3):=by
 unfold SetTable.tooFull SetTable.fill;rw[T.dum,T.size]
 rfl
def Big(m n:Nat):Prop:=m=7/\n<=4\/m=31/\n<=18\/m=127/\n<=76
structure SIx(w:World)(bt:Bool)(g0:Heap)(n:Nat)(its:List Value)(ix:List Nat)(es:Array (Int×Value))(t:SetTable):Prop where
 ok:lK w g0 n es t
 vals:(es.toList.map (·.2)).Perm (ix.map λi=>its.getD i .none)
 big:Big t.mask es.size
 led:t.led= !bt
def vd(w:World)(bt:Bool)(g0:Heap)(n:Nat)(its:List Value)(g:Heap)(a:Addr)(ix:List Nat):Prop:=
 ∃o es ep t,g.get? a=some o/\o.ExactSet/\o.data= .set es ep t/\SIx w bt g0 n its ix es t
theorem SIx.size{w:World}{bt:Bool}{g0:Heap}{n:Nat}{its:List Value}{ix:List Nat}{es:Array (Int×Value)}{t:SetTable}(h:SIx w bt g0 n its ix es t):es.size=ix.length:=by
 have:=h.vals.length_eq
 simpa using this
def Dx(g0:Heap)(n:Nat)(ds:List D)(its:List Value):Prop:=∀i,i<its.length->∃b,its.getD i .none= .ref b/\Im g0 n (ds.getD i .non) (.ref b)
theorem qT{α:Type}{es:Array α}{z:α}:∀{l:List Nat},(∀k∈l,k<es.size)->l.filterMap (λk=>es[k]?)=l.map λk=>es.getD k z
 |[],_=>rfl
 |k::l,h=>by
  have hk:=h k Gak;rw[GcA,GaA hk,Gay,qT (z:=z) λx hx=>h x (Gag _ hx)];simp[Array.getD,hk]
theorem C9{α:Type}(es:Array α):(List.range es.size).filterMap (λk=>es[k]?)=es.toList:=by
 cases hs:es.toList with
 |nil=>
  have:es.size=0:=by rw[<-GaO,hs];rfl
  rw[this];rfl
 |cons z _=>
  rw[<-hs,qT (z:=z) λk hk=>GaV.mp hk];apply Gdc
  .simp
  .intro i h1 h2;simp at h1 h2⊢;simp[Array.getD,h2]
section
variable{prog:Program}{w:World}{A:Around}{E:Value->Shared->Prop}{z:Shared}
variable{n:Nat}
theorem Kh{g0:Heap}{es:Array (Int×Value)}{t:SetTable}(X:lK w g0 n es t){wanted M:Nat}(hM:SetTable.sizeAbove wanted=M+1)(hc:cE M=true)(ze:M%2=1)(hl:es.size<=M):
  ∃t' order,t.relaid (es.map (·.1)) wanted=some (t',order)/\(order.filterMap (es[·]?)).toList.Perm es.toList/\t'.mask=M/\t'.led=t.led/\lK w g0 n (order.filterMap (es[·]?)) t' :=by
 unfold SetTable.relaid;rw[hM,Nat.add_sub_cancel];obtain⟨t',order,e,hp,m1,m2,m3,m4,m5,m6,m7⟩:=Fe (finger:=t.finger) (moves:=t.movedTo M) (led:=t.led) (plain:=t.plain) (hashes:=es.map (·.1)) hc (by simpa using hl);rw[Array.size_map] at hp m2;have eU:∀k∈order.toList,k<es.size:=λk hk=>GaV.mp (hp.mem_iff.mp hk);have pm:(order.filterMap (es[·]?)).toList.Perm es.toList:=by
  rw[Array.toList_filterMap];exact(hp.filterMap _).trans (by rw[C9])
 have sz:(order.filterMap (es[·]?)).size=es.size:=by
  have:=pm.length_eq;rw[GaO,GaO] at this;exact this
 have at_:∀(i:Nat) e,(order.filterMap (es[·]?))[i]? =some e->∃k:Nat,order[i]? =some k/\es[k]? =some e:=λi e he=>by
  rw[<-Gbk,Array.toList_filterMap,qT (z:=(0,Value.none)) eU,Gam] at he;obtain⟨k,hk,rfl⟩:=Gan.mp he;have xD:=eU k (GaD hk);rw[Gbk] at hk;exact⟨k,hk,by rw[GaA xD];simp[Array.getD,xD]⟩
 refine⟨t',order,e,pm,m1,m5,⟨⟨by rw[m1];exact hc,by rw[m1];exact ze,m3,by rw[m2,sz],by rw[sz,m1];exact hl⟩,λi h v he=> ?_,m6,λi h v j he hj=> ?_⟩⟩
 .obtain⟨k,_,hk⟩:=at_ i _ he;exact X.el k h v hk
 .obtain⟨k,ho,hk⟩:=at_ i _ he;obtain⟨h',e1,e2⟩:=m7 i k j ho hj;rw[Array.getElem?_map,hk] at e1;cases e1;exact e2
theorem Ki{bt:Bool}{g0:Heap}{ds:List D}{its:List Value}{a b:Addr}{ix:List Nat}{k:Nat}{R:Bool->Shared->Prop}(hS:vd w bt g0 n its z.heap a ix)(hI:Dx g0 n ds its)(hold:∀b o,g0.get? b=some o->z.heap.get? b=some o)(SR:∀i∈ix,i<its.length)(hk:k<its.length)(hb:its.getD k .none= .ref b)(SK:ix.length<76)(hn:n<=8)(hu:A.units+n<cLine)
  (h:∀r g,Heap.SameBut a z.heap g->vd w bt g0 n its g a (if ix.any (λi=>eqD (ds.getD i .non) (ds.getD k .non)) then ix else ix++[k])->R r {z with heap:=g}):
  wpAny (model prog w) A (setAddHashed a (.ref b) (b9 w n (ds.getD k .non))) R E z:=by
 obtain⟨o,es,ep,t,ho,hex,hd,hE⟩:=hS;obtain⟨b',xI,Sz⟩:=hI k hk;rw[hb] at xI;cases xI;generalize hdx:ds.getD k .non=dx at*;have im:Im z.heap n dx (.ref b):=Sz.mono hold;have X:=hE.ok.mono hold;have hf:=X.tok.fits;have bg:=hE.big;have sz:=hE.size;obtain⟨K,UG,hK,_⟩:=HP X.tok (b9 w n dx);have hsl:sizeLine=16777216:=Gbw;have hm127:t.mask<=127:=by rcases bg with q|q|q<;>lia
 unfold setAddHashed setAddHashedIn;refine GbK (Gaa (GaT ho hd hf ?_));dsimp only;rw[Gai (by show¬(byScan (.ref b) es=true);unfold byScan;simp[Value.scannable])];unfold setSearch;refine Gaa (Aa ho hd hf X im hn hu hK ?_ ?_ 100000 0 none rfl ?_ ?_)
 .rintro⟨i,SF⟩;dsimp only;have hany:ix.any (λi=>eqD (ds.getD i .non) dx)=true:=by
   simp only[lL,Classical.not_forall] at SF;obtain⟨hh,v,d,e1,e2,e3⟩:=SF;have hv:v∈es.toList.map (·.2):=Gax.mpr ⟨(hh,v),by rw[GdL];exact Array.mem_of_getElem? e1,rfl⟩;obtain⟨i',eZ,rfl⟩:=Gax.mp (hE.vals.mem_iff.mp hv);obtain⟨b2,Sl,RM⟩:=hI i' (SR i' eZ);rw[Sl] at e2;have:=qR n e2 (RM.mono hold);subst this;exact Gcx.mpr ⟨i',eZ,by simpa using e3⟩
  rw[Gaj hany] at h;refine Gac ?_;have e:z={z with heap:=z.heap}:=by cases z;rfl
  rw[e];exact h _ z.heap (Heap.SameBut.refl a z.heap) ⟨o,es,ep,t,ho,hex,hd,hE⟩
 .intro k0 hk0 past un;dsimp only;have hany:ix.any (λi=>eqD (ds.getD i .non) dx)=false:=by
   rw[Gcp];intro i hi hq;obtain⟨b2,Sl,RM⟩:=hI i (SR i hi);have hv:its.getD i .none∈es.toList.map (·.2):=hE.vals.mem_iff.mpr (Gax.mpr ⟨i,hi,rfl⟩);obtain⟨e,he,T1⟩:=Gax.mp hv;obtain⟨j,hj,rfl⟩:=GbM he;rw[Array.getElem_toList] at T1;have hj' :j<es.size:=by simpa using hj
   have:=un j es[j].1 es[j].2 (ds.getD i .non) (GaA hj') (by rw[T1,Sl];exact RM.mono hold);rw[this] at hq;cases hq
  rw[hany,Gai Gat] at h;have hn1:es.size+1<=t.mask:=by rcases bg with q|q|q<;>lia
  have X1:=hE.ok.put Sz hk0 past hn1;have bl:(t.put (b4 t k0 (t.probeStart (b9 w n dx))).j).2<=es.size:=by
   have:=(iP (j:=(b4 t k0 (t.probeStart (b9 w n dx))).j) X.ris).1;rw[X.tok.size] at this;exact this
  have ml:(t.put (b4 t k0 (t.probeStart (b9 w n dx))).j).1.mask=t.mask:=rfl;have ll:(t.put (b4 t k0 (t.probeStart (b9 w n dx))).j).1.led=t.led:=rfl;refine Gaa (GaT ho hd hf ?_);dsimp only;generalize t.put (b4 t k0 (t.probeStart (b9 w n dx))).j=tp at*;obtain⟨t1,p⟩:=tp;dsimp only at*;generalize hes1:SetTable.insertAt es p (b9 w n dx,Value.ref b)=es1 at*;have RE:es1.size=es.size+1:=by rw[<-hes1];exact lN bl
  have pv:(es1.toList.map (·.2)).Perm ((ix++[k]).map λi=>its.getD i .none):=by
   rw[<-hes1];refine(C7.map _).trans ?_;rw[Gay,GaC,List.map_singleton,hb];exact(List.Perm.cons _ hE.vals).trans (List.perm_append_comm (l₁:=[Value.ref b]))
  have s0:SAt z.heap a es t:=⟨o,ep,ho,hex,hd⟩
  have fin:∀u:SetTable,lK w g0 n es1 u->u.mask=t.mask->u.led=t.led->wpAny (model prog w) A (do
    storeSet a es1 u
    if(!false&&u.tooFull)=true then do
      setRelay a (SetTable.grown (es.size+1))
      pure true
     else pure true) R E z:=by
   intro u U hum hul;refine Gaa (Dq s0 (by lia) λg ⟨s1,Sr⟩=> ?_);rw[Bool.not_false,Bool.true_and,U.tok.full,RE,hum];refine GcI (λc=> ?_) (λc=> ?_)
   .have c' :=Gaq c;obtain⟨M,hM,hc,ze,UB,T4⟩:∃M,SetTable.sizeAbove (SetTable.grown (es.size+1))=M+1/\cE M=true/\M%2=1/\es.size+1<=M/\Big M (es.size+1):=by
     rcases bg with⟨q1,q2⟩| ⟨q1,q2⟩| ⟨q1,q2⟩
     .have:es.size=4:=by lia
      rw[this];exact⟨31,by decide,Pr,rfl,by lia,.inr (.inl ⟨rfl,by lia⟩)⟩
     .have:es.size=18:=by lia
      rw[this];exact⟨127,by decide,MA,rfl,by lia,.inr (.inr ⟨rfl,by lia⟩)⟩
     .lia
    obtain⟨t',order,e1,pm,m1,m5,X'⟩:=Kh U hM hc ze (by lia);have RC:(order.filterMap (es1[·]?)).size=es1.size:=by
     have:=pm.length_eq;rw[GaO,GaO] at this;exact this
    have hM127:M<=127:=by rcases T4 with q|q|q<;>lia
    obtain⟨o1,Te,g1,g2,g3⟩:=id s1;refine Gaa (Gaa (GaT (s:={z with heap:=g}) g1 g3 U.tok.fits (GbZ (by rw[hM];simp;lia) ?_)));rw[e1];refine Gaa (GbZ (by rw[RC];simp) (Gac (Dq (z:={z with heap:=g}) s1 (by rw[RC];lia) λg' ⟨⟨o2,Ut,r1,r2,r3⟩,Ts⟩=>Gac (h _ _ (Sr.trans Ts) ⟨o2,_,Ut,_,r1,r2,r3,X',(pm.map _).trans pv, ?_, ?_⟩))))
    .rw[m1,RC,RE];exact T4
    .rw[m5,hul];exact hE.led
   .have c' :¬(es.size+1)*5>=t.mask*3:=λq=>c (Gaz q);obtain⟨o1,Te,g1,g2,g3⟩:=s1;refine Gac (h _ _ Sr ⟨o1,_,Te,_,g1,g2,g3,U,pv, ?_,by rw[hul];exact hE.led⟩);rw[hum,RE];rcases bg with⟨q1,q2⟩| ⟨q1,q2⟩| ⟨q1,q2⟩
    .exact .inl ⟨q1,by lia⟩
    .exact .inr (.inl ⟨q1,by lia⟩)
    .exact .inr (.inr ⟨q1,by lia⟩)
  refine GcI (λ_=>Gaa (HL n im hn λbv=> ?_)) (λ_=>Gaa (Gac ?_))
  .cases bv with
   |true=>
    simp only[Gca];exact fin t1 X1 ml ll
   |false=>
    simp only[Gbe,GbR];exact fin _ X1.off ml ll
  .simp only[Gca];exact fin t1 X1 ml ll
 .have:SetTable.turns t.mask=t.mask+15:=rfl;lia
 .intro k' xo;lia
end
noncomputable def jb(ds:List D):Nat->List Nat
 |0=>[]
 |i+1=>if(jb ds i).any (λj=>eqD (ds.getD j .non) (ds.getD i .non)) then jb ds i else jb ds i++[i]
theorem pI(ds:List D):∀i,∀j∈jb ds i,j<i
 |0,j,h=>by cases h
 |i+1,j,h=>by
  unfold jb at h;split at h
  .exact Gcb (pI ds i j h)
  .rcases GaL.mp h with q|q
   .exact Gcb (pI ds i j q)
   .rw[Gbr.mp q];exact Gcw _
theorem mV(ds:List D):∀i,(jb ds i).length<=i
 |0=>Gap _
 |i+1=>by
  have:=mV ds i;unfold jb;split
  .lia
  .rw[Gah,GcT];lia
theorem Ae(ds:List D):∀i,i<=ds.length->(jb ds i).map (λj=>ds.getD j .non)=nO (ds.take i)
 |0,_=>rfl
 |i+1,h=>by
  have ih:=Ae ds i (by lia);have hi:i<ds.length:=by lia
  have e:ds.getD i .non=ds[i]:=by simp[hi]
  have step:nO (ds.take (i+1))=mE (nO (ds.take i)) ds[i]:=by
   unfold nO;rw[<-List.take_append_getElem hi,List.foldl_append]
   rfl
  rw[step,<-ih];have e0:jb ds (i+1)=if(jb ds i).any (λj=>eqD (ds.getD j .non) (ds.getD i .non)) then jb ds i else jb ds i++[i]:=rfl
  rw[e0];unfold mE;rw[GdT];show List.map _ (if(jb ds i).any (λj=>eqD (ds.getD j .non) (ds.getD i .non)) then _ else _)=if(jb ds i).any (λj=>eqD (ds.getD j .non) ds[i]) then _ else _
  rw[e];split
  .rfl
  .rw[GaC,List.map_singleton,e]
section
variable{prog:Program}{w:World}{A:Around}{R:Result->Shared->Prop}{I:Addr}{fp wr:List Addr}{G:Array GenState->Array GenState->Prop}{n:Nat}{P:Nat->Value->Prop}{St:Nat->Shared->Prop}
variable{its:List Value}{bt:Bool}
theorem vd.at{g0 g g' :Heap}{n:Nat}{a:Addr}{ix:List Nat}(h:vd w bt g0 n its g a ix)(e:∀o,g.get? a=some o->g'.get? a=some o):vd w bt g0 n its g' a ix:=let⟨o,es,ep,t,ho,r⟩:=h;⟨o,es,ep,t,e o ho,r⟩
theorem Ff{g0:Heap}{m:Nat}{ds:List D}(W:WalksS prog w A.in1 I fp wr G n P St)(S:Addr)(T5:S∉fp)(hI:Dx g0 m ds its)(zx:its.length=n)(RT:∀i v,P i v->its[i]? =some v)(hb:n<76)(hm:m<=8)(hu:A.units+1+m<cLine)
  (Ul:g0.get? S=none)(TL:∀b∈wr,g0.get? b=none):
  ∀(k i:Nat) (z:Shared),n -i=k->i<=n->St i z->(∀b o,g0.get? b=some o->z.heap.get? b=some o)->vd w bt g0 m its z.heap S (jb ds i)->
   (∀y,Moved (S::wr) G z y->vd w bt g0 m its y.heap S (jb ds n)->R (.ok (.ret .none)) y)->codeAny (model prog w) A (.builtin "set.update.loop" ⟨[.ref S,.ref I],[]⟩) R z:=by
 have out:S∉wr:=λh=>T5 (W.sub _ h);intro k i z hk hi st old hS hR;refine tP (n:=n) (λi y=>St i y/\Moved (S::wr) G z y/\(∀b o,g0.get? b=some o->y.heap.get? b=some o)/\vd w bt g0 m its y.heap S (jb ds i)) ?_ ?_ k i z (by lia) ⟨st,Moved.refl W.grefl,old,hS⟩
 .rintro i y Q E lt ⟨st,mv,old,hS⟩ up;refine W.item i y Q E lt st λv y' hP xK zw => ?_;have li:i<its.length:=by lia
  have gv:its.getD i .none=v:=by rw[Gdf,RT i v hP];rfl
  obtain⟨b,xI,im⟩:=hI i li;cases gv.symm.trans xI;have old' :∀b o,g0.get? b=some o->y'.heap.get? b=some o:=λb o e=>zw.heap b o (λq=>by rw[TL b q] at e;cases e) (old b o e);refine up _ _ λQ' E' q=>GbK (Gaa (Ke (s:=y') (im.mono old') (show A.units+1+m<cLine from hu) y'.toks _ _ λtk le=>Ki (z:={y' with toks:=tk}) (hS.at λo=>zw.heap S o out) hI old' (λj hj=>Nat.lt_trans (pI ds i j hj) li) li gv (by have:=mV ds i;lia) hm (show A.units+1+m<cLine from hu) λr g sb Uk=>q r _ ⟨?_, ?_,λb o e=> ?_,Uk⟩))
  .exact W.frame _ y' g tk xK le λb q o e=>sb.extBut b o (λe=>T5 (e▸q)) e
  .exact(mv.trans W.gtrans (zw.mono λ_=> .tail _)).trans W.gtrans ⟨λb o nb e=>sb.extBut b o (λe=>nb (e▸.head _)) e,W.grefl _,rfl,rfl,le⟩
  .exact sb.extBut b o (λq=>by rw[q,Ul] at e;cases e) (old' b o e)
 .rintro y Q E ⟨st,mv,old,hS⟩ fin;exact W.done y Q E st λy' zw =>fin y' (hR y' (mv.trans W.gtrans (zw.mono λ_=> .tail _)) (hS.at λo=>zw.heap S o out))
end
section
variable{prog:Program}{w:World}{A:Around}{E:Value->Shared->Prop}{z:Shared}
theorem Fg(b:Bool):TOk (.fresh 0 0 b) 0:=⟨by show cE 7=true;decide,by show(7:Nat)%2=1;decide,rfl,rfl,Gba _⟩
variable{its:List Value}{m:Nat}
theorem Fh{g0:Heap}{bt:Bool}:SIx w bt g0 m its [] #[] (.fresh 0 0 (!bt)):=
 ⟨⟨Fg _,λi h v e=>by simp at e,λi j _ x y hx _=>by simp[SetTable.fresh] at hx,λi h v j e _=>by simp at e⟩,List.Perm.nil,.inl ⟨rfl,by decide⟩,rfl⟩
theorem Dy{g:Heap}{b:Addr}(h:g.objs.size<=b):g.get? b=none:=by
 cases e:g.get? b with
 |none=>rfl
 |some o=>exact absurd (Gav e) (Nat.not_lt.mpr h)
theorem Fj{l:Addr}{ds:List D}{R:Value->Shared->Prop}(hh:A.handled=none)(hl:z.heap.IsList l its.toArray)(hI:Dx z.heap m ds its)(hb:its.length<76)(U5:m<=8)(hu:A.units+3+m<cLine)
  (h:∀(g:Heap) (tk:Nat),vd w (jO w) z.heap m its g z.heap.objs.size (jb ds its.length)->(∀b o,b<z.heap.objs.size->z.heap.get? b=some o->g.get? b=some o)->R (.ref z.heap.objs.size) {z with heap:=g,toks:=tk}):
  wpAny (model prog w) A (call (.type "set") [.ref l]) R E z:=by
 have ll:l<z.heap.objs.size:=let⟨_,q,_⟩:=hl;Gav q
 refine Mu hl λh1 eS it k=>Ff (bt:=jO w) (g0:=z.heap) (A:=A.in1.in1) (Walks.list (by simp[hh]) (z.heap.objs.size+1) l (GaJ (Gcb ll)) its.toArray).toS z.heap.objs.size (by simp[GbW ll]) hI (by simp) (λi v hv=>by simpa using hv) (by simpa using hb) U5 (show A.units+2+1+m<cLine from hu) (Dy (Gap _)) (λb q=>by rw[Gbr.mp q];exact Dy (GbU _))
  its.toArray.size 0 _ (Nat.sub_zero _) (Gba _) ⟨it,let⟨o,q,r⟩:=hl;⟨o,k l o q,r⟩⟩ k ⟨_,#[],0,_,eS,⟨rfl,rfl,rfl⟩,rfl,Fh⟩ λy mv hS=> ?_
 rw[Moved.eq_with mv];exact h y.heap y.toks (by simpa using hS) λb o lt q=>mv.heap b o (by simp[GaJ lt,GaJ (Gcb lt)]) (k b o q)
end
theorem tX{α β:Type}{f:α->β}:∀{ys:List β} {xs:List α},ys.Perm (xs.map f)->∃zs:List α,zs.Perm xs/\ys=zs.map f
 |[],xs,h=>by
  have:=h.length_eq;have hx:xs=[]:=GcM (by simpa using this.symm);subst hx;exact⟨[],.nil,rfl⟩
 |y::ys,xs,h=>by
  obtain⟨x,hx,rfl⟩:=Gax.mp (h.mem_iff.mp Gak);obtain⟨s,t,rfl⟩:=List.append_of_mem hx;have e:(f x::ys).Perm (f x::(s++t).map f):=h.trans ((GdD (a:=x) (l₁:=s) (l₂:=t)).map f);obtain⟨zs,h1,h2⟩:=tX e.cons_inv;exact⟨x::zs,(h1.cons x).trans GdD.symm,by rw[h2];rfl⟩
section
variable{prog:Program}{w:World}{A:Around}{E:Value->Shared->Prop}{z:Shared}
theorem Af{a:Addr}{es:Array (Int×Value)}{ep:Nat}{t:SetTable}{Q:Value->Shared->Prop}(hh:A.handled=none)(hm:lI z.heap a es ep t)(hf:t.fits es.size=true)(hT:Tb (jO w) t)(yP:es.size<64)
  (h:∀ws:List Value,ws.Perm (es.toList.map (·.2))->∃cs,(∀(G:Heap) tk d,(∀b o,z.heap.get? b=some o->G.get? b=some o)->∀A' :Around,A'.units=A.units+2->uS prog w A' E {z with heap:=G,toks:=tk,drawn:=d} cs ws)/\
   ∀l h' tk d c (p:Array Nat),Ord ws.length p->Up (rank cs) p ws.length->z.heap.objs.size<=l->(∀b o,z.heap.get? b=some o->h'.get? b=some o)->h'.get? l=some (seqObj "list" (p.toList.map λi=>ws.getD i Value.none).toArray c)->Q (.ref l) {z with heap:=h',toks:=tk,drawn:=d}):
  wpAny (model prog w) A (call (.builtin "sorted") [.ref a]) Q E z:=by
 have hsl:sizeLine=16777216:=Gbw;refine Calls.call_function_entry kind_sorted plain_sorted entry_sorted (args_sorted1 _) ?_;unfold Builtin.«sorted»;refine Gaa (m:=checkCount "sorted" 1 1 _) (Gac (Gaa (A5 (A:=A.in1) hh hm hf hT (by lia) λh' tk d xs eU hk hp=> ?_)));obtain⟨cs,hK,h⟩:=h (xs.map (·.2)) (hp.map _);have hxl:(xs.map (·.2)).length=es.size:=by rw[Gad,hp.length_eq];simp
 generalize xs.map (·.2)=ws at*;refine Gaa (wpAny_newList ?_ (by lia));have yK:(h'.push (seqObj "list" ws.toArray 0)).get? h'.objs.size=some (seqObj "list" ws.toArray 0):=Gaw _ rfl;have keep:∀b o,z.heap.get? b=some o->(h'.push (seqObj "list" ws.toArray 0)).get? b=some o:=λb o e=>Gaf _ (hk b o e);have zle:z.heap.objs.size<=h'.objs.size:=GcS eU;refine Gaa (GbK (Gbb slot_list_sort ⟨_,yK,rfl⟩ entry_list_sort (l8 (cs:=cs) (s:={z with heap:=h'.push (seqObj "list" ws.toArray 0),toks:=tk,drawn:=d}) yK (by lia) (λG hG=>hK G tk d (λb o e=>hG b o (GaJ (GaH (Gav e) zle)) (keep b o e)) _ rfl) λp h1 h2=> ⟨_,rfl, ?_⟩) (args_list_sort _)));obtain⟨c,xJ⟩:=sortedHeap_at (h:=h'.push (seqObj "list" ws.toArray 0)) (a:=h'.objs.size) (vs:=ws) (n:=0) (out:=List.toArray (p.toList.map λi=>ws.getD i Value.none)) yK;refine Gac ⟨_,rfl,h h'.objs.size _ tk d c p h1 h2 zle (λb o e=> ?_) xJ⟩;have hb:=Gav (hk b o e);exact(sortedHeap_old (GaJ hb) (Nat.lt_trans hb (by rw[size_push'];exact Gcw _))).trans (keep b o e)
end
section
variable{X:Cx}{e a b c:Expr}{f g h:DE}{pos:Pos}{e8:List (Addr×Obj)}{Z:St}{H:Hp}{s:Shared}{F:Addr->Prop}
theorem ve{ys:List V}{us:List Value}(p:Vals ys us):∀(i:Nat) y u,ys[i]? =some y->us[i]? =some u->RelV y u:=by
 induction p with
 |nil=>intro i y u e _;simp at e
 |cons h t ih=>
  intro i y u e1 e2;cases i with
  |zero=>cases e1;cases e2;exact h
  |succ i=>exact ih i y u e1 e2
theorem ME(I:Inv X e8 Z H s):∀(n:Nat) {d:D} {v:V} {u:Value},imN n d=true->Rep X.K F H d v->RelV v u->Im s.heap n d u:=by
 intro n;induction n with
 |zero=>
  intro d v u hd r ru;cases r with
  |int i=>obtain⟨t,rfl⟩:=ru;exact .int _ _ _
  |str x=>obtain⟨t,rfl⟩:=ru;exact .str _ _ _
  |_=>simp[imN] at hd
 |succ n ih=>
  intro d v u hd r ru;cases r with
  |int i=>obtain⟨t,rfl⟩:=ru;exact .int _ _ _
  |str x=>obtain⟨t,rfl⟩:=ru;exact .str _ _ _
  | @tup a vs ds hH hl hr=>
   cases ru;obtain⟨its,xi,⟨o,h1,h2,m,h3⟩,_⟩:=I.tuple (SqT.of hH);refine .tup h1 h2 h3 ?_ λi d v e1 e2=> ?_
   .rw[hl,xi.length]
   .have hi:i<vs.length:=by
     rw[<-hl];exact(Gal.mp e1).1
    have xb :imN n d=true:=Gao.mp hd d (GaD e1);exact ih xb (hr i d vs[i] e1 (Gab hi)) (ve xi i _ _ (Gab hi) (by simpa using e2))
  |_=>simp[imN] at hd
noncomputable def HU(X:Cx)(v:Addr)(ds:List D)(vs:List V):HO:= .ext λh=>∃its o es ep t,Vals vs its/\h.get? v=some o/\o.ExactSet/\o.data= .set es ep t/\t.fits es.size=true/\Tb (jO X.w) t/\(es.toList.map (·.2)).Perm ((jb ds ds.length).map λi=>its.getD i .none)
def Pu(X:Cx):List V->Hp->VK->Prop:=λxs H Q=>∃(p:Addr) (ds:List D) (vs:List V) (F:Addr->Prop),xs=[.ref p]/\SqL X.K H p vs/\aI X.K F H ds vs/\ds.length<64/\(ds.all λd=>uC d&&imN 4 d)=true/\∀v,H v=none->Q (.ref v) (upd H v (HU X v ds vs))
theorem Ca(hc:X.calm=true)(hu:X.A.units+20<cLine):fq X (.type "set") (Pu X):=by
 intro e8 s Z H xs us Q I rv h;obtain⟨p,ds,vs,F,rfl,hq,hr,hl,hok,q⟩:=h;obtain⟨u,rfl,ru⟩:=rv.one;cases ru;obtain⟨its,xi,pl,_⟩:=I.list hq;have hle:its.length=ds.length:=by rw[<-xi.length,hr.1]
 have hI:Dx s.heap 4 ds its:=λi hi=>by
  have hd:i<ds.length:=by lia
  have hv:i<vs.length:=by rw[<-hr.1];exact hd
  have ok:=Gao.mp hok ds[i] (GaF hd);rw[Gas] at ok;have im:=ME I 4 ok.2 (hr.2 i _ _ (Gab hd) (Gab hv)) (ve xi i _ _ (Gab hv) (Gab hi));have e1:its.getD i .none=its[i]:=by simp[hi]
  have e2:ds.getD i .non=ds[i]:=by simp[hd]
  rw[e1,e2];generalize ds[i]=d at*;generalize its[i]=u at*;cases im with
  |tup ho hc hd hl hi=>exact⟨_,rfl,.tup ho hc hd hl hi⟩
  |_=>simp[uC] at ok
 refine Fj (m:=4) (ds:=ds) (I.ok.hd hc) pl.isList hI (by lia) (by decide) (by lia) λg tk hS hk=> ?_;obtain⟨o,es,ep,t,ho,hex,hd,hE⟩:=hS;refine⟨.ref s.heap.objs.size,_,I.laid (a:=s.heap.objs.size) (o:=HU X s.heap.objs.size ds vs) (t' :=tk) (λb o e=>hk b o (Gav e) e) (Gap _) ?_,rfl,q _ I.fresh⟩;exact⟨⟨its,o,es,ep,t,xi,ho,hex,hd,hE.ok.tok.fits,⟨hE.led,λ_=>hE.ok.ris⟩,by rw[<-hle];exact hE.vals⟩,⟨o,ho⟩,λh1 h2 ⟨its,o,es,ep,t,r1,ho,r⟩ k=> ⟨its,o,es,ep,t,r1,k o ho,r⟩⟩
theorem tY{K:ao}{F:Addr->Prop}{H:Hp}{ds:List D}{vs:List V}(r:aI K F H ds vs):∀(jx:List Nat),(∀i∈jx,i<ds.length)->aI K F H (jx.map λi=>ds.getD i .non) (jx.map λi=>vs.getD i .non)
 |[],_=> .nil
 |i::jx,h=>by
  have hi:=h i Gak;have hv:i<vs.length:=by rw[<-r.1];exact hi
  refine .cons ?_ (tY r jx λj hj=>h j (Gag _ hj));have e1:ds.getD i .non=ds[i]:=by simp[hi]
  have e2:vs.getD i .non=vs[i]:=by simp[hv]
  show Rep K F H (ds.getD i .non) (vs.getD i .non);rw[e1,e2];exact r.2 i _ _ (Gab hi) (Gab hv)
theorem tZ{vs:List V}{us:List Value}(r:Vals vs us):∀(jx:List Nat),(∀i∈jx,i<vs.length)->Vals (jx.map λi=>vs.getD i .non) (jx.map λi=>us.getD i .none)
 |[],_=> .nil
 |i::jx,h=>by
  have hi:=h i Gak;have hv:i<us.length:=by rw[<-r.length];exact hi
  refine .cons ?_ (tZ r jx λj hj=>h j (Gag _ hj));have e1:vs.getD i .non=vs[i]:=by simp[hi]
  have e2:us.getD i .none=us[i]:=by simp[hv]
  show RelV (vs.getD i .non) (us.getD i .none);rw[e1,e2];exact ve r i _ _ (Gab hi) (Gab hv)
end
theorem Cb{ds es:List D}(h:∀x∈es,x∈ds)(k:keysOk ds=true):keysOk es=true:=by
 have all:∀{p:D->Bool},ds.all p=true->es.all p=true:=λ{p} q=>Gao.mpr λx hx=>Gao.mp q x (h x hx);unfold keysOk at*;rw[GaR] at*;rcases k with k|k
 .exact .inl (all k)
 .rw[Gas,GaR] at*;refine .inr ⟨k.1.imp all all, ?_⟩;refine Gao.mpr λx hx=>Gao.mpr λy hy=> ?_;exact Gao.mp (Gao.mp k.2 x (h x hx)) y (h y hy)
theorem Kj(ds:List D):∀x∈nO ds,x∈ds:=by
 have key:∀(ds acc:List D) x,x∈ds.foldl mE acc->x∈acc\/x∈ds:=by
  intro ds;induction ds with
  |nil=>intro acc x hx;exact .inl hx
  |cons d ds ih=>
   intro acc x hx;rcases ih _ x hx with h|h
   .unfold mE at h;split at h
    .exact .inl h
    .rcases GaL.mp h with h|h
     .exact .inl h
     .rw[Gbr.mp h];exact .inr Gak
   .exact .inr (Gag _ h)
 intro x hx;rcases key ds [] x hx with h|h
 .cases h
 .exact h
section
variable{X:Cx}{e a b c:Expr}{f g h:DE}{pos:Pos}{e8:List (Addr×Obj)}{Z:St}{H:Hp}{s:Shared}{F:Addr->Prop}
def Fl(X:Cx):List V->Hp->VK->Prop:=λxs H Q=>∃(v:Addr) (ds:List D) (vs:List V) (F:Addr->Prop),xs=[.ref v]/\H v=some (HU X v ds vs)/\aI X.K F H ds vs/\ds.length<64/\keysOk ds=true/\
 ∀l out,H l=none->(∀F',aI X.K F' H ds vs->aI X.K F' H (bY (nO ds)) out)->Q (.ref l) (upd H l (.lst out))
theorem sf(hc:X.calm=true):fq X (.builtin "sorted") (Fl X):=by
 intro e8 s Z H xs us Q I rv h;obtain⟨v,ds,vs,F,rfl,hv,hr,yP,hok,q⟩:=h;obtain⟨u,rfl,ru⟩:=rv.one;cases ru;obtain⟨⟨its,o,es,ep,t,xi,ho,hex,hd,hf,hT,SN⟩,_,_⟩:=I.hok v _ hv;have hvl:vs.length=ds.length:=hr.1.symm;have yp:es.size<=ds.length:=by
  have e:=SN.length_eq;have:=mV ds ds.length;simp at e;lia
 refine Af (I.ok.hd hc) ⟨o,ho,hex,hd⟩ hf hT (by lia) λws TK=> ?_;obtain⟨jx,yL,Rn⟩:=tX (TK.trans SN);have zj:∀i∈jx,i<ds.length:=λi hi=>pI ds ds.length i (yL.mem_iff.mp hi);have hjn:jx.length<=ds.length:=by rw[yL.length_eq];exact mV ds ds.length
 have R' :∀F',aI X.K F' H ds vs->aI X.K F' H (jx.map λi=>ds.getD i .non) (jx.map λi=>vs.getD i .non):=λF' r=>tY r jx zj;have V' :=tZ xi jx λi hi=>by rw[hvl];exact zj i hi
 rw[<-Rn] at V';have xC :(jx.map λi=>ds.getD i D.non).Perm (nO ds):=by
  have:=Ae ds ds.length (Gap _);rw[List.take_length] at this;rw[<-this];exact yL.map _
 have xP :=Cb (λx hx=>Kj ds x (xC.mem_iff.mp hx)) hok;have hln:(jx.map λi=>ds.getD i D.non).length=jx.length:=Gad _;have hlw:ws.length=jx.length:=by rw[Rn];exact Gad _
 have hly:(jx.map λi=>vs.getD i V.non).length=jx.length:=Gad _;generalize (jx.map λi=>ds.getD i D.non)=xn at*;generalize (jx.map λi=>vs.getD i V.non)=ys' at*;have hK:=uU I (R' F hr) (wV xP) V';refine⟨xn.map code,λG tk d hG A' hA=>uX (jM (λd v kv=>F5 hG kv) hK) xP,λl h' tk d c p h1 h2 hl hk xJ=> ?_⟩;have xV :Ord xn.length p:=by rw[hln,<-hlw];exact h1
 have Rr :Up (rank (xn.map code)) p xn.length:=by rw[hln,<-hlw];exact h2
 have uniq:(p.toList.map λi=>xn.getD i .non)=bY (nO ds):=i8 ((iM xV).trans (xC.trans (bS _).symm)) (qy xV Rr) (dW _) λa ha b hb=>wQ xP a ((iM xV).mem_iff.mp ha) b ((iM xV).mem_iff.mp hb);have h1v:Ord ys'.length p:=by rw[hly,<-hln];exact xV
 have fresh:H l=none:=I.hok.fresh hl;have hsl:sizeLine=16777216:=Gbw;refine⟨.ref l,_,(I.laid (a:=l) (o:= .lst (p.toList.map λi=>ys'.getD i .non)) (t' :=tk) hk hl ?_).draw d,rfl,q _ _ fresh λF' r=> ?_⟩
 .refine⟨?_,_,c,wX h1v V',xJ⟩;rw[Gad,GaO,h1v.size];lia
 .rw[<-uniq];exact wW xV (R' F' r)
theorem Ag{p p2 eE:Pos}(hc:X.calm=true)(hu:X.A.units+20<cLine)(hg:Gl X "sorted")(hm:X.mg "sorted"=none)(yM:Gl X "set")(zO:X.mg "set"=none)(he:PEd X e f)
  (hX:starEach [e] X.env=[(false,eval e X.env)]:=by rfl)
  (xj:starEach [.Call (.Name "set" p2) [e] [] eE] X.env=[(false,eval (.Call (.Name "set" p2) [e] [] eE) X.env)]:=by rfl):
  PEd X (.Call (.Name "sorted" p) [.Call (.Name "set" p2) [e] [] eE] [] pos) (qf f):=by
 refine(pP (sf hc) hg hm rfl (mi (sR (Ca hc hu) yM zO rfl (mi he pO hX) (by decide) (by decide) hX rfl) pO xj) (by decide) (by decide) xj rfl).aE ?_;rintro Z H Q ⟨H0,eD,env,rv,E,e,k⟩;obtain⟨r,hr,e⟩:=eA e;split at e
 .rename_i ds hd;split at e
  .rename_i hok;cases e;unfold qe at hok;rw[Gas,Gas] at hok;obtain⟨⟨o1,o2⟩,o3⟩:=hok;refine⟨H0,eD,env,r,E,hr,λv H1 s1 R1=> ?_⟩;have i:=R1.inn;rw[hd] at i;cases i with
   | @lst a vs _ hq rk=>
    refine⟨a,ds,vs,_,rfl,.inl hq,rk,Gaq o1,o2,λv hv=> ⟨v,ds,vs,_,rfl,ay,rk.gen (.of_same (aU hv)) λ_ f _=>f,Gaq o1,o3,λl out hl RZ=> ?_⟩⟩;have SQ:H1 l=none:=by
     by_cases z:l=v
     .subst z;exact hv
     .rw[ag z] at hl;exact hl
    exact k _ _ (s1.trans ((aU hv).trans (aU hl))) ⟨l,rfl,s1.free SQ,⟨_,ay,trivial⟩,rfl,fu hl (RZ _ (rk.gen (.of_same (aU hv)) λ_ f _=>f))⟩
  .cases e
 .cases e
theorem Dz:∀(a b:List Int),Jv a b=HT.lexLt a b
 |[],[]=>rfl
 |[],_::_=>rfl
 |_::_,[]=>rfl
 |x::xs,y::ys=>by
  show(if x=y then Jv xs ys else decide (x<y))=(if x=y then HT.lexLt xs ys else decide (x<y));rw[Dz xs ys]
theorem o8:∀(ds:List D) (ns:List Int),intsOf ds=some ns->ds=ns.map .int
 |[],ns,h=>by cases h;rfl
 |d::ds,ns,h=>by
  unfold intsOf at h;split at h
  .rename_i e;cases e
  .rename_i i es e;cases e;obtain⟨m,hm,rfl⟩:=Gan.mp h;rw[o8 ds m hm];rfl
  .cases h
theorem lO{K:ao}{F:Addr->Prop}{H:Hp}:∀{ns:List Int} {vs:List V},aI K F H (ns.map D.int) vs->vs=ns.map V.int
 |[],vs,r=>by
  have:=r.1;simp at this;cases vs with
  |nil=>rfl
  |cons v vs=>simp at this
 |n::ns,vs,r=>by
  obtain⟨v,vr,rfl,r1,r2⟩:=aI.cons_inv (by exact r);cases r1;rw[lO r2];rfl
theorem Kk:OpB X Jw (O5 X.K):=by
 intro F H dx dy x y b Q ix iy e q;unfold Jw at e;split at e
 .rename_i as bs;obtain⟨m,hm,ee⟩:=eA e;obtain⟨n,hn,el⟩:=Gan.mp ee;have e1:=o8 _ _ hm;have e2:=o8 _ _ hn;subst e1 e2;cases ix with
  |tup hx rx=>
   cases iy with
   |tup hy ry=>
    have:=lO rx;subst this;have:=lO ry;subst this;refine⟨_,_,m,n,rfl,rfl,SqT.of hx,SqT.of hy, ?_⟩;rw[<-Dz,el];exact q
 .cases e
end
end DL
namespace Den
open DL PySem
noncomputable def o9:DS:=
 (retS (bN df (a7 (bN sortedS (a7 (opE fH (vE 0) (aT (a7 (vE 1) aa))) aa)) aa)))
noncomputable def kC:List D->Option D:=cx 2 2 o9
noncomputable def ik:DS:=
 (retS (aT (a7 (ixE (vE 0) (kE (.int 0))) (a7 (ak kC (a7 (ixE (vE 0) (kE (.int 1))) (a7 (aT (a7 (vE 1) (a7 (vE 2) (a7 (vE 3) aa)))) aa))) aa))))
noncomputable def cL:List D->Option D:=cx 4 4 ik
noncomputable def jc:DS:=
 (retS (gP none 1 [1] (gr (ixE (vE 0) (kE (.int 1)))) (gN 0) (aB eqB (ixE (vE 0) (kE (.int 0))) (vE 1)) (aT (a7 (ixE (vE 0) (kE (.int 1))) (a7 (ixE (vE 0) (kE (.int 2))) aa)))))
noncomputable def fW:List D->Option D:=cx 2 2 jc
noncomputable def kD:DS:=
 (aj (ifS (aB eqB (ixE (vE 0) (kE (.int 0))) (kE (.str "ever")))
  (retS (ixE (vE 0) (kE (.int 1))))
  aF)
 (aj (ifS (aB eqB (ixE (vE 0) (kE (.int 0))) (kE (.str "flat")))
  (retS (ixE (vE 0) (kE (.int 2))))
  aF)
 (aj (ifS (aB jv (vE 1) (kE .non))
  (retS (kE .non))
  aF)
 (retS (opE cP (opE bD (vE 1) (ixE (vE 0) (kE (.int 2)))) (ixE (vE 0) (kE (.int 3))))))))
noncomputable def gW:List D->Option D:=cx 2 2 kD
noncomputable def mW:DS:=
 (aj (aw 2 (ixE (vE 0) (kE (.int 4))))
 (aj (ifS (aB eqB (ixE (vE 2) (kE (.int 0))) (kE (.str "asked")))
  (retS (kE .non))
  aF)
 (aj (aw 3 (opE kP (vE 1) (opE kP (ixE (vE 2) (kE (.int 1))) (ixE (vE 2) (kE (.int 4))))))
 (aj (aw 4 (opE cP (vE 3) (ixE (vE 2) (kE (.int 2)))))
 (aj (ifS (orT (Ey (Bi leB ltB (kE (.int 0)) (vE 4) (ixE (vE 2) (kE (.int 3))))) (aB gtB (opE kP (vE 3) (opE bD (vE 4) (ixE (vE 2) (kE (.int 2))))) (opE aA (ixE (vE 2) (kE (.int 4))) (ixE (vE 2) (kE (.int 5))))))
  (retS (kE .non))
  aF)
 (retS (vE 4)))))))
noncomputable def gC:List D->Option D:=cx 5 2 mW
noncomputable def mX:DS:=
 (aj (aw 2 (ixE (vE 0) (kE (.int 4))))
 (aj (ifS (aB eqB (ixE (vE 2) (kE (.int 0))) (kE (.str "asked")))
  (retS (bE (aB ltB (vE 1) (ixE (vE 2) (kE (.int 1))))))
  aF)
 (retS (bE (aB jv (ak gC (a7 (vE 0) (a7 (vE 1) aa))) (kE .non))))))
noncomputable def jP:List D->Option D:=cx 3 2 mX
noncomputable def gD:DS:=
 (ifS (gL (aB eqB (ixE (vE 4) (kE (.int 0))) (vE 1)) (aB leB (ixE (vE 4) (kE (.int 1))) (vE 2)))
  (aw 3 (ixE (vE 4) (kE (.int 2))))
  aF)
noncomputable def jQ:DS:=
 (aj (aw 3 (kE .non))
 (aj (dU (some 0) (gr (vE 0)) (gN 4)
  gD)
 (retS (vE 3))))
noncomputable def fJ:List D->Option D:=cx 5 3 jQ
noncomputable def dS:DT:=
 (gL (aB dR (vE 1) (kE .non)) (aB leB (ixE (ixE (vE 2) (vE 5)) (kE (.int 0))) (opE kP (ixE (vE 7) (kE (.int 0))) (vE 1))))
noncomputable def g8:DS:=
 (aj (aw 4 (opE kP (vE 4) (ixE (ixE (vE 2) (vE 5)) (kE (.int 1)))))
 (aw 5 (opE aA (vE 5) (kE (.int 1)))))
noncomputable def cB:DS:=
 (aj (aw 4 (opE aA (vE 4) (ixE (vE 7) (kE (.int 1)))))
 (aj (qc dS
  g8)
 (ifS (orT (aB eqB (opE aA (vE 6) (kE (.int 1))) (bN cw (a7 (vE 2) aa))) (aB gtB (ixE (ixE (vE 2) (opE aA (vE 6) (kE (.int 1)))) (kE (.int 0))) (ixE (vE 7) (kE (.int 0)))))
  (fO 3 (aT (a7 (ixE (vE 7) (kE (.int 0))) (a7 (vE 4) aa))))
  aF)))
noncomputable def vf:DS:=
 (aj (aw 2 (bN sortedS (a7 (vE 0) aa)))
 (aj (aw 3 (fN aa))
 (aj (aw 4 (kE (.int 0)))
 (aj (aw 5 (kE (.int 0)))
 (aj (dU (some 2) (D0 (vE 2)) (gT [6,7])
  cB)
 (retS (vE 3)))))))
noncomputable def ip:List D->Option D:=cx 8 2 vf
noncomputable def fw:DS:=
 (retS (bN anyS (a7 (gP none 1 [] (gr (ixE (vE 0) (kE (.int 2)))) (gN 0) gQ (bE (aB eqB (ixE (vE 0) (kE (.int 0))) (kE (.str "kilo"))))) aa)))
noncomputable def d5:List D->Option D:=cx 1 1 fw
noncomputable def iq:DS:=
 (aj (aw 3 (ixE (vE 2) (kE (.int 0))))
 (aj (aw 4 (ixE (vE 2) (kE (.int 1))))
 (aj (aw 5 (ixE (vE 2) (kE (.int 2))))
 (aj (aw 6 (ixE (ixE (vE 0) (kE (.int 3))) (vE 3)))
 (aj (aw 7 (ixE (ixE (vE 0) (kE (.int 1))) (ixE (vE 6) (kE (.int 2)))))
 (aj (aw 8 (fN aa))
 (aj (ifS (qa (ak jP (a7 (vE 6) (a7 (vE 4) aa))))
  (fO 8 (kE (.str "astray")))
  aF)
 (aj (ifS (aB gtB (vE 5) (ixE (ixE (vE 6) (kE (.int 3))) (kE (.int 3))))
  (fO 8 (kE (.str "most")))
  aF)
 (aj (ifS (orT (aB ltB (vE 5) (kE (.int 1))) (aB neB (opE aS (vE 5) (ixE (ixE (vE 7) (kE (.int 1))) (kE (.int 0)))) (kE (.int 0))))
  (fO 8 (kE (.str "part")))
  aF)
 (aj (ifS (gL (qa (ak d5 (a7 (vE 7) aa))) (aB jv (ak fJ (a7 (vE 1) (a7 (ixE (vE 6) (kE (.int 1))) (a7 (vE 4) aa)))) (kE .non)))
  (fO 8 (kE (.str "weight")))
  aF)
 (aj (ifS (aB ltB (vE 4) (opE aA (ixE (ixE (ixE (vE 0) (kE (.int 0))) (ixE (vE 6) (kE (.int 1)))) (kE (.int 1))) (ixE (vE 7) (kE (.int 3)))))
  (fO 8 (kE (.str "young")))
  aF)
 (retS (gP (some 8) 1 [3,4] (gr (vE 8)) (gN 0) gQ (aT (a7 (vE 0) (a7 (vE 1) (a7 (vE 2) aa)))))))))))))))))
noncomputable def dq:List D->Option D:=cx 9 3 iq
noncomputable def bG:DM:=
 (OW (setM 4 (ixE (ixE (vE 0) (kE (.int 3))) (ixE (vE 3) (kE (.int 0)))))
 (OX (aT (a7 (ixE (vE 4) (kE (.int 1))) (a7 (ixE (vE 4) (kE (.int 2))) aa))) (aT (a7 (ixE (vE 3) (kE (.int 1))) (a7 (ixE (vE 3) (kE (.int 2))) aa)))))
noncomputable def dZ:DS:=
 (Gy 2 (L9 3 (vE 1) bG))
noncomputable def cg:List D->Option D:=cx 5 2 dZ
noncomputable def c5:DS:=
 (aj (aw 11 (ak gW (a7 (vE 8) (a7 (ak fJ (a7 (vE 1) (a7 (vE 6) (a7 (ixE (vE 10) (kE (.int 0))) aa)))) aa))))
 (ifS (gL (aB dR (vE 11) (kE .non)) (aB gtB (ixE (vE 10) (kE (.int 1))) (vE 11)))
  (fO 3 (aT (a7 (kE (.str "cap")) (a7 (vE 6) (a7 (ixE (vE 4) (kE (.int 1))) (a7 (vE 7) (a7 (ixE (vE 10) (kE (.int 0))) (a7 (ixE (vE 10) (kE (.int 1))) (a7 (vE 11) aa)))))))))
  aF))
noncomputable def c6:DS:=
 (aj (aw 9 (ifE (aB eqB (ixE (vE 8) (kE (.int 0))) (kE (.str "ever"))) (kE .non) (ixE (vE 8) (kE (.int 1)))))
 (dU none (gr (ak ip (a7 (vE 5) (a7 (vE 9) aa)))) (gN 10)
  c5))
noncomputable def cI:DS:=
 (aj (aw 6 (ixE (vE 4) (kE (.int 0))))
 (dU none (D0 (ixE (ixE (ixE (vE 0) (kE (.int 1))) (ixE (vE 4) (kE (.int 1)))) (kE (.int 2)))) (gT [7,8])
  c6))
noncomputable def jd:DS:=
 (aj (aw 3 (fN aa))
 (aj (dU none (Gw cN (ak cg (a7 (vE 0) (a7 (vE 2) aa)))) (gT [4,5])
  cI)
 (retS (vE 3))))
noncomputable def f7:List D->Option D:=cx 12 3 jd
noncomputable def cA:DS:=
 (aj (Gv 1 (aT (a7 (ixE (vE 2) (kE (.int 0))) (a7 (ixE (vE 2) (kE (.int 1))) aa))) (ixE (vE 2) (kE (.int 2))))
 (Gv 1 (aT (a7 (ixE (vE 2) (kE (.int 1))) (a7 (ixE (vE 2) (kE (.int 0))) aa))) (ixE (vE 2) (kE (.int 2)))))
noncomputable def fz:DS:=
 (aj (aw 1 (Bj))
 (aj (dU (some 0) (gr (vE 0)) (gN 2)
  cA)
 (retS (vE 1))))
noncomputable def d6:List D->Option D:=cx 3 1 fz
noncomputable def iu:DS:=
 (aj (ifS (aB neB (ixE (vE 1) (kE (.int 1))) (ixE (vE 2) (kE (.int 1))))
  (retS (kE (.int 0)))
  aF)
 (retS (Ju (vE 0) (aT (a7 (ixE (vE 1) (kE (.int 2))) (a7 (ixE (vE 2) (kE (.int 2))) aa))) (kE (.int 0)))))
noncomputable def fE:List D->Option D:=cx 3 3 iu
noncomputable def bq:DS:=
 (aj (aw 9 (opE kP (ixE (vE 8) (kE (.int 0))) (ixE (vE 7) (kE (.int 0)))))
 (aj (ifS (aB geB (vE 9) (vE 3))
  bkS
  aF)
 (ifS (aB ltB (vE 9) (ak fE (a7 (vE 2) (a7 (ixE (ixE (vE 0) (kE (.int 3))) (ixE (vE 7) (kE (.int 1)))) (a7 (ixE (ixE (vE 0) (kE (.int 3))) (ixE (vE 8) (kE (.int 1)))) aa)))))
  (fO 5 (aT (a7 (kE (.str "gap")) (a7 (ixE (vE 7) (kE (.int 1))) (a7 (ixE (vE 7) (kE (.int 0))) (a7 (ixE (vE 8) (kE (.int 1))) (a7 (ixE (vE 8) (kE (.int 0))) aa)))))))
  aF)))
noncomputable def c9:DS:=
 (dU none (gr (slE (vE 4) (wk (opE aA (vE 6) (kE (.int 1)))) noO)) (gN 8)
  bq)
noncomputable def je:DS:=
 (aj (aw 2 (ak d6 (a7 (ixE (vE 0) (kE (.int 2))) aa)))
 (aj (aw 3 (mmE oY (.int 0) (gP none 1 [] (gr (ixE (vE 0) (kE (.int 2)))) (gN 0) gQ (ixE (vE 0) (kE (.int 2))))))
 (aj (aw 4 (bN sortedS (a7 (gP (some 1) 1 [] (gr (vE 1)) (gN 0) gQ (aT (a7 (ixE (vE 0) (kE (.int 1))) (a7 (ixE (vE 0) (kE (.int 0))) aa)))) aa)))
 (aj (aw 5 (fN aa))
 (aj (dU (some 4) (D0 (vE 4)) (gT [6,7])
  c9)
 (retS (vE 5)))))))
noncomputable def f9:List D->Option D:=cx 10 2 je
noncomputable def bI:DS:=
 (aj (aw 4 (ak gC (a7 (ixE (ixE (vE 0) (kE (.int 3))) (ixE (vE 3) (kE (.int 0)))) (a7 (ixE (vE 3) (kE (.int 1))) aa))))
 (ifS (aB dR (vE 4) (kE .non))
  (Gv 2 (aT (a7 (ixE (vE 3) (kE (.int 0))) (a7 (vE 4) aa))) (opE aA (Ju (vE 2) (aT (a7 (ixE (vE 3) (kE (.int 0))) (a7 (vE 4) aa))) (kE (.int 0))) (kE (.int 1))))
  aF))
noncomputable def gE:DS:=
 (aj (aw 2 (Bj))
 (aj (dU (some 1) (gr (vE 1)) (gN 3)
  bI)
 (retS (uB cN 2 2 [] (gT [0,1]) (aB gtB (vE 1) (kE (.int 1))) (aT (a7 (kE (.str "twice")) (a7 (ixE (vE 0) (kE (.int 0))) (a7 (ixE (vE 0) (kE (.int 1))) aa))))))))
noncomputable def cQ:List D->Option D:=cx 5 2 gE
noncomputable def fK:DS:=
 (Oe 4 (ak dq (a7 (vE 0) (a7 (vE 2) (a7 (vE 5) aa)))))
noncomputable def qU:DS:=
 (aj (aw 2 (ixE (vE 1) (kE (.int 0))))
 (aj (aw 3 (ixE (vE 1) (kE (.int 1))))
 (aj (aw 4 (opE aA (opE aA (ak f7 (a7 (vE 0) (a7 (vE 2) (a7 (vE 3) aa)))) (ak f9 (a7 (vE 0) (a7 (vE 3) aa)))) (ak cQ (a7 (vE 0) (a7 (vE 3) aa)))))
 (aj (dU (some 3) (gr (vE 3)) (gN 5)
  fK)
 (retS (bN sortedS (a7 (vE 4) aa)))))))
noncomputable def iS:List D->Option D:=cx 6 2 qU
noncomputable def gF:DS:=
 (retS (gP none 1 [] (gr (ak fW (a7 (vE 0) (a7 (vE 1) aa)))) (gN 0) gQ (ixE (vE 0) (kE (.int 0)))))
noncomputable def fb:List D->Option D:=cx 2 2 gF
noncomputable abbrev kH:DT:=
 (aB ltB (vE 6) (vE 7))
noncomputable def kI:DS:=
 (aj (aw 8 (opE cP (opE aA (opE aA (vE 6) (vE 7)) (kE (.int 1))) (kE (.int 2))))
 (ifS (aB eqB (ak iS (a7 (vE 0) (a7 (ak cL (a7 (vE 1) (a7 (vE 2) (a7 (vE 3) (a7 (opE bD (vE 8) (vE 5)) aa))))) aa))) (fN aa))
  (aw 6 (vE 8))
  (aw 7 (opE kP (vE 8) (kE (.int 1))))))
noncomputable def vg:DS:=
 (aj (ifS (aB inB (vE 3) (ak fb (a7 (vE 1) (a7 (vE 2) aa))))
  (retS (kE (.int 0)))
  aF)
 (aj (aw 4 (ixE (ixE (vE 0) (kE (.int 3))) (vE 2)))
 (aj (aw 5 (ixE (ixE (ixE (ixE (vE 0) (kE (.int 1))) (ixE (vE 4) (kE (.int 2)))) (kE (.int 1))) (kE (.int 0))))
 (aj (aw 6 (kE (.int 0)))
 (aj (aw 7 (opE cP (ixE (ixE (vE 4) (kE (.int 3))) (kE (.int 3))) (vE 5)))
 (aj (qc kH
  kI)
 (retS (opE bD (vE 6) (vE 5)))))))))
noncomputable def lP:List D->Option D:=cx 9 4 vg
noncomputable def jR:DS:=
 (aj (aw 2 (kE (.int 0)))
 (aj (ifS (aB gtB (bN cw (a7 (vE 0) aa)) (kE (.int 0)))
  (aw 2 (ixE (vE 0) (opE aS (vE 1) (bN cw (a7 (vE 0) aa)))))
  aF)
 (aj (aw 3 (opE aS (opE aA (opE aA (opE bD (opE aS (vE 2) (kE (.int 1000003))) (kE (.int 48271))) (opE bD (opE bD (vE 1) (vE 1)) (kE (.int 7919)))) (kE (.int 1))) (kE (.int 65521))))
 (retS (opE aS (opE bD (vE 3) (vE 3)) (kE (.int 65519)))))))
noncomputable def a8:List D->Option D:=cx 4 2 jR
noncomputable def oe:DS:=
 (retS (ixE (fN (a7 (kE (.int 1)) (a7 (kE (.int 1)) (a7 (kE (.int 1)) (a7 (kE (.int 1)) (a7 (kE (.int 1)) (a7 (opE Bh (kE (.int 10)) (kE (.int 6))) aa))))))) (opE aS (ak a8 (a7 (vE 0) (a7 (kE (.int 300)) aa))) (kE (.int 6)))))
noncomputable def bP:List D->Option D:=cx 1 1 oe
noncomputable def iT:DS:=
 (aj (aw 4 (opE bD (vE 3) (opE aA (kE (.int 3)) (opE aS (ak a8 (a7 (vE 0) (a7 (opE aA (vE 1) (kE (.int 1))) aa))) (kE (.int 28))))))
 (aj (aw 5 (opE aS (ak a8 (a7 (vE 0) (a7 (vE 1) aa))) (kE (.int 3))))
 (aj (ifS (aB eqB (vE 5) (kE (.int 0)))
  (retS (aT (a7 (kE (.str "flat")) (a7 (vE 4) (a7 (opE bD (vE 2) (opE aA (kE (.int 3)) (opE aS (ak a8 (a7 (vE 0) (a7 (opE aA (vE 1) (kE (.int 2))) aa))) (kE (.int 18))))) aa)))))
  aF)
 (aj (ifS (aB eqB (vE 5) (kE (.int 1)))
  (retS (aT (a7 (kE (.str "kilo")) (a7 (vE 4) (a7 (opE bD (vE 2) (opE aA (kE (.int 1)) (opE aS (ak a8 (a7 (vE 0) (a7 (opE aA (vE 1) (kE (.int 3))) aa))) (kE (.int 9))))) (a7 (opE aA (kE (.int 5)) (opE aS (ak a8 (a7 (vE 0) (a7 (opE aA (vE 1) (kE (.int 4))) aa))) (kE (.int 40)))) aa))))))
  aF)
 (retS (aT (a7 (kE (.str "ever")) (a7 (opE bD (vE 2) (opE aA (kE (.int 8)) (opE aS (ak a8 (a7 (vE 0) (a7 (opE aA (vE 1) (kE (.int 2))) aa))) (kE (.int 30))))) aa))))))))
noncomputable def g9:List D->Option D:=cx 6 4 iT
noncomputable def cR:DS:=
 (fO 5 (opE aA (ixE (vE 5) (unE Gs (kE (.int 1)))) (opE bD (vE 4) (opE aA (kE (.int 1)) (opE aS (ak a8 (a7 (vE 0) (a7 (opE aA (opE aA (vE 1) (kE (.int 2))) (vE 6)) aa))) (kE (.int 6)))))))
noncomputable def fc:DS:=
 (fO 7 (ak g9 (a7 (vE 0) (a7 (opE aA (opE aA (vE 1) (kE (.int 6))) (opE bD (kE (.int 5)) (vE 6))) (a7 (vE 4) (a7 (vE 3) aa))))))
noncomputable def jS:DS:=
 (aj (aw 4 (opE bD (opE aA (kE (.int 1)) (opE aS (ak a8 (a7 (vE 0) (a7 (vE 1) aa))) (kE (.int 5)))) (ixE (fN (a7 (kE (.int 1)) (a7 (kE (.int 1)) (a7 (opE Bh (kE (.int 10)) (kE (.int 4))) aa)))) (opE aS (ak a8 (a7 (vE 0) (a7 (kE (.int 301)) aa))) (kE (.int 3))))))
 (aj (aw 5 (fN (a7 (vE 4) aa)))
 (aj (dU none (dF (opE aS (ak a8 (a7 (vE 0) (a7 (opE aA (vE 1) (kE (.int 1))) aa))) (kE (.int 3)))) (gN 6)
  cR)
 (aj (aw 7 (fN aa))
 (aj (dU none (dF (opE aS (ak a8 (a7 (vE 0) (a7 (opE aA (vE 1) (kE (.int 4))) aa))) (kE (.int 3)))) (gN 6)
  fc)
 (aj (aw 8 (ak a8 (a7 (vE 0) (a7 (opE aA (vE 1) (kE (.int 5))) aa))))
 (retS (aT (a7 (vE 2) (a7 (bN df (a7 (vE 5) aa)) (a7 (bN df (a7 (vE 7) aa)) (a7 (opE bD (opE bD (opE aS (vE 8) (kE (.int 2))) (vE 3)) (opE aS (opE cP (vE 8) (kE (.int 2))) (kE (.int 20)))) aa))))))))))))
noncomputable def gX:List D->Option D:=cx 9 4 jS
noncomputable def jf:DS:=
 (aj (ifS (aB eqB (opE aS (ak a8 (a7 (vE 0) (a7 (vE 1) aa))) (kE (.int 4))) (kE (.int 0)))
  (retS (aT (a7 (kE (.str "asked")) (a7 (opE bD (vE 2) (opE aS (ak a8 (a7 (vE 0) (a7 (opE aA (vE 1) (kE (.int 1))) aa))) (kE (.int 20)))) aa))))
  aF)
 (aj (aw 3 (opE aA (kE (.int 2)) (opE aS (ak a8 (a7 (vE 0) (a7 (opE aA (vE 1) (kE (.int 2))) aa))) (kE (.int 10)))))
 (aj (aw 4 (opE aS (ak a8 (a7 (vE 0) (a7 (opE aA (vE 1) (kE (.int 3))) aa))) (vE 3)))
 (aj (aw 5 (opE aS (ak a8 (a7 (vE 0) (a7 (opE aA (vE 1) (kE (.int 4))) aa))) (opE kP (vE 3) (vE 4))))
 (aj (aw 6 (opE aA (vE 4) (opE aS (ak a8 (a7 (vE 0) (a7 (opE aA (vE 1) (kE (.int 1))) aa))) (kE (.int 12)))))
 (retS (aT (a7 (kE (.str "due")) (a7 (opE bD (vE 2) (vE 6)) (a7 (opE bD (vE 2) (vE 3)) (a7 (opE aA (kE (.int 1)) (opE aS (ak a8 (a7 (vE 0) (a7 (opE aA (vE 1) (kE (.int 5))) aa))) (kE (.int 6)))) (a7 (opE bD (vE 2) (vE 4)) (a7 (opE bD (vE 2) (vE 5)) aa)))))))))))))
noncomputable def gG:List D->Option D:=cx 7 3 jf
noncomputable def ff:DS:=
 (aj (aw 14 (opE aA (opE aA (vE 14) (kE (.int 1))) (opE aS (ak a8 (a7 (vE 0) (a7 (opE aA (opE aA (vE 1) (kE (.int 14))) (vE 15)) aa))) (kE (.int 2)))))
 (aj (aw 16 (opE aA (kE (.int 1)) (opE aS (ak a8 (a7 (vE 0) (a7 (opE aA (opE aA (vE 1) (kE (.int 16))) (vE 15)) aa))) (kE (.int 12)))))
 (ifS (gL (aB eqB (ixE (vE 12) (kE (.int 0))) (kE (.str "due"))) (aB ltB (vE 14) (ixE (vE 12) (kE (.int 3)))))
  (fO 13 (aT (a7 (vE 14) (a7 (opE aA (kE (.int 1)) (opE aS (ak a8 (a7 (vE 0) (a7 (opE aA (opE aA (vE 1) (kE (.int 18))) (vE 15)) aa))) (vE 16))) (a7 (vE 16) aa)))))
  aF)))
noncomputable def jT:DS:=
 (aj (aw 6 (opE aS (ak a8 (a7 (vE 0) (a7 (vE 1) aa))) (bN cw (a7 (vE 4) aa))))
 (aj (aw 7 (ixE (ixE (ixE (vE 4) (vE 6)) (kE (.int 1))) (kE (.int 0))))
 (aj (aw 8 (opE bD (vE 7) (opE aA (kE (.int 1)) (opE aS (ak a8 (a7 (vE 0) (a7 (opE aA (vE 1) (kE (.int 1))) aa))) (kE (.int 12))))))
 (aj (aw 9 (opE bD (opE aS (ak a8 (a7 (vE 0) (a7 (opE aA (vE 1) (kE (.int 2))) aa))) (kE (.int 2))) (opE aA (kE (.int 10)) (opE aS (ak a8 (a7 (vE 0) (a7 (opE aA (vE 1) (kE (.int 3))) aa))) (kE (.int 90))))))
 (aj (aw 10 (opE aA (opE aA (opE bD (vE 7) (opE aS (ak a8 (a7 (vE 0) (a7 (opE aA (vE 1) (kE (.int 4))) aa))) (kE (.int 8)))) (kE (.int 1))) (opE aS (ak a8 (a7 (vE 0) (a7 (opE aA (vE 1) (kE (.int 5))) aa))) (vE 7))))
 (aj (aw 11 (aT (a7 (ixE (fN (a7 (kE (.str "down")) (a7 (kE (.str "up")) (a7 (kE (.str "near")) aa)))) (opE aS (ak a8 (a7 (vE 0) (a7 (opE aA (vE 1) (kE (.int 6))) aa))) (kE (.int 3)))) (a7 (vE 10) (a7 (vE 9) (a7 (vE 8) aa))))))
 (aj (aw 12 (ak gG (a7 (vE 0) (a7 (opE aA (vE 1) (kE (.int 8))) (a7 (vE 5) aa)))))
 (aj (aw 13 (fN aa))
 (aj (aw 14 (kE (.int 0)))
 (aj (dU none (dF (opE aS (ak a8 (a7 (vE 0) (a7 (opE aA (vE 1) (kE (.int 7))) aa))) (kE (.int 3)))) (gN 15)
  ff)
 (retS (aT (a7 (vE 2) (a7 (opE aS (ak a8 (a7 (vE 0) (a7 (opE aA (vE 1) (kE (.int 20))) aa))) (bN cw (a7 (vE 3) aa))) (a7 (vE 6) (a7 (vE 11) (a7 (vE 12) (a7 (bN df (a7 (vE 13) aa)) aa))))))))))))))))))
noncomputable def gY:List D->Option D:=cx 17 6 jT
noncomputable def cS:DS:=
 (fO 3 (aT (a7 (ixE (ixE (vE 2) (kE (.int 0))) (vE 4)) (a7 (opE bD (vE 1) (opE aS (ak a8 (a7 (vE 0) (a7 (opE aA (kE (.int 302)) (vE 4)) aa))) (kE (.int 10)))) aa))))
noncomputable def cT:DS:=
 (fO 5 (ak gX (a7 (vE 0) (a7 (opE aA (kE (.int 310)) (opE bD (kE (.int 20)) (vE 4))) (a7 (ixE (ixE (vE 2) (kE (.int 1))) (vE 4)) (a7 (vE 1) aa))))))
noncomputable def cC:DS:=
 (ifS (aB eqB (opE aS (ak a8 (a7 (vE 0) (a7 (opE aA (opE aA (kE (.int 370)) (opE bD (kE (.int 3)) (vE 7))) (vE 8)) aa))) (kE (.int 3))) (kE (.int 0)))
  (aj (aw 9 (opE bD (vE 1) (opE aA (kE (.int 1)) (opE aS (ak a8 (a7 (vE 0) (a7 (opE aA (opE aA (kE (.int 380)) (opE bD (kE (.int 3)) (vE 7))) (vE 8)) aa))) (kE (.int 8))))))
 (OU 6 (opE aS (ak a8 (a7 (vE 0) (a7 (opE aA (opE aA (kE (.int 390)) (opE bD (kE (.int 3)) (vE 7))) (vE 8)) aa))) (opE aA (bN cw (a7 (vE 6) aa)) (kE (.int 1)))) (aT (a7 (vE 7) (a7 (vE 8) (a7 (vE 9) aa))))))
  aF)
noncomputable def cD:DS:=
 (dU none (CY (vE 7) (bN cw (a7 (vE 5) aa))) (gN 8)
  cC)
noncomputable def cU:DS:=
 (fO 10 (ak gY (a7 (vE 0) (a7 (opE aA (kE (.int 400)) (opE bD (kE (.int 25)) (vE 4))) (a7 (ixE (ixE (vE 2) (kE (.int 2))) (vE 4)) (a7 (vE 3) (a7 (vE 5) (a7 (vE 1) aa))))))))
noncomputable def jU:DS:=
 (aj (aw 1 (ak bP (a7 (vE 0) aa)))
 (aj (aw 2 (ixE (fN (a7 (fN (a7 (kE (.str "abc")) (a7 (kE (.str "uvw")) (a7 (kE (.str "klmn")) aa)))) (a7 (fN (a7 (kE (.str "abcd")) (a7 (kE (.str "abcd")) (a7 (kE (.str "abcd")) aa)))) aa))) (bN Bl (a7 (bE (aB eqB (opE aS (ak a8 (a7 (vE 0) (a7 (kE (.int 299)) aa))) (kE (.int 3))) (kE (.int 0)))) aa))))
 (aj (aw 3 (fN aa))
 (aj (dU none (dF (opE aA (kE (.int 1)) (opE aS (ak a8 (a7 (vE 0) (a7 (kE (.int 305)) aa))) (kE (.int 3))))) (gN 4)
  cS)
 (aj (aw 5 (fN aa))
 (aj (dU none (dF (opE aA (kE (.int 1)) (opE aS (ak a8 (a7 (vE 0) (a7 (kE (.int 306)) aa))) (kE (.int 3))))) (gN 4)
  cT)
 (aj (aw 6 (fN aa))
 (aj (dU none (dF (bN cw (a7 (vE 5) aa))) (gN 7)
  cD)
 (aj (aw 10 (fN aa))
 (aj (dU none (dF (opE aA (kE (.int 1)) (opE aS (ak a8 (a7 (vE 0) (a7 (kE (.int 307)) aa))) (kE (.int 4))))) (gN 4)
  cU)
 (retS (aT (a7 (bN df (a7 (vE 3) aa)) (a7 (bN df (a7 (vE 5) aa)) (a7 (bN df (a7 (vE 6) aa)) (a7 (bN df (a7 (vE 10) aa)) aa))))))))))))))))
noncomputable def fL:List D->Option D:=cx 11 1 jU
noncomputable def jg:DS:=
 (aj (aw 4 (ixE (vE 2) (kE (.int 4))))
 (aj (ifS (aB eqB (ixE (vE 4) (kE (.int 0))) (kE (.str "asked")))
  (retS (opE aA (ixE (vE 4) (kE (.int 1))) (opE bD (vE 3) (opE aS (ak a8 (a7 (vE 0) (a7 (vE 1) aa))) (kE (.int 40))))))
  aF)
 (aj (aw 5 (ak a8 (a7 (vE 0) (a7 (opE aA (vE 1) (kE (.int 1))) aa))))
 (aj (aw 6 (opE kP (opE aA (ixE (vE 4) (kE (.int 1))) (opE bD (opE aS (ak a8 (a7 (vE 0) (a7 (vE 1) aa))) (ixE (vE 4) (kE (.int 3)))) (ixE (vE 4) (kE (.int 2))))) (ixE (vE 4) (kE (.int 4)))))
 (aj (aw 6 (opE aA (opE aA (vE 6) (opE bD (vE 3) (opE aS (vE 5) (opE aA (kE (.int 1)) (opE cP (opE aA (ixE (vE 4) (kE (.int 4))) (ixE (vE 4) (kE (.int 5)))) (vE 3)))))) (opE bD (vE 3) (bN Bl (a7 (bE (aB eqB (opE aS (vE 5) (kE (.int 7))) (kE (.int 3)))) aa)))))
 (retS (bN CU (a7 (opE Bh (kE (.int 10)) (kE (.int 9))) (a7 (opE aA (vE 6) (opE bD (opE aS (opE cP (vE 5) (kE (.int 7))) (kE (.int 2))) (bN Bl (a7 (bE (aB gtB (vE 3) (kE (.int 1)))) aa)))) aa)))))))))
noncomputable def cy:List D->Option D:=cx 7 4 jg
noncomputable def jV:DS:=
 (retS (gP (some 0) 1 [] (gr (vE 0)) (gN 0) gQ (aT (a7 (ixE (vE 0) (kE (.int 0))) (a7 (ixE (vE 0) (kE (.int 1))) aa)))))
noncomputable def bH:List D->Option D:=cx 1 1 jV
noncomputable def fP:DS:=
 (ifS (gL (aB eqB (ixE (vE 4) (kE (.int 0))) (vE 1)) (aB leB (ixE (vE 4) (kE (.int 1))) (vE 2)))
  (aw 3 (ixE (vE 4) (kE (.int 2))))
  aF)
noncomputable def jh:DS:=
 (aj (aw 3 (kE .non))
 (aj (dU (some 0) (gr (vE 0)) (gN 4)
  fP)
 (retS (vE 3))))
noncomputable def d7:List D->Option D:=cx 5 3 jh
noncomputable def fg:DS:=
 (aj (aw 3 (opE aA (ixE (ixE (vE 0) (kE (.int 4))) (kE (.int 1))) (opE bD (vE 2) (ixE (ixE (vE 0) (kE (.int 4))) (kE (.int 2))))))
 (ifS (Bi leB leB (opE kP (vE 3) (ixE (ixE (vE 0) (kE (.int 4))) (kE (.int 4)))) (vE 1) (opE aA (vE 3) (ixE (ixE (vE 0) (kE (.int 4))) (kE (.int 5)))))
  (retS (vE 2))
  aF))
noncomputable def kJ:DS:=
 (aj (ifS (aB eqB (ixE (ixE (vE 0) (kE (.int 4))) (kE (.int 0))) (kE (.str "due")))
  (dU none (dF (ixE (ixE (vE 0) (kE (.int 4))) (kE (.int 3)))) (gN 2)
  fg)
  aF)
 (retS (kE .non)))
noncomputable def gc:List D->Option D:=cx 4 2 kJ
noncomputable def fA:DS:=
 (aj (ifS (aB eqB (ixE (vE 0) (kE (.int 0))) (kE (.str "ever")))
  (retS (ixE (vE 0) (kE (.int 1))))
  aF)
 (aj (ifS (aB eqB (ixE (vE 0) (kE (.int 0))) (kE (.str "flat")))
  (retS (ixE (vE 0) (kE (.int 2))))
  aF)
 (aj (ifS (aB jv (vE 1) (kE .non))
  (retS (kE .non))
  aF)
 (retS (opE cP (opE bD (vE 1) (ixE (vE 0) (kE (.int 2)))) (ixE (vE 0) (kE (.int 3))))))))
noncomputable def cV:List D->Option D:=cx 2 2 fA
noncomputable def dw:DS:=
 (ifS (gL (aB eqB (ixE (ixE (ixE (vE 0) (kE (.int 3))) (vE 9)) (kE (.int 1))) (vE 2)) (gL (aB eqB (ixE (ixE (ixE (vE 0) (kE (.int 3))) (vE 9)) (kE (.int 2))) (vE 3)) (aB leB (vE 10) (vE 4))))
  (ifS (orT (aB eqB (ixE (vE 7) (kE (.int 0))) (kE (.str "ever"))) (aB gtB (vE 10) (opE kP (vE 4) (ixE (vE 7) (kE (.int 1))))))
  (aw 8 (opE aA (vE 8) (vE 11)))
  aF)
  aF)
noncomputable def dz:DS:=
 (aj (aw 7 (ixE (ixE (ixE (ixE (vE 0) (kE (.int 1))) (vE 3)) (kE (.int 2))) (vE 6)))
 (aj (aw 8 (kE (.int 0)))
 (aj (dU none (gr (ixE (vE 1) (kE (.int 1)))) (gT [9,10,11])
  dw)
 (aj (aw 12 (ak cV (a7 (vE 7) (a7 (ak d7 (a7 (ixE (vE 1) (kE (.int 0))) (a7 (vE 2) (a7 (vE 4) aa)))) aa))))
 (ifS (gL (aB dR (vE 12) (kE .non)) (aB gtB (vE 8) (vE 12)))
  (fO 5 (aT (a7 (kE (.str "cap")) (a7 (vE 2) (a7 (vE 3) (a7 (vE 6) (a7 (vE 4) (a7 (vE 8) (a7 (vE 12) aa)))))))))
  aF)))))
noncomputable def lQ:DS:=
 (aj (aw 5 (fN aa))
 (aj (dU none (dF (bN cw (a7 (ixE (ixE (ixE (vE 0) (kE (.int 1))) (vE 3)) (kE (.int 2))) aa))) (gN 6)
  dz)
 (retS (vE 5))))
noncomputable def gH:List D->Option D:=cx 13 5 lQ
noncomputable def dA:DS:=
 (ifS (gL (aB Jw (aT (a7 (vE 3) (a7 (vE 2) aa))) (aT (a7 (vE 7) (a7 (vE 6) aa)))) (gL (aB eqB (ixE (ixE (vE 8) (kE (.int 0))) (kE (.int 1))) (ixE (ixE (vE 8) (kE (.int 1))) (kE (.int 1)))) (aB eqB (slE (vE 10) noO (wk (kE (.int 2)))) (vE 9))))
  (ifS (aB ltB (opE kP (vE 7) (vE 3)) (ixE (vE 10) (kE (.int 2))))
  (fO 4 (aT (a7 (kE (.str "gap")) (a7 (vE 2) (a7 (vE 3) (a7 (vE 6) (a7 (vE 7) aa)))))))
  aF)
  aF)
noncomputable def dB:DS:=
 (aj (aw 6 (ixE (vE 5) (kE (.int 0))))
 (aj (aw 7 (ixE (vE 5) (kE (.int 1))))
 (aj (aw 8 (fN (a7 (ixE (ixE (vE 0) (kE (.int 3))) (vE 2)) (a7 (ixE (ixE (vE 0) (kE (.int 3))) (vE 6)) aa))))
 (aj (aw 9 (bN df (a7 (bN sortedS (a7 (fN (a7 (ixE (ixE (vE 8) (kE (.int 0))) (kE (.int 2))) (a7 (ixE (ixE (vE 8) (kE (.int 1))) (kE (.int 2))) aa))) aa)) aa)))
 (dU none (gr (ixE (vE 0) (kE (.int 2)))) (gN 10)
  dA)))))
noncomputable def lR:DS:=
 (aj (aw 4 (fN aa))
 (aj (dU none (gr (ixE (vE 1) (kE (.int 1)))) (gN 5)
  dB)
 (retS (vE 4))))
noncomputable def gI:List D->Option D:=cx 11 4 lR
noncomputable def og:DS:=
 (aj (aw 5 (ixE (ixE (vE 0) (kE (.int 3))) (vE 2)))
 (aj (aw 6 (ixE (ixE (vE 0) (kE (.int 1))) (ixE (vE 5) (kE (.int 2)))))
 (aj (aw 7 (ak gc (a7 (vE 5) (a7 (vE 3) aa))))
 (aj (aw 8 (fN aa))
 (aj (ifS (orT (gL (aB eqB (ixE (ixE (vE 5) (kE (.int 4))) (kE (.int 0))) (kE (.str "due"))) (aB jv (vE 7) (kE .non))) (gL (aB eqB (ixE (ixE (vE 5) (kE (.int 4))) (kE (.int 0))) (kE (.str "asked"))) (aB ltB (vE 3) (ixE (ixE (vE 5) (kE (.int 4))) (kE (.int 1))))))
  (fO 8 (aT (a7 (kE (.str "astray")) (a7 (vE 2) (a7 (vE 3) aa)))))
  aF)
 (aj (ifS (aB gtB (vE 4) (ixE (ixE (vE 5) (kE (.int 3))) (kE (.int 3))))
  (fO 8 (aT (a7 (kE (.str "most")) (a7 (vE 2) (a7 (vE 3) aa)))))
  aF)
 (aj (ifS (orT (aB ltB (vE 4) (kE (.int 1))) (aB gtB (opE aS (vE 4) (ixE (ixE (vE 6) (kE (.int 1))) (kE (.int 0)))) (kE (.int 0))))
  (fO 8 (aT (a7 (kE (.str "part")) (a7 (vE 2) (a7 (vE 3) aa)))))
  aF)
 (aj (ifS (aB ltB (vE 3) (opE aA (ixE (ixE (ixE (vE 0) (kE (.int 0))) (ixE (vE 5) (kE (.int 1)))) (kE (.int 1))) (ixE (vE 6) (kE (.int 3)))))
  (fO 8 (aT (a7 (kE (.str "young")) (a7 (vE 2) (a7 (vE 3) aa)))))
  aF)
 (aj (ifS (gL (aB inB (kE (.str "kilo")) (gP none 1 [] (gr (ixE (vE 6) (kE (.int 2)))) (gN 0) gQ (ixE (vE 0) (kE (.int 0))))) (aB jv (ak d7 (a7 (ixE (vE 1) (kE (.int 0))) (a7 (ixE (vE 5) (kE (.int 1))) (a7 (vE 3) aa)))) (kE .non)))
  (fO 8 (aT (a7 (kE (.str "weight")) (a7 (vE 2) (a7 (vE 3) aa)))))
  aF)
 (aj (aw 9 (gP none 1 [2] (gr (ixE (vE 1) (kE (.int 1)))) (gN 0) (aB eqB (ixE (vE 0) (kE (.int 0))) (vE 1)) (vE 0)))
 (aj (ifS (gL (aB dR (vE 7) (kE .non)) (aB gtB (bN cw (a7 (gP (some 9) 1 [5,7] (gr (vE 9)) (gN 0) (aB eqB (ak gc (a7 (vE 1) (a7 (ixE (vE 0) (kE (.int 1))) aa))) (vE 2)) (vE 0)) aa)) (kE (.int 1))))
  (fO 8 (aT (a7 (kE (.str "twice")) (a7 (vE 2) (a7 (vE 7) aa)))))
  aF)
 (retS (vE 8)))))))))))))
noncomputable def kK:List D->Option D:=cx 10 5 og
noncomputable def cJ:DS:=
 (aj (aw 2 (opE aA (vE 2) (ak kK (a7 (vE 0) (a7 (vE 1) (a7 (vE 3) (a7 (vE 4) (a7 (vE 5) aa))))))))
 (aj (aw 2 (opE aA (vE 2) (ak gH (a7 (vE 0) (a7 (vE 1) (a7 (ixE (ixE (ixE (vE 0) (kE (.int 3))) (vE 3)) (kE (.int 1))) (a7 (ixE (ixE (ixE (vE 0) (kE (.int 3))) (vE 3)) (kE (.int 2))) (a7 (vE 4) aa))))))))
 (aw 2 (opE aA (vE 2) (ak gI (a7 (vE 0) (a7 (vE 1) (a7 (vE 3) (a7 (vE 4) aa)))))))))
noncomputable def jk:DS:=
 (aj (aw 2 (fN aa))
 (aj (dU none (gr (ixE (vE 1) (kE (.int 1)))) (gT [3,4,5])
  cJ)
 (retS (qf (vE 2)))))
noncomputable def aK:List D->Option D:=cx 6 2 jk
noncomputable def lT:DS:=
 (retS (aT (a7 (ixE (vE 0) (kE (.int 0))) (a7 (bN df (a7 (bN sortedS (a7 (opE fH (ixE (vE 0) (kE (.int 1))) (aT (a7 (aT (a7 (vE 1) (a7 (vE 2) (a7 (vE 3) aa)))) aa))) aa)) aa)) aa))))
noncomputable def bc:List D->Option D:=cx 4 4 lT
noncomputable def dC:DS:=
 (aj (aw 6 (opE fH (kE (.int 1000)) (opE bD (kE (.int 7)) (vE 5))))
 (aj (aw 7 (opE aS (ak a8 (a7 (vE 0) (a7 (vE 6) aa))) (bN cw (a7 (ixE (vE 1) (kE (.int 3))) aa))))
 (aj (aw 8 (ixE (ixE (vE 1) (kE (.int 3))) (vE 7)))
 (aj (aw 9 (ak cy (a7 (vE 0) (a7 (opE fH (vE 6) (kE (.int 1))) (a7 (vE 8) (a7 (vE 3) aa))))))
 (aj (aw 10 (ixE (ixE (ixE (ixE (vE 1) (kE (.int 1))) (ixE (vE 8) (kE (.int 2)))) (kE (.int 1))) (kE (.int 0))))
 (aj (aw 11 (opE bD (vE 10) (opE fH (kE (.int 1)) (opE aS (ak a8 (a7 (vE 0) (a7 (opE fH (vE 6) (kE (.int 4))) aa))) (opE cP (ixE (ixE (vE 8) (kE (.int 3))) (kE (.int 3))) (vE 10))))))
 (aj (aw 12 (vE 4))
 (aj (ifS (aB eqB (opE aS (opE cP (ak a8 (a7 (vE 0) (a7 (vE 6) aa))) (kE (.int 8))) (kE (.int 3))) (kE (.int 0)))
  (ifS (aB Bk (aT (a7 (ixE (vE 8) (kE (.int 1))) (a7 (opE bD (opE cP (opE cP (vE 9) (vE 3)) (kE (.int 2))) (vE 3)) aa))) (ak bH (a7 (ixE (vE 4) (kE (.int 0))) aa)))
  (aj (aw 13 (aT (a7 (ixE (vE 8) (kE (.int 1))) (a7 (opE bD (opE cP (opE cP (vE 9) (vE 3)) (kE (.int 2))) (vE 3)) (a7 (opE fH (kE (.int 1)) (opE aS (ak a8 (a7 (vE 0) (a7 (opE fH (vE 6) (kE (.int 3))) aa))) (kE (.int 200)))) aa)))))
 (aw 12 (aT (a7 (bN df (a7 (bN sortedS (a7 (opE fH (ixE (vE 4) (kE (.int 0))) (aT (a7 (vE 13) aa))) aa)) aa)) (a7 (ixE (vE 4) (kE (.int 1))) aa)))))
  aF)
  (ifS (aB Bk (aT (a7 (vE 7) (a7 (vE 9) aa))) (ak bH (a7 (ixE (vE 4) (kE (.int 1))) aa)))
  (aw 12 (ak bc (a7 (vE 4) (a7 (vE 7) (a7 (vE 9) (a7 (vE 11) aa))))))
  aF))
 (ifS (aB eqB (bN cw (a7 (ak aK (a7 (vE 1) (a7 (vE 12) aa))) aa)) (kE (.int 0)))
  (aw 4 (vE 12))
  aF)))))))))
noncomputable def lU:DS:=
 (aj (aw 3 (ak bP (a7 (vE 0) aa)))
 (aj (aw 4 (aT (a7 (aT aa) (a7 (aT aa) aa))))
 (aj (dU none (dF (vE 2)) (gN 5)
  dC)
 (retS (vE 4)))))
noncomputable def lV:List D->Option D:=cx 14 3 lU
noncomputable def Ah:DS:=
 (aj (aw 4 (opE aS (ak a8 (a7 (vE 0) (a7 (opE aA (kE (.int 2000)) (opE bD (kE (.int 5)) (vE 3))) aa))) (bN cw (a7 (ixE (vE 1) (kE (.int 3))) aa))))
 (aj (aw 5 (ak cy (a7 (vE 0) (a7 (opE aA (kE (.int 2001)) (opE bD (kE (.int 5)) (vE 3))) (a7 (ixE (ixE (vE 1) (kE (.int 3))) (vE 4)) (a7 (ak bP (a7 (vE 0) aa)) aa))))))
 (aj (ifS (gL (aB eqB (vE 3) (kE (.int 3))) (aB gtB (bN cw (a7 (ixE (vE 2) (kE (.int 1))) aa)) (kE (.int 0))))
  (M0 (gT [4,5]) (slE (ixE (ixE (vE 2) (kE (.int 1))) (opE aS (ak a8 (a7 (vE 0) (a7 (kE (.int 2040)) aa))) (bN cw (a7 (ixE (vE 2) (kE (.int 1))) aa)))) noO (wk (kE (.int 2)))))
  aF)
 (aj (aw 6 (ixE (ixE (ixE (ixE (vE 1) (kE (.int 1))) (ixE (ixE (ixE (vE 1) (kE (.int 3))) (vE 4)) (kE (.int 2)))) (kE (.int 1))) (kE (.int 0))))
 (aj (aw 7 (ak lP (a7 (vE 1) (a7 (vE 2) (a7 (vE 4) (a7 (vE 5) aa))))))
 (aj (ifS (orT (Ey (qa (bE (Gu "int" (vE 7))))) (qa (bE (Gu "bool" (vE 7)))))
  (retS (kE (.bl false)))
  aF)
 (aj (ifS (orT (aB ltB (vE 7) (kE (.int 0))) (orT (aB gtB (opE aS (vE 7) (vE 6)) (kE (.int 0))) (aB gtB (vE 7) (ixE (ixE (ixE (ixE (vE 1) (kE (.int 3))) (vE 4)) (kE (.int 3))) (kE (.int 3))))))
  (retS (kE (.bl false)))
  aF)
 (aj (aw 8 (bE (aB inB (aT (a7 (vE 4) (a7 (vE 5) aa))) (ak bH (a7 (ixE (vE 2) (kE (.int 1))) aa)))))
 (aj (aw 9 (ak bc (a7 (vE 2) (a7 (vE 4) (a7 (vE 5) (a7 (vE 7) aa))))))
 (aj (ifS (gL (aB gtB (vE 7) (kE (.int 0))) (orT (qa (vE 8)) (aB gtB (bN cw (a7 (ak aK (a7 (vE 1) (a7 (vE 9) aa))) aa)) (kE (.int 0)))))
  (retS (kE (.bl false)))
  aF)
 (aj (aw 10 (ak bc (a7 (vE 2) (a7 (vE 4) (a7 (vE 5) (a7 (opE aA (vE 7) (vE 6)) aa))))))
 (ifS (gL (Ey (qa (vE 8))) (aB eqB (bN cw (a7 (ak aK (a7 (vE 1) (a7 (vE 10) aa))) aa)) (kE (.int 0))))
  (retS (kE (.bl false)))
  aF))))))))))))
noncomputable def HV:DS:=
 (aj (aw 1 (ak fL (a7 (vE 0) aa)))
 (aj (aw 2 (ak lV (a7 (vE 0) (a7 (vE 1) (a7 (kE (.int 9)) aa)))))
 (aj (dU none (dF (kE (.int 4))) (gN 3)
  Ah)
 (retS (kE (.bl true))))))
noncomputable def u0:List D->Option D:=cx 11 1 HV
end Den
namespace Maths
open DL Den PySem
abbrev Os:=Option Slot
noncomputable def qV(ns:List Int)(k:Int):Int:=if ns.length=0 then 0 else ns[(k%ns.length).toNat]?.getD 0
noncomputable def mv(ns:List Int)(k:Int):Int:=(qV ns k%1000003*48271+k*k*7919+1)%65521
noncomputable def mx(ns:List Int)(k:Int):Int:=mv ns k*mv ns k%65519
theorem Lg(ns:List Int)(k:Int):0<=mx ns k/\mx ns k<65519:=⟨GbG _ (by lia),GbC _ (by lia)⟩
theorem mxm(ns:List Int)(k m:Int)(h:0<m):0<=mx ns k%m/\mx ns k%m<m:=⟨GbG _ (by lia),GbC _ h⟩
variable{ns:List Int}
theorem Fm{k:Int}:0<=qV ns k%1000003/\qV ns k%1000003<1000003:=⟨GbG _ (by lia),GbC _ (by lia)⟩
theorem Km{k:Int}(h:0<ns.length):atD ns (k%ns.length)=some (ns[(k%ns.length).toNat]?.getD 0):=by
 unfold atD;have h1:0<=k%(ns.length:Int):=GbG _ (by lia);have h2:k%(ns.length:Int)<ns.length:=GbC _ (by lia);rw[Gaj h1];have h3:(k%(ns.length:Int)).toNat<ns.length:=by lia
 simp[h3]
variable{j:Int}
theorem bf{i:Int}(h: -18446744073709551616<i)(h2:i<18446744073709551616):aZ i j=true:=by
 unfold aZ;rw[GaR];exact .inl (Gaz (by lia))
theorem fX{i:Int}(h: -18446744073709551616<j)(h2:j<18446744073709551616):aZ i j=true:=by
 unfold aZ;rw[GaR];exact .inr (Gaz (by lia))
theorem aG{k:Int}(hk:0<=k)(xD:k<1000000):a8 [.scr ns,.int k]=some (.int (mx ns k)):=by
 have c:=Fm (ns:=ns) (k:=k);have v1:0<=mv ns k:=GbG _ (by lia);have v2:mv ns k<65521:=GbC _ (by lia);have e1:aZ k k=true:=bf (by lia) (by lia);have e2:∀i,aZ i 48271=true:=λi=>fX (by lia) (by lia);have e3:∀i,aZ i 7919=true:=λi=>fX (by lia) (by lia);have e4:aZ (mv ns k) (mv ns k)=true:=bf (by lia) (by lia);unfold a8 jR;by_cases h:0<ns.length
 .have hc:qV ns k=ns[(k%ns.length).toNat]?.getD 0:=by unfold qV;rw[Gai (by lia)]
  have h' :(0:Int)<ns.length:=by lia
  have e5:(ns[(k%↑ns.length).toNat]?.getD 0%1000003*48271+k*k*7919+1)%65521=mv ns k:=by unfold mv;rw[hc]
  simp[h,h',Km h,e1,e2,e3,e5,e4,mx]
 .have hc:qV ns k=0:=by unfold qV;rw[Gaj (by lia)]
  have h' :¬(0:Int)<ns.length:=by lia
  have e5:(k*k*7919+1)%65521=mv ns k:=by unfold mv;rw[hc];simp
  simp[h,h',e1,e2,e3,e5,e4,mx]
theorem jW{p:D->Prop}(hp:∀d,p d->d.imm=true):∀{ds:List D},(∀d∈ds,p d)->aC ds=true
 |[],_=>rfl
 |d::ds,h=>by
  simp[hp d (h d Gak),jW hp λx hx=>h x (Gag _ hx)]
variable{env:DL.Env}{f:DS}
theorem ae{g:DS}{e:DL.Env}(h:f env=some (.nx e)):aj f g env=g e:=by simp[aj,h]
variable{d:D}
theorem DB{g:DS}(h:f env=some (.ret d)):aj f g env=some (.ret d):=by simp[aj,h]
variable{ds:List D}{body:DS}
theorem b6{n np:Nat}(hl:ds.length=np)(h:body (bw n ds)=some (.ret d)):cx n np body ds=some d:=by
 unfold cx;rw[Gaj hl,h];rfl
theorem QV{t:DT}{g:DS}(h:t env=some true):ifS t f g env=f env:=by simp[ifS,h]
theorem bL{i:Int}(h1: -4611686018427387904<=i)(h2:i<4611686018427387904):aY i=true:=by
 unfold aY;rw[Gas];exact⟨Gaz h1,Gaz h2⟩
theorem d8{g:DG}{body:DS}(I:Nat->DL.Env->Prop):∀(ds:List D) (k:Nat) (env:DL.Env),I k env->(∀(i:Nat) d e,ds[i]? =some d->I (k+i) e->∃e1 e2,g d e=some e1/\body e1=some (.nx e2)/\I (k+i+1) e2)->∃e,forL g body ds env=some (.nx e)/\I (k+ds.length) e
 |[],k,env,h,_=> ⟨env,rfl,h⟩
 |d::ds,k,env,h,st=>by
  obtain⟨e1,e2,h1,h2,h3⟩:=st 0 d env rfl h;obtain⟨e,h4,h5⟩:=d8 I ds (k+1) e2 h3 λi d' e' hd hI=>by
   have:=st (i+1) d' e' (by simpa using hd) (by rw[show k+(i+1)=k+1+i by lia];exact hI);rw[show k+(i+1)+1=k+1+i+1 by lia] at this;exact this
  refine⟨e,by simp[forL,h1,h2,h4], ?_⟩;rw[show k+(d::ds).length=k+1+ds.length by simp;lia];exact h5
variable{i:Nat}{lo:Int}
theorem bz{n:Nat}(h:(aJ lo n)[i]? =some d):i<n/\d= .int (lo+i):=by
 unfold aJ at h;rw[Gam] at h;by_cases hi:i<n
 .rw[GdV hi] at h;cases h;exact⟨hi,rfl⟩
 .rw[Gbj (by simp;lia)] at h;cases h
theorem cW{n:Nat}:(aJ lo n).length=n:=by simp[aJ]
theorem gf{α:Type}{g:DG}{t:DT}{f:DE}(zo:α->D)(C:DL.Env->Prop)(p:α->Bool)(r:α->D):∀(xs:List α) (e:DL.Env),C e->
  (∀x∈xs,∀e,C e->∃e',g (zo x) e=some e' /\C e' /\t e' =some (p x)/\(p x=true->∃k,f e' =some ⟨k,r x⟩/\RV.free ⟨k,r x⟩=true))->bX g t f (xs.map zo) e=some ((xs.filter p).map r)
 |[],e,_,_=>rfl
 |d::ds,e,h,st=>by
  obtain⟨e',h1,h2,h3,h4⟩:=st d Gak e h;have ih:=gf zo C p r ds e' h2 λd' hd=>st d' (Gag _ hd);cases q:p d with
  |false=>simp[bX,h1,h3,q,ih]
  |true=>
   obtain⟨k,h5,h6⟩:=h4 q;simp[bX,h1,h3,q,h5,h6,ih]
theorem fB{α:Type}{g:DG}{f:DE}(zo:α->D)(C:DL.Env->Prop)(r:α->D)(xs:List α)(e:DL.Env)(h:C e)
  (st:∀x∈xs,∀e,C e->∃e',g (zo x) e=some e' /\C e' /\∃k,f e' =some ⟨k,r x⟩/\RV.free ⟨k,r x⟩=true):bX g gQ f (xs.map zo) e=some (xs.map r):=by
 have:=gf (g:=g) (t:=gQ) (f:=f) zo C (λ_=>true) r xs e h (λx hx e he=>by
  obtain⟨e',h1,h2,h3⟩:=st x hx e he;exact⟨e',h1,h2,rfl,λ_=>h3⟩)
 rw[List.filter_eq_self.mpr λ_ _=>rfl] at this;exact this
theorem Fp(bs:List Bool):uy (bs.map D.bl)=some bs:=by
 induction bs with
 |nil=>rfl
 |cons b bs ih=>simp[ih]
theorem Fq(bs:List Int):CV (bs.map D.int)=some bs:=by
 induction bs with
 |nil=>rfl
 |cons b bs ih=>simp[ih]
@[simp] theorem Pw(bs:List Bool):anyS [.lst (bs.map D.bl)]=some ⟨.c,.bl (bs.any id)⟩:=by
 simp[anyS,one,jH,Fp]
theorem Cc(n:Nat)(hs:List Int):(hs.map D.int).all (aD n)=true:=by
 induction hs with
 |nil=>rfl
 |cons b bs ih=>simp[ih]
theorem mY(hs:List Int):aC (hs.map D.int)=true:=by
 induction hs with
 |nil=>rfl
 |cons b bs ih=>simp[ih]
inductive Cap where
 |flat (h t:Int)
 |kilo (h t p:Int)
 |ever (t:Int)
noncomputable def aV:Cap->D
 | .flat h t=> .tup [.str "flat",.int h,.int t]
 | .kilo h t p=> .tup [.str "kilo",.int h,.int t,.int p]
 | .ever t=> .tup [.str "ever",.int t]
def l9:Cap->Prop
 | .flat h t=>1<=h/\1<=t/\t<=6200000
 | .kilo h t p=>1<=h/\1<=t/\t<=3100000/\1<=p/\p<=100
 | .ever t=>1<=t/\t<=6200000
theorem qW(c:Cap):(aV c).imm=true:=by cases c<;>simp[aV]
theorem mZ(cs:List Cap):aC (cs.map aV)=true:=by
 induction cs with
 |nil=>rfl
 |cons c cs ih=>
  have:=qW c;simp[this] at ih⊢;exact ih
variable{a b:Int}
theorem Cd{A B:Int}(h0:0<=a)(h1:a<=A)(h2:0<=b)(h3:b<=B):a*b<=A*B:=
 Gee (GdU h1 h2) (Int.mul_le_mul_of_nonneg_left h3 (by lia))
theorem dP(h0:1<=a)(h1:1<=b):1<=a*b:=by
 have:=Int.mul_le_mul h0 h1 (by lia) (by lia);lia
theorem aM(h:d.imm=true):i7 d=⟨.c,d⟩:=by
 unfold i7;have:d.top=false:=by cases d<;>simp[D.imm] at h<;>rfl
 rw[this];rfl
structure cX where
 name:Str
 part:Int
 more:List Int
 ax:List Cap
 young:Int
noncomputable def av(s:cX):D:= .tup [.str s.name,.tup ((s.part::s.more).map .int),.tup (s.ax.map aV),.int s.young]
structure fh(s:cX):Prop where
 p1:1<=s.part
 p2:s.part<=100000
 cl:s.ax.length<=4
 ok:∀c∈s.ax,l9 c
 y0:0<=s.young
theorem fC(s:cX):(av s).imm=true:=by
 have h1:=mZ s.ax;have h2:=mY (s.part::s.more);simp[av] at h2⊢;exact⟨h2,h1⟩
theorem fj{α:Type}{f:α->D}(h:∀a,(f a).imm=true):∀l:List α,aC (l.map f)=true
 |[]=>rfl
 |a::l=>by
  have h1:=h a;have h2:=fj h l;rw[Gay];simp[h1,h2]
noncomputable def trD(t:Int×Int×Int):D:= .tup [.int t.1,.int t.2.1,.int t.2.2]
theorem vh(t:Int×Int×Int):(trD t).imm=true:=by simp[trD]
noncomputable def vk(b:Int×Int×Int):Int×Int:=(b.1,b.2.1)
def iz(n:Int)(bs:List (Int×Int×Int)):Prop:=(∀b∈bs,0<=b.1/\b.1<=b.2.1/\b.2.1<n/\1<=b.2.2)/\(bs.map vk).Nodup
def jX(i j:Int)(bs:List (Int×Int×Int)):Prop:=∀b∈bs,b.1<i\/(b.1=i/\b.2.1<j)
theorem Fs{α β:Type}(f:α->β)(xs:List α)(i:Int)(y:α):(fG xs i y).map f=fG (xs.map f) i (f y):=by
 unfold fG;simp[GaC,List.map_take,List.map_drop]
inductive si where
 |asked (b:Int)
 |due (b e m ea la:Int)
noncomputable def cY:si->D
 | .asked b=> .tup [.str "asked",.int b]
 | .due b e m ea la=> .tup [.str "due",.int b,.int e,.int m,.int ea,.int la]
def jm:si->Prop
 | .asked b=>0<=b
 | .due b e m ea la=>1<=e/\e<=12000000/\(1<=m/\m<=60)/\0<=ea/\0<=la/\ea+la<e/\ea<=b/\b<=30000000
theorem u3(u:si):(cY u).imm=true:=by cases u<;>simp[cY]
structure Order where
 name:Str
 ar:Int
 aq:Int
 way:Str
 top:Int
 per:Int
 most:Int
 b5:si
 CB:List D
noncomputable def af(o:Order):D:= .tup [.str o.name,.int o.ar,.int o.aq,.tup [.str o.way,.int o.top,.int o.per,.int o.most],cY o.b5,.tup o.CB]
structure n4(ng TB:Nat)(o:Order):Prop where
 g0:0<=o.ar
 g1:o.ar<ng
 s0:0<=o.aq
 s1:o.aq<TB
 du:jm o.b5
 ti:aC o.CB=true
theorem cj(o:Order)(h:aC o.CB=true):(af o).imm=true:=by
 have:=u3 o.b5;simp[af,this,h]
structure World where
 b7:List (Str×Int)
 ai:List cX
 aQ:List (Int×Int×Int)
 orders:List Order
noncomputable def aN(g:Str×Int):D:= .tup [.str g.1,.int g.2]
noncomputable def az(w:World):D:= .tup [.tup (w.b7.map aN),.tup (w.ai.map av),.tup (w.aQ.map trD),.tup (w.orders.map af)]
structure aH(w:World):Prop where
 g1:1<=w.b7.length
 g6:w.b7.length<=6
 s1:1<=w.ai.length
 s6:w.ai.length<=6
 so:∀s∈w.ai,fh s
 b12:w.aQ.length<=12
 bo:iz w.ai.length w.aQ
 o1:1<=w.orders.length
 o12:w.orders.length<=12
 oo:∀o∈w.orders,n4 w.b7.length w.ai.length o
theorem qX(g:Str×Int):(aN g).imm=true:=by simp[aN]
abbrev Tr:=Int×Int×Int
noncomputable def kvT(ts:List Tr):List (List Key×D):=ts.map λt=>([Sum.inl t.1,Sum.inl t.2.1],D.int t.2.2)
theorem u4(ts:List Tr):cN (kvT ts)=ts.map λt=>D.tup [.tup [.int t.1,.int t.2.1],.int t.2.2]:=by
 unfold cN kvT;rw[GaS]
 rfl
theorem Kn(ts:List Tr):keysOk (ts.map trD)=true:=by
 have h1:(ts.map trD).all (kS 1)=true:=by
  rw[Gbp,Gao];intro p _;simp[trD,kS,tyD,kR]
 have h2:((ts.map trD).all λx=>(ts.map trD).all λy=>wm x y)=true:=by
  rw[Gbp,Gao];intro p _;simp only[GbN];rw[Gbp,Gao];intro q _;simp[trD,wm,kY,tyD,aR]
 unfold keysOk;rw[h1,h2];simp
noncomputable def MF:D->Tr
 | .tup [.int a,.int b,.int c]=>(a,b,c)
 |_=>(0,0,0)
theorem bJ(ts:List Tr):aC (ts.map trD)=true:=fj vh ts
def bC(n:Nat)(gv:List Tr):Prop:=∀t∈gv,0<=t.1/\t.1<n
noncomputable def d9:Option Int->D
 |some k=> .int k
 |none=> .non
@[simp] theorem Ft{k:Int}:d9 (some k)= .int k:=rfl
@[simp] theorem u5:d9 none= .non:=rfl
theorem cK(o:Option Int):(d9 o).imm=true:=by cases o<;>rfl
noncomputable def pe(b e m ea la h:Int):Option Int:=
 if(0<=(h -(b -ea))/e/\(h -(b -ea))/e<m)/\h -(b -ea)-(h -(b -ea))/e*e<=ea+la then some ((h -(b -ea))/e) else none
noncomputable def cq:si->Int->Option Int
 | .asked _,_=>none
 | .due b e m ea la,h=>pe b e m ea la h
variable{h:Int}{o:Order}
theorem oN(ok:jm o.b5):gC [af o,.int h]=some (d9 (cq o.b5 h)):=by
 obtain⟨name,g,st,way,top,per,most,u,ts⟩:=o;unfold af;cases u with
 |asked b=>
  unfold gC mW cY cq;simp
 |due b e m ea la=>
  obtain⟨e1,e2,hm,a0,l0,al,ab,b3⟩:=ok;have p1:∀i,aZ i e=true:=λi=>fX (by lia) (by lia);have p2:0<e/\e<1073741824:=by lia
  unfold gC mW cY cq pe;simp[p1,p2];generalize hk:(h -(b -ea))/e=k;by_cases c1:0<=k
  .by_cases c2:k<m
   .by_cases c3:h -(b -ea)-k*e<=ea+la
    .have c4:¬ea+la<h -(b -ea)-k*e:=by lia
     simp[c1,c2,c3,c4]
    .have c4:ea+la<h -(b -ea)-k*e:=by lia
     simp[c1,c2,c3,c4]
   .simp[c1,c2]
  .simp[c1]
noncomputable def bh:si->Int->Bool
 | .asked b,h=>decide (h<b)
 | .due b e m ea la,h=>(pe b e m ea la h).isNone
theorem Ai(ok:jm o.b5):jP [af o,.int h]=some (.bl (bh o.b5 h)):=by
 have d:=oN (h:=h) ok;obtain⟨name,g,st,way,top,per,most,u,ts⟩:=o;unfold af at d⊢;cases u with
 |asked b=>
  unfold jP mX cY bh;simp
 |due b e m ea la=>
  unfold cq at d;unfold jP mX bh;unfold cY at d⊢;have rv:=aM (cK (pe b e m ea la h));simp[d,rv];cases pe b e m ea la h<;>simp[jv,bF]
noncomputable def wgt(g h:Int):List Tr->Option Int->Option Int
 |[],f=>f
 |t::ts,f=>wgt g h ts (if t.1=g/\t.2.1<=h then some t.2.2 else f)
theorem jY{body:DS}{wd:D}{g h:Int}(st:∀(t:Tr) (f:Option Int),body [some (.sh wd),some (.sh (.int g)),some (.sh (.int h)),some (.sh (d9 f)),some (.sh (trD t))]=some (.nx [some (.sh wd),some (.sh (.int g)),some (.sh (.int h)),some (.sh (d9 (if t.1=g/\t.2.1<=h then some t.2.2 else f))),some (.sh (trD t))])):
  ∀(ts:List Tr) (f:Option Int) (x4:Os),∃y4,forL (gN 4) body (ts.map trD) [some (.sh wd),some (.sh (.int g)),some (.sh (.int h)),some (.sh (d9 f)),x4]=some (.nx [some (.sh wd),some (.sh (.int g)),some (.sh (.int h)),some (.sh (d9 (wgt g h ts f))),y4])
 |[],f,x4=> ⟨x4,by simp[wgt]⟩
 |t::ts,f,x4=>by
  obtain⟨y4,e⟩:=jY st ts (if t.1=g/\t.2.1<=h then some t.2.2 else f) (some (.sh (trD t)));refine⟨y4, ?_⟩;have e1:=st t f;rw[Gay];show forL (gN 4) body (trD t::ts.map trD) _=_;generalize trD t=td at*;simp only[forL,gN,GaM,GaN,Option.bind_some,e1];exact e
variable{g:Int}{ws:List Tr}
theorem jZ:fJ [.tup (ws.map trD),.int g,.int h]=some (d9 (wgt g h ws none)):=by
 obtain⟨y4,e⟩:=jY (body:=gD) (wd:= .tup (ws.map trD)) (g:=g) (h:=h) (λt f=>by
  unfold gD trD;by_cases c1:t.1=g
  .by_cases c2:t.2.1<=h
   .simp[c1,c2,eqB]
   .simp[c1,c2,eqB]
  .simp[c1,eqB]) ws none none
 rw[u5] at e;have im:=cK (wgt g h ws none);refine b6 rfl ?_;unfold jQ;generalize d9 (wgt g h ws none)=r at*;generalize ws.map trD=W at*;refine(ae (by simp[bw];rfl)).trans ?_;refine(ae (by simp[-forL,e];rfl)).trans ?_;simp[im]
noncomputable def cu:Cap->Option Int->Option Int
 | .ever t,_=>some t
 | .flat _ t,_=>some t
 | .kilo _ t p,w=>w.map λw=>w*t/p
variable{c:Cap}
theorem Ce{w:Option Int}(ok:l9 c):gW [aV c,d9 w]=some (d9 (cu c w)):=by
 cases c with
 |ever t=>unfold gW kD aV cu;simp
 |flat h t=>unfold gW kD aV cu;simp
 |kilo h t p=>
  obtain⟨h1,t1,t2,p1,p2⟩:=ok;cases w with
  |none=>unfold gW kD aV cu;simp[jv,bF]
  |some w=>
   have mm:aZ w t=true:=fX (by lia) (by lia);have pp:0<p/\p<1073741824:=by lia
   unfold gW kD aV cu;simp[jv,bF,mm,pp]
noncomputable def bA:Cap->Bool
 | .kilo _ _ _=>true
 |_=>false
theorem Fu{s:cX}(hc:s.ax.length<=4):d5 [av s]=some (.bl (s.ax.any bA)):=by
 have c:=fB (g:=gN 0) (f:=bE (aB eqB (ixE (vE 0) (kE (.int 0))) (kE (.str "kilo")))) aV (λenv=>∃y,env=[y]) (λc=> .bl (bA c)) s.ax [none] ⟨none,rfl⟩ (by
  rintro c hc env ⟨y,rfl⟩;refine⟨_,rfl,⟨_,rfl⟩,.c, ?_,rfl⟩;cases c<;>simp[aV,bA,eqB])
 have z:(s.ax.map aV).length<=16777216:=by rw[Gad];lia
 have e2:s.ax.map (λc=>D.bl (bA c))=(s.ax.map bA).map D.bl:=by rw[GaS];rfl
 rw[e2] at c;have an:((s.ax.map bA).any id)=s.ax.any bA:=by rw[GdT];rfl
 unfold d5 fw av;generalize s.ax.map aV=C at*;rw[<-an];generalize s.ax.map bA=bs at*;simp[-bX,a9,DL.compEnv,d0,c,z]
theorem js:d7 [.tup (ws.map trD),.int g,.int h]=some (d9 (wgt g h ws none)):=by
 obtain⟨y4,e⟩:=jY (body:=fP) (wd:= .tup (ws.map trD)) (g:=g) (h:=h) (λt f=>by
  unfold fP trD;by_cases c1:t.1=g
  .by_cases c2:t.2.1<=h
   .simp[c1,c2,eqB]
   .simp[c1,c2,eqB]
  .simp[c1,eqB]) ws none none
 rw[u5] at e;have im:=cK (wgt g h ws none);refine b6 rfl ?_;unfold jh;generalize d9 (wgt g h ws none)=r at*;generalize ws.map trD=W at*;refine(ae (by simp[bw];rfl)).trans ?_;refine(ae (by simp[-forL,e];rfl)).trans ?_;simp[im]
abbrev Flt:=Str×List Int
noncomputable def ah(f:Flt):D:= .tup (.str f.1::f.2.map .int)
noncomputable def kk(b:Bool)(x:Str):List Str:=if b then[x] else[]
variable{e0 e1 e2 e3 e4 e5 e6 e7:Os}{x:Str}
theorem n5{L:List Str}{b:Bool}{t:DT}(ht:t [e0,e1,e2,e3,e4,e5,e6,e7,some (.own (.lst (L.map .str)))]=some b)(hl:L.length<1000):
  ifS t (fO 8 (kE (.str x))) aF [e0,e1,e2,e3,e4,e5,e6,e7,some (.own (.lst (L.map .str)))]=some (.nx [e0,e1,e2,e3,e4,e5,e6,e7,some (.own (.lst ((L++kk b x).map .str)))]):=by
 have z:(L.map D.str).length<16777216:=by rw[Gad];lia
 have e:(L++kk b x).map D.str=L.map D.str++(kk b x).map D.str:=by rw[GaC]
 rw[e];cases b with
 |true=>
  generalize L.map D.str=M at*;simp[ht,kk,a9,z]
 |false=>
  generalize L.map D.str=M at*;simp[ht,kk]
noncomputable def k7(o:Order)(s:cX)(zp:Int)(ws:List Tr)(t:Tr):List Str:=
 kk (bh o.b5 t.2.1) "astray"++kk (decide (o.most<t.2.2)) "most"++kk (decide (t.2.2<1)||decide (¬t.2.2%s.part=0)) "part"++kk (s.ax.any bA&&(wgt o.ar t.2.1 ws none).isNone) "weight"++kk (decide (t.2.1<zp+s.young)) "young"
theorem cz(b:Bool)(x:Str):(kk b x).length<=1:=by cases b<;>simp[kk]
variable{n:Int}
theorem Fv{K:List Str}:bX (gN 0) gQ (aT (a7 (vE 0) (a7 (vE 1) (a7 (vE 2) aa)))) (K.map .str) [none,some (.sh (.int n)),some (.sh (.int h))]=some (K.map λk=>ah (k,[n,h])):=by
 refine fB (g:=gN 0) D.str (λenv=>∃y,env=[y,some (.sh (.int n)),some (.sh (.int h))]) (λk=>ah (k,[n,h])) K _ ⟨none,rfl⟩ ?_;rintro k hk env ⟨y,rfl⟩;refine⟨_,rfl,⟨_,rfl⟩,.c, ?_,rfl⟩;simp[a9,ah]
theorem cZ(fs:List Flt):aC (fs.map ah)=true:=fj (λf=>by
 have:=mY f.2;simp[ah,this]) fs
variable{gu:Str×Int}{A B C O:List D}
theorem MG{s:cX}{t:Tr}(hO:atD O t.1=some (af o))(du:jm o.b5)(hS:atD B o.aq=some (av s))(so:fh s)(hG:atD A o.ar=some (aN gu))(im:(af o).imm=true):
  dq [.tup [.tup A,.tup B,.tup C,.tup O],.tup (ws.map trD),trD t]=some (.lst ((k7 o s gu.2 ws t).map λk=>ah (k,[t.1,t.2.1]))):=by
 have ea:=Ai (h:=t.2.1) du;have eg:=Fu (s:=s) so.cl;have ew:=jZ (ws:=ws) (g:=o.ar) (h:=t.2.1);have sp:=so.p1;have is:=fC s;obtain⟨n,h,a⟩:=t;dsimp only at*;have xB :=aM (cK (wgt o.ar h ws none));generalize hW:ws.map trD=W at*;have p1:ixD (af o) (.int 3)=some (.tup [.str o.way,.int o.top,.int o.per,.int o.most]):=rfl;have p2:ixD (af o) (.int 1)=some (.int o.ar):=rfl;have p3:ixD (af o) (.int 2)=some (.int o.aq):=rfl;have p4:ixD (av s) (.int 1)=some (.tup (.int s.part::s.more.map .int)):=rfl;have p5:ixD (av s) (.int 3)=some (.int s.young):=rfl;have p6:ixD (aN gu) (.int 1)=some (.int gu.2):=rfl;generalize af o=OD at*;generalize av s=SD at*;generalize aN gu=GD at*;have zE :0<s.part:=by lia
 refine b6 rfl ?_;unfold iq trD;refine(ae (by simp[bw];rfl)).trans ?_;refine(ae (e:=[some (.sh (.tup [.tup A,.tup B,.tup C,.tup O])),some (.sh (.tup W)),some (.sh (.tup [.int n,.int h,.int a])),some (.sh (.int n)),some (.sh (.int h)),none,none,none,none]) (by simp)).trans ?_;refine(ae (e:=[some (.sh (.tup [.tup A,.tup B,.tup C,.tup O])),some (.sh (.tup W)),some (.sh (.tup [.int n,.int h,.int a])),some (.sh (.int n)),some (.sh (.int h)),some (.sh (.int a)),none,none,none]) (by simp)).trans ?_;refine(ae (by simp[hO,im];rfl)).trans ?_;refine(ae (by simp[p3,hS,is];rfl)).trans ?_;refine(ae (e:=[some (.sh (.tup [.tup A,.tup B,.tup C,.tup O])),some (.sh (.tup W)),some (.sh (.tup [.int n,.int h,.int a])),some (.sh (.int n)),some (.sh (.int h)),some (.sh (.int a)),some (.sh OD),some (.sh SD),some (.own (.lst (([]:List Str).map .str)))]) (by simp[a9])).trans ?_;refine(ae (n5 (b:=bh o.b5 h) (by simp[ea]) (by simp))).trans ?_;refine(ae (n5 (b:=decide (o.most<a)) (by simp[p1]) (by have:=cz (bh o.b5 h) "astray";simp;lia))).trans ?_;refine(ae (n5 (b:=decide (a<1)||decide (¬a%s.part=0)) ?_ (by have:=cz (bh o.b5 h) "astray";have:=cz (decide (o.most<a)) "most";simp;lia))).trans ?_
 .by_cases c:a<1
  .simp[c]
  .by_cases c2:a%s.part=0
   .simp[c,p4,zE,neB,c2]
   .simp[c,p4,zE,neB,c2]
 refine(ae (n5 (b:=s.ax.any bA&&(wgt o.ar h ws none).isNone) ?_ (by have:=cz (bh o.b5 h) "astray";have:=cz (decide (o.most<a)) "most";have:=cz (decide (a<1)||decide (¬a%s.part=0)) "part";simp only[Gah,GaU];lia))).trans ?_
 .generalize s.ax.any bA=bk at*;cases bk with
  |false=>simp[eg]
  |true=>
   simp[eg,p2,ew,xB];cases wgt o.ar h ws none<;>simp[jv,bF]
 refine(ae (n5 (b:=decide (h<gu.2+s.young)) (by simp[p2,hG,p6,p5]) (by have:=cz (bh o.b5 h) "astray";have:=cz (decide (o.most<a)) "most";have:=cz (decide (a<1)||decide (¬a%s.part=0)) "part";have:=cz (s.ax.any bA&&(wgt o.ar h ws none).isNone) "weight";simp only[Gah,GaU];lia))).trans ?_;have cm:=Fv (K:=[]++kk (bh o.b5 h) "astray"++kk (decide (o.most<a)) "most"++kk (decide (a<1)||decide (¬a%s.part=0)) "part"++kk (s.ax.any bA&&(wgt o.ar h ws none).isNone) "weight"++kk (decide (h<gu.2+s.young)) "young") (n:=n) (h:=h);have hK:[]++kk (bh o.b5 h) "astray"++kk (decide (o.most<a)) "most"++kk (decide (a<1)||decide (¬a%s.part=0)) "part"++kk (s.ax.any bA&&(wgt o.ar h ws none).isNone) "weight"++kk (decide (h<gu.2+s.young)) "young"=k7 o s gu.2 ws (n,h,a):=by
  unfold k7;rw[GbB]
 have eK:([]++kk (bh o.b5 h) "astray"++kk (decide (o.most<a)) "most"++kk (decide (a<1)||decide (¬a%s.part=0)) "part"++kk (s.ax.any bA&&(wgt o.ar h ws none).isNone) "weight"++kk (decide (h<gu.2+s.young)) "young").length<=5:=by
  have:=cz (bh o.b5 h) "astray";have:=cz (decide (o.most<a)) "most";have:=cz (decide (a<1)||decide (¬a%s.part=0)) "part";have:=cz (s.ax.any bA&&(wgt o.ar h ws none).isNone) "weight";have:=cz (decide (h<gu.2+s.young)) "young"
  simp only[Gah,GaU];lia
 rw[hK] at cm eK⊢;have fi:=cZ ((k7 o s gu.2 ws (n,h,a)).map λk=>(k,[n,h]));rw[GaS] at fi;have fi' :aC ((k7 o s gu.2 ws (n,h,a)).map λk=>ah (k,[n,h]))=true:=fi;generalize k7 o s gu.2 ws (n,h,a)=KL at*;have z:(KL.map D.str).length<=16777216:=by rw[Gad];lia
 generalize KL.map D.str=M at*;generalize (KL.map λk=>ah (k,[n,h]))=R at*;simp[-bX,a9,DL.compEnv,d0,cm,z,fi']
noncomputable def atT(o h:Int)(t:Tr):Bool:=decide (t.1=o/\t.2.1=h)
noncomputable def lW(ts:List Tr)(o h v:Int):List Tr:=if ts.any (atT o h) then ts.map (λt=>if atT o h t then(o,h,v) else t) else ts++[(o,h,v)]
noncomputable def fY(ts:List Tr)(o h:Int):Int:=((ts.find? (atT o h)).map (·.2.2)).getD 0
theorem vn(o h:Int)(t:Tr):decide (([Sum.inl t.1,Sum.inl t.2.1]:List Key)=[Sum.inl o,Sum.inl h])=atT o h t:=by
 unfold atT;rw[decide_eq_decide];simp
theorem lX(ts:List Tr)(o h v:Int):DL.put (kvT ts) [Sum.inl o,Sum.inl h] (.int v)=kvT (lW ts o h v):=by
 unfold DL.put lW kvT;have e:((ts.map λt=>(([Sum.inl t.1,Sum.inl t.2.1]:List Key),D.int t.2.2)).any λkv=>decide (kv.1=[Sum.inl o,Sum.inl h]))=ts.any (atT o h):=by
  rw[GdT];congr 1
  funext t
  exact vn o h t
 rw[e];cases ts.any (atT o h) with
 |true=>
  simp only[Gca];rw[GaS,GaS];refine GaP λt _=> ?_;simp only[Function.comp];have k:=vn o h t;by_cases c:t.1=o/\t.2.1=h
  .have e1:([Sum.inl t.1,Sum.inl t.2.1]:List Key)=[Sum.inl o,Sum.inl h]:=by rw[c.1,c.2]
   have e2:atT o h t=true:=Gaz c;rw[Gaj e1,Gaj e2,c.1,c.2]
  .have e1:¬([Sum.inl t.1,Sum.inl t.2.1]:List Key)=[Sum.inl o,Sum.inl h]:=λz=>by simp at z;exact c z
   have e2:¬atT o h t=true:=λz=>c (Gaq z);rw[Gai e1,Gai e2]
 |false=>simp
theorem Aj(ts:List Tr)(o h:Int):look (kvT ts) [Sum.inl o,Sum.inl h]=(ts.find? (atT o h)).map λt=>D.int t.2.2:=by
 unfold look kvT;rw[List.find?_map];have e:((λkv:List Key×D=>decide (kv.1=[Sum.inl o,Sum.inl h]))∘λt:Tr=>(([Sum.inl t.1,Sum.inl t.2.1]:List Key),D.int t.2.2))=atT o h:=by
  funext t
  exact vn o h t
 rw[e];cases ts.find? (atT o h)<;>rfl
theorem n6(ts:List Tr)(o h v:Int):(lW ts o h v).length<=ts.length+1:=by
 unfold lW;split<;>simp
noncomputable def twU(ts:List Tr)(n:Int):Option Int->List Tr
 |some k=>lW ts n k (fY ts n k+1)
 |none=>ts
noncomputable def aX(os:List Order)(ts:List Tr)(g:Tr):List Tr:=twU ts g.1 ((os[g.1.toNat]?).bind λo=>cq o.b5 g.2.1)
theorem vo(ts:List Tr)(n:Int)(u:Option Int):(twU ts n u).length<=ts.length+1:=by
 cases u with
 |none=>exact GbU _
 |some k=>exact n6 _ _ _ _
variable{ts:List Tr}
theorem MH{o k:Int}{e3:Os}{n:Int}:Ju (vE 2) (aT (a7 (ixE (vE 3) (kE (.int 0))) (a7 (vE 4) aa))) (kE (.int 0)) [e0,e1,some (.own (.dT (kvT ts))),some (.sh (.tup [.int o,.int h,.int a])),some (.sh (.int k))]=some ⟨.c,.int (fY ts o k)⟩:=by
 have l:=Aj ts o k;unfold fY;generalize kvT ts=kv at*;cases hf:ts.find? (atT o k) with
 |none=>
  rw[hf] at l;simp at l;simp[l,keyOf,a9]
 |some t=>
  rw[hf] at l;simp at l;simp[l,keyOf,a9]
variable{x4:Os}{G:List D}{OD:D}
theorem Px{k:Int}{u:Option Int}(hO:atD O n=some OD)(im:OD.imm=true)(ed:gC [OD,.int h]=some (d9 u))(hz:(kvT ts).length<1000):
  bI [some (.sh (.tup [.tup A,.tup B,.tup C,.tup O])),some (.sh (.tup G)),some (.own (.dT (kvT ts))),some (.sh (.tup [.int n,.int h,.int a])),x4]=
   some (.nx [some (.sh (.tup [.tup A,.tup B,.tup C,.tup O])),some (.sh (.tup G)),some (.own (.dT (kvT (twU ts n u)))),some (.sh (.tup [.int n,.int h,.int a])),some (.sh (d9 u))]):=by
 have z:(kvT ts).length<16777216:=by lia
 have ru:=aM (cK u);unfold bI;refine(ae (by simp[hO,ed,ru];rfl)).trans ?_;cases u with
 |none=>simp[dR,bF,twU]
 |some k=>
  have g:=MH (ts:=ts) (o:=n) (k:=k) (e0:=some (.sh (.tup [.tup A,.tup B,.tup C,.tup O]))) (e1:=some (.sh (.tup G))) (e3:=none) (n:=0) (h:=h) (a:=a);have p:=lX ts n k (fY ts n k+1);rw[Ft];refine(QV (by simp[dR,bF])).trans ?_;unfold twU;rw[<-p];generalize fY ts n k=gv at*;generalize kvT ts=kv at*;unfold Gv opE;rw[g];simp[putD,keyOf,z,a9]
theorem DC{w:World}(W:aH w){A B C G:List D}:∀(gv:List Tr) (ts:List Tr) (x3 x4:Os),bC w.orders.length gv->ts.length+gv.length<1000->∃y3 y4,forL (gN 3) bI (gv.map trD) [some (.sh (.tup [.tup A,.tup B,.tup C,.tup (w.orders.map af)])),some (.sh (.tup G)),some (.own (.dT (kvT ts))),x3,x4]=
  some (.nx [some (.sh (.tup [.tup A,.tup B,.tup C,.tup (w.orders.map af)])),some (.sh (.tup G)),some (.own (.dT (kvT (gv.foldl (aX w.orders) ts)))),y3,y4])
 |[],ts,x3,x4,_,_=> ⟨x3,x4,by simp⟩
 |g::gv,ts,x3,x4,hg,hl=>by
  have g0:=hg g Gak;obtain⟨n,hn⟩:=GaG g0.1;have hJ :n<w.orders.length:=by lia
  have hO:atD (w.orders.map af) g.1=some (af w.orders[n]):=by
   rw[hn,bU,Gam,Gab hJ];rfl
  have ok:=W.oo w.orders[n] (GaF hJ);have ed:=oN (h:=g.2.1) ok.du;have hz:(kvT ts).length<1000:=by unfold kvT;rw[Gad];simp at hl;lia
  have ev:=Px (A:=A) (B:=B) (C:=C) (G:=G) (ts:=ts) (n:=g.1) (h:=g.2.1) (a:=g.2.2) (k:=0) (x4:=x4) hO (cj _ ok.ti) ed hz;have es:twU ts g.1 (cq w.orders[n].b5 g.2.1)=aX w.orders ts g:=by
   unfold aX;rw[hn,GaI,Gab hJ]
   rfl
  rw[es] at ev;have ln:(aX w.orders ts g).length<=ts.length+1:=by
   rw[<-es];exact vo _ _ _
  obtain⟨y3,y4,e⟩:=DC W (A:=A) (B:=B) (C:=C) (G:=G) gv (aX w.orders ts g) (some (.sh (trD g))) (some (.sh (d9 (cq w.orders[n].b5 g.2.1)))) (λt ht=>hg t (Gag _ ht)) (by simp at hl;lia);refine⟨y3,y4, ?_⟩;rw[Gay,GbH];have Rt :bI [some (.sh (.tup [.tup A,.tup B,.tup C,.tup (w.orders.map af)])),some (.sh (.tup G)),some (.own (.dT (kvT ts))),some (.sh (trD g)),x4]=_:=ev;have td:D.tup [.int g.1,.int g.2.1,.int g.2.2]=trD g:=rfl;rw[td] at Rt;generalize trD g=d at*;simp only[forL,gN,GaM,GaN,Option.bind_some,Rt];exact e
noncomputable def twF(ts:List Tr):List Flt:=(ts.filter λt=>decide (1<t.2.2)).map λt=>("twice",[t.1,t.2.1])
theorem Ko(ts:List Tr):bX (gT [0,1]) (aB gtB (vE 1) (kE (.int 1))) (aT (a7 (kE (.str "twice")) (a7 (ixE (vE 0) (kE (.int 0))) (a7 (ixE (vE 0) (kE (.int 1))) aa)))) (cN (kvT ts)) [none,none]=some ((twF ts).map ah):=by
 rw[u4];unfold twF;rw[GaS];refine gf (g:=gT [0,1]) (λt:Tr=>D.tup [.tup [.int t.1,.int t.2.1],.int t.2.2]) (λenv=>∃y z,env=[y,z]) (λt=>decide (1<t.2.2)) (ah∘λt:Tr=>("twice",[t.1,t.2.1])) ts _ ⟨none,none,rfl⟩ ?_;rintro t ht env ⟨y,z,rfl⟩;refine⟨[some (.sh (.tup [.int t.1,.int t.2.1])),some (.sh (.int t.2.2))],by simp,⟨_,_,rfl⟩,by simp,λ_=> ⟨.c, ?_,rfl⟩⟩;simp[a9,ah]
variable{y3 y4:Os}{kv:List (List Key×D)}{R:List D}{wd:D}
theorem MI(h1:forL (gN 3) bI G [some (.sh wd),some (.sh (.tup G)),some (.own (.dT [])),none,none]=some (.nx [some (.sh wd),some (.sh (.tup G)),some (.own (.dT kv)),y3,y4]))(hz:(cN kv).length<=16777216)
  (hc:bX (gT [0,1]) (aB gtB (vE 1) (kE (.int 1))) (aT (a7 (kE (.str "twice")) (a7 (ixE (vE 0) (kE (.int 0))) (a7 (ixE (vE 0) (kE (.int 1))) aa)))) (cN kv) [none,none]=some R)(im:aC R=true):cQ [wd,.tup G]=some (.lst R):=by
 refine b6 rfl ?_;unfold gE;refine(ae (by simp[bw];rfl)).trans ?_;refine(ae (by simp[-forL,h1];rfl)).trans ?_;simp[-bX,a9,DL.compEnv,d0,hz,hc,im]
variable{gv:List Tr}{w:World}
theorem Kp(W:aH w)(hg:bC w.orders.length gv)(hl:gv.length<64):cQ [az w,.tup (gv.map trD)]=some (.lst ((twF (gv.foldl (aX w.orders) [])).map ah))/\(gv.foldl (aX w.orders) []).length<64:=by
 have ln:∀(gv ts:List Tr),(gv.foldl (aX w.orders) ts).length<=ts.length+gv.length:=by
  intro gv;induction gv with
  |nil=>intro ts;simp
  |cons g gv ih=>
   intro ts;rw[GbH];have h1:=ih (aX w.orders ts g);have h2:(aX w.orders ts g).length<=ts.length+1:=by
    exact vo _ _ _
   rw[GaE];lia
 have l2:=ln gv [];simp only[GaU,Gbc] at l2;obtain⟨y3,y4,e⟩:=DC W (A:=w.b7.map aN) (B:=w.ai.map av) (C:=w.aQ.map trD) (G:=gv.map trD) gv [] none none hg (by simp;lia);have hz:(cN (kvT (gv.foldl (aX w.orders) []))).length<=16777216:=by rw[u4,Gad];lia
 exact⟨MI e hz (Ko _) (cZ _),by lia⟩
noncomputable def aL(ts:List Tr)(b:Tr):List Tr:=lW (lW ts b.1 b.2.1 b.2.2) b.2.1 b.1 b.2.2
theorem MJ{b:Tr}(hz:ts.length<1000):cA [some (.sh (.tup B)),some (.own (.dT (kvT ts))),some (.sh (trD b))]=some (.nx [some (.sh (.tup B)),some (.own (.dT (kvT (aL ts b)))),some (.sh (trD b))]):=by
 obtain⟨x,y,v⟩:=b;have p1:=lX ts x y v;have p2:=lX (lW ts x y v) y x v;have l1:=n6 ts x y v;have z1:(kvT ts).length<16777216:=by unfold kvT;rw[Gad];lia
 have z2:(kvT (lW ts x y v)).length<16777216:=by unfold kvT;rw[Gad];lia
 unfold cA aL trD;dsimp only;rw[<-p2];generalize hk:kvT (lW ts x y v)=k1 at*;generalize kvT ts=k0 at*;refine(ae (by simp[putD,keyOf,z1,a9,p1];rfl)).trans ?_;simp[putD,keyOf,z2,a9]
theorem Ak{B:List D}:∀(bs ts:List Tr) (x2:Os),ts.length+2*bs.length<1000->∃y2,forL (gN 2) cA (bs.map trD) [some (.sh (.tup B)),some (.own (.dT (kvT ts))),x2]=some (.nx [some (.sh (.tup B)),some (.own (.dT (kvT (bs.foldl aL ts)))),y2])
 |[],ts,x2,_=> ⟨x2,by simp⟩
 |b::bs,ts,x2,hl=>by
  rw[GaE] at hl;have ev:=MJ (ts:=ts) (b:=b) (B:=B) (by lia);have l1:(aL ts b).length<=ts.length+2:=by
   unfold aL;have:=n6 ts b.1 b.2.1 b.2.2;have:=n6 (lW ts b.1 b.2.1 b.2.2) b.2.1 b.1 b.2.2;lia
  obtain⟨y2,e⟩:=Ak (B:=B) bs (aL ts b) (some (.sh (trD b))) (by lia);refine⟨y2, ?_⟩;rw[Gay,GbH];generalize trD b=d at*;simp only[forL,gN,GaM,GaN,Option.bind_some,ev];exact e
theorem Kq(ts:List Tr):aC ((kvT ts).map λx=>x.snd)=true:=by
 unfold kvT;rw[GaS];exact fj (λ_=>rfl) ts
theorem MK{bs:List Tr}(hl:bs.length<=12):d6 [.tup (bs.map trD)]=some (.dT (kvT (bs.foldl aL []))):=by
 obtain⟨y2,e⟩:=Ak (B:=bs.map trD) bs [] none (by simp;lia);refine b6 rfl ?_;unfold fz;refine(ae (e:=[some (.sh (.tup (bs.map trD))),some (.own (.dT (kvT []))),none]) (by simp[bw,kvT])).trans ?_;have im:=Kq (bs.foldl aL []);generalize bs.map trD=B at*;generalize kvT (bs.foldl aL [])=kv at*;refine(ae (e:=[some (.sh (.tup B)),some (.own (.dT kv)),y2]) (by simp[-forL,e])).trans ?_;simp[im]
noncomputable def lY(gs:List Tr)(a b:Order):Int:=if a.ar=b.ar then fY gs a.aq b.aq else 0
variable{gs:List Tr}
theorem oh{a b:Order}:fE [.dT (kvT gs),af a,af b]=some (.int (lY gs a b)):=by
 have l:=Aj gs a.aq b.aq;refine b6 rfl ?_;unfold iu lY fY;have a1:ixD (af a) (.int 1)=some (.int a.ar):=rfl;have a2:ixD (af a) (.int 2)=some (.int a.aq):=rfl;have b1:ixD (af b) (.int 1)=some (.int b.ar):=rfl;have b2:ixD (af b) (.int 2)=some (.int b.aq):=rfl;generalize af a=A at*;generalize af b=B at*;generalize kvT gs=kv at*;by_cases c:a.ar=b.ar
 .rw[Gaj c];refine(ae (by simp[bw,a1,b1,c,neB];rfl)).trans ?_;cases hf:gs.find? (atT a.aq b.aq) with
  |none=>rw[hf] at l;simp at l;simp[a2,b2,l,keyOf,a9]
  |some t=>rw[hf] at l;simp at l;simp[a2,b2,l,keyOf,a9]
 .rw[Gai c];refine DB ?_;simp[bw,a1,b1,c,neB]
noncomputable def mk2(p:Int×Int):D:= .tup [.int p.1,.int p.2]
noncomputable def un2:D->Int×Int
 | .tup [.int a,.int b]=>(a,b)
 |_=>(0,0)
theorem Py(p:Int×Int):un2 (mk2 p)=p:=rfl
theorem DF(l:List (Int×Int)):aC (l.map mk2)=true:=by
 induction l with
 |nil=>rfl
 |cons a l ih=>simp[mk2] at ih⊢;exact ih
theorem HW(l:List (Int×Int)):keysOk (l.map mk2)=true:=by
 have h1:(l.map mk2).all (kS 1)=true:=by
  rw[Gbp,Gao];intro p _;simp[mk2,kS,tyD,kR]
 have h2:((l.map mk2).all λx=>(l.map mk2).all λy=>wm x y)=true:=by
  rw[Gbp,Gao];intro p _;simp only[GbN];rw[Gbp,Gao];intro q _;simp[mk2,wm,kY,tyD,aR]
 unfold keysOk;rw[h1,h2];simp
theorem ML{p q:Int×Int}(h:p.1<q.1):ltC (DL.code (mk2 p)) (DL.code (mk2 q))=true:=by
 have e:¬p.1=q.1:=by lia
 simp[mk2,DL.code,aR,ltC,dh,ltI,e,h]
theorem Al(ms:List (Int×Int)):∃eh:List (Int×Int),bY (ms.map mk2)=eh.map mk2/\eh.Perm ms/\eh.Pairwise λa b=>a.1<=b.1:=by
 have hp:=bS (ms.map mk2);have hs:=dW (ms.map mk2);have all:∀x∈bY (ms.map mk2),∃p,x=mk2 p:=λx hx=>by
  obtain⟨p,_,e⟩:=Gax.mp (hp.mem_iff.mp hx);exact⟨p,e.symm⟩
 have e:bY (ms.map mk2)=((bY (ms.map mk2)).map un2).map mk2:=by
  rw[GaS]
  conv=>lhs;rw[<-Gcs (bY (ms.map mk2))]
  apply GaP;intro x hx;obtain⟨p,rfl⟩:=all x hx
  rfl
 refine⟨(bY (ms.map mk2)).map un2,e, ?_, ?_⟩
 .have:=GdC un2 hp;rw[GaS] at this;have e2:ms.map (un2∘mk2)=ms:=by
   conv=>rhs;rw[<-Gcs ms]
   exact GaP λp _=>Py p
  rw[e2] at this;exact this
 .rw[e] at hs;unfold gR at hs;rw[Ged] at hs;refine hs.imp λ{a b} h=> ?_;by_cases c:b.1<a.1
  .rw[ML c] at h;cases h
  .lia
noncomputable def sm(f:Nat->Int):Nat->Int
 |0=>0
 |n+1=>sm f n+f n
theorem DH{α:Type}(w:α->Int)(d:α)(l:List α):∀k,k<=l.length->sm (λi=>w (l[i]?.getD d)) k=((l.take k).map w).sum
 |0,_=>by simp[sm]
 |k+1,h=>by
  rw[sm,DH w d l k (by lia),GdG (by lia),GaC,List.sum_append];simp[show k<l.length by lia]
theorem HX{f a:Nat->Int}{g k:Nat}(SY:g<=k+1)(h1:∀i,i<g->f i=0)(h2:∀i,g<=i->i<=k->f i=a i)(h3:∀i,k<i->f i=0):∀n,sm f n=if n<=g then 0 else if n<=k+1 then sm a n -sm a g else sm a (k+1)-sm a g
 |0=>by simp[sm]
 |n+1=>by
  rw[sm,HX SY h1 h2 h3 n];by_cases c1:n+1<=g
  .rw[Gaj (by lia),Gaj c1,h1 n (by lia)];rfl
  .rw[Gai c1];by_cases c2:n+1<=k+1
   .rw[Gaj c2,h2 n (by lia) (by lia)];by_cases c3:n<=g
    .have e:n=g:=by lia
     subst e;rw[Gaj c3,sm];lia
    .rw[Gai c3,Gaj (by lia),sm];lia
   .rw[Gai c2,h3 n (by lia)];by_cases c3:n<=g
    .have e:n=k+1:=by lia
     have e2:g=k+1:=by lia
     rw[Gaj c3,e2];lia
    .rw[Gai c3];by_cases c4:n<=k+1
     .have e:n=k+1:=by lia
      rw[Gaj c4,e];lia
     .rw[Gai c4];lia
section
variable(eh:List (Int×Int))(H:Int)
noncomputable def hr(i:Nat):Int:=(eh[i]?.getD (0,0)).1
noncomputable def am(i:Nat):Int:=(eh[i]?.getD (0,0)).2
noncomputable def wt(H h:Int)(p:Int×Int):Int:=if h -H<p.1/\p.1<=h then p.2 else 0
noncomputable def W(h:Int):Int:=(eh.map (wt H h)).sum
end
variable{eh:List (Int×Int)}{H:Int}
theorem u6(hs:eh.Pairwise λa b=>a.1<=b.1){j:Nat}(h:i<=j)(hj:j<eh.length):hr eh i<=hr eh j:=by
 unfold hr;have hi:i<eh.length:=by lia
 simp only[Gab hi,Gab hj,Option.getD_some];rcases Gck h with e|e
 .subst e;exact Gch _
 .exact Gdh.mp hs i j hi hj e
theorem Pz(hs:eh.Pairwise λa b=>a.1<=b.1){g k:Nat}(hk:k<eh.length)(SY:g<=k)(h1:∀i,i<g->hr eh i<=hr eh k -H)(h2:hr eh k -H<hr eh g)(h3:k+1=eh.length\/hr eh k<hr eh (k+1)):
  W eh H (hr eh k)=sm (am eh) (k+1)-sm (am eh) g:=by
 have e:=DH (wt H (hr eh k)) (0,0) eh eh.length (Gap _);rw[List.take_length] at e;unfold W;rw[<-e];have cut:=HX (f:=λi=>if i<eh.length then wt H (hr eh k) (eh[i]?.getD (0,0)) else 0) (a:=am eh) (g:=g) (k:=k) (by lia)
  (λi hi=>by
   show(if i<eh.length then wt H (hr eh k) (eh[i]?.getD (0,0)) else 0)=_;rw[Gaj (by lia)];unfold wt;have:=h1 i hi;unfold hr at this⊢;rw[Gai (by lia)])
  (λi i1 i2=>by
   show(if i<eh.length then wt H (hr eh k) (eh[i]?.getD (0,0)) else 0)=_;rw[Gaj (by lia)];unfold wt;have a1:=u6 hs i1 (by lia);have a2:=u6 hs i2 hk;unfold hr at a1 a2 h2⊢;rw[Gaj ⟨by lia,a2⟩];rfl)
  (λi hi=>by
   show(if i<eh.length then wt H (hr eh k) (eh[i]?.getD (0,0)) else 0)=_;split
   .rename_i hl;have a1:hr eh (k+1)<=hr eh i:=u6 hs (by lia) hl;rcases h3 with h3|h3
    .lia
    .unfold wt;unfold hr at a1 h3⊢;rw[Gai (by lia)]
   .rfl) eh.length
 rw[Gai (by lia)] at cut;have same:∀n,n<=eh.length->sm (λi=>if i<eh.length then wt H (hr eh k) (eh[i]?.getD (0,0)) else 0) n=sm (λi=>wt H (hr eh k) (eh[i]?.getD (0,0))) n:=by
  intro n;induction n with
  |zero=>intro _;rfl
  |succ n ih=>intro hn;rw[sm,sm,ih (by lia),Gaj (by lia)]
 rw[<-same _ (Gap _),cut];split
 .have e2:eh.length=k+1:=by lia
  rw[e2]
 .rfl
noncomputable def oj(ms:D)(H:Int)(R:List D)(F:List D)(eF eL k:Int)(row:D):DL.Env:=[some (.sh ms),some (.sh (.int H)),some (.lok (.lst R)),some (.own (.lst F)),some (.sh (.int eF)),some (.sh (.int eL)),some (.sh (.int k)),some (.sh row)]
theorem qY{g:Nat}(hg:g<eh.length):atD (eh.map mk2) (g:Int)=some (.tup [.int (hr eh g),.int (am eh g)]):=by
 rw[bU,Gam,Gab hg];unfold hr am;simp[mk2,hg]
variable{eF eL h' a' :Int}{F:List D}{ms:D}
theorem DJ{k:Int}(e:atD R eL=some (.tup [.int h',.int a'])):dS (oj ms H R F eF eL k (.tup [.int h,.int a]))=some (decide (h' <=h -H)):=by
 unfold dS oj;simp[e]
theorem Kr{k:Int}(e:atD R eL=some (.tup [.int h',.int a'])):g8 (oj ms H R F eF eL k (.tup [.int h,.int a]))=some (.nx (oj ms H R F (eF -a') (eL+1) k (.tup [.int h,.int a]))):=by
 unfold g8 oj;simp[e]
theorem HY{k:Nat}{kk:Int}(hH:1<=H)(hk:k<eh.length):∀(m eL fuel:Nat) (eF:Int),k -eL=m->eL<=k->m<fuel->∃g,eL<=g/\g<=k/\(∀i,eL<=i->i<g->hr eh i<=hr eh k -H)/\hr eh k -H<hr eh g/\
  cM dS g8 fuel (oj ms H (eh.map mk2) F eF eL kk (.tup [.int (hr eh k),.int a]))=some (.nx (oj ms H (eh.map mk2) F (eF -(sm (am eh) g -sm (am eh) eL)) g kk (.tup [.int (hr eh k),.int a]))):=by
 intro m;induction m with
 |zero=>
  intro eL fuel eF hm hg hf;have e:eL=k:=by lia
  subst e;obtain⟨f,rfl⟩:∃f,fuel=f+1:=⟨fuel -1,by lia⟩
  refine⟨eL,Gap _,Gap _,λi h1 h2=>by lia,by lia, ?_⟩;unfold cM;rw[DJ (qY hk)];have c:¬hr eh eL<=hr eh eL -H:=by lia
  simp[c]
 |succ m ih=>
  intro eL fuel eF hm hg hf;obtain⟨f,rfl⟩:∃f,fuel=f+1:=⟨fuel -1,by lia⟩
  have hgl:eL<eh.length:=by lia
  unfold cM;rw[DJ (qY hgl)];by_cases c:hr eh eL<=hr eh k -H
  .obtain⟨g,q1,q2,q3,q4,q5⟩:=ih (eL+1) f (eF -am eh eL) (by lia) (by lia) (by lia);refine⟨g,by lia,q2,λi h1 h2=> ?_,q4, ?_⟩
   .rcases Gck h1 with e|e
    .subst e;exact c
    .exact q3 i e h2
   .simp only[c,decide_true,Option.bind_some,Gca];rw[Kr (qY hgl)];simp only[Option.bind_some];have e1:((eL:Int)+1)=((eL+1:Nat):Int):=by lia
    rw[e1,q5,sm];have e2:eF -am eh eL -(sm (am eh) g -(sm (am eh) eL+am eh eL))=eF -(sm (am eh) g -sm (am eh) eL):=by lia
    rw[e2]
  .refine⟨eL,Gap _,hg,λi h1 h2=>by lia,by lia, ?_⟩;simp[c]
noncomputable def fm(eh:List (Int×Int))(j:Nat):Bool:=decide (j+1=eh.length)||decide (hr eh j<hr eh (j+1))
noncomputable def fnd(eh:List (Int×Int))(H:Int)(m:Nat):List (Int×Int):=((List.range m).filter (fm eh)).map λj=>(hr eh j,W eh H (hr eh j))
variable{m:Nat}
theorem Am:fnd eh H (m+1)=fnd eh H m++(if fm eh m then[(hr eh m,W eh H (hr eh m))] else[]):=by
 unfold fnd;rw[List.range_succ,GdY,GaC];congr 1;cases h:fm eh m<;>simp[h]
theorem DK:(fnd eh H m).length<=m:=by
 unfold fnd;rw[Gad];exact Gbo (GbI _ _) (by simp)
variable{last:Bool}{g' :Int}
theorem Ks{kk xT :Int}(hw:cM dS g8 100000 (oj ms H R F (eF+a) eL kk (.tup [.int h,.int a]))=some (.nx (oj ms H R F xT g' kk (.tup [.int h,.int a]))))(hz:F.length<1000)(hn:(R.length:Int)=n)
  (hc:(kk+1=n/\last=true)\/(kk+1≠n/\∃h2 a2,atD R (kk+1)=some (.tup [.int h2,.int a2])/\last=decide (h<h2))):
  cB (oj ms H R F eF eL kk (.tup [.int h,.int a]))=some (.nx (oj ms H R (if last then F++[.tup [.int h,.int xT]] else F) xT g' kk (.tup [.int h,.int a]))):=by
 have z:F.length<16777216:=by lia
 unfold oj at*;unfold cB qc;rcases hc with⟨c,rfl⟩| ⟨c,h2,a2,e,rfl⟩
 .simp[hw,hn,c,a9,z]
 .by_cases c2:h<h2
  .simp[hw,hn,c,e,c2,a9,z]
  .simp[hw,hn,c,e,c2]
theorem HZ(hH:1<=H)(hs:eh.Pairwise λa b=>a.1<=b.1)(hl:eh.length<64):∃(y4 y5 y6 y7:Os),forL (gT [6,7]) cB (dm 0 (eh.map mk2)) [some (.sh ms),some (.sh (.int H)),some (.lok (.lst (eh.map mk2))),some (.own (.lst [])),some (.sh (.int 0)),some (.sh (.int 0)),none,none]=
  some (.nx [some (.sh ms),some (.sh (.int H)),some (.lok (.lst (eh.map mk2))),some (.own (.lst ((fnd eh H eh.length).map mk2))),y4,y5,y6,y7]):=by
 obtain⟨e,h1,eL,eF,y6,y7,h2,h3,h4,rfl⟩:=d8 (g:=gT [6,7]) (body:=cB) (λm env=>∃(eL:Nat) (eF:Int) (y6 y7:Os),eL<=m/\eF=sm (am eh) m -sm (am eh) eL/\(∀i,i<eL->∀j,m<=j+1->j<eh.length->hr eh i<=hr eh j -H)/\
   env=[some (.sh ms),some (.sh (.int H)),some (.lok (.lst (eh.map mk2))),some (.own (.lst ((fnd eh H m).map mk2))),some (.sh (.int eF)),some (.sh (.int eL)),y6,y7]) (dm 0 (eh.map mk2)) 0
  [some (.sh ms),some (.sh (.int H)),some (.lok (.lst (eh.map mk2))),some (.own (.lst [])),some (.sh (.int 0)),some (.sh (.int 0)),none,none] ⟨0,0,none,none,Gap _,by simp[sm],λi hi=>by lia,rfl⟩ (by
   rintro k d e hd ⟨eL,eF,y6,y7,h2,h3,h4,rfl⟩;rw[iH,Gam] at hd;cases hk:eh[k]? with
   |none=>rw[hk] at hd;cases hd
   |some p=>
    rw[hk] at hd;have hkl:k<eh.length:=(Gal.mp hk).1;simp only[GbL,GcP] at hd;subst hd;rw[Gbc] at h2 h3 h4⊢;have ep:mk2 p= .tup [.int (hr eh k),.int (am eh k)]:=by
     unfold mk2 hr am;rw[hk];rfl
    obtain⟨g,q1,q2,q3,q4,q5⟩:=HY (eh:=eh) (ms:=ms) (F:=(fnd eh H k).map mk2) (kk:=(k:Int)) (a:=am eh k) hH hkl (k -eL) eL 100000 (eF+am eh k) rfl h2 (by lia);have allg:∀i,i<g->hr eh i<=hr eh k -H:=λi hi=>by
     by_cases c:i<eL
     .exact h4 i c k (by lia) hkl
     .exact q3 i (by lia) hi
    have tot:eF+am eh k -(sm (am eh) g -sm (am eh) eL)=sm (am eh) (k+1)-sm (am eh) g:=by
     rw[h3,sm];lia
    rw[tot] at q5;have eK:((eh.map mk2).length:Int)=(eh.length:Int):=by simp
    have ev:=Ks (last:=fm eh k) q5 (GcH (by rw[Gad];exact DK) (by lia)) eK (by
     by_cases c:k+1=eh.length
     .exact .inl ⟨by lia,by unfold fm;simp[c]⟩
     .refine .inr ⟨by lia,hr eh (k+1),am eh (k+1), ?_,by unfold fm;simp[c]⟩;have:=qY (eh:=eh) (g:=k+1) (by lia);rw[show((k:Int)+1)=((k+1:Nat):Int) by lia];exact this)
    refine⟨_,_, ?_,ev,g,_,some (.sh (.int (k:Int))),some (.sh (.tup [.int (hr eh k),.int (am eh k)])),by lia,rfl,λi hi j hj zj=> ?_, ?_⟩
    .rw[ep];rfl
    .have:=allg i hi;have:=u6 hs (i:=k) (j:=j) (by lia) zj;lia
    .rw[Am];unfold oj;cases hL:fm eh k with
     |false=>simp
     |true=>
      have hw:=Pz (H:=H) hs hkl q2 allg q4 (by
       unfold fm at hL;rw[GaR] at hL;exact hL.imp Gaq Gaq)
      simp[mk2,hw])
 rw[iG,Gad,Gbc] at h1;exact⟨_,_,_,_,h1⟩
theorem qZ{ms:List (Int×Int)}(hl:ms.length<64):sortedS [.lst (ms.map mk2)]=some ⟨.tn,.lst (bY (ms.map mk2))⟩:=by
 have h1:((ms.map mk2).length<64):=by simpa using hl
 unfold sortedS one jH;simp only[Option.bind_some];rw[HW,Gaz h1];rfl
variable{y5 y6 y7:Os}{M:List D}
theorem I0(es:sortedS [.lst M]=some ⟨.tn,.lst R⟩)(h1:forL (gT [6,7]) cB (dm 0 R) [some (.sh (.lst M)),some (.sh (.int H)),some (.lok (.lst R)),some (.own (.lst [])),some (.sh (.int 0)),some (.sh (.int 0)),none,none]=
  some (.nx [some (.sh (.lst M)),some (.sh (.int H)),some (.lok (.lst R)),some (.own (.lst F)),y4,y5,y6,y7]))(im:aC F=true):ip [.lst M,.int H]=some (.lst F):=by
 unfold ip vf;simp[-forL,-dm,es,h1,a9,im]
theorem lh:∀(a b:List Int),a.Pairwise (λx y=>x<y)->b.Pairwise (λx y=>x<y)->(∀x,x∈a↔x∈b)->a=b
 |[],[],_,_,_=>rfl
 |[],y::b,_,_,h=>absurd ((h y).mpr Gak) (by simp)
 |x::a,[],_,_,h=>absurd ((h x).mp Gak) (by simp)
 |x::a,y::b,ha,hb,h=>by
  have ha' :=GaY.mp ha;have xI :=GaY.mp hb;have exy:x=y:=by
   rcases GaB.mp ((h x).mp Gak) with e|e
   .exact e
   .rcases GaB.mp ((h y).mpr Gak) with e2|e2
    .exact e2.symm
    .have h3:=xI.1 x e;have h4:=ha'.1 y e2;lia
  subst exy;congr 1;refine lh a b ha'.2 xI.2 λz=> ⟨λhz=> ?_,λhz=> ?_⟩
  .rcases GaB.mp ((h z).mp (Gag _ hz)) with e|e
   .have:=ha'.1 z hz;lia
   .exact e
  .rcases GaB.mp ((h z).mpr (Gag _ hz)) with e|e
   .have:=xI.1 z hz;lia
   .exact e
theorem Ia:∀(ns ks:List Int) (x:Int),x∈ns.foldl dd1 ks↔x∈ks\/x∈ns
 |[],ks,x=>by simp
 |n::ns,ks,x=>by
  rw[GbH,Ia ns (dd1 ks n) x];unfold dd1;split
  .rename_i c;constructor
   .rintro(h|h)
    .exact .inl h
    .exact .inr (Gag _ h)
   .rintro(h|h)
    .exact .inl h
    .rcases GaB.mp h with rfl|h
     .exact .inl c
     .exact .inr h
  .simp only[GaL,GaB,GdF,or_false];constructor
   .rintro((h|h)|h)
    .exact .inl h
    .exact .inr (.inl h)
    .exact .inr (.inr h)
   .rintro(h|h|h)
    .exact .inl (.inl h)
    .exact .inl (.inr h)
    .exact .inr h
theorem An:∀(ns ks:List Int),ks.Nodup->(ns.foldl dd1 ks).Nodup
 |[],ks,h=>h
 |n::ns,ks,h=>by
  rw[GbH];refine An ns _ ?_;unfold dd1;split
  .exact h
  .rename_i c;rw[GcR];refine⟨h,by simp,λa ha b hb=> ?_⟩;rw[Gbr] at hb;subst hb
   exactλe=>c (e▸ha)
theorem Ib:∀(ns ks:List Int),(ns.foldl dd1 ks).length<=ks.length+ns.length
 |[],ks=>by simp
 |n::ns,ks=>by
  rw[GbH];have h:=Ib ns (dd1 ks n);have h2:(dd1 ks n).length<=ks.length+1:=by unfold dd1;split<;>simp
  rw[GaE];lia
theorem Ao(h:a<b):ltC (DL.code (.int a)) (DL.code (.int b))=true:=by
 have e:¬a=b:=by lia
 simp[DL.code,aR,ltC,dh,ltI,e,h]
theorem Fw(l:List Int):∃s:List Int,s.Perm l/\s.Pairwise (λa b=>a<=b)/\bY (l.map D.int)=s.map D.int:=by
 have hp:=bS (l.map D.int);have hs:=dW (l.map D.int);have all:∀{ds:List D},(∀d∈ds,∃i:Int,d= .int i)->∃s:List Int,ds=s.map D.int:=by
  intro ds;induction ds with
  |nil=>exactλ_=> ⟨[],rfl⟩
  |cons d ds ih=>
   intro h;obtain⟨i,rfl⟩:=h d Gak;obtain⟨s,rfl⟩:=ih λx hx=>h x (Gag _ hx);exact⟨i::s,rfl⟩
 obtain⟨s,e⟩:=all (ds:=bY (l.map D.int)) λd hd=>by
  obtain⟨i,_,rfl⟩:=Gax.mp (hp.mem_iff.mp hd);exact⟨i,rfl⟩
 rw[e] at hp hs;refine⟨s, ?_, ?_,e⟩
 .have un:∀x:List Int,(x.map D.int).map (λd=>match d with| .int i=>i|_=>0)=x:=by
   intro x;rw[GaS];exact(GaP λ_ _=>rfl).trans (Gcs x)
  have:=GdC (λd=>match d with|D.int i=>i|_=>0) hp;rw[un,un] at this;exact this
 .unfold gR at hs;rw[Ged] at hs;refine hs.imp λ{a b} h=> ?_;by_cases c:b<a
  .rw[Ao c] at h;cases h
  .lia
theorem Ic(ns:List Int):∃S:List Int,bY ((ddF ns).map D.int)=S.map D.int/\S.Pairwise (λa b=>a<b)/\(∀x,x∈S↔x∈ns)/\S.length<=ns.length:=by
 obtain⟨s,h1,h2,h3⟩:=Fw (ddF ns);have nd:s.Nodup:=h1.nodup_iff.mpr (An ns [] List.nodup_nil);have mem:∀x,x∈s↔x∈ns:=λx=>by rw[h1.mem_iff];unfold ddF;rw[Ia];simp
 refine⟨s,h3, ?_,mem, ?_⟩
 .have:=h2.and nd;exact this.imp λ{a b} h=>by
   have h1:=h.1;have h2:a≠b:=h.2;lia
 .rw[h1.length_eq];have:=Ib ns []
  simpa[ddF] using this
noncomputable def Ie(ms:List (Int×Int))(H:Int)(S:List Int):List (Int×Int):=S.map λh=>(h,W ms H h)
theorem Ig{l l' :List Int}(h:l.Perm l'):l.sum=l'.sum:=by
 induction h with
 |nil=>rfl
 |cons x _ ih=>simp[ih]
 |swap x y l=>simp;lia
 |trans _ _ h1 h2=>exact h1.trans h2
theorem MM{ms:List (Int×Int)}(hp:eh.Perm ms)(h:Int):W eh H h=W ms H h:=by
 unfold W;exact Ig (GdC _ hp)
theorem r6(hs:eh.Pairwise λa b=>a.1<=b.1):∀(m i:Nat),eh.length -i=m->i<eh.length->∃j,j<eh.length/\hr eh j=hr eh i/\fm eh j=true
 |0,i,hm,hi=>by lia
 |m+1,i,hm,hi=>by
  by_cases c:i+1=eh.length
  .exact⟨i,hi,rfl,by unfold fm;simp[c]⟩
  .by_cases c2:hr eh i<hr eh (i+1)
   .exact⟨i,hi,rfl,by unfold fm;simp[c2]⟩
   .obtain⟨j,h1,h2,h3⟩:=r6 hs m (i+1) (by lia) (by lia);have:=u6 hs (i:=i) (j:=i+1) (by lia) (by lia);exact⟨j,h1,by rw[h2];lia,h3⟩
variable{S:List Int}
theorem Kt{ms:List (Int×Int)}(hs:eh.Pairwise λa b=>a.1<=b.1)(hp:eh.Perm ms)(hS:S.Pairwise λa b=>a<b)(hm:∀x,x∈S↔x∈ms.map (·.1)):fnd eh H eh.length=Ie ms H S:=by
 have eT:((List.range eh.length).filter (fm eh)).map (hr eh)=S:=by
  refine lh _ _ ?_ hS λx=> ?_
  .rw[Ged];have pr:((List.range eh.length).filter (fm eh)).Pairwise λi j=>i<j:=List.Pairwise.filter _ List.pairwise_lt_range;refine(GcX.mp pr).imp λ{i j} h=> ?_;obtain⟨hi,hj,yk⟩:=h;obtain⟨i1,i2⟩:=Gby.mp hi;obtain⟨j1,_⟩:=Gby.mp hj;have jl:=GaV.mp j1;unfold fm at i2;rw[GaR] at i2;rcases i2 with i2|i2
   .have:=Gaq i2;lia
   .have a1:=Gaq i2;have a2:=u6 hs (i:=i+1) (j:=j) (by lia) jl;lia
  .rw[hm,Gax,Gax];constructor
   .rintro⟨j,hj,rfl⟩;have jl:=GaV.mp (Gby.mp hj).1;exact⟨eh[j],hp.mem_iff.mp (GaF _),by unfold hr;simp[jl]⟩
   .rintro⟨p,xC,rfl⟩;obtain⟨i,hi,rfl⟩:=GbM (hp.mem_iff.mpr xC);obtain⟨j,h1,h2,h3⟩:=r6 hs (eh.length -i) i rfl hi;refine⟨j,Gby.mpr ⟨GaV.mpr h1,h3⟩, ?_⟩;rw[h2];unfold hr;simp[hi]
 unfold fnd Ie;rw[<-eT,GaS];exact GaP λj _=>by simp only[Function.comp];rw[MM hp]
theorem Ih{kk:Int}(hz:F.length<1000)(hn:(R.length:Int)=n)
  (hc:(kk+1=n/\last=true)\/(kk+1≠n/\∃h2 a2,atD R (kk+1)=some (.tup [.int h2,.int a2])/\last=decide (h<h2))):
  cB [some (.sh ms),some (.sh .non),some (.lok (.lst R)),some (.own (.lst F)),some (.sh (.int eF)),some (.sh (.int 0)),some (.sh (.int kk)),some (.sh (.tup [.int h,.int a]))]=
   some (.nx [some (.sh ms),some (.sh .non),some (.lok (.lst R)),some (.own (.lst (if last then F++[.tup [.int h,.int (eF+a)]] else F))),some (.sh (.int (eF+a))),some (.sh (.int 0)),some (.sh (.int kk)),some (.sh (.tup [.int h,.int a]))]):=by
 have z:F.length<16777216:=by lia
 have hw:cM dS g8 100000 [some (.sh ms),some (.sh .non),some (.lok (.lst R)),some (.own (.lst F)),some (.sh (.int (eF+a))),some (.sh (.int 0)),some (.sh (.int kk)),some (.sh (.tup [.int h,.int a]))]=some (.nx [some (.sh ms),some (.sh .non),some (.lok (.lst R)),some (.own (.lst F)),some (.sh (.int (eF+a))),some (.sh (.int 0)),some (.sh (.int kk)),some (.sh (.tup [.int h,.int a]))]):=by
  have t:dS [some (.sh ms),some (.sh .non),some (.lok (.lst R)),some (.own (.lst F)),some (.sh (.int (eF+a))),some (.sh (.int 0)),some (.sh (.int kk)),some (.sh (.tup [.int h,.int a]))]=some false:=by
   unfold dS;simp
  unfold cM;rw[t];simp
 unfold cB qc;rcases hc with⟨c,rfl⟩| ⟨c,h2,a2,e,rfl⟩
 .simp[hw,hn,c,a9,z]
 .by_cases c2:h<h2
  .simp[hw,hn,c,e,c2,a9,z]
  .simp[hw,hn,c,e,c2]
theorem Fx(hH:∀p∈eh,∀q∈eh,q.1 -H<p.1)(hs:eh.Pairwise λa b=>a.1<=b.1)(hl:eh.length<64):∃(y4 y5 y6 y7:Os),forL (gT [6,7]) cB (dm 0 (eh.map mk2)) [some (.sh ms),some (.sh .non),some (.lok (.lst (eh.map mk2))),some (.own (.lst [])),some (.sh (.int 0)),some (.sh (.int 0)),none,none]=
  some (.nx [some (.sh ms),some (.sh .non),some (.lok (.lst (eh.map mk2))),some (.own (.lst ((fnd eh H eh.length).map mk2))),y4,y5,y6,y7]):=by
 obtain⟨e,h1,eF,y6,y7,h3,rfl⟩:=d8 (g:=gT [6,7]) (body:=cB) (λm env=>∃(eF:Int) (y6 y7:Os),eF=sm (am eh) m/\
   env=[some (.sh ms),some (.sh .non),some (.lok (.lst (eh.map mk2))),some (.own (.lst ((fnd eh H m).map mk2))),some (.sh (.int eF)),some (.sh (.int 0)),y6,y7]) (dm 0 (eh.map mk2)) 0
  [some (.sh ms),some (.sh .non),some (.lok (.lst (eh.map mk2))),some (.own (.lst [])),some (.sh (.int 0)),some (.sh (.int 0)),none,none] ⟨0,none,none,by simp[sm],rfl⟩ (by
   rintro k d e hd ⟨eF,y6,y7,h3,rfl⟩;rw[iH,Gam] at hd;cases hk:eh[k]? with
   |none=>rw[hk] at hd;cases hd
   |some p=>
    rw[hk] at hd;have hkl:k<eh.length:=(Gal.mp hk).1;simp only[GbL,GcP] at hd;subst hd;rw[Gbc] at h3⊢;have ep:mk2 p= .tup [.int (hr eh k),.int (am eh k)]:=by
     unfold mk2 hr am;rw[hk];rfl
    have eK:((eh.map mk2).length:Int)=(eh.length:Int):=by simp
    have ev:=Ih (ms:=ms) (R:=eh.map mk2) (F:=(fnd eh H k).map mk2) (eF:=eF) (kk:=(k:Int)) (h:=hr eh k) (a:=am eh k) (last:=fm eh k) (GcH (by rw[Gad];exact DK) (by lia)) eK (by
     by_cases c:k+1=eh.length
     .exact .inl ⟨by lia,by unfold fm;simp[c]⟩
     .refine .inr ⟨by lia,hr eh (k+1),am eh (k+1), ?_,by unfold fm;simp[c]⟩;have:=qY (eh:=eh) (g:=k+1) (by lia);rw[show((k:Int)+1)=((k+1:Nat):Int) by lia];exact this)
    refine⟨_,_, ?_,ev,eF+am eh k,some (.sh (.int (k:Int))),some (.sh (.tup [.int (hr eh k),.int (am eh k)])),by rw[h3];rfl, ?_⟩
    .rw[ep];rfl
    .rw[Am];cases hL:fm eh k with
     |false=>simp
     |true=>
      have hr_in:∀i,i<eh.length->∃p∈eh,p.1=hr eh i:=λi hi=> ⟨eh[i],GaF _,by unfold hr;simp[hi]⟩;have hw:=Pz (H:=H) hs hkl (Gba k) (λi hi=>by lia) (by
       obtain⟨p,hp,e1⟩:=hr_in 0 (by lia);obtain⟨q,hq,e2⟩:=hr_in k hkl;have:=hH p hp q hq;lia) (by
       unfold fm at hL;rw[GaR] at hL;exact hL.imp Gaq Gaq)
      have tot:eF+am eh k=W eh H (hr eh k):=by
       rw[hw,h3];show sm (am eh) k+am eh k=sm (am eh) (k+1)-sm (am eh) 0;simp[sm]
      simp[mk2,tot])
 rw[iG,Gad,Gbc] at h1;exact⟨_,_,_,_,h1⟩
theorem Fy(es:sortedS [.lst M]=some ⟨.tn,.lst R⟩)(h1:forL (gT [6,7]) cB (dm 0 R) [some (.sh (.lst M)),some (.sh .non),some (.lok (.lst R)),some (.own (.lst [])),some (.sh (.int 0)),some (.sh (.int 0)),none,none]=
  some (.nx [some (.sh (.lst M)),some (.sh .non),some (.lok (.lst R)),some (.own (.lst F)),y4,y5,y6,y7]))(im:aC F=true):ip [.lst M,.non]=some (.lst F):=by
 unfold ip vf;simp[-forL,-dm,es,h1,a9,im]
def HD(hd:D)(H:Int)(ms:List (Int×Int)):Prop:=(hd= .int H/\1<=H)\/(hd= .non/\∀p∈ms,∀q∈ms,q.1 -H<p.1)
variable{xH :List (Int×Int)}{hd:D}
theorem HD.perm{ms:List (Int×Int)}(h:HD hd H ms)(hp:ms.Perm xH):HD hd H xH :=by
 rcases h with h| ⟨h1,h2⟩
 .exact .inl h
 .exact .inr ⟨h1,λp xC q hq=>h2 p (hp.mem_iff.mpr xC) q (hp.mem_iff.mpr hq)⟩
theorem r9{ms:List (Int×Int)}(h:HD hd H ms)(hp:xH.Perm ms)(hl:ms.length<64)(hS:S.Pairwise λa b=>a<b)(hm:∀x,x∈S↔x∈ms.map (·.1)):ip [.lst (xH.map mk2),hd]=some (.lst ((Ie ms H S).map mk2)):=by
 obtain⟨eh,e,yd,hs⟩:=Al xH;have hp3:eh.Perm ms:=yd.trans hp;have zP:eh.length<64:=by rw[hp3.length_eq];exact hl
 have es:=qZ (ms:=xH) (by rw[hp.length_eq];exact hl);rw[e] at es;rw[<-Kt hs hp3 hS hm];rcases h.perm hp3.symm with⟨rfl,hH⟩| ⟨rfl,hH⟩
 .obtain⟨y4,y5,y6,y7,h⟩:=HZ (eh:=eh) (ms:= .lst (xH.map mk2)) hH hs zP;exact I0 es h (DF _)
 .obtain⟨y4,y5,y6,y7,h⟩:=Fx (eh:=eh) (ms:= .lst (xH.map mk2)) hH hs zP;exact Fy es h (DF _)
noncomputable def gpF(os:List Order)(gs:List Tr)(r l:Int×Int):List Flt:=match os[r.2.toNat]?,os[l.2.toNat]? with
 |some a,some b=>if l.1 -r.1<lY gs a b then[("gap",[r.2,r.1,l.2,l.1])] else[]
 |_,_=>[]
noncomputable def jt(os:List Order)(gs:List Tr)(w:Int)(r:Int×Int):List (Int×Int)->List Flt
 |[]=>[]
 |l::ls=>if l.1 -r.1>=w then[] else gpF os gs r l++jt os gs w r ls
noncomputable def cF(os:List Order)(gs:List Tr)(w:Int):List (Int×Int)->List Flt
 |[]=>[]
 |r::rs=>jt os gs w r rs++cF os gs w rs
theorem vq(os:List Order)(gs:List Tr)(r l:Int×Int):(gpF os gs r l).length<=1:=by
 unfold gpF;split
 .split<;>simp
 .simp
theorem om(os:List Order)(gs:List Tr)(w:Int)(r:Int×Int):∀ls,(jt os gs w r ls).length<=ls.length
 |[]=>by simp[jt]
 |l::ls=>by
  unfold jt;have h1:=om os gs w r ls;have h2:=vq os gs r l;split
  .simp
  .simp;lia
variable{x9:Os}{r1 r2 l1 l2:Int}
theorem MN{w k:Int}(c:l1 -r1>=w):
  bq [some (.sh wd),some (.sh (.tup G)),some (.own (.dT kv)),some (.sh (.int w)),some (.lok (.lst R)),some (.own (.lst F)),some (.sh (.int k)),some (.sh (.tup [.int r1,.int r2])),some (.sh (.tup [.int l1,.int l2])),x9]=
   some (.bk [some (.sh wd),some (.sh (.tup G)),some (.own (.dT kv)),some (.sh (.int w)),some (.lok (.lst R)),some (.own (.lst F)),some (.sh (.int k)),some (.sh (.tup [.int r1,.int r2])),some (.sh (.tup [.int l1,.int l2])),some (.sh (.int (l1 -r1)))]):=by
 unfold bq;simp[c]
theorem MO{w k gb:Int}{o1 o2:D}(c:¬l1 -r1>=w)(h1:atD O r2=some o1)(h2:atD O l2=some o2)(eb:fE [.dT kv,o1,o2]=some (.int gb))(hz:F.length<100000):
  bq [some (.sh (.tup [.tup A,.tup B,.tup C,.tup O])),some (.sh (.tup G)),some (.own (.dT kv)),some (.sh (.int w)),some (.lok (.lst R)),some (.own (.lst F)),some (.sh (.int k)),some (.sh (.tup [.int r1,.int r2])),some (.sh (.tup [.int l1,.int l2])),x9]=
   some (.nx [some (.sh (.tup [.tup A,.tup B,.tup C,.tup O])),some (.sh (.tup G)),some (.own (.dT kv)),some (.sh (.int w)),some (.lok (.lst R)),some (.own (.lst (F++(if l1 -r1<gb then[D.tup [.str "gap",.int r2,.int r1,.int l2,.int l1]] else[])))),some (.sh (.int k)),some (.sh (.tup [.int r1,.int r2])),some (.sh (.tup [.int l1,.int l2])),some (.sh (.int (l1 -r1)))]):=by
 have z:F.length<16777216:=by lia
 unfold bq;refine(ae (e:=[some (.sh (.tup [.tup A,.tup B,.tup C,.tup O])),some (.sh (.tup G)),some (.own (.dT kv)),some (.sh (.int w)),some (.lok (.lst R)),some (.own (.lst F)),some (.sh (.int k)),some (.sh (.tup [.int r1,.int r2])),some (.sh (.tup [.int l1,.int l2])),some (.sh (.int (l1 -r1)))]) (by simp)).trans ?_;have c' :l1 -r1<w:=by lia
 refine(ae (e:=[some (.sh (.tup [.tup A,.tup B,.tup C,.tup O])),some (.sh (.tup G)),some (.own (.dT kv)),some (.sh (.int w)),some (.lok (.lst R)),some (.own (.lst F)),some (.sh (.int k)),some (.sh (.tup [.int r1,.int r2])),some (.sh (.tup [.int l1,.int l2])),some (.sh (.int (l1 -r1)))]) (by simp[c'])).trans ?_;by_cases q:l1 -r1<gb
 .simp[q,h1,h2,eb,z,a9]
 .simp[q,h1,h2,eb]
theorem rg{w:World}{gs:List Tr}{wid k:Int}{A B C G R:List D}{r:Int×Int}(SM:0<=r.2)(TZ:r.2<w.orders.length):∀(ls:List (Int×Int)) (fs:List Flt) (x8 x9:Os),(∀l∈ls,0<=l.2/\l.2<w.orders.length)->fs.length+ls.length<100000->∃y8 y9,
  forL (gN 8) bq (ls.map mk2) [some (.sh (.tup [.tup A,.tup B,.tup C,.tup (w.orders.map af)])),some (.sh (.tup G)),some (.own (.dT (kvT gs))),some (.sh (.int wid)),some (.lok (.lst R)),some (.own (.lst (fs.map ah))),some (.sh (.int k)),some (.sh (mk2 r)),x8,x9]=
   some (.nx [some (.sh (.tup [.tup A,.tup B,.tup C,.tup (w.orders.map af)])),some (.sh (.tup G)),some (.own (.dT (kvT gs))),some (.sh (.int wid)),some (.lok (.lst R)),some (.own (.lst ((fs++jt w.orders gs wid r ls).map ah))),some (.sh (.int k)),some (.sh (mk2 r)),y8,y9])
 |[],fs,x8,x9,_,_=> ⟨x8,x9,by simp[jt]⟩
 |l::ls,fs,x8,x9,hl,hz=>by
  rw[GaE] at hz;by_cases c:l.1 -r.1>=wid
  .have ev:=MN (wd:= .tup [.tup A,.tup B,.tup C,.tup (w.orders.map af)]) (G:=G) (R:=R) (F:=fs.map ah) (kv:=kvT gs) (w:=wid) (k:=k) (r1:=r.1) (r2:=r.2) (l1:=l.1) (l2:=l.2) (x9:=x9) c;refine⟨some (.sh (mk2 l)),some (.sh (.int (l.1 -r.1))), ?_⟩;unfold jt;rw[Gaj c,Gbs,Gay];have e1:D.tup [.int r.1,.int r.2]=mk2 r:=rfl;have e2:D.tup [.int l.1,.int l.2]=mk2 l:=rfl;rw[e1,e2] at ev;generalize mk2 l=ld at*;simp only[forL,gN,GaM,GaN,Option.bind_some,ev]
  .have l0:=hl l Gak;obtain⟨n,hn⟩:=GaG SM;obtain⟨m,hm⟩:=GaG l0.1;have hJ :n<w.orders.length:=by lia
   have yo :m<w.orders.length:=by lia
   have h1:atD (w.orders.map af) r.2=some (af w.orders[n]):=by rw[hn,bU,Gam,Gab hJ];rfl
   have h2:atD (w.orders.map af) l.2=some (af w.orders[m]):=by rw[hm,bU,Gam,Gab yo];rfl
   have eb:=oh (gs:=gs) (a:=w.orders[n]) (b:=w.orders[m]);have ev:=MO (A:=A) (B:=B) (C:=C) (G:=G) (R:=R) (F:=fs.map ah) (k:=k) (x9:=x9) c h1 h2 eb (by rw[Gad];lia);have eg:(if l.1 -r.1<lY gs w.orders[n] w.orders[m] then[D.tup [.str "gap",.int r.2,.int r.1,.int l.2,.int l.1]] else[])=(gpF w.orders gs r l).map ah:=by
    unfold gpF;rw[hn,hm,GaI,GaI,Gab hJ,Gab yo];dsimp only;split<;>rfl
   rw[eg,<-GaC] at ev;have g1:=vq w.orders gs r l;obtain⟨y8,y9,e⟩:=rg (A:=A) (B:=B) (C:=C) (G:=G) (R:=R) (gs:=gs) (wid:=wid) (k:=k) SM TZ ls (fs++gpF w.orders gs r l) (some (.sh (mk2 l))) (some (.sh (.int (l.1 -r.1)))) (λx hx=>hl x (Gag _ hx)) (by rw[Gah];lia);refine⟨y8,y9, ?_⟩
   conv=>rhs;unfold jt
   rw[Gai c,Gay,<-GaW];have e1:D.tup [.int r.1,.int r.2]=mk2 r:=rfl;have e2:D.tup [.int l.1,.int l.2]=mk2 l:=rfl;rw[e1,e2] at ev;generalize mk2 l=ld at*;simp only[forL,gN,GaM,GaN,Option.bind_some,ev];exact e
variable{e' :DL.Env}{L:List D}{x8:Os}
theorem Ku{k:Int}(hs:slD (some (k+1)) none (.lst R)=some ⟨.tn,.lst L⟩)(h:forL (gN 8) bq L [e0,e1,e2,e3,some (.lok (.lst R)),e5,some (.sh (.int k)),e7,x8,x9]=some (.nx e')):
  c9 [e0,e1,e2,e3,some (.lok (.lst R)),e5,some (.sh (.int k)),e7,x8,x9]=some (.nx e'):=by
 unfold c9;simp[-forL,hs,h,freed]
theorem Ij(R:List D)(j:Nat):slD (some ((j:Int)+1)) none (.lst R)=some ⟨.tn,.lst (R.drop (j+1))⟩:=by
 show some (⟨.tn,.lst (cutD R (some ((j:Int)+1)) none)⟩:RV)=_;have e:sIx R.length 0 (some ((j:Int)+1))=min (j+1) R.length:=by
  show(if(j:Int)+1<0 then((j:Int)+1+(R.length:Int)).toNat else min ((j:Int)+1).toNat R.length)=_;rw[Gai (by lia)];congr 1
 unfold cutD;have e2:sIx R.length R.length none=R.length:=rfl;rw[e,e2];congr 3;rw[List.take_of_length_le (by rw[Gcc];lia)];by_cases c:j+1<=R.length
 .rw[Nat.min_eq_left c]
 .rw[Nat.min_eq_right (by lia),GdE,Gdx (by lia)]
theorem oO{w:World}{gs:List Tr}{wid:Int}{A B C G:List D}{eh:List (Int×Int)}(hr:∀l∈eh,0<=l.2/\l.2<w.orders.length)(hn:eh.length<64):∀(m j:Nat) (fs:List Flt) (x6 x7 x8 x9:Os),eh.length -j=m->fs.length<=64*j->∃y6 y7 y8 y9,
  forL (gT [6,7]) c9 (dm j ((eh.drop j).map mk2)) [some (.sh (.tup [.tup A,.tup B,.tup C,.tup (w.orders.map af)])),some (.sh (.tup G)),some (.own (.dT (kvT gs))),some (.sh (.int wid)),some (.lok (.lst (eh.map mk2))),some (.own (.lst (fs.map ah))),x6,x7,x8,x9]=
   some (.nx [some (.sh (.tup [.tup A,.tup B,.tup C,.tup (w.orders.map af)])),some (.sh (.tup G)),some (.own (.dT (kvT gs))),some (.sh (.int wid)),some (.lok (.lst (eh.map mk2))),some (.own (.lst ((fs++cF w.orders gs wid (eh.drop j)).map ah))),y6,y7,y8,y9])
 |0,j,fs,x6,x7,x8,x9,hm,hf=>by
  rw[Gdx (by lia)];exact⟨x6,x7,x8,x9,by simp[cF]⟩
 |m+1,j,fs,x6,x7,x8,x9,hm,hf=>by
  have hj:j<eh.length:=by lia
  have ed:eh.drop j=eh[j]::eh.drop (j+1):=GbT hj;have r0:=hr eh[j] (GaF hj);obtain⟨y8,y9,e⟩:=rg (w:=w) (gs:=gs) (wid:=wid) (k:=(j:Int)) (A:=A) (B:=B) (C:=C) (G:=G) (R:=eh.map mk2) (r:=eh[j]) r0.1 r0.2 (eh.drop (j+1)) fs x8 x9 (λl hl=>hr l (List.mem_of_mem_drop hl)) (by rw[Gcc];lia);have lz:=om w.orders gs wid eh[j] (eh.drop (j+1));rw[Gcc] at lz;obtain⟨z6,z7,z8,z9,e2⟩:=oO (w:=w) (gs:=gs) (wid:=wid) (A:=A) (B:=B) (C:=C) (G:=G) (eh:=eh) hr hn m (j+1) (fs++jt w.orders gs wid eh[j] (eh.drop (j+1))) (some (.sh (.int (j:Int)))) (some (.sh (mk2 eh[j]))) y8 y9 (by lia) (by rw[Gah];lia);refine⟨z6,z7,z8,z9, ?_⟩;have ev:=Ku (Ij (eh.map mk2) j) ((by rw[<-List.map_drop];exact e):forL (gN 8) bq ((eh.map mk2).drop (j+1)) _=_);rw[ed,Gay]
  conv=>rhs;unfold cF
  rw[<-GaW];show forL (gT [6,7]) c9 (D.tup [.int (j:Int),mk2 eh[j]]::dm (j+1) ((eh.drop (j+1)).map mk2)) _=_;generalize eh[j]=rj at*;generalize (j:Int)=ji at*;generalize mk2 rj=rd at*;simp only[forL,gT,gNs,GaM,GaN,Option.bind_some,ev];exact e2
noncomputable def wide(bs:List Tr):Int:=match bs.map (·.2.2) with
 |[]=>0
 |n::ns=>oY n ns
variable{y8 y9:Os}
theorem Kv{B' R' :List D}{wid:Int}(hg:d6 [.tup C]=some (.dT kv))(zc:C.length<1000)(hw:bX (gN 0) gQ (ixE (vE 0) (kE (.int 2))) C [none]=some B')(hm:mmD oY (.int 0) (.lst B')=some ⟨.c,.int wid⟩)(zg:G.length<1000)(hc:bX (gN 0) gQ (aT (a7 (ixE (vE 0) (kE (.int 1))) (a7 (ixE (vE 0) (kE (.int 0))) aa))) G [none]=some R)(hs:sortedS [.lst R]=some ⟨.tn,.lst R'⟩)
  (hl:forL (gT [6,7]) c9 (dm 0 R') [some (.sh (.tup [.tup A,.tup B,.tup C,.tup O])),some (.sh (.tup G)),some (.own (.dT kv)),some (.sh (.int wid)),some (.lok (.lst R')),some (.own (.lst [])),none,none,none,none]=some (.nx [some (.sh (.tup [.tup A,.tup B,.tup C,.tup O])),some (.sh (.tup G)),some (.own (.dT kv)),some (.sh (.int wid)),some (.lok (.lst R')),some (.own (.lst F)),y6,y7,y8,y9]))(im:aC F=true):
  f9 [.tup [.tup A,.tup B,.tup C,.tup O],.tup G]=some (.lst F):=by
 have z1:C.length<=16777216:=by lia
 have z2:G.length<=16777216:=by lia
 have rk:i7 (.dT kv)=⟨.tn,.dT kv⟩:=rfl;refine b6 rfl ?_;unfold je;refine(ae (by simp[bw,hg,rk];rfl)).trans ?_;refine(ae (by simp[-bX,a9,DL.compEnv,d0,hw,hm,z1];rfl)).trans ?_;refine(ae (by simp[-bX,a9,DL.compEnv,d0,hc,hs,z2];rfl)).trans ?_;refine(ae (by simp[a9];rfl)).trans ?_;refine(ae (by simp[-forL,hl,freed];rfl)).trans ?_;simp[im]
noncomputable def gvR(gv:List Tr):List (Int×Int):=gv.map λt=>(t.2.1,t.1)
theorem PB(W:aH w)(hg:bC w.orders.length gv)(hl:gv.length<64):∃eh:List (Int×Int),bY ((gvR gv).map mk2)=eh.map mk2/\eh.Perm (gvR gv)/\(eh.Pairwise λa b=>a.1<=b.1)/\f9 [az w,.tup (gv.map trD)]=some (.lst ((cF w.orders (w.aQ.foldl aL []) (wide w.aQ) eh).map ah)):=by
 obtain⟨eh,r1,r2,r3⟩:=Al (gvR gv);refine⟨eh,r1,r2,r3, ?_⟩;have lr:eh.length=gv.length:=by rw[r2.length_eq];simp[gvR]
 have hr:∀l∈eh,0<=l.2/\l.2<w.orders.length:=λl hl=>by
  obtain⟨t,ht,rfl⟩:=Gax.mp (r2.mem_iff.mp hl);exact hg t ht
 have b12:=W.b12;have hw:=fB (g:=gN 0) (f:=ixE (vE 0) (kE (.int 2))) trD (λenv=>∃y,env=[y]) (λt=>D.int t.2.2) w.aQ [none] ⟨none,rfl⟩ (by
  rintro t ht env ⟨y,rfl⟩;exact⟨_,rfl,⟨_,rfl⟩,.c,by simp[trD],rfl⟩)
 have hc:=fB (g:=gN 0) (f:=aT (a7 (ixE (vE 0) (kE (.int 1))) (a7 (ixE (vE 0) (kE (.int 0))) aa))) trD (λenv=>∃y,env=[y]) (λt=>mk2 (t.2.1,t.1)) gv [none] ⟨none,rfl⟩ (by
  rintro t ht env ⟨y,rfl⟩;exact⟨_,rfl,⟨_,rfl⟩,.c,by simp[trD,mk2,a9],rfl⟩)
 have e1:gv.map (λt=>mk2 (t.2.1,t.1))=(gvR gv).map mk2:=by unfold gvR;rw[GaS];rfl
 have e2:w.aQ.map (λt=>D.int t.2.2)=(w.aQ.map (·.2.2)).map D.int:=by rw[GaS];rfl
 rw[e1] at hc;rw[e2] at hw;have hm:mmD oY (.int 0) (.lst ((w.aQ.map (·.2.2)).map D.int))=some ⟨.c,.int (wide w.aQ)⟩:=by
  unfold mmD jH wide;simp only[Option.bind_some,Fq];cases w.aQ.map (·.2.2)<;>rfl
 have hs:=qZ (ms:=gvR gv) (by simp[gvR];exact hl);rw[r1] at hs;obtain⟨y6,y7,y8,y9,e⟩:=oO (w:=w) (gs:=w.aQ.foldl aL []) (wid:=wide w.aQ) (A:=w.b7.map aN) (B:=w.ai.map av) (C:=w.aQ.map trD) (G:=gv.map trD) (eh:=eh) hr (by lia) _ 0 [] none none none none rfl (by simp);rw[List.drop_zero,GbB] at e;exact Kv (MK b12) (by rw[Gad];lia) hw hm (by rw[Gad];lia) hc hs e (cZ _)
abbrev Tg:=(Int×Int)×List (Int×Int)
noncomputable def k8(st:List Tg):Rws:=st.map λe=>([Sum.inl e.1.1,Sum.inl e.1.2],D.lst (e.2.map mk2))
noncomputable def tk(os:List Order)(t:Tr):Int×Int:=match os[t.1.toNat]? with
 |some o=>(o.ar,o.aq)
 |none=>(0,0)
noncomputable def DN(st:List Tg)(k m:Int×Int):List Tg:=match st.findIdx? (λe=>decide (e.1=k)) with
 |some j=>st.set j (k,((st[j]?.map (·.2)).getD [])++[m])
 |none=>st++[(k,[m])]
theorem Ik(k:Int×Int)(e:Tg):decide (([Sum.inl e.1.1,Sum.inl e.1.2]:List Key)=[Sum.inl k.1,Sum.inl k.2])=decide (e.1=k):=by
 rw[decide_eq_decide];obtain⟨⟨a,b⟩,l⟩:=e;obtain⟨c,d⟩:=k;simp
variable{st:List Tg}
theorem Il{k m:Int×Int}(hz:st.length<1000)(hm:∀e∈st,e.2.length<1000):Gx (k8 st) [Sum.inl k.1,Sum.inl k.2] (mk2 m)=some (k8 (DN st k m)):=by
 unfold Gx DN;have z:(k8 st).length<a9:=by unfold k8 a9;rw[Gad];lia
 rw[Gaj z];have ef:(k8 st).findIdx? (λp=>decide (p.1=[Sum.inl k.1,Sum.inl k.2]))=st.findIdx? (λe=>decide (e.1=k)):=by
  unfold k8;rw[Geb];congr 1
  funext e
  exact Ik k e
 rw[ef];cases h:st.findIdx? (λe=>decide (e.1=k)) with
 |none=>
  dsimp only;unfold k8;rw[GaC]
  rfl
 |some j=>
  obtain⟨hj,_⟩:=Gdy.mp h;have e1:(k8 st)[j]? =some ([Sum.inl st[j].1.1,Sum.inl st[j].1.2],D.lst (st[j].2.map mk2)):=by
   unfold k8;rw[Gam,Gab hj]
   rfl
  have z2:(st[j].2.map mk2).length<a9:=by
   have:=hm st[j] (GaF hj);rw[Gad];unfold a9;lia
  simp only[e1];rw[Gaj z2];rw[Gab hj];unfold k8;rw[List.map_set];simp
structure n8(os:List Order)(pre:List Tr)(st:List Tg):Prop where
 nd:(st.map (·.1)).Nodup
 ms:∀e∈st,e.2=(pre.filter λt=>decide (tk os t=e.1)).map λt=>(t.2.1,t.2.2)
 cov:∀t∈pre,tk os t∈st.map (·.1)
 back:∀e∈st,∃t∈pre,tk os t=e.1
 ln:st.length<=pre.length
variable{pre:List Tr}{os:List Order}
theorem n8.step(I:n8 os pre st)(t:Tr):n8 os (pre++[t]) (DN st (tk os t) (t.2.1,t.2.2)):=by
 obtain⟨nd,ms,cov,back,ln⟩:=I;generalize hk:tk os t=k;have flt:∀q:Int×Int,((pre++[t]).filter λt=>decide (tk os t=q))=(pre.filter λt=>decide (tk os t=q))++(if k=q then[t] else[]):=λq=>by
  rw[GdY];congr 1;by_cases c:k=q
  .rw[Gaj c];simp[hk,c]
  .rw[Gai c];simp[hk,c]
 unfold DN;cases h:st.findIdx? (λe=>decide (e.1=k)) with
 |none=>
  have no:=List.findIdx?_eq_none_iff.mp h;have nk:k∉st.map (·.1):=λhm=>by
   obtain⟨e,he,ek⟩:=Gax.mp hm;have:=no e he;simp[ek] at this
  have pre0:(pre.filter λt=>decide (tk os t=k))=[]:=by
   rw[List.filter_eq_nil_iff];intro x hx;have:=cov x hx;simp;intro q;rw[q] at this;exact nk this
  dsimp only;refine⟨?_, ?_, ?_, ?_,by simp;lia⟩
  .rw[GaC,GcR];refine⟨nd,by simp, ?_⟩;intro a ha b hb;simp at hb;rw[hb]
   exactλq=>nk (q▸ha)
  .intro e he;rcases GaL.mp he with he|he
   .rw[flt,Gai (λq=>nk (Gax.mpr ⟨e,he,q.symm⟩)),Gbs];exact ms e he
   .simp at he;rw[he,flt,pre0];simp
  .intro x hx;rw[GaC];rcases GaL.mp hx with hx|hx
   .exact GbV _ (cov x hx)
   .simp at hx;rw[hx,hk];simp
  .intro e he;rcases GaL.mp he with he|he
   .obtain⟨x,hx,q⟩:=back e he;exact⟨x,GbV _ hx,q⟩
   .simp at he;rw[he];exact⟨t,by simp,hk⟩
 |some j=>
  obtain⟨hj,hp,_⟩:=Gdy.mp h;have ek:st[j].1=k:=Gaq hp;dsimp only;rw[Gab hj];have keys:(st.set j (k,(((some st[j]).map (·.2)).getD [])++[(t.2.1,t.2.2)])).map (·.1)=st.map (·.1):=by
   rw[List.map_set];have:k=(st.map (·.1))[j]'(by simpa using hj):=by rw[Gcf,ek]
   simp only
   conv=>lhs;arg 3;rw[this]
   exact List.set_getElem_self _
  have mem:∀e∈st.set j (k,(((some st[j]).map (·.2)).getD [])++[(t.2.1,t.2.2)]),e=(k,st[j].2++[(t.2.1,t.2.2)])\/(e∈st/\e.1≠k):=by
   intro e he;obtain⟨i,hi,rfl⟩:=GbM he;have eZ :i<st.length:=by simpa using hi
   by_cases c:j=i
   .subst c
    left
    simp
   .right
    rw[List.getElem_set_ne c];refine⟨GaF eZ,λq=>c ?_⟩;have e1:(st.map (·.1))[j]'(by simpa using hj)=(st.map (·.1))[i]'(by simpa using eZ):=by rw[Gcf,Gcf,ek,q]
    exact(List.getElem_inj nd).mp e1
  refine⟨by rw[keys];exact nd, ?_, ?_, ?_,by simp;lia⟩
  .intro e he;rcases mem e he with q| ⟨q1,q2⟩
   .rw[q];have:=ms st[j] (GaF hj);rw[ek] at this;rw[flt,Gaj rfl,GaC,<-this]
    rfl
   .rw[flt,Gai (λz=>q2 z.symm),Gbs];exact ms e q1
  .intro x hx;rw[keys];rcases GaL.mp hx with hx|hx
   .exact cov x hx
   .simp at hx;rw[hx,hk,<-ek];exact Gax.mpr ⟨_,GaF hj,rfl⟩
  .intro e he;rcases mem e he with q| ⟨q1,q2⟩
   .rw[q];exact⟨t,by simp,hk⟩
   .obtain⟨x,hx,q⟩:=back e q1;exact⟨x,GbV _ hx,q⟩
theorem n8.PC(I:n8 os pre st){e:Tg}(he:e∈st):e.2.length<=pre.length:=by
 rw[I.ms e he,Gad];exact GbI _ _
variable{s:Int}
theorem Kw{eh xX :Rws}(hO:atD O n=some OD)(im:OD.imm=true)(h1:ixD OD (.int 1)=some (.int g))(h2:ixD OD (.int 2)=some (.int s))(hs:Gx eh [Sum.inl g,Sum.inl s] (.tup [.int h,.int a])=some xX):
  bG [some (.sh (.tup [.tup A,.tup B,.tup C,.tup O])),some (.sh (.tup G)),none,some (.sh (.tup [.int n,.int h,.int a])),x4] eh=some ([some (.sh (.tup [.tup A,.tup B,.tup C,.tup O])),some (.sh (.tup G)),none,some (.sh (.tup [.int n,.int h,.int a])),some (.sh OD)],xX):=by
 unfold bG;simp[hO,im,h1,h2,hs,a9,keysOf,keyOf,D1]
theorem u7{w:World}(W:aH w){A B C G:List D}:∀(gv pre:List Tr) (st:List Tg) (x3 x4:Os),bC w.orders.length gv->n8 w.orders pre st->pre.length+gv.length<64->∃y3 y4 xK,n8 w.orders (pre++gv) xK /\
  mD 3 bG (gv.map trD) [some (.sh (.tup [.tup A,.tup B,.tup C,.tup (w.orders.map af)])),some (.sh (.tup G)),none,x3,x4] (k8 st)=some ([some (.sh (.tup [.tup A,.tup B,.tup C,.tup (w.orders.map af)])),some (.sh (.tup G)),none,y3,y4],k8 xK)
 |[],pre,st,x3,x4,_,I,_=> ⟨x3,x4,st,by rw[Gbs];exact I,by simp⟩
 |t::gv,pre,st,x3,x4,hg,I,hl=>by
  rw[GaE] at hl;have g0:=hg t Gak;obtain⟨n,hn⟩:=GaG g0.1;have hJ :n<w.orders.length:=by lia
  have hO:atD (w.orders.map af) t.1=some (af w.orders[n]):=by
   rw[hn,bU,Gam,Gab hJ];rfl
  have ok:=W.oo w.orders[n] (GaF hJ);have ek:tk w.orders t=(w.orders[n].ar,w.orders[n].aq):=by
   unfold tk;rw[hn,GaI,Gab hJ]
  have ln:=I.ln;have sd:=Il (st:=st) (k:=tk w.orders t) (m:=(t.2.1,t.2.2)) (by lia) (λe he=>by have:=I.PC he;lia);have ev:=Kw (A:=A) (B:=B) (C:=C) (G:=G) (n:=t.1) (h:=t.2.1) (a:=t.2.2) (g:=w.orders[n].ar) (s:=w.orders[n].aq) (x4:=x4) hO (cj _ ok.ti) rfl rfl (by rw[ek] at sd;exact sd);obtain⟨y3,y4,xK,I',e⟩:=u7 W (A:=A) (B:=B) (C:=C) (G:=G) gv (pre++[t]) _ (some (.sh (trD t))) (some (.sh (af w.orders[n]))) (λx hx=>hg x (Gag _ hx)) (I.step t) (by simp;lia);refine⟨y3,y4,xK,by rw[GaW] at I';exact I', ?_⟩;rw[Gay];have td:D.tup [.int t.1,.int t.2.1,.int t.2.2]=trD t:=rfl;rw[td] at ev;rw[ek] at e;generalize trD t=d at*;simp only[mD,GaM,GaN,ev,Option.bind_some];exact e
theorem Fz{kv:Rws}(ig:aC G=true)(h:mD 3 bG G [some (.sh (.tup [.tup A,.tup B,.tup C,.tup O])),some (.sh (.tup G)),none,none,none] []=some ([some (.sh (.tup [.tup A,.tup B,.tup C,.tup O])),some (.sh (.tup G)),none,y3,y4],kv)):cg [.tup [.tup A,.tup B,.tup C,.tup O],.tup G]=some (.dT kv):=by
 refine b6 rfl ?_;unfold dZ;simp[-mD,bw,ig,h]
theorem Kx(W:aH w)(hg:bC w.orders.length gv)(hl:gv.length<64):∃st,n8 w.orders gv st/\cg [az w,.tup (gv.map trD)]=some (.dT (k8 st)):=by
 obtain⟨y3,y4,st,I,e⟩:=u7 W (A:=w.b7.map aN) (B:=w.ai.map av) (C:=w.aQ.map trD) (G:=gv.map trD) gv [] [] none none hg ⟨by simp,by simp,by simp,by simp,by simp⟩ (by simpa using hl);exact⟨st,by simpa using I,Fz (bJ gv) e⟩
noncomputable def k9(ns:List Int):List Int:=(bY ((ddF ns).map D.int)).map unI
theorem ka(ns:List Int):(k9 ns).Pairwise (λa b=>a<b)/\(∀x,x∈k9 ns↔x∈ns)/\(k9 ns).length<=ns.length:=by
 obtain⟨S,h1,h2,h3,h4⟩:=Ic ns;have e:k9 ns=S:=by
  unfold k9;rw[h1,GaS]
  conv=>rhs;rw[<-Gcs S]
  exact GaP λ_ _=>rfl
 rw[e];exact⟨h2,h3,h4⟩
noncomputable def iU:Cap->Int->Int->Bool
 | .flat H _,h,a=>decide (h -H<a)&&decide (a<=h)
 | .kilo H _ _,h,a=>decide (h -H<a)&&decide (a<=h)
 | .ever _,h,a=>decide (a<=h)
noncomputable def iA(c:Cap)(ms:List (Int×Int))(h:Int):Int:=(ms.map λp=>if iU c h p.1 then p.2 else 0).sum
noncomputable def kb:Cap->D
 | .flat H _=> .int H
 | .kilo H _ _=> .int H
 | .ever _=> .non
theorem PD(ms:List (Int×Int)):∃H:Int,∀p∈ms,∀q∈ms,q.1 -H<p.1:=by
 have:∃B:Int,∀p∈ms,-B<p.1/\p.1<B:=by
  induction ms with
  |nil=>exact⟨0,by simp⟩
  |cons p ms ih=>
   obtain⟨B,hB⟩:=ih;refine⟨(if B<0 then -B else B)+(if p.1<0 then -p.1 else p.1)+1, ?_⟩;intro q hq;rcases GaB.mp hq with rfl|hq
   .split<;>split<;>lia
   .have:=hB q hq;split<;>split<;>lia
 obtain⟨B,hB⟩:=this;refine⟨2*B,λp hp q hq=> ?_⟩;have:=hB p hp;have:=hB q hq;lia
theorem Io{ms:List (Int×Int)}(ok:l9 c)(hl:ms.length<64):ip [.lst (ms.map mk2),kb c]=some (.lst (((k9 (ms.map (·.1))).map λh=>(h,iA c ms h)).map mk2)):=by
 obtain⟨h1,h2,h3⟩:=ka (ms.map (·.1));have fin:∀(H:Int),(∀h,h∈ms.map (·.1)->∀p∈ms,wt H h p=if iU c h p.1 then p.2 else 0)->Ie ms H (k9 (ms.map (·.1)))=(k9 (ms.map (·.1))).map λh=>(h,iA c ms h):=λH e=>by
  unfold Ie;refine GaP λh hh=> ?_;unfold W iA;rw[GaP λp hp=>e h ((h2 h).mp hh) p hp]
 have lim:∀(H h:Int) (p:Int×Int),wt H h p=if(decide (h -H<p.1)&&decide (p.1<=h)) then p.2 else 0:=λH h p=>by
  unfold wt;by_cases c1:h -H<p.1<;>by_cases c2:p.1<=h<;>simp[c1,c2]
 cases c with
 |flat H t=>
  rw[<-fin H (λh _ p _=>lim H h p)];exact r9 (.inl ⟨rfl,ok.1⟩) (List.Perm.refl _) hl h1 h2
 |kilo H t p=>
  rw[<-fin H (λh _ p _=>lim H h p)];exact r9 (.inl ⟨rfl,ok.1⟩) (List.Perm.refl _) hl h1 h2
 |ever t=>
  obtain⟨H,hH⟩:=PD ms;rw[<-fin H (λh hh p hp=>by
   obtain⟨q,hq,rfl⟩:=Gax.mp hh;rw[lim];have:=hH p hp q hq;simp[iU,this])]
  exact r9 (.inr ⟨rfl,hH⟩) (List.Perm.refl _) hl h1 h2
noncomputable def fD(ws:List Tr)(c:Cap)(g s k:Int)(r:Int×Int):List Flt:=match cu c (wgt g r.1 ws none) with
 |some top=>if r.2>top then[("cap",[g,s,k,r.1,r.2,top])] else[]
 |none=>[]
noncomputable def kf(ws:List Tr)(g s k:Int)(c:Cap)(ms:List (Int×Int)):List Flt:=((k9 (ms.map (·.1))).map λh=>(h,iA c ms h)).flatMap (fD ws c g s k)
noncomputable def ju(ws:List Tr)(g s:Int)(ms:List (Int×Int)):Nat->List Cap->List Flt
 |_,[]=>[]
 |k,c::cs=>kf ws g s (k:Int) c ms++ju ws g s ms (k+1) cs
theorem jn(ws:List Tr)(c:Cap)(g s k:Int)(r:Int×Int):(fD ws c g s k r).length<=1:=by
 unfold fD;split
 .split<;>simp
 .simp
theorem n9{α β:Type}(f:α->List β)(h:∀a,(f a).length<=1):∀l:List α,(l.flatMap f).length<=l.length
 |[]=>by simp
 |a::l=>by
  have h1:=h a;have h2:=n9 f h l;simp;simp at h2;lia
theorem rh(ws:List Tr)(g s k:Int)(c:Cap)(ms:List (Int×Int)):(kf ws g s k c ms).length<=ms.length:=by
 unfold kf;have h1:=n9 _ (jn ws c g s k) ((k9 (ms.map (·.1))).map λh=>(h,iA c ms h));have h2:=(ka (ms.map (·.1))).2.2;rw[Gad] at h1 h2;lia
theorem kL(ws:List Tr)(g s:Int)(ms:List (Int×Int)):∀(k:Nat) (cs:List Cap),(ju ws g s ms k cs).length<=cs.length*ms.length
 |_,[]=>by simp[ju]
 |k,c::cs=>by
  have h1:=rh ws g s (k:Int) c ms;have h2:=kL ws g s ms (k+1) cs;unfold ju;rw[Gah,GaE,Geg];lia
noncomputable def FA(to:Option Int)(g s k r1 r2:Int):List D:=match to with
 |some top=>if r2>top then[D.tup [.str "cap",.int g,.int s,.int k,.int r1,.int r2,.int top]] else[]
 |none=>[]
variable{wo to:Option Int}{cd:D}{e9 eR:Os}
theorem MP{W:List D}{T0:D}{k:Int}(ew:fJ [.tup W,.int g,.int r1]=some (d9 wo))(eb:gW [cd,d9 wo]=some (d9 to))(hz:F.length<100000):
  c5 [e0,some (.sh (.tup W)),e2,some (.own (.lst F)),some (.sh (.tup [.int g,.int s])),e5,some (.sh (.int g)),some (.sh (.int k)),some (.sh cd),e9,some (.sh (.tup [.int r1,.int r2])),eR]=
   some (.nx [e0,some (.sh (.tup W)),e2,some (.own (.lst (F++FA to g s k r1 r2))),some (.sh (.tup [.int g,.int s])),e5,some (.sh (.int g)),some (.sh (.int k)),some (.sh cd),e9,some (.sh (.tup [.int r1,.int r2])),some (.sh (d9 to))]):=by
 have z:F.length<16777216:=by lia
 have xB :=aM (cK wo);have rt:=aM (cK to);unfold c5;refine(ae (by simp[ew,xB,eb,rt];rfl)).trans ?_;cases to with
 |none=>simp[dR,bF,FA]
 |some top=>
  by_cases c:r2>top
  .have c' :top<r2:=c;simp[dR,bF,c',z,a9,FA]
  .have c' :¬top<r2:=c;simp[dR,bF,c',FA]
theorem Ap{ws:List Tr}{c:Cap}{g s k:Int}{e0 e2 e5 e9:Os}(ok:l9 c):∀(rs:List (Int×Int)) (fs:List Flt) (eN eR:Os),fs.length+rs.length<100000->∃eQ h8,
  forL (gN 10) c5 (rs.map mk2) [e0,some (.sh (.tup (ws.map trD))),e2,some (.own (.lst (fs.map ah))),some (.sh (.tup [.int g,.int s])),e5,some (.sh (.int g)),some (.sh (.int k)),some (.sh (aV c)),e9,eN,eR]=
   some (.nx [e0,some (.sh (.tup (ws.map trD))),e2,some (.own (.lst ((fs++rs.flatMap (fD ws c g s k)).map ah))),some (.sh (.tup [.int g,.int s])),e5,some (.sh (.int g)),some (.sh (.int k)),some (.sh (aV c)),e9,eQ,h8])
 |[],fs,eN,eR,_=> ⟨eN,eR,by simp⟩
 |r::rs,fs,eN,eR,hz=>by
  rw[GaE] at hz;have ew:=jZ (ws:=ws) (g:=g) (h:=r.1);have eb:=Ce (c:=c) (w:=wgt g r.1 ws none) ok;have ev:=MP (e0:=e0) (e2:=e2) (e5:=e5) (e9:=e9) (eR:=eR) (F:=fs.map ah) (T0:= .non) (s:=s) (k:=k) (r2:=r.2) ew eb (by rw[Gad];lia);have eg:FA (cu c (wgt g r.1 ws none)) g s k r.1 r.2=(fD ws c g s k r).map ah:=by
   unfold fD FA;cases cu c (wgt g r.1 ws none) with
   |none=>rfl
   |some top=>
    dsimp only;split<;>rfl
  rw[eg,<-GaC] at ev;have l1:=jn ws c g s k r;obtain⟨eQ,h8,e⟩:=Ap (ws:=ws) (c:=c) (g:=g) (s:=s) (k:=k) (e0:=e0) (e2:=e2) (e5:=e5) (e9:=e9) ok rs (fs++fD ws c g s k r) (some (.sh (mk2 r))) (some (.sh (d9 (cu c (wgt g r.1 ws none))))) (by rw[Gah];lia);refine⟨eQ,h8, ?_⟩;rw[Gay,Gbq,<-GaW];have e2:D.tup [.int r.1,.int r.2]=mk2 r:=rfl;rw[e2] at ev;generalize mk2 r=rd at*;generalize aV c=cd at*;simp only[forL,gN,GaM,GaN,Option.bind_some,ev];exact e
variable{eN:Os}
theorem MQ(hs:ip [.lst M,kb c]=some (.lst R))(h:forL (gN 10) c5 R [e0,e1,e2,e3,e4,some (.sh (.lst M)),e6,e7,some (.sh (aV c)),some (.sh (kb c)),eN,eR]=some (.nx e')):
  c6 [e0,e1,e2,e3,e4,some (.sh (.lst M)),e6,e7,some (.sh (aV c)),x9,eN,eR]=some (.nx e'):=by
 have rl:i7 (.lst R)=⟨.tn,.lst R⟩:=rfl;unfold c6;refine(ae (e:=[e0,e1,e2,e3,e4,some (.sh (.lst M)),e6,e7,some (.sh (aV c)),some (.sh (kb c)),eN,eR]) ?_).trans ?_
 .cases c<;>simp[aV,kb,eqB]
 .have yq :∀d:D,d=kb c->dU none (gr (ak ip (a7 (vE 5) (a7 (vE 9) aa)))) (gN 10) c5 [e0,e1,e2,e3,e4,some (.sh (.lst M)),e6,e7,some (.sh (aV c)),some (.sh d),eN,eR]=some (.nx e'):=λd hd=>by
   rw[<-hd] at hs h;generalize aV c=cd at*;simp[-forL,hs,h,freed]
  exact yq _ rfl
theorem u9{ws:List Tr}{g s:Int}{ms:List (Int×Int)}{e0 e2:Os}(hm:ms.length<64):∀(cs:List Cap) (k:Nat) (fs:List Flt) (x7 x8 x9 eN eR:Os),(∀c∈cs,l9 c)->fs.length+cs.length*ms.length<50000->∃y7 y8 y9 eQ h8,
  forL (gT [7,8]) c6 (dm k (cs.map aV)) [e0,some (.sh (.tup (ws.map trD))),e2,some (.own (.lst (fs.map ah))),some (.sh (.tup [.int g,.int s])),some (.sh (.lst (ms.map mk2))),some (.sh (.int g)),x7,x8,x9,eN,eR]=
   some (.nx [e0,some (.sh (.tup (ws.map trD))),e2,some (.own (.lst ((fs++ju ws g s ms k cs).map ah))),some (.sh (.tup [.int g,.int s])),some (.sh (.lst (ms.map mk2))),some (.sh (.int g)),y7,y8,y9,eQ,h8])
 |[],k,fs,x7,x8,x9,eN,eR,_,_=> ⟨x7,x8,x9,eN,eR,by simp[ju]⟩
 |c::cs,k,fs,x7,x8,x9,eN,eR,ok,hz=>by
  have ok0:=ok c Gak;rw[GaE,Geg] at hz;have es:=Io (ms:=ms) ok0 hm;have hl:=(ka (ms.map (·.1))).2.2;rw[Gad] at hl;obtain⟨eQ,h8,e⟩:=Ap (ws:=ws) (c:=c) (g:=g) (s:=s) (k:=(k:Int)) (e0:=e0) (e2:=e2) (e5:=some (.sh (.lst (ms.map mk2)))) (e9:=some (.sh (kb c))) ok0 ((k9 (ms.map (·.1))).map λh=>(h,iA c ms h)) fs eN eR (by rw[Gad];lia);have ev:=MQ (x9:=x9) es e;have lz:=rh ws g s (k:Int) c ms;obtain⟨z7,z8,z9,yt,yR,e'⟩:=u9 (ws:=ws) (g:=g) (s:=s) (ms:=ms) (e0:=e0) (e2:=e2) hm cs (k+1) (fs++kf ws g s (k:Int) c ms) (some (.sh (.int (k:Int)))) (some (.sh (aV c))) (some (.sh (kb c))) eQ h8 (λx hx=>ok x (Gag _ hx)) (by rw[Gah];lia);refine⟨z7,z8,z9,yt,yR, ?_⟩;rw[Gay]
  conv=>rhs;unfold ju
  rw[<-GaW];show forL (gT [7,8]) c6 (D.tup [.int (k:Int),aV c]::dm (k+1) (cs.map aV)) _=_;unfold kf at e' ⊢;generalize (k:Int)=ki at*;generalize aV c=cd at*;simp only[forL,gT,gNs,GaM,GaN,Option.bind_some,ev];exact e'
noncomputable def tgF(ss:List cX)(ws:List Tr)(e:Tg):List Flt:=ju ws e.1.1 e.1.2 e.2 0 ((ss[e.1.2.toNat]?.map (·.ax)).getD [])
variable{nm yg:D}{x6 x7 eQ h8:Os}{Cs:List D}
theorem PF{W F' :List D}{sz:D}(hS:atD B s=some (.tup [nm,sz,.tup Cs,yg]))
  (h:forL (gT [7,8]) c6 (dm 0 Cs) [some (.sh (.tup [.tup A,.tup B,.tup C,.tup O])),some (.sh (.tup W)),e2,some (.own (.lst F)),some (.sh (.tup [.int g,.int s])),some (.sh (.lst M)),some (.sh (.int g)),x7,x8,x9,eN,eR]=some (.nx [some (.sh (.tup [.tup A,.tup B,.tup C,.tup O])),some (.sh (.tup W)),e2,some (.own (.lst F')),some (.sh (.tup [.int g,.int s])),some (.sh (.lst M)),some (.sh (.int g)),y7,y8,y9,eQ,h8])):
  cI [some (.sh (.tup [.tup A,.tup B,.tup C,.tup O])),some (.sh (.tup W)),e2,some (.own (.lst F)),some (.sh (.tup [.int g,.int s])),some (.sh (.lst M)),x6,x7,x8,x9,eN,eR]=some (.nx [some (.sh (.tup [.tup A,.tup B,.tup C,.tup O])),some (.sh (.tup W)),e2,some (.own (.lst F')),some (.sh (.tup [.int g,.int s])),some (.sh (.lst M)),some (.sh (.int g)),y7,y8,y9,eQ,h8]):=by
 unfold cI;refine(ae (e:=[some (.sh (.tup [.tup A,.tup B,.tup C,.tup O])),some (.sh (.tup W)),e2,some (.own (.lst F)),some (.sh (.tup [.int g,.int s])),some (.sh (.lst M)),some (.sh (.int g)),x7,x8,x9,eN,eR]) (by simp)).trans ?_;simp[-forL,-dm,hS,h,freed]
theorem DP{w:World}(W:aH w){ws:List Tr}{A C O:List D}{e2:Os}:∀(st:List Tg) (fs:List Flt) (x4 x5 x6 x7 x8 x9 eN eR:Os),(∀e∈st,0<=e.1.2/\e.1.2<w.ai.length/\e.2.length<64)->fs.length+st.length*256<40000->∃y4 y5 y6 y7 y8 y9 eQ h8,
  forL (gT [4,5]) cI (cN (k8 st)) [some (.sh (.tup [.tup A,.tup (w.ai.map av),.tup C,.tup O])),some (.sh (.tup (ws.map trD))),e2,some (.own (.lst (fs.map ah))),x4,x5,x6,x7,x8,x9,eN,eR]=
   some (.nx [some (.sh (.tup [.tup A,.tup (w.ai.map av),.tup C,.tup O])),some (.sh (.tup (ws.map trD))),e2,some (.own (.lst ((fs++st.flatMap (tgF w.ai ws)).map ah))),y4,y5,y6,y7,y8,y9,eQ,h8])
 |[],fs,x4,x5,x6,x7,x8,x9,eN,eR,_,_=> ⟨x4,x5,x6,x7,x8,x9,eN,eR,by simp[k8,cN]⟩
 |e::st,fs,x4,x5,x6,x7,x8,x9,eN,eR,he,hz=>by
  rw[GaE,Geg] at hz;obtain⟨s0,s1,ml⟩:=he e Gak;obtain⟨n,hn⟩:=GaG s0;have hJ :n<w.ai.length:=by lia
  have hS:atD (w.ai.map av) e.1.2=some (.tup [.str w.ai[n].name,.tup ((w.ai[n].part::w.ai[n].more).map .int),.tup (w.ai[n].ax.map aV),.int w.ai[n].young]):=by
   rw[hn,bU,Gam,Gab hJ];rfl
  have so:=W.so w.ai[n] (GaF hJ);have et:tgF w.ai ws e=ju ws e.1.1 e.1.2 e.2 0 w.ai[n].ax:=by
   unfold tgF;rw[hn,GaI,Gab hJ]
   rfl
  have cl:=so.cl;have lz:=kL ws e.1.1 e.1.2 e.2 0 w.ai[n].ax;have lz2:w.ai[n].ax.length*e.2.length<=4*64:=Nat.mul_le_mul cl (by lia);obtain⟨y7,y8,y9,eQ,h8,ec⟩:=u9 (ws:=ws) (g:=e.1.1) (s:=e.1.2) (ms:=e.2) (e0:=some (.sh (.tup [.tup A,.tup (w.ai.map av),.tup C,.tup O]))) (e2:=e2) ml w.ai[n].ax 0 fs x7 x8 x9 eN eR so.ok (by lia);have ev:=PF (x6:=x6) hS ec;rw[<-et] at ev lz;obtain⟨z4,z5,z6,z7,z8,z9,yt,yR,e'⟩:=DP W (ws:=ws) (A:=A) (C:=C) (O:=O) (e2:=e2) st (fs++tgF w.ai ws e) (some (.sh (.tup [.int e.1.1,.int e.1.2]))) (some (.sh (.lst (e.2.map mk2)))) (some (.sh (.int e.1.1))) y7 y8 y9 eQ h8 (λx hx=>he x (Gag _ hx)) (by rw[Gah];lia);refine⟨z4,z5,z6,z7,z8,z9,yt,yR, ?_⟩;rw[Gbq,<-GaW];have ei:cN (k8 (e::st))=D.tup [.tup [.int e.1.1,.int e.1.2],.lst (e.2.map mk2)]::cN (k8 st):=rfl;rw[ei];generalize e.2.map mk2=M at*;generalize w.ai.map av=SS at*;simp only[forL,gT,gNs,GaM,GaN,Option.bind_some,ev];exact e'
theorem Ky{W:List D}{kv:Rws}(hm:cg [.tup [.tup A,.tup B,.tup C,.tup O],.tup G]=some (.dT kv))
  (h:forL (gT [4,5]) cI (cN kv) [some (.sh (.tup [.tup A,.tup B,.tup C,.tup O])),some (.sh (.tup W)),some (.sh (.tup G)),some (.own (.lst [])),none,none,none,none,none,none,none,none]=some (.nx [some (.sh (.tup [.tup A,.tup B,.tup C,.tup O])),some (.sh (.tup W)),some (.sh (.tup G)),some (.own (.lst F)),y4,y5,y6,y7,y8,y9,eQ,h8]))(im:aC F=true):
  f7 [.tup [.tup A,.tup B,.tup C,.tup O],.tup W,.tup G]=some (.lst F):=by
 have rk:i7 (.dT kv)=⟨.tn,.dT kv⟩:=rfl;refine b6 rfl ?_;unfold jd;refine(ae (by simp[bw,a9];rfl)).trans ?_;refine(ae (by simp[-forL,hm,rk,h,freed];rfl)).trans ?_;simp[im]
theorem kM{α β:Type}(f:α->List β)(N:Nat):∀l:List α,(∀a∈l,(f a).length<=N)->(l.flatMap f).length<=l.length*N
 |[],_=>by simp
 |a::l,h=>by
  have h1:=h a Gak;have h2:=kM f N l λx hx=>h x (Gag _ hx);rw[Gbq,Gah,GaE,Geg];lia
theorem PH(W:aH w)(hg:bC w.orders.length gv)(hl:gv.length<64):∃st,n8 w.orders gv st/\f7 [az w,.tup (ws.map trD),.tup (gv.map trD)]=some (.lst ((st.flatMap (tgF w.ai ws)).map ah))/\(st.flatMap (tgF w.ai ws)).length<=20000:=by
 obtain⟨st,I,em⟩:=Kx W hg hl;have ln:=I.ln;have he:∀e∈st,0<=e.1.2/\e.1.2<w.ai.length/\e.2.length<64:=λe yp=>by
  obtain⟨t,ht,ek⟩:=I.back e yp;have g0:=hg t ht;obtain⟨n,hn⟩:=GaG g0.1;have hJ :n<w.orders.length:=by lia
  have ok:=W.oo w.orders[n] (GaF hJ);have:tk w.orders t=(w.orders[n].ar,w.orders[n].aq):=by
   unfold tk;rw[hn,GaI,Gab hJ]
  rw[this] at ek;rw[<-ek];have:=I.PC yp;exact⟨ok.s0,ok.s1,by lia⟩
 obtain⟨y4,y5,y6,y7,y8,y9,eQ,h8,e⟩:=DP W (ws:=ws) (A:=w.b7.map aN) (C:=w.aQ.map trD) (O:=w.orders.map af) (e2:=some (.sh (.tup (gv.map trD)))) st [] none none none none none none none none he (by simp;lia);refine⟨st,I,Ky em e (cZ _), ?_⟩;have h1:=kM (tgF w.ai ws) 256 st (λe yp=>by
  have h2:=kL ws e.1.1 e.1.2 e.2 0 ((w.ai[e.1.2.toNat]?.map (·.ax)).getD []);have h3:((w.ai[e.1.2.toNat]?.map (·.ax)).getD []).length<=4:=by
   cases h:w.ai[e.1.2.toNat]? with
   |none=>simp
   |some s=>exact(W.so s (GaD h)).cl
  have h4:=(he e yp).2.2;have h5:=Nat.mul_le_mul h3 (GcS h4);unfold tgF;lia)
 lia
noncomputable def dD(w:World)(ws:List Tr)(t:Tr):List Flt:=match w.orders[t.1.toNat]? with
 |some o=>match w.ai[o.aq.toNat]?,w.b7[o.ar.toNat]? with
  |some s,some g=>(k7 o s g.2 ws t).map λk=>(k,[t.1,t.2.1])
  |_,_=>[]
 |none=>[]
theorem rn(W:aH w){t:Tr}(h0:0<=t.1)(h1:t.1<w.orders.length):dq [az w,.tup (ws.map trD),trD t]=some (.lst ((dD w ws t).map ah))/\(dD w ws t).length<=5:=by
 obtain⟨n,hn⟩:=GaG h0;have hJ :n<w.orders.length:=by lia
 have ok:=W.oo w.orders[n] (GaF hJ);obtain⟨m,hm⟩:=GaG ok.s0;have sl:=ok.s1;have yo :m<w.ai.length:=by lia
 obtain⟨g,hg⟩:=GaG ok.g0;have gl:=ok.g1;have yN :g<w.b7.length:=by lia
 have hO:atD (w.orders.map af) t.1=some (af w.orders[n]):=by rw[hn,bU,Gam,Gab hJ];rfl
 have hS:atD (w.ai.map av) w.orders[n].aq=some (av w.ai[m]):=by rw[hm,bU,Gam,Gab yo];rfl
 have hG:atD (w.b7.map aN) w.orders[n].ar=some (aN w.b7[g]):=by rw[hg,bU,Gam,Gab yN];rfl
 have e:=MG (C:=w.aQ.map trD) (ws:=ws) (t:=t) hO ok.du hS (W.so _ (GaF yo)) hG (cj _ ok.ti);have el:dD w ws t=(k7 w.orders[n] w.ai[m] w.b7[g].2 ws t).map λk=>(k,[t.1,t.2.1]):=by
  unfold dD;rw[hn,GaI,Gab hJ];dsimp only;rw[hm,hg,GaI,GaI,Gab yo,Gab yN]
 constructor
 .rw[el,GaS];exact e
 .rw[el,Gad];unfold k7;have h1:=cz (bh w.orders[n].b5 t.2.1) "astray";have h2:=cz (decide (w.orders[n].most<t.2.2)) "most";have h3:=cz (decide (t.2.2<1)||decide (¬t.2.2%w.ai[m].part=0)) "part";have h4:=cz (w.ai[m].ax.any bA&&(wgt w.orders[n].ar t.2.1 ws none).isNone) "weight";have h5:=cz (decide (t.2.1<w.b7[g].2+w.ai[m].young)) "young";simp only[Gah];lia
theorem MR{e0 e2:Os}{RA gd:D}(h:dq [wd,RA,gd]=some (.lst R))(hz:F.length+R.length<100000):
  fK [some (.sh wd),e1,some (.sh RA),e3,some (.own (.lst F)),some (.sh gd)]=some (.nx [some (.sh wd),e1,some (.sh RA),e3,some (.own (.lst (F++R))),some (.sh gd)]):=by
 have z:F.length+R.length<=16777216:=by lia
 have rl:i7 (.lst R)=⟨.tn,.lst R⟩:=rfl;unfold fK;simp[h,rl,z,a9]
theorem ua{w:World}(W:aH w){ws:List Tr}{e1 e3:Os}:∀(gv:List Tr) (fs:List Flt) (x5:Os),bC w.orders.length gv->fs.length+5*gv.length<100000->∃y5,
  forL (gN 5) fK (gv.map trD) [some (.sh (az w)),e1,some (.sh (.tup (ws.map trD))),e3,some (.own (.lst (fs.map ah))),x5]=some (.nx [some (.sh (az w)),e1,some (.sh (.tup (ws.map trD))),e3,some (.own (.lst ((fs++gv.flatMap (dD w ws)).map ah))),y5])
 |[],fs,x5,_,_=> ⟨x5,by simp⟩
 |t::gv,fs,x5,hg,hz=>by
  rw[GaE] at hz;have g0:=hg t Gak;obtain⟨e,l5⟩:=rn W (ws:=ws) g0.1 g0.2;have ev:=MR (e0:=none) (e1:=e1) (e2:=none) (e3:=e3) (F:=fs.map ah) e (by rw[Gad,Gad];lia);rw[<-GaC] at ev;obtain⟨y5,e'⟩:=ua W (ws:=ws) (e1:=e1) (e3:=e3) gv (fs++dD w ws t) (some (.sh (trD t))) (λx hx=>hg x (Gag _ hx)) (by rw[Gah];lia);refine⟨y5, ?_⟩;rw[Gay,Gbq,<-GaW];generalize trD t=td at*;generalize az w=wd at*;simp only[forL,gN,GaM,GaN,Option.bind_some,ev];exact e'
theorem Aq:∀(a b:List Int),kY (a.map D.int) (b.map D.int)=true
 |[],b=>by cases b<;>rfl
 |x::a,[]=>rfl
 |x::a,y::b=>by
  rw[Gay,Gay];unfold kY;split
  .exact Aq a b
  .rfl
theorem Ar(fs:List Flt):keysOk (fs.map ah)=true:=by
 have h1:(fs.map ah).all (kS 2)=true:=by
  rw[Gbp,Gao];intro p _;show((tyD (.str p.1)==2)&&(p.2.map D.int).all kR)=true;rw[Gbp,Gas];exact⟨rfl,Gao.mpr λ_ _=>rfl⟩
 have h2:((fs.map ah).all λx=>(fs.map ah).all λy=>wm x y)=true:=by
  rw[Gbp,Gao];intro p _;simp only[GbN];rw[Gbp,Gao];intro q _;show kY (.str p.1::p.2.map .int) (.str q.1::q.2.map .int)=true;unfold kY;split
  .exact Aq _ _
  .rfl
 unfold keysOk;rw[h1,h2];simp
noncomputable def unF:D->Flt
 | .tup (.str k::ds)=>(k,ds.map unI)
 |_=>("",[])
theorem Ip(f:Flt):unF (ah f)=f:=by
 show(f.1,(f.2.map D.int).map unI)=f;rw[GaS];have:f.2.map (unI∘D.int)=f.2:=by
  conv=>rhs;rw[<-Gcs f.2]
  exact GaP λ_ _=>rfl
 rw[this]
noncomputable def ub(fs:List Flt):List Flt:=(bY (fs.map ah)).map unF
theorem Cf(fs:List Flt):(fs.map ah).map unF=fs:=by
 rw[GaS]
 conv=>rhs;rw[<-Gcs fs]
 exact GaP λf _=>Ip f
theorem Iq(fs:List Flt):bY (fs.map ah)=(ub fs).map ah:=by
 unfold ub;rw[GaS]
 conv=>lhs;rw[<-Gcs (bY (fs.map ah))]
 refine GaP λx hx=> ?_;obtain⟨f,_,rfl⟩:=Gax.mp ((bS _).mem_iff.mp hx);simp only[GbN,Ip,id]
theorem Cg(fs:List Flt):(ub fs).Perm fs:=by
 have:=(bS (fs.map ah)).map unF;rw[Cf] at this;exact this
theorem Ci(fs:List Flt)(hz:fs.length<64):sortedS [.lst (fs.map ah)]=some ⟨.tn,.lst ((ub fs).map ah)⟩:=by
 have z:(fs.map ah).length<64:=by rw[Gad];exact hz
 unfold sortedS one jH;simp only[Option.bind_some];rw[Ar,Gaz z,Iq]
 rfl
variable{F1 F2 F3:List D}
theorem Cj{W F0:List D}(h0:F1++F2++F3=F0)(h1:f7 [wd,.tup W,.tup G]=some (.lst F1))(h2:f9 [wd,.tup G]=some (.lst F2))(h3:cQ [wd,.tup G]=some (.lst F3))(z:F1.length+F2.length+F3.length<100000)
  (hl:forL (gN 5) fK G [some (.sh wd),some (.sh (.tup [.tup W,.tup G])),some (.sh (.tup W)),some (.sh (.tup G)),some (.own (.lst F0)),none]=some (.nx [some (.sh wd),some (.sh (.tup [.tup W,.tup G])),some (.sh (.tup W)),some (.sh (.tup G)),some (.own (.lst F)),y5]))(hs:sortedS [.lst F]=some ⟨.tn,.lst R⟩)(iw:aC W=true)(ig:aC G=true)(ir:aC R=true):
  iS [wd,.tup [.tup W,.tup G]]=some (.lst R):=by
 have r1:∀L:List D,i7 (.lst L)=⟨.tn,.lst L⟩:=λ_=>rfl;have z1:F1.length+F2.length<=16777216:=by lia
 have z2:F1.length+F2.length+F3.length<=16777216:=by lia
 refine b6 rfl ?_;unfold qU;refine(ae (by simp[bw,iw];rfl)).trans ?_;refine(ae (by simp[ig];rfl)).trans ?_;refine(ae (e:=[some (.sh wd),some (.sh (.tup [.tup W,.tup G])),some (.sh (.tup W)),some (.sh (.tup G)),some (.own (.lst F0)),none]) (by rw[<-h0];simp[h1,h2,h3,r1,z1,z2,a9])).trans ?_;refine(ae (by simp[-forL,hl,freed];rfl)).trans ?_;simp[hs,ir]
theorem rA(os:List Order)(gs:List Tr)(w:Int):∀eh:List (Int×Int),eh.length<64->(cF os gs w eh).length<=64*eh.length
 |[],_=>by simp[cF]
 |r::rs,h=>by
  rw[GaE] at h;have h1:=om os gs w r rs;have h2:=rA os gs w rs (by lia);unfold cF;rw[Gah,GaE];lia
theorem As(W:aH w)(hg:bC w.orders.length gv)(hl:gv.length<64):∃(st:List Tg) (eh:List (Int×Int)),n8 w.orders gv st/\eh.Perm (gvR gv)/\bY ((gvR gv).map mk2)=eh.map mk2/\(eh.Pairwise λa b=>a.1<=b.1)/\
  ((st.flatMap (tgF w.ai ws)++cF w.orders (w.aQ.foldl aL []) (wide w.aQ) eh++twF (gv.foldl (aX w.orders) [])++gv.flatMap (dD w ws)).length<64->iS [az w,.tup [.tup (ws.map trD),.tup (gv.map trD)]]=some (.lst ((ub (st.flatMap (tgF w.ai ws)++cF w.orders (w.aQ.foldl aL []) (wide w.aQ) eh++twF (gv.foldl (aX w.orders) [])++gv.flatMap (dD w ws))).map ah)))/\
  (st.flatMap (tgF w.ai ws)++cF w.orders (w.aQ.foldl aL []) (wide w.aQ) eh++twF (gv.foldl (aX w.orders) [])++gv.flatMap (dD w ws)).length<100000:=by
 obtain⟨st,I,h1,z1⟩:=PH (ws:=ws) W hg hl;obtain⟨eh,r1,r2,r3,h2⟩:=PB W hg hl;obtain⟨h3,z3⟩:=Kp W hg hl;have lr:eh.length=gv.length:=by rw[r2.length_eq];simp[gvR]
 have z2:=rA w.orders (w.aQ.foldl aL []) (wide w.aQ) eh (by lia);have z3' :(twF (gv.foldl (aX w.orders) [])).length<=64:=by
  unfold twF;rw[Gad];have:=GbI (λt:Tr=>decide (1<t.2.2)) (gv.foldl (aX w.orders) []);lia
 have z4:(gv.flatMap (dD w ws)).length<=gv.length*5:=kM _ 5 gv λt ht=>(rn W (ws:=ws) (hg t ht).1 (hg t ht).2).2;obtain⟨y5,e⟩:=ua W (ws:=ws) (e1:=some (.sh (.tup [.tup (ws.map trD),.tup (gv.map trD)]))) (e3:=some (.sh (.tup (gv.map trD)))) gv (st.flatMap (tgF w.ai ws)++cF w.orders (w.aQ.foldl aL []) (wide w.aQ) eh++twF (gv.foldl (aX w.orders) [])) none hg (by simp only[Gah];lia);have zz:(st.flatMap (tgF w.ai ws)++cF w.orders (w.aQ.foldl aL []) (wide w.aQ) eh++twF (gv.foldl (aX w.orders) [])++gv.flatMap (dD w ws)).length<100000:=by
  simp only[Gah];lia
 refine⟨st,eh,I,r2,r1,r3,λTh=> ?_,zz⟩;generalize st.flatMap (tgF w.ai ws)=F1 at*;generalize cF w.orders (w.aQ.foldl aL []) (wide w.aQ) eh=F2 at*;generalize twF (gv.foldl (aX w.orders) [])=F3 at*;rw[GaC,GaC] at e;exact Cj rfl h1 h2 h3 (by simp only[Gad];lia) e (Ci _ Th) (bJ ws) (bJ gv) (cZ _)
variable{ea la:Int}
theorem Kz{e k:Int}(e1:1<=e)(a0:0<=ea)(l0:0<=la)(al:ea+la<e):(b+k*e -ea<=h/\h<=b+k*e+la)↔((h -(b -ea))/e=k/\h -(b -ea)-k*e<=ea+la):=by
 constructor
 .rintro⟨h1,h2⟩;refine⟨?_,by lia⟩;have h3:k<=(h -(b -ea))/e:=(Int.le_ediv_iff_mul_le (by lia)).mpr (by lia);have h4:(h -(b -ea))/e<k+1:=(Int.ediv_lt_iff_lt_mul (by lia)).mpr (by rw[Int.add_mul];lia);lia
 .rintro⟨h1,h2⟩;have h3:(h -(b -ea))/e*e<=h -(b -ea):=Int.ediv_mul_le _ (by lia);rw[h1] at h3;lia
noncomputable def FC(b e ea la h:Int):D->Option D
 | .int k=>if b+k*e -ea<=h/\h<=b+k*e+la then some (.int k) else none
 |_=>none
theorem nh{e k:Int}:FC b e ea la h (.int k)=if b+k*e -ea<=h/\h<=b+k*e+la then some (.int k) else none:=rfl
theorem Ir{e m:Int}(e1:1<=e)(m0:0<=m)(a0:0<=ea)(l0:0<=la)(al:ea+la<e):(aJ 0 m.toNat).findSome? (FC b e ea la h)=(pe b e m ea la h).map D.int:=by
 have iff:=λk=>Kz (b:=b) (e:=e) (ea:=ea) (la:=la) (h:=h) (k:=k) e1 a0 l0 al;unfold pe;generalize hq:(h -(b -ea))/e=q at*;by_cases c:(0<=q/\q<m)/\h -(b -ea)-q*e<=ea+la
 .rw[Gaj c];obtain⟨n,hn⟩:=GaG c.1.1;have hm:D.int q∈aJ 0 m.toNat:=by
   unfold aJ;exact Gax.mpr ⟨n,GaV.mpr (by lia),by rw[hn];simp⟩
  have hr:FC b e ea la h (.int q)=some (.int q):=by
   rw[nh,Gaj ((iff q).mpr ⟨rfl,c.2⟩)]
  cases hf:(aJ 0 m.toNat).findSome? (FC b e ea la h) with
  |none=>rw[List.findSome?_eq_none_iff.mp hf _ hm] at hr;cases hr
  |some v=>
   obtain⟨d,hd,hv⟩:=List.exists_of_findSome?_eq_some hf;obtain⟨i,hi⟩:=Gcr hd;obtain⟨eZ,rfl⟩:=bz hi;rw[nh] at hv;split at hv
   .rename_i cc;rw[<-((iff _).mp cc).1] at hv;injection hv with hv
    rw[<-hv];rfl
   .cases hv
 .rw[Gai c];rw[Option.map_none,List.findSome?_eq_none_iff];intro d hd;obtain⟨i,hi⟩:=Gcr hd;obtain⟨eZ,rfl⟩:=bz hi;rw[nh,Gai];intro cc;have:=(iff _).mp cc;exact c ⟨by lia,by rw[this.1];exact this.2⟩
theorem ni(ok:jm o.b5):gc [af o,.int h]=some (d9 (cq o.b5 h)):=by
 have p4:ixD (af o) (.int 4)=some (cY o.b5):=rfl;generalize af o=OD at*;cases hu:o.b5 with
 |asked b=>
  rw[hu] at p4;unfold cY at p4;refine b6 rfl ?_;unfold kJ cq;refine(ae (by simp[bw,p4,eqB];rfl)).trans ?_;simp
 |due b e m ea la=>
  rw[hu] at p4 ok;obtain⟨e1,e2,hm,a0,l0,al,ab,b3⟩:=ok;have me:∀j,aZ j e=true:=λj=>fX (by lia) (by lia);have sm:aY m=true:=bL (by lia) (by lia);unfold cY at p4;have step:∀(k:Int) (x3:Os),fg [some (.sh OD),some (.sh (.int h)),some (.sh (.int k)),x3]=if b+k*e -ea<=h/\h<=b+k*e+la then some (.ret (.int k)) else some (.nx [some (.sh OD),some (.sh (.int h)),some (.sh (.int k)),some (.sh (.int (b+k*e)))]):=by
   intro k x3;unfold fg;by_cases c1:b+k*e -ea<=h
   .by_cases c2:h<=b+k*e+la
    .simp[p4,c1,c2,me]
    .simp[p4,c1,c2,me]
   .simp[p4,c1,me]
  have key:∀(l:List D) (x2 x3:Os),(∀d∈l,∃k:Int,d= .int k)->(match l.findSome? (FC b e ea la h) with|some d=>forL (gN 2) fg l [some (.sh OD),some (.sh (.int h)),x2,x3]=some (.ret d)|none=>∃y2 y3,forL (gN 2) fg l [some (.sh OD),some (.sh (.int h)),x2,x3]=some (.nx [some (.sh OD),some (.sh (.int h)),y2,y3])):=by
   intro l;induction l with
   |nil=>intro x2 x3 _;exact⟨x2,x3,by simp⟩
   |cons d l ih=>
    intro x2 x3 hd;obtain⟨k,rfl⟩:=hd d Gak;have sv:=step k x3;rw[List.findSome?_cons,nh];by_cases c:b+k*e -ea<=h/\h<=b+k*e+la
    .rw[Gaj c] at sv⊢;dsimp only;simp only[forL,gN,GaM,GaN,Option.bind_some,sv]
    .rw[Gai c] at sv⊢;dsimp only;have q:=ih (some (.sh (.int k))) (some (.sh (.int (b+k*e)))) λx hx=>hd x (Gag _ hx);cases hf:l.findSome? (FC b e ea la h) with
     |none=>
      rw[hf] at q;obtain⟨y2,y3,q⟩:=q;refine⟨y2,y3, ?_⟩;simp only[forL,gN,GaM,GaN,Option.bind_some,sv];exact q
     |some v=>
      rw[hf] at q;dsimp only at q⊢;simp only[forL,gN,GaM,GaN,Option.bind_some,sv];exact q
  have q:=key (aJ 0 m.toNat) none none (λd hd=>by
   obtain⟨i,hi⟩:=Gcr hd;obtain⟨_,rfl⟩:=bz hi;exact⟨_,rfl⟩)
  rw[Ir e1 (by lia) a0 l0 al] at q;have ed:cq (.due b e m ea la) h=pe b e m ea la h:=rfl;rw[ed];refine b6 rfl ?_;unfold kJ;cases hk:pe b e m ea la h with
  |none=>
   rw[hk] at q;obtain⟨y2,y3,q⟩:=q;refine(ae (by simp[-forL,bw,p4,eqB,sm,q,freed];rfl)).trans ?_;simp
  |some k=>
   rw[hk] at q;dsimp only[Option.map] at q;refine DB ?_;simp[-forL,bw,p4,eqB,sm,q,freed]
theorem sk{w:Option Int}(ok:l9 c):cV [aV c,d9 w]=some (d9 (cu c w)):=by
 cases c with
 |ever t=>unfold cV fA aV cu;simp
 |flat h t=>unfold cV fA aV cu;simp
 |kilo h t p=>
  obtain⟨h1,t1,t2,p1,p2⟩:=ok;cases w with
  |none=>unfold cV fA aV cu;simp[jv,bF]
  |some w=>
   have mm:aZ w t=true:=fX (by lia) (by lia);have pp:0<p/\p<1073741824:=by lia
   unfold cV fA aV cu;simp[jv,bF,mm,pp]
noncomputable def dQ(os:List Order)(c:Cap)(k:Int×Int)(h:Int):List Tr->Int
 |[]=>0
 |t::gv=>(if decide (tk os t=k)&&iU c h t.2.1 then t.2.2 else 0)+dQ os c k h gv
theorem rB(os:List Order)(c:Cap)(k:Int×Int)(h:Int):∀gv:List Tr,dQ os c k h gv=iA c ((gv.filter λt=>decide (tk os t=k)).map λt=>(t.2.1,t.2.2)) h
 |[]=>rfl
 |t::gv=>by
  have ih:=rB os c k h gv;unfold dQ;rw[ih];unfold iA;by_cases e:tk os t=k
  .rw[List.filter_cons_of_pos (by simpa using e)];simp[e]
  .rw[List.filter_cons_of_neg (by simpa using e)];simp[e]
noncomputable def gJ(os:List Order)(ws gv:List Tr)(o:Order)(h:Int):Nat->List Cap->List Flt
 |_,[]=>[]
 |k,c::cs=>fD ws c o.ar o.aq (k:Int) (h,dQ os c (o.ar,o.aq) h gv)++gJ os ws gv o h (k+1) cs
theorem kN(os:List Order)(ws gv:List Tr)(o:Order)(h:Int):∀(k:Nat) (cs:List Cap),(gJ os ws gv o h k cs).length<=cs.length
 |_,[]=>by simp[gJ]
 |k,c::cs=>by
  have h1:=kN os ws gv o h (k+1) cs;have h2:=jn ws c o.ar o.aq (k:Int) (h,dQ os c (o.ar,o.aq) h gv);unfold gJ;rw[Gah,GaE];lia
noncomputable def ovT(w:World)(ws gv:List Tr)(t:Tr):List Flt:=match w.orders[t.1.toNat]? with
 |some o=>gJ w.orders ws gv o t.2.1 0 ((w.ai[o.aq.toNat]?.map (·.ax)).getD [])
 |none=>[]
variable{T:Int}
theorem PJ{bk:D}{m s' :Int}{e12:Os}(hO:atD O n=some OD)(h1:ixD OD (.int 1)=some (.int g'))(h2:ixD OD (.int 2)=some (.int s')):
  dw [some (.sh (.tup [.tup A,.tup B,.tup C,.tup O])),some (.sh bk),some (.sh (.int g)),some (.sh (.int s)),some (.sh (.int h)),e5,e6,some (.sh (aV c)),some (.sh (.int T)),some (.sh (.int n)),some (.sh (.int a)),some (.sh (.int m)),e12]=
   some (.nx [some (.sh (.tup [.tup A,.tup B,.tup C,.tup O])),some (.sh bk),some (.sh (.int g)),some (.sh (.int s)),some (.sh (.int h)),e5,e6,some (.sh (aV c)),some (.sh (.int (T+if decide ((g',s')=(g,s))&&iU c h a then m else 0))),some (.sh (.int n)),some (.sh (.int a)),some (.sh (.int m)),e12]):=by
 have e1:eqB (.int g') (.int g)=some (decide (g' =g)):=by unfold eqB;by_cases c:g' =g<;>simp[c]
 have e2:eqB (.int s') (.int s)=some (decide (s' =s)):=by unfold eqB;by_cases c:s' =s<;>simp[c]
 unfold dw;by_cases c1:g' =g
 .by_cases c2:s' =s
  .by_cases c3:a<=h
   .have cc:decide ((g',s')=(g,s))=true:=Gaz (by rw[c1,c2]);rw[cc];cases c with
    |ever t=>simp[hO,h1,h2,e1,e2,c1,c2,c3,aV,iU]
    |flat H t=>
     by_cases c4:h -H<a
     .simp[hO,h1,h2,e1,e2,c1,c2,c3,aV,iU,c4,eqB]
     .simp[hO,h1,h2,e1,e2,c1,c2,c3,aV,iU,c4,eqB]
    |kilo H t p=>
     by_cases c4:h -H<a
     .simp[hO,h1,h2,e1,e2,c1,c2,c3,aV,iU,c4,eqB]
     .simp[hO,h1,h2,e1,e2,c1,c2,c3,aV,iU,c4,eqB]
   .have q:iU c h a=false:=by cases c<;>simp[iU,c3]
    rw[q,Gct];simp[hO,h1,h2,e1,e2,c1,c2,c3]
  .have cc:decide ((g',s')=(g,s))=false:=Gau (by simp[c2]);rw[cc,Bool.false_and];simp[hO,h1,h2,e1,e2,c1,c2]
 .have cc:decide ((g',s')=(g,s))=false:=Gau (by simp[c1]);rw[cc,Bool.false_and];simp[hO,h1,e1,c1]
theorem DQ{w:World}(W:aH w){A B C:List D}{bk:D}{c:Cap}{g s h:Int}{e5 e6 e12:Os}:∀(gv:List Tr) (T:Int) (x9 eN eR:Os),bC w.orders.length gv->∃y9 eQ h8,
  forL (gT [9,10,11]) dw (gv.map trD) [some (.sh (.tup [.tup A,.tup B,.tup C,.tup (w.orders.map af)])),some (.sh bk),some (.sh (.int g)),some (.sh (.int s)),some (.sh (.int h)),e5,e6,some (.sh (aV c)),some (.sh (.int T)),x9,eN,eR,e12]=
   some (.nx [some (.sh (.tup [.tup A,.tup B,.tup C,.tup (w.orders.map af)])),some (.sh bk),some (.sh (.int g)),some (.sh (.int s)),some (.sh (.int h)),e5,e6,some (.sh (aV c)),some (.sh (.int (T+dQ w.orders c (g,s) h gv))),y9,eQ,h8,e12])
 |[],T,x9,eN,eR,_=> ⟨x9,eN,eR,by simp[dQ]⟩
 |t::gv,T,x9,eN,eR,hg=>by
  have g0:=hg t Gak;obtain⟨n,hn⟩:=GaG g0.1;have hJ :n<w.orders.length:=by lia
  have hO:atD (w.orders.map af) t.1=some (af w.orders[n]):=by rw[hn,bU,Gam,Gab hJ];rfl
  have etk:tk w.orders t=(w.orders[n].ar,w.orders[n].aq):=by
   unfold tk;rw[hn,GaI,Gab hJ]
  have ev:=PJ (A:=A) (B:=B) (C:=C) (bk:=bk) (c:=c) (g:=g) (s:=s) (h:=h) (T:=T) (a:=t.2.1) (m:=t.2.2) (e5:=e5) (e6:=e6) (e12:=e12) (g' :=w.orders[n].ar) (s' :=w.orders[n].aq) hO rfl rfl;rw[<-etk] at ev;obtain⟨y9,eQ,h8,e⟩:=DQ W (A:=A) (B:=B) (C:=C) (bk:=bk) (c:=c) (g:=g) (s:=s) (h:=h) (e5:=e5) (e6:=e6) (e12:=e12) gv (T+if decide (tk w.orders t=(g,s))&&iU c h t.2.1 then t.2.2 else 0) (some (.sh (.int t.1))) (some (.sh (.int t.2.1))) (some (.sh (.int t.2.2))) λx hx=>hg x (Gag _ hx);refine⟨y9,eQ,h8, ?_⟩;rw[Gay]
  conv=>rhs;unfold dQ
  rw[<-Int.add_assoc];have ed:trD t= .tup [.int t.1,.int t.2.1,.int t.2.2]:=rfl;rw[ed];generalize aV c=cd at*;generalize w.orders.map af=OS at*;simp only[forL,gT,gNs,GaM,GaN,Option.bind_some,ev];exact e
noncomputable def FD(to:Option Int)(g s k h T:Int):List D:=match to with
 |some top=>if T>top then[D.tup [.str "cap",.int g,.int s,.int k,.int h,.int T,.int top]] else[]
 |none=>[]
variable{x12:Os}
theorem PK{W:List D}{k:Int}{sz:D}(hS:atD B s=some (.tup [nm,sz,.tup Cs,yg]))(hc:atD Cs k=some cd)(ic:cd.imm=true)
  (hl:forL (gT [9,10,11]) dw G [some (.sh (.tup [.tup A,.tup B,.tup C,.tup O])),some (.sh (.tup [.tup W,.tup G])),some (.sh (.int g)),some (.sh (.int s)),some (.sh (.int h)),some (.own (.lst F)),some (.sh (.int k)),some (.sh cd),some (.sh (.int 0)),x9,eN,eR,x12]=some (.nx [some (.sh (.tup [.tup A,.tup B,.tup C,.tup O])),some (.sh (.tup [.tup W,.tup G])),some (.sh (.int g)),some (.sh (.int s)),some (.sh (.int h)),some (.own (.lst F)),some (.sh (.int k)),some (.sh cd),some (.sh (.int T)),y9,eQ,h8,x12]))
  (iw:aC W=true)(ew:d7 [.tup W,.int g,.int h]=some (d9 wo))(eb:cV [cd,d9 wo]=some (d9 to))(hz:F.length<100000):
  dz [some (.sh (.tup [.tup A,.tup B,.tup C,.tup O])),some (.sh (.tup [.tup W,.tup G])),some (.sh (.int g)),some (.sh (.int s)),some (.sh (.int h)),some (.own (.lst F)),some (.sh (.int k)),x7,x8,x9,eN,eR,x12]=
   some (.nx [some (.sh (.tup [.tup A,.tup B,.tup C,.tup O])),some (.sh (.tup [.tup W,.tup G])),some (.sh (.int g)),some (.sh (.int s)),some (.sh (.int h)),some (.own (.lst (F++FD to g s k h T))),some (.sh (.int k)),some (.sh cd),some (.sh (.int T)),y9,eQ,h8,some (.sh (d9 to))]):=by
 have z:F.length<16777216:=by lia
 have xB :=aM (cK wo);have rt:=aM (cK to);unfold dz;refine(ae (by simp[hS,hc,ic];rfl)).trans ?_;refine(ae (e:=[some (.sh (.tup [.tup A,.tup B,.tup C,.tup O])),some (.sh (.tup [.tup W,.tup G])),some (.sh (.int g)),some (.sh (.int s)),some (.sh (.int h)),some (.own (.lst F)),some (.sh (.int k)),some (.sh cd),some (.sh (.int 0)),x9,eN,eR,x12]) (by simp)).trans ?_;refine(ae (by simp[-forL,hl,freed];rfl)).trans ?_;refine(ae (by simp[ew,xB,eb,rt,iw];rfl)).trans ?_;cases to with
 |none=>simp[dR,bF,FD]
 |some top=>
  by_cases c:T>top
  .have c' :top<T:=c;simp[dR,bF,c',z,a9,FD]
  .have c' :¬top<T:=c;simp[dR,bF,c',FD]
theorem DR{w:World}(W:aH w){ws gv:List Tr}(hg:bC w.orders.length gv){o:Order}{h:Int}{nm sz yg:D}{cs:List Cap}(hS:atD (w.ai.map av) o.aq=some (.tup [nm,sz,.tup (cs.map aV),yg]))(ok:∀c∈cs,l9 c):∀(ds:List Cap) (k:Nat) (fs:List Flt) (x6 x7 x8 x9 eN eR x12:Os),cs.drop k=ds->fs.length+ds.length<1000->∃y6 y7 y8 y9 eQ h8 ya,
  forL (gN 6) dz (aJ (k:Int) ds.length) [some (.sh (az w)),some (.sh (.tup [.tup (ws.map trD),.tup (gv.map trD)])),some (.sh (.int o.ar)),some (.sh (.int o.aq)),some (.sh (.int h)),some (.own (.lst (fs.map ah))),x6,x7,x8,x9,eN,eR,x12]=
   some (.nx [some (.sh (az w)),some (.sh (.tup [.tup (ws.map trD),.tup (gv.map trD)])),some (.sh (.int o.ar)),some (.sh (.int o.aq)),some (.sh (.int h)),some (.own (.lst ((fs++gJ w.orders ws gv o h k ds).map ah))),y6,y7,y8,y9,eQ,h8,ya])
 |[],k,fs,x6,x7,x8,x9,eN,eR,x12,_,_=> ⟨x6,x7,x8,x9,eN,eR,x12,by simp[gJ,aJ]⟩
 |c::ds,k,fs,x6,x7,x8,x9,eN,eR,x12,hd,hz=>by
  rw[GaE] at hz;have hk:k<cs.length:=by
   rcases Gbg k cs.length with q|q
   .exact q
   .rw[Gdx q] at hd;cases hd
  have ec:cs[k]=c/\cs.drop (k+1)=ds:=by
   rw[GbT hk] at hd;injection hd with h1 h2
   exact⟨h1,h2⟩
  have hc:atD (cs.map aV) (k:Int)=some (aV c):=by rw[bU,Gam,Gab hk,ec.1];rfl
  have okc:=ok c (ec.1▸GaF hk);obtain⟨z9,yt,yR,el⟩:=DQ W (A:=w.b7.map aN) (B:=w.ai.map av) (C:=w.aQ.map trD) (bk:= .tup [.tup (ws.map trD),.tup (gv.map trD)]) (c:=c) (g:=o.ar) (s:=o.aq) (h:=h) (e5:=some (.own (.lst (fs.map ah)))) (e6:=some (.sh (.int (k:Int)))) (e12:=x12) gv 0 x9 eN eR hg;rw[Int.zero_add] at el;have ev:=PK (x7:=x7) (x8:=x8) hS hc (qW c) el (bJ ws) (js (ws:=ws) (g:=o.ar) (h:=h)) (sk okc) (by rw[Gad];lia);have eg:FD (cu c (wgt o.ar h ws none)) o.ar o.aq (k:Int) h (dQ w.orders c (o.ar,o.aq) h gv)=(fD ws c o.ar o.aq (k:Int) (h,dQ w.orders c (o.ar,o.aq) h gv)).map ah:=by
   unfold fD FD;cases cu c (wgt o.ar h ws none) with
   |none=>rfl
   |some top=>
    dsimp only;split<;>rfl
  rw[eg,<-GaC] at ev;have l1:=jn ws c o.ar o.aq (k:Int) (h,dQ w.orders c (o.ar,o.aq) h gv);obtain⟨y6,y7,y8,y9,eQ,h8,ya,e⟩:=DR W (ws:=ws) hg (h:=h) hS ok ds (k+1) (fs++fD ws c o.ar o.aq (k:Int) (h,dQ w.orders c (o.ar,o.aq) h gv)) (some (.sh (.int (k:Int)))) (some (.sh (aV c))) (some (.sh (.int (dQ w.orders c (o.ar,o.aq) h gv)))) z9 yt yR (some (.sh (d9 (cu c (wgt o.ar h ws none))))) ec.2 (by rw[Gah];lia);refine⟨y6,y7,y8,y9,eQ,h8,ya, ?_⟩
  conv=>rhs;unfold gJ
  rw[<-GaW];have er:aJ (k:Int) (c::ds).length= .int (k:Int)::aJ ((k+1:Nat):Int) ds.length:=by
   unfold aJ;rw[GaE,List.range_succ_eq_map,Gay,GaS];have e1:(k:Int)+((0:Nat):Int)=(k:Int):=by lia
   rw[e1];refine congrArg (List.cons _) (GaP λi _=> ?_);show D.int ((k:Int)+((i+1:Nat):Int))=D.int (((k+1:Nat):Int)+(i:Int));exact congrArg D.int (by lia)
  rw[er];have ew:az w= .tup [.tup (w.b7.map aN),.tup (w.ai.map av),.tup (w.aQ.map trD),.tup (w.orders.map af)]:=rfl;rw[<-ew] at ev;generalize az w=wd at*;generalize (k:Int)=ki at*;generalize aV c=cd at*;simp only[forL,gN,GaM,GaN,Option.bind_some,ev];exact e
theorem MT{bk:D}{sz:D}{ya:Os}(hS:atD B s=some (.tup [nm,sz,.tup Cs,yg]))(ic:aC Cs=true)(hn:cw [.tup Cs]=some ⟨.c,.int n⟩)(sm:aY n=true)(e:forL (gN 6) dz (aJ 0 n.toNat) [some (.sh (.tup [.tup A,.tup B,.tup C,.tup O])),some (.sh bk),some (.sh (.int g)),some (.sh (.int s)),some (.sh (.int h)),some (.own (.lst [])),none,none,none,none,none,none,none]=some (.nx [some (.sh (.tup [.tup A,.tup B,.tup C,.tup O])),some (.sh bk),some (.sh (.int g)),some (.sh (.int s)),some (.sh (.int h)),some (.own (.lst F)),y6,y7,y8,y9,eQ,h8,ya]))(im:aC F=true):
  gH [.tup [.tup A,.tup B,.tup C,.tup O],bk,.int g,.int s,.int h]=some (.lst F):=by
 refine b6 rfl ?_;unfold lQ;refine(ae (by simp[bw,a9];rfl)).trans ?_;refine(ae (by simp[-forL,-jJ,hS,ic,hn,sm,e,freed];rfl)).trans ?_;simp[im]
theorem FE(W:aH w)(hg:bC w.orders.length gv){s:cX}(so:fh s)(hS:atD (w.ai.map av) o.aq=some (av s)):gH [az w,.tup [.tup (ws.map trD),.tup (gv.map trD)],.int o.ar,.int o.aq,.int h]=some (.lst ((gJ w.orders ws gv o h 0 s.ax).map ah)):=by
 have cl:=so.cl;obtain⟨y6,y7,y8,y9,eQ,h8,ya,e⟩:=DR W (ws:=ws) hg (o:=o) (h:=h) hS so.ok s.ax 0 [] none none none none none none none rfl (by simp;lia);exact MT (n:=(s.ax.length:Int)) hS (mZ _) (by simp[cw]) (bL (by lia) (by lia)) (by rw[GaI];exact e) (cZ _)
noncomputable def gM(h o l u:Int):Bool:=decide (h<l)||(decide (h=l)&&decide (o<u))
theorem MU(h o l u:Int):Jw (.tup [.int h,.int o]) (.tup [.int l,.int u])=some (gM h o l u):=by
 show some (if h=l then(if o=u then false else decide (o<u)) else decide (h<l))=_;unfold gM;congr 1;by_cases c1:h=l
 .subst c1;by_cases c2:o=u
  .subst c2;simp
  .simp[c2]
 .by_cases c2:h<l<;>simp[c1,c2]
variable{u y:Int}{OA OB:D}
theorem PL{o l g1 g2 x c1 c2 c3:Int}(a1:ixD OA (.int 1)=some (.int g1))(b1:ixD OB (.int 1)=some (.int g2))(hz:F.length<100000):
  dA [e0,e1,some (.sh (.int o)),some (.sh (.int h)),some (.own (.lst F)),e5,some (.sh (.int u)),some (.sh (.int l)),some (.own (.lst [OA,OB])),some (.sh (.tup [.int x,.int y])),some (.sh (.tup [.int c1,.int c2,.int c3]))]=
   some (.nx [e0,e1,some (.sh (.int o)),some (.sh (.int h)),some (.own (.lst (F++if(gM h o l u=true/\g1=g2/\(c1=x/\c2=y))/\l -h<c3 then[D.tup [.str "gap",.int o,.int h,.int u,.int l]] else[]))),e5,some (.sh (.int u)),some (.sh (.int l)),some (.own (.lst [OA,OB])),some (.sh (.tup [.int x,.int y])),some (.sh (.tup [.int c1,.int c2,.int c3]))]):=by
 have z:F.length<16777216:=by lia
 have lt:=MU h o l u;have sl:slD none (some 2) (.tup [.int c1,.int c2,.int c3])=some ⟨.c,.tup [.int c1,.int c2]⟩:=rfl;have e2:eqB (.tup [.int c1,.int c2]) (.tup [.int x,.int y])=some (decide (c1=x/\c2=y)):=by
  unfold eqB;by_cases q1:c1=x<;>by_cases q2:c2=y<;>simp[q1,q2]
 have yq :eqB (.int g1) (.int g2)=some (decide (g1=g2)):=by unfold eqB;by_cases c:g1=g2<;>simp[c]
 unfold dA;cases hb:gM h o l u with
 |false=>
  rw[hb] at lt;rw[Gai (by simp)];simp[lt,a9]
 |true=>
  rw[hb] at lt;by_cases q1:g1=g2
  .by_cases q2:c1=x/\c2=y
   .by_cases q3:l -h<c3
    .rw[Gaj ⟨⟨rfl,q1,q2⟩,q3⟩];obtain⟨rfl,rfl⟩:=q2;simp[lt,a9,a1,b1,yq,q1,-uz,sl,e2,q3,z]
    .rw[Gai (λw=>q3 w.2)];obtain⟨rfl,rfl⟩:=q2;simp[lt,a9,a1,b1,yq,q1,-uz,sl,e2,q3]
   .rw[Gai (λw=>q2 w.1.2.2)];simp only[Gau q2] at e2;simp[lt,a9,a1,b1,yq,q1,-uz,sl,e2]
  .rw[Gai (λw=>q1 w.1.2.1)];simp[lt,a9,a1,b1,yq,q1]
theorem uc(ts:List Tr)(o h v x y:Int):fY (lW ts o h v) x y=if o=x/\h=y then v else fY ts x y:=by
 unfold lW;cases ha:ts.any (atT o h) with
 |true=>
  rw[Gaj rfl];unfold fY;rw[List.find?_map];by_cases c:o=x/\h=y
  .rw[Gaj c];obtain⟨rfl,rfl⟩:=c;have e:(atT o h∘λt:Tr=>if atT o h t=true then(o,h,v) else t)=atT o h:=by
    funext t
    simp only[GbN];split
    .rename_i c;rw[c];exact Gaz ⟨rfl,rfl⟩
    .rfl
   rw[e];cases hf:ts.find? (atT o h) with
   |none=>
    obtain⟨t,ht,q⟩:=Gcx.mp ha;exact absurd q (GbS.mp hf t ht)
   |some t=>
    have:=List.find?_some hf;simp[this]
  .rw[Gai c];have e:(atT x y∘λt:Tr=>if atT o h t=true then(o,h,v) else t)=atT x y:=by
    funext t
    simp only[GbN];split
    .rename_i q;have q' :=Gaq q;have n1:atT x y (o,h,v)=false:=Gau c;have n2:atT x y t=false:=Gau (by rw[q'.1,q'.2];exact c);rw[n1,n2]
    .rfl
   rw[e];cases hf:ts.find? (atT x y) with
   |none=>rfl
   |some t=>
    have q0:atT x y t=true:=List.find?_some hf;have q:=Gaq q0;have n2:¬atT o h t=true:=λz=>by
     have z' :=Gaq z;exact c ⟨by lia,by lia⟩
    simp[n2]
 |false=>
  rw[Gai (by simp)];unfold fY;rw[List.find?_append];by_cases c:o=x/\h=y
  .obtain⟨rfl,rfl⟩:=c;have hf:ts.find? (atT o h)=none:=by
    rw[GbS];intro t ht q;rw[Gcp] at ha;exact ha t ht q
   rw[hf];have:atT o h (o,h,v)=true:=Gaz ⟨rfl,rfl⟩;simp[this]
  .rw[Gai c];have:atT x y (o,h,v)=false:=Gau c;cases hf:ts.find? (atT x y)<;>simp[this]
noncomputable def mt(x y:Int)(b:Tr):Bool:=decide ((b.1=x/\b.2.1=y)\/(b.1=y/\b.2.1=x))
theorem FF(ts:List Tr)(b:Tr)(x y:Int):fY (aL ts b) x y=if mt x y b then b.2.2 else fY ts x y:=by
 unfold aL;rw[uc,uc];unfold mt;by_cases c1:b.2.1=x/\b.1=y
 .rw[Gaj c1,Gaj (Gaz (.inr ⟨c1.2,c1.1⟩))]
 .rw[Gai c1];by_cases c2:b.1=x/\b.2.1=y
  .rw[Gaj c2,Gaj (Gaz (.inl c2))]
  .rw[Gai c2,Gai];intro z;rcases Gaq z with z|z
   .exact c2 z
   .exact c1 ⟨z.2,z.1⟩
theorem iV(x y:Int):∀(bs ts:List Tr),(∀b∈bs,b.1<=b.2.1)->(bs.map vk).Nodup->fY (bs.foldl aL ts) x y=match bs.find? (mt x y) with|some b=>b.2.2|none=>fY ts x y
 |[],ts,_,_=>rfl
 |b::bs,ts,le,nd=>by
  rw[Gay,GbA] at nd;rw[GbH,iV x y bs (aL ts b) (λc hc=>le c (Gag _ hc)) nd.2,FF];by_cases c:mt x y b=true
  .rw[Gdz c];have hf:bs.find? (mt x y)=none:=by
    rw[GbS];intro d hd q;apply nd.1;refine Gax.mpr ⟨d,hd, ?_⟩;have c' :=Gaq c;have q' :=Gaq q;have l1:=le b Gak;have l2:=le d (Gag _ hd);unfold vk;exact Prod.ext (by show d.1=b.1;lia) (by show d.2.1=b.2.1;lia)
   rw[hf];simp only[c,Gca]
  .rw[GdA c];have c' :mt x y b=false:=by simpa using c
   rw[c'];simp
theorem Iu:∀(ns:List Int) (n:Int),n<=oY n ns/\∀m∈ns,m<=oY n ns
 |[],n=> ⟨Gch _,by simp⟩
 |k::ns,n=>by
  have h:=Iu ns (if k>n then k else n);have e:oY n (k::ns)=oY (if k>n then k else n) ns:=rfl;rw[e];refine⟨?_,λm hm=> ?_⟩
  .have:=h.1;split at this<;>split<;>lia
  .rcases GaB.mp hm with rfl|hm
   .have:=h.1;split at this<;>split<;>lia
   .exact h.2 m hm
theorem KA{bs:List Tr}(pos:∀b∈bs,1<=b.2.2):0<=wide bs/\∀b∈bs,b.2.2<=wide bs:=by
 cases bs with
 |nil=>exact⟨by decide,by simp⟩
 |cons b bs=>
  have e:wide (b::bs)=oY b.2.2 (bs.map (·.2.2)):=rfl;have h:=Iu (bs.map (·.2.2)) b.2.2;rw[e];have:=pos b Gak;refine⟨by lia,λc hc=> ?_⟩;rcases GaB.mp hc with rfl|hc
  .exact h.1
  .exact h.2 _ (Gax.mpr ⟨c,hc,rfl⟩)
theorem Iv{bs:List Tr}(le:∀b∈bs,b.1<=b.2.1)(pos:∀b∈bs,1<=b.2.2)(nd:(bs.map vk).Nodup)(a b:Order):lY (bs.foldl aL []) a b<=wide bs:=by
 have w:=KA pos;unfold lY;split
 .rw[iV _ _ bs [] le nd];cases h:bs.find? (mt a.aq b.aq) with
  |none=>exact w.1
  |some c=>exact w.2 c (List.mem_of_find?_eq_some h)
 .exact w.1
theorem Au{w:Int}(le:∀a b,lY gs a b<=w){r l:Int×Int}(h:l.1 -r.1>=w):gpF os gs r l=[]:=by
 unfold gpF;split
 .rename_i a b _ _;rw[Gai];have:=le a b;lia
 .rfl
theorem ud{os:List Order}{gs:List Tr}{w:Int}(le:∀a b,lY gs a b<=w){r:Int×Int}:∀ls:List (Int×Int),(ls.Pairwise λa b=>a.1<=b.1)->jt os gs w r ls=ls.flatMap (gpF os gs r)
 |[],_=>rfl
 |l::ls,h=>by
  rw[GaY] at h;unfold jt;rw[Gbq];by_cases c:l.1 -r.1>=w
  .rw[Gaj c,Au le c]
   symm
   rw[GbB,Gbn];intro x hx;have:=h.1 x hx;exact Au le (by lia)
  .rw[Gai c,ud le ls h.2]
noncomputable def prs(F:Int×Int->Int×Int->List Flt):List (Int×Int)->List Flt
 |[]=>[]
 |r::rs=>rs.flatMap (F r)++prs F rs
theorem lZ{os:List Order}{gs:List Tr}{w:Int}(le:∀a b,lY gs a b<=w):∀ls:List (Int×Int),(ls.Pairwise λa b=>a.1<=b.1)->cF os gs w ls=prs (gpF os gs) ls
 |[],_=>rfl
 |l::ls,h=>by
  rw[GaY] at h;unfold cF prs;rw[ud le ls h.2,lZ le ls h.2]
noncomputable def ft(a b:Order)(r l:Int×Int)(c:Tr):List Flt:=if(a.ar=b.ar/\mt a.aq b.aq c=true)/\l.1 -r.1<c.2.2 then[("gap",[r.2,r.1,l.2,l.1])] else[]
noncomputable def ue(os:List Order)(bs:List Tr)(r l:Int×Int):List Flt:=match os[r.2.toNat]?,os[l.2.toNat]? with
 |some a,some b=>bs.flatMap (ft a b r l)
 |_,_=>[]
theorem Av{a b:Order}{r l:Int×Int}(hl:r.1<=l.1):∀bs:List Tr,(∀b∈bs,b.1<=b.2.1)->(bs.map vk).Nodup->bs.flatMap (ft a b r l)=if l.1 -r.1<(if a.ar=b.ar then(match bs.find? (mt a.aq b.aq) with|some c=>c.2.2|none=>0) else 0) then([("gap",[r.2,r.1,l.2,l.1])]:List Flt) else[]
 |[],_,_=>by
  rw[List.flatMap_nil,Gai];split
  .show¬l.1 -r.1<0;lia
  .lia
 |c::bs,le,nd=>by
  rw[Gay,GbA] at nd;rw[Gbq,Av hl bs (λd hd=>le d (Gag _ hd)) nd.2];by_cases g:a.ar=b.ar
  .simp only[Gaj g];by_cases m:mt a.aq b.aq c=true
   .rw[Gdz m];have hf:bs.find? (mt a.aq b.aq)=none:=by
     rw[GbS];intro d hd q;apply nd.1;refine Gax.mpr ⟨d,hd, ?_⟩;have c' :=Gaq m;have q' :=Gaq q;have l1:=le c Gak;have l2:=le d (Gag _ hd);unfold vk;exact Prod.ext (by show d.1=c.1;lia) (by show d.2.1=c.2.1;lia)
    rw[hf];dsimp only;rw[Gai (by lia:¬l.1 -r.1<0),Gbs];unfold ft;by_cases q:l.1 -r.1<c.2.2
    .rw[Gaj ⟨⟨g,m⟩,q⟩,Gaj q]
    .rw[Gai (λz=>q z.2),Gai q]
   .rw[GdA m];have:ft a b r l c=[]:=by
     unfold ft;rw[Gai (λz=>m z.1.2)]
    rw[this,GbB]
  .simp only[Gai g];have:ft a b r l c=[]:=by
    unfold ft;rw[Gai (λz=>g z.1.1)]
   rw[this,GbB]
theorem DU{bs:List Tr}(le:∀b∈bs,b.1<=b.2.1)(nd:(bs.map vk).Nodup){r l:Int×Int}(hl:r.1<=l.1):ue os bs r l=gpF os (bs.foldl aL []) r l:=by
 unfold ue gpF;cases os[r.2.toNat]? with
 |none=>rfl
 |some a=>
  cases os[l.2.toNat]? with
  |none=>rfl
  |some b=>
   dsimp only;rw[Av hl bs le nd];unfold lY;rw[iV _ _ bs [] le nd]
   rfl
theorem Iw(a b:Int):sortedS [.lst [.int a,.int b]]=some ⟨.tn,.lst (if a<b then[.int a,.int b] else[.int b,.int a])⟩:=by
 have k:keysOk [.int a,.int b]=true:=rfl;have e:bY [.int a,.int b]=if a<b then[.int a,.int b] else[.int b,.int a]:=by
  show(if ltC (DL.code (.int a)) (DL.code (.int b)) then[D.int a,.int b] else[D.int b,.int a])=_;have l:ltC (DL.code (.int a)) (DL.code (.int b))=decide (a<b):=by
   show dh (dh ltI) [[1,a]] [[1,b]]=_;by_cases c:a=b
   .subst c;simp[dh]
   .by_cases c2:a<b<;>simp[dh,ltI,c,c2]
  rw[l];by_cases c:a<b
  .rw[Gaz c,Gaj rfl,Gaj c]
  .rw[Gau c,Gai (by simp),Gai c]
 unfold sortedS one jH;simp only[Option.bind_some];rw[k,e]
 rfl
noncomputable def lo2(a b:Int):Int:=if a<b then a else b
noncomputable def hi2(a b:Int):Int:=if a<b then b else a
theorem KC{x:Int}(le:x<=y)(z:Int):(x=lo2 a b/\y=hi2 a b)↔mt a b (x,y,z)=true:=by
 unfold mt lo2 hi2;rw[GcK];show _↔(x=a/\y=b)\/(x=b/\y=a);split<;>lia
theorem DV{e0 e1 e5:Os}{a b:Order}{o h u l:Int}:∀(bs:List Tr) (fs:List Flt) (eN:Os),(∀c∈bs,c.1<=c.2.1)->fs.length+bs.length<90000->∃eQ,
  forL (gN 10) dA (bs.map trD) [e0,e1,some (.sh (.int o)),some (.sh (.int h)),some (.own (.lst (fs.map ah))),e5,some (.sh (.int u)),some (.sh (.int l)),some (.own (.lst [af a,af b])),some (.sh (.tup [.int (lo2 a.aq b.aq),.int (hi2 a.aq b.aq)])),eN]=
   some (.nx [e0,e1,some (.sh (.int o)),some (.sh (.int h)),some (.own (.lst ((fs++if gM h o l u then bs.flatMap (ft a b (h,o) (l,u)) else[]).map ah))),e5,some (.sh (.int u)),some (.sh (.int l)),some (.own (.lst [af a,af b])),some (.sh (.tup [.int (lo2 a.aq b.aq),.int (hi2 a.aq b.aq)])),eQ])
 |[],fs,eN,_,_=> ⟨eN,by cases gM h o l u<;>simp⟩
 |c::bs,fs,eN,le,hz=>by
  rw[GaE] at hz;have ev:=PL (e0:=e0) (e1:=e1) (e5:=e5) (F:=fs.map ah) (OA:=af a) (OB:=af b) (o:=o) (h:=h) (u:=u) (l:=l) (x:=lo2 a.aq b.aq) (y:=hi2 a.aq b.aq) (c1:=c.1) (c2:=c.2.1) (c3:=c.2.2) (g1:=a.ar) (g2:=b.ar) rfl rfl (by rw[Gad];lia);have pm:=KC (a:=a.aq) (b:=b.aq) (le c Gak) c.2.2;have et:((c.1,c.2.1,c.2.2):Tr)=c:=rfl;rw[et] at pm;have eg:(if(gM h o l u=true/\a.ar=b.ar/\(c.1=lo2 a.aq b.aq/\c.2.1=hi2 a.aq b.aq))/\l -h<c.2.2 then[D.tup [.str "gap",.int o,.int h,.int u,.int l]] else[])=(if gM h o l u then ft a b (h,o) (l,u) c else[]).map ah:=by
   unfold ft;cases hb:gM h o l u with
   |false=>simp
   |true=>
    rw[Gaj rfl];by_cases q:(a.ar=b.ar/\mt a.aq b.aq c=true)/\l -h<c.2.2
    .rw[Gaj ⟨⟨rfl,q.1.1,pm.mpr q.1.2⟩,q.2⟩];rw[Gaj (show(a.ar=b.ar/\mt a.aq b.aq c=true)/\(l,u).1 -(h,o).1<c.2.2 from q)];rfl
    .rw[Gai (λz=>q ⟨⟨z.1.2.1,pm.mp z.1.2.2⟩,z.2⟩)];rw[Gai (show¬((a.ar=b.ar/\mt a.aq b.aq c=true)/\(l,u).1 -(h,o).1<c.2.2) from q)];rfl
  rw[eg,<-GaC] at ev;have l1:(if gM h o l u then ft a b (h,o) (l,u) c else[]).length<=1:=by
   unfold ft;split
   .split<;>simp
   .simp
  obtain⟨eQ,e⟩:=DV (e0:=e0) (e1:=e1) (e5:=e5) (a:=a) (b:=b) (o:=o) (h:=h) (u:=u) (l:=l) bs (fs++if gM h o l u then ft a b (h,o) (l,u) c else[]) (some (.sh (trD c))) (λx hx=>le x (Gag _ hx)) (by rw[Gah];lia);refine⟨eQ, ?_⟩;have ea:(fs++if gM h o l u then ft a b (h,o) (l,u) c else[])++(if gM h o l u then bs.flatMap (ft a b (h,o) (l,u)) else[])=fs++if gM h o l u then(c::bs).flatMap (ft a b (h,o) (l,u)) else[]:=by
   cases gM h o l u<;>simp
  rw[ea] at e;rw[Gay];have ed:D.tup [.int c.1,.int c.2.1,.int c.2.2]=trD c:=rfl;rw[ed] at ev;generalize trD c=cd at*;simp only[forL,gN,GaM,GaN,Option.bind_some,ev];exact e
theorem MV{bk:D}{o l s1 s2 x:Int}(hA:atD O o=some OA)(hB:atD O u=some OB)(ia:OA.imm=true)(ib:OB.imm=true)(a2:ixD OA (.int 2)=some (.int s1))(b2:ixD OB (.int 2)=some (.int s2))(hs:sortedS [.lst [.int s1,.int s2]]=some ⟨.tn,.lst [.int x,.int y]⟩)
  (e:forL (gN 10) dA C [some (.sh (.tup [.tup A,.tup B,.tup C,.tup O])),some (.sh bk),some (.sh (.int o)),some (.sh (.int h)),some (.own (.lst F)),some (.sh (.tup [.int u,.int l,.int a])),some (.sh (.int u)),some (.sh (.int l)),some (.own (.lst [OA,OB])),some (.sh (.tup [.int x,.int y])),eN]=some (.nx e')):
  dB [some (.sh (.tup [.tup A,.tup B,.tup C,.tup O])),some (.sh bk),some (.sh (.int o)),some (.sh (.int h)),some (.own (.lst F)),some (.sh (.tup [.int u,.int l,.int a])),x6,x7,x8,x9,eN]=some (.nx e'):=by
 have ra:=aM ia;have rb:=aM ib;unfold dB;refine(ae (e:=[some (.sh (.tup [.tup A,.tup B,.tup C,.tup O])),some (.sh bk),some (.sh (.int o)),some (.sh (.int h)),some (.own (.lst F)),some (.sh (.tup [.int u,.int l,.int a])),some (.sh (.int u)),x7,x8,x9,eN]) (by simp)).trans ?_;refine(ae (e:=[some (.sh (.tup [.tup A,.tup B,.tup C,.tup O])),some (.sh bk),some (.sh (.int o)),some (.sh (.int h)),some (.own (.lst F)),some (.sh (.tup [.int u,.int l,.int a])),some (.sh (.int u)),some (.sh (.int l)),x8,x9,eN]) (by simp)).trans ?_;refine(ae (by simp[hA,hB,ia,ib,a9];rfl)).trans ?_;refine(ae (by simp[a2,b2,hs,a9];rfl)).trans ?_;simp[-forL,e,freed]
noncomputable def nrT(os:List Order)(bs:List Tr)(o h:Int)(t:Tr):List Flt:=if gM h o t.2.1 t.1 then ue os bs (h,o) (t.2.1,t.1) else[]
theorem FG(a b:Int):sortedS [.lst [.int a,.int b]]=some ⟨.tn,.lst [.int (lo2 a b),.int (hi2 a b)]⟩:=by
 rw[Iw];unfold lo2 hi2;split<;>rfl
theorem DW(os:List Order)(bs:List Tr)(o h:Int)(t:Tr):(nrT os bs o h t).length<=bs.length:=by
 unfold nrT ue;split
 .split
  .refine Gbo (n9 _ (λc=> ?_) bs) (Gap _);unfold ft;split<;>simp
  .simp
 .simp
theorem DX{w:World}(W:aH w){bk:D}{o h:Int}(h0:0<=o)(h1:o<w.orders.length):∀(gv:List Tr) (fs:List Flt) (x5 x6 x7 x8 x9 eN:Os),bC w.orders.length gv->fs.length+12*gv.length<50000->∃y5 y6 y7 y8 y9 eQ,
  forL (gN 5) dB (gv.map trD) [some (.sh (az w)),some (.sh bk),some (.sh (.int o)),some (.sh (.int h)),some (.own (.lst (fs.map ah))),x5,x6,x7,x8,x9,eN]=
   some (.nx [some (.sh (az w)),some (.sh bk),some (.sh (.int o)),some (.sh (.int h)),some (.own (.lst ((fs++gv.flatMap (nrT w.orders w.aQ o h)).map ah))),y5,y6,y7,y8,y9,eQ])
 |[],fs,x5,x6,x7,x8,x9,eN,_,_=> ⟨x5,x6,x7,x8,x9,eN,by simp⟩
 |t::gv,fs,x5,x6,x7,x8,x9,eN,hg,hz=>by
  rw[GaE] at hz;have g0:=hg t Gak;obtain⟨n,hn⟩:=GaG h0;obtain⟨m,hm⟩:=GaG g0.1;have hJ :n<w.orders.length:=by lia
  have yo :m<w.orders.length:=by lia
  have hA:atD (w.orders.map af) o=some (af w.orders[n]):=by rw[hn,bU,Gam,Gab hJ];rfl
  have hB:atD (w.orders.map af) t.1=some (af w.orders[m]):=by rw[hm,bU,Gam,Gab yo];rfl
  have le:∀b∈w.aQ,b.1<=b.2.1:=λb hb=>(W.bo.1 b hb).2.1;have b12:=W.b12;obtain⟨yt,e⟩:=DV (e0:=some (.sh (az w))) (e1:=some (.sh bk)) (e5:=some (.sh (trD t))) (a:=w.orders[n]) (b:=w.orders[m]) (o:=o) (h:=h) (u:=t.1) (l:=t.2.1) w.aQ fs eN le (by lia);have ev:=MV (A:=w.b7.map aN) (B:=w.ai.map av) (x6:=x6) (x7:=x7) (x8:=x8) (x9:=x9) hA hB (cj _ (W.oo _ (GaF hJ)).ti) (cj _ (W.oo _ (GaF yo)).ti) rfl rfl (FG _ _) e;have en:(if gM h o t.2.1 t.1 then w.aQ.flatMap (ft w.orders[n] w.orders[m] (h,o) (t.2.1,t.1)) else[])=nrT w.orders w.aQ o h t:=by
   unfold nrT ue;rw[hn,hm,GaI,GaI,Gab hJ,Gab yo]
  rw[en] at ev;have l1:=DW w.orders w.aQ o h t;obtain⟨y5,y6,y7,y8,y9,eQ,e'⟩:=DX W (bk:=bk) (h:=h) h0 h1 gv (fs++nrT w.orders w.aQ o h t) (some (.sh (trD t))) (some (.sh (.int t.1))) (some (.sh (.int t.2.1))) (some (.own (.lst [af w.orders[n],af w.orders[m]]))) (some (.sh (.tup [.int (lo2 w.orders[n].aq w.orders[m].aq),.int (hi2 w.orders[n].aq w.orders[m].aq)]))) yt (λx hx=>hg x (Gag _ hx)) (by rw[Gah];lia);refine⟨y5,y6,y7,y8,y9,eQ, ?_⟩;rw[Gay,Gbq,<-GaW];have ed:D.tup [.int t.1,.int t.2.1,.int t.2.2]=trD t:=rfl;have ew:D.tup [.tup (w.b7.map aN),.tup (w.ai.map av),.tup (w.aQ.map trD),.tup (w.orders.map af)]=az w:=rfl;rw[ed,ew] at ev;generalize trD t=td at*;generalize az w=wd at*;simp only[forL,gN,GaM,GaN,Option.bind_some,ev];exact e'
variable{bkW:D}
theorem MW{o:Int}(e:forL (gN 5) dB G [some (.sh wd),some (.sh (.tup [bkW,.tup G])),some (.sh (.int o)),some (.sh (.int h)),some (.own (.lst [])),none,none,none,none,none,none]=some (.nx [some (.sh wd),some (.sh (.tup [bkW,.tup G])),some (.sh (.int o)),some (.sh (.int h)),some (.own (.lst F)),y5,y6,y7,y8,y9,eQ]))(im:aC F=true):gI [wd,.tup [bkW,.tup G],.int o,.int h]=some (.lst F):=by
 refine b6 rfl ?_;unfold lR;refine(ae (by simp[bw,a9];rfl)).trans ?_;refine(ae (by simp[-forL,e,freed];rfl)).trans ?_;simp[im]
theorem FH(W:aH w)(hg:bC w.orders.length gv)(hl:gv.length<64){o:Int}(h0:0<=o)(h1:o<w.orders.length):gI [az w,.tup [bkW,.tup (gv.map trD)],.int o,.int h]=some (.lst ((gv.flatMap (nrT w.orders w.aQ o h)).map ah)):=by
 obtain⟨y5,y6,y7,y8,y9,eQ,e⟩:=DX W (bk:= .tup [bkW,.tup (gv.map trD)]) (h:=h) h0 h1 gv [] none none none none none none hg (by simp;lia);exact MW e (cZ _)
noncomputable def Iy(os:List Order)(g:Tr):Option Int:=(os[g.1.toNat]?).bind λo=>cq o.b5 g.2.1
noncomputable def vt(os:List Order)(o k:Int)(g:Tr):Bool:=decide (g.1=o)&&decide (Iy os g=some k)
noncomputable def kg(os:List Order)(pre:List Tr)(o k:Int):Nat:=(pre.filter (vt os o k)).length
structure sr(os:List Order)(pre ts:List Tr):Prop where
 nd:(ts.map λt=>(t.1,t.2.1)).Nodup
 ct:∀t∈ts,t.2.2=(kg os pre t.1 t.2.1:Int)
 cv:∀o k,0<kg os pre o k->∃t∈ts,t.1=o/\t.2.1=k
theorem iW(os:List Order)(pre:List Tr)(g:Tr)(o k:Int):kg os (pre++[g]) o k=kg os pre o k+(if vt os o k g then 1 else 0):=by
 unfold kg;rw[GdY,Gah];congr 1;cases h:vt os o k g<;>simp[h]
theorem KD(nd:(ts.map λt=>(t.1,t.2.1)).Nodup){t:Tr}(ht:t∈ts):fY ts t.1 t.2.1=t.2.2:=by
 unfold fY;induction ts with
 |nil=>cases ht
 |cons s ts ih=>
  rw[Gay,GbA] at nd;by_cases c:atT t.1 t.2.1 s=true
  .rw[Gdz c];rcases GaB.mp ht with rfl|ht
   .rfl
   .exfalso;have c' :=Gaq c;exact nd.1 (Gax.mpr ⟨t,ht,by rw[c'.1,c'.2]⟩)
  .rw[GdA c];rcases GaB.mp ht with rfl|ht
   .exact absurd (Gaz ⟨rfl,rfl⟩) c
   .exact ih nd.2 ht
theorem KG{o k:Int}(h:ts.any (atT o k)=false):fY ts o k=0:=by
 unfold fY;have:ts.find? (atT o k)=none:=by
  rw[GbS];intro x hx q;rw[Gcp] at h;exact h x hx q
 rw[this]
 rfl
theorem sr.step(I:sr os pre ts)(g:Tr):sr os (pre++[g]) (aX os ts g):=by
 obtain⟨nd,ct,cv⟩:=I;have e:aX os ts g=twU ts g.1 (Iy os g):=rfl;rw[e];cases hu:Iy os g with
 |none=>
  have no:∀o k,vt os o k g=false:=λo k=>by unfold vt;rw[hu];simp
  refine⟨nd,λt ht=> ?_,λo k h=> ?_⟩
  .rw[iW,no]
   simpa using ct t ht
  .rw[iW,no] at h;exact cv o k (by simpa using h)
 |some k=>
  have has:∀o q,vt os o q g=decide (g.1=o/\k=q):=λo q=>by
   unfold vt;rw[hu]
   by_cases c1:g.1=o<;>by_cases c2:k=q<;>simp[c1,c2]
  show sr os (pre++[g]) (lW ts g.1 k (fY ts g.1 k+1));unfold lW;cases ha:ts.any (atT g.1 k) with
  |true=>
   rw[Gaj rfl];obtain⟨s,hs,SJ⟩:=Gcx.mp ha;have hsa' :=Gaq SJ;have gv:fY ts g.1 k=s.2.2:=by rw[<-hsa'.1,<-hsa'.2];exact KD nd hs
   have keys:(ts.map λt=>if atT g.1 k t=true then(g.1,k,fY ts g.1 k+1) else t).map (λt=>(t.1,t.2.1))=ts.map λt=>(t.1,t.2.1):=by
    rw[GaS];refine GaP λt _=> ?_;simp only[GbN];split
    .rename_i c;have c' :=Gaq c;rw[c'.1,c'.2]
    .rfl
   refine⟨by rw[keys];exact nd,λt ht=> ?_,λo q h=> ?_⟩
   .obtain⟨x,hx,rfl⟩:=Gax.mp ht;rw[iW];by_cases c:atT g.1 k x=true
    .rw[Gaj c];dsimp only;have h1:=ct s hs;rw[hsa'.1,hsa'.2] at h1;rw[has,gv,h1];simp
    .rw[Gai c];have nc:¬(g.1=x.1/\k=x.2.1):=λz=>c (Gaz ⟨z.1.symm,z.2.symm⟩);rw[has,Gau nc]
     simpa using ct x hx
   .by_cases c:g.1=o/\k=q
    .refine⟨(g.1,k,fY ts g.1 k+1),Gax.mpr ⟨s,hs,by rw[Gaj SJ]⟩,c.1,c.2⟩
    .rw[iW,has,Gau c] at h;obtain⟨t,ht,t1,t2⟩:=cv o q (by simpa using h);refine⟨t,Gax.mpr ⟨t,ht, ?_⟩,t1,t2⟩;rw[Gai];intro z;have z' :=Gaq z;exact c ⟨by rw[<-z'.1,t1],by rw[<-z'.2,t2]⟩
  |false=>
   rw[Gai (by simp)];have g0:=KG ha;have noK:∀t∈ts,¬(t.1=g.1/\t.2.1=k):=λt ht z=>by
    rw[Gcp] at ha;exact ha t ht (Gaz z)
   have c0:kg os pre g.1 k=0:=by
    rcases Nat.eq_zero_or_pos (kg os pre g.1 k) with z|z
    .exact z
    .obtain⟨t,ht,z⟩:=cv g.1 k z;exact absurd z (noK t ht)
   refine⟨?_,λt ht=> ?_,λo q h=> ?_⟩
   .rw[GaC,GcR];refine⟨nd,by simp, ?_⟩;intro a ha' b hb;simp at hb;obtain⟨t,ht,rfl⟩:=Gax.mp ha';rw[hb];intro z;simp at z;exact noK t ht z
   .rw[iW];rcases GaL.mp ht with ht|ht
    .have nc:¬(g.1=t.1/\k=t.2.1):=λz=>noK t ht ⟨z.1.symm,z.2.symm⟩;rw[has,Gau nc]
     simpa using ct t ht
    .simp at ht;rw[ht];dsimp only;rw[has,c0,g0];simp
   .by_cases c:g.1=o/\k=q
    .exact⟨(g.1,k,fY ts g.1 k+1),by simp,c.1,c.2⟩
    .rw[iW,has,Gau c] at h;obtain⟨t,ht,z⟩:=cv o q (by simpa using h);exact⟨t,GbV _ ht,z⟩
theorem sr.all{os:List Order}:∀(gv pre ts:List Tr),sr os pre ts->sr os (pre++gv) (gv.foldl (aX os) ts)
 |[],pre,ts,I=>by rw[Gbs];exact I
 |g::gv,pre,ts,I=>by
  have:=sr.all gv (pre++[g]) _ (I.step g);rw[GaW] at this;exact this
theorem MX(os:List Order)(gv:List Tr):sr os gv (gv.foldl (aX os) []):=by
 have:=sr.all (os:=os) gv [] [] ⟨by simp,by simp,λo k h=>by simp[kg] at h⟩;exact this
theorem Iz{f:Flt}:f∈twF (gv.foldl (aX os) [])↔∃o k,f=(("twice",[o,k]):Flt)/\1<kg os gv o k:=by
 have I:=MX os gv;unfold twF;rw[Gax];constructor
 .rintro⟨t,ht,rfl⟩;have h:=Gby.mp ht;have h2:=Gaq h.2;rw[I.ct t h.1] at h2;exact⟨t.1,t.2.1,rfl,by lia⟩
 .rintro⟨o,k,rfl,h⟩;obtain⟨t,ht,rfl,rfl⟩:=I.cv o k (by lia);refine⟨t,Gby.mpr ⟨ht,Gaz ?_⟩,rfl⟩;rw[I.ct t ht];lia
noncomputable def kF(b:Bool)(x:Str)(n h:Int):List Flt:=(kk b x).map λk=>(k,[n,h])
theorem gK(b:Bool)(x:Str)(n h:Int):(kF b x n h).length<=1:=by
 unfold kF;rw[Gad];exact cz b x
theorem nj{L:List Flt}{b:Bool}{t:DT}(ht:t [e0,e1,some (.sh (.int n)),some (.sh (.int h)),e4,e5,e6,e7,some (.own (.lst (L.map ah))),e9]=some b)(hl:L.length<100000):
  ifS t (fO 8 (aT (a7 (kE (.str x)) (a7 (vE 2) (a7 (vE 3) aa))))) aF [e0,e1,some (.sh (.int n)),some (.sh (.int h)),e4,e5,e6,e7,some (.own (.lst (L.map ah))),e9]=some (.nx [e0,e1,some (.sh (.int n)),some (.sh (.int h)),e4,e5,e6,e7,some (.own (.lst ((L++kF b x n h).map ah))),e9]):=by
 have z:(L.map ah).length<16777216:=by rw[Gad];lia
 have e:(L++kF b x n h).map ah=L.map ah++(kF b x n h).map ah:=by rw[GaC]
 rw[e];cases b with
 |true=>
  generalize L.map ah=M at*;simp[ht,kF,kk,a9,z,ah]
 |false=>
  generalize L.map ah=M at*;simp[ht,kF,kk]
theorem FI(gv:List Tr)(o:Int):bX (gN 0) (aB eqB (ixE (vE 0) (kE (.int 0))) (vE 1)) (vE 0) (gv.map trD) [none,some (.sh (.int o))]=some ((gv.filter λt=>decide (t.1=o)).map trD):=by
 refine gf (g:=gN 0) trD (λenv=>∃y,env=[y,some (.sh (.int o))]) (λt=>decide (t.1=o)) trD gv _ ⟨none,rfl⟩ ?_;rintro t ht env ⟨y,rfl⟩;refine⟨[some (.sh (trD t)),some (.sh (.int o))],rfl,⟨_,rfl⟩, ?_,λ_=> ⟨.c, ?_, ?_⟩⟩
 .by_cases c:t.1=o<;>simp[trD,eqB,c]
 .have:=vh t;generalize trD t=td at*;simp[this]
 .generalize trD t=td;simp[RV.free]
theorem IA(ok:jm o.b5)(ts:List Tr)(k:Int):bX (gN 0) (aB eqB (ak gc (a7 (vE 1) (a7 (ixE (vE 0) (kE (.int 1))) aa))) (vE 2)) (vE 0) (ts.map trD) [none,some (.sh (af o)),some (.sh (.int k))]=some ((ts.filter λt=>decide (cq o.b5 t.2.1=some k)).map trD):=by
 refine gf (g:=gN 0) trD (λenv=>∃y,env=[y,some (.sh (af o)),some (.sh (.int k))]) (λt=>decide (cq o.b5 t.2.1=some k)) trD ts _ ⟨none,rfl⟩ ?_;rintro t ht env ⟨y,rfl⟩;have ed:=ni (h:=t.2.1) ok;have rv:=aM (cK (cq o.b5 t.2.1));have hx:ixD (trD t) (.int 1)=some (.int t.2.1):=rfl;have im:=vh t;refine⟨[some (.sh (trD t)),some (.sh (af o)),some (.sh (.int k))],rfl,⟨_,rfl⟩, ?_,λ_=> ⟨.c, ?_, ?_⟩⟩
 .generalize trD t=td at*;generalize af o=od at*;cases hd:cq o.b5 t.2.1 with
  |none=>
   rw[hd] at ed rv;simp[hx,ed,rv,eqB]
  |some j=>
   rw[hd] at ed rv;by_cases c:j=k<;>simp[hx,ed,rv,eqB,c]
 .generalize trD t=td at*;generalize af o=od at*;simp[im]
 .generalize trD t=td;simp[RV.free]
noncomputable def twL(gv:List Tr)(u:si)(n h:Int):List Flt:=match cq u h with
 |some k=>if 1<((gv.filter λt=>decide (t.1=n)).filter λt=>decide (cq u t.2.1=some k)).length then[("twice",[n,k])] else[]
 |none=>[]
noncomputable def pf(ws gv:List Tr)(o:Order)(s:cX)(zp n h a:Int):List Flt:=
 kF (bh o.b5 h) "astray" n h++kF (decide (o.most<a)) "most" n h++kF (decide (a<1)||decide (¬a%s.part=0)) "part" n h++kF (decide (h<zp+s.young)) "young" n h++kF (s.ax.any bA&&(wgt o.ar h ws none).isNone) "weight" n h++twL gv o.b5 n h
theorem Ck(cs:List Cap):bX (gN 0) gQ (ixE (vE 0) (kE (.int 0))) (cs.map aV) [none]=some (cs.map λc=>match c with| .flat _ _=>D.str "flat"| .kilo _ _ _=> .str "kilo"| .ever _=> .str "ever"):=by
 refine fB (g:=gN 0) aV (λenv=>∃y,env=[y]) _ cs [none] ⟨none,rfl⟩ ?_;rintro c hc env ⟨y,rfl⟩;refine⟨_,rfl,⟨_,rfl⟩,.c, ?_, ?_⟩
 .cases c<;>simp[aV]
 .cases c<;>rfl
theorem KH:∀(cs:List Cap),inB (.str "kilo") (.lst (cs.map λc=>match c with| .flat _ _=>D.str "flat"| .kilo _ _ _=> .str "kilo"| .ever _=> .str "ever"))=some (cs.any bA):=by
 intro cs;have key:∀cs:List Cap,(cs.map λc=>match c with| .flat _ _=>D.str "flat"| .kilo _ _ _=> .str "kilo"| .ever _=> .str "ever").any (λe=>eqD e (.str "kilo"))=cs.any bA:=by
  intro cs;induction cs with
  |nil=>rfl
  |cons c cs ih=>
   rw[Gay,GcF,GcF,ih];cases c<;>rfl
 have pl:(cs.map λc=>match c with| .flat _ _=>D.str "flat"| .kilo _ _ _=> .str "kilo"| .ever _=> .str "ever").all (aD 10)=true:=by
  rw[Gbp,Gao];intro c _;cases c<;>rfl
 show l4 _ _=_;unfold l4;rw[pl,key]
 rfl
theorem MY{W:List D}{s:cX}(hW:ws.map trD=W)(hG:gv.map trD=G)(hO:atD O n=some (af o))(du:jm o.b5)(hS:atD B o.aq=some (av s))(so:fh s)(hA:atD A o.ar=some (aN gu))(im:(af o).imm=true)(hl:gv.length<1000):
  kK [.tup [.tup A,.tup B,.tup C,.tup O],.tup [.tup W,.tup G],.int n,.int h,.int a]=some (.lst ((pf ws gv o s gu.2 n h a).map ah)):=by
 have iw:aC W=true:=by rw[<-hW];exact bJ ws
 have ig:aC G=true:=by rw[<-hG];exact bJ gv
 have ew:=js (ws:=ws) (g:=o.ar) (h:=h);rw[hW] at ew;have ed:=ni (h:=h) du;have rd:=aM (cK (cq o.b5 h));have sp:=so.p1;have zE :0<s.part:=by lia
 have cl:=so.cl;have is:=fC s;have xB :=aM (cK (wgt o.ar h ws none));have kc:=Ck s.ax;have ki:=KH s.ax;have zc:(s.ax.map aV).length<=16777216:=by rw[Gad];lia
 have ic:=mZ s.ax;have sc:=FI gv n;have zg:(gv.map trD).length<=16777216:=by rw[Gad];lia
 have dc:=λk=>IA du (gv.filter λt=>decide (t.1=n)) k;have zs:((gv.filter λt=>decide (t.1=n)).map trD).length<=16777216:=by
  rw[Gad];exact Gbo (GbI _ _) (by lia)
 have isame:=bJ (gv.filter λt=>decide (t.1=n));rw[hG] at sc zg;have p1:ixD (af o) (.int 3)=some (.tup [.str o.way,.int o.top,.int o.per,.int o.most]):=rfl;have p2:ixD (af o) (.int 1)=some (.int o.ar):=rfl;have p3:ixD (af o) (.int 2)=some (.int o.aq):=rfl;have p3' :ixD (af o) (.int 4)=some (cY o.b5):=rfl;have p4:ixD (av s) (.int 1)=some (.tup (.int s.part::s.more.map .int)):=rfl;have p5:ixD (av s) (.int 3)=some (.int s.young):=rfl;have p7:ixD (av s) (.int 2)=some (.tup (s.ax.map aV)):=rfl;have p6:ixD (aN gu) (.int 1)=some (.int gu.2):=rfl;generalize af o=OD at*;generalize av s=SD at*;generalize aN gu=GD at*;generalize hSm:(gv.filter λt=>decide (t.1=n))=sm at*;refine b6 rfl ?_;unfold og;refine(ae (e:=[some (.sh (.tup [.tup A,.tup B,.tup C,.tup O])),some (.sh (.tup [.tup W,.tup G])),some (.sh (.int n)),some (.sh (.int h)),some (.sh (.int a)),some (.sh OD),none,none,none,none]) (by simp[bw,hO,im])).trans ?_;refine(ae (e:=[some (.sh (.tup [.tup A,.tup B,.tup C,.tup O])),some (.sh (.tup [.tup W,.tup G])),some (.sh (.int n)),some (.sh (.int h)),some (.sh (.int a)),some (.sh OD),some (.sh SD),none,none,none]) (by simp[p3,hS,is])).trans ?_;refine(ae (e:=[some (.sh (.tup [.tup A,.tup B,.tup C,.tup O])),some (.sh (.tup [.tup W,.tup G])),some (.sh (.int n)),some (.sh (.int h)),some (.sh (.int a)),some (.sh OD),some (.sh SD),some (.sh (d9 (cq o.b5 h))),none,none]) (by simp[ed,rd])).trans ?_;refine(ae (e:=[some (.sh (.tup [.tup A,.tup B,.tup C,.tup O])),some (.sh (.tup [.tup W,.tup G])),some (.sh (.int n)),some (.sh (.int h)),some (.sh (.int a)),some (.sh OD),some (.sh SD),some (.sh (d9 (cq o.b5 h))),some (.own (.lst (([]:List Flt).map ah))),none]) (by simp[a9])).trans ?_;refine(ae (nj (b:=bh o.b5 h) ?_ (by simp))).trans ?_
 .cases hu:o.b5 with
  |asked b=>
   rw[hu] at p3';unfold cY at p3';by_cases c:h<b<;>simp[p3',eqB,bh,c,cq]
  |due b e m ea la=>
   rw[hu] at p3';unfold cY at p3';have ea' :bh (.due b e m ea la) h=(pe b e m ea la h).isNone:=rfl;have eb' :cq (.due b e m ea la) h=pe b e m ea la h:=rfl;rw[ea',eb'];generalize pe b e m ea la h=dk;cases dk<;>simp[p3',eqB,jv,bF]
 have k1:=gK (bh o.b5 h) "astray" n h;refine(ae (nj (b:=decide (o.most<a)) (by simp[p1]) (by simp only[Gah,GaU];lia))).trans ?_;have k2:=gK (decide (o.most<a)) "most" n h;refine(ae (nj (b:=decide (a<1)||decide (¬a%s.part=0)) ?_ (by simp only[Gah,GaU];lia))).trans ?_
 .by_cases c:a<1
  .simp[c]
  .have nn:=GbG a (b:=s.part) (by lia);by_cases c2:a%s.part=0
   .simp[c,p4,zE,c2]
   .have c3:0<a%s.part:=by lia
    simp[c,p4,zE,c2,c3]
 have k3:=gK (decide (a<1)||decide (¬a%s.part=0)) "part" n h;refine(ae (nj (b:=decide (h<gu.2+s.young)) (by simp[p2,hA,p6,p5]) (by simp only[Gah,GaU];lia))).trans ?_;have k4:=gK (decide (h<gu.2+s.young)) "young" n h;refine(ae (nj (b:=s.ax.any bA&&(wgt o.ar h ws none).isNone) ?_ (by simp only[Gah,GaU];lia))).trans ?_
 .generalize s.ax.any bA=bk at*;generalize (s.ax.map λc=>match c with| .flat _ _=>D.str "flat"| .kilo _ _ _=> .str "kilo"| .ever _=> .str "ever")=KK at*;generalize s.ax.map aV=CC at*;cases bk with
  |false=>simp[-bX,a9,DL.compEnv,d0,p7,ic,zc,kc,ki]
  |true=>
   simp[-bX,a9,DL.compEnv,d0,p7,ic,zc,kc,ki,p2,ew,xB,iw];cases wgt o.ar h ws none<;>simp[jv,bF]
 have k5:=gK (s.ax.any bA&&(wgt o.ar h ws none).isNone) "weight" n h;generalize hL:[]++kF (bh o.b5 h) "astray" n h++kF (decide (o.most<a)) "most" n h++kF (decide (a<1)||decide (¬a%s.part=0)) "part" n h++kF (decide (h<gu.2+s.young)) "young" n h++kF (s.ax.any bA&&(wgt o.ar h ws none).isNone) "weight" n h=L;have zL:L.length<=5:=by rw[<-hL];simp only[Gah,GaU];lia
 have eo:pf ws gv o s gu.2 n h a=L++twL gv o.b5 n h:=by
  rw[<-hL];unfold pf;simp only[GbB]
 rw[eo];generalize hSD:sm.map trD=S at*;refine(ae (e:=[some (.sh (.tup [.tup A,.tup B,.tup C,.tup O])),some (.sh (.tup [.tup W,.tup G])),some (.sh (.int n)),some (.sh (.int h)),some (.sh (.int a)),some (.sh OD),some (.sh SD),some (.sh (d9 (cq o.b5 h))),some (.own (.lst (L.map ah))),some (.own (.lst S))]) (by simp[-bX,a9,DL.compEnv,d0,ig,zg,sc])).trans ?_;have fin:∀R:List Flt,aC ((L++R).map ah)=true:=λR=>cZ _;have zM:(L.map ah).length<16777216:=by rw[Gad];lia
 refine(ae (e:=[some (.sh (.tup [.tup A,.tup B,.tup C,.tup O])),some (.sh (.tup [.tup W,.tup G])),some (.sh (.int n)),some (.sh (.int h)),some (.sh (.int a)),some (.sh OD),some (.sh SD),some (.sh (d9 (cq o.b5 h))),some (.own (.lst ((L++twL gv o.b5 n h).map ah))),some (.own (.lst S))]) ?_).trans ?_
 .unfold twL;rw[hSm];cases hd:cq o.b5 h with
  |none=>simp[dR,bF]
  |some k=>
   have Tf:=dc k;dsimp only;generalize hq:(sm.filter λt=>decide (cq o.b5 t.2.1=some k))=qs at*;rw[GaC];generalize L.map ah=M at*;by_cases c:1<qs.length
   .have c' :(1:Int)<((qs.map trD).length:Int):=by rw[Gad];lia
    rw[Gaj c];generalize qs.map trD=Q at*;simp[-bX,a9,DL.compEnv,d0,dR,bF,Tf,zs,c',zM,ah]
   .have c' :¬(1:Int)<((qs.map trD).length:Int):=by rw[Gad];lia
    rw[Gai c];generalize qs.map trD=Q at*;simp[-bX,a9,DL.compEnv,d0,dR,bF,Tf,zs,c']
 .have:=fin (twL gv o.b5 n h);generalize (L++twL gv o.b5 n h).map ah=R at*;simp[this]
noncomputable def kT(w:World)(ws gv:List Tr)(t:Tr):List Flt:=match w.orders[t.1.toNat]? with
 |some o=>match w.ai[o.aq.toNat]?,w.b7[o.ar.toNat]? with
  |some s,some g=>pf ws gv o s g.2 t.1 t.2.1 t.2.2++gJ w.orders ws gv o t.2.1 0 s.ax++gv.flatMap (nrT w.orders w.aQ t.1 t.2.1)
  |_,_=>[]
 |none=>[]
theorem PM{bk:D}(yc:wd= .tup [.tup A,.tup B,.tup C,.tup O])(hO:atD O n=some OD)(p1:ixD OD (.int 1)=some (.int g))(p2:ixD OD (.int 2)=some (.int s))(h1:kK [wd,bk,.int n,.int h,.int a]=some (.lst F1))(h2:gH [wd,bk,.int g,.int s,.int h]=some (.lst F2))(h3:gI [wd,bk,.int n,.int h]=some (.lst F3))(hz:F.length+F1.length+F2.length+F3.length<100000):
  cJ [some (.sh wd),some (.sh bk),some (.own (.lst F)),some (.sh (.int n)),some (.sh (.int h)),some (.sh (.int a))]=some (.nx [some (.sh wd),some (.sh bk),some (.own (.lst (F++(F1++F2++F3)))),some (.sh (.int n)),some (.sh (.int h)),some (.sh (.int a))]):=by
 have rl:∀L:List D,i7 (.lst L)=⟨.tn,.lst L⟩:=λ_=>rfl;have z1:F.length+F1.length<=16777216:=by lia
 have z2:(F++F1).length+F2.length<=16777216:=by rw[Gah];lia
 have z3:(F++F1++F2).length+F3.length<=16777216:=by rw[Gah,Gah];lia
 have hx:ixD wd (.int 3)=some (.tup O):=by rw[yc];rfl
 have ea:F++(F1++F2++F3)=F++F1++F2++F3:=by simp
 rw[ea];clear yc;unfold cJ;refine(ae (by simp[h1,rl,z1,a9];rfl)).trans ?_;generalize F++F1=G1 at*;refine(ae (by simp[hx,hO,p1,p2,h2,rl,z2,a9];rfl)).trans ?_;generalize G1++F2=G2 at*;simp[h3,rl,z3,a9]
theorem fM(W:aH w)(h0:0<=n)(h1:n<w.orders.length):∃o s g,w.orders[n.toNat]? =some o/\w.ai[o.aq.toNat]? =some s/\w.b7[o.ar.toNat]? =some g/\fh s/\n4 w.b7.length w.ai.length o/\atD (w.orders.map af) n=some (af o)/\atD (w.ai.map av) o.aq=some (av s)/\atD (w.b7.map aN) o.ar=some (aN g):=by
 obtain⟨i,hi⟩:=GaG h0;have eZ :i<w.orders.length:=by lia
 have ok:=W.oo w.orders[i] (GaF eZ);obtain⟨j,hj⟩:=GaG ok.s0;obtain⟨k,hk⟩:=GaG ok.g0;have sl:=ok.s1;have gl:=ok.g1;have hj' :j<w.ai.length:=by lia
 have xo :k<w.b7.length:=by lia
 refine⟨w.orders[i],w.ai[j],w.b7[k], ?_, ?_, ?_,W.so _ (GaF hj'),ok, ?_, ?_, ?_⟩
 .rw[hi,GaI,Gab eZ]
 .rw[hj,GaI,Gab hj']
 .rw[hk,GaI,Gab xo]
 .rw[hi,bU,Gam,Gab eZ];rfl
 .rw[hj,bU,Gam,Gab hj'];rfl
 .rw[hk,bU,Gam,Gab xo];rfl
theorem DY(gv:List Tr)(u:si)(n h:Int):(twL gv u n h).length<=1:=by
 unfold twL;split
 .split<;>simp
 .simp
theorem Aw(ws gv:List Tr)(o:Order)(s:cX)(b n h a:Int):(pf ws gv o s b n h a).length<=6:=by
 unfold pf;have k1:=gK (bh o.b5 h) "astray" n h;have k2:=gK (decide (o.most<a)) "most" n h;have k3:=gK (decide (a<1)||decide (¬a%s.part=0)) "part" n h;have k4:=gK (decide (h<b+s.young)) "young" n h;have k5:=gK (s.ax.any bA&&(wgt o.ar h ws none).isNone) "weight" n h;have k6:=DY gv o.b5 n h;simp only[Gah];lia
theorem DZ{w:World}(W:aH w){ws gv:List Tr}(hg:bC w.orders.length gv)(hl:gv.length<64):∀(ts:List Tr) (fs:List Flt) (x3 x4 x5:Os),bC w.orders.length ts->fs.length+800*ts.length<60000->∃y3 y4 y5,
  forL (gT [3,4,5]) cJ (ts.map trD) [some (.sh (az w)),some (.sh (.tup [.tup (ws.map trD),.tup (gv.map trD)])),some (.own (.lst (fs.map ah))),x3,x4,x5]=
   some (.nx [some (.sh (az w)),some (.sh (.tup [.tup (ws.map trD),.tup (gv.map trD)])),some (.own (.lst ((fs++ts.flatMap (kT w ws gv)).map ah))),y3,y4,y5])
 |[],fs,x3,x4,x5,_,_=> ⟨x3,x4,x5,by simp⟩
 |t::ts,fs,x3,x4,x5,ht,hz=>by
  rw[GaE] at hz;have g0:=ht t Gak;obtain⟨o,s,g,e1,e2,e3,so,ok,hO,hS,hG⟩:=fM W g0.1 g0.2;have h1:=MY (C:=w.aQ.map trD) (ws:=ws) (gv:=gv) (n:=t.1) (h:=t.2.1) (a:=t.2.2) rfl rfl hO ok.du hS so hG (cj _ ok.ti) (by lia);have h2:=FE W (ws:=ws) hg (h:=t.2.1) so hS;have h3:=FH W (bkW:= .tup (ws.map trD)) hg hl (h:=t.2.1) g0.1 g0.2;have l1:=Aw ws gv o s g.2 t.1 t.2.1 t.2.2;have l2:=kN w.orders ws gv o t.2.1 0 s.ax;have cl:=so.cl;have b12:=W.b12;have l3:(gv.flatMap (nrT w.orders w.aQ t.1 t.2.1)).length<=gv.length*12:=kM _ 12 gv λu _=>Gbo (DW ..) b12;have ev:=PM (F:=fs.map ah) rfl hO rfl rfl h1 h2 h3 (by simp only[Gad];lia);have ef:kT w ws gv t=pf ws gv o s g.2 t.1 t.2.1 t.2.2++gJ w.orders ws gv o t.2.1 0 s.ax++gv.flatMap (nrT w.orders w.aQ t.1 t.2.1):=by
   unfold kT;rw[e1];dsimp only;rw[e2,e3]
  rw[<-GaC,<-GaC,<-GaC,<-ef] at ev;have lf:(kT w ws gv t).length<=800:=by
   rw[ef];simp only[Gah];lia
  obtain⟨y3,y4,y5,e⟩:=DZ W (ws:=ws) hg hl ts (fs++kT w ws gv t) (some (.sh (.int t.1))) (some (.sh (.int t.2.1))) (some (.sh (.int t.2.2))) (λx hx=>ht x (Gag _ hx)) (by rw[Gah];lia);refine⟨y3,y4,y5, ?_⟩;rw[Gay,Gbq,<-GaW];have ed:trD t= .tup [.int t.1,.int t.2.1,.int t.2.2]:=rfl;have ew:D.tup [.tup (w.b7.map aN),.tup (w.ai.map av),.tup (w.aQ.map trD),.tup (w.orders.map af)]=az w:=rfl;rw[ew] at ev;rw[ed];generalize az w=wd at*;simp only[forL,gT,gNs,GaM,GaN,Option.bind_some,ev];exact e
theorem MZ(e:forL (gT [3,4,5]) cJ G [some (.sh wd),some (.sh (.tup [bkW,.tup G])),some (.own (.lst [])),none,none,none]=some (.nx [some (.sh wd),some (.sh (.tup [bkW,.tup G])),some (.own (.lst F)),y3,y4,y5]))(ok:qe F=true)(hR:bY (nO F)=R)(im:aC R=true):aK [wd,.tup [bkW,.tup G]]=some (.lst R):=by
 refine b6 rfl ?_;unfold jk;refine(ae (by simp[bw,a9];rfl)).trans ?_;refine(ae (by simp[-forL,e,freed];rfl)).trans ?_;simp[qf,ok,hR,im]
theorem Ax:∀(ds acc:List D),acc≠[]->ds.foldl mE acc≠[]
 |[],acc,h=>h
 |d::ds,acc,h=>by
  rw[GbH];refine Ax ds _ ?_;unfold mE;split
  .exact h
  .simp
theorem KI(ds:List D):nO ds=[]↔ds=[]:=by
 constructor
 .intro h;cases ds with
  |nil=>rfl
  |cons d ds=>exact absurd h (Ax ds [d] (by simp))
 .rintro rfl;rfl
theorem N0(ds:List D):∀x∈nO ds,x∈ds:=by
 have key:∀(ds acc:List D) x,x∈ds.foldl mE acc->x∈acc\/x∈ds:=by
  intro ds;induction ds with
  |nil=>intro acc x hx;exact .inl hx
  |cons d ds ih=>
   intro acc x hx;rcases ih _ x hx with h|h
   .unfold mE at h;split at h
    .exact .inl h
    .rcases GaL.mp h with h|h
     .exact .inl h
     .rw[Gbr.mp h];exact .inr Gak
   .exact .inr (Gag _ h)
 intro x hx;rcases key ds [] x hx with h|h
 .cases h
 .exact h
theorem N5(L:List Flt)(hl:L.length<64):qe (L.map ah)=true:=by
 have h1:((L.map ah).all λd=>uC d&&imN 4 d)=true:=by
  rw[Gbp,Gao];intro f _;show(true&&(imN 3 (.str f.1)&&(f.2.map D.int).all (imN 3)))=true;have:(f.2.map D.int).all (imN 3)=true:=by
   rw[Gbp,Gao];intro i _
   rfl
  rw[this];rfl
 unfold qe;rw[h1,Ar,Gaz (by rw[Gad];exact hl)]
 rfl
theorem m8(h:∀d∈ds,d.imm=true):aC ds=true:=jW (λ_ h=>h) h
theorem ph(W:aH w)(hg:bC w.orders.length gv)(hl:gv.length<64)(hL:(gv.flatMap (kT w ws gv)).length<64):∃R:List D,aK [az w,.tup [.tup (ws.map trD),.tup (gv.map trD)]]=some (.lst R)/\(R=[]↔gv.flatMap (kT w ws gv)=[]):=by
 obtain⟨y3,y4,y5,e⟩:=DZ W (ws:=ws) hg hl gv [] none none none hg (by simp;lia);rw[GbB] at e;have ok:=N5 _ hL;generalize gv.flatMap (kT w ws gv)=L at*;refine⟨_,MZ e ok rfl ?_, ?_⟩
 .refine m8 λd hd=> ?_;obtain⟨f,_,rfl⟩:=Gax.mp (N0 _ d ((bS _).mem_iff.mp hd));have:=mY f.2;simp[ah,this]
 .constructor
  .intro h;have p:=bS (nO (L.map ah));rw[h] at p;have:=(KI _).mp p.symm.eq_nil;exact GdW.mp this
  .rintro rfl;rfl
theorem rC{k:Int}{ms:List (Int×Int)}{f:Flt}:f∈kf ws g s k c ms↔∃h∈ms.map (·.1),f∈fD ws c g s k (h,iA c ms h):=by
 unfold kf;rw[Gde];constructor
 .rintro⟨r,hr,hf⟩;obtain⟨h,hh,rfl⟩:=Gax.mp hr;exact⟨h,((ka (ms.map (·.1))).2.1 h).mp hh,hf⟩
 .rintro⟨h,hh,hf⟩;exact⟨_,Gax.mpr ⟨h,((ka (ms.map (·.1))).2.1 h).mpr hh,rfl⟩,hf⟩
theorem oq{ws:List Tr}{g s:Int}{ms:List (Int×Int)}{f:Flt}:∀(cs:List Cap) (k:Nat),f∈ju ws g s ms k cs↔∃(j:Nat) (c:Cap),cs[j]? =some c/\f∈kf ws g s ((k+j:Nat):Int) c ms
 |[],k=>by simp[ju]
 |c::cs,k=>by
  unfold ju;rw[GaL,oq cs (k+1)];constructor
  .rintro(h| ⟨j,c',h1,h2⟩)
   .exact⟨0,c,rfl,h⟩
   .exact⟨j+1,c',by simpa using h1,by rw[show k+(j+1)=k+1+j by lia];exact h2⟩
  .rintro⟨j,c',h1,h2⟩;cases j with
   |zero=>simp at h1;subst h1;exact .inl h2
   |succ j=>exact .inr ⟨j,c',by simpa using h1,by rw[show k+1+j=k+(j+1) by lia];exact h2⟩
theorem ou{os:List Order}{ws gv:List Tr}{o:Order}{h:Int}{f:Flt}:∀(cs:List Cap) (k:Nat),f∈gJ os ws gv o h k cs↔∃(j:Nat) (c:Cap),cs[j]? =some c/\f∈fD ws c o.ar o.aq ((k+j:Nat):Int) (h,dQ os c (o.ar,o.aq) h gv)
 |[],k=>by simp[gJ]
 |c::cs,k=>by
  unfold gJ;rw[GaL,ou cs (k+1)];constructor
  .rintro(h| ⟨j,c',h1,h2⟩)
   .exact⟨0,c,rfl,h⟩
   .exact⟨j+1,c',by simpa using h1,by rw[show k+(j+1)=k+1+j by lia];exact h2⟩
  .rintro⟨j,c',h1,h2⟩;cases j with
   |zero=>simp at h1;subst h1;exact .inl h2
   |succ j=>exact .inr ⟨j,c',by simpa using h1,by rw[show k+1+j=k+(j+1) by lia];exact h2⟩
theorem Ay(W:aH w)(I:n8 w.orders gv st)(hg:bC w.orders.length gv)(f:Flt):f∈gv.flatMap (ovT w ws gv)↔f∈st.flatMap (tgF w.ai ws):=by
 have at_:∀t∈gv,∃o,w.orders[t.1.toNat]? =some o/\tk w.orders t=(o.ar,o.aq):=λt ht=>by
  have g0:=hg t ht;obtain⟨n,hn⟩:=GaG g0.1;have hJ :n<w.orders.length:=by lia
  have e:w.orders[t.1.toNat]? =some w.orders[n]:=by rw[hn,GaI,Gab hJ]
  exact⟨_,e,by unfold tk;rw[e]⟩
 have key:∀e∈st,∀c h,iA c e.2 h=dQ w.orders c e.1 h gv:=λe he c h=>by rw[rB,<-I.ms e he]
 rw[Gde,Gde];constructor
 .rintro⟨t,ht,hf⟩;obtain⟨o,ho,hk⟩:=at_ t ht;obtain⟨e,he,ek⟩:=Gax.mp (I.cov t ht);refine⟨e,he, ?_⟩;unfold ovT at hf;rw[ho] at hf;dsimp only at hf;obtain⟨j,c,h1,h2⟩:=(ou _ 0).mp hf;have e1:e.1=(o.ar,o.aq):=ek.trans hk;unfold tgF;rw[oq];rw[e1];refine⟨j,c,h1,rC.mpr ⟨t.2.1, ?_, ?_⟩⟩
  .rw[I.ms e he,GaS];exact Gax.mpr ⟨t,Gby.mpr ⟨ht,Gaz ek.symm⟩,rfl⟩
  .rw[key e he,e1];exact h2
 .rintro⟨e,he,hf⟩;unfold tgF at hf;obtain⟨j,c,h1,h2⟩:=(oq _ 0).mp hf;obtain⟨h,hh,h3⟩:=rC.mp h2;rw[I.ms e he,GaS] at hh;obtain⟨t,ht,rfl⟩:=Gax.mp hh;obtain⟨SI,h7⟩:=Gby.mp ht;have h7:=Gaq h7;obtain⟨o,ho,hk⟩:=at_ t SI;have e1:e.1=(o.ar,o.aq):=h7.symm.trans hk;refine⟨t,SI, ?_⟩;unfold ovT;rw[ho];dsimp only;rw[ou];rw[key e he,e1] at h3;rw[e1] at h1;exact⟨j,c,h1,h3⟩
def Apart(w:World)(r l:Int×Int):Prop:=∀a b,w.orders[r.2.toNat]? =some a->w.orders[l.2.toNat]? =some b->lY (w.aQ.foldl aL []) a b<=l.1 -r.1\/lY (w.aQ.foldl aL []) a b<=r.1 -l.1
structure Snd(w:World)(ws gv:List Tr):Prop where
 ED:∀t∈gv,dD w ws t=[]
 over:∀t∈gv,ovT w ws gv t=[]
 gap:(gvR gv).Pairwise (Apart w)
 cnt:∀o k,kg w.orders gv o k<=1
theorem IB(W:aH w)(a b:Order):lY (w.aQ.foldl aL []) a b=lY (w.aQ.foldl aL []) b a:=by
 have le:∀b∈w.aQ,b.1<=b.2.1:=λb hb=>(W.bo.1 b hb).2.1;have m:∀x y,mt x y=mt y x:=λx y=>by
  funext c
  unfold mt;rw[decide_eq_decide];exact or_comm
 unfold lY;by_cases c:a.ar=b.ar
 .rw[Gaj c,Gaj c.symm,iV _ _ _ _ le W.bo.2,iV _ _ _ _ le W.bo.2,m]
  rfl
 .rw[Gai c,Gai λz=>c z.symm]
theorem Apart.symm{w:World}(W:aH w){r l:Int×Int}(h:Apart w r l):Apart w l r:=λa b ha hb=>by
 rw[IB W];exact(h b a hb ha).symm
theorem nq{r l:Int×Int}(hl:r.1<=l.1):gpF w.orders (w.aQ.foldl aL []) r l=[]↔Apart w r l:=by
 unfold gpF Apart;constructor
 .intro h a b ha hb;rw[ha,hb] at h;dsimp only at h;split at h
  .cases h
  .lia
 .intro h;split
  .rename_i a b ha hb;rw[Gai];have:=h a b ha hb;lia
  .rfl
theorem vA(F:Int×Int->Int×Int->List Flt):∀rs:List (Int×Int),prs F rs=[]↔rs.Pairwise λr l=>F r l=[]
 |[]=>by simp[prs]
 |r::rs=>by
  unfold prs;rw[GbD,GaY,vA F rs,Gbn]
theorem IC(W:aH w){eh:List (Int×Int)}(r2:eh.Perm (gvR gv))(r3:eh.Pairwise λa b=>a.1<=b.1):prs (gpF w.orders (w.aQ.foldl aL [])) eh=[]↔(gvR gv).Pairwise (Apart w):=by
 rw[vA,<-r2.pairwise_iff (λ{a b} h=>Apart.symm W h)];constructor
 .intro h;exact(h.and r3).imp λ{a b} q=>(nq q.2).mp q.1
 .intro h;exact(h.and r3).imp λ{a b} q=>(nq q.2).mpr q.1
theorem nil_of{α:Type}{l:List α}(h:∀x,¬x∈l):l=[]:=List.eq_nil_iff_forall_not_mem.mpr h
theorem N6(W:aH w)(hg:bC w.orders.length gv)(hl:gv.length<64)(hz:∀(st:List Tg) (eh:List (Int×Int)),n8 w.orders gv st->eh.Perm (gvR gv)->(eh.Pairwise λa b=>a.1<=b.1)->(st.flatMap (tgF w.ai ws)++cF w.orders (w.aQ.foldl aL []) (wide w.aQ) eh++twF (gv.foldl (aX w.orders) [])++gv.flatMap (dD w ws)).length<64):∃fs:List Flt,iS [az w,.tup [.tup (ws.map trD),.tup (gv.map trD)]]=some (.lst (fs.map ah))/\(fs=[]↔Snd w ws gv):=by
 obtain⟨st,eh,I,r2,r1,r3,e,z⟩:=As (ws:=ws) W hg hl;have le:∀b∈w.aQ,b.1<=b.2.1:=λb hb=>(W.bo.1 b hb).2.1;have pos:∀b∈w.aQ,1<=b.2.2:=λb hb=>(W.bo.1 b hb).2.2.2;refine⟨_,e (hz st eh I r2 r3), ?_⟩;have nil:∀L:List Flt,ub L=[]↔L=[]:=λL=>by
  constructor
  .intro h;have p:=Cg L;rw[h] at p;exact p.symm.eq_nil
  .rintro rfl;rfl
 rw[nil];simp only[GbD];rw[lZ (Iv le pos W.bo.2) eh r3,IC W r2 r3];constructor
 .rintro⟨⟨⟨h1,h2⟩,h3⟩,h4⟩;refine⟨Gbn.mp h4,λt ht=>nil_of λf hf=> ?_,h2,λo k=> ?_⟩
  .have:=(Ay W I hg f).mp (Gde.mpr ⟨t,ht,hf⟩);rw[h1] at this;cases this
  .by_cases c:kg w.orders gv o k<=1
   .exact c
   .have:(("twice",[o,k]):Flt)∈twF (gv.foldl (aX w.orders) []):=Iz.mpr ⟨o,k,rfl,by lia⟩;rw[h3] at this;cases this
 .intro S;refine⟨⟨⟨nil_of λf hf=> ?_,S.gap⟩,nil_of λf hf=> ?_⟩,Gbn.mpr S.ED⟩
  .rw[<-Ay W I hg] at hf;obtain⟨t,ht,q⟩:=Gde.mp hf;rw[S.over t ht] at q;cases q
  .obtain⟨o,k,_,q⟩:=Iz.mp hf;have:=S.cnt o k;lia
theorem rD(h:os[n.toNat]? =some o)(k:Int):((gv.filter λt=>decide (t.1=n)).filter λt=>decide (cq o.b5 t.2.1=some k)).length=kg os gv n k:=by
 unfold kg;rw[List.filter_filter];congr 1;apply List.filter_congr;intro t _;unfold vt Iy;by_cases c:t.1=n
 .rw[c,h];simp only[Option.bind_some,Bool.and_comm]
 .simp[c]
theorem ID{t:Tr}{s:cX}{g:Str×Int}(e1:w.orders[t.1.toNat]? =some o)(e2:w.ai[o.aq.toNat]? =some s)(e3:w.b7[o.ar.toNat]? =some g):pf ws gv o s g.2 t.1 t.2.1 t.2.2=[]↔dD w ws t=[]/\twL gv o.b5 t.1 t.2.1=[]:=by
 unfold pf dD;rw[e1];dsimp only;rw[e2,e3];dsimp only;unfold k7 kF;simp only[GbD,GaC,GdW];constructor
 .rintro⟨⟨⟨⟨⟨a,b⟩,c⟩,d⟩,e⟩,f⟩;exact⟨⟨⟨⟨⟨a,b⟩,c⟩,e⟩,d⟩,f⟩
 .rintro⟨⟨⟨⟨⟨a,b⟩,c⟩,e⟩,d⟩,f⟩;exact⟨⟨⟨⟨⟨a,b⟩,c⟩,d⟩,e⟩,f⟩
theorem Cm{α:Type}{R:α->α->Prop}(sy:∀a b,R a b->R b a):∀{l:List α},l.Pairwise R->∀a∈l,∀b∈l,a≠b->R a b
 |[],_,a,ha,_,_,_=>absurd ha (by simp)
 |x::l,h,a,ha,b,hb,ne=>by
  rw[GaY] at h;rcases GaB.mp ha with e1|h1
  .rcases GaB.mp hb with e2|h2
   .exact absurd (e1.trans e2.symm) ne
   .rw[e1];exact h.1 b h2
  .rcases GaB.mp hb with e2|h2
   .rw[e2];exact sy _ _ (h.1 a h1)
   .exact Cm sy h.2 a h1 b h2 ne
theorem vB{o l:Int}(q:gM h o l u=true):h<=l/\¬(h=l/\o=u):=by
 unfold gM at q;rw[GaR,Gas,GcK,GcK,GcK] at q;lia
theorem N7{o l:Int}(q:¬(h=l/\o=u)):gM h o l u=true\/gM l u h o=true:=by
 unfold gM;simp only[GaR,Gas,GcK];lia
theorem E5(W:aH w)(hg:bC w.orders.length gv)(nd:(gvR gv).Nodup):gv.flatMap (kT w ws gv)=[]↔Snd w ws gv:=by
 have le:∀b∈w.aQ,b.1<=b.2.1:=λb hb=>(W.bo.1 b hb).2.1;rw[Gbn];have each:∀t∈gv,(kT w ws gv t=[]↔(dD w ws t=[]/\∃o,w.orders[t.1.toNat]? =some o/\twL gv o.b5 t.1 t.2.1=[])/\ovT w ws gv t=[]/\∀u∈gv,nrT w.orders w.aQ t.1 t.2.1 u=[]):=λt ht=>by
  obtain⟨o,s,g,e1,e2,e3,so,ok,_⟩:=fM W (hg t ht).1 (hg t ht).2;have lo:=ID (ws:=ws) (gv:=gv) (t:=t) e1 e2 e3;unfold kT ovT;rw[e1];dsimp only;rw[e2,e3];dsimp only;rw[GbD,GbD,lo,Gbn];constructor
  .rintro⟨⟨⟨a,b⟩,c⟩,d⟩;exact⟨⟨a,o,rfl,b⟩,c,d⟩
  .rintro⟨⟨a,o',eo,b⟩,c,d⟩;cases eo;exact⟨⟨⟨a,b⟩,c⟩,d⟩
 have gp:∀r l:Int×Int,r.1<=l.1->(ue w.orders w.aQ r l=[]↔Apart w r l):=λr l hl=>by
  rw[DU le W.bo.2 hl];exact nq hl
 constructor
 .intro h;refine⟨λt ht=>((each t ht).mp (h t ht)).1.1,λt ht=>((each t ht).mp (h t ht)).2.1, ?_,λn k=> ?_⟩
  .have all:∀r∈gvR gv,∀l∈gvR gv,r≠l->Apart w r l:=λr hr l hl ne=>by
    obtain⟨t,ht,rfl⟩:=Gax.mp hr;obtain⟨u,hu,rfl⟩:=Gax.mp hl;have ne' :¬(t.2.1=u.2.1/\t.1=u.1):=λz=>ne (by rw[z.1,z.2]);rcases N7 ne' with q|q
    .have:=((each t ht).mp (h t ht)).2.2 u hu;unfold nrT at this;rw[q,Gaj rfl] at this;exact(gp (t.2.1,t.1) (u.2.1,u.1) (vB q).1).mp this
    .have:=((each u hu).mp (h u hu)).2.2 t ht;unfold nrT at this;rw[q,Gaj rfl] at this;exact Apart.symm W ((gp (u.2.1,u.1) (t.2.1,t.1) (vB q).1).mp this)
   exact(GcX.mp nd).imp λ{a b} z=>all a z.1 b z.2.1 z.2.2
  .by_cases c:kg w.orders gv n k<=1
   .exact c
   .exfalso;have cp:0<kg w.orders gv n k:=by lia
    unfold kg at cp;obtain⟨t,ht⟩:=List.exists_mem_of_length_pos cp;have h1:=Gby.mp ht;have h2:=h1.2;unfold vt at h2;rw[Gas] at h2;have q1:=Gaq h2.1;have q2:=Gaq h2.2;obtain⟨o,eo,tw⟩:=((each t h1.1).mp (h t h1.1)).1.2;unfold Iy at q2;rw[eo] at q2;have q3:cq o.b5 t.2.1=some k:=q2;unfold twL at tw;rw[q3] at tw;dsimp only at tw;rw[rD eo,q1,Gaj (by lia)] at tw;cases tw
 .intro S t ht;refine(each t ht).mpr ⟨⟨S.ED t ht, ?_⟩,S.over t ht,λu hu=> ?_⟩
  .obtain⟨o,s,g,e1,_⟩:=fM W (hg t ht).1 (hg t ht).2;refine⟨o,e1, ?_⟩;unfold twL;split
   .rename_i k hk;rw[rD e1,Gai];have:=S.cnt t.1 k;lia
   .rfl
  .unfold nrT;split
   .rename_i q;have lq:=vB q;refine(gp (t.2.1,t.1) (u.2.1,u.1) lq.1).mpr ?_;have hr:(t.2.1,t.1)∈gvR gv:=Gax.mpr ⟨t,ht,rfl⟩;have hl:(u.2.1,u.1)∈gvR gv:=Gax.mpr ⟨u,hu,rfl⟩;exact Cm (λa b z=>Apart.symm W z) S.gap _ hr _ hl λz=>lq.2 (by injection z with z1 z2;exact⟨z1,z2⟩)
   .rfl
theorem PN:∃far:Int,(far=1\/far=1000000)/\bP [.scr ns]=some (.int far):=by
 have e:=aG (ns:=ns) (k:=300) (by lia) (by lia);have q:mx ns 300%6=0\/mx ns 300%6=1\/mx ns 300%6=2\/mx ns 300%6=3\/mx ns 300%6=4\/mx ns 300%6=5:=by lia
 unfold bP oe;rcases q with q|q|q|q|q|q<;>simp[e,q,a9]
variable{far:Int}
theorem N8{k part:Int}(hk:0<=k)(xD:k<100000)(hp:1<=part)(yd:part<=50000)(hf:1<=far)(xq:far<=1000000):
  ∃c:Cap,l9 c/\g9 [.scr ns,.int k,.int part,.int far]=some (aV c):=by
 have e:∀j:Int,0<=j->j<=4->a8 [.scr ns,.int (k+j)]=some (.int (mx ns (k+j))):=λj h1 h2=>aG (by lia) (by lia);have e0:=aG (ns:=ns) (k:=k) (by lia) (by lia);have e1:=e 1 (by lia) (by lia);have e2:=e 2 (by lia) (by lia);have e3:=e 3 (by lia) (by lia);have e4:=e 4 (by lia) (by lia);have m1:∀j,aZ far j=true:=λj=>bf (by lia) (by lia);have m2:∀j,aZ part j=true:=λj=>bf (by lia) (by lia);have h1:1<=far*(3+mx ns (k+1)%28):=dP hf (by lia);have up:∀q B:Int,0<=q->q<=B->part*q<=50000*B:=λq B a b=>Cd (by lia) yd a b;by_cases c1:mx ns k%3=0
 .refine⟨.flat (far*(3+mx ns (k+1)%28)) (part*(3+mx ns (k+2)%18)),⟨h1,dP hp (by lia), ?_⟩, ?_⟩
  .have:=up (3+mx ns (k+2)%18) 20 (by lia) (by lia);lia
  .unfold g9 iT aV;simp[e0,e1,e2,m1,m2,c1,a9]
 .by_cases c2:mx ns k%3=1
  .refine⟨.kilo (far*(3+mx ns (k+1)%28)) (part*(1+mx ns (k+3)%9)) (5+mx ns (k+4)%40),⟨h1,dP hp (by lia), ?_,by lia,by lia⟩, ?_⟩
   .have:=up (1+mx ns (k+3)%9) 9 (by lia) (by lia);lia
   .unfold g9 iT aV;simp[e0,e1,e3,e4,m1,m2,c1,c2,a9]
  .refine⟨.ever (part*(8+mx ns (k+2)%30)),⟨dP hp (by lia), ?_⟩, ?_⟩
   .have:=up (8+mx ns (k+2)%30) 37 (by lia) (by lia);lia
   .unfold g9 iT aV;simp[e0,e1,e2,m1,m2,c1,c2,a9]
theorem Cn{xs:List D}{x:D}:atD (xs++[x]) (-1)=some x:=by
 unfold atD;rw[Gai (by lia),Gaj (by simp;lia)];have:(-1+((xs++[x]).length:Int)).toNat=xs.length:=by simp;lia
 rw[this];simp
variable{x2 x3:Os}{p:Int}
theorem Co{k:Int}{ms:List Int}(hk:0<=k)(xD:k<100000)(hp:1<=p)(yd:p<=50000)(hj:0<=j)(Rn:j<=2)(hl:ms.length<=2)(hm:∀m∈ms,1<=m/\m<=1+6*(ms.length:Int)):
  ∃m,1<=m/\m<=1+6*((ms.length:Int)+1)/\cR [some (.sh (.scr ns)),some (.sh (.int k)),x2,x3,some (.sh (.int p)),some (.own (.lst ((1::ms).map λm=> .int (p*m)))),some (.sh (.int j)),x7,x8]=
   some (.nx [some (.sh (.scr ns)),some (.sh (.int k)),x2,x3,some (.sh (.int p)),some (.own (.lst ((1::(ms++[m])).map λm=> .int (p*m)))),some (.sh (.int j)),x7,x8]):=by
 have e:=aG (ns:=ns) (k:=k+2+j) (by lia) (by lia);have r:=mxm ns (k+2+j) 6 (by lia);have m2:∀j,aZ p j=true:=λj=>bf (by lia) (by lia);obtain⟨l,SQ,zP,xJ⟩:∃l,1<=l/\l<=1+6*(ms.length:Int)/\atD ((1::ms).map λm=>D.int (p*m)) (-1)=some (.int (p*l)):=by
  rcases List.eq_nil_or_concat ms with h| ⟨xH,l,h⟩
  .subst h;exact⟨1,by lia,by simp,by rfl⟩
  .rw[List.concat_eq_append] at h;subst h;have:=hm l (by simp);refine⟨l,this.1,this.2, ?_⟩;have e9:((1::(xH ++[l])).map λm=>D.int (p*m))=((1::xH).map λm=>D.int (p*m))++[.int (p*l)]:=by simp
   rw[e9,Cn]
 refine⟨l+(1+mx ns (k+2+j)%6),by lia,by lia, ?_⟩;have z:ms.length+1<16777216:=by lia
 have zl :atD (D.int (p*1)::(ms.map λm=>D.int (p*m))) (-1)=some (.int (p*l)):=by simpa using xJ
 unfold cR;simp[e,m2,zl,a9,z,Int.mul_add];simp at zl;simp[zl,z,Int.mul_add]
theorem FJ{k:Int}(hk:0<=k)(xD:k<100000)(hp:1<=p)(yd:p<=50000)(n:Nat)(hn:n<=2):
  ∃ms y6,ms.length=n/\(∀m∈ms,1<=m/\m<=30)/\forL (gN 6) cR (aJ 0 n) [some (.sh (.scr ns)),some (.sh (.int k)),x2,x3,some (.sh (.int p)),some (.own (.lst [.int p])),none,none,none]=
   some (.nx [some (.sh (.scr ns)),some (.sh (.int k)),x2,x3,some (.sh (.int p)),some (.own (.lst ((1::ms).map λm=> .int (p*m)))),y6,none,none]):=by
 obtain⟨e,h1,ms,y6,rfl,h2,h3⟩:=d8 (g:=gN 6) (body:=cR) (λi env=>∃ms y6,env=[some (.sh (.scr ns)),some (.sh (.int k)),x2,x3,some (.sh (.int p)),some (.own (.lst ((1::ms).map λm=> .int (p*m)))),y6,none,none]/\ms.length=i/\∀m∈ms,1<=m/\m<=1+6*(ms.length:Int)) (aJ 0 n) 0 _ ⟨[],none,rfl,rfl,by simp⟩ (by
  rintro i d env hd ⟨ms,y6,rfl,h2,h3⟩;obtain⟨hi,rfl⟩:=bz hd;rw[Gbc] at h2;obtain⟨m,m1,m2,q⟩:=Co (ns:=ns) (k:=k) (p:=p) (j:=0+(i:Int)) (ms:=ms) (x2:=x2) (x3:=x3) (x7:=none) (x8:=none) hk xD hp yd (by lia) (by lia) (by lia) h3;refine⟨_,_,rfl,q,ms++[m],_,rfl,by simp;lia,λz hz=> ?_⟩;rcases GaL.mp hz with hz|hz
  .have:=h3 z hz;simp;lia
  .simp at hz;subst hz;simp;lia)
 rw[cW,Gbc] at h2;refine⟨ms,y6,h2,λm hm=> ?_, ?_⟩
 .have:=h3 m hm;lia
 .simpa using h1
variable{x5:Os}
theorem FK{k:Int}(hk:0<=k)(xD:k<10000)(hp:1<=p)(yd:p<=50000)(hf:1<=far)(xq:far<=1000000)(n:Nat)(hn:n<=2):
  ∃(cs:List Cap) (y6:Os),cs.length=n/\(∀c∈cs,l9 c)/\forL (gN 6) fc (aJ 0 n) [some (.sh (.scr ns)),some (.sh (.int k)),x2,some (.sh (.int far)),some (.sh (.int p)),x5,x6,some (.own (.lst [])),none]=
   some (.nx [some (.sh (.scr ns)),some (.sh (.int k)),x2,some (.sh (.int far)),some (.sh (.int p)),x5,y6,some (.own (.lst (cs.map aV))),none]):=by
 obtain⟨e,h1,cs,y6,rfl,h2,h3⟩:=d8 (g:=gN 6) (body:=fc) (λi env=>∃(cs:List Cap) (y6:Os),env=[some (.sh (.scr ns)),some (.sh (.int k)),x2,some (.sh (.int far)),some (.sh (.int p)),x5,y6,some (.own (.lst (cs.map aV))),none]/\cs.length=i/\∀c∈cs,l9 c) (aJ 0 n) 0 _ ⟨[],x6,rfl,rfl,by simp⟩ (by
  rintro i d env hd ⟨cs,y6,rfl,h2,h3⟩;obtain⟨hi,rfl⟩:=bz hd;have i2:i<=2:=by lia
  obtain⟨c,c1,c2⟩:=N8 (ns:=ns) (k:=k+6+5*(0+(i:Int))) (part:=p) (far:=far) (by lia) (by lia) hp yd hf xq;have m5:aZ 5 (0+(i:Int))=true:=bf (by lia) (by lia);have z:(cs.map aV).length<16777216:=by rw[Gad];lia
  have rv:=aM (qW c);have em:(cs++[c]).map aV=cs.map aV++[aV c]:=by simp
  generalize 0+(i:Int)=j at*;refine⟨_,_,rfl, ?_,cs++[c],some (.sh (.int j)),rfl,by simp;lia, ?_⟩
  .rw[em];generalize cs.map aV=CS at*;generalize aV c=cd at*;unfold fc;simp[m5,c2,a9,z,rv,RV.free]
  .intro x hx;rcases GaL.mp hx with hx|hx
   .exact h3 x hx
   .simp at hx;subst hx;exact c1)
 rw[cW,Gbc] at h2;exact⟨cs,y6,h2,h3,h1⟩
theorem IE{k:Int}(hk:0<=k)(xD:k<10000)(hf:1<=far)(xq:far<=1000000):∃s:cX,fh s/\s.ax.length<=2/\gX [.scr ns,.int k,.str x,.int far]=some (av s):=by
 have e0:=aG (ns:=ns) (k:=k) (by lia) (by lia);have Sm:=aG (ns:=ns) (k:=301) (by lia) (by lia);have e1:=aG (ns:=ns) (k:=k+1) (by lia) (by lia);have e4:=aG (ns:=ns) (k:=k+4) (by lia) (by lia);have e5:=aG (ns:=ns) (k:=k+5) (by lia) (by lia);have r0:=mxm ns k 5 (by lia);have r1:=mxm ns (k+1) 3 (by lia);have r4:=mxm ns (k+4) 3 (by lia);have r5:=Lg ns (k+5);obtain⟨mul,hmul,u1,u2⟩:∃mul:Int,atD [D.int 1,.int 1,.int 10000] (mx ns 301%3)=some (.int mul)/\1<=mul/\mul<=10000:=by
  have q:mx ns 301%3=0\/mx ns 301%3=1\/mx ns 301%3=2:=by lia
  rcases q with q|q|q<;>simp[q]
 generalize U1:1+mx ns k%5=p0;have hp0a:1<=p0:=by lia
 have hp0b:p0<=5:=by lia
 have y1:1<=p0*mul:=dP hp0a u1;have hpb:p0*mul<=50000:=by
  have:=Cd (by lia) hp0b (by lia) u2;lia
 generalize hp:p0*mul=p at*;have m0:aZ p0 mul=true:=bf (by lia) (by lia);obtain⟨ms,y6,ml,mb,l1⟩:=FJ (ns:=ns) (k:=k) (p:=p) (x2:=some (.sh (.str x))) (x3:=some (.sh (.int far))) hk (by lia) y1 hpb (mx ns (k+1)%3).toNat (by lia);obtain⟨cs,z6,cl,ck,l2⟩:=FK (ns:=ns) (k:=k) (p:=p) (far:=far) (x2:=some (.sh (.str x))) (x5:=some (.own (.lst ((1::ms).map λm=> .int (p*m))))) (x6:=y6) hk xD y1 hpb hf xq (mx ns (k+4)%3).toNat (by lia);have s1:aY (mx ns (k+1)%3)=true:=bL (by lia) (by lia);have s4:aY (mx ns (k+4)%3)=true:=bL (by lia) (by lia);generalize mx ns (k+5)=yv at*;have m5:aZ (yv%2) far=true:=bf (by lia) (by lia);have m6:∀i,aZ i (yv/2%20)=true:=λi=>fX (by lia) (by lia);refine⟨⟨x,p,ms.map (p* ·),cs,yv%2*far*(yv/2%20)⟩,⟨y1,by show p<=100000;lia,by show cs.length<=4;lia,ck, ?_⟩,by show cs.length<=2;lia, ?_⟩
 .exact GcY (GcY (by lia) (by lia)) (by lia)
 .have ci:=mZ cs;have ee:((p::ms.map (p* ·)).map D.int)=(1::ms).map λm=>D.int (p*m):=by simp
  have im:aC ((1::ms).map λm=>D.int (p*m))=true:=by rw[<-ee];exact mY _
  unfold av;dsimp only;rw[ee];generalize cs.map aV=CS at*;have e1m:(1::ms).map (λm=>D.int (p*m))= .int p::ms.map λm=> .int (p*m):=by simp
  rw[e1m] at l1 l2 im⊢;generalize (D.int p::ms.map λm=>D.int (p*m))=MS at*;unfold gX jS;simp[-forL,e0,Sm,e1,e4,e5,hmul,U1,m0,hp,s1,s4,l1,l2,m5,m6,a9,ci,im,freed]
theorem KJ{k:Int}(hk:0<=k)(xD:k<100000)(hf:1<=far)(xq:far<=1000000):∃u:si,jm u/\gG [.scr ns,.int k,.int far]=some (cY u):=by
 have e0:=aG (ns:=ns) (k:=k) (by lia) (by lia);have e1:=aG (ns:=ns) (k:=k+1) (by lia) (by lia);have e2:=aG (ns:=ns) (k:=k+2) (by lia) (by lia);have e3:=aG (ns:=ns) (k:=k+3) (by lia) (by lia);have e4:=aG (ns:=ns) (k:=k+4) (by lia) (by lia);have e5:=aG (ns:=ns) (k:=k+5) (by lia) (by lia);have mf:∀j,aZ far j=true:=λj=>bf (by lia) (by lia);have up:∀q B:Int,0<=q->q<=B->far*q<=1000000*B:=λq B a b=>Cd (by lia) xq a b;by_cases c:mx ns k%4=0
 .refine⟨.asked (far*(mx ns (k+1)%20)),GcY (by lia) (by lia), ?_⟩;unfold gG jf cY;simp[e0,e1,c,mf,a9]
 .generalize he:2+mx ns (k+2)%10=ev;have q1:2<=ev:=by lia
  have q2:ev<=11:=by lia
  have r3:=mxm ns (k+3) ev (by lia);generalize Uc:mx ns (k+3)%ev=ea at r3;have r4:=mxm ns (k+4) (ev -ea) (by lia);generalize Rm:mx ns (k+4)%(ev -ea)=la at r4;refine⟨.due (far*(ea+mx ns (k+1)%12)) (far*ev) (1+mx ns (k+5)%6) (far*ea) (far*la),⟨dP hf (by lia), ?_,by lia,GcY (by lia) r3.1,GcY (by lia) r4.1, ?_, ?_, ?_⟩, ?_⟩
  .have:=up ev 11 (by lia) q2;lia
  .rw[<-Int.mul_add];exact Int.mul_lt_mul_of_pos_left (by lia) (by lia)
  .exact Int.mul_le_mul_of_nonneg_left (by lia) (by lia)
  .have:=up (ea+mx ns (k+1)%12) 22 (by lia) (by lia);lia
  .have p1:0<ev:=by lia
   have p2:0<ev -ea:=by lia
   have p3:ea<ev:=by lia
   unfold gG jf cY;simp[e0,e1,e2,e3,e4,e5,c,mf,he,Uc,Rm,p1,p2,p3,a9]
def kO(t:D):Prop:=∃a b c:Int,t= .tup [.int a,.int b,.int c]
theorem kO.imm{t:D}(h:kO t):t.imm=true:=by obtain⟨a,b,c,rfl⟩:=h;simp
variable{at_:Int}
theorem Az{k:Int}{u:si}{ts:List D}{x16:Os}(hk:0<=k)(xD:k<10000)(hj:0<=j)(Rn:j<=2)(hl:ts.length<=100)(ht:∀t∈ts,kO t):
  ∃at' zC zq,ff [some (.sh (.scr ns)),some (.sh (.int k)),x2,x3,x4,x5,x6,x7,x8,x9,eN,eR,some (.sh (cY u)),some (.own (.lst ts)),some (.sh (.int at_)),some (.sh (.int j)),x16]=
   some (.nx [some (.sh (.scr ns)),some (.sh (.int k)),x2,x3,x4,x5,x6,x7,x8,x9,eN,eR,some (.sh (cY u)),some (.own (.lst zC)),some (.sh (.int at')),some (.sh (.int j)),zq])/\zC.length<=ts.length+1/\∀t∈zC,kO t:=by
 have e1:=aG (ns:=ns) (k:=k+14+j) (by lia) (by lia);have e2:=aG (ns:=ns) (k:=k+16+j) (by lia) (by lia);have e3:=aG (ns:=ns) (k:=k+18+j) (by lia) (by lia);have z:ts.length<16777216:=by lia
 generalize xJ:at_+1+mx ns (k+14+j)%2=at';generalize zk:1+mx ns (k+16+j)%12=den;have Ug:0<den:=by lia
 unfold ff;cases u with
 |asked b=>
  refine⟨at',ts,some (.sh (.int den)), ?_,by lia,ht⟩;unfold cY;simp[e1,e2,e3,xJ,zk]
 |due b e m ea la=>
  unfold cY;by_cases c:at' <m
  .refine⟨at',ts++[.tup [.int at',.int (1+mx ns (k+18+j)%den),.int den]],some (.sh (.int den)), ?_,by simp, ?_⟩
   .simp[e1,e2,e3,xJ,zk,c,Ug,a9,z]
   .intro t h;rcases GaL.mp h with h|h
    .exact ht t h
    .simp at h;exact⟨_,_,_,h⟩
  .refine⟨at',ts,some (.sh (.int den)), ?_,by lia,ht⟩;simp[e1,e2,e3,xJ,zk,c]
variable{ss:List cX}
theorem IF{k:Int}{gs:List (Str×Int)}(hk:0<=k)(xD:k<10000)(hf:1<=far)(xq:far<=1000000)(hg:1<=gs.length)(hs:1<=ss.length)(RW:∀s∈ss,fh s):
  ∃(o:Order) (c:Int),n4 gs.length ss.length o/\(∃s,ss[o.aq.toNat]? =some s/\o.most=s.part*c)/\1<=c/\c<=12/\gY [.scr ns,.int k,.str x,.lst (gs.map aN),.lst (ss.map av),.int far]=some (af o):=by
 have e:∀j:Int,0<=j->j<=30->a8 [.scr ns,.int (k+j)]=some (.int (mx ns (k+j))):=λj h1 h2=>aG (by lia) (by lia);have e0:=aG (ns:=ns) (k:=k) (by lia) (by lia);have e1:=e 1 (by lia) (by lia);have e2:=e 2 (by lia) (by lia);have e3:=e 3 (by lia) (by lia);have e4:=e 4 (by lia) (by lia);have e5:=e 5 (by lia) (by lia);have e6:=e 6 (by lia) (by lia);have e7:=e 7 (by lia) (by lia);have Uv:=e 20 (by lia) (by lia);have r0:=mxm ns k (ss.length:Int) (by lia);have r20:=mxm ns (k+20) (gs.length:Int) (by lia);obtain⟨st,xU⟩:∃st:Nat,mx ns k%(ss.length:Int)=st:=⟨(mx ns k%(ss.length:Int)).toNat,by lia⟩
 have hst2:st<ss.length:=by lia
 have xJ:atD (ss.map av) (st:Int)=some (av ss[st]):=by rw[bU,Gam,Gab hst2];rfl
 have hok:=RW ss[st] (GaF hst2);have hget:ss[st]? =some ss[st]:=by simp[hst2]
 generalize ss[st]=sd at*;have p1:=hok.p1;have p2:=hok.p2;have q1:ixD (av sd) (.int 1)=some (.tup (.int sd.part::sd.more.map .int)):=rfl;have TF:=fC sd;obtain⟨way,RP⟩:∃way:Str,atD [D.str "down",.str "up",.str "near"] (mx ns (k+6)%3)=some (.str way):=by
  have q:mx ns (k+6)%3=0\/mx ns (k+6)%3=1\/mx ns (k+6)%3=2:=by lia
  rcases q with q|q|q<;>simp[q]
 obtain⟨u,Rj,zJ⟩:=KJ (ns:=ns) (k:=k+8) (far:=far) (by lia) (by lia) hf xq;have r7:=mxm ns (k+7) 3 (by lia);have s7:aY (mx ns (k+7)%3)=true:=bL (by lia) (by lia);have mp:∀j,aZ sd.part j=true:=λj=>bf (by lia) (by lia);have m2:∀j,aZ (mx ns (k+2)%2) j=true:=λj=>bf (by lia) (by lia);have pp:0<sd.part:=by lia
 have di:=u3 u;have rv:=aM di;generalize hc:1+mx ns (k+1)%12=c;generalize RX:mx ns (k+2)%2*(10+mx ns (k+3)%90)=per;generalize RU:sd.part*(mx ns (k+4)%8)+1+mx ns (k+5)%sd.part=top;have Uq:cw [.lst (gs.map aN)]=some ⟨.c,.int (gs.length:Int)⟩:=by simp[cw]
 have Uo:cw [.lst (ss.map av)]=some ⟨.c,.int (ss.length:Int)⟩:=by simp[cw]
 have TX:(0:Int)<ss.length:=by lia
 have Sd:(0:Int)<gs.length:=by lia
 generalize hGS:gs.map aN=GS at*;generalize hSS:ss.map av=SS at*;generalize hDD:cY u=DD at*;obtain⟨en,h1,Rx,ts,Rz,zq,rfl,h2,h3⟩:=d8 (g:=gN 15) (body:=ff) (λi env=>∃Rx ts Rz zq,env=[some (.sh (.scr ns)),some (.sh (.int k)),some (.sh (.str x)),some (.sh (.lst GS)),some (.sh (.lst SS)),some (.sh (.int far)),some (.sh (.int st)),some (.sh (.int sd.part)),some (.sh (.int (sd.part*c))),some (.sh (.int per)),some (.sh (.int top)),some (.sh (.tup [.str way,.int top,.int per,.int (sd.part*c)])),some (.sh DD),some (.own (.lst ts)),some (.sh (.int Rx)),Rz,zq]/\ts.length<=i/\∀t∈ts,kO t) (aJ 0 (mx ns (k+7)%3).toNat) 0
  [some (.sh (.scr ns)),some (.sh (.int k)),some (.sh (.str x)),some (.sh (.lst GS)),some (.sh (.lst SS)),some (.sh (.int far)),some (.sh (.int st)),some (.sh (.int sd.part)),some (.sh (.int (sd.part*c))),some (.sh (.int per)),some (.sh (.int top)),some (.sh (.tup [.str way,.int top,.int per,.int (sd.part*c)])),some (.sh DD),some (.own (.lst [])),some (.sh (.int 0)),none,none]
  ⟨0,[],none,none,rfl,by simp,by simp⟩ (by
   rintro i d env hd ⟨Rx,ts,Rz,zq,rfl,h2,h3⟩;obtain⟨hi,rfl⟩:=bz hd;obtain⟨at',zC,Ti,q1,q2,q3⟩:=Az (ns:=ns) (k:=k) (j:=0+(i:Int)) (at_:=Rx) (u:=u) (ts:=ts) (x2:=some (.sh (.str x))) (x3:=some (.sh (.lst GS))) (x4:=some (.sh (.lst SS))) (x5:=some (.sh (.int far))) (x6:=some (.sh (.int st))) (x7:=some (.sh (.int sd.part))) (x8:=some (.sh (.int (sd.part*c)))) (x9:=some (.sh (.int per))) (eN:=some (.sh (.int top))) (eR:=some (.sh (.tup [.str way,.int top,.int per,.int (sd.part*c)]))) (x16:=zq) hk xD (by lia) (by lia) (by lia) h3;rw[hDD] at q1;exact⟨_,_,rfl,q1,at',zC,_,Ti,rfl,by lia,q3⟩)
 have ti:=jW (λ_=>kO.imm) h3;refine⟨⟨x,mx ns (k+20)%(gs.length:Int),(st:Int),way,top,per,sd.part*c,u,ts⟩,c,⟨r20.1,r20.2,by show(0:Int)<=(st:Int);lia,by show(st:Int)<(ss.length:Int);lia,Rj,ti⟩,⟨sd,by show ss[((st:Int)).toNat]? =some sd;rw[GaI];exact hget,rfl⟩,by lia,by lia, ?_⟩;unfold af;dsimp only;rw[hDD];generalize (gs.length:Int)=lg at*;generalize (ss.length:Int)=ls at*;generalize (st:Int)=sti at*;generalize av sd=SD at*;unfold gY jT;simp[-forL,-qd,Uq,Uo,e0,e1,e2,e3,e4,e5,e6,e7,Uv,TX,Sd,xU,xJ,q1,TF,RP,zJ,s7,mp,m2,pp,hc,RX,RU,a9,h1,ti,di,rv,freed]
theorem FL{x:Int}{n:Nat}{bs:List Tr}(hf:1<=far)(xq:far<=1000000)(hn:n<=3)(hx:0<=x)(TJ:x<=y)(TH:y<n)(hl:bs.length<=100)(hb:iz n bs)(eU:jX x y bs):
  ∃(xf :List Tr) (y9:Os),iz n xf /\jX x (y+1) xf /\xf.length<=bs.length+1/\cC [some (.sh (.scr ns)),some (.sh (.int far)),x2,x3,x4,x5,some (.own (.lst (bs.map trD))),some (.sh (.int x)),some (.sh (.int y)),x9,eN]=
   some (.nx [some (.sh (.scr ns)),some (.sh (.int far)),x2,x3,x4,x5,some (.own (.lst (xf.map trD))),some (.sh (.int x)),some (.sh (.int y)),y9,eN]):=by
 have e1:=aG (ns:=ns) (k:=370+3*x+y) (by lia) (by lia);have e2:=aG (ns:=ns) (k:=380+3*x+y) (by lia) (by lia);have e3:=aG (ns:=ns) (k:=390+3*x+y) (by lia) (by lia);have m3:aZ 3 x=true:=bf (by lia) (by lia);have mf:∀j,aZ far j=true:=λj=>bf (by lia) (by lia);have lm:(bs.map trD).length=bs.length:=Gad _;have z:(bs.map trD).length<16777216:=by lia
 have r:=mxm ns (390+3*x+y) (((bs.map trD).length:Int)+1) (by lia);have s:=bL (i:=mx ns (390+3*x+y)%(((bs.map trD).length:Int)+1)) (by lia) (by lia);have p:(0:Int)<((bs.map trD).length:Int)+1:=by lia
 by_cases c:mx ns (370+3*x+y)%3=0
 .generalize hg:far*(1+mx ns (380+3*x+y)%8)=g;have g1:1<=g:=by rw[<-hg];exact dP hf (by lia)
  generalize hi:mx ns (390+3*x+y)%(((bs.map trD).length:Int)+1)=i at*;have pm:=Bm bs i (x,y,g);refine⟨fG bs i (x,y,g),some (.sh (.int g)),⟨λb xI => ?_, ?_⟩,λb xI => ?_,by rw[sY];lia, ?_⟩
  .rcases GaB.mp (pm.mem_iff.mp xI) with h|h
   .subst h;exact⟨hx,TJ,TH,g1⟩
   .exact hb.1 b h
  .rw[(pm.map vk).nodup_iff,Gay,GbA];refine⟨λh=> ?_,hb.2⟩;obtain⟨b,xI,e⟩:=Gax.mp h;have h1:=eU b xI;unfold vk at e;simp at e;lia
  .rcases GaB.mp (pm.mem_iff.mp xI) with h|h
   .subst h;exact .inr ⟨rfl,by show y<y+1;lia⟩
   .have:=eU b h;lia
  .rw[Fs];have et:trD (x,y,g)= .tup [.int x,.int y,.int g]:=rfl;rw[et];generalize bs.map trD=B at*;unfold cC;simp[e1,e2,e3,m3,mf,c,a9,z,s,p,hg,hi]
 .refine⟨bs,x9,hb,λb h=>by have:=eU b h;lia,by lia, ?_⟩;generalize bs.map trD=B at*;unfold cC;simp[e1,m3,c]
variable{SS:List D}
theorem AA{x:Int}{n:Nat}{bs:List Tr}(hf:1<=far)(xq:far<=1000000)(hn:n<=3)(hx:0<=x)(hm:x+m<=n)(hl:bs.length<=50)(hb:iz n bs)(eU:jX x x bs):
  ∃(xf :List Tr) (z8 z9:Os),iz n xf /\jX x (x+m) xf /\xf.length<=bs.length+m/\forL (gN 8) cC (aJ x m) [some (.sh (.scr ns)),some (.sh (.int far)),x2,x3,x4,some (.own (.lst SS)),some (.own (.lst (bs.map trD))),some (.sh (.int x)),x8,x9,none]=
   some (.nx [some (.sh (.scr ns)),some (.sh (.int far)),x2,x3,x4,some (.own (.lst SS)),some (.own (.lst (xf.map trD))),some (.sh (.int x)),z8,z9,none]):=by
 obtain⟨e,q1,xf,z8,z9,q2,q3,q4,rfl⟩:=d8 (g:=gN 8) (body:=cC) (λj env=>∃(xf :List Tr) (z8 z9:Os),iz n xf /\jX x (x+(j:Int)) xf /\xf.length<=bs.length+j/\env=[some (.sh (.scr ns)),some (.sh (.int far)),x2,x3,x4,some (.own (.lst SS)),some (.own (.lst (xf.map trD))),some (.sh (.int x)),z8,z9,none]) (aJ x m) 0 _ ⟨bs,x8,x9,hb,by rw[show x+((0:Nat):Int)=x by lia];exact eU,by simp,rfl⟩ (by
  rintro j d env hd ⟨xf,z8,z9,q2,q3,q4,rfl⟩;obtain⟨hj,rfl⟩:=bz hd;rw[Gbc] at q3;obtain⟨Ux,w9,r1,r2,r3,r4⟩:=FL (ns:=ns) (far:=far) (x:=x) (y:=x+(j:Int)) (n:=n) (bs:=xf) (x2:=x2) (x3:=x3) (x4:=x4) (x5:=some (.own (.lst SS))) (x9:=z9) (eN:=none) hf xq hn hx (by lia) (by lia) (by lia) q2 q3;exact⟨_,_,rfl,r4,Ux,_,w9,r1,by rw[show x+((0+j+1:Nat):Int)=x+(j:Int)+1 by lia];exact r2,by lia,rfl⟩)
 rw[cW,Gbc] at q3 q4;exact⟨xf,z8,z9,q2,q3,q4,q1⟩
theorem IG{x L:Int}{n:Nat}{bs:List Tr}(hL:cw [.lst SS]=some ⟨.c,.int L⟩)(UE:L=n)(hf:1<=far)(xq:far<=1000000)(hn:n<=3)(hx:0<=x)(UA:x<L)(hl:bs.length<=50)(hb:iz n bs)(eU:jX x x bs):
  ∃(xf :List Tr) (z8 z9:Os),iz n xf /\jX (x+1) (x+1) xf /\xf.length<=bs.length+3/\cD [some (.sh (.scr ns)),some (.sh (.int far)),x2,x3,x4,some (.own (.lst SS)),some (.own (.lst (bs.map trD))),some (.sh (.int x)),x8,x9,none]=
   some (.nx [some (.sh (.scr ns)),some (.sh (.int far)),x2,x3,x4,some (.own (.lst SS)),some (.own (.lst (xf.map trD))),some (.sh (.int x)),z8,z9,none]):=by
 obtain⟨xf,z8,z9,q2,q3,q4,q1⟩:=AA (ns:=ns) (far:=far) (x:=x) (n:=n) (m:=(L -x).toNat) (SS:=SS) (bs:=bs) (x2:=x2) (x3:=x3) (x4:=x4) (x8:=x8) (x9:=x9) hf xq hn hx (by lia) hl hb eU;have sa:aY x=true:=bL (by lia) (by lia);have sb:aY L=true:=bL (by lia) (by lia);refine⟨xf,z8,z9,q2,λb h=>by have:=q3 b h;lia,by lia, ?_⟩;generalize bs.map trD=B at*;generalize xf.map trD=B' at*;unfold cD;simp[-forL,-qd,hL,sa,sb,q1]
theorem FN(hf:1<=far)(xq:far<=1000000)(hs:SS.length<=3):
  ∃(bs:List Tr) (y7 y8 y9:Os),iz SS.length bs/\bs.length<=9/\forL (gN 7) cD (aJ 0 SS.length) [some (.sh (.scr ns)),some (.sh (.int far)),x2,x3,x4,some (.own (.lst SS)),some (.own (.lst [])),none,none,none,none]=
   some (.nx [some (.sh (.scr ns)),some (.sh (.int far)),x2,x3,x4,some (.own (.lst SS)),some (.own (.lst (bs.map trD))),y7,y8,y9,none]):=by
 obtain⟨e,h1,bs,y7,y8,y9,h2,T9,h3,rfl⟩:=d8 (g:=gN 7) (body:=cD) (λi env=>∃(bs:List Tr) (y7 y8 y9:Os),iz SS.length bs/\jX (i:Int) (i:Int) bs/\bs.length<=3*i/\env=[some (.sh (.scr ns)),some (.sh (.int far)),x2,x3,x4,some (.own (.lst SS)),some (.own (.lst (bs.map trD))),y7,y8,y9,none]) (aJ 0 SS.length) 0 [some (.sh (.scr ns)),some (.sh (.int far)),x2,x3,x4,some (.own (.lst SS)),some (.own (.lst [])),none,none,none,none] ⟨[],none,none,none,⟨λb hb=>absurd hb (by simp),by simp⟩,λb hb=>absurd hb (by simp),by simp,rfl⟩ (by
  rintro i d env hd ⟨bs,y7,y8,y9,h2,T9,h3,rfl⟩;obtain⟨hi,rfl⟩:=bz hd;obtain⟨xf,z8,z9,q1,Tw,q2,q3⟩:=IG (ns:=ns) (far:=far) (x:=0+(i:Int)) (L:=(SS.length:Int)) (n:=SS.length) (SS:=SS) (bs:=bs) (x2:=x2) (x3:=x3) (x4:=x4) (x8:=y8) (x9:=y9) rfl rfl hf xq hs (by lia) (by lia) (by lia) h2 (λb h=>by have:=T9 b h;lia);exact⟨_,_,rfl,q3,xf,_,z8,z9,q1,λb h=>by have:=Tw b h;lia,by lia,rfl⟩)
 rw[cW] at h3;exact⟨bs,y7,y8,y9,h2,by lia,h1⟩
def Has(x:Str)(n:Nat):Prop:=x.length<=4/\∀i:Nat,i<n->∃c,atD x.cps.toList (i:Int)=some c
theorem KN:Has (Str.ofString "abc") 3:=⟨by decide,λi hi=>match i,hi with|0,_=> ⟨_,rfl⟩|1,_=> ⟨_,rfl⟩|2,_=> ⟨_,rfl⟩⟩
theorem KO:Has (Str.ofString "uvw") 3:=⟨by decide,λi hi=>match i,hi with|0,_=> ⟨_,rfl⟩|1,_=> ⟨_,rfl⟩|2,_=> ⟨_,rfl⟩⟩
theorem IH:Has (Str.ofString "klmn") 4:=⟨by decide,λi hi=>match i,hi with|0,_=> ⟨_,rfl⟩|1,_=> ⟨_,rfl⟩|2,_=> ⟨_,rfl⟩|3,_=> ⟨_,rfl⟩⟩
theorem rE:Has (Str.ofString "abcd") 4:=⟨by decide,λi hi=>match i,hi with|0,_=> ⟨_,rfl⟩|1,_=> ⟨_,rfl⟩|2,_=> ⟨_,rfl⟩|3,_=> ⟨_,rfl⟩⟩
theorem Has.le{n:Nat}(h:Has x n)(hm:m<=n):Has x m:=⟨h.1,λi hi=>h.2 i (by lia)⟩
noncomputable def bM(a b c:Str):D:= .lst [.str a,.str b,.str c]
theorem AB{a b c:Str}(ha:Has a 3)(hf:1<=far)(xq:far<=1000000)(n:Nat)(hn:n<=3):
  ∃(gs:List (Str×Int)) (y4:Os),gs.length=n/\forL (gN 4) cS (aJ 0 n) [some (.sh (.scr ns)),some (.sh (.int far)),some (.sh (bM a b c)),some (.own (.lst [])),none,none,none,none,none,none,none]=
   some (.nx [some (.sh (.scr ns)),some (.sh (.int far)),some (.sh (bM a b c)),some (.own (.lst (gs.map aN))),y4,none,none,none,none,none,none]):=by
 obtain⟨e,h1,gs,y4,rfl,h2⟩:=d8 (g:=gN 4) (body:=cS) (λi env=>∃(gs:List (Str×Int)) (y4:Os),env=[some (.sh (.scr ns)),some (.sh (.int far)),some (.sh (bM a b c)),some (.own (.lst (gs.map aN))),y4,none,none,none,none,none,none]/\gs.length=i) (aJ 0 n) 0 _ ⟨[],none,rfl,rfl⟩ (by
  rintro i d env hd ⟨gs,y4,rfl,h2⟩;obtain⟨hi,rfl⟩:=bz hd;have hj:0+(i:Int)=(i:Int):=by lia
  rw[hj];obtain⟨ch,xG⟩:=ha.2 i (by lia);have e1:=aG (ns:=ns) (k:=302+(i:Int)) (by lia) (by lia);have mf:∀j,aZ far j=true:=λj=>bf (by lia) (by lia);have z:(gs.map aN).length<16777216:=by rw[Gad];lia
  have la:=ha.1;have zF:a.length<=16777216:=by lia
  generalize (i:Int)=j at xG e1;refine⟨_,_,rfl, ?_,gs++[(⟨#[ch]⟩,far*(mx ns (302+j)%10))],some (.sh (.int j)),rfl,by simp;lia⟩;have em:(gs++[((⟨#[ch]⟩:Str),far*(mx ns (302+j)%10))]).map aN=gs.map aN++[.tup [.str ⟨#[ch]⟩,.int (far*(mx ns (302+j)%10))]]:=by simp[aN]
  rw[em];generalize gs.map aN=GS at*;unfold cS bM;simp[xG,e1,mf,a9,z,zF])
 rw[cW,Gbc] at h2;exact⟨gs,y4,h2,h1⟩
theorem AD{a b c:Str}(hb:Has b 3)(hf:1<=far)(xq:far<=1000000)(n:Nat)(hn:n<=3):
  ∃(ss:List cX) (y4:Os),ss.length=n/\(∀s∈ss,fh s/\s.ax.length<=2)/\forL (gN 4) cT (aJ 0 n) [some (.sh (.scr ns)),some (.sh (.int far)),some (.sh (bM a b c)),x3,x4,some (.own (.lst [])),none,none,none,none,none]=
   some (.nx [some (.sh (.scr ns)),some (.sh (.int far)),some (.sh (bM a b c)),x3,y4,some (.own (.lst (ss.map av))),none,none,none,none,none]):=by
 obtain⟨e,h1,ss,y4,rfl,h2,h3⟩:=d8 (g:=gN 4) (body:=cT) (λi env=>∃(ss:List cX) (y4:Os),env=[some (.sh (.scr ns)),some (.sh (.int far)),some (.sh (bM a b c)),x3,y4,some (.own (.lst (ss.map av))),none,none,none,none,none]/\ss.length=i/\∀s∈ss,fh s/\s.ax.length<=2) (aJ 0 n) 0 _ ⟨[],x4,rfl,rfl,by simp⟩ (by
  rintro i d env hd ⟨ss,y4,rfl,h2,h3⟩;obtain⟨hi,rfl⟩:=bz hd;have hj:0+(i:Int)=(i:Int):=by lia
  rw[hj];obtain⟨ch,xG⟩:=hb.2 i (by lia);obtain⟨sd,s1,RH,s2⟩:=IE (ns:=ns) (k:=310+20*(i:Int)) (far:=far) (x:=⟨#[ch]⟩) (by lia) (by lia) hf xq;have Sx:aZ 20 (i:Int)=true:=bf (by lia) (by lia);have z:(ss.map av).length<16777216:=by rw[Gad];lia
  have la:=hb.1;have zF:b.length<=16777216:=by lia
  have rv:=aM (fC sd);have em:(ss++[sd]).map av=ss.map av++[av sd]:=by simp
  generalize (i:Int)=j at xG s2 Sx;refine⟨_,_,rfl, ?_,ss++[sd],some (.sh (.int j)),rfl,by simp;lia, ?_⟩
  .rw[em];generalize ss.map av=SS at*;generalize av sd=sD at*;unfold cT bM;simp[xG,Sx,s2,a9,z,zF,rv,RV.free]
  .intro x hx;rcases GaL.mp hx with hx|hx
   .exact h3 x hx
   .simp at hx;subst hx;exact⟨s1,RH⟩)
 rw[cW,Gbc] at h2;exact⟨ss,y4,h2,h3,h1⟩
theorem Cp{v9 v5 v6 v7 L:Int}{a b c:Str}{gs ss bs os:List D}{z4 w4:Os}(ef:bP [.scr ns]=some (.int far))(e9:a8 [.scr ns,.int 299]=some (.int v9))(e5:a8 [.scr ns,.int 305]=some (.int v5))(e6:a8 [.scr ns,.int 306]=some (.int v6))(e7:a8 [.scr ns,.int 307]=some (.int v7))
  (S5:atD [D.lst [.str "abc",.str "uvw",.str "klmn"],D.lst [.str "abcd",.str "abcd",.str "abcd"]] (if v9%3=0 then 1 else 0)=some (bM a b c))(t5:aY (1+v5%3)=true)(t6:aY (1+v6%3)=true)(t7:aY (1+v7%4)=true)(hL:cw [.lst ss]=some ⟨.c,.int L⟩)(ts:aY L=true)
  (l1:forL (gN 4) cS (aJ 0 (1+v5%3).toNat) [some (.sh (.scr ns)),some (.sh (.int far)),some (.sh (bM a b c)),some (.own (.lst [])),none,none,none,none,none,none,none]=some (.nx [some (.sh (.scr ns)),some (.sh (.int far)),some (.sh (bM a b c)),some (.own (.lst gs)),y4,none,none,none,none,none,none]))
  (l2:forL (gN 4) cT (aJ 0 (1+v6%3).toNat) [some (.sh (.scr ns)),some (.sh (.int far)),some (.sh (bM a b c)),some (.own (.lst gs)),y4,some (.own (.lst [])),none,none,none,none,none]=some (.nx [some (.sh (.scr ns)),some (.sh (.int far)),some (.sh (bM a b c)),some (.own (.lst gs)),z4,some (.own (.lst ss)),none,none,none,none,none]))
  (l3:forL (gN 7) cD (aJ 0 L.toNat) [some (.sh (.scr ns)),some (.sh (.int far)),some (.sh (bM a b c)),some (.own (.lst gs)),z4,some (.own (.lst ss)),some (.own (.lst [])),none,none,none,none]=some (.nx [some (.sh (.scr ns)),some (.sh (.int far)),some (.sh (bM a b c)),some (.own (.lst gs)),z4,some (.own (.lst ss)),some (.own (.lst bs)),y7,y8,y9,none]))
  (l5:forL (gN 4) cU (aJ 0 (1+v7%4).toNat) [some (.sh (.scr ns)),some (.sh (.int far)),some (.sh (bM a b c)),some (.own (.lst gs)),z4,some (.own (.lst ss)),some (.own (.lst bs)),y7,y8,y9,some (.own (.lst []))]=some (.nx [some (.sh (.scr ns)),some (.sh (.int far)),some (.sh (bM a b c)),some (.own (.lst gs)),w4,some (.own (.lst ss)),some (.own (.lst bs)),y7,y8,y9,some (.own (.lst os))]))
  (i1:aC gs=true)(i2:aC ss=true)(i3:aC bs=true)(i4:aC os=true):fL [.scr ns]=some (.tup [.tup gs,.tup ss,.tup bs,.tup os]):=by
 refine b6 rfl ?_;unfold jU;refine(ae (by simp[ef];rfl)).trans ?_;refine(ae (by simp[e9,S5,a9];rfl)).trans ?_;refine(ae (by simp[a9];rfl)).trans ?_;refine(ae (by simp[e5,t5,l1];rfl)).trans ?_;refine(ae (by simp[a9];rfl)).trans ?_;refine(ae (by simp[e6,t6,l2];rfl)).trans ?_;refine(ae (by simp[a9];rfl)).trans ?_;refine(ae (by simp[-qd,hL,ts,l3];rfl)).trans ?_;refine(ae (by simp[a9];rfl)).trans ?_;refine(ae (by simp[e7,t7,l5];rfl)).trans ?_;simp[a9,i1,i2,i3,i4]
def ox(ss:List cX)(o:Order):Prop:=∃(s:cX) (c:Int),ss[o.aq.toNat]? =some s/\o.most=s.part*c/\1<=c/\c<=12
theorem AE{a b c:Str}{gs:List (Str×Int)}(hc:Has c 4)(hf:1<=far)(xq:far<=1000000)(hg:1<=gs.length)(hs:1<=ss.length)(RW:∀s∈ss,fh s)(n:Nat)(hn:n<=4):
  ∃(os:List Order) (y4:Os),os.length=n/\(∀o∈os,n4 gs.length ss.length o/\ox ss o)/\forL (gN 4) cU (aJ 0 n) [some (.sh (.scr ns)),some (.sh (.int far)),some (.sh (bM a b c)),some (.own (.lst (gs.map aN))),x4,some (.own (.lst (ss.map av))),x6,x7,x8,x9,some (.own (.lst []))]=
   some (.nx [some (.sh (.scr ns)),some (.sh (.int far)),some (.sh (bM a b c)),some (.own (.lst (gs.map aN))),y4,some (.own (.lst (ss.map av))),x6,x7,x8,x9,some (.own (.lst (os.map af)))]):=by
 obtain⟨e,h1,os,y4,rfl,h2,h3⟩:=d8 (g:=gN 4) (body:=cU) (λi env=>∃(os:List Order) (y4:Os),env=[some (.sh (.scr ns)),some (.sh (.int far)),some (.sh (bM a b c)),some (.own (.lst (gs.map aN))),y4,some (.own (.lst (ss.map av))),x6,x7,x8,x9,some (.own (.lst (os.map af)))]/\os.length=i/\∀o∈os,n4 gs.length ss.length o/\ox ss o) (aJ 0 n) 0 _ ⟨[],x4,rfl,rfl,by simp⟩ (by
  rintro i d env hd ⟨os,y4,rfl,h2,h3⟩;obtain⟨hi,rfl⟩:=bz hd;have hj:0+(i:Int)=(i:Int):=by lia
  rw[hj];obtain⟨ch,xG⟩:=hc.2 i (by lia);obtain⟨od,cc,s1,⟨sd,Tv,RH⟩,Tu,Tt,s2⟩:=IF (ns:=ns) (k:=400+25*(i:Int)) (far:=far) (x:=⟨#[ch]⟩) (gs:=gs) (ss:=ss) (by lia) (by lia) hf xq hg hs RW;have Sw:aZ 25 (i:Int)=true:=bf (by lia) (by lia);have z:(os.map af).length<16777216:=by rw[Gad];lia
  have la:=hc.1;have zF:c.length<=16777216:=by lia
  have rv:=aM (cj od s1.ti);have em:(os++[od]).map af=os.map af++[af od]:=by simp
  generalize (i:Int)=j at xG s2 Sw;refine⟨_,_,rfl, ?_,os++[od],some (.sh (.int j)),rfl,by simp;lia, ?_⟩
  .rw[em];generalize gs.map aN=GS at*;generalize ss.map av=SS at*;generalize os.map af=OS at*;generalize af od=oD at*;unfold cU bM;simp[xG,Sw,s2,a9,z,zF,rv,RV.free]
  .intro x hx;rcases GaL.mp hx with hx|hx
   .exact h3 x hx
   .simp at hx;subst hx;exact⟨s1,sd,cc,Tv,RH,Tu,Tt⟩)
 rw[cW,Gbc] at h2;exact⟨os,y4,h2,h3,h1⟩
theorem II(ns:List Int):∃(far:Int) (w:World),(far=1\/far=1000000)/\aH w/\w.orders.length<=4/\(∀s∈w.ai,s.ax.length<=2)/\(∀o∈w.orders,ox w.ai o)/\bP [.scr ns]=some (.int far)/\fL [.scr ns]=some (az w):=by
 obtain⟨far,Se,ef⟩:=PN (ns:=ns);have hf:1<=far:=by lia
 have xq:far<=1000000:=by lia
 have e299:=aG (ns:=ns) (k:=299) (by lia) (by lia);have e305:=aG (ns:=ns) (k:=305) (by lia) (by lia);have e306:=aG (ns:=ns) (k:=306) (by lia) (by lia);have e307:=aG (ns:=ns) (k:=307) (by lia) (by lia);obtain⟨a,b,c,ha,hb,hc,S5⟩:∃a b c:Str,Has a 3/\Has b 3/\Has c 4/\atD [D.lst [.str "abc",.str "uvw",.str "klmn"],D.lst [.str "abcd",.str "abcd",.str "abcd"]] (if mx ns 299%3=0 then 1 else 0)=some (bM a b c):=by
  by_cases q:mx ns 299%3=0
  .exact⟨"abcd","abcd","abcd",rE.le (by lia),rE.le (by lia),rE,by simp[q,bM]⟩
  .exact⟨"abc","uvw","klmn",KN,KO,IH,by simp[q,bM]⟩
 obtain⟨gs,y4,g1,l1⟩:=AB (ns:=ns) (far:=far) (a:=a) (b:=b) (c:=c) ha hf xq (1+mx ns 305%3).toNat (by lia);obtain⟨ss,z4,s1,s2,l2⟩:=AD (ns:=ns) (far:=far) (a:=a) (b:=b) (c:=c) (x3:=some (.own (.lst (gs.map aN)))) (x4:=y4) hb hf xq (1+mx ns 306%3).toNat (by lia);have lS:(ss.map av).length=ss.length:=Gad _;obtain⟨bs,y7,y8,y9,b1,b2,l3⟩:=FN (ns:=ns) (far:=far) (SS:=ss.map av) (x2:=some (.sh (bM a b c))) (x3:=some (.own (.lst (gs.map aN)))) (x4:=z4) hf xq (by lia);obtain⟨os,w4,o1,o2,l5⟩:=AE (ns:=ns) (far:=far) (a:=a) (b:=b) (c:=c) (gs:=gs) (ss:=ss) (x4:=z4) (x6:=some (.own (.lst (bs.map trD)))) (x7:=y7) (x8:=y8) (x9:=y9) hc hf xq (by lia) (by lia) (λs hs=>(s2 s hs).1) (1+mx ns 307%4).toNat (by lia);rw[lS] at b1;have WW:aH ⟨gs,ss,bs,os⟩:=⟨by show 1<=gs.length;lia,by show gs.length<=6;lia,by show 1<=ss.length;lia,by show ss.length<=6;lia,λs hs=>(s2 s hs).1,by show bs.length<=12;lia,b1,by show 1<=os.length;lia,by show os.length<=12;lia,λo ho=>(o2 o ho).1⟩
 refine⟨far,⟨gs,ss,bs,os⟩,Se,WW,by show os.length<=4;lia,λs hs=>(s2 s hs).2,λo ho=>(o2 o ho).2,ef, ?_⟩;have t5:aY (1+mx ns 305%3)=true:=bL (by lia) (by lia);have t6:aY (1+mx ns 306%3)=true:=bL (by lia) (by lia);have t7:aY (1+mx ns 307%4)=true:=bL (by lia) (by lia);have ts:aY ((ss.map av).length:Int)=true:=bL (by lia) (by lia);have i4:aC (os.map af)=true:=m8 λd hd=>by
  obtain⟨o,ho,rfl⟩:=Gax.mp hd;exact cj o (o2 o ho).1.ti
 have hN:((ss.map av).length:Int).toNat=(ss.map av).length:=by lia
 rw[<-hN] at l3;exact Cp ef e299 e305 e306 e307 S5 t5 t6 t7 rfl ts l1 l2 l3 l5 (fj qX gs) (fj fC ss) (bJ bs) i4
theorem N9{b:Bool}:kk b x=[]↔b=false:=by cases b<;>simp[kk]
theorem uf{s:cX}{g:Str×Int}(e1:w.orders[n.toNat]? =some o)(e2:w.ai[o.aq.toNat]? =some s)(e3:w.b7[o.ar.toNat]? =some g):dD w ws (n,h,a)=[]↔(((bh o.b5 h=false/\a<=o.most)/\(1<=a/\a%s.part=0))/\(s.ax.any bA&&(wgt o.ar h ws none).isNone)=false)/\¬h<g.2+s.young:=by
 unfold dD;dsimp only;rw[e1];dsimp only;rw[e2,e3];dsimp only;rw[GdW];unfold k7;simp only[GbD,N9,Bool.or_eq_false_iff,decide_eq_false_iff_not,Gda,Decidable.not_not]
theorem Lh(W:aH w)(n h:Int)(t:Tr):(nrT w.orders w.aQ n h t).length<=1:=by
 unfold nrT;split
 .rename_i q;rw[DU (λb hb=>(W.bo.1 b hb).2.1) W.bo.2 (show(h,n).1<=(t.2.1,t.1).1 from(vB q).1)];unfold gpF;split
  .split<;>simp
  .simp
 .simp
theorem nr{α β:Type}{f:α->List β}{m:Nat}:∀l:List α,(∀x∈l,(f x).length<=m)->(l.flatMap f).length<=m*l.length
 |[],_=>by simp
 |x::l,h=>by
  have h1:=h x Gak;have h2:=nr l λy hy=>h y (Gag _ hy);rw[Gbq,Gah,GaE,Nat.mul_add];lia
variable{ws' gv' :List Tr}
theorem Na{t:Tr}{s:cX}{g:Str×Int}(e1:w.orders[t.1.toNat]? =some o)(e2:w.ai[o.aq.toNat]? =some s)(e3:w.b7[o.ar.toNat]? =some g)(h:dD w ws t=[]):(pf ws' gv' o s g.2 t.1 t.2.1 t.2.2).length<=2:=by
 have q:=(uf (n:=t.1) (h:=t.2.1) (a:=t.2.2) e1 e2 e3).mp h;have k5:=gK (s.ax.any bA&&(wgt o.ar t.2.1 ws' none).isNone) "weight" t.1 t.2.1;have k6:=DY gv' o.b5 t.1 t.2.1;have f1:kF (bh o.b5 t.2.1) "astray" t.1 t.2.1=[]:=by rw[q.1.1.1.1];rfl
 have f2:kF (decide (o.most<t.2.2)) "most" t.1 t.2.1=[]:=by rw[Gau (by have:=q.1.1.1.2;lia)];rfl
 have f3:kF (decide (t.2.2<1)||decide (¬t.2.2%s.part=0)) "part" t.1 t.2.1=[]:=by rw[Gau (by have:=q.1.1.2.1;lia),Gau (λz=>z q.1.1.2.2)];rfl
 have f4:kF (decide (t.2.1<g.2+s.young)) "young" t.1 t.2.1=[]:=by rw[Gau q.2];rfl
 unfold pf;rw[f1,f2,f3,f4];simp only[GbB,Gah];lia
theorem vC{t:Tr}{s:cX}{g:Str×Int}(e1:w.orders[t.1.toNat]? =some o)(e2:w.ai[o.aq.toNat]? =some s)(e3:w.b7[o.ar.toNat]? =some g):kT w ws gv t=pf ws gv o s g.2 t.1 t.2.1 t.2.2++gJ w.orders ws gv o t.2.1 0 s.ax++gv.flatMap (nrT w.orders w.aQ t.1 t.2.1):=by
 unfold kT;rw[e1];dsimp only;rw[e2,e3]
theorem KP(W:aH w)(hc:∀s∈w.ai,s.ax.length<=2)(hg:bC w.orders.length gv)(nd:(gvR gv).Nodup)(S:Snd w ws gv)(hl:gv.length<=9)(h1:ts.length<=1)(ht:bC w.orders.length ts)(p:gv'.Perm (gv++ts)):(gv'.flatMap (kT w ws' gv')).length<64:=by
 have none_:=(E5 W hg nd).mpr S;rw[(p.flatMap_right _).length_eq,GdX,Gah];have len:gv'.length<=10:=by rw[p.length_eq,Gah];lia
 have old:∀t∈gv,(kT w ws' gv' t).length<=5:=λt h=>by
  obtain⟨o,s,g,e1,e2,e3,_⟩:=fM W (hg t h).1 (hg t h).2;have n1:=Gbn.mp none_ t h;rw[vC e1 e2 e3,GbD] at n1;have a1:=Na (ws' :=ws') (gv' :=gv') e1 e2 e3 (S.ED t h);have a2:=kN w.orders ws' gv' o t.2.1 0 s.ax;have a3:=hc s (GaD e2);have a4:(gv'.flatMap (nrT w.orders w.aQ t.1 t.2.1)).length<=1:=by
   rw[(p.flatMap_right _).length_eq,GdX,n1.2,GbB];have:=nr (f:=nrT w.orders w.aQ t.1 t.2.1) (m:=1) ts λx _=>Lh W _ _ x;lia
  rw[vC e1 e2 e3,Gah,Gah];lia
 have new:∀t∈ts,(kT w ws' gv' t).length<=18:=λt h=>by
  obtain⟨o,s,g,e1,e2,e3,_⟩:=fM W (ht t h).1 (ht t h).2;have a1:=Aw ws' gv' o s g.2 t.1 t.2.1 t.2.2;have a2:=kN w.orders ws' gv' o t.2.1 0 s.ax;have a3:=hc s (GaD e2);have a4:=nr (f:=nrT w.orders w.aQ t.1 t.2.1) (m:=1) gv' λx _=>Lh W _ _ x;rw[vC e1 e2 e3,Gah,Gah];lia
 have s1:=nr gv old;have s2:=nr ts new;lia
theorem E9{k:Int}(hk:0<=k)(xD:k<100000)(hf:far=1\/far=1000000)(hd:jm o.b5):∃h:Int,cy [.scr ns,.int k,af o,.int far]=some (.int h):=by
 have e0:=aG (ns:=ns) (k:=k) (by lia) (by lia);have e1:=aG (ns:=ns) (k:=k+1) (by lia) (by lia);have r1:=Lg ns (k+1);have f0:0<far:=by lia
 have f1:far<1073741824:=by lia
 have mf:∀j,aZ far j=true:=λj=>bf (by lia) (by lia);unfold af;generalize o.b5=u at*;cases u with
 |asked b=>
  unfold cy jg cY;simp[e0,mf]
 |due b e m ea la=>
  obtain⟨_,_,⟨m1,m2⟩,a0,l0,_⟩:=hd;generalize mx ns (k+1)=by_ at*;have m0:0<m:=by lia
  have r0:=mxm ns k m m0;have mm:∀j,aZ (mx ns k%m) j=true:=λj=>bf (by lia) (by lia);have p0:0<=(ea+la)/far:=Int.ediv_nonneg (by lia) (by lia);have p1:0<1+(ea+la)/far:=by lia
  have mb:∀j,aZ (by_/7%2) j=true:=λj=>bf (by lia) (by lia);unfold cy jg cY;simp[e0,e1,m0,mm,f0,f1,p1,mf,mb]
noncomputable def spD(t:Tr):D:= .tup [.int t.1,.int t.2.1]
variable{l:List Tr}
theorem rF(hl:l.length<=1000):bH [.tup (l.map trD)]=some (.lst (l.map spD)):=by
 have h:=fB (g:=gN 0) (f:=aT (a7 (ixE (vE 0) (kE (.int 0))) (a7 (ixE (vE 0) (kE (.int 1))) aa))) trD (λe=>∃x,e=[x]) spD l [none] ⟨none,rfl⟩ (by
  rintro t _ e ⟨x,rfl⟩;exact⟨_,rfl,⟨_,rfl⟩,.c,by simp[trD,spD,a9],rfl⟩)
 have i:aC (l.map spD)=true:=fj (λt=>by simp[spD]) l;have z:l.length<=16777216:=by lia
 have c0:DL.compEnv 1 [] [some (.sh (.tup (l.map trD)))]=[none]:=rfl;unfold bH jV;simp[h,z,a9,c0,i]
noncomputable def iB(n h:Int)(l:List Tr):Bool:=l.any λt=>decide (t.1=n/\t.2.1=h)
theorem AF(n h:Int)(l:List Tr):inB (.tup [.int n,.int h]) (.lst (l.map spD))=some (iB n h l):=by
 show l4 _ _=_;unfold l4;have p1:(l.map spD).all (aD 10)=true:=by
  rw[Gbp,Gao];intro t _
  rfl
 have p2:aD 10 (.tup [.int n,.int h])=true:=rfl;rw[p1,p2];show some ((l.map spD).any λy=>eqD y (.tup [.int n,.int h]))=_;rw[GdT];unfold iB;congr 2
 funext t
 show(decide (t.1=n)&&(decide (t.2.1=h)&&true))=_;rw[Bool.and_true,<-Bool.decide_and]
theorem FP:iB n h l=false↔¬(h,n)∈gvR l:=by
 unfold iB gvR;rw[Gcp];constructor
 .intro q m;obtain⟨t,ht,e⟩:=Gax.mp m;injection e with e1 e2
  exact q t ht (Gaz ⟨e2,e1⟩)
 .intro q t ht z;have:=Gaq z;exact q (Gax.mpr ⟨t,ht,by rw[this.1,this.2]⟩)
noncomputable def laid(l:List Tr)(t:Tr):List Tr:=(bY ((l++[t]).map trD)).map MF
theorem gh(l:List Tr)(t:Tr):(laid l t).Perm (l++[t]):=by
 have:=GdC MF (bS ((l++[t]).map trD));rw[GaS] at this;have e2:(l++[t]).map (MF∘trD)=l++[t]:=by
  conv=>rhs;rw[<-Gcs (l++[t])]
  exact GaP λp _=>rfl
 rw[e2] at this;exact this
theorem IJ(l:List Tr)(t:Tr):(laid l t).map trD=bY ((l++[t]).map trD):=by
 unfold laid;rw[GaS]
 conv=>rhs;rw[<-Gcs (bY ((l++[t]).map trD))]
 apply GaP;intro x hx;obtain⟨p,_,rfl⟩:=Gax.mp ((bS _).mem_iff.mp hx)
 rfl
theorem vD{t:Tr}(hl:l.length<63):sortedS [.tup (l.map trD++[trD t])]=some ⟨.tn,.lst ((laid l t).map trD)⟩:=by
 have e:l.map trD++[trD t]=(l++[t]).map trD:=by rw[GaC];rfl
 rw[IJ,e];have h1:(((l++[t]).map trD).length<64):=by simp;lia
 unfold sortedS one jH;simp only[Option.bind_some];rw[Kn,Gaz h1];rfl
theorem rG{X:List D}(h:X.length<100000):fH (.tup X) (.tup [d])=some ⟨.c,.tup (X++[d])⟩:=by
 cases X with
 |nil=>rfl
 |cons x X=>
  show(if(x::X).length+1<=16777216/\0<(x::X).length then some (⟨.c,.tup ((x::X)++[d])⟩:RV) else none)=_;rw[Gaj ⟨by lia,by simp⟩]
theorem oy{V:D}(hV:V.imm=true)(hl:l.length<63):bc [.tup [V,.tup (l.map trD)],.int n,.int h,.int a]=some (.tup [V,.tup ((laid l (n,h,a)).map trD)]):=by
 have e:=vD (t:=(n,h,a)) hl;have y:=rG (X:=l.map trD) (d:=trD (n,h,a)) (by rw[Gad];lia);have i:=bJ (laid l (n,h,a));have et:trD (n,h,a)= .tup [.int n,.int h,.int a]:=rfl;rw[et] at e y;generalize (laid l (n,h,a)).map trD=R at*;generalize l.map trD=X at*;unfold bc lT;simp[y,e,a9,i,hV]
theorem Cq{V:D}(hV:V.imm=true)(hl:l.length<63):cL [.tup [V,.tup (l.map trD)],.int n,.int h,.int a]=some (.tup [V,.tup ((laid l (n,h,a)).map trD)]):=by
 have e:=vD (t:=(n,h,a)) hl;have y:=rG (X:=l.map trD) (d:=trD (n,h,a)) (by rw[Gad];lia);have i:=bJ (laid l (n,h,a));have et:trD (n,h,a)= .tup [.int n,.int h,.int a]:=rfl;rw[et] at e y;generalize (laid l (n,h,a)).map trD=R at*;generalize l.map trD=X at*;have q:kC [.tup X,.tup [.int n,.int h,.int a]]=some (.tup R):=by
  unfold kC o9;simp[y,e,a9,i]
 unfold cL ik;simp[q,a9,i,hV]
noncomputable def ug:DS:=
 (ifS (aB eqB (opE aS (opE cP (ak a8 (a7 (vE 0) (a7 (vE 6) aa))) (kE (.int 8))) (kE (.int 3))) (kE (.int 0)))
  (ifS (aB Bk (aT (a7 (ixE (vE 8) (kE (.int 1))) (a7 (opE bD (opE cP (opE cP (vE 9) (vE 3)) (kE (.int 2))) (vE 3)) aa))) (ak bH (a7 (ixE (vE 4) (kE (.int 0))) aa)))
  (aj (aw 13 (aT (a7 (ixE (vE 8) (kE (.int 1))) (a7 (opE bD (opE cP (opE cP (vE 9) (vE 3)) (kE (.int 2))) (vE 3)) (a7 (opE fH (kE (.int 1)) (opE aS (ak a8 (a7 (vE 0) (a7 (opE fH (vE 6) (kE (.int 3))) aa))) (kE (.int 200)))) aa)))))
 (aw 12 (aT (a7 (bN df (a7 (bN sortedS (a7 (opE fH (ixE (vE 4) (kE (.int 0))) (aT (a7 (vE 13) aa))) aa)) aa)) (a7 (ixE (vE 4) (kE (.int 1))) aa)))))
  aF)
  (ifS (aB Bk (aT (a7 (vE 7) (a7 (vE 9) aa))) (ak bH (a7 (ixE (vE 4) (kE (.int 1))) aa)))
  (aw 12 (ak bc (a7 (vE 4) (a7 (vE 7) (a7 (vE 9) (a7 (vE 11) aa))))))
  aF))
noncomputable def IK:DS:=
 (ifS (aB eqB (bN cw (a7 (ak aK (a7 (vE 1) (a7 (vE 12) aa))) aa)) (kE (.int 0)))
  (aw 4 (vE 12))
  aF)
noncomputable def bkD(ws gv:List Tr):D:= .tup [.tup (ws.map trD),.tup (gv.map trD)]
structure pj(w:World)(i:Nat)(ws gv:List Tr):Prop where
 go:bC w.orders.length gv
 nd:(gvR gv).Nodup
 sn:Snd w ws gv
 wl:ws.length<=i
 gl:gv.length<=i
theorem pj.mono{j:Nat}(h:pj w i ws gv)(q:i<=j):pj w j ws gv:=⟨h.go,h.nd,h.sn,by have:=h.wl;lia,by have:=h.gl;lia⟩
theorem nu(i j:Int):fH (.int i) (.int j)=some ⟨.c,.int (i+j)⟩:=rfl
theorem uh(n h:Int)(l:List Tr):Bk (.tup [.int n,.int h]) (.lst (l.map spD))=some (!iB n h l):=by
 unfold Bk;rw[AF]
 rfl
variable{x13:Os}
theorem Nb{am:Int}(p1:ixD OD (.int 1)=some (.int g))(xJ:0<=at_)(Uj:at_<10000)(hf:far=1\/far=1000000)(hw:ws.length<60)(hg:gv.length<60):
  ∃(ws' gv' :List Tr) (yu:Os),ug [some (.sh (.scr ns)),some (.sh wd),x2,some (.sh (.int far)),some (.sh (bkD ws gv)),some (.sh (.int j)),some (.sh (.int at_)),some (.sh (.int n)),some (.sh OD),some (.sh (.int h)),some (.sh (.int p)),some (.sh (.int am)),some (.sh (bkD ws gv)),x13]=
   some (.nx [some (.sh (.scr ns)),some (.sh wd),x2,some (.sh (.int far)),some (.sh (bkD ws gv)),some (.sh (.int j)),some (.sh (.int at_)),some (.sh (.int n)),some (.sh OD),some (.sh (.int h)),some (.sh (.int p)),some (.sh (.int am)),some (.sh (bkD ws' gv')),yu])/\ws'.length<=ws.length+1/\(gv' =gv\/iB n h gv=false/\ws' =ws/\gv' =laid gv (n,h,am)):=by
 have e0:=aG (ns:=ns) (k:=at_) (by lia) (by lia);have e3:=aG (ns:=ns) (k:=at_+3) (by lia) (by lia);have f0:0<far:=by lia
 have f1:far<1073741824:=by lia
 have mf:∀i,aZ i far=true:=λi=>fX (by lia) (by lia);have sw:=rF (l:=ws) (by lia);have sg:=rF (l:=gv) (by lia);have b0:ixD (bkD ws gv) (.int 0)=some (.tup (ws.map trD)):=rfl;have b1:ixD (bkD ws gv) (.int 1)=some (.tup (gv.map trD)):=rfl;by_cases c1:mx ns at_/8%3=0
 .have hb:=uh g (h/far/2*far) ws;by_cases c2:iB g (h/far/2*far) ws=true
  .refine⟨ws,gv,x13, ?_,by lia,.inl rfl⟩;rw[c2] at hb;generalize ws.map spD=SW at*;generalize bkD ws gv=bk at*;generalize ws.map trD=WS at*;unfold ug;simp[e0,c1,p1,f0,f1,mf,b0,sw,hb,a9]
  .rw[Bool.not_eq_true] at c2;rw[c2] at hb;have ev:=vD (l:=ws) (t:=(g,h/far/2*far,1+mx ns (at_+3)%200)) (by lia);have y:=rG (X:=ws.map trD) (d:=trD (g,h/far/2*far,1+mx ns (at_+3)%200)) (by rw[Gad];lia);have lp:=(gh ws (g,h/far/2*far,1+mx ns (at_+3)%200)).length_eq;have et:trD (g,h/far/2*far,1+mx ns (at_+3)%200)= .tup [.int g,.int (h/far/2*far),.int (1+mx ns (at_+3)%200)]:=rfl;rw[et] at ev y;refine⟨laid ws (g,h/far/2*far,1+mx ns (at_+3)%200),gv,some (.sh (.tup [.int g,.int (h/far/2*far),.int (1+mx ns (at_+3)%200)])), ?_,by rw[lp];simp,.inl rfl⟩;have yG :bkD (laid ws (g,h/far/2*far,1+mx ns (at_+3)%200)) gv= .tup [.tup ((laid ws (g,h/far/2*far,1+mx ns (at_+3)%200)).map trD),.tup (gv.map trD)]:=rfl;rw[yG];generalize (laid ws (g,h/far/2*far,1+mx ns (at_+3)%200)).map trD=LW at*;generalize ws.map spD=SW at*;generalize bkD ws gv=bk at*;generalize ws.map trD=WS at*;generalize gv.map trD=GV at*;unfold ug;simp[e0,e3,c1,p1,f0,f1,mf,b0,b1,sw,hb,a9,nu,y,ev]
 .have hb:=uh n h gv;by_cases c2:iB n h gv=true
  .refine⟨ws,gv,x13, ?_,by lia,.inl rfl⟩;rw[c2] at hb;generalize gv.map spD=SW at*;generalize bkD ws gv=bk at*;generalize gv.map trD=WS at*;unfold ug;simp[e0,c1,b1,sg,hb,a9]
  .rw[Bool.not_eq_true] at c2;rw[c2] at hb;have ev:=oy (l:=gv) (n:=n) (h:=h) (a:=am) (V:= .tup (ws.map trD)) (by have:=bJ ws;simpa using this) (by lia);refine⟨ws,laid gv (n,h,am),x13, ?_,by lia,.inr ⟨c2,rfl,rfl⟩⟩;have Rt :bc [bkD ws gv,.int n,.int h,.int am]=some (bkD ws (laid gv (n,h,am))):=ev;have rv:i7 (bkD ws (laid gv (n,h,am)))=⟨.c,bkD ws (laid gv (n,h,am))⟩:=aM (by
    have h1:=bJ ws;have h2:=bJ (laid gv (n,h,am));simp[bkD,h1,h2])
   generalize bkD ws (laid gv (n,h,am))=R7 at*;generalize gv.map spD=SW at*;generalize bkD ws gv=bk at*;generalize gv.map trD=WS at*;unfold ug;simp[e0,c1,b1,sg,hb,a9,Rt,rv]
theorem bC.perm{n:Nat}{a b:List Tr}(h:bC n a)(p:b.Perm a):bC n b:=λt ht=>h t (p.mem_iff.mp ht)
theorem bC.app{n:Nat}{a b:List Tr}(h:bC n a)(g:bC n b):bC n (a++b):=λt ht=>(GaL.mp ht).elim (h t) (g t)
theorem AG(W:aH w)(hc:∀s∈w.ai,s.ax.length<=2)(B:pj w 9 ws gv)(p:gv'.Perm (gv++ts))(h1:ts.length<=1)(ht:bC w.orders.length ts)(nd:(gvR gv').Nodup):∃R:List D,aK [az w,bkD ws' gv']=some (.lst R)/\(R=[]↔Snd w ws' gv'):=by
 have yN :bC w.orders.length gv' :=(B.go.app ht).perm p;have gl:=B.gl;have hl:gv'.length<64:=by rw[p.length_eq,Gah];lia
 obtain⟨R,e,q⟩:=ph W (ws:=ws') yN hl (KP W hc B.go B.nd B.sn B.gl h1 ht p);exact⟨R,e,q.trans (E5 W yN nd)⟩
theorem vF(nd:(gvR gv).Nodup)(q:iB n h gv=false):(gvR (laid gv (n,h,a))).Nodup:=by
 have p:=(gh gv (n,h,a)).map λt:Tr=>(t.2.1,t.1)
 refine(List.Perm.nodup_iff p).mpr ?_;rw[GaC];refine GcR.mpr ⟨nd,by simp,λx hx y hy z=> ?_⟩;have:y=(h,n):=by simpa using hy
 rw[this] at z;rw[z] at hx;exact FP.mp q hx
theorem Cr(h0:0<=n)(h1:n<m):bC m [(n,h,a)]:=λt ht=>by
 rw[Gbr] at ht;rw[ht];exact⟨h0,h1⟩
variable{yG :D}
theorem Nc{x0:Os}{bk:D}(e:aK [wd,yG]=some (.lst L)):IK [x0,some (.sh wd),x2,x3,some (.sh bk),x5,x6,x7,x8,x9,eN,eR,some (.sh yG),x13]=
   some (.nx [x0,some (.sh wd),x2,x3,some (.sh (if L=[] then yG else bk)),x5,x6,x7,x8,x9,eN,eR,some (.sh yG),x13]):=by
 unfold IK;cases L with
 |nil=>simp[e]
 |cons a L=>
  have:¬((L.length:Int)+1=0):=by lia
  simp[e,this]
variable{mo:Int}{P:List D}{SD RD:D}
theorem Nd{bk:D}{c:Int}(yc:wd= .tup [.tup A,.tup B,.tup C,.tup O])(hj:aZ 7 j=true)(xJ:1000+7*j=at_)(hl:cw [.tup O]=some ⟨.c,.int lo⟩)(lp:0<lo)(e0:a8 [.scr ns,.int at_]=some (.int (mx ns at_)))(hn:mx ns at_%lo=n)(hO:atD O n=some OD)(hh:cy [.scr ns,.int (at_+1),OD,.int far]=some (.int h))(p2:ixD OD (.int 2)=some (.int s))(p3:ixD OD (.int 3)=some RD)(RJ:ixD RD (.int 3)=some (.int mo))(hS:atD B s=some SD)(s1:ixD SD (.int 1)=some (.tup P))(RI:atD P 0=some (.int p))(hp:0<p)(yd:p<1073741824)(U4:mo/p=c)(hc:0<c)(yE:c<=12)(e4:a8 [.scr ns,.int (at_+4)]=some (.int (mx ns (at_+4)))):
  dC [some (.sh (.scr ns)),some (.sh wd),x2,some (.sh (.int far)),some (.sh bk),some (.sh (.int j)),x6,x7,x8,x9,eN,eR,x12,x13]=
   aj ug IK [some (.sh (.scr ns)),some (.sh wd),x2,some (.sh (.int far)),some (.sh bk),some (.sh (.int j)),some (.sh (.int at_)),some (.sh (.int n)),some (.sh OD),some (.sh (.int h)),some (.sh (.int p)),some (.sh (.int (p*(1+mx ns (at_+4)%c)))),some (.sh bk),x13]:=by
 have w1:ixD wd (.int 1)=some (.tup B):=by rw[yc];rfl
 have w3:ixD wd (.int 3)=some (.tup O):=by rw[yc];rfl
 have r4:=mxm ns (at_+4) c hc;have mp:∀i,aZ i (1+mx ns (at_+4)%c)=true:=λi=>fX (by lia) (by lia);clear yc;unfold dC;refine(ae (by simp[hj,nu,xJ];rfl)).trans ?_;refine(ae (by simp[-jJ,e0,w3,hl,lp,hn];rfl)).trans ?_;refine(ae (by simp[w3,hO];rfl)).trans ?_;refine(ae (by simp[nu,hh];rfl)).trans ?_;refine(ae (by simp[w1,p2,hS,s1,RI];rfl)).trans ?_;refine(ae (by simp[nu,p3,RJ,hp,yd,U4,hc,e4,mp];rfl)).trans ?_;refine(ae (e:=[some (.sh (.scr ns)),some (.sh wd),x2,some (.sh (.int far)),some (.sh bk),some (.sh (.int j)),some (.sh (.int at_)),some (.sh (.int n)),some (.sh OD),some (.sh (.int h)),some (.sh (.int p)),some (.sh (.int (p*(1+mx ns (at_+4)%c)))),some (.sh bk),x13]) (by simp)).trans ?_
 rfl
theorem KQ:cw [.tup ds]=some ⟨.c,.int (ds.length:Int)⟩:=rfl
theorem rH(W:aH w)(v:Int):∃(lo n:Int),cw [.tup (w.orders.map af)]=some ⟨.c,.int lo⟩/\0<lo/\v%lo=n/\0<=n/\n<w.orders.length:=by
 have h:=W.o1;have e:((w.orders.map af).length:Int)=(w.orders.length:Int):=by rw[Gad]
 refine⟨_,_,KQ,by rw[e];lia,rfl, ?_, ?_⟩
 .rw[e];exact GbG _ (by lia)
 .rw[e];exact GbC _ (by lia)
theorem KR(W:aH w)(hc:∀s∈w.ai,s.ax.length<=2)(hm:∀o∈w.orders,ox w.ai o)(hf:far=1\/far=1000000)(hi:i<9)(B:pj w i ws gv):
  ∃(ws' gv' :List Tr) (y6 y7 y8 y9 eQ h8 ya yu:Os),pj w (i+1) ws' gv' /\dC [some (.sh (.scr ns)),some (.sh (az w)),x2,some (.sh (.int far)),some (.sh (bkD ws gv)),some (.sh (.int (0+(i:Int)))),x6,x7,x8,x9,eN,eR,x12,x13]=
   some (.nx [some (.sh (.scr ns)),some (.sh (az w)),x2,some (.sh (.int far)),some (.sh (bkD ws' gv')),some (.sh (.int (0+(i:Int)))),y6,y7,y8,y9,eQ,h8,ya,yu]):=by
 have hj0:0<=0+(i:Int):=by lia
 have yL:0+(i:Int)<9:=by lia
 generalize 0+(i:Int)=j at*;have m7:aZ 7 j=true:=bf (by lia) (by lia);obtain⟨at_,xJ⟩:∃a,1000+7*j=a:=⟨_,rfl⟩
 have e0:=aG (ns:=ns) (k:=at_) (by lia) (by lia);have e4:=aG (ns:=ns) (k:=at_+4) (by lia) (by lia);obtain⟨lo,n,hl,lp,hn,n0,n1⟩:=rH W (mx ns at_);obtain⟨o,s,g,o1,o2,o3,so,_,oa,sa,_⟩:=fM W n0 n1;have ok:=W.oo o (GaD o1);obtain⟨s',c,q1,q2,q3,q4⟩:=hm o (GaD o1);rw[o2] at q1;cases q1;obtain⟨h,hh⟩:=E9 (ns:=ns) (k:=at_+1) (far:=far) (o:=o) (by lia) (by lia) hf ok.du;have pp:=so.p1;have pq:=so.p2;have dv:o.most/s.part=c:=by rw[q2];exact Int.mul_ediv_cancel_left _ (by lia)
 have pre:=Nd (ns:=ns) (wd:=az w) (OD:=af o) (SD:=av s) (bk:=bkD ws gv) (far:=far) (s:=o.aq) (h:=h) (p:=s.part) (x2:=x2) (x6:=x6) (x7:=x7) (x8:=x8) (x9:=x9) (eN:=eN) (eR:=eR) (x12:=x12) (x13:=x13) rfl m7 xJ hl lp e0 hn oa hh rfl rfl rfl sa rfl rfl (by lia) (by lia) dv (by lia) q4 e4;have wl:=B.wl;have gl:=B.gl;obtain⟨ws',gv',yu,f1,f2,f3⟩:=Nb (ns:=ns) (wd:=az w) (OD:=af o) (ws:=ws) (gv:=gv) (far:=far) (j:=j) (at_:=at_) (n:=n) (g:=o.ar) (h:=h) (p:=s.part) (am:=s.part*(1+mx ns (at_+4)%c)) (x2:=x2) (x13:=x13) rfl (by lia) (by lia) hf (by lia) (by lia);obtain⟨ts,pt,tl,tg,Sv⟩:∃ts:List Tr,gv'.Perm (gv++ts)/\ts.length<=1/\bC w.orders.length ts/\(gvR gv').Nodup:=by
  rcases f3 with rfl| ⟨c1,_,rfl⟩
  .exact⟨[],by rw[Gbs],by simp,by intro t ht;simp at ht,B.nd⟩
  .exact⟨_,gh gv _,by simp,Cr n0 n1,vF B.nd c1⟩
 obtain⟨R,lr,rq⟩:=AG W hc (ws' :=ws') (B.mono (by lia)) pt tl tg Sv;have fin:=Nc (x0:=some (.sh (.scr ns))) (x2:=x2) (x3:=some (.sh (.int far))) (x5:=some (.sh (.int j))) (x6:=some (.sh (.int at_))) (x7:=some (.sh (.int n))) (x8:=some (.sh (af o))) (x9:=some (.sh (.int h))) (eN:=some (.sh (.int s.part))) (eR:=some (.sh (.int (s.part*(1+mx ns (at_+4)%c))))) (x13:=yu) (bk:=bkD ws gv) lr;by_cases z:R=[]
 .rw[Gaj z] at fin;refine⟨ws',gv',_,_,_,_,_,_,_,_,⟨(B.go.app tg).perm pt,Sv,rq.mp z,by lia,by rw[pt.length_eq,Gah];lia⟩,pre.trans ((ae f1).trans fin)⟩
 .rw[Gai z] at fin;refine⟨ws,gv,_,_,_,_,_,_,_,_,B.mono (by lia),pre.trans ((ae f1).trans fin)⟩
theorem KS(w:World):Snd w [] []:=⟨λ_ h=>by simp at h,λ_ h=>by simp at h,List.Pairwise.nil,λ_ _=>by simp[kg]⟩
theorem KU(W:aH w)(hc:∀s∈w.ai,s.ax.length<=2)(hm:∀o∈w.orders,ox w.ai o)(hf:far=1\/far=1000000)(ef:bP [.scr ns]=some (.int far)):∃ws gv:List Tr,pj w 9 ws gv/\lV [.scr ns,az w,.int 9]=some (bkD ws gv):=by
 obtain⟨e,h1,ws,gv,y5,y6,y7,y8,y9,eQ,h8,ya,yu,rfl,B⟩:=d8 (g:=gN 5) (body:=dC) (λi env=>∃(ws gv:List Tr) (y5 y6 y7 y8 y9 eQ h8 ya yu:Os),env=[some (.sh (.scr ns)),some (.sh (az w)),some (.sh (.int 9)),some (.sh (.int far)),some (.sh (bkD ws gv)),y5,y6,y7,y8,y9,eQ,h8,ya,yu]/\pj w i ws gv) (aJ 0 9) 0
  [some (.sh (.scr ns)),some (.sh (az w)),some (.sh (.int 9)),some (.sh (.int far)),some (.sh (bkD [] [])),none,none,none,none,none,none,none,none,none] ⟨[],[],_,_,_,_,_,_,_,_,_,rfl,⟨λ_ h=>by simp at h,by simp[gvR],KS w,by simp,by simp⟩⟩ (by
   rintro i d env hd ⟨ws,gv,y5,y6,y7,y8,y9,eQ,h8,ya,yu,rfl,B⟩;obtain⟨hi,rfl⟩:=bz hd;rw[Gbc] at B;obtain⟨ws',gv',z6,z7,z8,z9,yt,yR,Tn,Tj,B',k1⟩:=KR (ns:=ns) (far:=far) (x2:=some (.sh (.int 9))) (x6:=y6) (x7:=y7) (x8:=y8) (x9:=y9) (eN:=eQ) (eR:=h8) (x12:=ya) (x13:=yu) W hc hm hf hi B;exact⟨_,_,rfl,k1,ws',gv',_,z6,z7,z8,z9,yt,yR,Tn,Tj,rfl,by rw[Gbc];exact B'⟩)
 rw[cW,Gbc] at B;refine⟨ws,gv,B, ?_⟩;have s9:aY 9=true:=rfl;have im:(bkD ws gv).imm=true:=by
  have h1:=bJ ws;have h2:=bJ gv;simp[bkD,h1,h2]
 have b0:bkD [] []= .tup [.tup [],.tup []]:=rfl;rw[b0] at h1;generalize bkD ws gv=bk at*;generalize az w=wd at*;refine b6 rfl ?_;unfold lU;refine(ae (by simp[ef];rfl)).trans ?_;refine(ae (by simp[a9];rfl)).trans ?_;refine(ae (by simp[-forL,s9,h1,freed];rfl)).trans ?_;simp[im]
theorem AH{α:Type}(p q:α->Bool)(d:∀x,¬(p x=true/\q x=true)):∀l:List α,(l.filter p).length+(l.filter q).length<=(l.filter λx=>p x||q x).length
 |[]=>by simp
 |x::l=>by
  have ih:=AH p q d l;have:=d x;rw[Gbl,Gbl,Gbl];cases hp:p x<;>cases hq:q x<;>simp_all<;>lia
theorem AI{α Y:Type} [DecidableEq Y](f:α->Y)(l:List α):∀ks:List Y,ks.Nodup->(ks.map λk=>(l.filter λt=>decide (f t=k)).length).sum<=(l.filter λt=>decide (f t∈ks)).length
 |[],_=>by simp
 |k::ks,h=>by
  rw[GbA] at h;have ih:=AI f l ks h.2;have two:=AH (λt=>decide (f t=k)) (λt=>decide (f t∈ks)) (λx q=>h.1 (by have a:=Gaq q.1;have b:=Gaq q.2;rw[a] at b;exact b)) l;have e:(λt=>decide (f t∈k::ks))=λt=>decide (f t=k)||decide (f t∈ks):=by
   funext t
   rw[<-Bool.decide_or];simp
  rw[Gay,List.sum_cons,e];lia
theorem AJ{α β:Type}{f:α->List β}{g:α->Nat}:∀l:List α,(∀x∈l,(f x).length<=2*g x)->(l.flatMap f).length<=2*(l.map g).sum
 |[],_=>by simp
 |x::l,h=>by
  have h1:=h x Gak;have h2:=AJ l λy hy=>h y (Gag _ hy);rw[Gbq,Gah,Gay,List.sum_cons];lia
theorem Nf(hc:∀s∈w.ai,s.ax.length<=2)(I:n8 w.orders gv st):(st.flatMap (tgF w.ai ws)).length<=2*gv.length:=by
 have h1:=AJ (f:=tgF w.ai ws) (g:=λe:Tg=>(gv.filter λt=>decide (tk w.orders t=e.1)).length) st (λe he=>by
  have h2:=kL ws e.1.1 e.1.2 e.2 0 ((w.ai[e.1.2.toNat]?.map (·.ax)).getD []);have h3:((w.ai[e.1.2.toNat]?.map (·.ax)).getD []).length<=2:=by
   cases h:w.ai[e.1.2.toNat]? with
   |none=>simp
   |some s=>exact hc s (GaD h)
  have h4:e.2.length=(gv.filter λt=>decide (tk w.orders t=e.1)).length:=by rw[I.ms e he,Gad]
  have h5:=Nat.mul_le_mul_right e.2.length h3;unfold tgF;lia)
 have h2:=AI (tk w.orders) gv (st.map (·.1)) I.nd;rw[GaS] at h2;have h3:=Gbo h2 (GbI _ _);have e:((λk=>(gv.filter λt=>decide (tk w.orders t=k)).length)∘λe:Tg=>e.1)=λe:Tg=>(gv.filter λt=>decide (tk w.orders t=e.1)).length:=rfl;rw[e] at h3;lia
theorem AK{F:Int×Int->List Flt}{x:Int×Int}(each:∀l,(F l).length<=1):∀rs:List (Int×Int),rs.Nodup->(∀l∈rs,l≠x->F l=[])->(rs.flatMap F).length<=1
 |[],_,_=>by simp
 |l::rs,nd,h=>by
  rw[GbA] at nd;rw[Gbq,Gah];by_cases c:l=x
  .have:rs.flatMap F=[]:=Gbn.mpr λm hm=>h m (Gag _ hm) λz=>nd.1 (by rw[c,<-z];exact hm);rw[this];have:=each l;simp only[GaU];lia
  .rw[h l Gak c];have:=AK each rs nd.2 λm hm=>h m (Gag _ hm);simp only[GaU];lia
theorem Ea{F:Int×Int->Int×Int->List Flt}{x:Int×Int}(each:∀r l,(F r l).length<=1):∀rs:List (Int×Int),rs.Nodup->(rs.Pairwise λr l=>r≠x->l≠x->F r l=[])->(prs F rs).length<=rs.length
 |[],_,_=>by simp[prs]
 |r::rs,nd,h=>by
  rw[GbA] at nd;rw[GaY] at h;unfold prs;rw[Gah,GaE];by_cases c:r=x
  .have:prs F rs=[]:=(vA F rs).mpr ((GcX.mp h.2).imp λ{a b} q=>q.2.2 (λz=>nd.1 (by rw[c,<-z];exact q.1)) (λz=>nd.1 (by rw[c,<-z];exact q.2.1)));rw[this];have:=n9 (F r) (each r) rs;simp only[GaU];lia
  .have h1:=AK (x:=x) (each r) rs nd.2 λl hl z=>h.1 l hl c z;have h2:=Ea each rs nd.2 h.2;lia
theorem Eb(os:List Order):∀(gv ts:List Tr),(gv.foldl (aX os) ts).length<=ts.length+gv.length
 |[],ts=>by simp
 |g::gv,ts=>by
  have h1:=Eb os gv (aX os ts g);have h2:=vo ts g.1 ((os[g.1.toNat]?).bind λo=>cq o.b5 g.2.1);rw[GbH,GaE];unfold aX at h1⊢;lia
theorem IL(W:aH w)(hc:∀s∈w.ai,s.ax.length<=2){t:Tr}(B:pj w 9 ws gv)(t0:0<=t.1)(t1:t.1<w.orders.length)(p:gv'.Perm (gv++[t]))(nd:(gvR gv').Nodup)(st:List Tg)(eh:List (Int×Int))(I:n8 w.orders gv' st)(r2:eh.Perm (gvR gv'))(r3:eh.Pairwise λa b=>a.1<=b.1):
  (st.flatMap (tgF w.ai ws)++cF w.orders (w.aQ.foldl aL []) (wide w.aQ) eh++twF (gv'.foldl (aX w.orders) [])++gv'.flatMap (dD w ws)).length<64:=by
 have le:∀b∈w.aQ,b.1<=b.2.1:=λb hb=>(W.bo.1 b hb).2.1;have pos:∀b∈w.aQ,1<=b.2.2:=λb hb=>(W.bo.1 b hb).2.2.2;have gl:=B.gl;have len:gv'.length<=10:=by rw[p.length_eq,Gah];simp;lia
 have ht:bC w.orders.length [t]:=λu hu=>by rw[Gbr] at hu;rw[hu];exact⟨t0,t1⟩
 have yN :bC w.orders.length gv' :=(B.go.app ht).perm p;have f1:=Nf (ws:=ws) hc I;have lr:eh.length=gv'.length:=by rw[r2.length_eq];simp[gvR]
 have f2:(cF w.orders (w.aQ.foldl aL []) (wide w.aQ) eh).length<=eh.length:=by
  rw[lZ (Iv le pos W.bo.2) eh r3];refine Ea (x:=(t.2.1,t.1)) (λr l=>vq _ _ r l) eh (r2.nodup_iff.mpr nd) ?_;have old:∀r∈eh,r≠(t.2.1,t.1)->r∈gvR gv:=λr hr ne=>by
   have h1:=r2.mem_iff.mp hr;have h2:=(p.map λt:Tr=>(t.2.1,t.1)).mem_iff.mp h1;rw[GaC] at h2;rcases GaL.mp h2 with h3|h3
   .exact h3
   .exact absurd (by simpa using h3) ne
  exact(GcX.mp ((r2.nodup_iff.mpr nd).and r3)).imp λ{a b} q na nb=>(nq q.2.2.2).mpr (Cm (λa b z=>Apart.symm W z) B.sn.gap a (old a q.1 na) b (old b q.2.1 nb) q.2.2.1)
 have f3:(twF (gv'.foldl (aX w.orders) [])).length<=gv'.length:=by
  have z:=Eb w.orders gv' [];rw[GaU] at z;unfold twF;rw[Gad];have:=GbI (λt:Tr=>decide (1<t.2.2)) (gv'.foldl (aX w.orders) []);lia
 have f4:(gv'.flatMap (dD w ws)).length<=5:=by
  rw[(p.flatMap_right _).length_eq,GdX,Gbn.mpr B.sn.ED,GbB,Gbq,List.flatMap_nil,Gbs];exact(rn W t0 t1).2
 simp only[Gah];lia
theorem FQ(n:Nat)(fs:List Flt):(fs.map ah).all (aD (n+1))=true:=by
 rw[Gbp,Gao];intro f _;show((D.str f.1)::f.2.map D.int).all (aD n)=true;rw[GbQ,Cc];simp
theorem KW(fs:List Flt):eqB (.lst (fs.map ah)) (.lst [])=some (decide (fs=[])):=by
 unfold eqB;have h1:D.plain (.lst (fs.map ah))=true:=FQ 18 fs;have h2:D.plain (.lst [])=true:=rfl;rw[h1,h2];cases fs<;>rfl
theorem IM(hl:gv.length<64):fb [bkD ws gv,.int n]=some (.lst ((gv.filter λt=>decide (t.1=n)).map λt=> .int t.2.1)):=by
 have h:=gf (g:=gN 0) (t:=aB eqB (ixE (vE 0) (kE (.int 0))) (vE 1)) (f:=aT (a7 (ixE (vE 0) (kE (.int 1))) (a7 (ixE (vE 0) (kE (.int 2))) aa))) trD (λe=>∃x,e=[x,some (.sh (.int n))]) (λt=>decide (t.1=n)) (λt=>D.tup [.int t.2.1,.int t.2.2]) gv [none,some (.sh (.int n))] ⟨none,rfl⟩ (by
  rintro t _ e ⟨x,rfl⟩;refine⟨_,rfl,⟨_,rfl⟩, ?_,λ_=> ⟨.c, ?_,rfl⟩⟩
  .simp[trD];rfl
  .simp[trD,a9])
 have fl:=GbI (λt:Tr=>decide (t.1=n)) gv;generalize (gv.filter λt=>decide (t.1=n))=l at*;have i:aC (l.map λt=>D.tup [.int t.2.1,.int t.2.2])=true:=fj (f:=λt:Tr=>D.tup [.int t.2.1,.int t.2.2]) (λt=>by simp) l;have z:l.length<=16777216:=by lia
 have z2:gv.length<=16777216:=by lia
 have c0:DL.compEnv 1 [1] [some (.sh (bkD ws gv)),some (.sh (.int n))]=[none,some (.sh (.int n))]:=rfl;have b1:ixD (bkD ws gv) (.int 1)=some (.tup (gv.map trD)):=rfl;have q:fW [bkD ws gv,.int n]=some (.lst (l.map λt=>D.tup [.int t.2.1,.int t.2.2])):=by
  generalize bkD ws gv=bk at*;unfold fW jc;simp[b1,h,z,z2,a9,c0,i]
 have h2:=fB (g:=gN 0) (f:=ixE (vE 0) (kE (.int 0))) (λt:Tr=>D.tup [.int t.2.1,.int t.2.2]) (λe=>∃x,e=[x]) (λt=>D.int t.2.1) l [none] ⟨none,rfl⟩ (by
  rintro t _ e ⟨x,rfl⟩;exact⟨_,rfl,⟨_,rfl⟩,.c,by simp,rfl⟩)
 have i2:aC (l.map λt=>D.int t.2.1)=true:=fj (f:=λt:Tr=>D.int t.2.1) (λt=>by simp) l;have c1:DL.compEnv 1 [] [some (.sh (bkD ws gv)),some (.sh (.int n))]=[none]:=rfl;generalize bkD ws gv=bk at*;unfold fb gF;simp[q,h2,z,a9,c1,i2]
theorem IP(h n:Int)(gv:List Tr):inB (.int h) (.lst ((gv.filter λt=>decide (t.1=n)).map λt=> .int t.2.1))=some (iB n h gv):=by
 show l4 _ _=_;unfold l4;have p1:((gv.filter λt=>decide (t.1=n)).map λt:Tr=>D.int t.2.1).all (aD 10)=true:=by
  rw[Gbp,Gao];intro t _
  rfl
 have p2:aD 10 (.int h)=true:=rfl;rw[p1,p2];show some (((gv.filter λt=>decide (t.1=n)).map λt:Tr=>D.int t.2.1).any λy=>eqD y (.int h))=_;rw[GdT,List.any_filter];unfold iB;congr 2
 funext t
 show(decide (t.1=n)&&decide (t.2.1=h))=_;rw[<-Bool.decide_and]
theorem FR{bk:D}{hi m:Int}{fs:List Flt}(hm:(lo+hi+1)/2=m)(mo:aZ m p=true)(hw:cL [bk,.int n,.int h,.int (m*p)]=some yG)(hb:yG.imm=true)(hf:iS [wd,yG]=some (.lst (fs.map ah))):
  kI [some (.sh wd),some (.sh bk),some (.sh (.int n)),some (.sh (.int h)),some (.sh OD),some (.sh (.int p)),some (.sh (.int lo)),some (.sh (.int hi)),x8]=
   some (.nx [some (.sh wd),some (.sh bk),some (.sh (.int n)),some (.sh (.int h)),some (.sh OD),some (.sh (.int p)),some (.sh (.int (if fs=[] then m else lo))),some (.sh (.int (if fs=[] then hi else m -1))),some (.sh (.int m))]):=by
 have rv:=aM hb;have eq:=KW fs;unfold kI;by_cases c:fs=[]
 .rw[Gaj c,Gaj c];rw[Gaz c] at eq;generalize fs.map ah=F at*;simp[hm,mo,hw,rv,hf,a9,eq]
 .rw[Gai c,Gai c];rw[Gau c] at eq;generalize fs.map ah=F at*;simp[hm,mo,hw,rv,hf,a9,eq]
theorem vG(ws gv:List Tr):(bkD ws gv).imm=true:=by
 have h1:=bJ ws;have h2:=bJ gv;simp[bkD,h1,h2]
theorem AL{t:DT}{f:Nat}{e:DL.Env}(ht:t env=some true)(hb:body env=some (.nx e)):cM t body (f+1) env=cM t body f e:=by
 conv=>lhs;unfold cM
 rw[ht,Option.bind_some,Gaj rfl,hb]
 rfl
theorem FT{t:DT}{f:Nat}(ht:t env=some false):cM t body (f+1) env=some (.nx env):=by
 conv=>lhs;unfold cM
 rw[ht]
 rfl
theorem FU(W:aH w)(Sf:∀s∈w.ai,s.ax.length<=2){c:Int}(B:pj w 9 ws gv)(hs:iB n h gv=false)(n0:0<=n)(n1:n<w.orders.length)(hp:1<=p)(yd:p<=100000)(hc:c<=12):∀(d fuel:Nat) (lo hi:Int) (x8:Os),hi -lo=d->d<fuel->0<=lo->hi<=c->(lo=0\/Snd w ws (laid gv (n,h,lo*p)))->(hi=c\/¬Snd w ws (laid gv (n,h,(hi+1)*p)))->
  ∃(r:Int) (y8:Os),0<=r/\r<=c/\(r=0\/Snd w ws (laid gv (n,h,r*p)))/\(r=c\/¬Snd w ws (laid gv (n,h,(r+1)*p)))/\cM kH kI fuel [some (.sh (az w)),some (.sh (bkD ws gv)),some (.sh (.int n)),some (.sh (.int h)),some (.sh OD),some (.sh (.int p)),some (.sh (.int lo)),some (.sh (.int hi)),x8]=
   some (.nx [some (.sh (az w)),some (.sh (bkD ws gv)),some (.sh (.int n)),some (.sh (.int h)),some (.sh OD),some (.sh (.int p)),some (.sh (.int r)),some (.sh (.int r)),y8]):=by
 have gl:=B.gl;intro d;induction d using Nat.strongRecOn with
 |_ d ih=>
  intro fuel lo hi x8 hd hfu h0 SV S8 SU;obtain⟨f,rfl⟩:∃f,fuel=f+1:=⟨fuel -1,by lia⟩
  have tt:kH [some (.sh (az w)),some (.sh (bkD ws gv)),some (.sh (.int n)),some (.sh (.int h)),some (.sh OD),some (.sh (.int p)),some (.sh (.int lo)),some (.sh (.int hi)),x8]=some (decide (lo<hi)):=by
   generalize az w=wd;generalize bkD ws gv=bk;unfold kH;simp
  by_cases q:lo<hi
  .rw[Gaz q] at tt;obtain⟨m,hm⟩:∃m,(lo+hi+1)/2=m:=⟨_,rfl⟩
   have m1:lo<m:=by lia
   have m2:m<=hi:=by lia
   have mo:aZ m p=true:=bf (by lia) (by lia);have wg:cL [bkD ws gv,.int n,.int h,.int (m*p)]=some (bkD ws (laid gv (n,h,m*p))):=Cq (V:= .tup (ws.map trD)) (by have:=bJ ws;simpa using this) (by lia);have pm:=gh gv (n,h,m*p);obtain⟨fs,ef,nf⟩:=N6 (ws:=ws) W ((B.go.app (Cr n0 n1)).perm pm) (by rw[pm.length_eq];simp;lia) (IL W Sf B n0 n1 pm (vF B.nd hs));have turn:=FR (OD:=OD) (x8:=x8) hm mo wg (vG _ _) ef;by_cases z:fs=[]
   .rw[Gaj z,Gaj z] at turn;obtain⟨r,y8,r1,r2,r3,r4,r5⟩:=ih (hi -m).toNat (by lia) f m hi (some (.sh (.int m))) (by lia) (by lia) (by lia) SV (.inr (nf.mp z)) SU;exact⟨r,y8,r1,r2,r3,r4,(AL tt turn).trans r5⟩
   .rw[Gai z,Gai z] at turn;obtain⟨r,y8,r1,r2,r3,r4,r5⟩:=ih (m -1 -lo).toNat (by lia) f lo (m -1) (some (.sh (.int m))) (by lia) (by lia) h0 (by lia) S8 (.inr (by rw[Int.sub_add_cancel];exactλz' =>z (nf.mpr z')));exact⟨r,y8,r1,r2,r3,r4,(AL tt turn).trans r5⟩
  .rw[Gau q] at tt;have e:lo=hi:=by lia
   subst e;exact⟨lo,x8,h0,SV,S8,SU,FT tt⟩
theorem KY(W:aH w)(Sf:∀s∈w.ai,s.ax.length<=2){c:Int}{s:cX}(B:pj w 9 ws gv)(n0:0<=n)(n1:n<w.orders.length)(so:fh s)(oa:atD (w.orders.map af) n=some (af o))(sa:atD (w.ai.map av) o.aq=some (av s))(q2:o.most=s.part*c)(c1:1<=c)(c2:c<=12):
  ∃r:Int,lP [az w,bkD ws gv,.int n,.int h]=some (.int (r*s.part))/\0<=r/\r<=c/\(iB n h gv=true->r=0)/\(iB n h gv=false->(r=0\/Snd w ws (laid gv (n,h,r*s.part)))/\(r=c\/¬Snd w ws (laid gv (n,h,(r+1)*s.part)))):=by
 have gl:=B.gl;have hh:=IM (ws:=ws) (gv:=gv) (n:=n) (by lia);have ih:=IP h n gv;have pp:=so.p1;have pq:=so.p2;have w1:ixD (az w) (.int 1)=some (.tup (w.ai.map av)):=rfl;have w3:ixD (az w) (.int 3)=some (.tup (w.orders.map af)):=rfl;have dv:o.most/s.part=c:=by rw[q2];exact Int.mul_ediv_cancel_left _ (by lia)
 have i3:ixD (af o) (.int 3)=some (.tup [.str o.way,.int o.top,.int o.per,.int o.most]):=rfl;have i2:ixD (af o) (.int 2)=some (.int o.aq):=rfl;have s1:ixD (av s) (.int 1)=some (.tup (.int s.part::s.more.map .int)):=rfl;have p0:0<s.part:=by lia
 have p9:s.part<1073741824:=by lia
 generalize ((gv.filter λt=>decide (t.1=n)).map λt:Tr=>D.int t.2.1)=H at*;cases hb:iB n h gv with
 |true=>
  rw[hb] at ih;refine⟨0, ?_,by lia,by lia,λ_=>rfl,λz=>absurd z (by simp)⟩;rw[Int.zero_mul];generalize bkD ws gv=bk at*;generalize az w=wd at*;unfold lP vg;simp[hh,ih,a9]
 |false=>
  rw[hb] at ih;obtain⟨r,y8,r1,r2,r3,r4,r5⟩:=FU W Sf (ws:=ws) (OD:=af o) (h:=h) B hb n0 n1 pp pq c2 c.toNat 100000 0 c none (by lia) (by lia) (by lia) (by lia) (.inl rfl) (.inl rfl);have mr:aZ r s.part=true:=bf (by lia) (by lia);refine⟨r, ?_,r1,r2,λz=>absurd z (by simp),λ_=> ⟨r3,r4⟩⟩;clear r3 r4;generalize bkD ws gv=bk at*;generalize az w=wd at*;generalize af o=OD at*;generalize av s=SD at*;refine b6 rfl ?_;unfold vg;refine(ae (by simp[hh,ih,a9];rfl)).trans ?_;refine(ae (by simp[w3,oa];rfl)).trans ?_;refine(ae (by simp[w1,i2,sa,s1];rfl)).trans ?_;refine(ae (e:=[some (.sh wd),some (.sh bk),some (.sh (.int n)),some (.sh (.int h)),some (.sh OD),some (.sh (.int s.part)),some (.sh (.int 0)),none,none]) (by simp)).trans ?_;refine(ae (by simp[i3,p0,p9,dv];rfl)).trans ?_;refine(ae r5).trans ?_;simp[mr]
noncomputable def vH:DS:=
 (aj (aw 6 (ixE (ixE (ixE (ixE (vE 1) (kE (.int 1))) (ixE (ixE (ixE (vE 1) (kE (.int 3))) (vE 4)) (kE (.int 2)))) (kE (.int 1))) (kE (.int 0))))
 (aj (aw 7 (ak lP (a7 (vE 1) (a7 (vE 2) (a7 (vE 4) (a7 (vE 5) aa))))))
 (aj (ifS (orT (Ey (qa (bE (Gu "int" (vE 7))))) (qa (bE (Gu "bool" (vE 7)))))
  (retS (kE (.bl false)))
  aF)
 (aj (ifS (orT (aB ltB (vE 7) (kE (.int 0))) (orT (aB gtB (opE aS (vE 7) (vE 6)) (kE (.int 0))) (aB gtB (vE 7) (ixE (ixE (ixE (ixE (vE 1) (kE (.int 3))) (vE 4)) (kE (.int 3))) (kE (.int 3))))))
  (retS (kE (.bl false)))
  aF)
 (aj (aw 8 (bE (aB inB (aT (a7 (vE 4) (a7 (vE 5) aa))) (ak bH (a7 (ixE (vE 2) (kE (.int 1))) aa)))))
 (aj (aw 9 (ak bc (a7 (vE 2) (a7 (vE 4) (a7 (vE 5) (a7 (vE 7) aa))))))
 (aj (ifS (gL (aB gtB (vE 7) (kE (.int 0))) (orT (qa (vE 8)) (aB gtB (bN cw (a7 (ak aK (a7 (vE 1) (a7 (vE 9) aa))) aa)) (kE (.int 0)))))
  (retS (kE (.bl false)))
  aF)
 (aj (aw 10 (ak bc (a7 (vE 2) (a7 (vE 4) (a7 (vE 5) (a7 (opE aA (vE 7) (vE 6)) aa))))))
 (ifS (gL (Ey (qa (vE 8))) (aB eqB (bN cw (a7 (ak aK (a7 (vE 1) (a7 (vE 10) aa))) aa)) (kE (.int 0))))
  (retS (kE (.bl false)))
  aF)))))))))
theorem PQ{bk R8 R7 sp:D}{R2:List D}{v:Int}{zr:Bool}(yc:wd= .tup [.tup A,.tup B,.tup C,.tup O])(hO:atD O n=some OD)(p2:ixD OD (.int 2)=some (.int s))(p3:ixD OD (.int 3)=some RD)(RJ:ixD RD (.int 3)=some (.int mo))(hS:atD B s=some SD)(s1:ixD SD (.int 1)=some (.tup P))(RI:atD P 0=some (.int p))(hp:0<p)(hr:lP [wd,bk,.int n,.int h]=some (.int v))(v0:0<=v)(vp:v%p=0)(vm:v<=mo)(b1:ixD bk (.int 1)=some sp)(gl:∃L,bH [sp]=some (.lst L)/\inB (.tup [.int n,.int h]) (.lst L)=some zr)(e1:bc [bk,.int n,.int h,.int v]=some R8)(i1:R8.imm=true)(e2:bc [bk,.int n,.int h,.int (v+p)]=some R7)(i2:R7.imm=true)(f1:0<v->zr=false/\aK [wd,R8]=some (.lst []))(f2:zr=false->aK [wd,R7]=some (.lst R2)/\R2≠[]):
  vH [some (.sh (.scr ns)),some (.sh wd),some (.sh bk),some (.sh (.int j)),some (.sh (.int n)),some (.sh (.int h)),x6,x7,x8,x9,eN]=
   some (.nx [some (.sh (.scr ns)),some (.sh wd),some (.sh bk),some (.sh (.int j)),some (.sh (.int n)),some (.sh (.int h)),some (.sh (.int p)),some (.sh (.int v)),some (.sh (.bl zr)),some (.sh R8),some (.sh R7)]):=by
 have w1:ixD wd (.int 1)=some (.tup B):=by rw[yc];rfl
 have w3:ixD wd (.int 3)=some (.tup O):=by rw[yc];rfl
 obtain⟨L,g1,g2⟩:=gl;have r1:=aM i1;have r2:=aM i2;have nv:¬v<0:=by lia
 have nm:¬mo<v:=by lia
 clear yc;unfold vH;refine(ae (by simp[w1,w3,hO,p2,hS,s1,RI];rfl)).trans ?_;refine(ae (by simp[hr];rfl)).trans ?_;refine(ae (by simp[jI,mC];rfl)).trans ?_;refine(ae (by simp[w3,hO,p3,RJ,hp,vp,nv,nm];rfl)).trans ?_;refine(ae (by simp[b1,g1,g2,a9];rfl)).trans ?_;refine(ae (by simp[e1,r1];rfl)).trans ?_;refine(ae (e:=[some (.sh (.scr ns)),some (.sh wd),some (.sh bk),some (.sh (.int j)),some (.sh (.int n)),some (.sh (.int h)),some (.sh (.int p)),some (.sh (.int v)),some (.sh (.bl zr)),some (.sh R8),eN]) (by
  by_cases c:0<v
  .obtain⟨q1,q2⟩:=f1 c;subst q1;simp[c,q2]
  .simp[c])).trans ?_
 refine(ae (by simp[e2,r2];rfl)).trans ?_;cases zr with
 |true=>simp
 |false=>
  obtain⟨q1,q2⟩:=f2 rfl;cases R2 with
  |nil=>exact absurd rfl q2
  |cons a R=>
   have:¬((R.length:Int)+1=0):=by lia
   simp[q1,this]
theorem KZ(W:aH w)(hc:∀s∈w.ai,s.ax.length<=2)(hm:∀o∈w.orders,ox w.ai o)(B:pj w 9 ws gv)(n0:0<=n)(n1:n<w.orders.length):∃y6 y7 y8 y9 eQ:Os,
  vH [some (.sh (.scr ns)),some (.sh (az w)),some (.sh (bkD ws gv)),some (.sh (.int j)),some (.sh (.int n)),some (.sh (.int h)),x6,x7,x8,x9,eN]=
   some (.nx [some (.sh (.scr ns)),some (.sh (az w)),some (.sh (bkD ws gv)),some (.sh (.int j)),some (.sh (.int n)),some (.sh (.int h)),y6,y7,y8,y9,eQ]):=by
 obtain⟨o,s,g,o1,o2,o3,so,ok,oa,sa,_⟩:=fM W n0 n1;obtain⟨s',c,q1,q2,q3,q4⟩:=hm o (GaD o1);rw[o2] at q1;cases q1;have pp:=so.p1;have gl:=B.gl;obtain⟨r,hr,r0,rc,rt,rf⟩:=KY W hc (ws:=ws) (h:=h) B n0 n1 so oa sa q2 q3 q4;have vi:(D.tup (ws.map trD)).imm=true:=by have:=bJ ws;simpa using this
 have e1:bc [bkD ws gv,.int n,.int h,.int (r*s.part)]=some (bkD ws (laid gv (n,h,r*s.part))):=oy vi (by lia);have e2:bc [bkD ws gv,.int n,.int h,.int (r*s.part+s.part)]=some (bkD ws (laid gv (n,h,r*s.part+s.part))):=oy vi (by lia);have rm:r*s.part+s.part=(r+1)*s.part:=by rw[Int.add_mul,Int.one_mul]
 have says:∀a,iB n h gv=false->∃R:List D,aK [az w,bkD ws (laid gv (n,h,a))]=some (.lst R)/\(R=[]↔Snd w ws (laid gv (n,h,a))):=λa q=>AG W hc B (gh gv _) (by simp) (Cr n0 n1) (vF B.nd q);have most:∀a,o.most<a->¬Snd w ws (laid gv (n,h,a)):=λa q S=>by
  have:=((uf o1 o2 o3).mp (S.ED (n,h,a) ((gh gv _).mem_iff.mpr (by simp)))).1.1.1.2;lia
 obtain⟨R2,f2⟩:∃R2:List D,iB n h gv=false->aK [az w,bkD ws (laid gv (n,h,r*s.part+s.part))]=some (.lst R2)/\R2≠[]:=by
  by_cases q:iB n h gv=false
  .obtain⟨R,k1,k2⟩:=says (r*s.part+s.part) q;refine⟨R,λ_=> ⟨k1,λz=> ?_⟩⟩;have S:=k2.mp z;rcases(rf q).2 with t|t
   .refine most _ ?_ S;rw[t,q2,Int.mul_comm c];lia
   .rw[rm] at S;exact t S
  .exact⟨[],λz=>absurd z q⟩
 have f1:0<r*s.part->iB n h gv=false/\aK [az w,bkD ws (laid gv (n,h,r*s.part))]=some (.lst []):=λv=>by
  have nz:r≠0:=λz=>by rw[z,Int.zero_mul] at v;lia
  have q:iB n h gv=false:=by
   cases t:iB n h gv with
   |false=>rfl
   |true=>exact absurd (rt t) nz
  obtain⟨R,k1,k2⟩:=says (r*s.part) q;have:R=[]:=k2.mpr ((rf q).1.resolve_left nz);rw[this] at k1;exact⟨q,k1⟩
 have vm:r*s.part<=o.most:=by
  rw[q2,Int.mul_comm s.part];exact GdU rc (by lia)
 exact⟨_,_,_,_,_,PQ (wd:=az w) (SD:=av s) rfl oa rfl rfl rfl sa rfl rfl (by lia) hr (GcY r0 (by lia)) (Int.mul_emod_left _ _) vm rfl ⟨_,rF (by lia),AF n h gv⟩ e1 (vG _ _) e2 (vG _ _) f1 f2⟩
theorem Ng{bk:D}{od:D}(yc:wd= .tup [.tup A,.tup B,.tup C,.tup O])(m5:aZ 5 j=true)(ef:bP [.scr ns]=some (.int far))(hl:cw [.tup O]=some ⟨.c,.int lo⟩)(lp:0<lo)(e0:a8 [.scr ns,.int (2000+5*j)]=some (.int (mx ns (2000+5*j))))(hn:mx ns (2000+5*j)%lo=n)(hO:atD O n=some od)(hh:cy [.scr ns,.int (2001+5*j),od,.int far]=some (.int h)){rest:DS}:
  (aj (aw 4 (opE aS (ak a8 (a7 (vE 0) (a7 (opE aA (kE (.int 2000)) (opE bD (kE (.int 5)) (vE 3))) aa))) (bN cw (a7 (ixE (vE 1) (kE (.int 3))) aa))))
 (aj (aw 5 (ak cy (a7 (vE 0) (a7 (opE aA (kE (.int 2001)) (opE bD (kE (.int 5)) (vE 3))) (a7 (ixE (ixE (vE 1) (kE (.int 3))) (vE 4)) (a7 (ak bP (a7 (vE 0) aa)) aa)))))) rest)) [some (.sh (.scr ns)),some (.sh wd),some (.sh bk),some (.sh (.int j)),x4,x5,x6,x7,x8,x9,eN]=
   rest [some (.sh (.scr ns)),some (.sh wd),some (.sh bk),some (.sh (.int j)),some (.sh (.int n)),some (.sh (.int h)),x6,x7,x8,x9,eN]:=by
 have w3:ixD wd (.int 3)=some (.tup O):=by rw[yc];rfl
 clear yc;refine(ae (by simp[-jJ,m5,e0,w3,hl,lp,hn];rfl)).trans ?_;exact ae (by simp[m5,w3,hO,ef,hh])
noncomputable def IQ:DS:=(ifS (gL (aB eqB (vE 3) (kE (.int 3))) (aB gtB (bN cw (a7 (ixE (vE 2) (kE (.int 1))) aa)) (kE (.int 0))))
  (M0 (gT [4,5]) (slE (ixE (ixE (vE 2) (kE (.int 1))) (opE aS (ak a8 (a7 (vE 0) (a7 (kE (.int 2040)) aa))) (bN cw (a7 (ixE (vE 2) (kE (.int 1))) aa)))) noO (wk (kE (.int 2)))))
  aF)
theorem PR(hg:bC m gv)(n0:0<=n)(n1:n<m):∃n' h' :Int,0<=n' /\n' <m/\
  IQ [some (.sh (.scr ns)),some (.sh wd),some (.sh (bkD ws gv)),some (.sh (.int j)),some (.sh (.int n)),some (.sh (.int h)),x6,x7,x8,x9,eN]=
   some (.nx [some (.sh (.scr ns)),some (.sh wd),some (.sh (bkD ws gv)),some (.sh (.int j)),some (.sh (.int n')),some (.sh (.int h')),x6,x7,x8,x9,eN]):=by
 have b1:ixD (bkD ws gv) (.int 1)=some (.tup (gv.map trD)):=rfl;have hl:cw [.tup (gv.map trD)]=some ⟨.c,.int ((gv.map trD).length:Int)⟩:=rfl;have e0:=aG (ns:=ns) (k:=2040) (by lia) (by lia);have el:((gv.map trD).length:Int)=(gv.length:Int):=by rw[Gad]
 by_cases c:j=3
 .by_cases z:0<(gv.length:Int)
  .have k0:=GbG (mx ns 2040) (show(gv.length:Int)≠0 by lia);have k1:=GbC (mx ns 2040) z;obtain⟨i,hi⟩:=GaG k0;have eZ :i<gv.length:=by lia
   have ga:atD (gv.map trD) (mx ns 2040%(gv.length:Int))=some (trD gv[i]):=by
    rw[hi,bU,Gam,Gab eZ]
    rfl
   have gm:=hg gv[i] (GaF eZ);refine⟨gv[i].1,gv[i].2.1,gm.1,gm.2, ?_⟩;have cut:slD none (some 2) (trD gv[i])=some ⟨.c,.tup [.int gv[i].1,.int gv[i].2.1]⟩:=rfl;rw[el] at hl;generalize gv[i]=t at*;generalize trD t=T at*;generalize (gv.length:Int)=L at*;generalize bkD ws gv=bk at*;generalize gv.map trD=GV at*;subst c;unfold IQ;simp[-jJ,b1,hl,z,e0,ga,cut]
  .refine⟨n,h,n0,n1, ?_⟩;rw[el] at hl;generalize (gv.length:Int)=L at*;generalize bkD ws gv=bk at*;generalize gv.map trD=GV at*;subst c;unfold IQ;simp[-jJ,b1,hl,z]
 .refine⟨n,h,n0,n1, ?_⟩;generalize bkD ws gv=bk at*;unfold IQ;simp[c]
theorem IS(ns:List Int)(zx:ns.length<=63):u0 [.scr ns]=some (.bl true):=by
 obtain⟨far,w,hf,W,_,hc,hm,ef,ew⟩:=II ns;obtain⟨ws,gv,B,eb⟩:=KU W hc hm hf ef;obtain⟨e,h1,y3,y4,y5,y6,y7,y8,y9,eQ,rfl⟩:=d8 (g:=gN 3) (body:=Ah) (λ_ env=>∃(y3 y4 y5 y6 y7 y8 y9 eQ:Os),env=[some (.sh (.scr ns)),some (.sh (az w)),some (.sh (bkD ws gv)),y3,y4,y5,y6,y7,y8,y9,eQ]) (aJ 0 4) 0
  [some (.sh (.scr ns)),some (.sh (az w)),some (.sh (bkD ws gv)),none,none,none,none,none,none,none,none] ⟨_,_,_,_,_,_,_,_,rfl⟩ (by
   rintro i d env hd ⟨y3,y4,y5,y6,y7,y8,y9,eQ,rfl⟩;obtain⟨hi,rfl⟩:=bz hd;have j0:0<=0+(i:Int):=by lia
   have j1:0+(i:Int)<4:=by lia
   generalize 0+(i:Int)=j at*;have m5:aZ 5 j=true:=bf (by lia) (by lia);have e0:=aG (ns:=ns) (k:=2000+5*j) (by lia) (by lia);obtain⟨lo,n,hl,lp,hn,n0,n1⟩:=rH W (mx ns (2000+5*j));obtain⟨o,s,g,o1,o2,o3,so,ok,oa,sa,_⟩:=fM W n0 n1;obtain⟨h,hh⟩:=E9 (ns:=ns) (k:=2001+5*j) (far:=far) (o:=o) (by lia) (by lia) hf ok.du;obtain⟨n',h',k0,k1,ei⟩:=PR (ns:=ns) (wd:=az w) (ws:=ws) (j:=j) (h:=h) (x6:=y6) (x7:=y7) (x8:=y8) (x9:=y9) (eN:=eQ) B.go n0 n1;obtain⟨z6,z7,z8,z9,yt,er⟩:=KZ (ns:=ns) (j:=j) (h:=h') (x6:=y6) (x7:=y7) (x8:=y8) (x9:=y9) (eN:=eQ) W hc hm B k0 k1;have pre:=Ng (ns:=ns) (wd:=az w) (bk:=bkD ws gv) (x4:=y4) (x5:=y5) (x6:=y6) (x7:=y7) (x8:=y8) (x9:=y9) (eN:=eQ) (rest:=aj IQ vH) rfl m5 ef hl lp e0 hn oa hh;exact⟨_,_,rfl,pre.trans ((ae ei).trans er),_,_,_,_,_,_,_,_,rfl⟩)
 have s4:aY 4=true:=rfl;have rw_:i7 (az w)=⟨.c,az w⟩:=by
  have g1:=fj qX w.b7;have g2:=fj fC w.ai;have g3:=bJ w.aQ;have g4:aC (w.orders.map af)=true:=m8 λd hd=>by
   obtain⟨o,ho,rfl⟩:=Gax.mp hd;exact cj o (W.oo o ho).ti
  refine aM ?_;simp[az,g1,g2,g3,g4]
 have rb:=aM (vG ws gv);generalize bkD ws gv=bk at*;generalize az w=wd at*;refine b6 rfl ?_;unfold HV;refine(ae (by simp[ew,rw_];rfl)).trans ?_;refine(ae (by simp[eb,rb];rfl)).trans ?_;refine(ae (by simp[-forL,s4,h1,freed];rfl)).trans ?_;simp
end Maths
seal L2.PE L2.PT L2.PW L2.PA L2.PS L2.PSs L2.PG L2.PGs L2.PI
namespace Der
open PySem PySem.Spec PyProof.Rows L2 DL Den
noncomputable abbrev top:=Hd.top
theorem dE{us:List Value}{n:Nat}(h:us.length=n+1):∃a t,us=a::t/\t.length=n:=by
 cases us with
 |nil=>cases h
 |cons a t=>exact⟨a,t,rfl,Nat.succ.inj h⟩
theorem all1{K:PySem.W.Frag}{fd:FuncData}{p0:Str}(h:∀v0:Value,bindArgs fd ⟨[v0],[]⟩=pure ([p0].zip [v0])):Binds K fd [p0] []:= .all λus hl=>by
 obtain⟨v0,t0,rfl,hZ⟩:=dE hl;cases Gbu.mp hZ;exact h v0
variable{p1:Str}
theorem all2{K:PySem.W.Frag}{fd:FuncData}{p0:Str}(h:∀v0 v1:Value,bindArgs fd ⟨[v0,v1],[]⟩=pure ([p0,p1].zip [v0,v1])):Binds K fd [p0,p1] []:= .all λus hl=>by
 obtain⟨v0,t0,rfl,h0⟩:=dE hl;obtain⟨v1,t1,rfl,hZ⟩:=dE h0;cases Gbu.mp hZ;exact h v0 v1
variable{p2:Str}
theorem Nh{K:PySem.W.Frag}{fd:FuncData}{p0:Str}(h:∀v0 v1 v2:Value,bindArgs fd ⟨[v0,v1,v2],[]⟩=pure ([p0,p1,p2].zip [v0,v1,v2])):Binds K fd [p0,p1,p2] []:= .all λus hl=>by
 obtain⟨v0,t0,rfl,h0⟩:=dE hl;obtain⟨v1,t1,rfl,h1⟩:=dE h0;obtain⟨v2,t2,rfl,hZ⟩:=dE h1;cases Gbu.mp hZ;exact h v0 v1 v2
variable{p3:Str}
theorem Nj{K:PySem.W.Frag}{fd:FuncData}{p0:Str}(h:∀v0 v1 v2 v3:Value,bindArgs fd ⟨[v0,v1,v2,v3],[]⟩=pure ([p0,p1,p2,p3].zip [v0,v1,v2,v3])):Binds K fd [p0,p1,p2,p3] []:= .all λus hl=>by
 obtain⟨v0,t0,rfl,h0⟩:=dE hl;obtain⟨v1,t1,rfl,h1⟩:=dE h0;obtain⟨v2,t2,rfl,h2⟩:=dE h1;obtain⟨v3,t3,rfl,hZ⟩:=dE h2;cases Gbu.mp hZ;exact h v0 v1 v2 v3
variable{p4:Str}
theorem QW{K:PySem.W.Frag}{fd:FuncData}{p0:Str}(h:∀v0 v1 v2 v3 v4:Value,bindArgs fd ⟨[v0,v1,v2,v3,v4],[]⟩=pure ([p0,p1,p2,p3,p4].zip [v0,v1,v2,v3,v4])):Binds K fd [p0,p1,p2,p3,p4] []:= .all λus hl=>by
 obtain⟨v0,t0,rfl,h0⟩:=dE hl;obtain⟨v1,t1,rfl,h1⟩:=dE h0;obtain⟨v2,t2,rfl,h2⟩:=dE h1;obtain⟨v3,t3,rfl,h3⟩:=dE h2;obtain⟨v4,t4,rfl,hZ⟩:=dE h3;cases Gbu.mp hZ;exact h v0 v1 v2 v3 v4
theorem QX{K:PySem.W.Frag}{fd:FuncData}{p0 p5:Str}(h:∀v0 v1 v2 v3 v4 v5:Value,bindArgs fd ⟨[v0,v1,v2,v3,v4,v5],[]⟩=pure ([p0,p1,p2,p3,p4,p5].zip [v0,v1,v2,v3,v4,v5])):Binds K fd [p0,p1,p2,p3,p4,p5] []:= .all λus hl=>by
 obtain⟨v0,t0,rfl,h0⟩:=dE hl;obtain⟨v1,t1,rfl,h1⟩:=dE h0;obtain⟨v2,t2,rfl,h2⟩:=dE h1;obtain⟨v3,t3,rfl,h3⟩:=dE h2;obtain⟨v4,t4,rfl,h4⟩:=dE h3;obtain⟨v5,t5,rfl,hZ⟩:=dE h4;cases Gbu.mp hZ;exact h v0 v1 v2 v3 v4 v5
section
variable{Pm:Params}{mg:Str->Option Value}
def Txt(Pm:Params)(mg:Str->Option Value):Prop:=∃h:Heap,(Hd.K Pm).In h/\h.Ns mainGlobals mg
variable{n:Str}
theorem Txt.at{v:Value}(T:Txt Pm mg)(e:PySem.W.nsIn (Hd.K Pm) mainGlobals n=some (some v):=by kernel_rfl):mg n=some v:=let⟨_,X,G⟩:=T;PySem.W.mg_of X G e
theorem Txt.no(T:Txt Pm mg)(e:PySem.W.nsIn (Hd.K Pm) mainGlobals n=some none:=by kernel_rfl):mg n=none:=let⟨_,X,G⟩:=T;PySem.W.mg_none_of X G e
theorem mkF{x:Str}{st:Stmt}{f:Addr}{pm cd:Value}(l:(Hd.K Pm).lookup f=some (Hd.fo (PySem.W.fnOf x x (ko st) (fR st) (bu st) .none .none .none pm none cd .none)):=by kernel_rfl)(c:PySem.W.codeIn (Hd.K Pm) cd x=true:=by kernel_rfl)(k:PySem.W.keepIn (Hd.K Pm) (.ref f)=true:=by kernel_rfl):Fun (Hd.K Pm) x x st f (PySem.W.fnOf x x (ko st) (fR st) (bu st) .none .none .none pm none cd .none):=LZ l c k
abbrev Fn(Pm:Params)(x:Str)(st:Stmt)(f:Addr)(d:FuncData):Prop:=Fun (Hd.K Pm) x x st f d
theorem ui:Fn Pm "laid_in" (top 1) 21 Hd.sV:=mkF
theorem lj:Fn Pm "with_giving" (top 2) 28 Hd.kU:=mkF
theorem ny:Fn Pm "givings_of" (top 3) 33 Hd.mq:=mkF
theorem Ec:Fn Pm "bound" (top 5) 40 Hd.CT:=mkF
theorem AM:Fn Pm "due_of" (top 7) 47 Hd.wa:=mkF
theorem AN:Fn Pm "astray" (top 8) 54 Hd.wc:=mkF
theorem oP:Fn Pm "weight_at" (top 10) 61 Hd.oF:=mkF
theorem IT:Fn Pm "sums" (top 12) 68 Hd.Gq:=mkF
theorem iX:Fn Pm "goes_by_weight" (top 14) 73 Hd.iE:=mkF
theorem lu:Fn Pm "lone_faults" (top 15) 78 Hd.kW:=mkF
theorem gZ:Fn Pm "marks_by_target" (top 16) 85 Hd.gO:=mkF
theorem nA:Fn Pm "cap_faults" (top 17) 92 Hd.mw:=mkF
theorem iY:Fn Pm "gaps_by_stuffs" (top 18) 99 Hd.iF:=mkF
theorem lx:Fn Pm "gap_between" (top 19) 106 Hd.kX:=mkF
theorem nB:Fn Pm "gap_faults" (top 20) 111 Hd.mz:=mkF
theorem kh:Fn Pm "twice_faults" (top 21) 116 Hd.jC:=mkF
theorem AO:Fn Pm "faults" (top 22) 123 Hd.we:=mkF
theorem kl:Fn Pm "giving_hours" (top 24) 128 Hd.jD:=mkF
theorem IU:Fn Pm "room" (top 25) 135 Hd.Bg:=mkF
theorem km:Fn Pm "_law_mixed" (top 27) 142 Hd.jE:=mkF
theorem oz:Fn Pm "_law_far" (top 28) 149 Hd.nL:=mkF
theorem uj:Fn Pm "_law_cap" (top 29) 156 Hd.sW:=mkF
theorem oQ:Fn Pm "_law_stuff" (top 30) 163 Hd.oG:=mkF
theorem rJ:Fn Pm "_law_dues" (top 31) 170 Hd.pW:=mkF
theorem oR:Fn Pm "_law_order" (top 32) 177 Hd.oH:=mkF
theorem oS:Fn Pm "_law_world" (top 33) 184 Hd.jF:=mkF
theorem rK:Fn Pm "_law_hour" (top 34) 191 Hd.lC:=mkF
theorem oT:Fn Pm "_law_spots" (top 35) 196 Hd.jG:=mkF
theorem nC:Fn Pm "_law_weight" (top 36) 203 Hd.j6:=mkF
theorem uk:Fn Pm "_law_due" (top 37) 210 Hd.nM:=mkF
theorem rL:Fn Pm "_law_most" (top 38) 217 Hd.pX:=mkF
theorem rM:Fn Pm "_law_caps" (top 39) 224 Hd.pY:=mkF
theorem rN:Fn Pm "_law_near" (top 40) 231 Hd.pZ:=mkF
theorem um:Fn Pm "_law_own" (top 41) 236 Hd.sX:=mkF
theorem nD:Fn Pm "_law_faults" (top 42) 243 Hd.mB:=mkF
theorem rO:Fn Pm "_law_with" (top 43) 250 Hd.q8:=mkF
theorem rP:Fn Pm "_law_book" (top 44) 257 Hd.q9:=mkF
theorem PU:Fn Pm "law" (top 45) 264 Hd.Gr:=mkF
theorem Txt.PV(T:Txt Pm mg):mg "law"=some (.ref 264):=T.at
end
seal Hd.K
section
variable{P:Program}{w:World}{Pm:Params}{mg:Str->Option Value}{base:Heap}
abbrev Sc(N:List Str)(n:Nat)(st:Stmt):Prop:=j4 N (N.take n) (bu st)
theorem Ct:Sc ["rows","row"] 2 (top 1):=cH
theorem rQ:Sc ["book","order","hour","amount"] 4 (top 2):=cH
theorem su:Sc ["book","order"] 2 (top 3):=cH
theorem IV:Sc ["cap","weight"] 2 (top 5):=cH
theorem FV:Sc ["order","hour","dues","behind","k"] 2 (top 7):=cH
theorem FW:Sc ["order","hour","dues"] 2 (top 8):=cH
theorem vI:Sc ["weights","guest","hour","found","row"] 3 (top 10):=cH
theorem L0:Sc ["marks","hours","rows","found","total","gone","k","row"] 2 (top 12):=cH
theorem nE:Sc ["stuff"] 1 (top 14):=cH
theorem rR:Sc ["world","weights","giving","number","hour","amount","order","stuff","kinds"] 3 (top 15):=cH
theorem m9:Sc ["world","givings","found","giving","order"] 2 (top 16):=cH
theorem sx:Sc ["world","weights","givings","found","target","marks","guest","k","cap","hours","row","top"] 3 (top 17):=cH
theorem nF:Sc ["bars","gaps","bar"] 1 (top 18):=cH
theorem rS:Sc ["gaps","order","other"] 3 (top 19):=cH
theorem sC:Sc ["world","givings","gaps","widest","rows","found","k","row","later","apart"] 2 (top 20):=cH
theorem pz:Sc ["world","givings","counts","giving","k"] 2 (top 21):=cH
theorem FX:Sc ["world","book","weights","givings","found","giving"] 2 (top 22):=cH
theorem pA:Sc ["book","order"] 2 (top 24):=cH
noncomputable abbrev IW:List Str:=["world","book","order","hour","row","part","low","high","middle"]
theorem L1:Sc IW 4 (top 25):=cH
noncomputable abbrev oU:List Str:=["_law_script","_law_k","_law_cell","_law_v"]
theorem vJ:Sc oU 2 (top 27):=cH
noncomputable abbrev uo:List Str:=["_law_script"]
theorem Cu:Sc uo 1 (top 28):=cH
theorem Cv:Sc ["_law_script","_law_k","_law_part","_law_far_here","_law_hours","_law_kind"] 4 (top 29):=cH
theorem vK:Sc ["_law_script","_law_k","_law_name","_law_far_here","_law_part","_law_sizes","_law_j","_law_caps_here","_law_young"] 4 (top 30):=cH
theorem AQ:Sc ["_law_script","_law_k","_law_far_here","_law_every","_law_early","_law_late","_law_begin"] 3 (top 31):=cH
theorem vL:Sc ["_law_script","_law_k","_law_name","_law_guests","_law_stuffs","_law_far_here","_law_stuff_here","_law_part","_law_most_here","_law_per","_law_top","_law_rule","_law_dues_here","_law_tapers","_law_at","_law_j","_law_den"] 6 (top 32):=cH
noncomputable abbrev oV:List Str:=["_law_script","_law_far_here","_law_names","_law_guests","_law_k","_law_stuffs","_law_bars","_law_x","_law_y","_law_gap","_law_orders"]
theorem vM:Sc oV 1 (top 33):=cH
noncomputable abbrev rT:List Str:=["_law_script","_law_k","_law_order_here","_law_far_here","_law_dues_here","_law_by","_law_hour_here"]
theorem AR:Sc rT 4 (top 34):=cH
noncomputable abbrev oW:List Str:=["_law_rows"]
theorem vN:Sc oW 1 (top 35):=cH
noncomputable abbrev nG:List Str:=["_law_weights","_law_guest","_law_hour_here","_law_found","_law_weighing"]
theorem sE:Sc nG 3 (top 36):=cH
noncomputable abbrev uq:List Str:=["_law_order_here","_law_hour_here","_law_k","_law_at"]
theorem Cw:Sc uq 2 (top 37):=cH
theorem AS:Sc ["_law_cap_here","_law_weight_here"] 2 (top 38):=cH
theorem AU:Sc ["_law_world_here","_law_book_here","_law_guest","_law_stuff_here","_law_hour_here","_law_found","_law_k","_law_cap_here","_law_total","_law_order_here","_law_at","_law_amount","_law_most_here"] 5 (top 39):=cH
theorem AV:Sc ["_law_world_here","_law_book_here","_law_order_here","_law_hour_here","_law_found","_law_one","_law_other","_law_later","_law_told","_law_pair","_law_bar"] 4 (top 40):=cH
theorem Cy:Sc ["_law_world_here","_law_book_here","_law_order_here","_law_hour_here","_law_amount","_law_told","_law_stuff_here","_law_k","_law_found","_law_same"] 5 (top 41):=cH
theorem sF:Sc ["_law_world_here","_law_book_here","_law_found","_law_order_here","_law_hour_here","_law_amount"] 2 (top 42):=cH
theorem AW:Sc ["_law_book_here","_law_order_here","_law_hour_here","_law_amount"] 4 (top 43):=cH
theorem AX:Sc ["_law_script","_law_world_here","_law_many","_law_far_here","_law_book_here","_law_j","_law_at","_law_order_here","_law_told","_law_hour_here","_law_part","_law_amount","_law_other","_law_weighing"] 3 (top 44):=cH
theorem Nk:Sc ["_law_script","_law_world_here","_law_book_here","_law_j","_law_order_here","_law_hour_here","_law_part","_law_told","_law_taken","_law_there","_law_more"] 1 (top 45):=cH
variable{X:Cx}
theorem Cz{e:Expr}{t:DT}(h:PWd X e t):PTd X e t:=PW.pt h
variable{ps:List Str}{fa:Addr}{x:Str}
theorem aO(P:Program)(w:World)(Pm:Params)(mg:Str->Option Value)(base:Heap)(k np:Nat)(body:DS){qual:Str}{sd:Stmt}{fd:FuncData}{N:List Str}(F:Fun (Hd.K Pm) x qual sd fa fd)(S:j4 N ps (bu sd))(S4:ps.length=np)(hb:∀(xa:Value) (A:Around) (outer:List PySem.Env) (s:Shared) (H:Hp) (E:XK) (hr:gk k (A.deeper (envOfC qual (bu sd) s.heap.objs.size fa xa))),N.Nodup->(A.deeper (envOfC qual (bu sd) s.heap.objs.size fa xa)).units+1<cLine->(A.deeper (envOfC qual (bu sd) s.heap.objs.size fa xa)).units+20<cLine->qg (vW CX0 P w (Hd.K Pm) mg base N qual (bu sd) fa xa A outer s H E).nox (fR sd) body):mj P w (Hd.K Pm) mg base CX0 (k+1) fa fd ps (spD (Hd.K Pm) np (cx N.length np body)):=Pd F S S4 λa b c d e f hr=>hb a b c d e f hr S.nd (Od hr) (JK hr)
theorem cG(sp:List D->Option D){e:Expr}{pos p:Pos}{k m np:Nat}{fd:FuncData}{st:Stmt}{es:List Expr}{r:DA}(F:mj X.prog X.w X.K X.mg X.base CX0 k fa fd ps (spD X.K np sp))(hF:Fun X.K x x st fa fd)(hb:Binds X.K fd ps [])(hr:gk m X.A)(hg:Gl X x)(hm:X.mg x=some (.ref fa))(ha:PAd X (e::es) r)(hl:∀env rs,r env=some rs->rs.length=np)(hk:k<=m)(yh:(x==("__debug__":Str))=false)(he:starEach (e::es) X.env=(false,eval e X.env)::starEach es X.env)(xw:(backTo pos (starEach es X.env)).any (·.1)=false):PEd X (.Call (.Name x p) (e::es) [] pos) (ak sp r):=JF F (hr.mono hk) hg hm hF.kp hb Oc ha hl yh he xw
abbrev Fo(P:Program)(w:World)(Pm:Params)(mg:Str->Option Value)(base:Heap)(k:Nat)(fa:Addr)(fd:FuncData)(ps:List Str)(np:Nat)(s:List D->Option D):Prop:=mj P w (Hd.K Pm) mg base CX0 k fa fd ps (spD (Hd.K Pm) np s)
theorem g0(T:Txt Pm mg):Fo P w Pm mg base 5 135 Hd.Bg (IW.take 4) 4 lP:=by
 have ok_laid_in:=aO P w Pm mg base 0 2 Den.o9 ui Ct rfl ?_;have ok_with_giving:=aO P w Pm mg base 1 4 Den.ik lj rQ rfl ?_;have ok_givings_of:=aO P w Pm mg base 0 2 Den.jc ny su rfl ?_;have ok_bound:=aO P w Pm mg base 0 2 Den.kD Ec IV rfl ?_;have ok_due_of:=aO P w Pm mg base 0 2 Den.mW AM FV rfl ?_;have ok_astray:=aO P w Pm mg base 1 2 Den.mX AN FW rfl ?_;have ok_weight_at:=aO P w Pm mg base 0 3 Den.jQ oP vI rfl ?_;have ok_sums:=aO P w Pm mg base 0 2 Den.vf IT L0 rfl ?_;have ok_goes_by_weight:=aO P w Pm mg base 0 1 Den.fw iX nE rfl ?_;have ok_lone_faults:=aO P w Pm mg base 2 3 Den.iq lu rR rfl ?_;have ok_marks_by_target:=aO P w Pm mg base 0 2 Den.dZ gZ m9 rfl ?_;have ok_cap_faults:=aO P w Pm mg base 1 3 Den.jd nA sx rfl ?_;have ok_gaps_by_stuffs:=aO P w Pm mg base 0 1 Den.fz iY nF rfl ?_;have ok_gap_between:=aO P w Pm mg base 0 3 Den.iu lx rS rfl ?_;have ok_gap_faults:=aO P w Pm mg base 1 2 Den.je nB sC rfl ?_;have ok_twice_faults:=aO P w Pm mg base 1 2 Den.gE kh pz rfl ?_;have ok_faults:=aO P w Pm mg base 3 2 Den.qU AO FX rfl ?_;have ok_giving_hours:=aO P w Pm mg base 1 2 Den.gF kl pA rfl ?_;have ok_room:=aO P w Pm mg base 4 4 Den.vg IU L1 rfl ?_;exact ok_room
 all_goals intro xa A outer s H E hr nd hu hu20
 all_goals repeat' (first|(with_reducible apply nP)|((with_reducible apply @Bn);rfl;first|exact Or.inl rfl|exact Or.inr (Or.inl rfl)|exact Or.inr (Or.inr rfl)|exact g7 rfl|exact iJ rfl;decide;decide)|((with_reducible apply @d3);rotate_left 2;rfl)|((with_reducible apply @GI);exact hu;rotate_left 2;exactλ_ _=>rfl)|((with_reducible first|refine bZ NZ M8 ?_ ?_ ?_|refine bZ CK uF ?_ ?_ ?_|refine bZ B8 uG ?_ ?_ ?_|refine bZ sM nR ?_ ?_ ?_|refine bZ vV qj ?_ ?_ ?_|refine bZ CL wz ?_ ?_ ?_|refine nQ B8 uG ?_ ?_ ?_|refine nQ vV qj ?_ ?_ ?_);rotate_left 2;exact i0 _)|((with_reducible first|refine bZ (qq ?_) qr ?_ ?_ ?_|refine bZ (BQ ?_) BR ?_ ?_ ?_|refine bZ (Mb ?_) Mc ?_ ?_ ?_|refine nQ (qq ?_) qr ?_ ?_ ?_);exact hu20;rotate_left 2;first|exact i0 _|with_unfolding_all rfl)|(with_reducible first|apply Hc|apply nP|apply Bp|apply Bo|apply gx|apply Bx|apply uK|apply tF|apply qm|apply Bq|apply Ds|apply Bs|apply Br|apply uE|apply Bt|apply wJ|apply GG|apply Bu|apply Bv|apply tH|apply GB|apply GF|apply K7|apply uH|apply GC|apply nS|apply wA|apply wB sM nR vV qj|apply mI|apply uJ|apply BE|apply Hw)|(with_reducible apply Cz)|rfl|exact hu|exact hu20|exact i0 _|exact g7 rfl|exact iJ rfl|exact Or.inl rfl|exact Or.inr rfl|exact Or.inr (Or.inl rfl)|exact Or.inr (Or.inr rfl)|exactλ_=>rfl|exactλ_ _=>rfl|decide|exact nX|refine nY ?_|refine lE (EJ (by rfl)) EM rfl T.no Mf ?_|refine lE (pM.or nU) nV rfl T.no BH ?_|refine lE oM mO rfl T.no tu ?_|refine mH i5 jK rfl T.no qt ?_|refine K5 rfl rfl T.no ?_ FZ (λ_ _ _=> .int _) rfl|refine fU (N:=["kind","number","hour"]) (l:=(some 8)) rfl ?_ ?_ dn ⟨λ_ _ _ _ _=>(bW (i:=0) (dN (by decide+kernel)) rfl (bx rfl) (dO rfl)),λ_ _ _ _ _=> ?_,λ_ _ _ _ _=> ?_⟩|(refine fU (N:=["row","order"]) (l:=none) rfl ?_ ?_ dn ⟨λ_ _ _ _ _=>(bW (i:=0) (dN (by decide+kernel)) rfl (bx rfl) (dO rfl)),λ_ _ _ _ _=> ?_,λ_ _ _ _ _=> ?_⟩;exact⟨rfl,rfl,rfl,rfl,rfl,by decide,rfl,rfl⟩)|refine fU (N:=["giving"]) (l:=(some 1)) rfl ?_ ?_ dn ⟨λ_ _ _ _ _=>(bW (i:=0) (dN (by decide+kernel)) rfl (bx rfl) (dO rfl)),λ_ _ _ _ _=> ?_,λ_ _ _ _ _=> ?_⟩|refine fU (N:=["bar"]) (l:=none) rfl ?_ ?_ dn ⟨λ_ _ _ _ _=>(bW (i:=0) (dN (by decide+kernel)) rfl (bx rfl) (dO rfl)),λ_ _ _ _ _=> ?_,λ_ _ _ _ _=> ?_⟩|refine fU (N:=["cap"]) (l:=none) rfl ?_ ?_ dn ⟨λ_ _ _ _ _=>(bW (i:=0) (dN (by decide+kernel)) rfl (bx rfl) (dO rfl)),λ_ _ _ _ _=> ?_,λ_ _ _ _ _=> ?_⟩|(refine fU (N:=["row"]) (l:=none) rfl ?_ ?_ dn ⟨λ_ _ _ _ _=>(bW (i:=0) (dN (by decide+kernel)) rfl (bx rfl) (dO rfl)),λ_ _ _ _ _=> ?_,λ_ _ _ _ _=> ?_⟩;exact⟨rfl,rfl,rfl,rfl,rfl,by decide,rfl,rfl⟩)|refine uW (N:=["due","many"]) (i:=2) rfl ?_ rfl ?_ GY ⟨λ_ _ _ _ _=>(BF rfl (mI (bW (i:=0) (dN (by decide+kernel)) rfl (bx rfl) (dO rfl)) (mI (bW (i:=1) (dN (by decide+kernel)) rfl (bx rfl) (dO rfl)) uJ))),λ_ _ _ _ _=> ?_,λ_ _ _ _ _=> ?_⟩|refine bW nd rfl ?_|refine bW (dN (by decide+kernel)) rfl (bx rfl) (dO rfl)|refine BF rfl ?_|refine JX rfl T.no ?_|refine uI ?_ ?_|refine By ?_|refine BB nd rfl ?_ ?_|refine GL ?_ ?_ ?_|refine Bz ?_|refine BD Gdi rfl ?_ ?_ ?_|refine nW rfl ?_ ?_|refine EH rfl ?_ ?_|refine Mj hu rfl ?_ ?_ ?_|refine GN Gdi ?_ ?_|refine GK|refine F8 nd rfl ?_ ?_ ?_|refine Mz Gdi rfl ?_ nd rfl ?_ (by decide) ?_|refine HH ?_ ?_|refine Kc ?_|refine Mx nd rfl ?_ (by decide) ?_|refine My hu rfl ?_ ?_ ?_|refine nS ?_ ?_|refine wA ?_ ?_|((first|(with_reducible apply cG kC);exact ok_laid_in;exact ui|(with_reducible apply cG cL);exact ok_with_giving;exact lj|(with_reducible apply cG fW);exact ok_givings_of;exact ny|(with_reducible apply cG gW);exact ok_bound;exact Ec|(with_reducible apply cG gC);exact ok_due_of;exact AM|(with_reducible apply cG jP);exact ok_astray;exact AN|(with_reducible apply cG fJ);exact ok_weight_at;exact oP|(with_reducible apply cG ip);exact ok_sums;exact IT|(with_reducible apply cG d5);exact ok_goes_by_weight;exact iX|(with_reducible apply cG dq);exact ok_lone_faults;exact lu|(with_reducible apply cG cg);exact ok_marks_by_target;exact gZ|(with_reducible apply cG f7);exact ok_cap_faults;exact nA|(with_reducible apply cG d6);exact ok_gaps_by_stuffs;exact iY|(with_reducible apply cG fE);exact ok_gap_between;exact lx|(with_reducible apply cG f9);exact ok_gap_faults;exact nB|(with_reducible apply cG cQ);exact ok_twice_faults;exact kh|(with_reducible apply cG iS);exact ok_faults;exact AO|(with_reducible apply cG fb);exact ok_giving_hours;exact kl);(first|exact all1 λ_=>rfl|exact all2 λ_ _=>rfl|exact Nh λ_ _ _=>rfl|exact Nj λ_ _ _ _=>rfl);exact hr;rfl;exact T.at;rotate_left 2;decide;decide;rfl;rfl)|exact T.no|exact⟨rfl,rfl,rfl,rfl⟩|exact⟨rfl,rfl,rfl,rfl,rfl,by decide,rfl,rfl⟩)
theorem g1(T:Txt Pm mg):Fo P w Pm mg base 1 142 Hd.jE (oU.take 2) 2 a8/\Fo P w Pm mg base 2 149 Hd.nL (uo.take 1) 1 bP/\Fo P w Pm mg base 4 184 Hd.jF (oV.take 1) 1 fL/\Fo P w Pm mg base 2 191 Hd.lC (rT.take 4) 4 cy/\Fo P w Pm mg base 1 196 Hd.jG (oW.take 1) 1 bH/\Fo P w Pm mg base 1 203 Hd.j6 (nG.take 3) 3 d7/\Fo P w Pm mg base 1 210 Hd.nM (uq.take 2) 2 gc:=by
 have fZ:=aO P w Pm mg base 0 2 Den.jR km vJ rfl ?_;have jo:=aO P w Pm mg base 1 1 Den.oe oz Cu rfl ?_;have CD:=aO P w Pm mg base 1 4 Den.iT uj Cv rfl ?_;have vQ:=aO P w Pm mg base 2 4 Den.jS oQ vK rfl ?_;have AZ:=aO P w Pm mg base 1 3 Den.jf rJ AQ rfl ?_;have vR:=aO P w Pm mg base 2 6 Den.jT oR vL rfl ?_;have jr:=aO P w Pm mg base 3 1 Den.jU oS vM rfl ?_;have kn:=aO P w Pm mg base 1 4 Den.jg rK AR rfl ?_;have jq:=aO P w Pm mg base 0 1 Den.jV oT vN rfl ?_;have iC:=aO P w Pm mg base 0 3 Den.jh nC sE rfl ?_;have ma:=aO P w Pm mg base 0 2 Den.kJ uk Cw rfl ?_;exact⟨fZ,jo,jr,kn,jq,iC,ma⟩
 all_goals intro xa A outer s H E hr nd hu hu20
 all_goals repeat' (first|(with_reducible apply nP)|((with_reducible apply @Bn);rfl;first|exact Or.inl rfl|exact Or.inr (Or.inl rfl)|exact Or.inr (Or.inr rfl)|exact g7 rfl|exact iJ rfl;decide;decide)|((with_reducible apply @d3);rotate_left 2;rfl)|((with_reducible apply @GI);exact hu;rotate_left 2;exactλ_ _=>rfl)|((with_reducible first|refine bZ CK uF ?_ ?_ ?_|refine bZ sM nR ?_ ?_ ?_|refine bZ vV qj ?_ ?_ ?_|refine nQ CK uF ?_ ?_ ?_);rotate_left 2;exact i0 _)|((with_reducible first|refine bZ (qq ?_) qr ?_ ?_ ?_|refine nQ (qq ?_) qr ?_ ?_ ?_);exact hu20;rotate_left 2;first|exact i0 _|with_unfolding_all rfl)|(with_reducible first|apply nP|apply Bp|apply Bo|apply gx|apply Bx|apply uK|apply qm|apply Bq|apply Bs|apply Br|apply uE|apply Bt|apply M6|apply Bu|apply Bv|apply M7|apply uH|apply nS|apply wB sM nR sM nR|apply BE)|(with_reducible apply Cz)|rfl|exact hu|exact hu20|exact i0 _|exact g7 rfl|exact iJ rfl|exact Or.inl rfl|exact Or.inr rfl|exact Or.inr (Or.inl rfl)|exact Or.inr (Or.inr rfl)|exactλ_=>rfl|exactλ_ _=>rfl|decide|exact nX|refine nY ?_|refine lE (pM.or nU) nV rfl T.no BH ?_|refine lE (Em (by rfl)) Bw rfl T.no Md ?_|refine mH En EV rfl T.no GU ?_|refine mH i5 jK rfl T.no qt ?_|refine fU (N:=["_law_row"]) (l:=(some 0)) rfl ?_ ?_ dn ⟨λ_ _ _ _ _=>(bW (i:=0) (dN (by decide+kernel)) rfl (bx rfl) (dO rfl)),λ_ _ _ _ _=> ?_,λ_ _ _ _ _=> ?_⟩|refine bW nd rfl ?_|refine bW (dN (by decide+kernel)) rfl (bx rfl) (dO rfl)|refine tq rfl T.no ?_|refine EG rfl T.no ?_ ?_|refine uI ?_ ?_|refine By ?_|refine BB nd rfl ?_ ?_|refine GL ?_ ?_ ?_|refine Bz ?_|refine BD Gdi rfl ?_ ?_ ?_|refine nW rfl ?_ ?_|refine EX rfl ?_ ?_ ?_|refine nS ?_ ?_|refine wA ?_ ?_|((first|(with_reducible apply cG a8);exact fZ;exact km|(with_reducible apply cG bP);exact jo;exact oz|(with_reducible apply cG g9);exact CD;exact uj|(with_reducible apply cG gX);exact vQ;exact oQ|(with_reducible apply cG gG);exact AZ;exact rJ|(with_reducible apply cG gY);exact vR;exact oR);(first|exact all1 λ_=>rfl|exact all2 λ_ _=>rfl|exact Nh λ_ _ _=>rfl|exact Nj λ_ _ _ _=>rfl|exact QX λ_ _ _ _ _ _=>rfl);exact hr;rfl;exact T.at;rotate_left 2;decide;decide;rfl;rfl)|exact T.no|exact⟨rfl,rfl,rfl,rfl⟩|exact⟨rfl,rfl,rfl,rfl,rfl,by decide,rfl,rfl⟩)
theorem CA(T:Txt Pm mg):mj P w (Hd.K Pm) mg base CX0 6 264 Hd.Gr ["_law_script"] (spD (Hd.K Pm) 1 u0):=by
 have ok_room:=g0 (P:=P) (w:=w) (base:=base) T;obtain⟨fZ,jo,jr,kn,jq,iC,ma⟩:=g1 (P:=P) (w:=w) (base:=base) T;have AY:=aO P w Pm mg base 0 2 Den.fA rL AS rfl ?_;have B1:=aO P w Pm mg base 1 5 Den.lQ rM AU rfl ?_;have B3:=aO P w Pm mg base 0 4 Den.lR rN AV rfl ?_;have CF:=aO P w Pm mg base 1 5 Den.og um Cy rfl ?_;have sG:=aO P w Pm mg base 2 2 Den.jk nD sF rfl ?_;have B2:=aO P w Pm mg base 0 4 Den.lT rO AW rfl ?_;have B0:=aO P w Pm mg base 3 3 Den.lU rP AX rfl ?_;have CA:=aO P w Pm mg base 5 1 Den.HV PU Nk rfl ?_;exact CA
 all_goals intro xa A outer s H E hr nd hu hu20
 all_goals repeat' (first|(with_reducible apply nP)|((with_reducible apply @Bn);rfl;first|exact Or.inl rfl|exact Or.inr (Or.inl rfl)|exact Or.inr (Or.inr rfl)|exact g7 rfl|exact iJ rfl;decide;decide)|((with_reducible apply @d3);rotate_left 2;rfl)|((with_reducible apply @GI);exact hu;rotate_left 2;exactλ_ _=>rfl)|((with_reducible refine bZ (LL ?_) Kk ?_ ?_ ?_);exact Nat.lt_of_succ_lt hu;rotate_left 2;exact i0 _)|((with_reducible first|refine bZ CK uF ?_ ?_ ?_|refine bZ B8 uG ?_ ?_ ?_|refine bZ sM nR ?_ ?_ ?_|refine bZ vV qj ?_ ?_ ?_|refine bZ CL wz ?_ ?_ ?_);rotate_left 2;exact i0 _)|((with_reducible first|refine bZ (qq ?_) qr ?_ ?_ ?_|refine bZ (BQ ?_) BR ?_ ?_ ?_|refine bZ (K0 ?_) K1 ?_ ?_ ?_|refine nQ (BQ ?_) BR ?_ ?_ ?_);exact hu20;rotate_left 2;first|exact i0 _|with_unfolding_all rfl)|(with_reducible first|apply nP|apply Bp|apply P0|apply Bo|apply gx|apply Bx|apply uK|apply tF|apply qm|apply Bq|apply Ds|apply Bs|apply Br|apply uE|apply Bt|apply wJ|apply Bu|apply Bv|apply tH|apply GB|apply GF|apply uH|apply GC|apply nS|apply wA|apply mI|apply uJ|apply BE)|(with_reducible apply Cz)|rfl|exact hu|exact hu20|exact i0 _|exact g7 rfl|exact iJ rfl|exact Or.inl rfl|exact Or.inr rfl|exact Or.inr (Or.inl rfl)|exact Or.inr (Or.inr rfl)|exactλ_=>rfl|exactλ_ _=>rfl|decide|exact nX|refine nY ?_|refine Ag rfl hu20 rfl T.no rfl T.no ?_|refine lE (pM.or nU) nV rfl T.no BH ?_|refine lE oM mO rfl T.no tu ?_|refine mH i5 jK rfl T.no qt ?_|refine GR GW ?_ rfl T.no rfl T.no JL|refine GR JM ?_ rfl T.no rfl T.no GU|refine fU (N:=["_law_one","_law_told","_law_k"]) (l:=(some 9)) rfl ?_ ?_ dn ⟨λ_ _ _ _ _=>(bW (i:=0) (dN (by decide+kernel)) rfl (bx rfl) (dO rfl)),λ_ _ _ _ _=> ?_,λ_ _ _ _ _=> ?_⟩|refine fU (N:=["_law_cap_here"]) (l:=none) rfl ?_ ?_ dn ⟨λ_ _ _ _ _=>(bW (i:=0) (dN (by decide+kernel)) rfl (bx rfl) (dO rfl)),λ_ _ _ _ _=> ?_,λ_ _ _ _ _=> ?_⟩|refine JP (i:=9) (N:=["_law_one","_law_order_here"]) nd rfl ?_ (l:=none) rfl ?_ ?_ dn ⟨λ_ _ _ _ _=>(bW (i:=0) (dN (by decide+kernel)) rfl (bx rfl) (dO rfl)),λ_ _ _ _ _=> ?_,λ_ _ _ _ _=> ?_⟩|refine bW nd rfl ?_|refine bW (dN (by decide+kernel)) rfl (bx rfl) (dO rfl)|refine BF rfl ?_|refine tq rfl T.no ?_|refine M9 ?_ ?_|refine uI ?_ ?_|refine By ?_|refine BB nd rfl ?_ ?_|refine GL ?_ ?_ ?_|refine Bz ?_|refine BD Gdi rfl ?_ ?_ ?_|refine nW rfl ?_ ?_|refine nS ?_ ?_|refine wA ?_ ?_|((first|(with_reducible apply cG lP);exact ok_room;exact IU|(with_reducible apply cG a8);exact fZ;exact km|(with_reducible apply cG bP);exact jo;exact oz|(with_reducible apply cG fL);exact jr;exact oS|(with_reducible apply cG cy);exact kn;exact rK|(with_reducible apply cG bH);exact jq;exact oT|(with_reducible apply cG d7);exact iC;exact nC|(with_reducible apply cG gc);exact ma;exact uk|(with_reducible apply cG cV);exact AY;exact rL|(with_reducible apply cG gH);exact B1;exact rM|(with_reducible apply cG gI);exact B3;exact rN|(with_reducible apply cG kK);exact CF;exact um|(with_reducible apply cG aK);exact sG;exact nD|(with_reducible apply cG bc);exact B2;exact rO|(with_reducible apply cG lV);exact B0;exact rP);(first|exact all1 λ_=>rfl|exact all2 λ_ _=>rfl|exact Nh λ_ _ _=>rfl|exact Nj λ_ _ _ _=>rfl|exact QW λ_ _ _ _ _=>rfl);exact hr;rfl;exact T.at;rotate_left 2;decide;decide;rfl;rfl)|exact T.no|exact⟨rfl,rfl,rfl,rfl⟩|exact⟨rfl,rfl,rfl,rfl,rfl,by decide,rfl,rfl⟩)
end
theorem all_mk{l:PySem.W.OpenLaw}{w:World}{h:Heap}{mg:Str->Option Value}{fa:Addr}(X:(Hd.K w.params).In h)(G:h.Ns mainGlobals mg)(Ua:mg "law"=some (.ref fa)):
  ∃fd:FuncData,(∀(s:Shared) (v:Value),BindsTo s fd ⟨[v],[]⟩ [("_law_script",v)])/\∀base:Heap,(Hd.K w.params).In base->base.Ns mainGlobals mg->mj l.prog w (Hd.K w.params) mg base CX0 6 fa fd ["_law_script"] (spD (Hd.K w.params) 1 u0):=by
 have T:Txt w.params mg:=⟨h,X,G⟩
 have e:=Ua.symm.trans T.PV;cases e;exact⟨_,λs v=> .of_eq rfl,λbase _ _=>CA T⟩
theorem walk{l:PySem.W.OpenLaw}{q:Program}{loose:List Str}{XP:(Str->Option Value)->Heap->Prop}{YP:World->Heap->Prop}{d:DefRec}{K:Params->PySem.W.Frag}(hn:l.most=some 63)(zU:d.params.defaults=[])
  (hY:∀(w:World) (h:Heap),YP w h->(K w.params).In h)(zD:∀ns:List Int,ns.length<=63->u0 [.scr ns]=some (.bl true))
  (F:∀(w:World) (mg:Str->Option Value) (fa:Addr) (h:Heap),(K w.params).In h->h.Ns mainGlobals mg->mg d.name=some (.ref fa)->
   ∃fd:FuncData,(∀(s:Shared) (u:Value),BindsTo s fd ⟨[u],[]⟩ [("_law_script",u)])/\∀base:Heap,(K w.params).In base->base.Ns mainGlobals mg->mj l.prog w (K w.params) mg base CX0 6 fa fd ["_law_script"] (spD (K w.params) 1 u0)):
  PySem.W.WalkO q loose XP YP l.row.toRowW d [] (λf vs=>PySem.call f vs):=
 L2.Js (n:=63) (k:=6) (x:="_law_script") (CX:=λ_=>CX0) (sp:=λw=>spD (K w.params) 1 u0) hn (by decide) zU ⟨rfl,by decide,by decide⟩ hY F (λ_ _ a ns hl hO hS=>Ma hO hS (zD ns hl)) λ_ _ _ _ _ z=>z
end Der
open PySem PySem.W PyProof.Rows
theorem PySem.Challenge.cw_dosehouse_k65_room_holds : PySem.Challenge.rw_dosehouse_k65_room.Holds := by
 exact Hd.close λd h1 h2=>Der.walk (l:=PySem.Challenge.rw_dosehouse_k65_room) (K:=Hd.K) rfl h1 (λw h Y=>PySem.W.kIn_of Y) Maths.IS λw mg fa h KX G zN=>Der.all_mk KX G (h2▸zN)
