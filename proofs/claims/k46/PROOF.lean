import PyProof.Rows.All
import Wide.All
import OpenK.AllK
import PySem.Challenge.RW_dosehouse_k46_whole_fewer_and_lesser_sta
set_option Elab.async false
set_option linter.all false
set_option maxRecDepth 100000
set_option maxHeartbeats 0
set_option genSizeOf false
def Gaa:=@List.getElem?_eq_getElem
def Gab:=@PySem.wpAny_bind
def Gac:=@List.length_map
def Gad:=@List.getElem?_set_ne
def Gae:=@List.mem_cons_of_mem
def Gaf:=@if_pos
def Gag:=@if_neg
def Gah:=@List.getElem?_map
def Gai:=@PySem.Heap.get?_push_of_some
def Gaj:=@List.getElem?_eq_some_iff
def Gak:=@List.mem_cons_self
def Gal:=@PyProof.Rows.wpS_bind
def Gam:=@List.size_toArray
def Gan:=@List.length_append
def Gao:=@PySem.wpAny_pure
def Gap:=@Option.map_eq_some_iff
def Gaq:=@Nat.le_refl
def Gar:=@of_decide_eq_true
def Gas:=@List.append_assoc
def Gat:=@List.getElem_mem
def Gau:=@PyProof.Rows.wpS_pure
def Gav:=@Int.eq_ofNat_of_zero_le
def Gaw:=@List.length_cons
def Gax:=@PySem.Heap.lt_size
def Gay:=@Bool.and_eq_true
def Gaz:=@decide_eq_true
def GaA:=@List.all_eq_true
def GaB:=@List.map_cons
def GaC:=@List.mem_cons
def GaD:=@decide_eq_false
def GaE:=@List.mem_append
def GaF:=@List.map_append
def GaG:=@List.mem_map
def GaH:=@Bool.false_ne_true
def GaI:=@Int.toNat_natCast
def GaJ:=@PySem.Heap.get?_push_size
def GaK:=@Bool.false_eq_true
def GaL:=@List.map_map
def GaM:=@List.map_congr_left
def GaN:=@List.getElem?_append_right
def GaO:=@Nat.ne_of_lt
def GaP:=@List.mem_of_getElem?
def GaQ:=@List.set_cons_succ
def GaR:=@List.set_cons_zero
def GaS:=@Nat.lt_of_lt_of_le
def GaT:=@List.getElem?_set_self
def GaU:=@List.getElem?_append_left
def GaV:=@List.getElem?_take_of_lt
def GaW:=@List.append_nil
def GaX:=@Bool.or_eq_true
def GaY:=@PySem.wpAny_newObj_type
def GaZ:=@List.mem_range
def Gba:=@List.filter_cons
def Gbb:=@List.flatMap_cons
def Gbc:=@List.Perm.append_right
def Gbd:=@PyProof.Rows.slot_tuple_getitem
def Gbe:=@List.mem_append_right
def Gbf:=@List.take_append_drop
def Gbg:=@List.lookup_cons
def Gbh:=@Nat.le_trans
def Gbi:=@PyProof.Rows.wpS_forRange
def Gbj:=@if_false
def Gbk:=@List.mem_of_mem_take
def Gbl:=@List.pairwise_cons
def Gbm:=@List.getElem?_drop
def Gbn:=@List.take_of_length_le
def Gbo:=@List.mem_filter
def Gbp:=@Nat.zero_add
def Gbq:=@List.perm_append_comm
def Gbr:=@List.mem_of_mem_drop
def Gbs:=@Nat.lt_irrefl
def Gbt:=@List.getElem?_eq_none
def Gbu:=@List.drop_zero
def Gbv:=@PySem.W.kia_one
def Gbw:=@List.mem_singleton
def Gbx:=@if_true
def Gby:=@PySem.wpAny_call_entry
def Gbz:=@PyProof.Rows.wpS_mono
def GbA:=@PySem.Heap.get?_update_other
def GbB:=@Nat.zero_le
def GbC:=@Int.le_refl
def GbD:=@Function.comp_apply
def GbE:=@List.find?_cons
def GbF:=@List.drop_eq_getElem_cons
def GbG:=@List.foldl_cons
def GbH:=@PySem.Heap.get?_update_self
def GbI:=@List.Perm.append_left
def GbJ:=@List.length_drop
def GbK:=@Nat.lt_of_le_of_lt
def GbL:=@List.drop_length
def GbM:=@List.all_map
def GbN:=@PySem.sizeLine_eq
def GbO:=@PySem.wpAny_callSpecial?_slot
def GbP:=@Nat.min_eq_left
def GbQ:=@Array.length_toList
def GbR:=@List.all_cons
def GbS:=@PyProof.Rows.wpS_modify
def GbT:=@List.take_succ_eq_append_getElem
def GbU:=@List.mem_reverse
def GbV:=@List.drop_drop
def GbW:=@List.mem_append_left
def GbX:=@PySem.wpAny_mono
def GbY:=@List.nodup_cons
def GbZ:=@Option.map_some
def Gca:=@PySem.wpAny_truthy_bool
def Gcb:=@List.pairwise_singleton
def Gcc:=@List.length_eq_zero_iff
def Gce:=@List.length_take
def Gcf:=@List.getElem_map
def Gcg:=@PyProof.Rows.callWith_type1
def Gch:=@Array.getD_eq_getD_getElem?
def Gci:=@PySem.wpAny_passesOwn
def Gcj:=@List.length_nil
def Gck:=@List.mem_iff_getElem?
def Gcl:=@List.length_filter_le
def Gcm:=@Array.getElem?_eq_some_iff
def Gcn:=@Option.some.injEq
def Gco:=@PySem.wpAny_rule
def Gcp:=@List.pairwise_iff_getElem
def Gcq:=@Array.getElem?_eq_getElem
def Gcr:=@List.map_id
def Gcs:=@List.take_take
def Gct:=@Nat.ne_of_gt
def Gcu:=@Array.toList_inj
def Gcv:=@List.take_length
def Gcw:=@List.mem_flatMap
def Gcx:=@List.getElem?_replicate
def Gcy:=@PySem.F.plainAttrs_list
def Gcz:=@List.flatMap_eq_nil_iff
def GcA:=@PySem.wpAny_holding
def GcB:=@List.map_drop
def GcC:=@PySem.Calls.spliced_cons
def GcD:=@PySem.wpAny_typeNameOfWhole_itemiter
def GcE:=@List.nil_append
def GcF:=@List.find?_eq_none
def GcG:=@PySem.Calls.callWith_builtin
def GcH:=@List.append_eq_nil_iff
def GcI:=@PySem.wpAny_typeNameOfWhole_keyiter
def GcJ:=@PySem.F.slot_dict_itemiterator_next
def GcK:=@Int.mul_le_mul_of_nonneg_left
def GcL:=@List.nodup_append
def GcM:=@Bool.and_false
def GcN:=@PyProof.Rows.kmk_tree
def GcO:=@PySem.F.slot_dict_keyiterator_next
def GcP:=@PyProof.Rows.wpS_get
def GcQ:=@List.drop_take
def GcR:=@beq_iff_eq
def GcS:=@List.any_eq_true
def GcT:=@decide_eq_decide
def GcU:=@List.any_cons
def GcV:=@PySem.wpAny_field
def GcW:=@List.filterMap_cons
def GcX:=@List.flatMap_append
def GcY:=@List.cons.injEq
def GcZ:=@List.range_succ
def Gda:=@PySem.PassesOwn.never
def Gdb:=@PySem.wpAny_Call_Name_kw
def Gdc:=@PySem.F.args_tuple_add_2
def Gdd:=@PySem.tupleKind_room_in1
def Gde:=@PySem.wpAny_pyIter_tuple
def Gdf:=@PySem.wpAny_comprehension_free
def Gdg:=@List.filter_append
def Gdh:=@PySem.Heap.size_push
def Gdi:=@PySem.F.slot_dict_itemiterator_iter
def Gdj:=@Int.mul_nonneg
def Gdk:=@PySem.F.entry_tuple_add
def Gdl:=@PySem.F.plainAttrs_dict
def Gdm:=@List.getElem?_cons_succ
def Gdn:=@List.any_eq_false
def Gdo:=@List.ext_getElem?
def Gdp:=@Nat.lt_succ_of_lt
def Gdq:=@PySem.wpAny_pyIter_enum
def Gdr:=@List.drop_sublist
def Gds:=@PySem.F.slot_tuple_add
def Gdt:=@List.range_succ_eq_map
def Gdu:=@Nat.le_succ
def Gdv:=@PySem.wpAny_letGo
def Gdw:=@List.drop_of_length_le
def Gdx:=@List.findIdx?_eq_some_iff_getElem
def Gdy:=@List.find?_cons_of_pos
def Gdz:=@List.find?_cons_of_neg
def GdA:=@List.Perm.map
def GdB:=@Bool.not_true
def GdC:=@List.map_take
def GdD:=@List.length_replicate
def GdE:=@PySem.F.slot_dict_get
def GdF:=@PySem.wpAny_notOrdered_dict
def GdG:=@Nat.le_of_lt
def GdH:=@PySem.wpAny_execs_nil
def GdI:=@PySem.wpAny_typeOf
def GdJ:=@List.length_set
def GdK:=@PySem.Calls.evalArgs_plain
def GdL:=@PySem.wpAny_updateSeq
def GdM:=@PySem.codeAny_builtin
def GdN:=@PySem.Around.under_plainId
def GdO:=@List.getElem?_of_mem
def GdP:=@List.getElem_of_mem
def GdQ:=@Int.emod_lt_of_pos
def GdR:=@Nat.add_assoc
def GdS:=@List.foldl_append
def GdT:=@List.getElem?_set
def GdU:=@Array.toList_push
def GdV:=@List.findIdx?_map
def GdW:=@List.pairwise_map
def GdX:=@List.map_nil
def GdY:=@Nat.min_self
def GdZ:=@Nat.sub_zero
def Gea:=@Nat.succ_mul
namespace L2
open PySem PySem.Spec PyProof.Rows
abbrev Key:=Sum Int Str
noncomputable def sQ:Key->Value->Bool
 | .inl k,v=>Value.isInt k v
 | .inr x,v=>Value.isStrOf x v
noncomputable def Ph(w:World):Key->Int
 | .inl k=>hashInt k
 | .inr x=>hashStr w x
theorem cf:∀{k:Key} {v:Value},sQ k v=true->(∃i t,k=Sum.inl i/\v=Value.int i t)\/(∃x t,k=Sum.inr x/\v=Value.str x t)
 | .inl i,v,h=>by
  obtain⟨t,e⟩:=Value.isInt_shape (k:=i) (v:=v) h;exact .inl ⟨i,t,rfl,e⟩
 | .inr x,v,h=>by
  obtain⟨t,e⟩:=Value.isStrOf_shape (x:=x) (v:=v) h;exact .inr ⟨x,t,rfl,e⟩
theorem D2(i:Int)(t:Tok):sQ (.inl i) (.int i t)=true:=by simp[sQ,Value.isInt]
theorem D3(x:Str)(t:Tok):sQ (.inr x) (.str x t)=true:=by simp[sQ,Value.isStrOf]
theorem Kf(a b:Int):decide ((Sum.inl a:Key)=Sum.inl b)=(a==b):=by
 by_cases e:a=b
 .subst e;simp
 .have h:¬(Sum.inl a:Key)=Sum.inl b:=λq=>e (Sum.inl.inj q);rw[GaD h];exact(beq_eq_false_iff_ne.mpr e).symm
theorem Kg(a b:Str):decide ((Sum.inr a:Key)=Sum.inr b)=decide (a=b):=by
 by_cases e:a=b
 .subst e;simp
 .have h:¬(Sum.inr a:Key)=Sum.inr b:=λq=>e (Sum.inr.inj q);rw[GaD h,GaD e]
theorem Kh(a:Int)(b:Str):decide ((Sum.inl a:Key)=Sum.inr b)=false:=GaD (λq=>nomatch q)
theorem Ki(a:Str)(b:Int):decide ((Sum.inr a:Key)=Sum.inl b)=false:=GaD (λq=>nomatch q)
noncomputable def bS(prog:Program)(w:World):PySem.KeyKind prog w Key where
 is:=sQ
 hash:=Ph w
 inj:=λv a b ha hb=>by
  rcases cf ha with⟨i,t,rfl,rfl⟩| ⟨x,t,rfl,rfl⟩
  .rcases cf hb with⟨j,u,rfl,e⟩| ⟨y,u,rfl,e⟩
   .injection e with e1 _;rw[e1]
   .exact nomatch e
  .rcases cf hb with⟨j,u,rfl,e⟩| ⟨y,u,rfl,e⟩
   .exact nomatch e
   .injection e with e1 _;rw[e1]
 byValue:=λk v h=>by
  rcases cf h with⟨i,t,rfl,rfl⟩| ⟨x,t,rfl,rfl⟩<;>rfl
 pyHash:=λhv h=>by
  rcases cf hv with⟨i,t,rfl,rfl⟩| ⟨x,t,rfl,rfl⟩
  .exact wpAny_pyHash_int h
  .exact wpAny_pyHash_str h
 eqBool:=λhu hv h=>by
  rcases cf hu with⟨i,t,rfl,rfl⟩| ⟨x,t,rfl,rfl⟩
  .rcases cf hv with⟨j,u,rfl,rfl⟩| ⟨y,u,rfl,rfl⟩
   .rw[Kf] at h;exact wpAny_eqBool_int h
   .rw[Kh] at h;exact SeqAt.EqAt.int_str i t y u _ _ _ _ h
  .rcases cf hv with⟨j,u,rfl,rfl⟩| ⟨y,u,rfl,rfl⟩
   .rw[Ki] at h;exact SeqAt.EqAt.str_int x t j u _ _ _ _ h
   .rw[Kg] at h;exact wpAny_eqBool_str h
 «strs» :=λk x t v h=>by
  rcases cf h with⟨i,u,rfl,e⟩| ⟨y,u,rfl,e⟩
  .exact nomatch e
  .injection e with e1 _
   subst e1;cases v<;>rfl
theorem vk(prog:Program)(w:World)(i:Int)(t:Tok):(bS prog w).is (.inl i) (.int i t)=true:=D2 i t
theorem vn(prog:Program)(w:World)(x:Str)(t:Tok):(bS prog w).is (.inr x) (.str x t)=true:=D3 x t
inductive V where
 |non|bl (b:Bool)|int (i:Int)|str (x:Str)|byt (b:Array UInt8)|flt (b:UInt64)|ref (a:Addr)|ty (n:String)
 deriving DecidableEq
def RelV:V->Value->Prop
 | .non,u=>u=Value.none
 | .bl b,u=>u=Value.bool b
 | .int i,u=>∃t,u=Value.int i t
 | .str x,u=>∃t,u=Value.str x t
 | .byt b,u=>∃t,u=Value.bytes b t
 | .flt b,u=>∃t,u=Value.float b t
 | .ref a,u=>u=Value.ref a
 | .ty n,u=>u=Value.type n
abbrev Vals:List V->List Value->Prop:=Paired RelV
theorem Vals.length{xs:List V}{us:List Value}(r:Vals xs us):xs.length=us.length:=Paired.length r
theorem Vals.get:∀{xs:List V} {us:List Value} {i:Nat} {x:V},Vals xs us->xs[i]? =some x->∃u,us[i]? =some u/\RelV x u
 |_,_,_,_,.nil,e=>by simp at e
 |_,_,0,_,.cons r _,e=>by simp at e;subst e;exact⟨_,rfl,r⟩
 |_,_,i+1,x,.cons _ t,e=>by
  obtain⟨u,h1,h2⟩:=Vals.get (i:=i) (x:=x) t (by simpa using e);exact⟨u,by simpa using h1,h2⟩
theorem Vals.set{x:V}{u:Value}(r:RelV x u):∀{xs:List V} {us:List Value} (i:Nat),Vals xs us->Vals (xs.set i x) (us.set i u)
 |_,_,_,.nil=> .nil
 |_,_,0,.cons _ t=> .cons r t
 |_,_,i+1,.cons q t=> .cons q (Vals.set r i t)
theorem Vals.append:∀{xs ys:List V} {us ws:List Value},Vals xs us->Vals ys ws->Vals (xs++ys) (us++ws)
 |_,_,_,_,.nil,s=>s
 |_,_,_,_,.cons r t,s=> .cons r (Vals.append t s)
theorem Vals.take:∀{xs:List V} {us:List Value} (n:Nat),Vals xs us->Vals (xs.take n) (us.take n)
 |_,_,0,_=> .nil
 |_,_,_+1,.nil=> .nil
 |_,_,n+1,.cons r t=> .cons r (Vals.take n t)
theorem Vals.drop:∀{xs:List V} {us:List Value} (n:Nat),Vals xs us->Vals (xs.drop n) (us.drop n)
 |_,_,0,r=>r
 |_,_,_+1,.nil=> .nil
 |_,_,n+1,.cons _ t=>Vals.drop n t
def nR:Option V->Option Value->Prop
 |some v,some u=>RelV v u
 |none,none=>True
 |_,_=>False
def KV{Y:Type}:List (Y×V)->List (Y×Value)->Prop:=Paired λ(p:Y×V) (q:Y×Value)=>p.1=q.1/\RelV p.2 q.2
noncomputable def kV:Key->V
 | .inl i=> .int i
 | .inr x=> .str x
inductive HO where
 |lst (xs:List V)
 |tup (xs:List V)
 |dK (eE:List (Key×V))|dT (eE:List (List Key×V))
 |set (S:Int->Bool) (n:Nat)
 |ins (C dx:Addr) (fs:List (Str×V))
 |own (x:Addr)
 |xd (fs:List (Str×V))
 |met (f x:Addr)
 |rng (lo hi:Int)
 |frz (o:Obj) (u:HO)
 |tbl (ps:Array Value)
 |ext (φ:Heap->Prop)
abbrev Hp:=Addr->Option HO
noncomputable def upd(H:Hp)(a:Addr)(o:HO):Hp:=λb=>if b=a then some o else H b
theorem az{H:Hp}{a:Addr}{o:HO}:upd H a o a=some o:=by unfold upd;rw[Gaf rfl]
theorem ah{H:Hp}{a b:Addr}{o:HO}(h:b≠a):upd H a o b=H b:=by unfold upd;rw[Gag h]
theorem BP{H:Hp}{a b:Addr}{o u:HO}(h:H a=some o)(h' :H b=some u)(d:o≠u):a≠b:=by
 intro e;subst e;rw[h] at h';exact d (Option.some.inj h')
theorem cZ{H:Hp}{a b:Addr}{o:HO}(h:H a=some o)(h' :H b=none):a≠b:=by
 intro e;subst e;rw[h] at h';cases h'
section
variable(P:Program)(w:World)
def bQ(H:Hp)(h:Heap)(a:Addr):HO->Prop
 | .lst xs=>xs.length<=sizeLine/\∃(eI:List Value) (n:Nat),Vals xs eI/\h.get? a=some {cls:= .type "list",data:= .seq eI.toArray n}
 | .tup xs=>xs.length<=sizeLine/\∃eI:List Value,Vals xs eI/\IsTup h a eI.toArray
 | .dK eE=>eE.length<=sizeLine/\(a==sysModules)=false/\∃vs,KV eE vs/\h.DictOf (bS P w) a vs
 | .dT eE=>eE.length<=sizeLine/\(a==sysModules)=false/\∃xs:List (List Key×Addr×Value),
   Paired (λ(p:List Key×V) (q:List Key×Addr×Value)=>p.1=q.1/\H q.2.1=some (.tup (p.1.map kV))/\RelV p.2 q.2.2) eE xs/\
   ∃o es ep,h.get? a=some o/\o.ExactDict/\o.data= .dict es ep/\es.toList=xs.map (entryOfKey (tupleKind (bS P w)))/\(xs.map (·.1)).Nodup
 | .set S n=>h.SetOf (intKind P w) a S n
 | .ins C dx fs=>H dx=some (.own a)/\fs.length<=1000/\dx≠a/\h.get? a=some (PySem.W.instObj C dx)/\
   ∃mA,h.Ns1 dx mA/\(∀f,nR (fs.lookup f) (mA f))/\PySem.Within mA (fs.map (·.1))
 | .own _=>∃o,h.get? a=some o
 | .xd fs=>∃mA,h.Ns1 a mA/\∀f,nR (fs.lookup f) (mA f)
 | .rng lo hi=>∃t u v,h.get? a=some {cls:= .type "range",data:= .fields #[.int lo t,.int hi u,.int 1 v]}
 | .frz o u=>h.get? a=some o/\bQ H h a u
 | .tbl ps=>h.get? a=some {cls:= .none,data:= .fields ps}
 | .met f x=>h.get? a=some (PySem.W.methodObj (.ref f) (.ref x))
 | .ext φ=>φ h/\(∃o,h.get? a=some o)/\∀h1 h2:Heap,φ h1->(∀o,h1.get? a=some o->h2.get? a=some o)->φ h2
def HOk(H:Hp)(h:Heap):Prop:=∀a o,H a=some o->bQ P w H h a o
end
section
variable{P:Program}{w:World}{H H' :Hp}{h h' :Heap}{a:Addr}{o:HO}
theorem bQ.lt(x:bQ P w H h a o):a<h.objs.size:=by
 cases o with
 |lst xs=>obtain⟨_,_,_,_,e⟩:=x;exact Gax e
 |tup xs=>obtain⟨_,_,_,p⟩:=x;exact p.lt
 |dK eE=>obtain⟨_,_,_,_,o,_,_,e,_⟩:=x;exact Gax e
 |dT eE=>obtain⟨_,_,_,_,o,_,_,e,_⟩:=x;exact Gax e
 |set S n=>obtain⟨o,_,_,_,e,_⟩:=x;exact Gax e
 |ins C dx fs=>obtain⟨_,_,_,e,_⟩:=x;exact Gax e
 |own y=>obtain⟨_,e⟩:=x;exact Gax e
 |xd fs=>obtain⟨_,⟨_,_,_,e,_⟩,_⟩:=x;exact Gax e
 |rng lo hi=>obtain⟨_,_,_,e⟩:=x;exact Gax e
 |frz ob u=>obtain⟨e,_⟩:=x;exact Gax e
 |tbl ps=>exact Gax (show h.get? a=some _ from x)
 |met f y=>exact Gax (show h.get? a=some _ from x)
 |ext φ=>obtain⟨_,⟨_,e⟩,_⟩:=x;exact Gax e
theorem Paired.Kj{α β:Type}{F G:α->β->Prop}:∀{l₁:List α} {l₂:List β},Paired F l₁ l₂->(∀a b,F a b->G a b)->Paired G l₁ l₂
 |_,_,.nil,_=> .nil
 |_,_,.cons r t,f=> .cons (f _ _ r) (Paired.Kj t f)
theorem bQ.dN(x:bQ P w H h a o)(k:∀b u,(b=a\/H b=some (.own a))->h.get? b=some u->h'.get? b=some u)
  (ho:∀b,H b=some (.own a)->H' b=some (.own a))(ht:∀b xs,H b=some (.tup xs)->H' b=some (.tup xs)):bQ P w H' h' a o:=by
 induction o with
 |lst xs=>obtain⟨z,eI,n,r,e⟩:=x;exact⟨z,eI,n,r,k _ _ (.inl rfl) e⟩
 |tup xs=>obtain⟨z,eI,r,ob,e,c⟩:=x;exact⟨z,eI,r,ob,k _ _ (.inl rfl) e,c⟩
 |dK eE=>obtain⟨z,y,vs,r,ob,es,ep,e,c⟩:=x;exact⟨z,y,vs,r,ob,es,ep,k _ _ (.inl rfl) e,c⟩
 |dT eE=>
  obtain⟨z,y,xs,r,ob,es,ep,e,c⟩:=x;exact⟨z,y,xs,Paired.Kj r λp q z=> ⟨z.1,ht _ _ z.2.1,z.2.2⟩,ob,es,ep,k _ _ (.inl rfl) e,c⟩
 |set S n=>obtain⟨ob,es,ep,t,e,c⟩:=x;exact⟨ob,es,ep,t,k _ _ (.inl rfl) e,c⟩
 |ins C dx fs=>
  obtain⟨d,z,ne,e,mA,⟨od,es,ep,e2,c⟩,r⟩:=x;exact⟨ho _ d,z,ne,k _ _ (.inl rfl) e,mA,⟨od,es,ep,k _ _ (.inr d) e2,c⟩,r⟩
 |own y=>obtain⟨ob,e⟩:=x;exact⟨ob,k _ _ (.inl rfl) e⟩
 |xd fs=>obtain⟨mA,⟨od,es,ep,e,c⟩,r⟩:=x;exact⟨mA,⟨od,es,ep,k _ _ (.inl rfl) e,c⟩,r⟩
 |rng lo hi=>obtain⟨t,u,v,e⟩:=x;exact⟨t,u,v,k _ _ (.inl rfl) e⟩
 |frz ob u ih=>obtain⟨e,q⟩:=x;exact⟨k _ _ (.inl rfl) e,ih q⟩
 |tbl ps=>
  have e:h.get? a=some {cls:= .none,data:= .fields ps}:=x;show h'.get? a=some {cls:= .none,data:= .fields ps};exact k a _ (.inl rfl) e
 |met f y=>
  have e:h.get? a=some (PySem.W.methodObj (.ref f) (.ref y)):=x;show h'.get? a=some (PySem.W.methodObj (.ref f) (.ref y));exact k a _ (.inl rfl) e
 |ext φ=>obtain⟨p,⟨o,e⟩,st⟩:=x;exact⟨st _ _ p λo q=>k _ _ (.inl rfl) q,⟨o,k _ _ (.inl rfl) e⟩,st⟩
theorem HOk.lt(x:HOk P w H h)(e:H a=some o):a<h.objs.size:=(x a o e).lt
theorem HOk.fresh(x:HOk P w H h)(e:h.objs.size<=a):H a=none:=by
 cases q:H a with
 |none=>rfl
 |some u=>exact absurd (GaS (x.lt q) e) (Gbs _)
theorem HOk.kept(x:HOk P w H h)(k:∀b u,h.get? b=some u->h'.get? b=some u):HOk P w H h' :=λa o e=>
 (x a o e).dN (λb u _ q=>k b u q) (λ_ q=>q) λ_ _ q=>q
theorem HOk.laid(x:HOk P w H h)(k:∀b u,h.get? b=some u->h'.get? b=some u)(hp:h.objs.size<=a)(new:bQ P w (upd H a o) h' a o):HOk P w (upd H a o) h' :=λb u e=>by
 have hn:=x.fresh hp;by_cases hb:b=a
 .subst hb;rw[az] at e;cases e;exact new
 .rw[ah hb] at e;exact(x b u e).dN (λc v _ q=>k c v q) (λc q=>by rw[ah (cZ q hn)];exact q) λc xs q=>by rw[ah (cZ q hn)];exact q
end
def Rd(H:Hp)(a:Addr)(u:HO):Prop:=H a=some u\/∃o,H a=some (.frz o u)
theorem Rd.ok{P:Program}{w:World}{H:Hp}{h:Heap}{a:Addr}{u:HO}(r:Rd H a u)(x:HOk P w H h):bQ P w H h a u:=by
 rcases r with r| ⟨o,r⟩
 .exact x a u r
 .obtain⟨_,q⟩:=x a _ r;exact q
def Mut:Option HO->Prop
 |some (.lst _)=>True
 |some (.dK _)=>True
 |some (.dT _)=>True
 |some (.set _ _)=>True
 |some (.ins _ _ _)=>True
 |some (.ext _)=>True
 |_=>False
section
variable{P:Program}{w:World}{H:Hp}{h h' :Heap}{x e:Addr}{o' :HO}
theorem HOk.write(ok:HOk P w H h)(mu:Mut (H x))(he:e=x\/H e=some (.own x))(k:∀b u,b≠e->h.get? b=some u->h'.get? b=some u)(zm:∃u,h'.get? e=some u)
  (new:bQ P w (upd H x o') h' x o'):HOk P w (upd H x o') h' :=λb u q=>by
 have nown:∀c y,H c=some (.own y)->c≠x:=λc y r z=>by subst z;rw[r] at mu;exact mu
 have ntup:∀c xs,H c=some (.tup xs)->c≠x:=λc xs r z=>by subst z;rw[r] at mu;exact mu
 by_cases hb:b=x
 .subst hb;rw[az] at q;cases q;exact new
 .rw[ah hb] at q;by_cases hbe:b=e
  .have q' :H b=some (.own x):=by
    rcases he with z|z
    .exact absurd (hbe.trans z) hb
    .rw[hbe];exact z
   rw[q] at q';cases q'
   obtain⟨v,hv⟩:=zm;exact⟨v,by rw[hbe];exact hv⟩
  .refine(ok b u q).dN (λc v hc r=>k c v ?_ r) (λc r=>by rw[ah (nown c b r)];exact r) λc xs r=>by rw[ah (ntup c xs r)];exact r
   rcases hc with rfl|hc
   .exact hbe
   .rintro rfl;rcases he with z|z
    .exact nown c b hc z
    .rw[hc] at z;cases z;exact hb rfl
end
structure Un(fs ex:List Addr)(H H' :Hp)(h h' :Heap):Prop where
 keep:∀b o,h.get? b=some o->H b=none->b∉fs->b∉ex->h'.get? b=some o
 slot:∀b o,h.get? b=some o->H b=none->b∈fs->b∉ex->∃sl,h'.get? b=some {o with slots:=sl}
 free:∀b o,h.get? b=some o->H b=none->b∉ex->H' b=none
 there:∀b o,h.get? b=some o->b∉ex->∃o',h'.get? b=some o'
 vd:∀b xs,H b=some (.tup xs)->H' b=some (.tup xs)
 rZ:∀b o u,H b=some (.frz o u)->H' b=some (.frz o u)
 ve:∀b ps,H b=some (.tbl ps)->∃more,H' b=some (.tbl (ps++more))
section
variable{fs Sy ex T3 :List Addr}{H H1 H2:Hp}{h h1 h2 h' :Heap}{a x e:Addr}{o:HO}
theorem Un.any(u:Un fs ex H H1 h h1){b:Addr}{ob:Obj}(q:h.get? b=some ob)(n:H b=none)(hx:b∉ex):∃sl,h1.get? b=some {ob with slots:=sl}:=by
 by_cases hb:b∈fs
 .exact u.slot b ob q n hb hx
 .exact⟨ob.slots,u.keep b ob q n hb hx⟩
theorem Un.kept(k:∀b u,h.get? b=some u->h'.get? b=some u):Un fs ex H H h h' :=
 ⟨λb ob q _ _ _=>k b ob q,λb ob q _ _ _=> ⟨ob.slots,k b ob q⟩,λ_ _ _ n _=>n,λb ob q _=> ⟨ob,k b ob q⟩,λ_ _ q=>q,λ_ _ _ q=>q,λ_ ps q=> ⟨#[],by rw[q];simp⟩⟩
theorem Un.refl:Un fs ex H H h h:=Un.kept λ_ _ q=>q
theorem Un.laid(k:∀b u,h.get? b=some u->h'.get? b=some u)(hp:h.objs.size<=a)(hn:H a=none):Un fs ex H (upd H a o) h h' where
 keep:=λb u q _ _ _=>k b u q
 slot:=λb u q _ _ _=> ⟨u.slots,k b u q⟩
 free:=λb u q n _=>by rw[ah (GaO (GaS (Gax q) hp))];exact n
 there:=λb u q _=> ⟨u,k b u q⟩
 vd:=λb xs q=>by rw[ah (cZ q hn)];exact q
 rZ:=λb u xs q=>by rw[ah (cZ q hn)];exact q
 ve:=λb ps q=> ⟨#[],by rw[ah (cZ q hn),q];simp⟩
theorem Un.write(mu:Mut (H x))(he:e=x\/H e=some (.own x))(k:∀b u,b≠e->h.get? b=some u->h'.get? b=some u)(zm:∃u,h'.get? e=some u):Un fs ex H (upd H x o) h h' :=by
 have hx:∀b,H b=none->b≠x:=λb n z=>by subst z;rw[n] at mu;exact mu
 have hb:∀b,H b=none->b≠e:=λb n z=>by
  subst z;rcases he with r|r
  .exact hx b n r
  .rw[n] at r;cases r
 have hm:∀b u,H b=some u->¬Mut (some u)->b≠x:=λb u q nm z=>by subst z;rw[q] at mu;exact nm mu
 refine⟨λb u q n _ _=>k b u (hb b n) q,λb u q n _ _=> ⟨u.slots,k b u (hb b n) q⟩,λb u q n _=>by rw[ah (hx b n)];exact n,λb u q _=> ?_,
  λb xs q=>by rw[ah (hm b _ q λz=>z)];exact q,λb u xs q=>by rw[ah (hm b _ q λz=>z)];exact q,λb ps q=> ⟨#[],by rw[ah (hm b _ q λz=>z),q];simp⟩⟩
 by_cases hbe:b=e
 .subst hbe;exact zm
 .exact⟨u,k b u hbe q⟩
end
noncomputable def trk(h:Heap)(H:Hp):List Addr:=(List.range h.objs.size).filter λa=>(H a).isSome
noncomputable def uj(h:Heap)(H:Hp):Heap:=PySem.W.hideAll h (trk h H)
theorem D4(h:Heap)(H:Hp):(uj h H).objs.size=h.objs.size:=PySem.W.hideAll_size _ _
theorem EI{h:Heap}{H:Hp}{b:Addr}{o:Obj}(e:h.get? b=some o)(n:H b=none):(uj h H).get? b=some o:=
 PySem.W.hideAll_get _ e λhm=>by
  have q:(H b).isSome=true:=(Gbo.mp hm).2;rw[n] at q;simp at q
theorem HK{h:Heap}{H:Hp}{b:Addr}{o:Obj}(e:(uj h H).get? b=some o):h.get? b=some o/\H b=none:=by
 have e' :h.get? b=some o:=PySem.W.of_hideAll (trk h H) e;refine⟨e', ?_⟩;cases q:H b with
 |none=>rfl
 |some x=>
  have hm:b∈trk h H:=Gbo.mpr ⟨GaZ.mpr (Gax e'),by simp[q]⟩;have z:(uj h H).get? b=none:=PySem.W.hideAll_none (trk h H) hm;rw[z] at e;cases e
noncomputable def HL(g h:Heap)(L:Addr):List (Addr×Obj):=(List.range h.objs.size).filterMap λa=>if a=L\/(g.get? a).isSome=true then none else(h.get? a).map λo=>(a,o)
noncomputable def rest(g h:Heap)(L d:Addr):List (Addr×Obj):=(HL g h L).filter λp=>decide (p.1≠d)
structure Mod(K:PySem.W.Frag)(mg:Str->Option Value)(base:Heap):Prop where
 kin:K.In base
 glob:base.Ns mainGlobals mg
 blt:∃mb,base.Ns builtinsNs mb/\∀x:Str,x≠"__name__"->mb x=bootBuiltins x
 nolimit:base.NoLimit
structure Cx where
 prog:Program
 w:World
 K:PySem.W.Frag
 mg:Str->Option Value
 base:Heap
 A:Around
 N:List Str
 s₀:Shared
 H0:Hp
 env:Env
 outer:List Env
 stack:List Env
 ex:List Addr
 fn:Str->Bool
 calm:Bool
 pn:List (Addr×Obj)
 xe:Value->Shared->Prop
noncomputable def frs(l:List Env):List Addr:=l.filterMap (·.frame)
noncomputable abbrev Cx.fs (X:Cx):List Addr:=frs X.outer
def Vis(sc:Scope)(x:Str):Prop:=sc.names.lookup x=some .local\/sc.names.lookup x=some .cell\/sc.names.lookup x=some .free
def Loc(sc:Scope)(x:Str):Prop:=sc.names.lookup x=some .local\/sc.names.lookup x=some .cell
def Look(env:Env)(h:Heap)(m:Str->Option Value)(x:Str)(u:Value):Prop:=
 (env.kindOf x=some .local/\m x=some u)\/((env.kindOf x=some .cell\/env.kindOf x=some .free)/\∃c,env.cells.lookup x=some c/\h.IsCell c (some u))
structure Cx.Ok(X:Cx):Prop where
 mod:Mod X.K X.mg X.base
 kind:X.env.scope.kind= .function
 glob:X.env.globals=mainGlobals
 blt:X.env.builtins=builtinsNs
 above:X.s₀.heap.objs.size<=X.env.locals
 inj:∀x y c,X.env.cells.lookup x=some c->X.env.cells.lookup y=some c->x=y
 has:∀x,(X.env.kindOf x=some .cell\/X.env.kindOf x=some .free)->∃c,X.env.cells.lookup x=some c
 cab:∀x c,X.fn x=true->X.env.cells.lookup x=some c->X.s₀.heap.objs.size<=c
 hd:X.calm=true->X.A.handled=none
 frames:X.A.frames=some X.stack
 stk:X.stack=X.outer\/(X.stack=X.env::X.outer/\X.env.frame=some X.env.locals)
 exf:∀b∈X.ex,b≠X.env.locals/\∀x c,X.env.cells.lookup x=some c->c≠b
 bs:∀b o,X.base.get? b=some o->X.s₀.heap.get? b=some o/\X.H0 b=none
 bsz:X.base.objs.size<=X.s₀.heap.objs.size
 HI:∀b o,X.base.get? b=some o->b∉X.ex
 HJ:∀b∈X.ex,b∉X.fs
 pP:X.s₀.heap.FunFrames X.base X.outer
 frf:∀b∈X.fs,X.H0 b=none
structure Inv(X:Cx)(ee:List (Addr×Obj))(Z:List (Option V))(H:Hp)(s:Shared):Prop where
 ok:X.Ok
 os:s.os=X.s₀.os
 bare:AllBare s.gens
 base:Un X.fs X.ex X.H0 H X.s₀.heap s.heap
 loc:∃m,s.heap.Ns X.env.locals m/\∀(i:Nat) (x:Str) (v:V),X.N[i]? =some x->Z[i]? =some (some v)->Vis X.env.scope x->∃u,RelV v u/\Look X.env s.heap m x u
 cell:∀x c,X.env.cells.lookup x=some c->∃v,s.heap.IsCell c v
 free:H X.env.locals=none
 jw:∀x c,X.env.cells.lookup x=some c->H c=none
 pin:∀p∈X.pn++ee,s.heap.get? p.1=some p.2/\H p.1=none/\p.1≠X.env.locals/\p.1∉X.fs/\∀v,p.2.data≠ .cell v
 hok:HOk X.prog X.w H s.heap
 len:Z.length=X.N.length
section
variable{X:Cx}{ee:List (Addr×Obj)}{Z:List (Option V)}{H H' :Hp}{s:Shared}{h' :Heap}
theorem Cx.Ok.Pj(ok:X.Ok){b:Addr}{o:Obj}(e:X.base.get? b=some o):b∉X.fs:=λhb=>by
 have:=(ok.pP.mem hb).1;rw[e] at this;cases this
theorem Inv.bs(I:Inv X ee Z H s):∀b o,X.base.get? b=some o->s.heap.get? b=some o/\H b=none:=λb o e=>
 ⟨I.base.keep b o (I.ok.bs b o e).1 (I.ok.bs b o e).2 (I.ok.Pj e) (I.ok.HI b o e),I.base.free b o (I.ok.bs b o e).1 (I.ok.bs b o e).2 (I.ok.HI b o e)⟩
theorem Inv.bk(I:Inv X ee Z H s):∀b o,X.base.get? b=some o->s.heap.get? b=some o:=λb o e=>(I.bs b o e).1
theorem Inv.mod(I:Inv X ee Z H s):Mod X.K X.mg X.base:=I.ok.mod
theorem Inv.kIn(I:Inv X ee Z H s):X.K.In s.heap:=I.ok.mod.kin.keeps I.bk
theorem Inv.lt(I:Inv X ee Z H s):X.env.locals<s.heap.objs.size:=let⟨_,hn,_⟩:=I.loc;hn.lt
theorem Inv.sz(I:Inv X ee Z H s):X.s₀.heap.objs.size<=s.heap.objs.size:=Gbh I.ok.above (GdG I.lt)
theorem Inv.Pk(I:Inv X ee Z H s){a:Addr}(h:s.heap.objs.size<=a):a∉X.fs:=λhb=>by
 obtain⟨_,o,ho,_⟩:=I.ok.pP.mem hb;exact absurd (GaS (Gax ho) (Gbh I.sz h)) (Gbs _)
theorem Inv.cne(I:Inv X ee Z H s):∀x c,X.env.cells.lookup x=some c->c≠X.env.locals:=λx c e z=>by
 obtain⟨v,o,ho,hd⟩:=I.cell x c e;obtain⟨m,⟨o',es,ep,xO,xr,_⟩,_⟩:=I.loc;rw[z,xO] at ho;cases ho;rw[xr] at hd;cases hd
theorem Inv.pP(I:Inv X ee Z H s):s.heap.FunFrames X.base X.outer:=by
 have all:∀(l:List Env),(∀b∈frs l,b∈X.fs)->X.s₀.heap.FunFrames X.base l->s.heap.FunFrames X.base l:=by
  intro l;induction l with
  |nil=>intro _ _;trivial
  |cons env r ih=>
   intro hs hl;obtain⟨hk,⟨L,o,hf,hn,ho,hd⟩,hr⟩:=hl;have hL:L∈X.fs:=hs L (by unfold frs;rw[GcW,hf];exact Gak);obtain⟨sl,e⟩:=I.base.slot L o ho (I.ok.frf L hL) hL λz=>I.ok.HJ L z hL;exact⟨hk,⟨L,_,hf,hn,e,hd⟩,ih (λb hb=>hs b (by unfold frs;rw[GcW,hf];exact Gae _ hb)) hr⟩
 exact all X.outer (λ_ hb=>hb) I.ok.pP
theorem Inv.stack(I:Inv X ee Z H s):s.heap.FunFrames X.base X.stack:=by
 rcases I.ok.stk with e| ⟨e,hf⟩
 .rw[e];exact I.pP
 .rw[e];obtain⟨m,hn,_⟩:=I.loc;refine .cons (by rw[I.ok.kind];decide) hf hn ?_ I.pP;exact Heap.get?_none_of_le (Gbh I.ok.bsz I.ok.above)
theorem Inv.Ax(I:Inv X ee Z H s):∀b∈frs X.stack,b∈X.env.locals::X.fs:=λb hb=>by
 rcases I.ok.stk with e| ⟨e,hf⟩
 .rw[e] at hb;exact Gae _ hb
 .rw[e] at hb;unfold frs at hb;rw[GcW,hf] at hb;exact hb
theorem Inv.BQ(I:Inv X ee Z H s):∀b∈frs X.stack,H b=none:=λb hb=>by
 rcases GaC.mp (I.Ax b hb) with e|hb
 .rw[e];exact I.free
 .obtain⟨_,o,ho,_⟩:=I.ok.pP.mem hb;exact I.base.free b o ho (I.ok.frf b hb) λz=>I.ok.HJ b z hb
theorem Inv.step{g' :Array GenState}{t' :Nat}{d' :Drawn}{ch:List Addr}(I:Inv X ee Z H s)
  (xx:∀b∈ch,(b∈X.ex\/X.s₀.heap.objs.size<=b)/\b≠X.env.locals/\(∀x c,X.env.cells.lookup x=some c->c≠b)/\∀p∈X.pn++ee,p.1≠b)
  (keep:∀b o,b≠X.env.locals->b∉X.fs->b∉ch->s.heap.get? b=some o->H b=none->h'.get? b=some o)
  (slot:∀b o,b≠X.env.locals->b∈X.fs->b∉ch->s.heap.get? b=some o->H b=none->∃sl,h'.get? b=some {o with slots:=sl})(free:∀b o,b∉ch->s.heap.get? b=some o->H b=none->H' b=none)
  (there:∀b o,b∉ch->s.heap.get? b=some o->∃o',h'.get? b=some o')
  (vd:∀b xs,H b=some (.tup xs)->H' b=some (.tup xs))(rZ:∀b o u,H b=some (.frz o u)->H' b=some (.frz o u))(ve:∀b ps,H b=some (.tbl ps)->∃more,H' b=some (.tbl (ps++more)))
  (ns:∀m,s.heap.Ns X.env.locals m->h'.Ns X.env.locals m)(hok:HOk X.prog X.w H' h')(hg:AllBare g'):
  Inv X ee Z H' {s with heap:=h',gens:=g',drawn:=d',toks:=t' }:=by
 have neL:∀b o,X.s₀.heap.get? b=some o->b≠X.env.locals:=λb o e=>GaO (GaS (Gax e) I.ok.above);have neC:∀b o,X.s₀.heap.get? b=some o->b∉X.ex->b∉ch:=λb o e hx hb=>by
  rcases(xx b hb).1 with z|z
  .exact hx z
  .exact absurd (GaS (Gax e) z) (Gbs _)
 have cellK:∀x c,X.env.cells.lookup x=some c->∀v,s.heap.IsCell c v->h'.IsCell c v:=λx c e v ⟨o,ho,hd⟩=>by
  have nch:c∉ch:=λz=>(xx c z).2.2.1 x c e rfl;by_cases hc:c∈X.fs
  .obtain⟨sl,q⟩:=slot c o (I.cne x c e) hc nch ho (I.jw x c e);exact⟨_,q,hd⟩
  .exact⟨o,keep c o (I.cne x c e) hc nch ho (I.jw x c e),hd⟩
 refine⟨I.ok,I.os,hg,⟨λb o e n hb hx=> ?_,λb o e n hb hx=> ?_,λb o e n hx=> ?_,λb o e hx=> ?_,λb xs e=>vd b xs (I.base.vd b xs e),λb o xs e=>rZ b o xs (I.base.rZ b o xs e),λb ps e=> ?_⟩, ?_,λx c e=> ?_, ?_,λx c e=> ?_,λp hp=> ?_,hok,I.len⟩
 .exact keep b o (neL b o e) hb (neC b o e hx) (I.base.keep b o e n hb hx) (I.base.free b o e n hx)
 .obtain⟨sl,e1⟩:=I.base.slot b o e n hb hx;obtain⟨RU,e2⟩:=slot b _ (neL b o e) hb (neC b o e hx) e1 (I.base.free b o e n hx);exact⟨RU,e2⟩
 .obtain⟨o',e1⟩:=I.base.there b o e hx;exact free b o' (neC b o e hx) e1 (I.base.free b o e n hx)
 .obtain⟨o',e1⟩:=I.base.there b o e hx;exact there b o' (neC b o e hx) e1
 .obtain⟨m1,e1⟩:=I.base.ve b ps e;obtain⟨m2,e2⟩:=ve b _ e1;exact⟨m1++m2,by rw[e2,Array.append_assoc]⟩
 .obtain⟨m,hn,hl⟩:=I.loc;refine⟨m,ns m hn,λi x v e1 e2 e3=> ?_⟩;obtain⟨u,r,l⟩:=hl i x v e1 e2 e3;refine⟨u,r, ?_⟩;rcases l with l| ⟨k,c,e,z⟩
  .exact .inl l
  .exact .inr ⟨k,c,e,cellK x c e _ z⟩
 .obtain⟨v,z⟩:=I.cell x c e;exact⟨v,cellK x c e v z⟩
 .obtain⟨m,⟨o,_,_,ho,_⟩,_⟩:=I.loc;exact free _ o (λz=>(xx _ z).2.1 rfl) ho I.free
 .obtain⟨v,o,ho,hd⟩:=I.cell x c e;exact free c o (λz=>(xx c z).2.2.1 x c e rfl) ho (I.jw x c e)
 .obtain⟨e,n,ne,nf,d⟩:=I.pin p hp;have nch:p.1∉ch:=λz=>(xx p.1 z).2.2.2 p hp rfl;exact⟨keep p.1 p.2 ne nf nch e n,free p.1 p.2 nch e n,ne,nf,d⟩
theorem Inv.un{t' :Nat}(I:Inv X ee Z H s)(u:Un X.fs [] H H' s.heap h')(hok:HOk X.prog X.w H' h'):Inv X ee Z H' {s with heap:=h',toks:=t' }:=by
 obtain⟨m,⟨o,es,ep,ho,r⟩,_⟩:=id I.loc;obtain⟨sl,hL⟩:=u.any ho I.free (by simp);exact I.step (g' :=s.gens) (d' :=s.drawn) (ch:=[]) (λ_ z=>nomatch z) (λb o _ hb _ e n=>u.keep b o e n hb (by simp)) (λb o _ hb _ e n=>u.slot b o e n hb (by simp)) (λb o _ e n=>u.free b o e n (by simp)) (λb o _ e=>u.there b o e (by simp)) u.vd u.rZ u.ve (λm' hm=>by
  obtain⟨o',Qr,Qs,xO,r'⟩:=hm;rw[ho] at xO;cases xO
  exact⟨_,Qr,Qs,hL,r'⟩) hok I.bare
theorem Inv.call{g' :Array GenState}{t' :Nat}{d' :Drawn}{ch:List Addr}(I:Inv X ee Z H s)(u:Un (frs X.stack) ch H H' s.heap h')(hok:HOk X.prog X.w H' h')(hg:AllBare g')
  (xx:∀b∈ch,(b∈X.ex\/X.s₀.heap.objs.size<=b)/\b≠X.env.locals/\(∀x c,X.env.cells.lookup x=some c->c≠b)/\∀p∈X.pn++ee,p.1≠b):
  Inv X ee Z H' {s with heap:=h',gens:=g',drawn:=d',toks:=t' }:=by
 obtain⟨m,⟨o,es,ep,ho,r⟩,_⟩:=id I.loc;obtain⟨sl,hL⟩:=u.any ho I.free λz=>(xx _ z).2.1 rfl;exact I.step (ch:=ch) xx (λb o hL hb hc e n=>u.keep b o e n (λz=>(GaC.mp (I.Ax b z)).elim hL hb) hc) (λb o _ _ hc e n=>u.any e n hc) (λb o hc e n=>u.free b o e n hc) (λb o hc e=>u.there b o e hc) u.vd u.rZ u.ve (λm' hm=>by
  obtain⟨o',Qr,Qs,xO,r'⟩:=hm;rw[ho] at xO;cases xO
  exact⟨_,Qr,Qs,hL,r'⟩) hok hg
theorem Inv.turned{t' :Nat}{it:Addr}(I:Inv X ee Z H s)(k:∀b o,b≠it->s.heap.get? b=some o->h'.get? b=some o)(hn:H it=none)(hL:it≠X.env.locals)
  (h1:it∈X.ex\/X.s₀.heap.objs.size<=it)(h2:∀x c,X.env.cells.lookup x=some c->c≠it)(h3:∀p∈X.pn++ee,p.1≠it):Inv X ee Z H {s with heap:=h',toks:=t' }:=by
 have nit:∀b u,H b=some u->b≠it:=λb u e z=>by rw[z,hn] at e;cases e
 refine I.step (g' :=s.gens) (d' :=s.drawn) (ch:=[it]) (λb hb=> ?_) (λb o _ _ hc e _=>k b o (λz=>hc (by simp[z])) e) (λb o _ _ hc e _=> ⟨o.slots,k b o (λz=>hc (by simp[z])) e⟩) (λ_ _ _ _ n=>n)
  (λb o hc e=> ⟨o,k b o (λz=>hc (by simp[z])) e⟩) (λ_ _ e=>e) (λ_ _ _ e=>e) (λb ps e=> ⟨#[],by rw[e];simp⟩) (λm hm=> ?_) (λb u e=> ?_) I.bare
 .have e:b=it:=by simpa using hb
  subst e;exact⟨h1,hL,h2,h3⟩
 .obtain⟨o,es,ep,ho,r⟩:=hm;exact⟨o,es,ep,k _ o (Ne.symm hL) ho,r⟩
 .refine(I.hok b u e).dN (λc v hc q=>k c v ?_ q) (λ_ q=>q) λ_ _ q=>q;rcases hc with z|z
  .rw[z];exact nit b u e
  .exact nit c _ z
theorem Inv.tok(I:Inv X ee Z H s)(t:Nat):Inv X ee Z H {s with toks:=t}:=I.un (h' :=s.heap) (t' :=t) Un.refl I.hok
theorem Inv.kept{t' :Nat}(I:Inv X ee Z H s)(k:∀b u,s.heap.get? b=some u->h'.get? b=some u):Inv X ee Z H {s with heap:=h',toks:=t' }:=I.un (Un.kept k) (I.hok.kept k)
theorem Inv.laid{a:Addr}{o:HO}{t' :Nat}(I:Inv X ee Z H s)(k:∀b u,s.heap.get? b=some u->h'.get? b=some u)(hp:s.heap.objs.size<=a)(new:bQ X.prog X.w (upd H a o) h' a o):
  Inv X ee Z (upd H a o) {s with heap:=h',toks:=t' }:=I.un (Un.laid k hp (I.hok.fresh hp)) (I.hok.laid k hp new)
theorem Inv.write{x e:Addr}{o:HO}{t' :Nat}(I:Inv X ee Z H s)(mu:Mut (H x))(he:e=x\/H e=some (.own x))(k:∀b u,b≠e->s.heap.get? b=some u->h'.get? b=some u)(zm:∃u,h'.get? e=some u)
  (new:bQ X.prog X.w (upd H x o) h' x o):Inv X ee Z (upd H x o) {s with heap:=h',toks:=t' }:=I.un (Un.write mu he k zm) (I.hok.write mu he k zm new)
theorem Inv.BR{xM :List (Addr×Obj)}(I:Inv X ee Z H s)(h:∀p∈xM,s.heap.get? p.1=some p.2/\H p.1=none/\p.1≠X.env.locals/\p.1∉X.fs/\∀v,p.2.data≠ .cell v):Inv X xM Z H s:=
 ⟨I.ok,I.os,I.bare,I.base,I.loc,I.cell,I.free,I.jw,λp hp=>(GaE.mp hp).elim (λz=>I.pin p (GbW _ z)) (h p),I.hok,I.len⟩
theorem vo{N:List Str}(hN:N.Nodup){i j:Nat}{x:Str}(a:N[i]? =some x)(b:N[j]? =some x):i=j:=by
 obtain⟨h1,e1⟩:=Gaj.mp a;obtain⟨h2,e2⟩:=Gaj.mp b;exact(List.getElem_inj hN).mp (e1.trans e2.symm)
theorem sR{M:Model}{A:Around}{E:Value->Shared->Prop}{i:Nat}{x:Str}{v:V}{u:Value}{Q:Unit->Shared->Prop}(I:Inv X ee Z H s)(hN:X.N.Nodup)(hi:X.N[i]? =some x)(hx:Loc X.env.scope x)(r:RelV v u)
  (h:∀s',Inv X ee (Z.set i (some v)) H s' ->(∃a,Heap.SameBut a s.heap s'.heap/\(a=X.env.locals\/X.env.cells.lookup x=some a))->Q () s')(hf:X.fn x=true\/X.env.scope.names.lookup x=some .local:=by first|exact .inl rfl|exact .inr rfl|assumption):wpAny M A (storeName X.env x u) Q E s:=by
 obtain⟨m,hn,hl⟩:=id I.loc;have hcls:(X.env.scope.kind== .class||(X.env.scope.kind== .module&&X.env.locals !=X.env.globals))=false:=by rw[I.ok.kind];rfl
 have hiZ:i<Z.length:=by rw[I.len];exact(Gaj.mp hi).1
 have cne:=I.cne;have tracked:∀{a:Addr} {h' :Heap},(∃o,s.heap.get? a=some o/\H a=none)->Heap.SameBut a s.heap h' ->HOk X.prog X.w H h' :=λ{a h'} ha hs b ob e=>by
  obtain⟨_,_,xw⟩:=ha;refine(I.hok b ob e).dN (λc w' hc q=>(hs.2 c ?_).trans q) (λ_ q=>q) λ_ _ q=>q;rintro rfl;rcases hc with rfl|hc
  .rw[xw] at e;cases e
  .rw[xw] at hc;cases hc
 rcases hx with hk|hk
 .refine wpAny_storeName_local hk hn (λh' h8 hs=> ?_) hcls;obtain⟨oL,_,_,zZ,_⟩:=id hn;refine h _ ⟨I.ok,I.os,I.bare,⟨λb o e n hb hx=> ?_,λb o e n hb hx=> ?_,I.base.free,λb o e hx=> ?_,I.base.vd,I.base.rZ,I.base.ve⟩,⟨_,h8,λj y v' e1 e2 e3=> ?_⟩,λy c e=> ?_,I.free,I.jw,λp hp=> ?_,tracked ⟨oL,zZ,I.free⟩ hs,by simpa using I.len⟩ ⟨_,hs,.inl rfl⟩
  .exact(hs.2 b (GaO (GaS (Gax e) I.ok.above))).trans (I.base.keep b o e n hb hx)
  .obtain⟨sl,e1⟩:=I.base.slot b o e n hb hx;exact⟨sl,(hs.2 b (GaO (GaS (Gax e) I.ok.above))).trans e1⟩
  .obtain⟨o',e1⟩:=I.base.there b o e hx;exact⟨o',(hs.2 b (GaO (GaS (Gax e) I.ok.above))).trans e1⟩
  .by_cases hj:j=i
   .subst hj;rw[hi] at e1;cases e1
    rw[GaT hiZ] at e2;cases e2;exact⟨u,r,.inl ⟨hk,by simp⟩⟩
   .rw[Gad (Ne.symm hj)] at e2;obtain⟨u',r',q⟩:=hl j y v' e1 e2 e3;refine⟨u',r', ?_⟩;rcases q with⟨k,e⟩| ⟨k,c,e,z⟩
    .refine .inl ⟨k, ?_⟩;have:y≠x:=λe=>hj (vo hN e1 (e▸hi));simp[this,e]
    .exact .inr ⟨k,c,e,z.sameBut hs (cne y c e)⟩
  .obtain⟨w',z⟩:=I.cell y c e;exact⟨w',z.sameBut hs (cne y c e)⟩
  .obtain⟨e,n,ne,nf,d⟩:=I.pin p hp;exact⟨(hs.2 p.1 ne).trans e,n,ne,nf,d⟩
 .have hfn:X.fn x=true:=by
   rcases hf with z|z
   .exact z
   .rw[z] at hk;cases hk
  obtain⟨c,hc⟩:=I.ok.has x (.inl hk);obtain⟨w',z⟩:=I.cell x c hc;refine wpAny_storeName_cell I.ok.kind hk hc z (λh' zd hs=> ?_);obtain⟨oc,RF,QL⟩:=id z;refine h {s with heap:=h' } ⟨I.ok,I.os,I.bare,⟨λb o e n hb hx=> ?_,λb o e n hb hx=> ?_,I.base.free,λb o e hx=> ?_,I.base.vd,I.base.rZ,I.base.ve⟩,⟨m,hn.sameBut hs (Ne.symm (cne x c hc)),λj y v' e1 e2 e3=> ?_⟩,λy c' e=> ?_,I.free,I.jw,λp hp=> ?_,tracked ⟨oc,RF,I.jw x c hc⟩ hs,by simpa using I.len⟩ ⟨c,hs,.inr hc⟩
  .exact(hs.2 b (GaO (GaS (Gax e) (I.ok.cab x c hfn hc)))).trans (I.base.keep b o e n hb hx)
  .obtain⟨sl,e1⟩:=I.base.slot b o e n hb hx;exact⟨sl,(hs.2 b (GaO (GaS (Gax e) (I.ok.cab x c hfn hc)))).trans e1⟩
  .obtain⟨o',e1⟩:=I.base.there b o e hx;exact⟨o',(hs.2 b (GaO (GaS (Gax e) (I.ok.cab x c hfn hc)))).trans e1⟩
  .by_cases hj:j=i
   .subst hj;rw[hi] at e1;cases e1
    rw[GaT hiZ] at e2;cases e2;exact⟨u,r,.inr ⟨.inl hk,c,hc,zd⟩⟩
   .rw[Gad (Ne.symm hj)] at e2;obtain⟨u',r',q⟩:=hl j y v' e1 e2 e3;refine⟨u',r', ?_⟩;rcases q with q| ⟨k,c',e,z'⟩
    .exact .inl q
    .refine .inr ⟨k,c',e,z'.sameBut hs ?_⟩;rintro rfl;exact hj (vo hN e1 (I.ok.inj _ _ _ e hc▸hi))
  .by_cases hcc:c' =c
   .subst hcc;exact⟨_,zd⟩
   .obtain⟨w2,z2⟩:=I.cell y c' e;exact⟨w2,z2.sameBut hs hcc⟩
  .obtain⟨e,n,ne,nf,d⟩:=I.pin p hp;refine⟨(hs.2 p.1 ?_).trans e,n,ne,nf,d⟩;intro q;rw[q,RF] at e;have q' :oc=p.2:=Option.some.inj e;exact d w' (by rw[<-q'];exact QL)
theorem vp{M:Model}{A:Around}{E:Value->Shared->Prop}{i:Nat}{x:Str}{v:V}{u:Value}{Q:Unit->Shared->Prop}(I:Inv X ee Z H s)(hN:X.N.Nodup)(hi:X.N[i]? =some x)(hx:Loc X.env.scope x)(r:RelV v u)
  (h:∀s',Inv X ee (Z.set i (some v)) H s' ->Q () s')(hf:X.fn x=true\/X.env.scope.names.lookup x=some .local:=by first|exact .inl rfl|exact .inr rfl|assumption):wpAny M A (storeName X.env x u) Q E s:=
 sR I hN hi hx r (λs' I' _=>h s' I') hf
theorem Inv.K0{s' :Shared}{ch:List Addr}(I:Inv X ee Z H s)(ho:s'.os=s.os)(u:Un (frs X.stack) ch H H' s.heap s'.heap)(hok:HOk X.prog X.w H' s'.heap)(hg:AllBare s'.gens)
  (xx:∀b∈ch,(b∈X.ex\/X.s₀.heap.objs.size<=b)/\b≠X.env.locals/\(∀x c,X.env.cells.lookup x=some c->c≠b)/\∀p∈X.pn++ee,p.1≠b):Inv X ee Z H' s' :=by
 obtain⟨h',g',d',t',o'⟩:=s';have e:o' =s.os:=ho;subst e;exact I.call (g' :=g') (t' :=t') (d' :=d') u hok hg xx
end
abbrev XK:=Value->Option Addr->Hp->Prop
abbrev St:=List (Option V)
abbrev VK:=V->Hp->Prop
abbrev TE:=St->Hp->VK->Prop
abbrev TT:=St->Hp->(Bool->Hp->Prop)->Prop
abbrev TA:=St->Hp->(List V->Hp->Prop)->Prop
structure Ends where
 nx:St->Hp->Prop
 rt:VK
 bk:St->Hp->Prop:=λ_ _=>False
 ct:St->Hp->Prop:=λ_ _=>False
abbrev TS:=Ends->St->Hp->Prop
def EP(X:Cx)(ee:List (Addr×Obj))(Z:St)(Q:VK)(u:Value)(s' :Shared):Prop:=∃v H',Inv X ee Z H' s' /\RelV v u/\Q v H'
def TP(X:Cx)(ee:List (Addr×Obj))(Z:St)(Q:Bool->Hp->Prop)(b:Bool)(s' :Shared):Prop:=∃H',Inv X ee Z H' s' /\Q b H'
def AP(X:Cx)(ee:List (Addr×Obj))(Z:St)(Q:List V->Hp->Prop)(us:List Value)(s' :Shared):Prop:=∃vs H',Inv X ee Z H' s' /\Vals vs us/\Q vs H'
def SP(X:Cx)(ee:List (Addr×Obj))(D:Ends)(f:Flow)(s' :Shared):Prop:=
 match f with
 | .next=>∃Z' H',Inv X ee Z' H' s' /\D.nx Z' H'
 | .brk=>∃Z' H',Inv X ee Z' H' s' /\D.bk Z' H'
 | .cont=>∃Z' H',Inv X ee Z' H' s' /\D.ct Z' H'
 | .ret u=>∃v Z' H',Inv X ee Z' H' s' /\RelV v u/\D.rt v H'
def PE(X:Cx)(e:Expr)(t:TE):Prop:=
 ∀(ee:List (Addr×Obj)) (s:Shared) (Z:St) (H:Hp) (Q:VK),Inv X ee Z H s->t Z H Q->wpAny (model X.prog X.w) X.A (eval e X.env) (EP X ee Z Q) X.xe s
def PT(X:Cx)(e:Expr)(t:TT):Prop:=
 ∀(ee:List (Addr×Obj)) (s:Shared) (Z:St) (H:Hp) (Q:Bool->Hp->Prop),Inv X ee Z H s->t Z H Q->wpAny (model X.prog X.w) X.A (isTrue e X.env (eval e X.env)) (TP X ee Z Q) X.xe s
def PW(X:Cx)(e:Expr)(t:TT):Prop:=
 ∀(whole:Sem Value) (ee:List (Addr×Obj)) (s:Shared) (Z:St) (H:Hp) (Q:Bool->Hp->Prop),Inv X ee Z H s->t Z H Q->wpAny (model X.prog X.w) X.A (isTrue e X.env whole) (TP X ee Z Q) X.xe s
theorem PW.pt{X:Cx}{e:Expr}{t:TT}(h:PW X e t):PT X e t:=h _
def PA(X:Cx)(es:List Expr)(t:TA):Prop:=
 ∀(pos:Pos) (ee:List (Addr×Obj)) (s:Shared) (Z:St) (H:Hp) (Q:List V->Hp->Prop),Inv X ee Z H s->t Z H Q->wpAny (model X.prog X.w) X.A (spliced (backTo pos (starEach es X.env))) (AP X ee Z Q) X.xe s
def PS(X:Cx)(st:Stmt)(t:TS):Prop:=
 ∀(ee:List (Addr×Obj)) (s:Shared) (Z:St) (H:Hp) (D:Ends),Inv X ee Z H s->t D Z H->wpAny (model X.prog X.w) X.A (exec st X.env) (SP X ee D) X.xe s
def PSs(X:Cx)(st:List Stmt)(t:TS):Prop:=
 ∀(ee:List (Addr×Obj)) (s:Shared) (Z:St) (H:Hp) (D:Ends),Inv X ee Z H s->t D Z H->wpAny (model X.prog X.w) X.A (execs st X.env) (SP X ee D) X.xe s
theorem thn{α:Type}{t:Sem α}{Q Q' :α->Shared->Prop}{M:Model}{A:Around}{E:Value->Shared->Prop}{s:Shared}(h:wpAny M A t Q E s)(hQ:∀a s,Q a s->Q' a s):wpAny M A t Q' E s:=GbX h hQ λ_ _ x=>x
section
variable{X:Cx}
def MI(i:Nat):TE:=λZ H Q=>∃v,Z[i]? =some (some v)/\Q v H
def tC(v:V):TE:=λ_ H Q=>Q v H
theorem jY{i:Nat}{x:Str}{pos:Pos}(hN:X.N[i]? =some x)(hv:Vis X.env.scope x)(hd:(x==("__debug__":Str))=false:=by decide)(xn:(x==("__classdict__":Str))=false:=by decide):PE X (.Name x pos) (MI i):=by
 intro ee s Z H Q I h;obtain⟨v,e,h⟩:=h;obtain⟨m,hn,hl⟩:=I.loc;obtain⟨u,r,l⟩:=hl i x v hN e hv;have fin:EP X ee Z Q u s:=⟨v,H,I,r,h⟩
 rcases l with⟨hk,hm⟩| ⟨hk,c,hc,xm⟩
 .exact wpAny_Name (wpAny_loadName_local I.ok.kind hk hn hm fin) hd
 .rcases hk with hk|hk
  .exact wpAny_Name (wpAny_loadName_cell I.ok.kind hk hc xm fin) hd
  .exact wpAny_Name (wpAny_loadName_free I.ok.kind hk hc xm fin xn) hd
theorem EJ{i j pos}:PE X (.Constant (.int i) j pos) (tC (.int i)):=λ_ _ _ H _ I h=>wpAny_Constant_int ⟨.int i,H,I.tok _,⟨_,rfl⟩,h⟩
theorem MJ{b j pos}:PE X (.Constant (.bool b) j pos) (tC (.bl b)):=λ_ _ _ H _ I h=>Constant_bool ⟨.bl b,H,I,rfl,h⟩
theorem Kk{j pos}:PE X (.Constant .none j pos) (tC .non):=λ_ _ _ H _ I h=>Constant_none ⟨.non,H,I,rfl,h⟩
theorem Km{x j pos}:PE X (.Constant (.str x) j pos) (tC (.str x)):=λ_ _ _ H _ I h=>Calls.Constant_str ⟨.str x,H,I.tok _,⟨_,rfl⟩,h⟩
def Gl(X:Cx)(x:Str):Prop:=X.env.kindOf x=some .globalImplicit
theorem HM{E:Value->Shared->Prop}{ee:List (Addr×Obj)}{s:Shared}{Z:St}{H:Hp}{x:Str}{u:Value}{pos:Pos}{Q:Value->Shared->Prop}(I:Inv X ee Z H s)(hg:Gl X x)(hm:X.mg x=some u)(h:Q u s)
  (hd:(x==("__debug__":Str))=false:=by decide):wpAny (model X.prog X.w) X.A (eval (.Name x pos) X.env) Q E s:=
 Calls.Name_function_global I.ok.kind hg (Calls.loadGlobal_global (by rw[I.ok.glob];exact I.mod.glob.keeps I.bk) hm h) hd
theorem lT{E:Value->Shared->Prop}{ee:List (Addr×Obj)}{s:Shared}{Z:St}{H:Hp}{x:Str}{u:Value}{pos:Pos}{Q:Value->Shared->Prop}(I:Inv X ee Z H s)(hg:Gl X x)(hm:X.mg x=none)(hv:bootBuiltins x=some u)(h:Q u s)
  (hn:x≠"__name__":=by decide)(hd:(x==("__debug__":Str))=false:=by decide):wpAny (model X.prog X.w) X.A (eval (.Name x pos) X.env) Q E s:=by
 obtain⟨mb,h1,h2⟩:=I.mod.blt;exact Calls.Name_function_global I.ok.kind hg (Calls.loadGlobal_builtin (by rw[I.ok.glob];exact I.mod.glob.keeps I.bk) hm (by rw[I.ok.blt];exact h1.keeps I.bk) ((h2 x hn).trans hv) h) hd
theorem HP{x:Str}{v:V}{u:Value}{pos:Pos}(hg:Gl X x)(hm:X.mg x=none)(hv:bootBuiltins x=some u)(r:RelV v u)(hn:x≠"__name__":=by decide)(hd:(x==("__debug__":Str))=false:=by decide):PE X (.Name x pos) (tC v):=
 λ_ _ _ H _ I h=>lT I hg hm hv ⟨v,H,I,r,h⟩ hn hd
variable{a b:Expr}{ta tb:TE}{pos:Pos}
def tB(t:TE):TT:=λZ H Q=>t Z H λx H1=>∃c,x= .bl c/\Q c H1
theorem Kn{e:Expr}{t:TE}(h:PE X e t)(he:∀whole,isTrue e X.env whole=(do let v<-whole;standAt e.pos;holding [v] (truthy v)):=by intro _;rfl):PT X e (tB t):=by
 intro ee s Z H Q I hw;refine isTrue_plain (thn (h ee s Z H _ I hw) λv s1 ⟨x,H1,I1,r1,q1⟩=> ?_) (he _);obtain⟨d,rfl,q⟩:=q1;cases r1;exact Gca ⟨H1,I1,q⟩
variable{tA zS :TT}{rest:List Expr}
def Pl(t u:TT):TT:=λZ H Q=>t Z H λc H1=>if c=true then u Z H1 Q else Q false H1
def tOr(t u:TT):TT:=λZ H Q=>t Z H λc H1=>if c=true then Q true H1 else u Z H1 Q
def Pn(t:TT):TT:=λZ H Q=>t Z H λc H1=>Q (!c) H1
theorem HQ(ha:PT X a tA):PW X (.BoolOp .And [a] pos) tA:=by
 intro wh ee s Z H Q I h;refine isTrue_and (thn (ha ee s Z H Q I h) λc s1 e=> ?_);cases c with
 |true=>exact isTrue_and_nil e
 |false=>exact e
theorem Ko(ha:PT X a tA):PW X (.BoolOp .Or [a] pos) tA:=by
 intro wh ee s Z H Q I h;refine isTrue_or (thn (ha ee s Z H Q I h) λc s1 e=> ?_);cases c with
 |false=>exact isTrue_or_nil e
 |true=>exact e
theorem Kp(ha:PT X a tA)(hb:PW X (.BoolOp .And (b::rest) pos) zS):PW X (.BoolOp .And (a::b::rest) pos) (Pl tA zS):=by
 intro wh ee s Z H Q I h;refine isTrue_and (thn (ha ee s Z H _ I h) λc s1 ⟨H1,I1,q1⟩=> ?_);cases c with
 |true=>exact hb wh ee s1 Z H1 Q I1 q1
 |false=>exact⟨H1,I1,q1⟩
theorem MK(ha:PT X a tA)(hb:PW X (.BoolOp .Or (b::rest) pos) zS):PW X (.BoolOp .Or (a::b::rest) pos) (tOr tA zS):=by
 intro wh ee s Z H Q I h;refine isTrue_or (thn (ha ee s Z H _ I h) λc s1 ⟨H1,I1,q1⟩=> ?_);cases c with
 |true=>exact⟨H1,I1,q1⟩
 |false=>exact hb wh ee s1 Z H1 Q I1 q1
theorem Kq(ha:PT X a tA):PT X (.UnaryOp .Not a pos) (Pn tA):=by
 intro ee s Z H Q I h;exact isTrue_not (ha ee s Z H (λc H1=>Q (!c) H1) I h)
def ML(ta tb:TE):TE:=λZ H Q=>ta Z H λx H1=>∃c,x= .bl c/\if c=true then tb Z H1 Q else Q (.bl false) H1
theorem Kr{op}{t:TE}(h:PE X a t):PE X (.BoolOp op [a] pos) t:=λee s Z H Q I hw=>BoolOp_one (h ee s Z H Q I hw)
theorem Ks(ha:PE X a ta)(hb:PE X (.BoolOp .And (b::rest) pos) tb):PE X (.BoolOp .And (a::b::rest) pos) (ML ta tb):=by
 intro ee s Z H Q I h;refine BoolOp_and (thn (ha ee s Z H _ I h) λv s1 ⟨x,H1,I1,r1,q1⟩=> ?_);obtain⟨c,rfl,q1⟩:=q1;cases r1;refine Gca ?_;cases c with
 |true=>exact hb ee s1 Z H1 Q I1 q1
 |false=>exact⟨.bl false,H1,I1,rfl,q1⟩
def tIf(t:TT)(ta tb:TE):TE:=λZ H Q=>t Z H λc H1=>if c=true then ta Z H1 Q else tb Z H1 Q
theorem EK{c:Expr}(hc:PT X c tA)(ha:PE X a ta)(hb:PE X b tb):PE X (.IfExp c a b pos) (tIf tA ta tb):=by
 intro ee s Z H Q I h;refine wpAny_IfExp (thn (hc ee s Z H _ I h) λd s1 ⟨H1,I1,q1⟩=> ?_);cases d with
 |true=>exact ha ee s1 Z H1 Q I1 q1
 |false=>exact hb ee s1 Z H1 Q I1 q1
end
def SqL(K:PySem.W.Frag)(H:Hp)(a:Addr)(xs:List V):Prop:=
 Rd H a (.lst xs)\/
  ∃(o:Obj) (eI:Array Value) (n:Nat),K.lookup a=some o/\o.cls= .type "list"/\o.dict=none/\o.data= .seq eI n/\eI.size<=sizeLine/\Vals xs eI.toList
def SqT(K:PySem.W.Frag)(H:Hp)(a:Addr)(xs:List V):Prop:=
 Rd H a (.tup xs)\/
  ∃(o:Obj) (eI:Array Value) (n:Nat),K.lookup a=some o/\o.cls= .type "tuple"/\o.data= .seq eI n/\eI.size<=sizeLine/\Vals xs eI.toList
noncomputable def Po:Value->Option V
 | .none=>some .non
 | .bool b=>some (.bl b)
 | .int i _=>some (.int i)
 | .str x _=>some (.str x)
 | .bytes b _=>some (.byt b)
 | .float b _=>some (.flt b)
 | .ref a=>some (.ref a)
 | .type n=>some (.ty n)
 |_=>none
theorem RelV.abs{x:V}{u:Value}(r:RelV x u):Po u=some x:=by
 cases x with
 |non=>cases r;rfl
 |bl _=>cases r;rfl
 |int _=>obtain⟨t,rfl⟩:=r;rfl
 |str _=>obtain⟨t,rfl⟩:=r;rfl
 |byt _=>obtain⟨t,rfl⟩:=r;rfl
 |flt _=>obtain⟨t,rfl⟩:=r;rfl
 |ref _=>cases r;rfl
 |ty _=>cases r;rfl
theorem RelV.inj{x y:V}{u:Value}(r:RelV x u)(q:RelV y u):x=y:=Option.some.inj (r.abs.symm.trans q.abs)
theorem Vals.inj:∀{xs ys:List V} {us:List Value},Vals xs us->Vals ys us->xs=ys
 |_,_,_,.nil,.nil=>rfl
 |_,_,_,.cons r t,.cons r' t' =>by rw[r.inj r',Vals.inj t t']
section
variable{X:Cx}{ee:List (Addr×Obj)}{Z:St}{H:Hp}{s:Shared}{a:Addr}{xs ys:List V}
theorem SqT.of{K:PySem.W.Frag}(h:H a=some (.tup xs)):SqT K H a xs:= .inl (.inl h)
theorem Inv.list(I:Inv X ee Z H s)(h:SqL X.K H a xs):∃eI:List Value,Vals xs eI/\PlainL s.heap a eI.toArray/\xs.length<=sizeLine:=by
 rcases h with h| ⟨o,eI,n,hk,hc,hd,hs,hz,r⟩
 .obtain⟨z,eI,n,r,e⟩:=h.ok I.hok;exact⟨eI,r,⟨_,n,e,rfl,rfl,rfl⟩,z⟩
 .refine⟨eI.toList,r,⟨o,n,I.kIn a o hk,hc,hd,by simpa using hs⟩, ?_⟩;have e:=r.length;simp only[GbQ] at e;lia
theorem Inv.tuple(I:Inv X ee Z H s)(h:SqT X.K H a xs):∃eI:List Value,Vals xs eI/\IsTup s.heap a eI.toArray/\xs.length<=sizeLine:=by
 rcases h with h| ⟨o,eI,n,hk,hc,hs,hz,r⟩
 .obtain⟨z,eI,r,p⟩:=h.ok I.hok;exact⟨eI,r,p,z⟩
 .refine⟨eI.toList,r,⟨o,I.kIn a o hk,hc,n,by simpa using hs⟩, ?_⟩;have e:=r.length;simp only[GbQ] at e;lia
theorem Inv.vq(I:Inv X ee Z H s)(h:SqL X.K H a xs)(h' :SqL X.K H a ys):xs=ys:=by
 obtain⟨eI,r,⟨o,n,e,_,_,d⟩,_⟩:=I.list h;obtain⟨its',r',⟨o',n',e',_,_,d'⟩,_⟩:=I.list h';rw[e] at e';cases e'
 rw[d] at d';injection d' with d1 _
 have:eI=its' :=by simpa using congrArg Array.toList d1
 subst this;exact r.inj r'
theorem Inv.sS(I:Inv X ee Z H s)(h:SqT X.K H a xs)(h' :SqT X.K H a ys):xs=ys:=by
 obtain⟨eI,r,⟨o,e,_,n,d⟩,_⟩:=I.tuple h;obtain⟨its',r',⟨o',e',_,n',d'⟩,_⟩:=I.tuple h';rw[e] at e';cases e'
 rw[d] at d';injection d' with d1 _
 have:eI=its' :=by simpa using congrArg Array.toList d1
 subst this;exact r.inj r'
end
noncomputable abbrev Cx.sf (X:Cx) (E:Value->Shared->Prop):Cx:={X with xe:=E}
noncomputable abbrev Cx.nox (X:Cx):Cx:=X.sf λ_ _=>False
theorem Cx.Ok.sf{X:Cx}(ok:X.Ok)(E:Value->Shared->Prop):(X.sf E).Ok:=
 ⟨ok.mod,ok.kind,ok.glob,ok.blt,ok.above,ok.inj,ok.has,ok.cab,ok.hd,ok.frames,ok.stk,ok.exf,ok.bs,ok.bsz,ok.HI,ok.HJ,ok.pP,ok.frf⟩
theorem Cx.Ok.jZ{X:Cx}{E:Value->Shared->Prop}(ok:(X.sf E).Ok):X.Ok:=
 ⟨ok.mod,ok.kind,ok.glob,ok.blt,ok.above,ok.inj,ok.has,ok.cab,ok.hd,ok.frames,ok.stk,ok.exf,ok.bs,ok.bsz,ok.HI,ok.HJ,ok.pP,ok.frf⟩
section
variable{X:Cx}{ee:List (Addr×Obj)}{Z:St}{H:Hp}{s:Shared}{E:Value->Shared->Prop}
theorem Inv.sf(I:Inv X ee Z H s)(E:Value->Shared->Prop):Inv (X.sf E) ee Z H s:=⟨I.ok.sf E,I.os,I.bare,I.base,I.loc,I.cell,I.free,I.jw,I.pin,I.hok,I.len⟩
theorem Inv.jZ(I:Inv (X.sf E) ee Z H s):Inv X ee Z H s:=⟨I.ok.jZ,I.os,I.bare,I.base,I.loc,I.cell,I.free,I.jw,I.pin,I.hok,I.len⟩
theorem SP.jZ{D:Ends}{f:Flow}{s' :Shared}(h:SP (X.sf E) ee D f s'):SP X ee D f s' :=by
 cases f with
 |next=>obtain⟨Z',H',I,q⟩:=h;exact⟨Z',H',I.jZ,q⟩
 |brk=>obtain⟨Z',H',I,q⟩:=h;exact⟨Z',H',I.jZ,q⟩
 |cont=>obtain⟨Z',H',I,q⟩:=h;exact⟨Z',H',I.jZ,q⟩
 |ret u=>obtain⟨v,Z',H',I,r,q⟩:=h;exact⟨v,Z',H',I.jZ,r,q⟩
theorem PSs.nox{st:List Stmt}{t:TS}(h:PSs X.nox st t):PSs X st t:=λee s Z H D I hw=>
 GbX (h ee s Z H D (I.sf _) hw) (λ_ _ q=>q.jZ) λ_ _ z=>False.elim z
end
section
variable{X:Cx}{st:Stmt}{rest:List Stmt}{t u:TS}{e:Expr}{te:TE}{pos:Pos}
def MM:TS:=λD Z H=>D.nx Z H
def Pp(t u:TS):TS:=λD Z H=>t {D with nx:=u D} Z H
theorem HR:PSs X [] MM:=λ_ _ Z H _ I h=>GdH ⟨Z,H,I,h⟩
theorem mJ(h1:PS X st t)(h2:PSs X rest u):PSs X (st::rest) (Pp t u):=by
 intro ee s Z H D I h;refine wpAny_execs_cons (thn (h1 ee s Z H {D with nx:=u D} I h) λf s1 q=> ?_);cases f with
 |next=>
  obtain⟨Z',H',I',q⟩:=q;exact h2 ee s1 Z' H' D I' q
 |ret v=>exact q
 |brk=>exact q
 |cont=>exact q
theorem uk(h1:PS X st t):PSs X [st] t:=by
 intro ee s Z H D I h;refine wpAny_execs_cons (thn (h1 ee s Z H D I h) λf s1 q=> ?_);cases f with
 |next=>exact GdH q
 |ret v=>exact q
 |brk=>exact q
 |cont=>exact q
def Kt:TS:=λD Z H=>D.bk Z H
theorem EM:PS X (.Break pos) Kt:=λ_ _ Z H _ I h=>wpAny_Break ⟨Z,H,I,h⟩
theorem Inv.quiet{ee:List (Addr×Obj)}{Z:St}{H:Hp}{s:Shared}(I:Inv X ee Z H s):interactive X.env=false:=by simp[interactive,I.ok.kind]
def MN(te:TE):TS:=λD Z H=>te Z H λ_ H1=>D.nx Z H1
theorem pF(he:PE X e te)(hs:swapsWith e none pos.line X.env=pure false:=by rfl):PS X (.Expr e pos) (MN te):=by
 intro ee s Z H D I h;exact wpAny_Expr_any (thn (he ee s Z H _ I h) λv s1 ⟨x,H1,I1,r1,q1⟩=> ⟨Z,H1,I1,q1⟩) I.quiet hs
def Pq(te:TE):TS:=λD Z H=>te Z H D.rt
theorem EO(he:PE X e te):PS X (.Return (some e) pos) (Pq te):=by
 intro ee s Z H D I h;exact wpAny_Return_some (thn (he ee s Z H _ I h) λv s1 ⟨x,H1,I1,r1,q1⟩=> ⟨x,Z,H1,I1,r1,q1⟩)
def Pr(c:TT)(t u:TS):TS:=λD Z H=>c Z H λb H1=>if b=true then t D Z H1 else u D Z H1
theorem MO{c:Expr}{a b:List Stmt}{tc:TT}(hc:PT X c tc)(ha:PSs X a t)(hb:PSs X b u):PS X (.If c a b pos) (Pr tc t u):=by
 intro ee s Z H D I h;refine wpAny_If (thn (hc ee s Z H _ I h) λd s1 ⟨H1,I1,q1⟩=> ?_);cases d with
 |true=>exact ha ee s1 Z H1 D I1 q1
 |false=>exact hb ee s1 Z H1 D I1 q1
end
abbrev TG:=V->St->Hp->(St->Hp->Prop)->Prop
abbrev TGs:=List V->St->Hp->(St->Hp->Prop)->Prop
def PG(X:Cx)(target:Expr)(t:TG):Prop:=
 ∀(ee:List (Addr×Obj)) (s:Shared) (Z:St) (H:Hp) (v:V) (u:Value) (Q:St->Hp->Prop),Inv X ee Z H s->RelV v u->t v Z H Q->
  wpAny (model X.prog X.w) X.A (assign target X.env u) (λ_ s' =>∃Z' H',Inv X ee Z' H' s' /\Q Z' H') X.xe s
def PGs(X:Cx)(ts:List Expr)(t:TGs):Prop:=
 ∀(ee:List (Addr×Obj)) (s:Shared) (Z:St) (H:Hp) (vs:List V) (us:List Value) (Q:St->Hp->Prop),Inv X ee Z H s->Vals vs us->t vs Z H Q->
  wpAny (model X.prog X.w) X.A (assignInOrder ((assignEach ts X.env).map (·.2)) us) (λ_ s' =>∃Z' H',Inv X ee Z' H' s' /\Q Z' H') X.xe s
abbrev Pt:=V->V->V->Hp->(Hp->Prop)->Prop
def MP(X:Cx)(t:Pt):Prop:=
 ∀(ee:List (Addr×Obj)) (s:Shared) (Z:St) (H:Hp) (o i v:V) (ov iv u:Value) (Q:Hp->Prop),Inv X ee Z H s->RelV o ov->RelV i iv->RelV v u->t o i v H Q->
  wpAny (model X.prog X.w) X.A (setItem ov iv u) (λ_ s' =>∃H',Inv X ee Z H' s' /\Q H') X.xe s
section
variable{X:Cx}{pos:Pos}
def K1(i:Nat):TG:=λv Z H Q=>Q (Z.set i (some v)) H
theorem BS{i:Nat}{x:Str}(hN:X.N.Nodup)(hi:X.N[i]? =some x)(hx:Loc X.env.scope x)(hf:X.fn x=true\/X.env.scope.names.lookup x=some .local:=by first|exact .inl rfl|exact .inr rfl|assumption):PG X (.Name x pos) (K1 i):=by
 intro ee s Z H v u Q I r h;exact wpAny_assign_Name (vp I hN hi hx r (λs' I' => ⟨_,H,I',h⟩) hf)
def Pu:TGs:=λvs Z H Q=>vs=[]/\Q Z H
def MQ(t:TG)(u:TGs):TGs:=λvs Z H Q=>∃v r,vs=v::r/\t v Z H λZ' H' =>u r Z' H' Q
theorem HS:PGs X [] Pu:=by
 intro ee s Z H vs us Q I r h;obtain⟨e,h⟩:=h;subst e;cases r;exact assignInOrder_nil ⟨Z,H,I,h⟩
theorem ER{e:Expr}{es:List Expr}{t:TG}{u:TGs}(h1:PG X e t)(h2:PGs X es u)
  (hs:(assignEach (e::es) X.env).map (·.2)=assign e X.env::(assignEach es X.env).map (·.2):=by rfl):PGs X (e::es) (MQ t u):=by
 intro ee s Z H vs us Q I r h;obtain⟨v,vr,e1,h⟩:=h;subst e1;cases r with
 |cons r rr=>
  rw[hs];refine assignInOrder_cons (thn (h1 ee s Z H _ _ _ I r h) λ_ s1 ⟨Z1,H1,I1,q1⟩=> ?_);exact h2 ee s1 Z1 H1 _ _ Q I1 rr q1
def Pw(K:PySem.W.Frag)(n:Nat)(t:TGs):TG:=λv Z H Q=>∃a xs,v= .ref a/\SqT K H a xs/\xs.length=n/\t xs Z H Q
theorem Ku{es:List Expr}{k:Nat}{t:TGs}{n:Nat}(hc:X.calm=true)(h:PGs X es t)
  (hn:(assignEach es X.env).length=n:=by rfl)(yh:(assignEach es X.env).findIdx? (·.1)=none:=by rfl):PG X (.Tuple es k pos) (Pw X.K n t):=by
 intro ee s Z H v u Q I r hw;obtain⟨a,xs,e1,hq,hl,hw⟩:=hw;subst e1;cases r;obtain⟨eI,rv,ht,hz⟩:=I.tuple hq;refine assign_Tuple_tuple (I.ok.hd hc) ht (by simp[hn,<-hl,rv.length]) yh λh' hx=> ?_;have I1:Inv X ee Z H {s with heap:=h' }:=I.kept (t' :=s.toks) λb o e=>hx b o (GaO (Gax e)) e;exact h ee _ Z H xs _ Q I1 (by simpa using rv) hw
def Px(te:TE)(g:TG):TS:=λD Z H=>te Z H λx H1=>g x Z H1 D.nx
theorem Ay{i:Nat}{x:Str}{e:Expr}{te:TE}{pos' :Pos}(hN:X.N.Nodup)(hi:X.N[i]? =some x)(hx:Loc X.env.scope x)(he:PE X e te)(hs:swapsWith e (some (.Name x pos')) pos.line X.env=pure false:=by rfl)(hf:X.fn x=true\/X.env.scope.names.lookup x=some .local:=by first|exact .inl rfl|exact .inr rfl|assumption):
  PS X (.Assign [.Name x pos'] e pos) (Px te (K1 i)):=by
 intro ee s Z H D I h;refine wpAny_Assign_Name (thn (he ee s Z H _ I h) λv s1 ⟨y,H1,I1,r1,q1⟩=> ?_) hs;exact vp I1 hN hi hx r1 (λs2 I2=> ⟨_,H1,I2,q1⟩) hf
end
section
variable{X:Cx}{pos:Pos}
def Kv(c:TT)(tb:TS):TS:=λD Z H=>∃W:Nat->St->Hp->Prop,(∃m,W m Z H)/\∀m Z H,W m Z H->
 c Z H λb H1=>if b=true then∃N:St->Hp->Prop,(∀Z' H',N Z' H' ->∃m',m' <m/\W m' Z' H')/\tb {D with nx:=N,ct:=N,bk:=D.nx} Z H1 else D.nx Z H1
theorem ES{c:Expr}{body:List Stmt}{tc:TT}{tb:TS}(hp:PassesOwn (model X.prog X.w) X.A X.env X.xe)(hc:PT X c tc)(hb:PSs X body tb):PS X (.While c body [] pos) (Kv tc tb):=by
 intro ee s Z H D I h;obtain⟨W,⟨m0,w0⟩,turn⟩:=h;refine wpAny_While (codeAny_whileLoop (λn s' =>∃Z' H',Inv X ee Z' H' s' /\W n Z' H') ?_ m0 ⟨Z,H,I,w0⟩);rintro n s1 ⟨Z1,H1,I1,w1⟩;refine Gci hp (thn (hc ee s1 Z1 H1 _ I1 (turn n Z1 H1 w1)) λb s2 ⟨H2,I2,q2⟩=> ?_);cases b with
 |true=>
  obtain⟨N,hN,q2⟩:=q2;rw[Gaf rfl];refine Gci hp (thn (hb ee s2 Z1 H2 _ I2 q2) λf s3 q3=> ?_);cases f with
  |next=>
   obtain⟨Z3,H3,I3,n3⟩:=q3;obtain⟨m',hm,w3⟩:=hN Z3 H3 n3;exact⟨m',hm,Z3,H3,I3,w3⟩
  |cont=>
   obtain⟨Z3,H3,I3,n3⟩:=q3;obtain⟨m',hm,w3⟩:=hN Z3 H3 n3;exact⟨m',hm,Z3,H3,I3,w3⟩
  |brk=>exact q3
  |ret v=>exact q3
 |false=>
  rw[Gag GaH];exact GdH ⟨Z1,H2,I2,q2⟩
end
structure It where
 go:Nat->Hp->Prop
 yld:Nat->Hp->V->Hp->Prop
 stop:Nat->Hp->Prop
def lU(X:Cx)(ee:List (Addr×Obj))(H:Hp)(b:Addr):Prop:=
 H b=none/\b≠X.env.locals/\b∉X.fs/\(b∈X.ex\/X.s₀.heap.objs.size<=b)/\(∀x c,X.env.cells.lookup x=some c->c≠b)/\∀p∈X.pn++ee,p.1≠b
theorem Inv.D5{X:Cx}{ee:List (Addr×Obj)}{Z:St}{H H' :Hp}{s:Shared}{b:Addr}(I:Inv X ee Z H s)(hb:s.heap.objs.size<=b)(hn:H' b=none):lU X ee H' b:=by
 refine⟨hn,Gct (GaS I.lt hb),I.Pk hb,.inr (Gbh I.sz hb),λx c e z=> ?_,λp hp z=> ?_⟩
 .obtain⟨v,q⟩:=I.cell x c e;exact absurd (GaS q.lt (by rw[z];exact hb)) (Gbs _)
 .exact absurd (GaS (Gax (I.pin p hp).1) (by rw[z];exact hb)) (Gbs _)
structure Turn(P:Program)(w:World)(K:PySem.W.Frag)(tg:Expr)(J:It)(fp:List Addr)(it:Addr)(tn:Nat->Heap->Prop):Prop where
 mem:it∈fp
 obj:∀i h,tn i h->∀b∈fp,∃o,h.get? b=some o/\∀v,o.data≠ .cell v
 keep:∀i h h',tn i h->(∀b∈fp,∀o,h.get? b=some o->h'.get? b=some o)->tn i h'
 item:∀(X:Cx),X.prog=P->X.w=w->X.K=K->X.calm=true->∀(i:Nat) (ee:List (Addr×Obj)) (s:Shared) (Z:St) (H:Hp) (E:Value->Shared->Prop),Inv X ee Z H s->(∀b∈fp,lU X ee H b)->tn i s.heap->J.go i H->
  wpAny (model P w) X.A (pyNext (.ref it)) (λr s1=>∃u,r=some u/\
   wpAny (model P w) X.A (letOwnedTupleGo tg (.ref it) u) (λ_ s2=>∃x H',Inv X ee Z H' s2/\RelV x u/\J.yld i H x H' /\tn (i+1) s2.heap/\∀b∈fp,H' b=none) E s1) E s
 done:∀(X:Cx),X.prog=P->X.w=w->X.K=K->X.calm=true->∀(i:Nat) (ee:List (Addr×Obj)) (s:Shared) (Z:St) (H:Hp) (E:Value->Shared->Prop),Inv X ee Z H s->(∀b∈fp,lU X ee H b)->tn i s.heap->J.stop i H->
  wpAny (model P w) X.A (pyNext (.ref it)) (λr s1=>r=none/\Inv X ee Z H s1) E s
 self:∀(A:Around) (i:Nat) (s:Shared) (Q:Value->Shared->Prop) (E:Value->Shared->Prop),tn i s.heap->Q (.ref it) s->wpAny (model P w) A (pyIter (.ref it)) Q E s
abbrev TI:=St->Hp->(It->Hp->Prop)->Prop
def PIE(X:Cx)(ee:List (Addr×Obj))(Z:St)(tg:Expr)(R:It->Hp->Prop)(zA:Value)(s2:Shared):Prop:=
 ∃(it:Addr) (fp:List Addr) (tn:Nat->Heap->Prop) (J:It) (H' :Hp),zA= .ref it/\Inv X ee Z H' s2/\Turn X.prog X.w X.K tg J fp it tn/\tn 0 s2.heap/\(∀b∈fp,lU X ee H' b)/\R J H'
def PI(X:Cx)(tg iter:Expr)(wi:TI):Prop:=
 ∀(ee:List (Addr×Obj)) (s:Shared) (Z:St) (H:Hp) (R:It->Hp->Prop),Inv X ee Z H s->wi Z H R->
  wpAny (model X.prog X.w) X.A (eval iter X.env) (λv s1=>wpAny (model X.prog X.w) X.A (pyIter v) (PIE X ee Z tg R) X.xe s1) X.xe s
theorem ET{M:Model}{A:Around}{E:Value->Shared->Prop}{s:Shared}{tg:Expr}{it:Addr}{u:Value}{o:Obj}{n:String}{vs:Array Value}{Q:Unit->Shared->Prop}(ho:s.heap.get? it=some o)(hc:o.cls= .type n)(hd:o.data= .fields vs)
  (hn:["enumerate","zip","dict_itemiterator","dict_reverseitemiterator","odict_iterator","itertools.zip_longest","itertools.pairwise"].contains n=false)(hQ:Q () s):wpAny M A (letOwnedTupleGo tg (.ref it) u) Q E s:=by
 unfold letOwnedTupleGo;cases tg<;>first
  |exact Gao hQ
  |(cases u<;>first
    |exact Gao hQ
    |(refine Gab (wpAny_load ho ?_)
      rw[hc,hd];show wpAny M A (if(["enumerate","zip","dict_itemiterator","dict_reverseitemiterator","odict_iterator","itertools.zip_longest","itertools.pairwise"].contains n&&vs[0]? ==some (rawInt _))=true then _ else _) Q E s;rw[Gag (by intro h;rw[hn,Bool.false_and] at h;cases h)];exact Gao hQ))
noncomputable def Itl(K:PySem.W.Frag)(a:Addr):It:=
 ⟨λi H=>∃xs x,SqL K H a xs/\xs[i]? =some x,λi H x H' =>H' =H/\∀xs,SqL K H a xs->xs[i]? =some x,λi H=>∃xs,SqL K H a xs/\xs.length<=i⟩
noncomputable def Itt(K:PySem.W.Frag)(a:Addr):It:=
 ⟨λi H=>∃xs x,SqT K H a xs/\xs[i]? =some x,λi H x H' =>H' =H/\∀xs,SqT K H a xs->xs[i]? =some x,λi H=>∃xs,SqT K H a xs/\xs.length<=i⟩
noncomputable def Itr(lo:Int)(n:Nat):It:=⟨λi _=>i<n,λi H x H' =>H' =H/\x= .int (lo+i),λi _=>n<=i⟩
theorem D6{P:Program}{w:World}{K:PySem.W.Frag}{tg:Expr}(a it:Addr):Turn P w K tg (Itl K a) [it] it (λi h=>h.IsListIter it a i) where
 mem:=by simp
 obj:=λi h st b hb=>by
  have e:b=it:=by simpa using hb
  subst e;obtain⟨o,e,c,d⟩:=st;exact⟨o,e,λv z=>by rw[d] at z;cases z⟩
 keep:=λi h h' st k=>st.at λo e=>k it (by simp) o e
 item:=by
  intro X hP hw hK hc i ee s Z H E I hf st hg;subst hP hw hK;obtain⟨xs,x,hq,hx⟩:=hg;obtain⟨eI,rv,p,hz⟩:=I.list hq;obtain⟨u,hu,ru⟩:=rv.get hx;obtain⟨f0,f1,f2,f3,f4,f5⟩:=hf it (by simp);refine wpAny_pyNext_list_item st p.isList (x:=u) (by simpa using hu) λh' xI sb=> ?_;have I1:Inv X ee Z H {s with heap:=h' }:=I.turned (t' :=s.toks) (λb o hb e=>(sb.2 b hb).trans e) f0 f1 f3 f4 f5;obtain⟨o,e,c,d⟩:=id xI;exact⟨u,rfl,ET (s:={s with heap:=h' }) e c d (by decide) ⟨x,H,I1,ru,⟨rfl,λys hy=>by rw[I.vq hy hq];exact hx⟩,xI,λb hb=>(hf b hb).1⟩⟩
 done:=by
  intro X hP hw hK hc i ee s Z H E I hf st hg;subst hP hw hK;obtain⟨xs,hq,hx⟩:=hg;obtain⟨eI,rv,p,hz⟩:=I.list hq;obtain⟨f0,f1,f2,f3,f4,f5⟩:=hf it (by simp);have hl:=rv.length;exact wpAny_pyNext_list_end (I.ok.hd hc) st p.isList (by simp;lia) λh' eb=> ⟨rfl,I.turned (t' :=s.toks) (λb o hb e=>eb b o hb e) f0 f1 f3 f4 f5⟩
 self:=λ_ _ _ _ _ st h=>wpAny_pyIter_listiter st h
theorem Az{P:Program}{w:World}{K:PySem.W.Frag}{tg:Expr}(a it:Addr):Turn P w K tg (Itt K a) [it] it (λi h=>h.IsTupleIter it a i) where
 mem:=by simp
 obj:=λi h st b hb=>by
  have e:b=it:=by simpa using hb
  subst e;obtain⟨o,e,c,d⟩:=st;exact⟨o,e,λv z=>by rw[d] at z;cases z⟩
 keep:=λi h h' st k=>st.at λo e=>k it (by simp) o e
 item:=by
  intro X hP hw hK hc i ee s Z H E I hf st hg;subst hP hw hK;obtain⟨xs,x,hq,hx⟩:=hg;obtain⟨eI,rv,p,hz⟩:=I.tuple hq;obtain⟨u,hu,ru⟩:=rv.get hx;obtain⟨f0,f1,f2,f3,f4,f5⟩:=hf it (by simp);refine wpAny_pyNext_tuple_item st (show s.heap.IsTuple a eI.toArray from p) (x:=u) (by simpa using hu) λh' xI sb=> ?_;have I1:Inv X ee Z H {s with heap:=h' }:=I.turned (t' :=s.toks) (λb o hb e=>(sb.2 b hb).trans e) f0 f1 f3 f4 f5;obtain⟨o,e,c,d⟩:=id xI;exact⟨u,rfl,ET (s:={s with heap:=h' }) e c d (by decide) ⟨x,H,I1,ru,⟨rfl,λys hy=>by rw[I.sS hy hq];exact hx⟩,xI,λb hb=>(hf b hb).1⟩⟩
 done:=by
  intro X hP hw hK hc i ee s Z H E I hf st hg;subst hP hw hK;obtain⟨xs,hq,hx⟩:=hg;obtain⟨eI,rv,p,hz⟩:=I.tuple hq;obtain⟨f0,f1,f2,f3,f4,f5⟩:=hf it (by simp);have hl:=rv.length;exact wpAny_pyNext_tuple_end (I.ok.hd hc) st (show s.heap.IsTuple a eI.toArray from p) (by simp;lia) λh' eb=> ⟨rfl,I.turned (t' :=s.toks) (λb o hb e=>eb b o hb e) f0 f1 f3 f4 f5⟩
 self:=λ_ _ _ _ _ st h=>wpAny_pyIter_tupleiter st h
theorem AA{P:Program}{w:World}{K:PySem.W.Frag}{tg:Expr}(it:Addr)(lo:Int)(n:Nat):Turn P w K tg (Itr lo n) [it] it (λi h=>IsRangeIter h it (lo+(i:Nat)*1) ((n:Int)-(i:Nat)) 1) where
 mem:=by simp
 obj:=λi h st b hb=>by
  have e:b=it:=by simpa using hb
  subst e;exact⟨_,st,λv z=>by
   have z' :Data.fields _=Data.cell v:=z;cases z'⟩
 keep:=λi h h' st k=>k it (by simp) _ st
 item:=by
  intro X hP hw hK hc i ee s Z H E I hf st hg;subst hP hw hK;obtain⟨f0,f1,f2,f3,f4,f5⟩:=hf it (by simp);have W:=Walks.range (prog:=X.prog) (w:=X.w) (I.ok.hd hc) it lo 1 n;refine W.item i s _ _ hg st λv h' tk hv xI kk=> ?_;obtain⟨t,rfl⟩:=hv;have I1:Inv X ee Z H {s with heap:=h',toks:=tk}:=I.turned (λb o hb e=>kk b o (by simpa using hb) e) f0 f1 f3 f4 f5;refine⟨_,rfl,ET (s:={s with heap:=h',toks:=tk}) (n:="range_iterator") xI rfl rfl (by decide) ⟨.int (lo+i),H,I1,⟨t, ?_⟩,⟨rfl,rfl⟩,xI,λb hb=>(hf b hb).1⟩⟩;rw[Int.mul_one]
 done:=by
  intro X hP hw hK hc i ee s Z H E I hf st hg;subst hP hw hK;obtain⟨f0,f1,f2,f3,f4,f5⟩:=hf it (by simp);exact wpAny_pyNext_range_end (I.ok.hd hc) st (by have:n<=i:=hg;lia) λh' eb=> ⟨rfl,I.turned (t' :=s.toks) (λb o hb e=>eb b o hb e) f0 f1 f3 f4 f5⟩
 self:=λ_ _ _ _ _ st h=>wpAny_pyIter_rangeiter st h
section
variable{X:Cx}{tg:Expr}
theorem k5{ee:List (Addr×Obj)}{Z:St}{H:Hp}{s:Shared}{R:It->Hp->Prop}{E:Value->Shared->Prop}{lo hi:Int}{t u v:Tok}{tk:Nat}(I:Inv X ee Z H s)(h1: -(2^62)<=lo)(h2:lo<2^62)(h3: -(2^62)<=hi)(h4:hi<2^62)
  (q:R (Itr lo (hi -lo).toNat) H):wpAny (model X.prog X.w) X.A (pyIter (.ref s.heap.objs.size)) (PIE X ee Z tg R) E {s with heap:=s.heap.push {cls:= .type "range",data:= .fields #[.int lo t,.int hi u,.int 1 v]},toks:=tk}:=by
 refine wpAny_pyIter_range (IsRange.new ..) (small_one h1 h2 h3 h4) ?_;have I1:Inv X ee Z H {s with heap:=s.heap.push {cls:= .type "range",data:= .fields #[.int lo t,.int hi u,.int 1 v]},toks:=tk}:=I.kept λb o e=>Gai _ e;refine⟨(s.heap.push {cls:= .type "range",data:= .fields #[.int lo t,.int hi u,.int 1 v]}).objs.size,[(s.heap.push {cls:= .type "range",data:= .fields #[.int lo t,.int hi u,.int 1 v]}).objs.size],_,_,H,rfl,
  I1.kept (t' :=tk) λb o e=>Gai _ e,AA _ lo (hi -lo).toNat, ?_,λb hb=> ?_,q⟩
 .have e1:lo+((0:Nat):Int)*1=lo:=by simp
  have e2:(((hi -lo).toNat:Nat):Int)-((0:Nat):Int)=Builtin.Range.rangeSize lo hi 1:=by rw[rangeSize_one];split<;>lia
  show IsRangeIter _ _ (lo+((0:Nat):Int)*1) ((((hi -lo).toNat:Nat):Int)-((0:Nat):Int)) 1;rw[e1,e2];exact GaJ _ rfl
 .have e:b=(s.heap.push {cls:= .type "range",data:= .fields #[.int lo t,.int hi u,.int 1 v]}).objs.size:=by simpa using hb
  subst e;exact I1.D5 (Gaq _) (I1.hok.fresh (Gaq _))
def MR(ta:TA):TI:=λZ H R=>ta Z H λvs H1=>∃j:Int,vs=[.int j]/\-(2^62)<=j/\j<2^62/\R (Itr 0 j.toNat) H1
def MS(ta:TA):TI:=λZ H R=>ta Z H λvs H1=>∃i j:Int,vs=[.int i,.int j]/\(-(2^62)<=i/\i<2^62/\-(2^62)<=j/\j<2^62)/\R (Itr i (j -i).toNat) H1
theorem D7{a:Expr}{ta:TA}{p pos:Pos}(hg:Gl X "range")(hm:X.mg "range"=none)(ha:PA X [a] ta)(hs:starEach [a] X.env=[(false,eval a X.env)]:=by rfl):PI X tg (.Call (.Name "range" p) [a] [] pos) (MR ta):=by
 intro ee s Z H R I h;refine Call_ (lT I hg hm boot_range (Gcg (thn (ha pos ee s Z H _ I h) λus s1 ⟨vs,H1,I1,r1,q1⟩=> ?_) hs rfl));obtain⟨j,e,q1,q2,q⟩:=q1;subst e;cases r1 with
 |cons r rr=>
  cases rr;obtain⟨t,rfl⟩:=r;exact call_range_1 (k5 I1 (by lia) (by lia) q1 q2 (by simpa using q))
theorem D8{a b:Expr}{ta:TA}{p pos:Pos}(hg:Gl X "range")(hm:X.mg "range"=none)(ha:PA X [a,b] ta)(hs:starEach [a,b] X.env=[(false,eval a X.env),(false,eval b X.env)]:=by rfl)(eY:starEach [b] X.env=[(false,eval b X.env)]:=by rfl):
  PI X tg (.Call (.Name "range" p) [a,b] [] pos) (MS ta):=by
 intro ee s Z H R I h;refine Call_ (lT I hg hm boot_range (Gcg (thn (ha pos ee s Z H _ I h) λus s1 ⟨vs,H1,I1,r1,q1⟩=> ?_) (by rw[hs,eY]) (by rw[eY];rfl)));obtain⟨i,j,e,⟨q1,q2,q3,q4⟩,q⟩:=q1;subst e;cases r1 with
 |cons r rr=>
  cases rr with
  |cons r' rr=>
   cases rr;obtain⟨t,rfl⟩:=r;obtain⟨t',rfl⟩:=r';exact call_range_2 (k5 I1 q1 q2 q3 q4 q)
def Py(wi:TI)(g:TG)(tb:TS):TS:=λD Z H=>wi Z H λJ H1=>∃W:Nat->Nat->St->Hp->Prop,(∃m,W 0 m Z H1)/\∀i m Z H,W i m Z H->
 (J.stop i H/\D.nx Z H)\/(J.go i H/\∃N:St->Hp->Prop,(∀Z' H',N Z' H' ->∃m',m' <m/\W (i+1) m' Z' H')/\∀x H',J.yld i H x H' ->g x Z H' λZ2 H2=>tb {D with nx:=N,ct:=N,bk:=D.nx} Z2 H2)
noncomputable def pQ(fp:List Addr)(h:Heap):List (Addr×Obj):=fp.filterMap λb=>(h.get? b).map λo=>(b,o)
theorem jx{fp:List Addr}{h:Heap}{b:Addr}{o:Obj}(hb:b∈fp)(e:h.get? b=some o):(b,o)∈pQ fp h:=List.mem_filterMap.mpr ⟨b,hb,by rw[e];rfl⟩
theorem D9{fp:List Addr}{h:Heap}{p:Addr×Obj}(hp:p∈pQ fp h):p.1∈fp/\h.get? p.1=some p.2:=by
 obtain⟨b,hb,e⟩:=List.mem_filterMap.mp hp;cases q:h.get? b with
 |none=>rw[q] at e;cases e
 |some o=>
  rw[q] at e;have e' :(b,o)=p:=Option.some.inj e;subst e';exact⟨hb,q⟩
theorem Inv.pinned{ee:List (Addr×Obj)}{Z:St}{H:Hp}{s:Shared}{fp:List Addr}(I:Inv X ee Z H s)(hf:∀b∈fp,lU X ee H b)(ho:∀b∈fp,∃o,s.heap.get? b=some o/\∀v,o.data≠ .cell v):Inv X (ee++pQ fp s.heap) Z H s:=
 I.BR λp hp=>(GaE.mp hp).elim (λz=>I.pin p (Gbe _ z)) λz=>by
  obtain⟨hb,e⟩:=D9 z;obtain⟨f0,f1,f2,_⟩:=hf p.1 hb;obtain⟨o,e',d⟩:=ho p.1 hb;rw[e] at e';cases e'
  exact⟨e,f0,f1,f2,d⟩
theorem Inv.mK{ee pl:List (Addr×Obj)}{Z:St}{H:Hp}{s:Shared}(I:Inv X (ee++pl) Z H s):Inv X ee Z H s:=I.BR λp hp=>I.pin p (Gbe _ (GbW _ hp))
theorem EU{iter:Expr}{body:List Stmt}{wi:TI}{g:TG}{tb:TS}{pos:Pos}(hp:PassesOwn (model X.prog X.w) X.A X.env X.xe)(hc:X.calm=true)(hi:PI X tg iter wi)(hg:PG X tg g)(hb:PSs X body tb)
  (hs:∀x,foldedSetIterable iter X.env x=pure x:=by intro _;rfl):PS X (.For tg iter body [] pos) (Py wi g tb):=by
 intro ee s Z H D I h;refine wpAny_For (thn (hi ee s Z H _ I h) λv s1 h1=>thn h1 λzA s2 h2=> ?_) hs;obtain⟨it,fp,tn,J,H2,e,I2,T,yO,f2,W,⟨m0,w0⟩,turn⟩:=h2;subst e;have stat:∀{H' :Hp},(∀b∈fp,H' b=none)->∀b∈fp,lU X ee H' b:=λhn b hb=> ⟨hn b hb,(f2 b hb).2⟩;refine codeAny_forLoop_any (λn s' =>∃i Z' H',Inv X ee Z' H' s' /\tn i s'.heap/\(∀b∈fp,H' b=none)/\W i n Z' H') ?_ m0 ⟨0,Z,H2,I2,yO,λb hb=>(f2 b hb).1,w0⟩;rintro n s3 ⟨i,Z3,H3,I3,Rn,RN,w3⟩;rcases turn i n Z3 H3 w3 with⟨stop,qn⟩| ⟨go,N,hN,step⟩
 .refine Gci hp (thn (T.done X rfl rfl rfl hc i ee s3 Z3 H3 X.xe I3 (stat RN) Rn stop) λr s4 ⟨hr,I4⟩=> ?_);subst hr;exact GdH ⟨Z3,H3,I4,qn⟩
 .refine Gci hp (thn (T.item X rfl rfl rfl hc i ee s3 Z3 H3 X.xe I3 (stat RN) Rn go) λr s4 ⟨u,hr,h4⟩=> ?_);subst hr;refine Gci hp (thn h4 λ_ s5 ⟨x,H5,I5,r5,y5,yN,R8⟩=> ?_);have I5' :=I5.pinned (stat R8) (T.obj _ _ yN);refine Gci hp (thn (hg _ s5 Z3 H5 x u _ I5' r5 (step x H5 y5)) λ_ s6 ⟨Z6,H6,I6,q6⟩=> ?_);refine Gci hp (thn (hb _ s6 Z6 H6 _ I6 q6) λf s7 q7=> ?_);have again:∀{Z7:St} {H7:Hp},Inv X (ee++pQ fp s5.heap) Z7 H7 s7->N Z7 H7->∃m,m<n/\∃i Z' H',Inv X ee Z' H' s7/\tn i s7.heap/\(∀b∈fp,H' b=none)/\W i m Z' H' :=λ{Z7 H7} I7 n7=>by
   obtain⟨m',hm,w7⟩:=hN Z7 H7 n7;refine⟨m',hm,i+1,Z7,H7,I7.mK,T.keep _ _ _ yN λb hb o e=>(I7.pin (b,o) (Gbe _ (Gbe _ (jx hb e)))).1,λb hb=> ?_,w7⟩;obtain⟨o,e,d⟩:=T.obj _ _ yN b hb;exact(I7.pin (b,o) (Gbe _ (Gbe _ (jx hb e)))).2.1
  cases f with
  |next=>obtain⟨Z7,H7,I7,n7⟩:=q7;exact again I7 n7
  |cont=>obtain⟨Z7,H7,I7,n7⟩:=q7;exact again I7 n7
  |brk=>obtain⟨Z7,H7,I7,q7⟩:=q7;exact⟨Z7,H7,I7.mK,q7⟩
  |ret v=>obtain⟨x7,Z7,H7,I7,r7,q7⟩:=q7;exact⟨x7,Z7,H7,I7.mK,r7,q7⟩
end
abbrev R2:=V->V->Hp->VK->Prop
def OpR(X:Cx)(f:Value->Value->Sem Value)(r:R2):Prop:=
 ∀(ee:List (Addr×Obj)) (s:Shared) (Z:St) (H:Hp) (x y:V) (v u:Value) (Q:VK),Inv X ee Z H s->RelV x v->RelV y u->r x y H Q->
  wpAny (model X.prog X.w) X.A (f v u) (EP X ee Z Q) X.xe s
def UnR(X:Cx)(f:Value->Sem Value)(r:V->Hp->VK->Prop):Prop:=
 ∀(ee:List (Addr×Obj)) (s:Shared) (Z:St) (H:Hp) (x:V) (v:Value) (Q:VK),Inv X ee Z H s->RelV x v->r x H Q->
  wpAny (model X.prog X.w) X.A (f v) (EP X ee Z Q) X.xe s
def fY(X:Cx)(f:Value)(r:List V->Hp->VK->Prop):Prop:=
 ∀(ee:List (Addr×Obj)) (s:Shared) (Z:St) (H:Hp) (xs:List V) (us:List Value) (Q:VK),Inv X ee Z H s->Vals xs us->r xs H Q->
  wpAny (model X.prog X.w) X.A (call f us) (EP X ee Z Q) X.xe s
def tOp(r:R2)(ta tb:TE):TE:=λZ H Q=>ta Z H λx H1=>tb Z H1 λy H2=>r x y H2 Q
def tUn(r:V->Hp->VK->Prop)(ta:TE):TE:=λZ H Q=>ta Z H λx H1=>r x H1 Q
def rI(C:Int->Int->Prop)(g:Int->Int->V):R2:=λx y H Q=>∃i j,x= .int i/\y= .int j/\C i j/\Q (g i j) H
def rI0(g:Int->Int->V):R2:=λx y H Q=>∃i j,x= .int i/\y= .int j/\Q (g i j) H
def rU(g:Int->V):V->Hp->VK->Prop:=λx H Q=>∃i,x= .int i/\Q (g i) H
section
variable{X:Cx}{a b c:Expr}{ta tb tc:TE}{pos:Pos}
theorem Kw(ha:PE X a ta)(hb:PE X b tb){ee:List (Addr×Obj)}{s:Shared}{Z:St}{H:Hp}{R:V->V->Hp->Prop}(I:Inv X ee Z H s)
  (h:ta Z H λx H1=>tb Z H1 λy H2=>R x y H2){Q:Value->Shared->Prop}{f:Value->Value->Sem Value}
  (hf:∀v u s2 x y H2,Inv X ee Z H2 s2->RelV x v->RelV y u->R x y H2->wpAny (model X.prog X.w) X.A (f v u) Q X.xe s2):
  wpAny (model X.prog X.w) X.A (eval a X.env) (λv s₁=>wpAny (model X.prog X.w) X.A (eval b X.env) (λu s₂=>wpAny (model X.prog X.w) X.A (f v u) Q X.xe s₂) X.xe s₁) X.xe s:=by
 refine thn (ha ee s Z H _ I h) λv s1 ⟨x,H1,I1,r1,q1⟩=> ?_;refine thn (hb ee s1 Z H1 _ I1 q1) λu s2 ⟨y,H2,I2,r2,q2⟩=> ?_;exact hf v u s2 x y H2 I2 r1 r2 q2
theorem MT{op:Operator}{r:R2}(ho:OpR X (binaryOp op) r)(ha:PE X a ta)(hb:PE X b tb):PE X (.BinOp a op b pos) (tOp r ta tb):=by
 intro ee s Z H Q I h;exact wpAny_BinOp (Kw ha hb I h λv u s2 x y H2 I2 rx ry q=>ho ee s2 Z H2 x y v u Q I2 rx ry q)
theorem MU{op:UnaryOp}{r:V->Hp->VK->Prop}(ho:UnR X (unaryOp op) r)(ha:PE X a ta):PE X (.UnaryOp op a pos) (tUn r ta):=by
 intro ee s Z H Q I h;exact UnaryOp_ (thn (ha ee s Z H _ I h) λv s1 ⟨x,H1,I1,r1,q1⟩=>ho ee s1 Z H1 x v Q I1 r1 q1)
theorem opI{f:Value->Value->Sem Value}{C:Int->Int->Prop}{g:Int->Int->Int}
  (rule:∀(i j:Int) (t u:Tok) (s:Shared) (Q:Value->Shared->Prop) (E:Value->Shared->Prop),C i j->Q (.int (g i j) s.toks) {s with toks:=s.toks+1}->wpAny (model X.prog X.w) X.A (f (.int i t) (.int j u)) Q E s):
  OpR X f (rI C λi j=> .int (g i j)):=by
 intro ee s Z H x y v u Q I rx ry h;obtain⟨i,j,rfl,rfl,hc,q⟩:=h;obtain⟨t,rfl⟩:=rx;obtain⟨t',rfl⟩:=ry;exact rule i j t t' s _ _ hc ⟨.int (g i j),H,I.tok _,⟨_,rfl⟩,q⟩
theorem MV{f:Value->Value->Sem Value}{g:Int->Int->Int}
  (rule:∀(i j:Int) (t u:Tok) (s:Shared) (Q:Value->Shared->Prop) (E:Value->Shared->Prop),Q (.int (g i j) s.toks) {s with toks:=s.toks+1}->wpAny (model X.prog X.w) X.A (f (.int i t) (.int j u)) Q E s):
  OpR X f (rI0 λi j=> .int (g i j)):=by
 intro ee s Z H x y v u Q I rx ry h;obtain⟨i,j,rfl,rfl,q⟩:=h;obtain⟨t,rfl⟩:=rx;obtain⟨t',rfl⟩:=ry;exact rule i j t t' s _ _ ⟨.int (g i j),H,I.tok _,⟨_,rfl⟩,q⟩
theorem HU{f:Value->Value->Sem Value}{g:Int->Int->Bool}
  (rule:∀(i j:Int) (t u:Tok) (s:Shared) (Q:Value->Shared->Prop) (E:Value->Shared->Prop),Q (.bool (g i j)) s->wpAny (model X.prog X.w) X.A (f (.int i t) (.int j u)) Q E s):
  OpR X f (rI0 λi j=> .bl (g i j)):=by
 intro ee s Z H x y v u Q I rx ry h;obtain⟨i,j,rfl,rfl,q⟩:=h;obtain⟨t,rfl⟩:=rx;obtain⟨t',rfl⟩:=ry;exact rule i j t t' s _ _ ⟨.bl (g i j),H,I,rfl,q⟩
def MW(i j:Int):Prop:=0<j/\j<1073741824
def MX(i j:Int):Prop:=0<=j/\j<=1000000/\i.natAbs<2^64
def HV(i j:Int):Prop:=(-(2^64)<i/\i<2^64)\/(-(2^64)<j/\j<2^64)
theorem HV.ok{i j:Int}(h:HV i j):IntMulOk i j:=by
 rcases h with⟨h1,h2⟩| ⟨h1,h2⟩
 .exact .of_left (intBits_le_64 h1 h2)
 .exact .of_right (intBits_le_64 h1 h2)
theorem Kx:OpR X (binaryOp .Add) (rI0 λi j=> .int (i+j)):=MV λ_ _ _ _ _ _ _ q=>add_int q
theorem Ky:OpR X (binaryOp .Sub) (rI0 λi j=> .int (i -j)):=MV λ_ _ _ _ _ _ _ q=>sub_int q
theorem Kz:OpR X (binaryOp .Mult) (rI HV λi j=> .int (i*j)):=opI λ_ _ _ _ _ _ _ hc q=>mul_int q hc.ok
theorem HW:OpR X (binaryOp .FloorDiv) (rI MW λi j=> .int (i/j)):=opI λi j _ _ _ _ _ hc q=>by
 have h1:(0:Int)<j:=hc.1;have h2:j<1073741824:=hc.2;exact floordiv_int (by lia) (by rw[Int.fdiv_eq_ediv_of_nonneg i (by lia)];exact q) (.inl (PyProof.noPylong_small (by lia)))
theorem KA:OpR X (binaryOp .Mod) (rI (λ_ j=>0<j) λi j=> .int (i%j)):=opI λi j _ _ _ _ _ hc q=>by
 have h1:(0:Int)<j:=hc;exact mod_int' (by lia) (by rw[Int.fmod_eq_emod_of_nonneg i (by lia)];exact q)
theorem KC:OpR X (binaryOp .Pow) (rI MX λi j=> .int (i^j.toNat)):=opI λ_ _ _ _ _ _ _ hc q=>pow_int_small hc.1 hc.2.1 hc.2.2 q
theorem unI{f:Value->Sem Value}{g:Int->Int}
  (rule:∀(i:Int) (t:Tok) (s:Shared) (Q:Value->Shared->Prop) (E:Value->Shared->Prop),Q (.int (g i) s.toks) {s with toks:=s.toks+1}->wpAny (model X.prog X.w) X.A (f (.int i t)) Q E s):
  UnR X f (rU λi=> .int (g i)):=by
 intro ee s Z H x v Q I rx h;obtain⟨i,rfl,q⟩:=h;obtain⟨t,rfl⟩:=rx;exact rule i t s _ _ ⟨.int (g i),H,I.tok _,⟨_,rfl⟩,q⟩
theorem KD:UnR X (unaryOp .USub) (rU λi=> .int (-i)):=unI λ_ _ _ _ _ q=>neg_int q
end
section
variable{X:Cx}{a b c:Expr}{ta tb tc:TE}{pos:Pos}
theorem EV{ee:List (Addr×Obj)}{Z:St}{H:Hp}{s:Shared}{Q:VK}{k k' :Bool}(I:Inv X ee Z H s)(q:Q (.bl k) H)(e:k=k'):EP X ee Z Q (.bool k') s:=by
 subst e;exact⟨.bl k,H,I,rfl,q⟩
theorem vt:OpR X (compareOp .Lt) (rI0 λi j=> .bl (decide (i<j))):=HU λ_ _ _ _ _ _ _ q=>lt_int q
theorem EW:OpR X (compareOp .LtE) (rI0 λi j=> .bl (decide (i<=j))):=HU λ_ _ _ _ _ _ _ q=>le_int q
theorem EX:OpR X (compareOp .Gt) (rI0 λi j=> .bl (decide (j<i))):=HU λ_ _ _ _ _ _ _ q=>gt_int q
theorem MY:OpR X (compareOp .GtE) (rI0 λi j=> .bl (decide (j<=i))):=HU λ_ _ _ _ _ _ _ q=>ge_int q
theorem AB:OpR X (compareOp .Is) (λx y H Q=>y= .non/\Q (.bl (decide (x= .non))) H):=by
 intro ee s Z H x y v u Q I rx ry h;obtain⟨rfl,q⟩:=h;cases ry;refine is_none_gen (EV I q ?_);cases x<;>first
  |(cases rx;rfl)
  |(obtain⟨t,rfl⟩:=rx;rfl)
theorem BU:OpR X (compareOp .IsNot) (λx y H Q=>y= .non/\Q (.bl (!decide (x= .non))) H):=by
 intro ee s Z H x y v u Q I rx ry h;obtain⟨rfl,q⟩:=h;cases ry;refine isnot_none_gen (EV I q ?_);cases x<;>first
  |(cases rx;rfl)
  |(obtain⟨t,rfl⟩:=rx;rfl)
theorem OpR.or{f:Value->Value->Sem Value}{r r' :R2}(h:OpR X f r)(h' :OpR X f r'):OpR X f (λx y H Q=>r x y H Q\/r' x y H Q):=by
 intro ee s Z H x y v u Q I rx ry q;rcases q with q|q
 .exact h ee s Z H x y v u Q I rx ry q
 .exact h' ee s Z H x y v u Q I rx ry q
theorem jy(b:Expr){op:CmpOp}(h:op≠ .In:=by decide)(h2:op≠ .NotIn:=by decide):behindInMarks op b=false:=by
 have e1:(op==CmpOp.In)=false:=by cases op<;>first|rfl|exact absurd rfl h
 have e2:(op==CmpOp.NotIn)=false:=by cases op<;>first|rfl|exact absurd rfl h2
 cases b<;>simp[behindInMarks,e1,e2]
theorem HX{op:CmpOp}{r:R2}(ho:OpR X (compareOp op) r)(ha:PE X a ta)(hb:PE X b tb)(hm:behindInMarks op b=false):PE X (.Compare a [op] [b] pos) (tOp r ta tb):=by
 intro ee s Z H Q I h;exact wpAny_Compare1 (Kw ha hb I h λv u s2 x y H2 I2 rx ry q=>ho ee s2 Z H2 x y v u Q I2 rx ry q) hm
def K2(t:TE):TT:=λZ H Q=>t Z H λx H' =>∃k,x= .bl k/\Q k H'
theorem HY{op:CmpOp}{r:R2}(ho:OpR X (compareOp op) r)(ha:PE X a ta)(hb:PE X b tb)(hm:behindInMarks op b=false):PT X (.Compare a [op] [b] pos) (K2 (tOp r ta tb)):=by
 intro ee s Z H Q I h;refine wpAny_isTrue_Compare1 (thn (ha ee s Z H _ I h) λv s1 ⟨x,H1,I1,r1,q1⟩=>thn (hb ee s1 Z H1 _ I1 q1) λu s2 ⟨y,H2,I2,r2,q2⟩=>
  thn (ho ee s2 Z H2 x y v u _ I2 r1 r2 q2) λc s3 ⟨z,H3,I3,r3,k,e,q3⟩=> ?_) hm
 subst e;cases r3;exact Gca ⟨H3,I3,q3⟩
def KG(r r' :R2)(ta tb tc:TE):TE:=λZ H Q=>ta Z H λx H1=>tb Z H1 λy H2=>r x y H2 λz H3=>∃k,z= .bl k/\
 (if k=true then tc Z H3 λw' H4=>r' y w' H4 Q else Q (.bl false) H3)
theorem EY{op yR :CmpOp}{r r' :R2}(ho:OpR X (compareOp op) r)(xO :OpR X (compareOp yR) r')(ha:PE X a ta)(hb:PE X b tb)(hc:PE X c tc)
  (hm:lastMarks [op,yR] [b,c]=false:=by with_unfolding_all rfl):PT X (.Compare a [op,yR] [b,c] pos) (K2 (KG r r' ta tb tc)):=by
 intro ee s Z H Q I h;refine isTrue_chain (thn (ha ee s Z H _ I h) λv s1 ⟨x,H1,I1,r1,q1⟩=>test_link (thn (hb ee s1 Z H1 _ I1 q1) λu s2 ⟨y,H2,I2,r2,q2⟩=>
  thn (ho ee s2 Z H2 x y v u _ I2 r1 r2 q2) λd s3 ⟨z,H3,I3,r3,k,e,q3⟩=> ?_)) hm
 subst e;cases r3;refine Gca ?_;cases k with
 |false=>
  obtain⟨k',e',q'⟩:=q3;cases e';exact ite_ff ⟨H3,I3,q'⟩
 |true=>
  refine ite_tt (test_last (thn (hc ee s3 Z H3 _ I3 q3) λw' s4 ⟨z',H4,I4,r4,q4⟩=>thn (xO ee s4 Z H4 y z' u w' _ I4 r2 r4 q4) λd' s5 ⟨z2,H5,I5,r5,k2,e2,q5⟩=> ?_));subst e2;cases r5;exact Gca ⟨H5,I5,q5⟩
theorem pR:(sizeLine:Nat)<2^63:=by rw[GbN];decide
theorem AD:OpR X (binaryOp .Add) (λx y H Q=>∃i j,x= .str i/\y= .str j/\i.length+j.length<=sizeLine/\Q (.str (i++j)) H):=by
 intro ee s Z H x y v u Q I rx ry h;obtain⟨i,j,rfl,rfl,hz,q⟩:=h;obtain⟨t,rfl⟩:=rx;obtain⟨t',rfl⟩:=ry;exact add_str (λt' tk=> ⟨.str (i++j),H,I.tok _,⟨_,rfl⟩,q⟩) hz
theorem vals1{x:V}{us:List Value}(r:Vals [x] us):∃u,us=[u]/\RelV x u:=by
 cases r with
 |cons r1 r2=>cases r2;exact⟨_,rfl,r1⟩
theorem vals2{x y:V}{us:List Value}(r:Vals [x,y] us):∃u w',us=[u,w']/\RelV x u/\RelV y w' :=by
 cases r with
 |cons r1 r2=>
  cases r2 with
  |cons r3 r4=>cases r4;exact⟨_,_,rfl,r1,r3⟩
theorem Dc(hc:X.calm=true):fY X (.builtin "max") (λxs H Q=>∃i j,xs=[.int i,.int j]/\Q (.int (if j>i then j else i)) H):=by
 intro ee s Z H xs us Q I r h;obtain⟨i,j,rfl,q⟩:=h;obtain⟨u,w',rfl,⟨t,rfl⟩,⟨t',rfl⟩⟩:=vals2 r;refine max_two_ints (I.ok.hd hc) λh' tk k=> ⟨_,H,I.kept k, ?_,q⟩;by_cases hj:j>i
 .rw[Gaf hj,Gaf hj];exact⟨_,rfl⟩
 .rw[Gag hj,Gag hj];exact⟨_,rfl⟩
theorem sT(hc:X.calm=true):fY X (.builtin "min") (λxs H Q=>∃i j,xs=[.int i,.int j]/\Q (.int (if j<i then j else i)) H):=by
 intro ee s Z H xs us Q I r h;obtain⟨i,j,rfl,q⟩:=h;obtain⟨u,w',rfl,⟨t,rfl⟩,⟨t',rfl⟩⟩:=vals2 r;refine min_two_ints (I.ok.hd hc) λh' tk k=> ⟨_,H,I.kept k, ?_,q⟩;by_cases hj:j<i
 .rw[Gaf hj,Gaf hj];exact⟨_,rfl⟩
 .rw[Gag hj,Gag hj];exact⟨_,rfl⟩
def MZ(K:PySem.W.Frag)(x:V)(H:Hp)(n:Nat):Prop:=
 match x with
 | .str y=>y.length<=sizeLine/\n=y.length
 | .byt y=>y.size<=sizeLine/\n=y.size
 | .ref p=>(∃xs,SqL K H p xs/\n=xs.length)\/∃xs,SqT K H p xs/\n=xs.length
 |_=>False
theorem pS:fY X (.builtin "len") (λxs H Q=>∃x n,xs=[x]/\MZ X.K x H n/\Q (.int n) H):=by
 intro ee s Z H xs us Q I r h;obtain⟨x,n,rfl,e,q⟩:=h;obtain⟨u,rfl,rx⟩:=vals1 r;have hl:=pR;have hs:sizeLine=16777216:=GbN;cases x with
 |str y=>
  obtain⟨t,rfl⟩:=rx;obtain⟨hy,e'⟩:y.length<=sizeLine/\n=y.length:=e;subst e';exact len_str (by lia) ⟨.int _,H,I.tok _,⟨_,rfl⟩,q⟩
 |byt y=>
  obtain⟨t,rfl⟩:=rx;obtain⟨hy,e'⟩:y.size<=sizeLine/\n=y.size:=e;subst e';exact PySem.W.len_bytes (by lia) ⟨.int _,H,I.tok _,⟨_,rfl⟩,q⟩
 |ref p=>
  cases rx;have e' :(∃xs,SqL X.K H p xs/\n=xs.length)\/∃xs,SqT X.K H p xs/\n=xs.length:=e;rcases e' with⟨xs,hx,e'⟩| ⟨xs,hx,e'⟩
  .subst e';obtain⟨eI,r',pl,hz⟩:=I.list hx;have eO:=r'.length;exact Calls.call_len_list pl.isList (by simp only[Gam];lia) ⟨.int xs.length,H,I.tok _,⟨_,by simp only[Gam];rw[eO]⟩,q⟩
  .subst e';obtain⟨eI,r',pl,hz⟩:=I.tuple hx;have eO:=r'.length;exact len_tuple pl (by simp only[Gam];lia) ⟨.int xs.length,H,I.tok _,⟨_,by simp only[Gam];rw[eO]⟩,q⟩
 |_=>exact(show False from e).elim
end
structure KH(h:Heap)(x dx C:Addr)(mA:Str->Option Value):Prop where
 obj:h.get? x=some (PySem.W.instObj C dx)
 ns:h.Ns1 dx mA
 ne:dx≠x
theorem Dd{h:Heap}{dx:Addr}{mA:Str->Option Value}(n:h.Ns1 dx mA):∃od,h.get? dx=some od/\∀name,PySem.W.lookIn name od=some (mA name):=by
 obtain⟨o,es,ep,ho,hd,hk,_,hm⟩:=n;refine⟨o,ho,λname=> ?_⟩;have e:=hm name;unfold nsFind findBy at e;rw[<-Array.find?_toList] at e;unfold PySem.W.lookIn;rw[hd];dsimp only;split
 .rename_i y q;rw[q] at e;exact congrArg some e
 .rename_i q;rw[q] at e;have a:es.toList.any (·.refKey)=false:=by
   rw[Gdn];intro y hy;obtain⟨z,t,xj⟩:=hk y (Array.mem_toList_iff.mp hy);simp[DictEntry.refKey,xj]
  have a' :¬es.toList.any (·.refKey)=true:=by rw[a];exact GaH
  rw[Gag a'];exact congrArg some e
theorem KH.look{h:Heap}{x dx C:Addr}{mA:Str->Option Value}(I:KH h x dx C mA):∃od,PySem.W.InstAt h x (PySem.W.instObj C dx) C (some od)/\∀name,PySem.W.lookIn name od=some (mA name):=
 let⟨od,ho,hl⟩:=Dd I.ns
 ⟨od,⟨I.obj,rfl,rfl,ho⟩,hl⟩
theorem nR.some_of{v:V}{o:Option Value}(r:nR (some v) o):∃u,o=some u/\RelV v u:=by
 cases o with
 |none=>exact(show False from r).elim
 |some u=>exact⟨u,rfl,r⟩
section
variable{P:Program}{w:World}{H H' :Hp}{h h' :Heap}{a C dx:Addr}{fs Sy :List (Str×V)}
theorem HZ(hok:HOk P w H h)(e:H a=some (.ins C dx fs)):∃mA,KH h a dx C mA/\(∀f,nR (fs.lookup f) (mA f))/\PySem.Within mA (fs.map (·.1))/\fs.length<=1000/\H dx=some (.own a):=by
 obtain⟨d,z,ne,ob,mA,n,r,q⟩:=(show bQ P w H h a (.ins C dx fs) from hok a _ e)
 exact⟨mA,⟨ob,n,ne⟩,r,q,z,d⟩
end
structure Cls(K:PySem.W.Frag)(C:Addr):Prop where
 pg:PySem.W.plainGet K C Str.empty=true
 hd:PySem.W.hasDictIn K C=true
 po:PySem.W.plainOver K C=true
 sa:PySem.W.findIn K (.ref C) "__setattr__"=some (some (.builtin "object.__setattr__"))
theorem Cls.get{K:PySem.W.Frag}{C:Addr}(c:Cls K C)(f:Str):PySem.W.plainGet K C f=true:=c.pg
section
variable{X:Cx}{ee:List (Addr×Obj)}{Z:St}{H:Hp}{s:Shared}{A:Around}{E:Value->Shared->Prop}{Q:Value->Shared->Prop}{c:Value}{b:Bool}
inductive lV(K:PySem.W.Frag)(H:Hp):V->Value->Prop where
 |non:lV K H .non (.type "NoneType")
 |bl (x:Bool):lV K H (.bl x) (.type "bool")
 |int (i:Int):lV K H (.int i) (.type "int")
 |str (x:Str):lV K H (.str x) (.type "str")
 |flt (x:UInt64):lV K H (.flt x) (.type "float")
 |lst {a:Addr} {xs:List V} (e:H a=some (.lst xs)):lV K H (.ref a) (.type "list")
 |frz {a:Addr} {o:Obj} {xs:List V} (e:H a=some (.frz o (.lst xs))):lV K H (.ref a) (.type "list")
 |tup {a:Addr} {xs:List V} (e:H a=some (.tup xs)):lV K H (.ref a) (.type "tuple")
 |dK {a:Addr} {eE:List (Key×V)} (e:H a=some (.dK eE)):lV K H (.ref a) (.type "dict")
 |dT {a:Addr} {eE:List (List Key×V)} (e:H a=some (.dT eE)):lV K H (.ref a) (.type "dict")
 |ins {a C dx:Addr} {fs:List (Str×V)} (e:H a=some (.ins C dx fs)) (cl:Cls K C) (ha:PySem.W.findIn K (.ref C) "__class__"=some (some (.builtin "object.__class__")))
   (hn:PySem.W.specialIn K (.builtin "object.__class__") "__get__"=some (some (.builtin "getset_descriptor.__get__"))) (Rz:PySem.W.takesIn K (.builtin "object.__class__")=some true)
   (hm:PySem.W.mroIn K C (.type "object")=some true):lV K H (.ref a) (.ref C)
theorem De{x:V}{u t:Value}(I:Inv X ee Z H s)(rx:RelV x u)(ty:lV X.K H x t)(e:PySem.W.kitOne X.K t c=some b)(h:∀tk,Q (.bool b) {s with toks:=tk}):
  wpAny (model X.prog X.w) A (call (.builtin "isinstance") [u,c]) Q E s:=by
 cases ty with
 |non=>cases(show u=Value.none from rx);exact Gbv PySem.W.kitx_none I.kIn True.intro e (λz=>nomatch z) h
 |bl y=>cases(show u=Value.bool y from rx);exact Gbv PySem.W.kitx_bool I.kIn True.intro e (λz=>nomatch z) h
 |int i=>obtain⟨t,q⟩:=(show∃t,u=Value.int i t from rx);cases q;exact Gbv PySem.W.kitx_int I.kIn True.intro e (λz=>nomatch z) h
 |str y=>obtain⟨t,q⟩:=(show∃t,u=Value.str y t from rx);cases q;exact Gbv PySem.W.kitx_str I.kIn True.intro e (λz=>nomatch z) h
 |flt y=>obtain⟨t,q⟩:=(show∃t,u=Value.float y t from rx);cases q;exact Gbv PySem.W.kitx_float I.kIn True.intro e (λz=>nomatch z) h
 | @lst a xs ea=>
  cases(show u=Value.ref a from rx);obtain⟨_,_,n,_,h1⟩:=(show bQ X.prog X.w H s.heap a (.lst xs) from I.hok a _ ea)
  exact Gbv PySem.W.kitx_list I.kIn ⟨_,h1,rfl⟩ e (λz=>nomatch z) h
 | @frz a ob xs ea=>
  cases(show u=Value.ref a from rx);obtain⟨_,_,_,n,_,h1⟩:=(show bQ X.prog X.w H s.heap a (.frz ob (.lst xs)) from I.hok a _ ea)
  exact Gbv PySem.W.kitx_list I.kIn ⟨_,h1,rfl⟩ e (λz=>nomatch z) h
 | @tup a xs ea=>
  cases(show u=Value.ref a from rx);obtain⟨_,_,_,p⟩:=(show bQ X.prog X.w H s.heap a (.tup xs) from I.hok a _ ea)
  obtain⟨o,h1,h2,_⟩:=p;exact Gbv PySem.W.kitx_tuple I.kIn ⟨o,h1,h2⟩ e (λz=>nomatch z) h
 | @dK a eE ea=>
  cases(show u=Value.ref a from rx);obtain⟨_,_,vs,_,p⟩:=(show bQ X.prog X.w H s.heap a (.dK eE) from I.hok a _ ea)
  obtain⟨o,es,ep,h1,h2,_⟩:=p;exact Gbv PySem.W.kitx_dict I.kIn ⟨o,h1,h2.1⟩ e (λz=>nomatch z) h
 | @dT a eE ea=>
  cases(show u=Value.ref a from rx);obtain⟨_,_,xs,_,o,es,ep,h1,h2,_⟩:=(show bQ X.prog X.w H s.heap a (.dT eE) from I.hok a _ ea)
  exact Gbv PySem.W.kitx_dict I.kIn ⟨o,h1,h2.1⟩ e (λz=>nomatch z) h
 | @ins a C dx fs ea cl ha hn Rz hm=>
  cases(show u=Value.ref a from rx);obtain⟨mA,O,_⟩:=HZ I.hok ea;obtain⟨od,J,_⟩:=O.look;exact Gbv (PySem.W.kitx_own (cl.get _) cl.hd ha hn Rz hm) I.kIn J e (λz=>nomatch z) h
end
structure gL(k:Nat)(A:Around):Prop where
 hd:A.handled=none
 dp:A.depth+3*k+5<recursionLimit
 un:A.units+16*k+200<cLine
theorem gL.mono{j k:Nat}{A:Around}(r:gL k A)(h:j<=k):gL j A:=⟨r.hd,by have:=r.dp;lia,by have:=r.un;lia⟩
theorem gL.deeper{k:Nat}{A:Around}(r:gL (k+1) A)(env:Env):gL k (A.deeper env):=
 ⟨r.hd,by have:=r.dp;show A.depth+1+3*k+5<_;lia,by have:=r.un;show A.units+3+16*k+200<_;lia⟩
theorem gL.depth{k:Nat}{A:Around}(r:gL k A):A.depth<recursionLimit:=by have:=r.dp;lia
theorem gL.units{k:Nat}{A:Around}(r:gL k A):A.units+64<cLine:=by have:=r.un;lia
def Pz:TA:=λ_ H Q=>Q [] H
def N0(ta:TE)(tr:TA):TA:=λZ H Q=>ta Z H λx H1=>tr Z H1 λxs H2=>Q (x::xs) H2
section
variable{X:Cx}{e:Expr}{es:List Expr}{te:TE}{t:TA}{pos:Pos}
theorem AE:PA X [] Pz:=λ_ _ _ _ H Q I h=>Calls.spliced_nil ⟨[],H,I,.nil,h⟩
theorem um(ha:PE X e te)(hr:PA X es t)(hs:starEach (e::es) X.env=(false,eval e X.env)::starEach es X.env:=by rfl):PA X (e::es) (N0 te t):=by
 intro pos ee s Z H Q I h;rw[hs];show wpAny _ _ (spliced ((false,eval e X.env)::backTo pos (starEach es X.env))) _ _ s;refine GcC (thn (ha ee s Z H _ I h) λu s1 ⟨x,H1,I1,r1,q1⟩=> ?_);exact thn (hr pos ee s1 Z H1 _ I1 q1) λus s2 ⟨xs,H2,I2,r2,q2⟩=> ⟨x::xs,H2,I2,.cons r1 r2,q2⟩
def PB(t:TA):TE:=λZ H Q=>t Z H λxs H1=>xs.length<=sizeLine/\∀p,H1 p=none->Q (.ref p) (upd H1 p (.tup xs))
def PC(t:TA):TE:=λZ H Q=>t Z H λxs H1=>xs.length<=sizeLine/\∀p,H1 p=none->Q (.ref p) (upd H1 p (.lst xs))
theorem KI{x1}(h:PA X es t):PE X (.Tuple es x1 pos) (PB t):=by
 intro ee s Z H Q I hq;refine wpAny_Tuple_spliced (thn (h pos ee s Z H _ I hq) λus s1 ⟨xs,H1,I1,r,z,q⟩=> ⟨by rw[<-r.length];exact z, ?_⟩);have hf:H1 s1.heap.objs.size=none:=I1.hok.fresh (Gaq _);refine⟨.ref s1.heap.objs.size,upd H1 s1.heap.objs.size (.tup xs),I1.laid (t' :=s1.toks) (λb u e=>Gai _ e) (Gaq _) ?_,rfl,q _ hf⟩;exact⟨z,us,r,⟨_,GaJ _ rfl,rfl,_,rfl⟩⟩
theorem EZ(h:PA X es t):PE X (.List es pos) (PC t):=by
 intro ee s Z H Q I hq;refine wpAny_List_spliced (thn (h pos ee s Z H _ I hq) λus s1 ⟨xs,H1,I1,r,z,q⟩=> ⟨by rw[<-r.length];exact z, ?_⟩);have hf:H1 s1.heap.objs.size=none:=I1.hok.fresh (Gaq _);refine⟨.ref s1.heap.objs.size,upd H1 s1.heap.objs.size (.lst xs),I1.laid (t' :=s1.toks) (λb u e=>Gai _ e) (Gaq _) ?_,rfl,q _ hf⟩;exact⟨z,us,0,r,GaJ _ rfl⟩
end
abbrev Sp:=List V->Hp->VK->XK->Prop
abbrev CXT:=List Env->Hp->Shared->XK->Value->Shared->Prop
structure Ia(P:Program)(w:World)(K:PySem.W.Frag)(mg:Str->Option Value)(base:Heap)(A:Around)(outer:List Env)(s:Shared)(H:Hp):Prop where
 frames:A.frames=some outer
 mod:Mod K mg base
 bs:∀b o,base.get? b=some o->s.heap.get? b=some o/\H b=none
 bsz:base.objs.size<=s.heap.objs.size
 pP:s.heap.FunFrames base outer
 frf:∀b∈frs outer,H b=none
 hok:HOk P w H s.heap
 bare:AllBare s.gens
def CE(outer:List Env)(P:Program)(w:World)(H:Hp)(s:Shared)(Q:VK)(u:Value)(s' :Shared):Prop:=
 ∃v H',s'.os=s.os/\AllBare s'.gens/\Un (frs outer) [] H H' s.heap s'.heap/\HOk P w H' s'.heap/\RelV v u/\Q v H'
def CR(CX:CXT)(outer:List Env)(P:Program)(w:World)(H:Hp)(s:Shared)(Q:VK)(E:XK)(r:Result)(s' :Shared):Prop:=
 match r with
 | .ok (.ret u)=>CE outer P w H s Q u s'
 | .ok _=>False
 | .error e=>CX outer H s E e s'
structure mL(P:Program)(w:World)(K:PySem.W.Frag)(mg:Str->Option Value)(base:Heap)(CX:CXT)(k:Nat)(f:Addr)(fd:FuncData)(ps:List Str)(sp:Sp):Prop where
 len:∀vs H Q E,sp vs H Q E->vs.length=ps.length
 run:∀(A:Around) (outer:List Env) (s:Shared) (H:Hp) (args:Args) (us:List Value) (vs:List V) (Q:VK) (E:XK),gL k A->Ia P w K mg base A outer s H->BindsTo s fd args (ps.zip us)->Vals vs us->sp vs H Q E->
  codeAny (model P w) A (.call (.ref f) args) (CR CX outer P w H s Q E) s
section
variable{X:Cx}{ee:List (Addr×Obj)}{Z:St}{H:Hp}{s s' :Shared}
theorem Inv.PD(I:Inv X ee Z H s):Ia X.prog X.w X.K X.mg X.base X.A X.stack s H:=
 ⟨I.ok.frames,I.ok.mod,I.bs,Gbh I.ok.bsz I.sz,I.stack,I.BQ,I.hok,I.bare⟩
theorem Inv.after{Q:VK}{u:Value}(I:Inv X ee Z H s)(h:CE X.stack X.prog X.w H s Q u s'):EP X ee Z Q u s' :=by
 obtain⟨v,H',os,bare,un,hok,r,q⟩:=h;obtain⟨hh,g,d,t,RX⟩:=s';obtain rfl:RX =s.os:=os;exact⟨v,H',I.call (h' :=hh) (g' :=g) (d' :=d) (t' :=t) (ch:=[]) un hok bare (λb z=>absurd z (by simp)),r,q⟩
end
def N5(sp:Sp)(dvs:List V)(E:XK)(t:TA):TE:=λZ H Q=>t Z H λvs H1=>sp (vs++dvs) H1 Q E
def Binds(K:PySem.W.Frag)(fd:FuncData)(ps:List Str)(ds:List Value):Prop:=
 ∀(s:Shared) (us:List Value),K.In s.heap->(us++ds).length=ps.length->BindsTo s fd ⟨us,[]⟩ (ps.zip (us++ds))
theorem Binds.all{K:PySem.W.Frag}{fd:FuncData}{ps:List Str}(h:∀us:List Value,us.length=ps.length->bindArgs fd ⟨us,[]⟩=pure (ps.zip us)):Binds K fd ps []:=λs us _ hl=>by
 rw[GaW] at hl⊢;exact .of_eq (h us hl)
def Passes(CX:CXT)(X:Cx)(E:XK):Prop:=∀(ee:List (Addr×Obj)) (Z:St) (H:Hp) (s:Shared) (e:Value) (s' :Shared),Inv X ee Z H s->CX X.stack H s E e s' ->X.xe e s'
section
variable{X:Cx}{CX:CXT}{k:Nat}{f C:Addr}{fd:FuncData}{ps:List Str}{sp:Sp}{dvs:List V}{ds:List Value}{E:XK}{x m:Str}{p pos apos:Pos}{e o:Expr}{es:List Expr}{ta:TE}{t:TA}
theorem KJ{ee:List (Addr×Obj)}{Z:St}{H:Hp}{s:Shared}{Q:VK}{us:List Value}{vs:List V}(F:mL X.prog X.w X.K X.mg X.base CX k f fd ps sp)(hr:gL k X.A)(hb:Binds X.K fd ps ds)(hd:Vals dvs ds)(hx:Passes CX X E)
  (I:Inv X ee Z H s)(r:Vals vs us)(h:sp (vs++dvs) H Q E):wpAny (model X.prog X.w) X.A (call (.ref f) us) (EP X ee Z Q) X.xe s:=by
 have r2:Vals (vs++dvs) (us++ds):=r.append hd;have hl:(us++ds).length=ps.length:=by rw[<-r2.length];exact F.len _ _ _ _ h
 refine wpAny_call (codeAny_mono (F.run X.A X.stack s H ⟨us,[]⟩ (us++ds) (vs++dvs) Q E hr I.PD (hb s us I.kIn hl) r2 h) λr s' hq=> ?_);cases r with
 |error e=>exact hx ee Z H s e s' I hq
 |ok fl=>
  cases fl with
  |ret u=>exact I.after hq
  |next=>exact False.elim hq
  |brk=>exact False.elim hq
  |cont=>exact False.elim hq
theorem Ib(F:mL X.prog X.w X.K X.mg X.base CX k f fd ps sp)(hr:gL k X.A)(hg:Gl X x)(hm:X.mg x=some (.ref f))(hk:PySem.W.keepIn X.K (.ref f)=true)(hb:Binds X.K fd ps ds)(hd:Vals dvs ds)(hx:Passes CX X E)
  (ha:PA X (e::es) t)(xG:(x==("__debug__":Str))=false:=by decide)(he:starEach (e::es) X.env=(false,eval e X.env)::starEach es X.env:=by rfl)(xF:(backTo pos (starEach es X.env)).any (·.1)=false:=by rfl):
  PE X (.Call (.Name x p) (e::es) [] pos) (N5 sp dvs E t):=by
 intro ee s Z H Q I h;refine Gdb (HM I hg hm ?_ xG);refine PySem.W.callWith_K (h₀:=X.base) I.ok.mod.kin hk (thn (ha pos ee s Z H _ I h) λus s1 ⟨vs,H1,I1,r,q⟩=> ⟨I1.kIn, ?_⟩) he xF;exact KJ F hr hb hd hx I1 r q
end
structure jz(N P:List Str)(sc:Scope):Prop where
 kind:sc.kind= .function
 co:sc.isCoroutine=false
 gen:sc.isGenerator=false
 nd:N.Nodup
 pre:N.take P.length=P
 par:∀x∈P,sc.names.lookup x=some .local\/sc.names.lookup x=some .cell
 Mo:∀y∈sc.names,y.2≠ .free
theorem sU{kindOf:Str->Option NameKind}{x:Str}:∀{binds:List (Str×Value)} {m:Str->Option Value},(∀v,(x,v)∉binds)->bindL kindOf binds m x=m x
 |[],_,_=>rfl
 |(n,v)::r,m,h=>by
  unfold bindL;rw[sU λw hw=>h w (Gae _ hw)];split
  .have:x≠n:=by rintro rfl;exact h v Gak
   simp[this]
  .rfl
theorem sV{kindOf:Str->Option NameKind}{x:Str}:∀{binds:List (Str×Value)} {m:Str->Option Value},(∀v,(x,v)∉binds)->bindC kindOf binds m x=m x
 |[],_,_=>rfl
 |(n,v)::r,m,h=>by
  unfold bindC;rw[sV λw hw=>h w (Gae _ hw)];split
  .rfl
  .have:x≠n:=by rintro rfl;exact h v Gak
   simp[this]
theorem sW{kindOf:Str->Option NameKind}{x:Str}{v:Value}:∀{P:List Str} {vs:List Value} {i:Nat} {m:Str->Option Value},P.Nodup->P[i]? =some x->vs[i]? =some v->kindOf x=some .local->
  bindL kindOf (P.zip vs) m x=some v
 |[],_,_,_,_,h,_,_=>by simp at h
 |_::_,[],_,_,_,_,h,_=>by simp at h
 |p::P,w::vs,0,m,nd,h1,h2,hk=>by
  simp at h1 h2;subst h1;subst h2
  show bindL kindOf ((p,w)::P.zip vs) m p=_;unfold bindL;rw[sU λv hv=>(GbY.mp nd).1 (List.of_mem_zip hv).1,Gaf hk];simp
 |p::P,w::vs,i+1,m,nd,h1,h2,hk=>by
  show bindL kindOf ((p,w)::P.zip vs) m x=_;unfold bindL;exact sW (i:=i) (GbY.mp nd).2 (by simpa using h1) (by simpa using h2) hk
theorem sX{kindOf:Str->Option NameKind}{x:Str}{v:Value}:∀{P:List Str} {vs:List Value} {i:Nat} {m:Str->Option Value},P.Nodup->P[i]? =some x->vs[i]? =some v->kindOf x≠some .local->
  bindC kindOf (P.zip vs) m x=some v
 |[],_,_,_,_,h,_,_=>by simp at h
 |_::_,[],_,_,_,_,h,_=>by simp at h
 |p::P,w::vs,0,m,nd,h1,h2,hk=>by
  simp at h1 h2;subst h1;subst h2
  show bindC kindOf ((p,w)::P.zip vs) m p=_;unfold bindC;rw[sV λv hv=>(GbY.mp nd).1 (List.of_mem_zip hv).1,Gag hk];simp
 |p::P,w::vs,i+1,m,nd,h1,h2,hk=>by
  show bindC kindOf ((p,w)::P.zip vs) m x=_;unfold bindC;exact sX (i:=i) (GbY.mp nd).2 (by simpa using h1) (by simpa using h2) hk
noncomputable def start(N:List Str)(vs:List V):St:=vs.map some++List.replicate (N.length -vs.length) none
noncomputable def vA(CX:CXT)(P:Program)(w:World)(K:PySem.W.Frag)(mg:Str->Option Value)(base:Heap)(N:List Str)(qual:Str)(scope:Scope)(f:Addr)(cd:Value)(A:Around)(outer:List Env)(s:Shared)(H:Hp)(E:XK):Cx where
 prog:=P
 w:=w
 K:=K
 mg:=mg
 base:=base
 A:=A.deeper (envOfC qual scope s.heap.objs.size f cd)
 N:=N
 s₀:=s
 H0:=H
 env:=envOfC qual scope s.heap.objs.size f cd
 outer:=outer
 stack:=envOfC qual scope s.heap.objs.size f cd::outer
 ex:=[]
 calm:=true
 fn:=λ_=>true
 pn:=[]
 xe:=λe s' =>wpAny (model P w) (A.deeper (envOfC qual scope s.heap.objs.size f cd)) (leaving (envOfC qual scope s.heap.objs.size f cd) e) (λ_ zU =>CX outer H s E e zU) (λe' zU =>CX outer H s E e' zU) s'
theorem vB{sc:Scope}{n:Nat}{x:Str}(h:sc.names.lookup x=some .cell):∃c,(cellsFrom n sc.names []).lookup x=some c:=by
 have q:=PySem.W.cellsFrom_some sc.names n [] (.inl h);exact Option.isSome_iff_exists.mp q
theorem Df{CX:CXT}{P:Program}{w:World}{K:PySem.W.Frag}{mg:Str->Option Value}{base:Heap}{N ps:List Str}{qual:Str}{scope:Scope}{f:Addr}{cd:Value}{A:Around}{outer:List Env}{s s1:Shared}{H:Hp}{E:XK}{us:List Value}{vs:List V}
  (S:jz N ps scope)(hd:A.handled=none)(e0:Ia P w K mg base A outer s H)(hl:vs.length=ps.length)(r:Vals vs us)
  (x:InCallC s s.heap.objs.size (bindL (envOfC qual scope s.heap.objs.size f cd).kindOf (ps.zip us) λ_=>none) (cellsFrom (s.heap.objs.size+1) scope.names []) (bindC (envOfC qual scope s.heap.objs.size f cd).kindOf (ps.zip us) λ_=>none) s1):
  Inv (vA CX P w K mg base N qual scope f cd A outer s H E) [] (start N vs) H s1:=by
 have xF:ps.length<=N.length:=by have:=congrArg List.length S.pre;rw[Gce] at this;lia
 obtain⟨h1,tk,rfl,hk⟩:=x.done;have noA:∀b:Addr,b∉(vA CX P w K mg base N qual scope f cd A outer s H E).ex:=λb z=>absurd (show b∈([]:List Addr) from z) (by simp);refine⟨⟨e0.mod,S.kind,rfl,rfl,Gaq _,λy z c h1 h2=> ?_,λy hy=> ?_,λy c _ h=> ?_,λ_=>hd,Around.frames_deeper e0.frames,.inr ⟨rfl,rfl⟩,λb z=>absurd z (noA b),e0.bs,e0.bsz,λb _ _=>noA b,λb z=>absurd z (noA b),e0.pP,e0.frf⟩,
  rfl,e0.bare,Un.kept hk,⟨_,x.toInCall.ns,λi y v h1 h2 h3=> ?_⟩,λy c h=> ⟨_,x.cell y c h⟩,e0.hok.fresh (Gaq _),λy c h=> ?_,λp hp=>absurd (show p∈([]:List (Addr×Obj)) from hp) (by simp),e0.hok.kept hk, ?_⟩
 .exact name_of_addr x.apart (PySem.mem_of_lookup h1) (PySem.mem_of_lookup h2)
 .have hy:scope.names.lookup y=some .cell\/scope.names.lookup y=some .free:=hy;rcases hy with hy|hy
  .exact vB hy
  .exact absurd rfl (S.Mo _ (PySem.mem_of_lookup hy))
 .exact GdG (x.above y c (PySem.mem_of_lookup h))
 .have hi:i<vs.length:=by
   unfold start at h2;by_cases hi:i<vs.length
   .exact hi
   .rw[GaN (by simpa using hi)] at h2;rw[Gcx] at h2;split at h2<;>cases h2
  have ha:vs[i]? =some v:=by
   unfold start at h2;rw[GaU (by simpa using hi),Gah] at h2;cases e:vs[i]? with
   |none=>rw[e] at h2;cases h2
   |some a=>rw[e] at h2;cases h2;rfl
  obtain⟨u,hu,rv⟩:=r.get ha;have hp:ps[i]? =some y:=by
   rw[<-S.pre,GaV (by lia)];exact h1
  have ndP:ps.Nodup:=by rw[<-S.pre];exact S.nd.sublist (List.take_sublist _ _)
  refine⟨u,rv, ?_⟩;rcases S.par y (GaP hp) with k|k
  .exact .inl ⟨k,sW ndP hp hu k⟩
  .obtain⟨c,e⟩:=vB (n:=s.heap.objs.size+1) k;refine .inr ⟨.inl k,c,e, ?_⟩;have q:=x.cell y c e;rw[sX ndP hp hu (by show scope.names.lookup y≠_;rw[k];decide)] at q;exact q
 .exact e0.hok.fresh (GdG (x.above y c (PySem.mem_of_lookup h)))
 .unfold start;show _=N.length;rw[Gan,Gac,GdD];lia
theorem N6{CX:CXT}{P:Program}{w:World}{K:PySem.W.Frag}{mg:Str->Option Value}{base:Heap}{k:Nat}{f:Addr}{name qual:Str}{params:Arguments}{body:List Stmt}{scope:Scope}{dV kV doc pm xb ct oc:Value}{an od:Option Addr}
  {yQ:Array (Option Value)}{N ps:List Str}{sp:Sp}(lk:K.lookup f=some ⟨oc,od,.func (PySem.W.fnOf name qual params body scope dV kV doc pm an xb ct),yQ⟩)(xn:PySem.W.codeIn K xb qual=true)(S:jz N ps scope)
  (len:∀vs H Q E,sp vs H Q E->vs.length=ps.length)
  (xD:∀(A:Around) (outer:List Env) (s:Shared) (H:Hp) (vs:List V) (Q:VK) (E:XK),gL k (A.deeper (envOfC qual scope s.heap.objs.size f xb))->sp vs H Q E->
   ∃t,PSs (vA CX P w K mg base N qual scope f xb A outer s H E) body t/\t {nx:=λ_ H' =>Q .non H',rt:=Q} (start N vs) H):
  mL P w K mg base CX (k+1) f (PySem.W.fnOf name qual params body scope dV kV doc pm an xb ct) ps sp:=by
 refine⟨len,λA outer s H args us vs Q E hr e0 hb r yH=> ?_⟩;have hl:=len _ _ _ _ yH;have KX:K.In s.heap:=e0.mod.kin.keeps λb o e=>(e0.bs b o e).1;have lim:s.heap.NoLimit:=e0.mod.nolimit.keeps λb o e=>(e0.bs b o e).1;have hkind:∀y∈ps.zip us,scope.names.lookup y.1=some .local\/(scope.names.lookup y.1=some .cell/\((cellsFrom (s.heap.objs.size+1) scope.names []).lookup y.1).isSome=true):=λ⟨n,v⟩ hy=>by
  rcases S.par n (List.of_mem_zip hy).1 with q|q
  .exact .inl q
  .exact .inr ⟨q,PySem.W.cellsFrom_some _ _ _ (.inl q)⟩
 refine codeAny_call_function hr.depth (KX _ _ lk) rfl S.co S.gen rfl (PySem.W.codeRec_of KX xn) (hb _ _ _ _ ?_);refine wpAny_newFunctionEnv_cells S.kind hkind λenv he s1 x=> ?_;subst he;refine⟨lim.keeps x.toInCall.keep,codeAny_func ?_⟩;obtain⟨t,ht,hq⟩:=xD A outer s H vs Q E (hr.deeper _) yH;have I:Inv (vA CX P w K mg base N qual scope f xb A outer s H E) [] (start N vs) H s1:=Df S hr.hd e0 hl r x;refine GbX (ht [] s1 (start N vs) H _ I hq) (λfl s' hs=> ?_) λe s' hs=>hs;have fin:∀{Z' :St} {H' :Hp} {v:V} {u:Value},Inv (vA CX P w K mg base N qual scope f xb A outer s H E) [] Z' H' s' ->RelV v u->Q v H' ->CE outer P w H s Q u s' :=
  λ{Z' H' v u} J rv q=> ⟨v,H',J.os,J.bare,J.base,J.hok,rv,q⟩
 cases fl with
 |ret u=>
  obtain⟨v,Z',H',J,rv,q⟩:=hs;exact fin J rv q
 |next=>
  obtain⟨Z',H',J,q⟩:=hs;exact fin (v:=V.non) (u:=Value.none) J rfl q
 |brk=>
  obtain⟨_,_,_,q⟩:=hs;exact False.elim q
 |cont=>
  obtain⟨_,_,_,q⟩:=hs;exact False.elim q
section
variable{X:Cx}{x:Str}{p pos:Pos}{e:Expr}{es:List Expr}{t:TA}{id T:String}{r:List V->Hp->VK->Prop}
def tCB(r:List V->Hp->VK->Prop)(t:TA):TE:=λZ H Q=>t Z H λvs H1=>r vs H1 Q
theorem vC(hc:fY X (.builtin id) r)(hg:Gl X x)(hm:X.mg x=none)(hv:bootBuiltins x=some (.builtin id))(ha:PA X (e::es) t)(hn:x≠"__name__":=by decide)(xG:(x==("__debug__":Str))=false:=by decide)
  (he:starEach (e::es) X.env=(false,eval e X.env)::starEach es X.env:=by rfl)(xF:(backTo pos (starEach es X.env)).any (·.1)=false:=by rfl):PE X (.Call (.Name x p) (e::es) [] pos) (tCB r t):=by
 intro ee s Z H Q I h;refine Gdb (lT I hg hm hv ?_ hn xG);exact PyProof.Rows.callWith_builtin1 (thn (ha pos ee s Z H _ I h) λus s1 ⟨vs,H1,I1,r1,q1⟩=>hc ee s1 Z H1 vs us Q I1 r1 q1) he xF
theorem Dg(hc:fY X (.type T) r)(hg:Gl X x)(hm:X.mg x=none)(hv:bootBuiltins x=some (.type T))(ha:PA X (e::es) t)(hn:x≠"__name__":=by decide)(xG:(x==("__debug__":Str))=false:=by decide)
  (he:starEach (e::es) X.env=(false,eval e X.env)::starEach es X.env:=by rfl)(xF:(backTo pos (starEach es X.env)).any (·.1)=false:=by rfl):PE X (.Call (.Name x p) (e::es) [] pos) (tCB r t):=by
 intro ee s Z H Q I h;refine Gdb (lT I hg hm hv ?_ hn xG);exact Gcg (thn (ha pos ee s Z H _ I h) λus s1 ⟨vs,H1,I1,r1,q1⟩=>hc ee s1 Z H1 vs us Q I1 r1 q1) he xF
end
end L2
namespace HT
open PySem PyProof.Rows
section
open PySem.SeqAt
open PySem.AutoSeq1 (wpAny_loadPart')
open PySem.MeetsSeq PySem.MeetsSeq2 PySem.MeetsSeq3
end
section
variable{prog:Program}{w:World}{A:Around}{E:Value->Shared->Prop}{s:Shared}
theorem Ic{t b:Addr}{vs ws:List Value}{Q:Value->Shared->Prop}(ht:IsTup s.heap t vs.toArray)(hb:IsTup s.heap b ws.toArray)(hv:vs≠[])
  (h1:ws=[]->Q (.ref t) s)(h2:ws≠[]->Q (.ref s.heap.objs.size) {s with heap:=s.heap.push {cls:= .type "tuple",data:= .seq (vs++ws).toArray}})
  (hsz:vs.length+ws.length<=sizeLine):wpAny (model prog w) A (binaryOp .Add (.ref t) (.ref b)) Q E s:=by
 obtain⟨⟨cls,dd,data,sl⟩,ho,hc,n,hd⟩:=id ht;obtain⟨⟨Rf,Qu,data2,zT⟩,za,zq,n2,hd2⟩:=id hb;simp only at hc hd zq hd2;subst hc hd zq hd2;have e:vs.toArray++ws.toArray=(vs++ws).toArray:=by simp
 by_cases hw:ws=[]
 .exact concat_meets ⟨_,ho,rfl⟩ ⟨_,za,rfl⟩ noFill_tuple_add seq_tuple_add Gds Gdk (Gdc _ _)
   (tuple_addW1 t b vs.toArray ws.toArray n n2 dd Qu sl zT (by simpa using hv) (by simp[hw])) ⟨ho,za,h1 hw⟩
 .refine concat_meets ⟨_,ho,rfl⟩ ⟨_,za,rfl⟩ noFill_tuple_add seq_tuple_add Gds Gdk (Gdc _ _)
   (tuple_addW2 t b vs.toArray ws.toArray n n2 dd Qu sl zT (by simpa using hv) (by simpa using hw) (by rw[Gam,Gam];exact hsz)) ⟨ho,za, ?_⟩
  rw[e];exact h2 hw
noncomputable def sIx(n d:Nat):Option Int->Nat
 |none=>d
 |some v=>if v<0 then(v+(n:Int)).toNat else min v.toNat n
theorem KN(n d:Nat)(hd:d<=n)(o:Option Int):sIx n d o<=n:=by
 cases o with
 |none=>exact hd
 |some v=>
  show(if v<0 then(v+(n:Int)).toNat else min v.toNat n)<=n;by_cases hv:v<0
  .rw[Gaf hv];lia
  .rw[Gag hv];exact Nat.min_le_right _ _
theorem BV(v:Int)(n d:Nat):(if v<0 then max (v+(n:Int)) 0 else min v (n:Int))=((sIx n d (some v):Nat):Int):=by
 show(if v<0 then max (v+(n:Int)) 0 else min v (n:Int))=(((if v<0 then(v+(n:Int)).toNat else min v.toNat n):Nat):Int);by_cases hv:v<0
 .simp only[Gaf hv];lia
 .simp only[Gag hv];lia
theorem AF(lo hi:Option Int)(n:Nat):Builtin.Slice.sliceAdjust lo hi 1 (n:Int)=(((sIx n 0 lo:Nat):Int),((sIx n n hi:Nat):Int)):=by
 have h1:¬((1:Int)<0):=by lia
 unfold Builtin.Slice.sliceAdjust;simp only[h1,Gbj];refine Prod.ext ?_ ?_
 .cases lo with
  |none=>rfl
  |some v=>exact BV v n 0
 .cases hi with
  |none=>rfl
  |some v=>exact BV v n n
theorem AG(i j:Nat):Builtin.Slice.slicePlaces (i:Int) (j:Int) 1=j -i:=by
 unfold Builtin.Slice.slicePlaces;have h1:(1:Int)>0:=by lia
 simp only[h1,Gbx,Int.ediv_one];split<;>lia
theorem gM{v:Value}{o:Option Int}{Q:Option Int->Shared->Prop}(p:IsPart v o)(h:Q o s):wpAny (model prog w) A (Builtin.Slice.slicePartIndex v) Q E s:=by
 cases p with
 |none=>exact slicePart_none h
 |int i t=>exact slicePart_int h
theorem j8{sl:Addr}{vl vu:Value}{lo hi:Option Int}{n:Nat}{Q:Int×Int×Nat->Shared->Prop}(hs:s.heap.IsSliceOf sl vl vu .none)(pl:IsPart vl lo)(pu:IsPart vu hi)
  (h:Q (((sIx n 0 lo:Nat):Int),1,sIx n n hi -sIx n 0 lo) s):wpAny (model prog w) A (Builtin.Slice.sliceApplied (.ref sl) (pure (n:Int))) Q E s:=by
 obtain⟨os,yi,QX,xk⟩:=id hs;unfold Builtin.Slice.sliceApplied Builtin.Slice.sliceFields;refine Gab (Gab (GcV yi xk (x:=vl) rfl (Gab (GcV yi xk (x:=vu) rfl (Gab (GcV yi xk (x:= .none) rfl (Gao ?_)))))));refine Gab (slicePart_none ?_);show wpAny _ _ (if((1:Int)==0)=true then _ else _) _ _ s;rw[Gag (by decide)];refine Gab (gM pl (Gab (gM pu (Gab (Gao ?_)))));show wpAny _ _ (match Builtin.Slice.sliceAdjust lo hi 1 (n:Int) with|(lo,hi)=>pure (lo,(1:Int),Builtin.Slice.slicePlaces lo hi 1)) _ _ s;rw[AF lo hi n];show wpAny _ _ (pure (((sIx n 0 lo:Nat):Int),(1:Int),Builtin.Slice.slicePlaces ((sIx n 0 lo:Nat):Int) ((sIx n n hi:Nat):Int) 1)) _ _ s;rw[AG];exact Gao h
theorem vD(xs:Array Value)(i k:Nat):((List.range k).filterMap λ(m:Nat)=>xs[((i:Int)+(m:Int)*1).toNat]?).toArray=((xs.toList.drop i).take k).toArray:=by
 have e:(λ(m:Nat)=>xs[((i:Int)+(m:Int)*1).toNat]?)=λm=>xs[i+m]? :=by
  funext m
  have:((i:Int)+(m:Int)*1).toNat=i+m:=by lia
  rw[this]
 rw[e];have:=pick_run xs i k;rw[List.filterMap_map] at this;have e2:((λx=>xs[x]?)∘λx=>i+x)=λm=>xs[i+m]? :=rfl;rw[e2] at this;rw[this]
theorem mM{t sl:Addr}{items:Array Value}{vl vu:Value}{lo hi:Option Int}{Q:Value->Shared->Prop}(ht:IsTup s.heap t items)(hs:s.heap.IsSliceOf sl vl vu .none)(pl:IsPart vl lo)(pu:IsPart vu hi)
  (hw:¬(sIx items.size 0 lo=0/\sIx items.size items.size hi=items.size))
  (h:Q (.ref s.heap.objs.size) {s with heap:=s.heap.push {cls:= .type "tuple",data:= .seq ((items.toList.drop (sIx items.size 0 lo)).take (sIx items.size items.size hi -sIx items.size 0 lo)).toArray}})
  (hsz:items.size<=sizeLine):wpAny (model prog w) A (getItem (.ref t) (.ref sl)) Q E s:=by
 have htake:sizeOk (.seq ((items.toList.drop (sIx items.size 0 lo)).take (sIx items.size items.size hi -sIx items.size 0 lo)).toArray):=by
  show((items.toList.drop (sIx items.size 0 lo)).take (sIx items.size items.size hi -sIx items.size 0 lo)).toArray.size<=sizeLine;rw[Gam,Gce,GbJ,GbQ];lia
 have hj:sIx items.size items.size hi<=items.size:=KN _ _ (Gaq _) hi;obtain⟨os,yi,QX,xk⟩:=id hs;have hTs:s.TypeIs (.ref sl) "slice":=⟨os,yi,QX⟩
 unfold getItem
 try with_reducible refine GcA ?_
 first|refine Gab (Gao ?_)|skip
 refine Gab (wpAny_sequenceKey ht.typeIs (by decide) ?_);refine Gab (GbO (name:=Str.ofString "__getitem__") ht.typeIs Gbd
  (Gby Gbd ht.typeIs entry_tuple_getitem ?_ (args_tuple_getitem _ _)))
 show wpAny _ _ (Builtin.Tuple.tupleItemsOf (.ref t)>>=_) _ _ s;refine Gab (tupleItemsOf_ ht ?_);refine Gab (GdI hTs ?_);rw[Gaf (by decide)];refine Gab (j8 hs pl pu ?_);have yI:¬((((sIx items.size 0 lo:Nat):Int)==0&&(1:Int)==1&&(sIx items.size items.size hi -sIx items.size 0 lo)==items.size)=true):=by
  intro q;rw[Gay,Gay] at q;have q1:((sIx items.size 0 lo:Nat):Int)=0:=eq_of_beq q.1.1;have q2:sIx items.size items.size hi -sIx items.size 0 lo=items.size:=eq_of_beq q.2;exact hw ⟨by lia,by lia⟩
 show wpAny _ _ (if(((sIx items.size 0 lo:Nat):Int)==0&&(1:Int)==1&&(sIx items.size items.size hi -sIx items.size 0 lo)==items.size)=true then _ else _) _ _ s;rw[Gag yI,vD]
 first
  |exact Gab (m:=Builtin.Tuple.tupleExact _) (GaY (Gao ⟨_,rfl,Gao h⟩) htake)
  |exact Gab (m:=Builtin.Tuple.tupleExact _) (GaY (Gab (Gao (Gao ⟨_,rfl,Gao h⟩))) htake)
  |exact Gab (Gab (m:=Builtin.Tuple.tupleExact _) (GaY (Gao (Gao ⟨_,rfl,Gao h⟩)) htake))
  |exact Gab (Gab (m:=Builtin.Tuple.tupleExact _) (GaY (Gao ⟨_,rfl,Gao h⟩) htake))
end
end HT
namespace L2
open PySem PySem.Spec PyProof.Rows
abbrev TO:=St->Hp->(Option Int->Hp->Prop)->Prop
def PO(X:Cx)(e:Option Expr)(t:TO):Prop:=
 ∀(ee:List (Addr×Obj)) (s:Shared) (Z:St) (H:Hp) (Q:Option Int->Hp->Prop),Inv X ee Z H s->t Z H Q->
  wpAny (model X.prog X.w) X.A (evalPart e X.env) (λu s' =>∃o H',Inv X ee Z H' s' /\IsPart u o/\Q o H') X.xe s
def Ie:TO:=λ_ H Q=>Q none H
def N7(t:TE):TO:=λZ H Q=>t Z H λx H1=>∃i,x= .int i/\Q (some i) H1
section
variable{X:Cx}{e:Expr}{te:TE}{lo hi:Option Expr}{tl th:TO}{pos p2:Pos}
theorem Ig:PO X none Ie:=by
 intro ee s Z H Q I h;rw[evalPart_none];exact Gao ⟨none,H,I,.none,h⟩
theorem Ih(h:PE X e te):PO X (some e) (N7 te):=by
 intro ee s Z H Q I hw;rw[evalPart_some];refine thn (h ee s Z H _ I hw) λu s1 ⟨x,H1,I1,r1,q1⟩=> ?_;obtain⟨i,rfl,q⟩:=q1;obtain⟨t,rfl⟩:=r1;exact⟨some i,H1,I1,.int i t,q⟩
def SlR(X:Cx)(r:V->Option Int->Option Int->Hp->VK->Prop):Prop:=
 ∀(ee:List (Addr×Obj)) (s:Shared) (Z:St) (H:Hp) (x:V) (v vl vu:Value) (lo hi:Option Int) (sl:Addr) (Q:VK),Inv X ee Z H s->RelV x v->s.heap.IsSliceOf sl vl vu .none->IsPart vl lo->IsPart vu hi->r x lo hi H Q->
  ∃T id,typeLookup (.type T) "__getitem__"=pure (some (.builtin id))/\s.TypeIs v T/\wpAny (model X.prog X.w) X.A (getItem v (.ref sl)) (EP X ee Z Q) X.xe s
theorem SlR.or{r r' :V->Option Int->Option Int->Hp->VK->Prop}(h:SlR X r)(h' :SlR X r'):SlR X (λx lo hi H Q=>r x lo hi H Q\/r' x lo hi H Q):=by
 intro ee s Z H x v vl vu lo hi sl Q I rx hs pl pu q;rcases q with q|q
 .exact h ee s Z H x v vl vu lo hi sl Q I rx hs pl pu q
 .exact h' ee s Z H x v vl vu lo hi sl Q I rx hs pl pu q
def tSl(r:V->Option Int->Option Int->Hp->VK->Prop)(te:TE)(tl th:TO):TE:=λZ H Q=>te Z H λx H1=>tl Z H1 λl H2=>th Z H2 λu H3=>r x l u H3 Q
theorem vF{r:V->Option Int->Option Int->Hp->VK->Prop}(hr:SlR X r)(he:PE X e te)(hl:PO X lo tl)(hu:PO X hi th):PE X (.Subscript e (.Slice lo hi none p2) pos) (tSl r te tl th):=by
 intro ee s Z H Q I h;refine Subscript_ (thn (he ee s Z H _ I h) λv s1 ⟨x,H1,I1,r1,q1⟩=> ?_);refine wpAny_Slice (thn (hl ee s1 Z H1 _ I1 q1) λvl s2 ⟨l,H2,I2,pl,q2⟩=>thn (hu ee s2 Z H2 _ I2 q2) λvu s3 ⟨u,H3,I3,pu,q3⟩=> ?_);rw[evalPart_none];refine Gao ?_;have I4:Inv X ee Z H3 {s3 with heap:=s3.heap.push {cls:= .type "slice",data:= .fields #[vl,vu,.none]}}:=I3.kept (t' :=s3.toks) λb ob q=>Gai _ q;obtain⟨T,id,hT,ht,hg⟩:=hr ee {s3 with heap:=s3.heap.push {cls:= .type "slice",data:= .fields #[vl,vu,.none]}} Z H3 x v vl vu l u s3.heap.objs.size Q I4 r1 (Heap.IsSliceOf.new ..) pl pu q3;show wpAny (model X.prog X.w) X.A (subscriptTail e (.Slice lo hi none p2) v (.ref s3.heap.objs.size)) (EP X ee Z Q) X.xe {s3 with heap:=s3.heap.push {cls:= .type "slice",data:= .fields #[vl,vu,.none]}};exact tail_any (ops:=[.ref s3.heap.objs.size,v]) ht hT hg (by with_unfolding_all rfl)
noncomputable def uo(xs:List V)(lo hi:Option Int):List V:=(xs.drop (HT.sIx xs.length 0 lo)).take (HT.sIx xs.length xs.length hi -HT.sIx xs.length 0 lo)
theorem oQ(xs:List V)(lo hi:Option Int):(uo xs lo hi).length<=xs.length:=by
 unfold uo;rw[Gce,GbJ];lia
def PF(K:PySem.W.Frag):V->Option Int->Option Int->Hp->VK->Prop:=λx lo hi H Q=>∃a xs,x= .ref a/\SqT K H a xs/\
 ¬(HT.sIx xs.length 0 lo=0/\HT.sIx xs.length xs.length hi=xs.length)/\∀p,H p=none->Q (.ref p) (upd H p (.tup (uo xs lo hi)))
theorem AH:SlR X (PF X.K):=by
 intro ee s Z H x v vl vu lo hi sl Q I rx hs pl pu h;obtain⟨a,xs,rfl,hx,hw,q⟩:=h;cases rx;obtain⟨eI,r,ht,hz⟩:=I.tuple hx;have eO:eI.toArray.size=xs.length:=by rw[Gam];exact r.length.symm
 refine⟨"tuple",_,Gbd.lookup,ht.typeIs, ?_⟩;refine HT.mM ht hs pl pu (by rw[eO];exact hw) ?_ (by rw[eO];exact hz);rw[eO];refine⟨.ref s.heap.objs.size,_,I.laid (t' :=s.toks) (o:= .tup (uo xs lo hi)) (λb ob q=>Gai _ q) (Gaq _) ?_,rfl,q _ (I.hok.fresh (Gaq _))⟩;exact⟨Gbh (oQ xs lo hi) hz,_,(r.drop (HT.sIx xs.length 0 lo)).take (HT.sIx xs.length xs.length hi -HT.sIx xs.length 0 lo),IsTup.new _ _⟩
def K3(K:PySem.W.Frag):R2:=λx y H Q=>∃a b xs ys,x= .ref a/\y= .ref b/\SqT K H a xs/\SqT K H b ys/\xs≠[]/\xs.length+ys.length<=sizeLine/\
 (ys=[]->Q (.ref a) H)/\(ys≠[]->∀p,H p=none->Q (.ref p) (upd H p (.tup (xs++ys))))
theorem Vals.cg{xs:List V}{us:List Value}(r:Vals xs us):us=[]↔xs=[]:=by
 cases r with
 |nil=>simp
 |cons _ _=>simp
theorem Ij:OpR X (binaryOp .Add) (K3 X.K):=by
 intro ee s Z H x y v u Q I rx ry h;obtain⟨a,b,xs,ys,rfl,rfl,ha,hb,hx,hz,q1,q2⟩:=h;cases rx;cases ry;obtain⟨eI,r1,p1,_⟩:=I.tuple ha;obtain⟨eS,r2,p2,_⟩:=I.tuple hb;refine HT.Ic p1 p2 (λz=>hx (r1.cg.mp z)) (λz=> ⟨.ref a,H,I,rfl,q1 (r2.cg.mp z)⟩) (λz=> ?_) (by rw[<-r1.length,<-r2.length];exact hz);refine⟨.ref s.heap.objs.size,_,I.laid (t' :=s.toks) (o:= .tup (xs++ys)) (λb ob q=>Gai _ q) (Gaq _) ?_,rfl,q2 (λw=>z (r2.cg.mpr w)) _ (I.hok.fresh (Gaq _))⟩;exact⟨by rw[Gan];exact hz,_,r1.append r2,IsTup.new _ _⟩
end
noncomputable def ixN(n:Nat)(i:Int):Option Nat:=if 0<=i then(if i<n then some i.toNat else none) else if -(n:Int)<=i then some (i+n).toNat else none
noncomputable def atI{α:Type}(xs:List α)(i:Int):Option α:=(ixN xs.length i).bind λj=>xs[j]?
theorem BW{n:Nat}{i:Int}{j:Nat}(h:ixN n i=some j):seqIndex? i n=some j/\j<n/\-(n:Int)<=i/\i<n:=by
 unfold ixN at h;by_cases h0:0<=i
 .rw[Gaf h0] at h;by_cases h1:i<n
  .rw[Gaf h1] at h;have e:i.toNat=j:=Option.some.inj h;exact⟨by rw[seqIndex_of h0 h1,e],by lia,by lia,h1⟩
  .rw[Gag h1] at h;cases h
 .rw[Gag h0] at h;by_cases h1: -(n:Int)<=i
  .rw[Gaf h1] at h;have e:(i+n).toNat=j:=Option.some.inj h;exact⟨by rw[seqIndex_neg (by lia) h1,e],by lia,h1,by lia⟩
  .rw[Gag h1] at h;cases h
theorem uq{α:Type}{xs:List α}{i:Int}{v:α}(h:atI xs i=some v):∃j,seqIndex? i xs.length=some j/\xs[j]? =some v/\j<xs.length/\-(xs.length:Int)<=i/\i<xs.length:=by
 unfold atI at h;cases e:ixN xs.length i with
 |none=>rw[e] at h;cases h
 |some j=>
  rw[e] at h;obtain⟨h1,h2,h3,h4⟩:=BW e;exact⟨j,h1,h,h2,h3,h4⟩
def BX(b:Expr):Prop:=∀o i,subscripted b false o i=operate [o,i] (getItem o i)
def IxR(X:Cx)(r:R2):Prop:=
 ∀(value slice:Expr) (ee:List (Addr×Obj)) (s:Shared) (Z:St) (H:Hp) (x y:V) (v u:Value) (Q:VK),Inv X ee Z H s->RelV x v->RelV y u->r x y H Q->
  subscripted slice false v u=operate [v,u] (getItem v u)->wpAny (model X.prog X.w) X.A (subscriptTail value slice v u) (EP X ee Z Q) X.xe s
def MtR(X:Cx)(id:String)(r:V->List V->Hp->VK->Prop):Prop:=
 ∀(ee:List (Addr×Obj)) (s:Shared) (Z:St) (H:Hp) (x:V) (xs:List V) (v:Value) (us:List Value) (Q:VK),Inv X ee Z H s->RelV x v->Vals xs us->r x xs H Q->
  wpAny (model X.prog X.w) X.A (call (.builtin id) (v::us)) (EP X ee Z Q) X.xe s
section
variable{X:Cx}{a b:Expr}{ta tb:TE}{pos:Pos}
theorem IxR.or{r r' :R2}(h:IxR X r)(h' :IxR X r'):IxR X (λx y H Q=>r x y H Q\/r' x y H Q):=by
 intro value slice ee s Z H x y v u Q I rx ry q hs;rcases q with q|q
 .exact h value slice ee s Z H x y v u Q I rx ry q hs
 .exact h' value slice ee s Z H x y v u Q I rx ry q hs
theorem N8{r:R2}(hr:IxR X r)(ha:PE X a ta)(hb:PE X b tb)(hs:BX b):PE X (.Subscript a b pos) (tOp r ta tb):=by
 intro ee s Z H Q I h;exact Subscript_ (Kw ha hb I h λv u s2 x y H2 I2 rx ry q=>hr a b ee s2 Z H2 x y v u Q I2 rx ry q (hs _ _))
def N9(K:PySem.W.Frag):R2:=λx y H Q=>∃p xs i v,x= .ref p/\y= .int i/\SqL K H p xs/\atI xs i=some v/\Q v H
def Na(K:PySem.W.Frag):R2:=λx y H Q=>∃p xs i v,x= .ref p/\y= .int i/\SqT K H p xs/\atI xs i=some v/\Q v H
def Nb:R2:=λx y H Q=>∃z i c,x= .str z/\y= .int i/\z.length<=sizeLine/\atI z.cps.toList i=some c/\Q (.str ⟨#[c]⟩) H
theorem Ik:IxR X (N9 X.K):=by
 intro value slice ee s Z H x y v u Q I rx ry h hs;obtain⟨p,xs,i,z,rfl,rfl,hq,he,q⟩:=h;cases rx;obtain⟨t,rfl⟩:=ry;obtain⟨eI,r,pl,hz⟩:=I.list hq;obtain⟨j,h1,h2,h3,h4,h5⟩:=uq he;obtain⟨w,ew,xy⟩:=r.get h2;have hl:=r.length;have hn:=pR;have fin:EP X ee Z Q w s:=⟨z,H,I,xy,q⟩
 by_cases h0:0<=i
 .have hj:i.toNat=j:=by
   rw[seqIndex_of h0 h5] at h1;exact Option.some.inj h1
  exact item_listR pl.isList h0 (by lia) (by rw[hj];simpa using ew) fin hs
 .have hj:(i+(eI.toArray.size:Int)).toNat=j:=by
   rw[seqIndex_neg (by lia) h4] at h1;rw[Gam,<-hl];exact Option.some.inj h1
  exact subscriptTail_builtinR (x:=w) pl.isList.typeIs slot_list_getitem.lookup
   (wpAny_getItem_list_neg (Q:=λr s' =>r=w/\EP X ee Z Q r s') pl.isList (by lia) (by rw[Gam]<;>lia) (by lia) (by rw[hj];simpa using ew) ⟨rfl,fin⟩) hs
theorem KO:IxR X (Na X.K):=by
 intro value slice ee s Z H x y v u Q I rx ry h hs;obtain⟨p,xs,i,z,rfl,rfl,hq,he,q⟩:=h;cases rx;obtain⟨t,rfl⟩:=ry;obtain⟨eI,r,pl,hz⟩:=I.tuple hq;obtain⟨j,h1,h2,h3,h4,h5⟩:=uq he;obtain⟨w,ew,xy⟩:=r.get h2;have hl:=r.length;have hn:=pR;have fin:EP X ee Z Q w s:=⟨z,H,I,xy,q⟩
 exact subscriptTail_builtinR (x:=w) pl.typeIs slot_tuple_getitem.lookup
  (getItem_tuple (j:=j) (Q:=λr s' =>r=w/\EP X ee Z Q r s') pl (by lia) (by lia) (by rw[Gam,<-hl];exact h1) (by simpa using ew) ⟨rfl,fin⟩) hs
theorem KP:IxR X Nb:=by
 intro value slice ee s Z H x y v u Q I rx ry h hs;obtain⟨z,i,c,rfl,rfl,hz,he,q⟩:=h;obtain⟨t,rfl⟩:=rx;obtain⟨t',rfl⟩:=ry;obtain⟨j,h1,h2,h3,h4,h5⟩:=uq he;have hl:z.cps.toList.length=z.length:=by simp[Str.length]
 rw[hl] at h1 h4 h5;have hn:=pR;exact tail_any (typeIs_str s z t) slot_str_getitem.lookup (getItem_str (c:=c) (by
  have e1:decide (i< -(2^63:Int))=false:=GaD (by lia);have e2:decide (i>=2^63)=false:=GaD (by lia);rw[e1,e2,Bool.or_false]) (by rw[h1];simpa using h2) ⟨.str ⟨#[c]⟩,H,I.tok _,⟨_,rfl⟩,q⟩) hs
def rIx(K:PySem.W.Frag):R2:=λx y H Q=>N9 K x y H Q\/Na K x y H Q\/Nb x y H Q
theorem KQ:IxR X (rIx X.K):=Ik.or (KO.or KP)
theorem AI(eI:List Value)(n j:Nat)(u:Value):Obj.mapSeq (·.setIfInBounds j u) {cls:= .type "list",data:= .seq eI.toArray n}={cls:= .type "list",data:= .seq (eI.set j u).toArray n}:=by
 simp[Obj.mapSeq]
theorem Inv.lst{ee:List (Addr×Obj)}{Z:St}{H:Hp}{s:Shared}{p:Addr}{xs:List V}(I:Inv X ee Z H s)(h:H p=some (.lst xs)):
  ∃(eI:List Value) (n:Nat),Vals xs eI/\s.heap.get? p=some {cls:= .type "list",data:= .seq eI.toArray n}/\xs.length<=sizeLine:=by
 obtain⟨z,eI,n,r,e⟩:=I.hok p _ h;exact⟨eI,n,r,e,z⟩
theorem Inv.KR{ee:List (Addr×Obj)}{Z:St}{H:Hp}{s:Shared}{p:Addr}{xs ys:List V}{eI its' :List Value}{n n' :Nat}{f:Obj->Obj}(I:Inv X ee Z H s)(h:H p=some (.lst xs))
  (ho:s.heap.get? p=some {cls:= .type "list",data:= .seq eI.toArray n})(hf:f {cls:= .type "list",data:= .seq eI.toArray n}={cls:= .type "list",data:= .seq its'.toArray n' })(r:Vals ys its')(hz:ys.length<=sizeLine)(t:Nat):
  Inv X ee Z (upd H p (.lst ys)) {s with heap:=s.heap.update p f,toks:=t}:=by
 have e:(s.heap.update p f).get? p=some {cls:= .type "list",data:= .seq its'.toArray n' }:=by
  rw[GbH f ho (by rw[hf]<;>rfl),hf]
 refine I.write (x:=p) (e:=p) (by rw[h];trivial) (.inl rfl) (λb u hb q=>(GbA _ _ (Ne.symm hb)).trans q) ⟨_,e⟩ ?_;exact⟨hz,its',n',r,e⟩
def K4:V->V->V->Hp->(Hp->Prop)->Prop:=λo i v H Q=>∃p xs k j,o= .ref p/\i= .int k/\H p=some (.lst xs)/\ixN xs.length k=some j/\Q (upd H p (.lst (xs.set j v)))
theorem set_list:MP X K4:=by
 intro ee s Z H o i v ov iv u Q I ro ri rv h;obtain⟨p,xs,k,j,rfl,rfl,hp,hj,q⟩:=h;cases ro;obtain⟨t,rfl⟩:=ri;obtain⟨eI,n,r,ho,hz⟩:=I.lst hp;obtain⟨h1,h2,h3,h4⟩:=BW hj;have hl:=r.length;have hn:=pR;have I' :Inv X ee Z (upd H p (.lst (xs.set j v))) {s with heap:=s.heap.update p (Obj.mapSeq (·.setIfInBounds j u))}:=
  I.KR hp ho (AI eI n j u) (r.set rv j) (by rw[GdJ];exact hz) s.toks
 by_cases h0:0<=k
 .have hk:k.toNat=j:=by
   rw[seqIndex_of h0 h4] at h1;exact Option.some.inj h1
  exact PySem.W.ki_setAt ho h0 (by lia) (by rw[Gam,<-hl];exact h4) (by rw[hk];exact⟨_,I',q⟩)
 .have hk:(k+(eI.toArray.size:Int)).toNat=j:=by
   rw[seqIndex_neg (by lia) h3] at h1;rw[Gam,<-hl];exact Option.some.inj h1
  exact PySem.W.ki_setBack ho (by lia) (by rw[Gam,<-hl];exact h3) (by lia) (by rw[hk];exact⟨_,I',q⟩)
theorem ur(lo hi:Option Int)(n:Nat):(sliceBounds lo hi none n).1=((HT.sIx n 0 lo:Nat):Int)/\(sliceBounds lo hi none n).2.1=((HT.sIx n n hi:Nat):Int)/\(sliceBounds lo hi none n).2.2=1:=by
 refine⟨?_, ?_,rfl⟩
 .cases lo with
  |none=>simp[sliceBounds,HT.sIx]
  |some i=>
   simp only[sliceBounds,HT.sIx,Option.getD_none,show(1:Int)>0 by decide,Gbx];by_cases h:i<0
   .simp only[h,Gbx]<;>lia
   .simp only[h,Gbj]<;>lia
 .cases hi with
  |none=>simp[sliceBounds,HT.sIx]
  |some i=>
   simp only[sliceBounds,HT.sIx,Option.getD_none,show(1:Int)>0 by decide,Gbx];by_cases h:i<0
   .simp only[h,Gbx]<;>lia
   .simp only[h,Gbj]<;>lia
theorem si(eI:List Value)(lo hi:Option Int):slicePick eI.toArray lo hi none=((eI.drop (HT.sIx eI.length 0 lo)).take (HT.sIx eI.length eI.length hi -HT.sIx eI.length 0 lo)).toArray:=by
 obtain⟨h1,h2,h3⟩:=ur lo hi eI.toArray.size;unfold slicePick;rw[h1,h2,h3];simp only[sliceRange_one,pick_run,Gam]<;>rfl
def PH(K:PySem.W.Frag):V->Option Int->Option Int->Hp->VK->Prop:=λx lo hi H Q=>∃a xs,x= .ref a/\SqL K H a xs/\∀p,H p=none->Q (.ref p) (upd H p (.lst (uo xs lo hi)))
theorem BY:SlR X (PH X.K):=by
 intro ee s Z H x v vl vu lo hi sl Q I rx hs pl pu h;obtain⟨a,xs,rfl,hx,q⟩:=h;cases rx;obtain⟨eI,r,ht,hz⟩:=I.list hx;have eO:=r.length;refine⟨"list",_,slot_list_getitem.lookup,ht.isList.typeIs, ?_⟩;refine wpAny_getItem_list_slice ht.isList hs pl pu .none (by simp) ?_ (by rw[Gam]<;>lia);rw[si,<-eO];refine⟨.ref s.heap.objs.size,_,I.laid (t' :=s.toks) (o:= .lst (uo xs lo hi)) (λb ob q=>Gai _ q) (Gaq _) ?_,rfl,q _ (I.hok.fresh (Gaq _))⟩;exact⟨Gbh (oQ xs lo hi) hz,_,0,(r.drop (HT.sIx xs.length 0 lo)).take (HT.sIx xs.length xs.length hi -HT.sIx xs.length 0 lo),GaJ _ rfl⟩
noncomputable def sY:V->Bool
 | .non=>true
 | .bl _=>true
 | .int _=>true
 | .str _=>true
 |_=>false
noncomputable def eqV:V->V->Bool
 | .non,.non=>true
 | .bl a,.bl b=>a==b
 | .bl a,.int b=>(if a then 1 else 0)==b
 | .int a,.bl b=>a==(if b then 1 else 0)
 | .int a,.int b=>a==b
 | .str a,.str b=>a==b
 |_,_=>false
theorem KS{A:Around}{s:Shared}{y x:V}{u v:Value}(ry:RelV y u)(rx:RelV x v)(fy:sY y=true)(fx:sY x=true):SeqAt.EqAt A s u v (eqV y x):=by
 cases y with
 |non=>
  cases ry;cases x with
  |non=>cases rx;exact SeqAt.EqAt.same _
  |bl b=>cases rx;exact SeqAt.EqAt.none_bool b
  |int b=>obtain⟨t,rfl⟩:=rx;exact SeqAt.EqAt.none_int b t
  |str b=>obtain⟨t,rfl⟩:=rx;exact SeqAt.EqAt.none_str b t
  |_=>exact absurd (show false=true from fx) GaH
 |bl a=>
  cases ry;cases x with
  |non=>cases rx;exact SeqAt.EqAt.bool_none a
  |bl b=>cases rx;exact SeqAt.EqAt.bool_bool a b
  |int b=>obtain⟨t,rfl⟩:=rx;exact SeqAt.EqAt.bool_int a b t
  |str b=>obtain⟨t,rfl⟩:=rx;exact SeqAt.EqAt.bool_str a b t
  |_=>exact absurd (show false=true from fx) GaH
 |int a=>
  obtain⟨t',rfl⟩:=ry;cases x with
  |non=>cases rx;exact SeqAt.EqAt.int_none a t'
  |bl b=>cases rx;exact SeqAt.EqAt.int_bool a t' b
  |int b=>obtain⟨t,rfl⟩:=rx;exact SeqAt.EqAt.int_int a t' b t
  |str b=>obtain⟨t,rfl⟩:=rx;exact SeqAt.EqAt.int_str a t' b t
  |_=>exact absurd (show false=true from fx) GaH
 |str a=>
  obtain⟨t',rfl⟩:=ry;cases x with
  |non=>cases rx;exact SeqAt.EqAt.str_none a t'
  |bl b=>cases rx;exact SeqAt.EqAt.str_bool a t' b
  |int b=>obtain⟨t,rfl⟩:=rx;exact SeqAt.EqAt.str_int a t' b t
  |str b=>obtain⟨t,rfl⟩:=rx;exact SeqAt.EqAt.str_str a t' b t
  |_=>exact absurd (show false=true from fx) GaH
 |_=>exact absurd (show false=true from fy) GaH
theorem fY.or{f:Value}{r r' :List V->Hp->VK->Prop}(h:fY X f r)(h' :fY X f r'):fY X f (λxs H Q=>r xs H Q\/r' xs H Q):=by
 intro ee s Z H xs us Q I rs q;rcases q with q|q
 .exact h ee s Z H xs us Q I rs q
 .exact h' ee s Z H xs us Q I rs q
theorem lq:fY X (.type "tuple") (λxs H Q=>∃p ys,xs=[.ref p]/\((SqL X.K H p ys/\∀l,H l=none->Q (.ref l) (upd H l (.tup ys)))\/(SqT X.K H p ys/\Q (.ref p) H))):=by
 intro ee s Z H xs us Q I r h;obtain⟨p,ys,rfl,h⟩:=h;obtain⟨u,rfl,rx⟩:=vals1 r;cases rx;rcases h with⟨hq,q⟩| ⟨hq,q⟩
 .obtain⟨eI,r',pl,hz⟩:=I.list hq;have eO:=r'.length;refine call_tuple_list pl.isList (λh' kp=> ?_) (by simp only[Gam]<;>lia);have I1:Inv X ee Z H {s with heap:=h' }:=I.kept (t' :=s.toks) kp;have I2:Inv X ee Z (upd H h'.objs.size (.tup ys)) {s with heap:=h'.push {cls:= .type "tuple",data:= .seq eI.toArray}}:=
   I1.laid (t' :=s.toks) (λb o e=>Gai _ e) (Gaq _) (show bQ X.prog X.w _ _ _ (.tup ys) from⟨hz,eI,r',IsTup.new _ _⟩)
  exact⟨.ref h'.objs.size,_,I2,rfl,q _ (I1.hok.fresh (Gaq _))⟩
 .obtain⟨eI,r',pl,hz⟩:=I.tuple hq;exact call_tuple_same pl ⟨.ref p,H,I,rfl,q⟩
def tyV(K:PySem.W.Frag)(T:String)(x:V)(H:Hp):Prop:=match x with
 | .str _=>T="str"
 | .int _=>T="int"
 | .ref p=>(T="list"/\∃xs,SqL K H p xs)\/(T="tuple"/\∃o,K.lookup p=some o/\o.cls= .type "tuple"/\o.dict=none)\/
   (T="dict"/\((∃eE,H p=some (.dK eE))\/∃eE,H p=some (.dT eE)))\/(T="set"/\∃S n,H p=some (.set S n))
 |_=>False
theorem KU{ee:List (Addr×Obj)}{Z:St}{H:Hp}{s:Shared}{T:String}{x:V}{v:Value}(I:Inv X ee Z H s)(r:RelV x v)(ty:tyV X.K T x H):
  s.TypeIs v T/\∀a,v= .ref a->∃ob,s.heap.get? a=some ob/\ob.dict=none:=by
 cases x with
 |str z=>
  obtain⟨t,rfl⟩:=r;cases(show T="str" from ty);exact⟨typeIs_str s z t,λ_ e=>nomatch e⟩
 |int i=>
  obtain⟨t,rfl⟩:=r;cases(show T="int" from ty);exact⟨typeIs_int s i t,λ_ e=>nomatch e⟩
 |ref p=>
  cases r;rcases ty with⟨rfl,xs,hq⟩| ⟨rfl,o,hk,hc,hd⟩| ⟨rfl,hk⟩| ⟨rfl,S,n,hk⟩
  .obtain⟨eI,_,pl,_⟩:=I.list hq;refine⟨pl.isList.typeIs,λa e=> ?_⟩;cases e;obtain⟨o,n,e,c,hd,_⟩:=pl;exact⟨o,e,hd⟩
  .refine⟨⟨o,I.kIn p o hk,hc⟩,λa e=> ?_⟩;cases e;exact⟨o,I.kIn _ o hk,hd⟩
  .have z:∃o,s.heap.get? p=some o/\o.ExactDict:=by
    rcases hk with⟨eE,hk⟩| ⟨eE,hk⟩
    .obtain⟨_,_,_,_,o,_,_,e,ex,_⟩:=I.hok p _ hk;exact⟨o,e,ex⟩
    .obtain⟨_,_,_,_,o,_,_,e,ex,_⟩:=I.hok p _ hk;exact⟨o,e,ex⟩
   obtain⟨o,e,ex⟩:=z;refine⟨⟨o,e,ex.1⟩,λa e2=> ?_⟩;cases e2;exact⟨o,e,ex.2.1⟩
  .obtain⟨o,_,_,_,e,ex,_⟩:=I.hok p _ hk;refine⟨⟨o,e,ex.1⟩,λa e2=> ?_⟩;cases e2;exact⟨o,e,ex.2.1⟩
 |_=>exact False.elim ty
def tBM(K:PySem.W.Frag)(T:String)(r:V->List V->Hp->VK->Prop)(to:TE)(t:TA):TE:=λZ H Q=>to Z H λx H1=>tyV K T x H1/\t Z H1 λxs H2=>r x xs H2 Q
variable{o e:Expr}{es:List Expr}{to:TE}{t:TA}{name:Str}{apos eM:Pos}{T id:String}{r:V->List V->Hp->VK->Prop}
theorem BZ(pa:PlainAttrs T)(slot:Slot T name id)(Sd:typeOf (.builtin id)=pure (.type "method_descriptor"))(hm:MtR X id r)(ho:PE X o to)(ha:PA X (e::es) t)
  (eX:attributeBase o name X.env (eval o X.env)=eval o X.env:=by rfl)
  (xB:((backTo eM (starEach (e::es) X.env)).all (λx=> !x.1)&&(backToKw eM (keywordEach [] X.env)).all (λx=>x.1.isSome)
   &&decide ((e::es).length+([]:List Keyword).length+(if([]:List Keyword).isEmpty then 0 else 1)<30))=true:=by rfl)
  (eW:(apos.endLine==eM.line)=true:=by rfl)(hs:starEach (e::es) X.env=(false,eval e X.env)::starEach es X.env:=by rfl)(yZ:(backTo eM (starEach es X.env)).any (·.1)=false:=by rfl):
  PE X (.Call (.Attribute o name apos) (e::es) [] eM) (tBM X.K T r to t):=by
 intro ee s Z H Q I h;refine wpAny_Call_method_late eX xB eW rfl (thn (ho ee s Z H _ I h) λv s1 ⟨x,H1,I1,r1,ty,q1⟩=> ?_);obtain⟨h1,h2⟩:=KU I1 r1 ty;refine⟨T,id,pa,slot,Sd,h1,h2, ?_⟩;have hA:=ha eM ee s1 Z H1 _ I1 q1;rw[hs] at hA⊢;refine GcG (by show(false||(backTo eM (starEach es X.env)).any (·.1))=false;rw[yZ]<;>rfl) (GdK ?_);exact thn hA λus s2 ⟨vs,H2,I2,r2,q2⟩=>hm ee s2 Z H2 x vs v us Q I2 r1 r2 q2
end
def MtM(X:Cx)(id:String)(r:V->List V->Hp->VK->Prop):Prop:=
 ∀(ee:List (Addr×Obj)) (s:Shared) (Z:St) (H:Hp) (x:V) (xs:List V) (v:Value) (us:List Value) (Q:VK),Inv X ee Z H s->RelV x v->Vals xs us->r x xs H Q->
  wpAny (model X.prog X.w) X.A (call (.builtin id) (v::us)) (EP X ee Z Q) X.xe s
theorem Vals.one:∀{x:V} {us:List Value},Vals [x] us->∃u,us=[u]/\RelV x u
 |_,_,.cons r .nil=> ⟨_,rfl,r⟩
theorem Vals.rep{xs:List V}{us:List Value}(h:Vals xs us):∀k:Nat,Vals (List.replicate k xs).flatten (List.replicate k us).flatten
 |0=> .nil
 |k+1=>by
  rw[List.replicate_succ,List.replicate_succ,List.flatten_cons,List.flatten_cons];exact Vals.append h (Vals.rep h k)
section
variable{X:Cx}{ee:List (Addr×Obj)}{Z:St}{H:Hp}{s:Shared}{l b:Addr}{xs ys zs:List V}
theorem Inv.KW{eI its' :List Value}{n:Nat}{f:Array Value->Array Value}{t' :Nat}(I:Inv X ee Z H s)(hH:H l=some (.lst xs))
  (e:s.heap.get? l=some {cls:= .type "list",data:= .seq eI.toArray n})(hf:f eI.toArray=its'.toArray)(hv:Vals ys its')(hz:ys.length<=sizeLine):
  Inv X ee Z (upd H l (.lst ys)) {s with heap:=s.heap.update l (Obj.mapSeq f),toks:=t' }:=by
 have q:=PySem.IsL.update e f;rw[hf] at q;refine I.write (x:=l) (e:=l) (by rw[hH];exact trivial) (.inl rfl) (λb' u hb hu=>(GbA s.heap (Obj.mapSeq f) (Ne.symm hb)).trans hu) ⟨_,q⟩ ?_;exact⟨hz,its',_,hv,q⟩
theorem Inv.PJ{eI:List Value}{t' :Nat}(I:Inv X ee Z H s)(hv:Vals ys eI)(hz:ys.length<=sizeLine):
  Inv X ee Z (upd H s.heap.objs.size (.lst ys)) {s with heap:=s.heap.push {cls:= .type "list",data:= .seq eI.toArray},toks:=t' }:=
 I.laid (λ_ _ q=>Gai _ q) (Gaq _) ⟨hz,eI,0,hv,GaJ _ rfl⟩
theorem Inv.fresh(I:Inv X ee Z H s):H s.heap.objs.size=none:=I.hok.fresh (Gaq _)
theorem Inv.Il(I:Inv X ee Z H s)(hH:H l=some (.lst xs)):xs.length<=sizeLine/\∃(eI:List Value) (n:Nat),Vals xs eI/\xs.length=eI.length/\s.heap.get? l=some {cls:= .type "list",data:= .seq eI.toArray n}:=by
 obtain⟨z,eI,n,r,e⟩:=I.hok l _ hH;exact⟨z,eI,n,r,r.length,e⟩
theorem F5{n:Nat}(h:n<=sizeLine):Builtin.List.listTooLong n=false:=by
 unfold Builtin.List.listTooLong;exact GaD (by lia)
end
section
variable{X:Cx}
def C0:V->List V->Hp->VK->Prop:=λx vs H Q=>∃l xs y,x= .ref l/\vs=[y]/\H l=some (.lst xs)/\xs.length<sizeLine/\Q .non (upd H l (.lst (xs++[y])))
theorem nT:MtM X "list.append" C0:=by
 intro ee s Z H x vs v us Q I rx rv h;obtain⟨l,xs,y,rfl,rfl,hH,hz,q⟩:=h;cases rx;obtain⟨u,rfl,ru⟩:=rv.one;obtain⟨z,eI,n,r,hl,e⟩:=I.Il hH;refine call_meets F.slot_list_append ⟨_,e,rfl⟩ F.entry_list_append (F.args_list_append_2 _ _) (PySem.list_append l eI.toArray n u (by rw[Gam];lia)) ⟨e, ?_⟩;refine⟨.non,_,I.KW (its' :=eI++[u]) hH e (by simp) (r.append (.cons ru .nil)) ?_,rfl,q⟩;rw[Gan,List.length_singleton];lia
def Im:V->List V->Hp->VK->Prop:=λx vs H Q=>∃l b xs zs,x= .ref l/\vs=[.ref b]/\H l=some (.lst xs)/\H b=some (.lst zs)/\xs.length+zs.length<=sizeLine/\Q .non (upd H l (.lst (xs++zs)))
theorem Dh:MtM X "list.extend" Im:=by
 intro ee s Z H x vs v us Q I rx rv h;obtain⟨l,b,xs,zs,rfl,rfl,hH,hB,hz,q⟩:=h;cases rx;obtain⟨u,rfl,ru⟩:=rv.one;cases ru;obtain⟨z,eI,n,r,hl,e⟩:=I.Il hH;obtain⟨z2,eS,n2,r2,Qg,e2⟩:=I.Il hB;have hsz:eI.toArray.size+eS.toArray.size<=sizeLine:=by rw[Gam,Gam];lia
 have hlong:¬(!eI.toArray.isEmpty&&Builtin.List.listTooLong (eI.toArray.size+eS.toArray.size))=true:=by
  rw[F5 hsz,GcM];exact GaH
 refine call_meets F.slot_list_extend ⟨_,e,rfl⟩ F.entry_list_extend (F.args_list_extend_2 _ _)
  (AutoSeq1.list_extend_list_list_0 l eI.toArray n b eS.toArray n2 hlong (by rw[Gam];lia) (by lia)) ⟨e,e2, ?_⟩
 refine⟨.non,_,I.KW (its' :=eI++eS) hH e (by simp) (r.append r2) ?_,rfl,q⟩;rw[Gan];lia
end
section
variable{Y:Type} [DecidableEq Y]
noncomputable def gp(eE:List (Y×V))(k:Y):Option V:=(eE.find? λkv=>decide (kv.1=k)).map (·.2)
noncomputable def putK(eE:List (Y×V))(k:Y)(v:V):List (Y×V):=
 if(eE.any λkv=>decide (kv.1=k))=true then eE.map (λkv=>if kv.1=k then(kv.1,v) else kv) else eE++[(k,v)]
theorem k6{p:Y×V}{r:List (Y×V)}{k:Y}(e:p.1=k):gp (p::r) k=some p.2:=by simp[gp,GbE,e]
theorem gO{p:Y×V}{r:List (Y×V)}{k:Y}(e:¬p.1=k):gp (p::r) k=gp r k:=by simp[gp,GbE,e]
theorem pT(k:Y):∀eE:List (Y×V),(eE.any λkv=>decide (kv.1=k))=(gp eE k).isSome
 |[]=>rfl
 |p::r=>by
  rw[GcU];by_cases e:p.1=k
  .simp only[k6 e,Gaz e,Bool.true_or,Option.isSome_some]
  .rw[gO e,GaD e,Bool.false_or];exact pT k r
theorem k7(eE:List (Y×V))(k:Y)(v:V):(putK eE k v).length<=eE.length+1:=by
 unfold putK;split
 .rw[Gac];lia
 .rw[Gan,Gaw,Gcj];lia
theorem F6{eE:List (Y×V)}{k:Y}(v:V)(h:gp eE k=none):putK eE k v=eE++[(k,v)]:=by
 unfold putK;rw[pT,h];exact Gag (by decide)
theorem nR.Di{o:Option V}{u:Option Value}(r:nR o u):o.isSome=u.isSome:=by
 cases o with
 |none=>cases u with
  |none=>rfl
  |some _=>exact(show False from r).elim
 |some _=>cases u with
  |none=>exact(show False from r).elim
  |some _=>rfl
theorem nR.getD{o:Option V}{u:Option Value}{d:V}{d' :Value}(r:nR o u)(rd:RelV d d'):RelV (o.getD d) (u.getD d'):=by
 cases o with
 |none=>cases u with
  |none=>exact rd
  |some _=>exact(show False from r).elim
 |some _=>cases u with
  |none=>exact(show False from r).elim
  |some _=>exact r
theorem KV.val{eE:List (Y×V)}{vs:List (Y×Value)}(r:KV eE vs)(k:Y):nR (gp eE k) (valueAt vs k):=by
 unfold KV at r;induction r with
 |nil=>exact True.intro
 | @cons p q ps qs h t ih=>
  obtain⟨h1,h2⟩:=h;by_cases e:p.1=k
  .have e' :q.1=k:=h1.symm.trans e;have b:valueAt (q::qs) k=some q.2:=by simp[valueAt,GbE,e']
   rw[k6 e,b];exact h2
  .have e' :¬q.1=k:=λz=>e (h1.trans z);have b:valueAt (q::qs) k=valueAt qs k:=by simp[valueAt,GbE,e']
   rw[gO e,b];exact ih
theorem KV.any{eE:List (Y×V)}{vs:List (Y×Value)}(r:KV eE vs)(k:Y):(eE.any λkv=>decide (kv.1=k))=vs.any λkv=>decide (kv.1=k):=by
 unfold KV at r;induction r with
 |nil=>rfl
 |cons h t ih=>rw[GcU,GcU,ih,h.1]
theorem KV.KY{eE:List (Y×V)}{vs:List (Y×Value)}(r:KV eE vs)(k:Y){y:V}{u:Value}(ry:RelV y u):
  KV (eE.map λkv=>if kv.1=k then(kv.1,y) else kv) (vs.map λkv=>if kv.1=k then(kv.1,u) else kv):=by
 unfold KV at r⊢;induction r with
 |nil=>exact .nil
 | @cons p q ps qs h t ih=>
  rw[GaB,GaB];refine .cons ?_ ih;obtain⟨h1,h2⟩:=h;by_cases e:p.1=k
  .rw[Gaf e,Gaf (h1.symm.trans e)];exact⟨h1,ry⟩
  .rw[Gag e,Gag (λz=>e (h1.trans z))];exact⟨h1,h2⟩
theorem KV.put{eE:List (Y×V)}{vs:List (Y×Value)}(r:KV eE vs)(k:Y){y:V}{u:Value}(ry:RelV y u):KV (putK eE k y) (stored vs k u):=by
 unfold putK stored;rw[r.any k];by_cases e:(vs.any λkv=>decide (kv.1=k))=true
 .rw[Gaf e,Gaf e];exact r.KY k ry
 .rw[Gag e,Gag e];exact Paired.snoc r ⟨rfl,ry⟩
theorem KV.length{eE:List (Y×V)}{vs:List (Y×Value)}(r:KV eE vs):eE.length=vs.length:=Paired.length r
end
theorem C1{P:Program}{w:World}{k:Key}{u:Value}(r:RelV (kV k) u):(bS P w).is k u=true:=by
 cases k with
 |inl i=>obtain⟨t,e⟩:=(show∃t,u=Value.int i t from r);subst e;exact vk P w i t
 |inr x=>obtain⟨t,e⟩:=(show∃t,u=Value.str x t from r);subst e;exact vn P w x t
theorem sZ{P:Program}{w:World}:∀{ks:List Key} {us:List Value},Vals (ks.map kV) us->ItemsAre (bS P w) ks us
 |[],_,r=>by rw[GdX] at r;cases r;exact .nil
 |k::ks,_,r=>by
  rw[GaB] at r;cases r with
  |cons h t=>exact .cons (C1 h) (sZ t)
abbrev KT(H:Hp):List (List Key×V)->List (List Key×Addr×Value)->Prop:=Paired λp q=>p.1=q.1/\H q.2.1=some (.tup (p.1.map kV))/\RelV p.2 q.2.2
theorem KT.val{H:Hp}{eE:List (List Key×V)}{xs:List (List Key×Addr×Value)}(r:KT H eE xs)(k:List Key):nR (gp eE k) ((atKey xs k).map (·.2)):=by
 induction r with
 |nil=>exact True.intro
 | @cons p q ps qs h t ih=>
  obtain⟨h1,_,h2⟩:=h;by_cases e:p.1=k
  .have e' :q.1=k:=h1.symm.trans e;have b:atKey (q::qs) k=some q.2:=by simp[atKey,GbE,e']
   rw[k6 e,b];exact h2
  .have e' :¬q.1=k:=λz=>e (h1.trans z);have b:atKey (q::qs) k=atKey qs k:=by simp[atKey,GbE,e']
   rw[gO e,b];exact ih
theorem KT.KY{H:Hp}{eE:List (List Key×V)}{xs:List (List Key×Addr×Value)}(r:KT H eE xs)(k:List Key){y:V}{u:Value}(ry:RelV y u):
  KT H (eE.map λkv=>if kv.1=k then(kv.1,y) else kv) (xs.map (putAt k u)):=by
 induction r with
 |nil=>exact .nil
 | @cons p q ps qs h t ih=>
  rw[GaB,GaB];refine .cons ?_ ih;obtain⟨h1,h2,h3⟩:=h;unfold putAt;by_cases e:p.1=k
  .rw[Gaf e,Gaf (h1.symm.trans e)];exact⟨h1,h2,ry⟩
  .rw[Gag e,Gag (λz=>e (h1.trans z))];exact⟨h1,h2,h3⟩
theorem KT.put{H:Hp}{eE:List (List Key×V)}{xs:List (List Key×Addr×Value)}(r:KT H eE xs)(k:List Key){b:Addr}{y:V}{u:Value}(hb:H b=some (.tup (k.map kV)))(ry:RelV y u):
  KT H (putK eE k y) (storedH xs k b u):=by
 have e:(eE.any λkv=>decide (kv.1=k))=(atKey xs k).isSome:=by
  rw[pT,(r.val k).Di,Option.isSome_map]
 unfold putK storedH;rw[e];by_cases q:(atKey xs k).isSome=true
 .rw[Gaf q,Gaf q];exact r.KY k ry
 .rw[Gag q,Gag q];exact Paired.snoc r ⟨rfl,hb,ry⟩
theorem KT.keeps{H H' :Hp}{eE:List (List Key×V)}{xs:List (List Key×Addr×Value)}(r:KT H eE xs)(ht:∀b ys,H b=some (.tup ys)->H' b=some (.tup ys)):KT H' eE xs:=
 Paired.Kj r λ_ _ z=> ⟨z.1,ht _ _ z.2.1,z.2.2⟩
section
variable{P:Program}{w:World}{H:Hp}{h:Heap}{a:Addr}
theorem K5{u:HO}(ok:HOk P w H h)(e:Rd H a u):bQ P w H h a u:=e.ok ok
theorem t5{eE:List (Key×V)}(ok:HOk P w H h)(e:Rd H a (.dK eE)):eE.length<=sizeLine/\(a==sysModules)=false/\∃vs,KV eE vs/\h.DictOf (bS P w) a vs:=
 show bQ P w H h a (.dK eE) from K5 ok e
theorem Nc{eE:List (Key×V)}(ok:HOk P w H h)(e:H a=some (.dK eE)):eE.length<=sizeLine/\(a==sysModules)=false/\∃vs,KV eE vs/\h.DictOf (bS P w) a vs:=t5 ok (.inl e)
theorem lW{ks:List Key}(ok:HOk P w H h)(e:H a=some (.tup (ks.map kV))):(tupleKind (bS P w)).is h ks a:=by
 obtain⟨_,eI,r,o,h1,h2,n,h3⟩:=(show bQ P w H h a (.tup (ks.map kV)) from ok a _ e)
 exact⟨o,eI.toArray,n,h1,h2,h3,by simpa using sZ r⟩
theorem vG{eE:List (List Key×V)}(ok:HOk P w H h)(e:Rd H a (.dT eE)):eE.length<=sizeLine/\(a==sysModules)=false/\
  ∃xs,KT H eE xs/\h.DictOfH (tupleKind (bS P w)) a xs:=by
 obtain⟨z,y,xs,r,o,es,ep,h1,h2,h3,h4,h5⟩:=(show bQ P w H h a (.dT eE) from K5 ok e)
 refine⟨z,y,xs,r,o,es,ep,h1,h2,h3,h4,λx hx=> ?_,h5⟩;have all:∀{l:List (List Key×V)} {m:List (List Key×Addr×Value)},KT H l m->∀x∈m,(tupleKind (bS P w)).is h x.1 x.2.1:=by
  intro l m q;induction q with
  |nil=>intro x hx;exact nomatch hx
  | @cons p q ps qs hq t ih=>
   intro x hx;rcases GaC.mp hx with e|hx
   .subst e;exact lW ok (by rw[<-hq.1];exact hq.2.1)
   .exact ih x hx
 exact all r x hx
theorem C2{eE:List (List Key×V)}(ok:HOk P w H h)(e:H a=some (.dT eE)):eE.length<=sizeLine/\(a==sysModules)=false/\
  ∃xs,KT H eE xs/\h.DictOfH (tupleKind (bS P w)) a xs:=vG ok (.inl e)
end
def sk(H:Hp)(a:Addr)(y:V)(r:Option V):Prop:=
 (∃eE k,Rd H a (.dK eE)/\y=kV k/\r=gp eE k)\/∃eE k b,Rd H a (.dT eE)/\y= .ref b/\H b=some (.tup (k.map kV))/\r=gp eE k
def vH(H:Hp)(a:Addr)(y v:V)(H' :Hp):Prop:=
 (∃eE k,H a=some (.dK eE)/\y=kV k/\eE.length<sizeLine/\H' =upd H a (.dK (putK eE k v)))\/
 ∃eE k b,H a=some (.dT eE)/\y= .ref b/\H b=some (.tup (k.map kV))/\eE.length<sizeLine/\H' =upd H a (.dT (putK eE k v))
theorem sk.k{H:Hp}{a:Addr}{eE:List (Key×V)}{k:Key}(e:H a=some (.dK eE)):sk H a (kV k) (gp eE k):= .inl ⟨eE,k,.inl e,rfl,rfl⟩
theorem vH.k{H:Hp}{a:Addr}{eE:List (Key×V)}{k:Key}{v:V}(e:H a=some (.dK eE))(hl:eE.length<sizeLine):vH H a (kV k) v (upd H a (.dK (putK eE k v))):= .inl ⟨eE,k,e,rfl,hl,rfl⟩
theorem vH.t{H:Hp}{a b:Addr}{eE:List (List Key×V)}{k:List Key}{v:V}(e:H a=some (.dT eE))(eb:H b=some (.tup (k.map kV)))(hl:eE.length<sizeLine):
  vH H a (.ref b) v (upd H a (.dT (putK eE k v))):= .inr ⟨eE,k,b,e,rfl,eb,hl,rfl⟩
section
variable{X:Cx}{ee:List (Addr×Obj)}{Z:St}{H:Hp}{s:Shared}{a:Addr}{y v:V}{u r:Value}{o:Option V}{A:Around}{E:Value->Shared->Prop}
theorem Inv.big(I:Inv X ee Z H s):sysModules<s.heap.objs.size:=by
 have h:mainGlobals<s.heap.objs.size:=(I.mod.glob.keeps I.bk).lt;exact Nat.lt_trans (by decide) h
theorem Dj{Q:Value->Shared->Prop}(hu:A.units+1<cLine)(I:Inv X ee Z H s)(g:sk H a y (some v))(ry:RelV y u)(h:∀w' s',Inv X ee Z H s' ->RelV v w' ->Q w' s'):
  wpAny (model X.prog X.w) A (getItem (.ref a) u) Q E s:=by
 rcases g with⟨eE,k,e,ey,l⟩| ⟨eE,k,b,e,ey,eb,l⟩
 .subst ey;obtain⟨z,hd,vs,rel,dd⟩:=t5 I.hok e;obtain⟨w',hw,xy⟩:=nR.some_of (v:=v) (o:=valueAt vs k) (by rw[l];exact rel.val k);exact wpAny_getItem_of (C1 ry) dd.mapOf hw (h w' _ (I.tok _) xy)
 .subst ey;cases(show u=Value.ref b from ry);obtain⟨z,hd,xs,rel,dd⟩:=vG I.hok e;obtain⟨w',hw,xy⟩:=nR.some_of (v:=v) (o:=(atKey xs k).map (·.2)) (by rw[l];exact rel.val k);obtain⟨p,hp,xv⟩:=Gap.mp hw;refine wpAny_getItem_heap (Gdd hu) (lW I.hok eb) dd hp ?_;rw[xv];exact h w' _ (I.tok _) xy
theorem pG{h' :Heap}{t' :Nat}{ob:HO}(I:Inv X ee Z H s)(mu:Mut (H a))(hs:Heap.SameBut a s.heap h')(he:∃q,h'.get? a=some q)(new:bQ X.prog X.w (upd H a ob) h' a ob):
  Inv X ee Z (upd H a ob) {s with heap:=h',toks:=t' }:=
 I.write (x:=a) (e:=a) mu (.inl rfl) (λb q hb z=>(hs.2 b hb).trans z) he new
theorem KZ{P:Program}{w:World}{H' :Hp}{h' :Heap}{eE:List (Key×V)}{vs:List (Key×Value)}(z:eE.length<=sizeLine)(hd:(a==sysModules)=false)(rel:KV eE vs)(dd:h'.DictOf (bS P w) a vs):
  bQ P w H' h' a (.dK eE):=⟨z,hd,vs,rel,dd⟩
theorem Dk{H' :Hp}{Q:Unit->Shared->Prop}(hu:A.units+1<cLine)(I:Inv X ee Z H s)(g:vH H a y v H')(ry:RelV y u)(rv:RelV v r)(h:∀s',Inv X ee Z H' s' ->Q () s'):
  wpAny (model X.prog X.w) A (setItem (.ref a) u r) Q E s:=by
 rcases g with⟨eE,k,e,ey,l,eH⟩| ⟨eE,k,b,e,ey,eb,l,eH⟩
 .subst ey eH;obtain⟨z,hd,vs,rel,dd⟩:=Nc I.hok e;have hz:vs.length<=sizeLine:=by rw[<-rel.length];exact z
  have hl:(putK eE k v).length<=sizeLine:=by have:=k7 eE k v;lia
  refine wpAny_setItem_pairs (hsz:=hz) (C1 ry) dd λh' zu hs=>h _ ?_;have he:∃q,h'.get? a=some q:=let⟨q,_,_,hq,_⟩:=zu;⟨q,hq⟩
  exact pG I (by rw[e];exact True.intro) hs he (KZ hl hd (rel.put k rv) zu)
 .subst ey eH;cases(show u=Value.ref b from ry);obtain⟨z,hd,xs,rel,dd⟩:=C2 I.hok e;have hz:xs.length<=sizeLine:=by rw[<-Paired.length rel];exact z
  have hl:(putK eE k v).length<=sizeLine:=by have:=k7 eE k v;lia
  refine wpAny_setItem_heap (hsz:=hz) (Gdd hu) (lW I.hok eb) dd λh' zu hs=>h _ ?_;obtain⟨q,es,ep,hq,h2,h3,h4,_,h5⟩:=zu;refine pG I (by rw[e];exact True.intro) hs ⟨q,hq⟩ ⟨hl,hd,_,(rel.put k eb rv).keeps λc ys ec=> ?_,q,es,ep,hq,h2,h3,h4,h5⟩;rw[ah (BP ec e (λz=>nomatch z))];exact ec
end
section
variable{X:Cx}{ee:List (Addr×Obj)}{Z:St}{H:Hp}{s:Shared}{a:Addr}{eE:List (Key×V)}{k:Key}{u:Value}{A:Around}{E:Value->Shared->Prop}
theorem Nd{Q:Value->Shared->Prop}(I:Inv X ee Z H s)(e:Rd H a (.dK eE))(h:∀t s',Inv X ee Z H s' ->Q (.int eE.length t) s'):wpAny (model X.prog X.w) A (call (.builtin "len") [.ref a]) Q E s:=by
 obtain⟨z,hd,vs,rel,dd⟩:=t5 I.hok e;refine call_len_dict hd dd (by rw[<-rel.length];rw[GbN] at z;lia) ?_;rw[<-rel.length];exact h _ _ (I.tok _)
end
theorem vI{X:Cx}{ee:List (Addr×Obj)}{Z:St}{H:Hp}{s:Shared}{a:Addr}{y:V}{o:Option V}(I:Inv X ee Z H s)(g:sk H a y o):s.TypeIs (.ref a) "dict":=by
 rcases g with⟨eE,k,e,_,_⟩| ⟨eE,k,b,e,_,_,_⟩
 .obtain⟨_,_,vs,_,dd⟩:=t5 I.hok e;exact dd.typeIs
 .obtain⟨_,_,xs,_,dd⟩:=vG I.hok e;exact dd.typeIs
theorem F7{P:Program}{w:World}{H:Hp}(h:Heap)(hb:sysModules<h.objs.size):bQ P w H (h.push {cls:= .type "dict",data:= .dict #[]}) h.objs.size (.dT []):=
 ⟨GbB _,beq_eq_false_iff_ne.mpr (Ne.symm (GaO hb)),[],.nil,_,#[],0,GaJ _ rfl,⟨rfl,rfl,rfl⟩,rfl,rfl,List.nodup_nil⟩
def L0:TE:=λ_ H Q=>∀p,H p=none->Q (.ref p) (upd H p (.dT []))
section
variable{X:Cx}{pos:Pos}
theorem vJ:PE X (.Dict [] [] pos) L0:=λee s Z H Q I h=>
 wpAny_Dict_empty ⟨.ref s.heap.objs.size,_,I.laid (a:=s.heap.objs.size) (o:= .dT []) (t' :=s.toks) (λ_ _ q=>Gai _ q) (Gaq _) (F7 s.heap I.big),rfl,h _ (I.hok.fresh (Gaq _))⟩
end
structure M2(X:Cx)(o:Expr)(m:Str)(apos:Pos)(e f:Expr)(eM:Pos):Prop where
 base:attributeBase o m X.env (eval o X.env)=eval o X.env
 few:((backTo eM (starEach [e,f] X.env)).all (λx=> !x.1)&&(backToKw eM (keywordEach [] X.env)).all (λx=>x.1.isSome)
  &&decide (([e,f]:List Expr).length+([]:List Keyword).length+(if([]:List Keyword).isEmpty then 0 else 1)<30))=true
 line:(apos.endLine==eM.line)=true
 trees:backTo eM (starEach [e,f] X.env)=[(false,eval e X.env),(false,eval f X.env)]
def IsD(H:Hp)(a:Addr):Prop:=(∃eE,Rd H a (.dK eE))\/∃eE,Rd H a (.dT eE)
theorem AJ{X:Cx}{ee:List (Addr×Obj)}{Z:St}{H:Hp}{s:Shared}{a:Addr}(I:Inv X ee Z H s)(d:IsD H a):
  s.TypeIs (.ref a) "dict"/\(∀b,Value.ref a= .ref b->∃ob,s.heap.get? b=some ob/\ob.dict=none)/\(a==sysModules)=false:=by
 rcases d with⟨eE,e⟩| ⟨eE,e⟩
 .obtain⟨_,hd,vs,_,dd⟩:=t5 I.hok e;refine⟨dd.typeIs,λb q=> ?_,hd⟩;cases q;obtain⟨ob,_,_,h1,h2,_⟩:=dd;exact⟨ob,h1,h2.2.1⟩
 .obtain⟨_,hd,xs,_,dd⟩:=vG I.hok e;refine⟨dd.typeIs,λb q=> ?_,hd⟩;cases q;obtain⟨ob,_,_,h1,h2,_⟩:=dd;exact⟨ob,h1,h2.2.1⟩
section
variable{X:Cx}{ee:List (Addr×Obj)}{Z:St}{H:Hp}{s:Shared}{a:Addr}{y d:V}{u r:Value}{o:Option V}{A:Around}{E:Value->Shared->Prop}
theorem L1{Q:Value->Shared->Prop}(hu:A.units+1<cLine)(I:Inv X ee Z H s)(g:sk H a y o)(ry:RelV y u)(rd:RelV d r)(h:∀w' s',Inv X ee Z H s' ->RelV (o.getD d) w' ->Q w' s'):
  wpAny (model X.prog X.w) A (call (.builtin "dict.get") [.ref a,u,r]) Q E s:=by
 rcases g with⟨eE,k,e,ey,l⟩| ⟨eE,k,b,e,ey,eb,l⟩
 .subst ey;obtain⟨z,hd,vs,rel,dd⟩:=t5 I.hok e;refine call_meetsIn GdE dd.typeIs PySem.F.entry_dict_get (PySem.F.args_dict_get_3 _ _ _) (meets_dict_get_default (bS X.prog X.w) a (C1 ry) hd r) ⟨_,dd.mapOf,h _ _ (I.tok _) ?_⟩;rw[l];exact(rel.val k).getD rd
 .subst ey;cases(show u=Value.ref b from ry);obtain⟨z,hd,xs,rel,dd⟩:=vG I.hok e;refine call_meetsIn GdE dd.typeIs PySem.F.entry_dict_get (PySem.F.args_dict_get_3 _ _ _) (meetsH_dict_get_default (tupleKind (bS X.prog X.w)) a b hd r) ⟨Gdd hu,k,xs,lW I.hok eb,dd,h _ _ (I.tok _) ?_⟩;rw[l];exact(rel.val k).getD rd
end
def L4(td ty tx:TE):TE:=λZ H Q=>td Z H λx H1=>∃a,x= .ref a/\IsD H1 a/\ty Z H1 λy H2=>tx Z H2 λz H3=>∃o,sk H3 a y o/\Q (o.getD z) H3
section
variable{X:Cx}{o e f:Expr}{apos eM:Pos}{td ty tx:TE}
theorem F8(hu:X.A.units+1<cLine)(ho:PE X o td)(he:PE X e ty)(hf:PE X f tx)(m:M2 X o "get" apos e f eM):PE X (.Call (.Attribute o "get" apos) [e,f] [] eM) (L4 td ty tx):=by
 intro ee s Z H Q I h;refine wpAny_Call_method m.base m.few m.line Gdl GdE PySem.F.type_dict_get (thn (ho ee s Z H _ I h) λu s1 ⟨x,H1,I1,rx,a,ex,d,q1⟩=> ?_);subst ex;obtain rfl:u=Value.ref a:=rx;obtain⟨t1,t2,_⟩:=AJ I1 d;refine⟨t1,t2, ?_⟩;rw[m.trees];refine GcG rfl (GdK (GcC (thn (he ee s1 Z H1 _ I1 q1) λiv s2 ⟨y,H2,I2,ry,q2⟩=>
  GcC (thn (hf ee s2 Z H2 _ I2 q2) λfv s3 ⟨z,H3,I3,rz,ov,g,q3⟩=>Calls.spliced_nil ?_))))
 exact L1 hu I3 g ry rz λw' s4 I4 xy => ⟨_,H3,I4,xy,q3⟩
end
end L2
namespace Att
open PySem PySem.W PySem.Calls PyProof.Rows
theorem pw{P:Params}{h:Heap}:∀(ns:List Int) (vs:List Value),WellAll P h vs (ns.map WData.int)->IntsAre vs ns:=by
 intro ns;induction ns with
 |nil=>
  intro vs w;rw[GdX] at w;cases w;exact .nil
 |cons n ns ih=>
  intro vs w;rw[GaB] at w;cases w with
  |cons a b=>
   cases a;exact .cons _ _ (ih _ b)
theorem Dl{l:OpenLaw}{n:Nat}(hn:l.most=some n){P:Params}{h:Heap}{args:List WData}{vals:List Value}
  (yz:l.row.toRowW.claim.pre args=true)(QF:WellAll P h vals args):
  ∃a vs ns,vals=[Value.ref a]/\args=[WData.list (ns.map WData.int)]/\h.get? a=some {cls:= .type "list",data:= .seq vs.toArray}/\IntsAre vs ns/\ns.length<=n:=by
 have hsh:WShape.hasAll [] args [.list .int]=true:=(pre_splitW yz).1;have hc:l.pre.holds [] {args:=args}=true:=(pre_splitW yz).2;obtain⟨d,r,rfl,h1,h2⟩:=hasAllW_cons hsh;obtain rfl:=hasAllW_nil h2;obtain⟨xs,rfl,h3⟩:=hasW_list h1;obtain⟨ns,rfl⟩:=items_int h3;have eO:ns.length<=n:=by
  unfold OpenLaw.pre at hc;have h4:(WTm.not (.lt (.lit (.int (n:Int))) (.len (.arg 0)))).holds [] {args:=[.list (ns.map .int)]}=true:=by
   have h4:=(holds_andW hc).1;rw[hn] at h4;exact h4
  have h5:=condW_of h4 (w_not (w_lt w_lit (w_len_list (w_arg rfl))));rw[Gac] at h5;refine Nat.le_of_not_lt λq=> ?_;have q' :(n:Int)<((ns.length:Nat):Int):=by lia
  first
   |(rw[Gaz q'] at h5;exact absurd h5 (by decide))
   |(simp at h5;lia)
 cases QF with
 |cons w1 w2=>
  cases w2;cases w1 with
  |list ho hall=>exact⟨_,_,ns,rfl,rfl,ho,pw ns _ hall,eO⟩
theorem Dm(l:OpenLaw)(args:List WData):l.row.toRowW.claim.post args (.bool true) args=true:=
 postW_of (r:=l.row.toRowW) (X:=(true==true))
  (show WShape.has [] (.bool true) .bool=true by first|rfl|decide|simp[WShape.has,WShape.arms,WShape.armsAll])
  (show(WTm.eq .res (.lit (.bool true))).value [] {args:=args,res:=some (.bool true),after:=args}=some (.bool (true==true)) from w_eq_bool (w_res rfl) w_lit) rfl
theorem vK{l:OpenLaw}{n:Nat}{q:Program}{loose:List Str}{XP:(Str->Option Value)->Heap->Prop}{YP:World->Heap->Prop}{d:DefRec}
  (hn:l.most=some n)(zH:d.params.defaults=[])
  (call:∀(w:World) (s₀ s₁:Shared) (mg mb:Str->Option Value) (fa:Addr) (o:Obj) (pm cd doc:Value) (a:Addr) (vs:List Value) (ns:List Int),
   Ground q loose [] XP w s₀ mg mb s₁.heap->YP w s₁.heap->
   s₁.heap.get? fa=some o->o.data= .func (docDef d.name d.params d.body d.scope pm cd doc)->s₁.heap.CodeRec cd d.name->mg d.name=some (.ref fa)->
   s₁.heap.get? a=some {cls:= .type "list",data:= .seq vs.toArray}->IntsAre vs ns->ns.length<=n->s₁.gens=#[]->
   codeAny (model l.prog w) callerA (.call (.ref fa) ⟨[.ref a],[]⟩) (λr s' =>r= .ok (.ret (.bool true))/\OldK s₁.heap s'.heap/\s'.os=s₁.os/\AllBare s'.gens) s₁):
  WalkO q loose XP YP l.row.toRowW d [] (λf vs=>PySem.call f vs):=by
 intro w s₀ s₁ mg mb G Y fa o pm cd doc dV kV ho hd xn hD zE hg args vals as yz hlay hrd QF QR;obtain rfl:dV= .none:=Dflts.none hD zH;obtain rfl:kV= .none:=Dflts.noKw hD;obtain⟨a,vs,ns,rfl,rfl,z0,hints,eO⟩:=Dl hn yz QF;refine enter_call (codeAny_mono (call w s₀ s₁ mg mb fa o pm cd doc a vs ns G Y ho (fd_plain hd) xn zE z0 hints eO hg) λr s' hq=> ?_);obtain⟨rfl,h2,h3,h4⟩:=hq;exact⟨.inl ⟨.bool true,.bool true,[],rfl,λ_=>rfl,.bool true,Dm l _,λ_=> ⟨List.Pairwise.nil,λ_ hm=>(nomatch hm)⟩⟩,h2,h3,h4⟩
end Att
namespace L2
open PySem PySem.Spec PyProof.Rows
theorem kQ:∀{vs:List Value} {ns:List Int},IntsAre vs ns->Vals (ns.map V.int) vs
 |_,_,.nil=> .nil
 |_,_,.cons n t h=> .cons ⟨t,rfl⟩ (kQ h)
def Io(H:Hp):Prop:=∀b,H b=none\/∃o xs,H b=some (.frz o (.lst xs))
theorem F9{P:Program}{w:World}{K:PySem.W.Frag}{mg mb:Str->Option Value}{CX:CXT}{k:Nat}{fa a:Addr}{fd:FuncData}{x:Str}{sp:Sp}{s₁:Shared}{vs:List Value}{ns:List Int}
  (KX:K.In s₁.heap)(Qc:s₁.heap.Ns mainGlobals mg)(hb:s₁.heap.Ns builtinsNs mb)(QY:∀x:Str,x≠"__name__"->mb x=bootBuiltins x)(QS:s₁.heap.NoLimit)(hg:s₁.gens=#[])
  (ha:s₁.heap.get? a=some {cls:= .type "list",data:= .seq vs.toArray})(hi:IntsAre vs ns)(hl:ns.length<=sizeLine)(hr:gL k callerA)
  (F:∀base:Heap,K.In base->base.Ns mainGlobals mg->mL P w K mg base CX k fa fd [x] sp)(zK:∀(s:Shared) (u:Value),BindsTo s fd ⟨[u],[]⟩ [(x,u)])
  (yH:∀H:Hp,Io H->SqL K H a (ns.map V.int)->sp [.ref a] H (λv _=>v= .bl true) λ_ _ _=>False)
  (R6:∀H e s',CX [] H s₁ (λ_ _ _=>False) e s' ->False):
  codeAny (model P w) callerA (.call (.ref fa) ⟨[.ref a],[]⟩) (λr s' =>r= .ok (.ret (.bool true))/\OldK s₁.heap s'.heap/\s'.os=s₁.os/\AllBare s'.gens) s₁:=by
 have rv:=kQ hi;have lenV:=hi.length;have core:∀H:Hp,Io H->SqL K H a (ns.map V.int)->HOk P w H s₁.heap->(∀b,H b≠none->b=a)->(H a≠none->K.lookup a=none)->
   codeAny (model P w) callerA (.call (.ref fa) ⟨[.ref a],[]⟩) (λr s' =>r= .ok (.ret (.bool true))/\OldK s₁.heap s'.heap/\s'.os=s₁.os/\AllBare s'.gens) s₁:=by
  intro H hO hS hok hA hK;have base_of:∀{b:Addr} {o:Obj},s₁.heap.get? b=some o->H b=none->(uj s₁.heap H).get? b=some o:=λe n=>EI e n;have noA:∀{b:Addr} {o:Obj} {es:Array DictEntry} {ep:Nat},s₁.heap.get? b=some o->o.data= .dict es ep->H b=none:=λ{b o es ep} e d=>by
   cases q:H b with
   |none=>rfl
   |some u=>
    have e' :b=a:=hA b (by rw[q];simp);subst e';rw[ha] at e;cases e
    have d' :Data.seq vs.toArray _=Data.dict es ep:=d;cases d'
  have nsK:∀{b:Addr} {m:Str->Option Value},s₁.heap.Ns b m->(uj s₁.heap H).Ns b m:=λ{b m} ⟨o,es,ep,e,d,r⟩=> ⟨o,es,ep,base_of e (noA e d),d,r⟩;have RJ:K.In (uj s₁.heap H):=λb o e=>base_of (KX b o e) (by
   cases q:H b with
   |none=>rfl
   |some u=>
    have e' :b=a:=hA b (by rw[q];simp);subst e';rw[hK (by rw[q];simp)] at e;cases e)
  have hM:Mod K mg (uj s₁.heap H):=⟨RJ,nsK Qc,⟨mb,nsK hb,QY⟩,let⟨mc,h1,h2⟩:=QS;⟨mc,nsK h1,h2⟩⟩
  have e0:Ia P w K mg (uj s₁.heap H) callerA [] s₁ H:=⟨rfl,hM,λb o e=>HK e,Nat.le_of_eq (D4 _ _),trivial,λb hb=>absurd (show b∈([]:List Addr) from hb) (by simp),hok,.of_eq hg⟩
  refine codeAny_mono ((F _ RJ (nsK Qc)).run callerA [] s₁ H ⟨[.ref a],[]⟩ [.ref a] [.ref a] _ _ hr e0 (zK s₁ (.ref a)) (.cons rfl .nil) (yH H hO hS)) λr s' h=> ?_;cases r with
  |error e=>exact(R6 H e s' h).elim
  |ok fl=>
   cases fl with
   |next=>exact False.elim h
   |brk=>exact False.elim h
   |cont=>exact False.elim h
   |ret u=>
    obtain⟨v,H',os,bare,un,yB,r',q⟩:=h;have q' :v= .bl true:=q;subst q';obtain rfl:u=Value.bool true:=r';refine⟨rfl,OldK.of_keep λb o e=> ?_,os,bare⟩;cases q:H b with
    |none=>exact un.keep b o e q (by intro z;exact absurd (show b∈([]:List Addr) from z) (by simp)) (by simp)
    |some u=>
     rcases hO b with z| ⟨ob,xs,z⟩
     .rw[q] at z;cases z
     .have z2:=un.rZ b ob _ z;obtain⟨e1,_⟩:=hok b _ z;obtain⟨e2,_⟩:=yB b _ z2;rw[e] at e1;cases e1
      exact e2
 cases hk:K.lookup a with
 |some o=>
  have e:=KX a o hk;rw[ha] at e;cases e;refine core (λ_=>none) (λ_=> .inl rfl) (.inr ⟨_,vs.toArray,_,hk,rfl,rfl,rfl,by rw[Gam,lenV];exact hl,by simpa using rv⟩) (λb u z=>by have z' :(none:Option HO)=some u:=z;cases z') (λb z=>absurd rfl z) λz=>absurd rfl z
 |none=>
  refine core (λb=>if b=a then some (.frz {cls:= .type "list",data:= .seq vs.toArray} (.lst (ns.map V.int))) else none) (λb=> ?_) (.inl (.inr ⟨{cls:= .type "list",data:= .seq vs.toArray},Gaf rfl⟩)) (λb u z=> ?_) (λb z=> ?_) λ_=>hk
  .by_cases hb:b=a
   .exact .inr ⟨_,_,Gaf hb⟩
   .exact .inl (Gag hb)
  .by_cases hb:b=a
   .have z' :=(Gaf hb).symm.trans z;cases z';subst hb;exact⟨ha,by rw[Gac];exact hl,vs,_,rv,ha⟩
   .have z' :=(Gag hb).symm.trans z;cases z'
  .by_cases hb:b=a
   .exact hb
   .exact absurd (Gag hb) z
theorem Ip{l:PySem.W.OpenLaw}{n k:Nat}{q:Program}{loose:List Str}{XP:(Str->Option Value)->Heap->Prop}{YP:World->Heap->Prop}{d:DefRec}{K:Params->PySem.W.Frag}{CX:World->CXT}{sp:World->Sp}{x:Str}
  (hn:l.most=some n)(zD:n<=sizeLine)(zH:d.params.defaults=[])(hr:gL k callerA)
  (hY:∀(w:World) (h:Heap),YP w h->(K w.params).In h)
  (F:∀(w:World) (mg:Str->Option Value) (fa:Addr) (h:Heap),(K w.params).In h->h.Ns mainGlobals mg->mg d.name=some (.ref fa)->
   ∃fd:FuncData,(∀(s:Shared) (u:Value),BindsTo s fd ⟨[u],[]⟩ [(x,u)])/\
    ∀base:Heap,(K w.params).In base->base.Ns mainGlobals mg->mL l.prog w (K w.params) mg base (CX w) k fa fd [x] (sp w))
  (yH:∀(w:World) (H:Hp) (a:Addr) (ns:List Int),ns.length<=n->Io H->SqL (K w.params) H a (ns.map V.int)->sp w [.ref a] H (λv _=>v= .bl true) λ_ _ _=>False)
  (R6:∀(w:World) (H:Hp) (s:Shared) (e:Value) (s' :Shared),CX w [] H s (λ_ _ _=>False) e s' ->False):
  PySem.W.WalkO q loose XP YP l.row.toRowW d [] (λf vs=>PySem.call f vs):=by
 refine Att.vK hn zH λw s₀ s₁ mg mb fa o pm cd doc a vs ns G Y ho hd xn zE z0 hints eO hg=> ?_;have KX:=hY w _ Y;obtain⟨fd,hb,hF⟩:=F w mg fa _ KX G.T.g zE;exact F9 KX G.T.g G.T.b G.T.builtins G.T.nolimit hg z0 hints (Gbh eO zD) hr hF hb (λH hO hS=>yH w H a ns eO hO hS) λH e s' =>R6 w H s₁ e s'
noncomputable def kR(s:Stmt):Arguments:=match s with
 | .FunctionDef _ a _ _ _ _ _ _ _ _=>a
 |_=>{posonlyargs:=[],args:=[],vararg:=none,kwonlyargs:=[],kw_defaults:=[],kwarg:=none,defaults:=[]}
noncomputable def gB(s:Stmt):List Stmt:=match s with
 | .FunctionDef _ _ b _ _ _ _ _ _ _=>b
 |_=>[]
noncomputable def bz(s:Stmt):Scope:=match s with
 | .FunctionDef _ _ _ _ _ _ sc _ _ _=>sc
 |_=>{kind:= .function,names:=[],isGenerator:=false,isCoroutine:=false}
noncomputable abbrev CX0:CXT:=λ_ _ _ _ _ _=>False
noncomputable abbrev E0:XK:=λ_ _ _=>False
theorem Nf{X:Cx}:Passes CX0 X E0:=λ_ _ _ _ _ _ _ h=>h.elim
structure Fun(K:PySem.W.Frag)(x qual:Str)(st:Stmt)(f:Addr)(fd:FuncData):Prop where
 ex:∃(oc:Value) (od:Option Addr) (kV doc pm:Value) (an:Option Addr) (xb ct:Value) (yQ:Array (Option Value)),
  fd=PySem.W.fnOf x qual (kR st) (gB st) (bz st) .none kV doc pm an xb ct/\K.lookup f=some ⟨oc,od,.func fd,yQ⟩/\PySem.W.codeIn K xb qual=true
 kp:PySem.W.keepIn K (.ref f)=true
section
variable{P:Program}{w:World}{K:PySem.W.Frag}{mg:Str->Option Value}{base:Heap}
theorem Fun.ok{x qual:Str}{st:Stmt}{f:Addr}{fd:FuncData}{N ps:List Str}{k:Nat}{sp:Sp}(F:Fun K x qual st f fd)(S:jz N ps (bz st))(len:∀vs H Q E,sp vs H Q E->vs.length=ps.length)
  (xD:∀(xb:Value) (A:Around) (outer:List Env) (s:Shared) (H:Hp) (vs:List V) (Q:VK) (E:XK),gL k (A.deeper (envOfC qual (bz st) s.heap.objs.size f xb))->sp vs H Q E->
   ∃t,PSs (vA CX0 P w K mg base N qual (bz st) f xb A outer s H E).nox (gB st) t/\t {nx:=λ_ H' =>Q .non H',rt:=Q} (start N vs) H):mL P w K mg base CX0 (k+1) f fd ps sp:=by
 obtain⟨oc,od,kV,doc,pm,an,xb,ct,yQ,rfl,lk,xn⟩:=F.ex;refine N6 lk xn S len λA outer s H vs Q E hr yH=> ?_;obtain⟨t,h,q⟩:=xD xb A outer s H vs Q E hr yH;exact⟨t,h.nox,q⟩
theorem L5{x qual:Str}{st:Stmt}{f:Addr}{oc:Value}{od an:Option Addr}{yQ:Array (Option Value)}{kV doc pm xb ct:Value}(l:K.lookup f=some ⟨oc,od,.func (PySem.W.fnOf x qual (kR st) (gB st) (bz st) .none kV doc pm an xb ct),yQ⟩)
  (c:PySem.W.codeIn K xb qual=true)(k:PySem.W.keepIn K (.ref f)=true):Fun K x qual st f (PySem.W.fnOf x qual (kR st) (gB st) (bz st) .none kV doc pm an xb ct):=⟨⟨oc,od,kV,doc,pm,an,xb,ct,yQ,rfl,l,c⟩,k⟩
end
theorem Ng{A:Around}{k:Nat}(hr:gL k A):A.units+1<cLine:=GbK (Nat.add_le_add_left (by decide:1<=64) _) hr.units
def bR(H H' :Hp):Prop:=∀b o,H b=some o->H' b=some o
theorem bR.trans{H H1 H2:Hp}(a:bR H H1)(b:bR H1 H2):bR H H2:=λc o h=>b c o (a c o h)
theorem bR.free{H H' :Hp}(e:bR H H'){l:Addr}(h:H' l=Option.none):H l=Option.none:=by
 cases q:H l with
 |none=>rfl
 |some o=>
  rw[e l o q] at h;cases h
end L2
namespace Hd
noncomputable section
open PySem PySem.W PyProof.Rows L2
abbrev p0:=PySem.Challenge.pw_dosehouse_k46_whole_fewer_and_lesser_sta
noncomputable def top(i:Nat):Stmt:=p0.main.body.getD i (.Pass ⟨0,0,0,0⟩)
def view:Program:={p0 with main:={p0.main with body:=[1,3,4,6,8,10,11,12,13,14,15,16,17,18,20,21,22,23,24,25,26,27,28,29,30,31,32,33,34,35,36,37,38,39,40,41].map top}}
abbrev fd(n:Str)(i:Nat)(m:Str)(t c:Nat):FuncData:=fnOf n n (kR (top i)) (gB (top i)) (bz (top i)) .none .none .none (.str m t) none (.ref c) .none
def fo(d:FuncData):Obj:=⟨.type "function",none,.func d,#[]⟩
def co(n:Str)(t l k a:Nat)(x y:Value)(b u:Nat):Obj:={cls:= .type "code",data:= .fields #[.str n t,.str n (t+1),.str "/claim/cut.py" (t+2),.int l 0,.int k 0,.int 0 0,.int 0 0,.int 3 0,.ref a,.bool true,.int 181 0,.ref (a+1),.none,x,y,.ref b,.int u 0,.int l 0,.str "/claim/cut.py" (u+1)]}
def e(P:Params)(n:Str)(t:Nat)(v:Value):DictEntry:=⟨PyData.keyHash P n,.str n t,v⟩
def r(P:Params)(n:Str)(t a:Nat):DictEntry:=e P n t (.ref a)
abbrev m0:Str:="dosehouse.bounds"
abbrev m1:Str:="dosehouse.dues"
abbrev m2:Str:="dosehouse.faults"
abbrev m3:Str:="dosehouse.weights"
abbrev m4:Str:="dosehouse.windows"
abbrev m5:Str:="law_dosehouse_k46_whole_fewer_and_lesser_sta"
abbrev C3:=fd "bound" 1 m0 187 20
abbrev vL:=fd "due_of" 3 m1 197 27
abbrev vM:=fd "astray" 4 m1 197 34
abbrev oR:=fd "weight_at" 6 m3 219 41
abbrev Fb:=fd "sums" 8 m4 232 48
abbrev j9:=fd "goes_by_weight" 10 m2 248 53
abbrev lu:=fd "lone_faults" 11 m2 248 58
abbrev iC:=fd "marks_by_target" 12 m2 248 65
abbrev mN:=fd "cap_faults" 13 m2 248 72
abbrev ja:=fd "gaps_by_stuffs" 14 m2 248 79
abbrev lA:=fd "gap_between" 15 m2 248 86
abbrev mO:=fd "gap_faults" 16 m2 248 91
abbrev k8:=fd "twice_faults" 17 m2 248 96
abbrev pU:=fd "faults" 18 m2 248 103
abbrev lX:=fd "_law_draw" 20 m5 333 110
abbrev lY:=fd "_law_caps" 21 m5 333 117
abbrev mP:=fd "_law_stuffs" 22 m5 333 124
abbrev pV:=fd "_law_bars" 23 m5 333 131
abbrev pW:=fd "_law_dues" 24 m5 333 138
abbrev k9:=fd "_law_world" 25 m5 333 145
abbrev pX:=fd "_law_hour" 26 m5 333 152
abbrev mQ:=fd "_law_amount" 27 m5 333 159
abbrev iP:=fd "_law_weights" 28 m5 333 164
abbrev iQ:=fd "_law_givings" 29 m5 333 169
abbrev mR:=fd "_law_weight" 30 m5 333 176
abbrev t6:=fd "_law_due" 31 m5 333 183
abbrev mS:=fd "_law_single" 32 m5 333 188
abbrev oS:=fd "_law_bound" 33 m5 333 195
abbrev oT:=fd "_law_total" 34 m5 333 202
abbrev pY:=fd "_law_over" 35 m5 333 209
abbrev pZ:=fd "_law_near" 36 m5 333 214
abbrev lB:=fd "_law_doubled" 37 m5 333 219
abbrev t7:=fd "_law_all" 38 m5 333 226
abbrev oU:=fd "_law_sound" 39 m5 333 233
abbrev q9:=fd "_law_none" 40 m5 333 240
abbrev Fc:=fd "law" 41 m5 333 247
def K(P:Params):Frag:=[(3,{cls:= .type "dict",data:= .dict #[e P "__name__" 165 (.str "law_dosehouse_k46_whole_fewer_and_lesser_sta" 333),e P "__doc__" 166 (.none),e P "__package__" 167 (.none),e P "__loader__" 168 (.builtin "__main__.__loader__#opaque"),e P "__spec__" 169 (.none),r P "__annotations__" 170 6,r P "__builtins__" 171 4,e P "__file__" 173 (.str "/claim/cut.py" 172),e P "__cached__" 174 (.none),r P "bound" 196 21,r P "due_of" 209 28,r P "astray" 218 35,r P "weight_at" 231 42,r P "sums" 247 49,r P "goes_by_weight" 255 54,r P "lone_faults" 261 59,r P "marks_by_target" 272 66,r P "cap_faults" 290 73,r P "gaps_by_stuffs" 299 80,r P "gap_between" 308 87,r P "gap_faults" 314 92,r P "twice_faults" 320 97,r P "faults" 332 104,r P "_law_draw" 344 111,r P "_law_caps" 360 118,r P "_law_stuffs" 374 125,r P "_law_bars" 388 132,r P "_law_dues" 401 139,r P "_law_world" 420 146,r P "_law_hour" 435 153,r P "_law_amount" 448 160,r P "_law_weights" 454 165,r P "_law_givings" 460 170,r P "_law_weight" 471 177,r P "_law_due" 480 184,r P "_law_single" 486 189,r P "_law_bound" 494 196,r P "_law_total" 509 203,r P "_law_over" 526 210,r P "_law_near" 532 215,r P "_law_doubled" 538 220,r P "_law_all" 547 227,r P "_law_sound" 560 234,r P "_law_none" 569 241,r P "law" 582 248] 45}),
 (21,fo C3),(20,co "bound" 189 2 2 15 (.ref 17) (.ref 18) 19 194),
 (28,fo vL),(27,co "due_of" 199 11 2 22 (.ref 24) (.ref 25) 26 207),
 (35,fo vM),(34,co "astray" 210 20 2 29 (.ref 31) (.ref 32) 33 216),
 (42,fo oR),(41,co "weight_at" 221 26 3 36 (.ref 38) (.ref 39) 40 229),
 (49,fo Fb),(48,co "sums" 234 33 2 43 (.ref 45) (.ref 46) 47 245),
 (54,fo j9),(53,co "goes_by_weight" 250 47 1 50 (.none) (.none) 52 253),
 (59,fo lu),(58,co "lone_faults" 256 49 3 55 (.none) (.none) 57 259),
 (66,fo iC),(65,co "marks_by_target" 262 67 2 60 (.ref 62) (.ref 63) 64 270),
 (73,fo mN),(72,co "cap_faults" 273 73 3 67 (.ref 69) (.ref 70) 71 288),
 (80,fo ja),(79,co "gaps_by_stuffs" 291 84 1 74 (.ref 76) (.ref 77) 78 297),
 (87,fo lA),(86,co "gap_between" 300 90 3 81 (.ref 83) (.ref 84) 85 306),
 (92,fo mO),(91,co "gap_faults" 309 94 2 88 (.none) (.none) 90 312),
 (97,fo k8),(96,co "twice_faults" 315 107 2 93 (.none) (.none) 95 318),
 (104,fo pU),(103,co "faults" 321 114 2 98 (.ref 100) (.ref 101) 102 330),
 (111,fo lX),(110,co "_law_draw" 335 122 3 105 (.ref 107) (.ref 108) 109 342),
 (118,fo lY),(117,co "_law_caps" 345 127 4 112 (.ref 114) (.ref 115) 116 358),
 (125,fo mP),(124,co "_law_stuffs" 361 141 2 119 (.ref 121) (.ref 122) 123 372),
 (132,fo pV),(131,co "_law_bars" 375 150 3 126 (.ref 128) (.ref 129) 130 386),
 (139,fo pW),(138,co "_law_dues" 389 159 3 133 (.ref 135) (.ref 136) 137 399),
 (146,fo k9),(145,co "_law_world" 402 167 1 140 (.ref 142) (.ref 143) 144 418),
 (153,fo pX),(152,co "_law_hour" 421 185 4 147 (.ref 149) (.ref 150) 151 433),
 (160,fo mQ),(159,co "_law_amount" 436 198 4 154 (.ref 156) (.ref 157) 158 446),
 (165,fo iP),(164,co "_law_weights" 449 205 3 161 (.none) (.none) 163 452),
 (170,fo iQ),(169,co "_law_givings" 455 214 3 166 (.none) (.none) 168 458),
 (177,fo mR),(176,co "_law_weight" 461 223 3 171 (.ref 173) (.ref 174) 175 469),
 (184,fo t6),(183,co "_law_due" 472 229 2 178 (.ref 180) (.ref 181) 182 478),
 (189,fo mS),(188,co "_law_single" 481 234 2 185 (.none) (.none) 187 484),
 (196,fo oS),(195,co "_law_bound" 487 251 2 190 (.ref 192) (.ref 193) 194 492),
 (203,fo oT),(202,co "_law_total" 495 259 5 197 (.ref 199) (.ref 200) 201 507),
 (210,fo pY),(209,co "_law_over" 510 265 2 204 (.ref 206) (.ref 207) 208 524),
 (215,fo pZ),(214,co "_law_near" 527 276 2 211 (.none) (.none) 213 530),
 (220,fo lB),(219,co "_law_doubled" 533 288 2 216 (.none) (.none) 218 536),
 (227,fo t7),(226,co "_law_all" 539 300 2 221 (.ref 223) (.ref 224) 225 545),
 (234,fo oU),(233,co "_law_sound" 548 303 3 228 (.ref 230) (.ref 231) 232 558),
 (241,fo q9),(240,co "_law_none" 561 311 2 235 (.ref 237) (.ref 238) 239 567),
 (248,fo Fc),(247,co "law" 570 314 1 242 (.ref 244) (.ref 245) 246 580)]
def as_:List Addr:=[3,21,20,28,27,35,34,42,41,49,48,54,53,59,58,66,65,73,72,80,79,87,86,92,91,97,96,104,103,111,110,118,117,125,124,132,131,139,138,146,145,153,152,160,159,165,164,170,169,177,176,184,183,189,188,196,195,203,202,210,209,215,214,220,219,227,226,234,233,241,240,248,247]
def hook:Hook:=kHook K as_ (λ_=>rfl)
def xt(s:Shared):Bool:=xlAt view [] s&&recOk (RowW.records (OpenRow.toRowW (OpenLaw.row PySem.Challenge.rw_dosehouse_k46_whole_fewer_and_lesser_sta))) s
theorem left:LeftO p0 view [] xt hook.obs hook.val 2550:=λw=>by kernel_rfl
end
end Hd
section
open PySem PySem.Spec PySem.W PyProof.Rows L2
theorem Hd.close(hc:∀d:DefRec,d.params.defaults=[]->d.name="law"->WalkO Hd.view [] (XL Hd.view []) (Hook.says Hd.hook) PySem.Challenge.rw_dosehouse_k46_whole_fewer_and_lesser_sta.row.toRowW d [] (λf vs=>PySem.call f vs)):PySem.Challenge.rw_dosehouse_k46_whole_fewer_and_lesser_sta.Holds:=by
 refine holds_law (by kernel_rfl) λQy=> ?_;refine holds_open (q:=Hd.view) (loose:=[]) (Xt:=Hd.xt) (XP:=XL Hd.view []) (Yf:=Hook.obs Hd.hook) (Ya:=Hook.val Hd.hook) (YP:=Hook.says Hd.hook) (N:=2550) Hd.left (Hook.of Hd.hook) (Hook.keeps Hd.hook) (λs e=>xl_of s (Bool.and_eq_true_iff.mp e).1) XL.keeps (by rfl) (by rfl) (by rfl) (λs e=>recFacts_of (Bool.and_eq_true_iff.mp e).2) (by rfl) Qy (by decide+kernel) ⟨rfl,rfl,rfl,rfl,rfl,by decide+kernel⟩ ?hw ?hc
 case hw=>w_witness2
 case hc=>exact hc _ rfl rfl
end
namespace DL
open PySem
abbrev Key:=Sum Int Str
inductive D where
 |non
 |bl (b:Bool)
 |int (i:Int)
 |str (x:Str)
 |tup (ds:List D)
 |lst (ds:List D)
 |dK (eE:List (Key×D))
 |dT (eE:List (List Key×D))
 |scr (ns:List Int)
 |exc (C:Nat) (n:Str) (d:D)
 deriving Inhabited
mutual
@[simp] noncomputable def D.imm:D->Bool
 | .non=>true
 | .bl _=>true
 | .int _=>true
 | .str _=>true
 | .tup ds=>aq ds
 | .lst _=>false
 | .dK _=>false
 | .dT _=>false
 | .scr _=>true
 | .exc _ _ d=>d.imm
@[simp] noncomputable def aq:List D->Bool
 |[]=>true
 |d::ds=>d.imm&&aq ds
end
noncomputable def D.mT:D->Bool
 | .lst ds=>aq ds
 | .dK eE=>aq (eE.map (·.2))
 | .dT eE=>aq (eE.map (·.2))
 |d=>d.imm
noncomputable def D.top:D->Bool
 | .lst _=>true
 | .dK _=>true
 | .dT _=>true
 |_=>false
noncomputable def a6:Nat:=16777216
inductive Slot where
 |sh (d:D)
 |own (d:D)
 |lok (d:D)
 |bor (d:D)
abbrev Env:=List (Option Slot)
inductive Cls where
 |c|tn|to|tb
 deriving DecidableEq
structure RV where
 k:Cls
 d:D
abbrev DE:=Env->Option RV
abbrev DT:=Env->Option Bool
abbrev DA:=Env->Option (List RV)
abbrev DG:=D->Env->Option Env
inductive Out where
 |nx (e:Env)
 |ret (d:D)
 |bk (e:Env)
 |ct (e:Env)
abbrev DS:=Env->Option Out
noncomputable def iR(d:D):RV:=⟨if d.top then .tn else .c,d⟩
noncomputable def RV.free(r:RV):Bool:=match r.k with
 | .c=>true
 | .tn=>true
 |_=>false
@[simp] noncomputable def vE(i:Nat):DE:=λenv=>match env[i]? with
 |some (some (.sh d))=>some ⟨.c,d⟩
 |some (some (.own d))=>some ⟨.to,d⟩
 |some (some (.lok d))=>some ⟨.tb,d⟩
 |some (some (.bor d))=>some ⟨.tb,d⟩
 |_=>none
@[simp] noncomputable def kE(d:D):DE:=λ_=>some ⟨.c,d⟩
@[simp] noncomputable def opE(o:D->D->Option RV)(f g:DE):DE:=λenv=>(f env).bind λx=>(g env).bind λy=>o x.d y.d
@[simp] noncomputable def unE(o:D->Option RV)(f:DE):DE:=λenv=>(f env).bind λx=>o x.d
noncomputable def aB:D->D->Option RV
 | .int i,.int j=>some ⟨.c,.int (i+j)⟩
 | .str x,.str y=>if x.length+y.length<=a6 then some ⟨.c,.str (x++y)⟩ else none
 | .tup x,.tup y=>if x.length+y.length<=a6/\0<x.length then some ⟨.c,.tup (x++y)⟩ else none
 | .lst x,.lst y=>if x.length+y.length<=a6 then some ⟨.tn,.lst (x++y)⟩ else none
 |_,_=>none
noncomputable def gP:D->D->Option RV
 | .int i,.int j=>some ⟨.c,.int (i -j)⟩
 |_,_=>none
noncomputable def bC(i j:Int):Bool:=decide (i.natAbs<18446744073709551616)||decide (j.natAbs<18446744073709551616)
noncomputable def cy:D->D->Option RV
 | .int i,.int j=>if bC i j then some ⟨.c,.int (i*j)⟩ else none
 |_,_=>none
noncomputable def jR:D->D->Option RV
 | .int i,.int j=>if 0<j/\j<1073741824 then some ⟨.c,.int (i/j)⟩ else none
 |_,_=>none
noncomputable def pz:D->D->Option RV
 | .int i,.int j=>if 0<j then some ⟨.c,.int (i%j)⟩ else none
 |_,_=>none
noncomputable def nU:D->D->Option RV
 | .int i,.int j=>if 0<=j/\j<=1000/\i.natAbs<1000000 then some ⟨.c,.int (i^j.toNat)⟩ else none
 |_,_=>none
noncomputable def Dn:D->Option RV
 | .int i=>some ⟨.c,.int (-i)⟩
 |_=>none
@[simp] noncomputable def a9:Nat->D->Bool
 |_,.non=>true
 |_,.bl _=>true
 |_,.int _=>true
 |_,.str _=>true
 |n+1,.tup ds=>ds.all (a9 n)
 |n+1,.lst ds=>ds.all (a9 n)
 |_,_=>false
@[simp] noncomputable def D.plain(d:D):Bool:=a9 20 d
mutual
@[simp] noncomputable def eqD:D->D->Bool
 | .non,.non=>true
 | .bl a,.bl b=>a==b
 | .bl a,.int b=>(if a then 1 else 0)==b
 | .int a,.bl b=>a==(if b then 1 else 0)
 | .int a,.int b=>a==b
 | .str a,.str b=>a==b
 | .tup a,.tup b=>mU a b
 | .lst a,.lst b=>mU a b
 |_,_=>false
@[simp] noncomputable def mU:List D->List D->Bool
 |[],[]=>true
 |a::as,b::bs=>eqD a b&&mU as bs
 |_,_=>false
end
noncomputable def eqB(x y:D):Option Bool:=if x.plain&&y.plain then some (eqD x y) else none
noncomputable def neB(x y:D):Option Bool:=if x.plain&&y.plain then some (!eqD x y) else none
noncomputable def bL:D->Bool
 | .non=>true
 |_=>false
noncomputable def jX(x y:D):Option Bool:=if bL y then some (bL x) else none
noncomputable def gy(x y:D):Option Bool:=if bL y then some (!bL x) else none
noncomputable def ltB:D->D->Option Bool
 | .int i,.int j=>some (decide (i<j))
 |_,_=>none
noncomputable def leB:D->D->Option Bool
 | .int i,.int j=>some (decide (i<=j))
 |_,_=>none
noncomputable def gtB:D->D->Option Bool
 | .int i,.int j=>some (decide (j<i))
 |_,_=>none
noncomputable def geB:D->D->Option Bool
 | .int i,.int j=>some (decide (j<=i))
 |_,_=>none
@[simp] noncomputable def aC(o:D->D->Option Bool)(f g:DE):DT:=λenv=>(f env).bind λx=>(g env).bind λy=>o x.d y.d
@[simp] noncomputable def bE(t:DT):DE:=λenv=>(t env).map λb=> ⟨.c,.bl b⟩
@[simp] noncomputable def vN(f:DE):DT:=λenv=>(f env).bind λx=>match x.d with
 | .bl b=>some b
 |_=>none
@[simp] noncomputable def fA(t u:DT):DT:=λenv=>(t env).bind λb=>if b then u env else some false
@[simp] noncomputable def orT(t u:DT):DT:=λenv=>(t env).bind λb=>if b then some true else u env
@[simp] noncomputable def AK(t:DT):DT:=λenv=>(t env).map (!·)
@[simp] noncomputable def Fd(o p:D->D->Option Bool)(f g h:DE):DT:=λenv=>(f env).bind λx=>(g env).bind λy=>(o x.d y.d).bind λb=>if b then(h env).bind λz=>p y.d z.d else some false
@[simp] noncomputable def ifE(t:DT)(f g:DE):DE:=λenv=>(t env).bind λb=>if b then f env else g env
noncomputable def atD{α:Type}(xs:List α)(i:Int):Option α:=if 0<=i then xs[i.toNat]? else if -(xs.length:Int)<=i then xs[(i+xs.length).toNat]? else none
noncomputable def keyOf:D->Option Key
 | .int i=>some (.inl i)
 | .str x=>some (.inr x)
 |_=>none
@[simp] noncomputable def keysOf:List D->Option (List Key)
 |[]=>some []
 |d::ds=>(keyOf d).bind λk=>(keysOf ds).map (k:: ·)
section
variable{Y:Type} [DecidableEq Y]
noncomputable def look(eE:List (Y×D))(k:Y):Option D:=(eE.find? λkv=>decide (kv.1=k)).map (·.2)
noncomputable def put(eE:List (Y×D))(k:Y)(v:D):List (Y×D):=
 if(eE.any λkv=>decide (kv.1=k))=true then eE.map (λkv=>if kv.1=k then(kv.1,v) else kv) else eE++[(k,v)]
end
noncomputable def ixD:D->D->Option D
 | .lst xs,.int i=>atD xs i
 | .tup xs,.int i=>atD xs i
 | .str x,.int i=>if x.length<=a6 then(atD x.cps.toList i).map λc=> .str ⟨#[c]⟩ else none
 | .dK eE,k=>(keyOf k).bind λk=>look eE k
 | .dT eE,.tup ds=>(keysOf ds).bind λk=>look eE k
 | .scr ns,.int i=>(atD ns i).map .int
 |_,_=>none
@[simp] noncomputable def ixE(f g:DE):DE:=λenv=>(f env).bind λx=>(g env).bind λy=>(ixD x.d y.d).map λd=> ⟨.c,d⟩
@[simp] noncomputable def a8:DA:=λ_=>some []
@[simp] noncomputable def a4(f:DE)(r:DA):DA:=λenv=>(f env).bind λx=>(r env).bind λxs=>some (x::xs)
@[simp] noncomputable def aQ(a:DA):DE:=λenv=>(a env).bind λrs=>if rs.all (·.free)&&decide (rs.length<=a6) then some ⟨.c,.tup (rs.map (·.d))⟩ else none
@[simp] noncomputable def dF(a:DA):DE:=λenv=>(a env).bind λrs=>if rs.all (·.free)&&decide (rs.length<=a6) then some ⟨.tn,.lst (rs.map (·.d))⟩ else none
@[simp] noncomputable def aj(sp:List D->Option D)(a:DA):DE:=λenv=>(a env).bind λrs=>(sp (rs.map (·.d))).map iR
@[simp] noncomputable def cz(o:List D->Option RV)(a:DA):DE:=λenv=>(a env).bind λrs=>o (rs.map (·.d))
noncomputable def bA:List D->Option RV
 |[.lst xs]=>some ⟨.c,.int xs.length⟩
 |[.tup xs]=>some ⟨.c,.int xs.length⟩
 |[.str x]=>if x.length<=a6 then some ⟨.c,.int x.length⟩ else none
 |[.dK eE]=>some ⟨.c,.int eE.length⟩
 |[.scr ns]=>some ⟨.c,.int ns.length⟩
 |_=>none
noncomputable def mV:List D->Option RV
 |[.int i,.int j]=>some ⟨.c,.int (if j<i then j else i)⟩
 |_=>none
noncomputable def t8:List D->Option RV
 |[.int i,.int j]=>some ⟨.c,.int (if j>i then j else i)⟩
 |_=>none
noncomputable def gQ:List D->Option RV
 |[.lst xs]=>some ⟨.c,.tup xs⟩
 |[.tup xs]=>some ⟨.c,.tup xs⟩
 |_=>none
@[simp] noncomputable def uu:List D->Option (List Bool)
 |[]=>some []
 | .bl b::ds=>(uu ds).map (b:: ·)
 |_=>none
@[simp] noncomputable def C4:List D->Option (List Int)
 |[]=>some []
 | .int i::ds=>(C4 ds).map (i:: ·)
 |_=>none
noncomputable def ka:D->Option (List D)
 | .lst xs=>some xs
 | .tup xs=>some xs
 | .scr ns=>some (ns.map .int)
 |_=>none
noncomputable def one(o:List D->Option RV):List D->Option RV
 |[d]=>(ka d).bind o
 |_=>none
noncomputable def anyS:List D->Option RV:=one λds=>(uu ds).map λbs=> ⟨.c,.bl (bs.any id)⟩
noncomputable def pA(i:Int)(ns:List Int):Int:=ns.foldl (λa b=>if b>a then b else a) i
noncomputable def kb(T:String):D->Bool
 | .non=>T=="NoneType"
 | .bl _=>T=="bool"||T=="int"
 | .int _=>T=="int"
 | .str _=>T=="str"
 | .tup _=>T=="tuple"
 | .lst _=>T=="list"
 | .dK _=>T=="dict"
 | .dT _=>T=="dict"
 | .scr _=>T=="list"
 | .exc _ _ _=>false
noncomputable def mW:D->Bool
 | .scr _=>true
 | .exc _ _ _=>true
 |_=>false
@[simp] noncomputable def Nh(T:String)(f:DE):DT:=λenv=>(f env).bind λx=>if mW x.d then none else some (kb T x.d)
noncomputable def sIx(n d:Nat):Option Int->Nat
 |none=>d
 |some v=>if v<0 then(v+(n:Int)).toNat else min v.toNat n
noncomputable def cutD{α:Type}(xs:List α)(lo hi:Option Int):List α:=(xs.drop (sIx xs.length 0 lo)).take (sIx xs.length xs.length hi -sIx xs.length 0 lo)
abbrev DO:=Env->Option (Option Int)
@[simp] noncomputable def noO:DO:=λ_=>some none
@[simp] noncomputable def d9(f:DE):DO:=λenv=>(f env).bind λx=>match x.d with
 | .int i=>some (some i)
 |_=>none
noncomputable def slD(lo hi:Option Int):D->Option RV
 | .lst xs=>some ⟨.tn,.lst (cutD xs lo hi)⟩
 | .tup xs=>if sIx xs.length 0 lo=0/\sIx xs.length xs.length hi=xs.length then none else some ⟨.c,.tup (cutD xs lo hi)⟩
 | .scr ns=>some ⟨.tn,.lst (cutD (ns.map .int) lo hi)⟩
 |_=>none
@[simp] noncomputable def slE(f:DE)(lo hi:DO):DE:=λenv=>(f env).bind λx=>(lo env).bind λl=>(hi env).bind λh=>slD l h x.d
@[simp] noncomputable def gN(i:Nat):DG:=λd env=>some (env.set i (some (.sh d)))
@[simp] noncomputable def gNs:List Nat->List D->Env->Option Env
 |[],[],env=>some env
 |i::is,d::ds,env=>gNs is ds (env.set i (some (.sh d)))
 |_,_,_=>none
@[simp] noncomputable def gT(is:List Nat):DG:=λd env=>match d with
 | .tup ds=>gNs is ds env
 |_=>none
@[simp] noncomputable def aI:DS:=λenv=>some (.nx env)
@[simp] noncomputable def bkS:DS:=λenv=>some (.bk env)
@[simp] noncomputable def ai(f g:DS):DS:=λenv=>(f env).bind λo=>match o with
 | .nx e=>g e
 |o=>some o
noncomputable def stored(i:Nat)(r:RV)(env:Env):Option Env:=match r.k with
 | .c=>some (env.set i (some (.sh r.d)))
 | .tn=>some (env.set i (some (.own r.d)))
 |_=>none
@[simp] noncomputable def av(i:Nat)(f:DE):DS:=λenv=>(f env).bind λr=>(stored i r env).map .nx
noncomputable def vO(r:RV):Bool:=match r.k with
 | .c=>r.d.imm
 | .tn=>r.d.mT
 | .to=>r.d.mT
 | .tb=>false
@[simp] noncomputable def retS(f:DE):DS:=λenv=>(f env).bind λr=>if vO r then some (.ret r.d) else none
@[simp] noncomputable def ifS(t:DT)(f g:DS):DS:=λenv=>(t env).bind λb=>if b then f env else g env
@[simp] noncomputable def forL(g:DG)(body:DS):List D->Env->Option Out
 |[],env=>some (.nx env)
 |d::ds,env=>(g d env).bind λe=>(body e).bind λo=>match o with
  | .nx e=>forL g body ds e
  | .ct e=>forL g body ds e
  | .bk e=>some (.nx e)
  | .ret d=>some (.ret d)
abbrev DI:=Env->Option (List D)
@[simp] noncomputable def bf(l:Option Nat)(env:Env):Env:=match l with
 |none=>env
 |some i=>match env[i]? with
  |some (some (.own d))=>env.set i (some (.lok d))
  |_=>env
@[simp] noncomputable def qf(l:Option Nat)(env:Env):Bool:=match l with
 |none=>false
 |some i=>match env[i]? with
  |some (some (.own _))=>true
  |_=>false
@[simp] noncomputable def gR(l:Option Nat)(env:Env):Env:=match l with
 |none=>env
 |some i=>match env[i]? with
  |some (some (.lok d))=>env.set i (some (.own d))
  |_=>env
noncomputable def freed(l:Option Nat)(b:Bool):Out->Out
 | .nx e=> .nx (if b then gR l e else e)
 |o=>o
@[simp] noncomputable def dP(l:Option Nat)(src:DI)(g:DG)(body:DS):DS:=λenv=>(src (bf l env)).bind λds=>(forL g body ds (bf l env)).map (freed l (qf l env))
noncomputable def gq(t:DT)(body:DS):Nat->Env->Option Out
 |0,_=>none
 |n+1,env=>(t env).bind λb=>if b then(body env).bind λo=>match o with
   | .nx e=>gq t body n e
   | .ct e=>gq t body n e
   | .bk e=>some (.nx e)
   | .ret d=>some (.ret d)
  else some (.nx env)
noncomputable def uw(t:DT)(body:DS):DS:=gq t body 100000
@[simp] noncomputable def iA(f:DE):DI:=λenv=>(f env).bind λr=>if r.k= .to then none else match r.d with
 | .lst xs=>some xs
 | .tup xs=>some xs
 | .scr ns=>some (ns.map .int)
 |_=>none
noncomputable def aE(lo:Int)(n:Nat):List D:=(List.range n).map λ(k:Nat)=> .int (lo+(k:Int))
noncomputable def aZ(i:Int):Bool:=decide (-4611686018427387904<=i)&&decide (i<4611686018427387904)
@[simp] noncomputable def cI(f:DE):DI:=λenv=>(f env).bind λr=>match r.d with
 | .int j=>if aZ j then some (aE 0 j.toNat) else none
 |_=>none
@[simp] noncomputable def C5(f g:DE):DI:=λenv=>(f env).bind λx=>(g env).bind λy=>match x.d,y.d with
 | .int i,.int j=>if aZ i&&aZ j then some (aE i (j -i).toNat) else none
 |_,_=>none
@[simp] noncomputable def ownAt(i:Nat)(env:Env):Option D:=match env[i]? with
 |some (some (.own d))=>some d
 |_=>none
@[simp] noncomputable def gC(i:Nat)(f:DE):DS:=λenv=>(f env).bind λr=>(ownAt i env).bind λd=>match d with
 | .lst xs=>if r.free&&decide (xs.length<a6) then some (.nx (env.set i (some (.own (.lst (xs++[r.d])))))) else none
 |_=>none
@[simp] noncomputable def Nj(i:Nat)(f:DE):DS:=λenv=>(f env).bind λr=>(ownAt i env).bind λd=>match d,r.d with
 | .lst xs,.lst ys=>if(r.k== .tn)&&decide (xs.length+ys.length<=a6) then some (.nx (env.set i (some (.own (.lst (xs++ys)))))) else none
 |_,_=>none
noncomputable def putD(d k v:D):Option D:=match d with
 | .dK eE=>if eE.length<a6 then(keyOf k).map λk=> .dK (put eE k v) else none
 | .dT eE=>match k with
  | .tup ks=>if eE.length<a6 then(keysOf ks).map λk=> .dT (put eE k v) else none
  |_=>none
 | .lst xs=>match k with
  | .int j=>if 0<=j/\j<xs.length then some (.lst (xs.set j.toNat v)) else if j<0/\-(xs.length:Int)<=j then some (.lst (xs.set (j+xs.length).toNat v)) else none
  |_=>none
 |_=>none
@[simp] noncomputable def nV:DE:=λ_=>some ⟨.tn,.dT []⟩
@[simp] noncomputable def sr(i:Nat)(k v:DE):DS:=λenv=>(v env).bind λx=>(k env).bind λy=>(ownAt i env).bind λd=>if x.free then(putD d y.d x.d).map λd=> .nx (env.set i (some (.own d))) else none
noncomputable def cJ:Option Slot->Option Slot
 |some (.sh d)=>some (.sh d)
 |some (.own d)=>some (.bor d)
 |some (.lok d)=>some (.bor d)
 |some (.bor d)=>some (.bor d)
 |none=>none
noncomputable def compEnv(n:Nat)(ar:List Nat)(env:Env):Env:=List.replicate n none++ar.map λi=>cJ (env[i]?.getD none)
@[simp] noncomputable def br(g:DG)(t:DT)(f:DE):List D->Env->Option (List D)
 |[],_=>some []
 |d::ds,env=>(g d env).bind λe=>(t e).bind λb=>if b then(f e).bind λr=>if r.free then(br g t f ds e).map (r.d:: ·) else none else br g t f ds e
@[simp] noncomputable def jS(l:Option Nat)(n:Nat)(ar:List Nat)(src:DI)(g:DG)(t:DT)(f:DE):DE:=λenv=>(src (bf l env)).bind λds=>if ds.length<=a6 then(br g t f ds (compEnv n ar env)).map λrs=> ⟨.tn,.lst rs⟩ else none
@[simp] noncomputable def fZ:DT:=λ_=>some true
@[simp] noncomputable def aM(n:Nat)(ds:List D):Env:=ds.map (λd=>some (.sh d))++List.replicate (n -ds.length) none
@[simp] noncomputable def cC(n np:Nat)(body:DS):List D->Option D:=λds=>if ds.length=np then(body (aM n ds)).bind λo=>match o with
  | .ret d=>some d
  | .nx _=>some .non
  |_=>none
 else none
@[simp] theorem Iq{a b:String}:Str.ofString a=Str.ofString b↔a=b:=by
 constructor
 .intro h;rw[Str.ofString_eq_toList,Str.ofString_eq_toList] at h;have h1:a.toList.map Char.toNat=b.toList.map Char.toNat:=by
   injection h with h
   exact Gcu.mpr h|>λz=>by simpa using z
  have h2:a.toList=b.toList:=by
   have inj:∀(x y:List Char),x.map Char.toNat=y.map Char.toNat->x=y:=by
    intro x;induction x with
    |nil=>intro y e;cases y with
     |nil=>rfl
     |cons=>simp at e
    |cons c x ih=>intro y e;cases y with
     |nil=>simp at e
     |cons c' y=>
      simp only[GaB,GcY] at e;rw[ih y e.2,Char.toNat_inj.mp e.1]
   exact inj _ _ h1
  exact String.toList_inj.mp h2
 .rintro rfl;rfl
section
variable{i j:Int}{x y:Str}{ds es:List D}{d:D}{env:Env}{n:Nat}
@[simp] theorem Nk:aB (.int i) (.int j)=some ⟨.c,.int (i+j)⟩:=rfl
@[simp] theorem Nl:aB (.str x) (.str y)=if x.length+y.length<=a6 then some ⟨.c,.str (x++y)⟩ else none:=rfl
@[simp] theorem Fe:aB (.tup ds) (.tup es)=if ds.length+es.length<=a6/\0<ds.length then some ⟨.c,.tup (ds++es)⟩ else none:=rfl
@[simp] theorem Nm:aB (.lst ds) (.lst es)=if ds.length+es.length<=a6 then some ⟨.tn,.lst (ds++es)⟩ else none:=rfl
@[simp] theorem Np:gP (.int i) (.int j)=some ⟨.c,.int (i -j)⟩:=rfl
@[simp] theorem Nq:cy (.int i) (.int j)=if bC i j then some ⟨.c,.int (i*j)⟩ else none:=rfl
@[simp] theorem Mp:jR (.int i) (.int j)=if 0<j/\j<1073741824 then some ⟨.c,.int (i/j)⟩ else none:=rfl
@[simp] theorem Nr:pz (.int i) (.int j)=if 0<j then some ⟨.c,.int (i%j)⟩ else none:=rfl
@[simp] theorem Nt:nU (.int i) (.int j)=if 0<=j/\j<=1000/\i.natAbs<1000000 then some ⟨.c,.int (i^j.toNat)⟩ else none:=rfl
@[simp] theorem Nu:Dn (.int i)=some ⟨.c,.int (-i)⟩:=rfl
@[simp] theorem OH:ltB (.int i) (.int j)=some (decide (i<j)):=rfl
@[simp] theorem OI:leB (.int i) (.int j)=some (decide (i<=j)):=rfl
@[simp] theorem OJ:gtB (.int i) (.int j)=some (decide (j<i)):=rfl
@[simp] theorem OK:geB (.int i) (.int j)=some (decide (j<=i)):=rfl
@[simp] theorem OL:eqB (.int i) (.int j)=some (i==j):=rfl
@[simp] theorem OM:eqB (.str x) (.str y)=some (x==y):=rfl
@[simp] theorem PK:eqB .non (.int j)=some false:=rfl
@[simp] theorem PL:eqB (.int j) .non=some false:=rfl
@[simp] theorem PM:eqB .non .non=some true:=rfl
@[simp] theorem ON:neB (.int i) (.int j)=some (!(i==j)):=rfl
@[simp] theorem OP:neB (.str x) (.str y)=some (!(x==y)):=rfl
@[simp] theorem PN:neB .non (.int j)=some true:=rfl
@[simp] theorem PQ:neB (.int j) .non=some true:=rfl
@[simp] theorem PR:neB .non .non=some false:=rfl
@[simp] theorem Mq:bL .non=true:=rfl
@[simp] theorem Mr:bL (.int i)=false:=rfl
@[simp] theorem Ms:bL (.str x)=false:=rfl
@[simp] theorem Nv{b:Bool}:bL (.bl b)=false:=rfl
@[simp] theorem Mt:bL (.tup ds)=false:=rfl
@[simp] theorem Mu:bL (.lst ds)=false:=rfl
@[simp] theorem Nw:jX d .non=some (bL d):=rfl
@[simp] theorem Mv:gy d .non=some (!bL d):=rfl
@[simp] theorem fC:bA [.lst ds]=some ⟨.c,.int ds.length⟩:=rfl
@[simp] theorem df:bA [.tup ds]=some ⟨.c,.int ds.length⟩:=rfl
@[simp] theorem Nx:bA [.str x]=if x.length<=a6 then some ⟨.c,.int x.length⟩ else none:=rfl
@[simp] theorem Ff{ns:List Int}:bA [.scr ns]=some ⟨.c,.int ns.length⟩:=rfl
@[simp] theorem OQ{eE:List (Key×D)}:bA [.dK eE]=some ⟨.c,.int eE.length⟩:=rfl
@[simp] theorem Mw:mV [.int i,.int j]=some ⟨.c,.int (if j<i then j else i)⟩:=rfl
@[simp] theorem Mx:t8 [.int i,.int j]=some ⟨.c,.int (if j>i then j else i)⟩:=rfl
@[simp] theorem L6:gQ [.lst ds]=some ⟨.c,.tup ds⟩:=rfl
@[simp] theorem L7:gQ [.tup ds]=some ⟨.c,.tup ds⟩:=rfl
@[simp] theorem Ny{T:String}:kb T .non=(T=="NoneType"):=rfl
@[simp] theorem OR{T:String}{b:Bool}:kb T (.bl b)=(T=="bool"||T=="int"):=rfl
@[simp] theorem Nz{T:String}:kb T (.int i)=(T=="int"):=rfl
@[simp] theorem NA{T:String}:kb T (.str x)=(T=="str"):=rfl
@[simp] theorem NB{T:String}:kb T (.tup ds)=(T=="tuple"):=rfl
@[simp] theorem NC{T:String}:kb T (.lst ds)=(T=="list"):=rfl
@[simp] theorem My:mW .non=false:=rfl
@[simp] theorem ND{b:Bool}:mW (.bl b)=false:=rfl
@[simp] theorem Mz:mW (.int i)=false:=rfl
@[simp] theorem MA:mW (.str x)=false:=rfl
@[simp] theorem MB:mW (.tup ds)=false:=rfl
@[simp] theorem MC:mW (.lst ds)=false:=rfl
@[simp] theorem OT{lo hi:Option Int}:slD lo hi (.lst ds)=some ⟨.tn,.lst (cutD ds lo hi)⟩:=rfl
@[simp] theorem OU{lo hi:Option Int}:slD lo hi (.tup ds)=if sIx ds.length 0 lo=0/\sIx ds.length ds.length hi=ds.length then none else some ⟨.c,.tup (cutD ds lo hi)⟩:=rfl
@[simp] theorem OV{lo hi:Option Int}{ns:List Int}:slD lo hi (.scr ns)=some ⟨.tn,.lst (cutD (ns.map .int) lo hi)⟩:=rfl
@[simp] theorem NF:stored n ⟨.c,d⟩ env=some (env.set n (some (.sh d))):=rfl
@[simp] theorem MD:stored n ⟨.tn,d⟩ env=some (env.set n (some (.own d))):=rfl
@[simp] theorem OW:vO ⟨.c,d⟩=d.imm:=rfl
@[simp] theorem NG:vO ⟨.tn,d⟩=d.mT:=rfl
@[simp] theorem NH:vO ⟨.to,d⟩=d.mT:=rfl
@[simp] theorem ME:(D.lst ds).mT=aq ds:=rfl
@[simp] theorem NI{eE:List (List Key×D)}:(D.dT eE).mT=aq (eE.map (·.2)):=rfl
@[simp] theorem NJ{eE:List (Key×D)}:(D.dK eE).mT=aq (eE.map (·.2)):=rfl
@[simp] theorem NK:iR .non=⟨.c,.non⟩:=rfl
@[simp] theorem OX{b:Bool}:iR (.bl b)=⟨.c,.bl b⟩:=rfl
@[simp] theorem NL:iR (.int i)=⟨.c,.int i⟩:=rfl
@[simp] theorem NM:iR (.str x)=⟨.c,.str x⟩:=rfl
@[simp] theorem NN:iR (.tup ds)=⟨.c,.tup ds⟩:=rfl
@[simp] theorem NO:iR (.lst ds)=⟨.tn,.lst ds⟩:=rfl
@[simp] theorem OY{eE:List (List Key×D)}:iR (.dT eE)=⟨.tn,.dT eE⟩:=rfl
@[simp] theorem OZ{eE:List (Key×D)}:iR (.dK eE)=⟨.tn,.dK eE⟩:=rfl
@[simp] theorem PU:RV.free ⟨.c,d⟩=true:=rfl
@[simp] theorem Pa:RV.free ⟨.tn,d⟩=true:=rfl
@[simp] theorem NP{l:Option Nat}{b:Bool}:freed l b (.nx env)= .nx (if b then gR l env else env):=rfl
@[simp] theorem MF{l:Option Nat}{b:Bool}:freed l b (.ret d)= .ret d:=rfl
@[simp] theorem MG:keyOf (.int i)=some (.inl i):=rfl
@[simp] theorem MH:keyOf (.str x)=some (.inr x):=rfl
@[simp] theorem Pb:ixD (.lst ds) (.int i)=atD ds i:=rfl
@[simp] theorem Pc:ixD (.tup ds) (.int i)=atD ds i:=rfl
@[simp] theorem Pe{ns:List Int}:ixD (.scr ns) (.int i)=(atD ns i).map .int:=rfl
@[simp] theorem Pf:ixD (.str x) (.int i)=if x.length<=a6 then(atD x.cps.toList i).map λc=> .str ⟨#[c]⟩ else none:=rfl
@[simp] theorem PV{eE:List (List Key×D)}:ixD (.dT eE) (.tup ds)=(keysOf ds).bind λk=>look eE k:=rfl
theorem b4{α:Type}{xs:List α}{k:Nat}:atD xs (k:Int)=xs[k]? :=by
 unfold atD;rw[Gaf (by lia)];simp
@[simp] theorem Q6{α:Type}{xs:List α}:atD xs 0=xs[0]? :=rfl
@[simp] theorem Q7{α:Type}{xs:List α}:atD xs 1=xs[1]? :=rfl
@[simp] theorem Q8{α:Type}{xs:List α}:atD xs 2=xs[2]? :=rfl
@[simp] theorem Q9{α:Type}{xs:List α}:atD xs 3=xs[3]? :=rfl
@[simp] theorem Qa{α:Type}{xs:List α}:atD xs 4=xs[4]? :=rfl
@[simp] theorem Qb{α:Type}{xs:List α}:atD xs 5=xs[5]? :=rfl
end
open PySem
noncomputable def aV:D->List Int
 | .non=>[0]
 | .int i=>[1,i]
 | .str x=>2::x.cps.toList.map Int.ofNat
 |_=>[3]
noncomputable def dQ{α:Type} [DecidableEq α](lt:α->α->Bool):List α->List α->Bool
 |[],[]=>false
 |[],_::_=>true
 |_::_,[]=>false
 |a::as,b::bs=>if a=b then dQ lt as bs else lt a b
noncomputable def ltI(a b:Int):Bool:=decide (a<b)
noncomputable def ltC:List (List Int)->List (List Int)->Bool:=dQ (dQ ltI)
noncomputable def code:D->List (List Int)
 | .tup ds=>ds.map aV
 |d=>[aV d]
noncomputable def Dp(d:D):List D->List D
 |[]=>[d]
 |e::es=>if ltC (code d) (code e) then d::e::es else e::Dp d es
noncomputable def bU:List D->List D
 |[]=>[]
 |d::ds=>Dp d (bU ds)
noncomputable def tyD:D->Nat
 | .non=>0
 | .int _=>1
 | .str _=>2
 |_=>3
noncomputable def lj(d:D):Bool:=tyD d !=3
noncomputable def lC:List D->List D->Bool
 |a::as,b::bs=>if aV a=aV b then lC as bs else(tyD a==tyD b&&(tyD a==1||tyD a==2))
 |_,_=>true
noncomputable def Dq:D->Bool
 | .int _=>true
 |_=>false
noncomputable def ll(t:Nat):D->Bool
 | .tup (f::r)=>tyD f==t&&r.all lj
 |_=>false
noncomputable def vP:D->D->Bool
 | .tup a,.tup b=>lC a b
 |_,_=>false
noncomputable def keysOk(ds:List D):Bool:=ds.all Dq||((ds.all (ll 1)||ds.all (ll 2))&&ds.all λx=>ds.all λy=>vP x y)
noncomputable def sortedS:List D->Option RV:=one λds=>if decide (ds.length<64)&&keysOk ds then some ⟨.tn,.lst (bU ds)⟩ else none
structure ux{α:Type}(lt:α->α->Bool):Prop where
 irr:∀a,lt a a=false
 tr:∀a b c,lt a b=true->lt b c=true->lt a c=true
 tot:∀a b,lt a b=false->lt b a=false->a=b
theorem PX:ux ltI:=⟨λa=>by simp[ltI],λa b c h1 h2=>by simp[ltI] at*;lia,λa b h1 h2=>by simp[ltI] at*;lia⟩
section
variable{α:Type} [DecidableEq α]{lt:α->α->Bool}
theorem ux.lex(L:ux lt):ux (dQ lt):=by
 refine⟨λa=> ?_,λa=> ?_,λa=> ?_⟩
 .induction a with
  |nil=>rfl
  |cons x xs ih=>simp[dQ,ih]
 .induction a with
  |nil=>
   intro b c h1 h2;cases c with
   |nil=>cases b<;>simp[dQ] at h1 h2
   |cons z zs=>rfl
  |cons x xs ih=>
   intro b c h1 h2;cases b with
   |nil=>simp[dQ] at h1
   |cons y ys=>
    cases c with
    |nil=>simp[dQ] at h2
    |cons z zs=>
     unfold dQ at h1 h2⊢;by_cases e1:x=y
     .subst e1;rw[Gaf rfl] at h1;by_cases e2:x=z
      .subst e2;rw[Gaf rfl] at h2⊢;exact ih ys zs h1 h2
      .rw[Gag e2] at h2⊢;exact h2
     .rw[Gag e1] at h1;by_cases e2:y=z
      .subst e2;rw[Gag e1];exact h1
      .rw[Gag e2] at h2;by_cases e3:x=z
       .subst e3;have:=L.tr x y x h1 h2;rw[L.irr] at this;cases this
       .rw[Gag e3];exact L.tr x y z h1 h2
 .induction a with
  |nil=>
   intro b h1 h2;cases b with
   |nil=>rfl
   |cons y ys=>simp[dQ] at h1
  |cons x xs ih=>
   intro b h1 h2;cases b with
   |nil=>simp[dQ] at h2
   |cons y ys=>
    unfold dQ at h1 h2;by_cases e:x=y
    .subst e;rw[Gaf rfl] at h1 h2;rw[ih ys h1 h2]
    .rw[Gag e] at h1;rw[Gag (Ne.symm e)] at h2;exact absurd (L.tot x y h1 h2) e
theorem ux.nt(L:ux lt){k x y:α}(h1:lt k y=true)(h2:lt x y=false):lt k x=true:=by
 cases h:lt y x with
 |true=>exact L.tr k y x h1 h
 |false=>rw[L.tot x y h2 h];exact h1
theorem ux.PY(L:ux lt){x y:α}(h:lt x y=true):lt y x=false:=by
 cases q:lt y x with
 |false=>rfl
 |true=>have:=L.tr x y x h q;rw[L.irr] at this;cases this
end
theorem Dr:ux ltC:=PX.lex.lex
noncomputable def rank(cs:List (List (List Int)))(i:Nat):Int:=((cs.filter λc=>ltC c (cs[i]?.getD [])).length:Nat)
theorem lZ{α:Type}{p q:α->Bool}:∀{l:List α},(∀x∈l,p x=true->q x=true)->(l.filter p).length<=(l.filter q).length
 |[],_=>Gaq _
 |x::l,h=>by
  have ih:=lZ (l:=l) λy hy=>h y (Gae _ hy);have hx:=h x Gak;cases hp:p x with
  |false=>
   rw[Gba,hp];simp only[GaK,Gbj];refine Gbh ih ?_;rw[Gba];split
   .rw[Gaw];lia
   .exact Gaq _
  |true=>rw[Gba,Gba,hp,hx hp];simp;exact ih
theorem lD{α:Type}{p q:α->Bool}:∀{l:List α} {z:α},z∈l->p z=false->q z=true->(∀x∈l,p x=true->q x=true)->(l.filter p).length<(l.filter q).length
 |[],z,hz,_,_,_=>by cases hz
 |x::l,z,hz,h1,h2,h=>by
  rcases GaC.mp hz with e|hz
  .subst e;have:=lZ (l:=l) (p:=p) (q:=q) λy hy=>h y (Gae _ hy);rw[Gba,Gba,h1,h2];simp;lia
  .have ih:=lD hz h1 h2 λy hy=>h y (Gae _ hy);have hx:=h x Gak;cases hp:p x with
   |false=>
    rw[Gba,hp];simp only[GaK,Gbj];rw[Gba];split
    .rw[Gaw];lia
    .exact ih
   |true=>rw[Gba,Gba,hp,hx hp];simp;exact ih
theorem C6{cs:List (List (List Int))}{i j:Nat}(hi:i<cs.length)(hj:j<cs.length):decide (rank cs i<rank cs j)=ltC cs[i] cs[j]:=by
 unfold rank;rw[Gaa hi,Gaa hj];simp only[Option.getD_some];cases h:ltC cs[i] cs[j] with
 |true=>
  refine Gaz (Int.ofNat_lt.mpr ?_);exact lD (z:=cs[i]) (Gat hi) (Dr.irr _) h λc _ hc=>Dr.tr _ _ _ hc h
 |false=>
  refine GaD (Int.not_lt.mpr (Int.ofNat_le.mpr ?_));exact lZ λc _ hc=>Dr.nt hc h
def iD(ds:List D):Prop:=ds.Pairwise λa b=>ltC (code b) (code a)=false
theorem nW(d:D):∀es:List D,(Dp d es).Perm (d::es)
 |[]=>List.Perm.refl _
 |e::es=>by
  unfold Dp;split
  .exact List.Perm.refl _
  .exact((nW d es).cons e).trans (List.Perm.swap d e es)
theorem fg:∀ds:List D,(bU ds).Perm ds
 |[]=>List.Perm.refl _
 |d::ds=>(nW d _).trans ((fg ds).cons d)
theorem oV(d:D):∀{es:List D},iD es->iD (Dp d es)
 |[],_=>Gcb _ _
 |e::es,h=>by
  have h' :=Gbl.mp h;unfold Dp;split
  .rename_i c;refine Gbl.mpr ⟨λb hb=> ?_,h⟩;rcases GaC.mp hb with q|q
   .subst q;exact Dr.PY c
   .cases z:ltC (code b) (code d) with
    |false=>rfl
    |true=>have:=Dr.tr _ _ _ z c;rw[h'.1 b q] at this;cases this
  .rename_i c;refine Gbl.mpr ⟨λb hb=> ?_,oV d h'.2⟩;rcases GaC.mp ((nW d es).mem_iff.mp hb) with q|q
   .subst q;simpa using c
   .exact h'.1 b q
theorem gD:∀ds:List D,iD (bU ds)
 |[]=>List.Pairwise.nil
 |d::ds=>oV d (gD ds)
theorem lE:∀{xs ys:List D},xs.Perm ys->iD xs->iD ys->(∀a∈xs,∀b∈xs,code a=code b->a=b)->xs=ys
 |[],ys,hp,_,_,_=>(List.nil_perm.mp hp).symm
 |x::xs,ys,hp,hx,hy,hi=>by
  cases ys with
  |nil=>exact absurd (List.perm_nil.mp hp) (by simp)
  |cons y ys=>
   have px:=Gbl.mp hx;have py:=Gbl.mp hy;have e:x=y:=by
    have mx:x∈y::ys:=hp.mem_iff.mp Gak;have my:y∈x::xs:=hp.mem_iff.mpr Gak;rcases GaC.mp mx with q|q
    .exact q
    .rcases GaC.mp my with r|r
     .exact r.symm
     .exact hi x Gak y my (Dr.tot _ _ (py.1 x q) (px.1 y r)).symm.symm
   subst e;rw[lE (List.perm_cons x|>.mp hp) px.2 py.2 λa ha b hb=>hi a (Gae _ ha) b (Gae _ hb)]
open PySem
@[simp] noncomputable def dS:Nat->List D->List D
 |_,[]=>[]
 |i,x::xs=> .tup [.int i,x]::dS (i+1) xs
@[simp] noncomputable def C7(f:DE):DI:=λenv=>(f env).bind λr=>if r.k= .to then none else match r.d with
 | .lst xs=>some (dS 0 xs)
 | .tup xs=>some (dS 0 xs)
 |_=>none
theorem jb:∀(i:Nat) (xs:List D),(dS i xs).length=xs.length
 |_,[]=>rfl
 |i,x::xs=>by simp[jb (i+1) xs]
theorem jc:∀(k:Nat) (xs:List D) (i:Nat),(dS k xs)[i]? =(xs[i]?).map λx=> .tup [.int ((k+i:Nat)),x]
 |_,[],i=>by simp
 |k,x::xs,i=>by
  cases i with
  |zero=>simp
  |succ i=>
   simp only[dS,Gdm];rw[jc (k+1) xs i,show k+1+i=k+(i+1) by lia]
open PySem
open PySem
noncomputable def fR{α:Type}(xs:List α)(i:Int)(y:α):List α:=xs.take (if i<0 then(i+(xs.length:Int)).toNat else min i.toNat xs.length)++y::xs.drop (if i<0 then(i+(xs.length:Int)).toNat else min i.toNat xs.length)
theorem t9{α:Type}(xs:List α)(i:Int)(y:α):(fR xs i y).length=xs.length+1:=by
 unfold fR;rw[Gan,Gaw,Gce,GbJ];lia
theorem AL{α:Type}(xs:List α)(i:Int)(y:α):(fR xs i y).Perm (y::xs):=by
 unfold fR;refine List.perm_middle.trans ?_;rw[Gbf]
@[simp] noncomputable def NQ(i:Nat)(k v:DE):DS:=λenv=>(k env).bind λx=>(v env).bind λr=>(ownAt i env).bind λd=>match d,x.d with
 | .lst xs,.int j=>if r.free&&(decide (xs.length<a6)&&aZ j) then some (.nx (env.set i (some (.own (.lst (fR xs j r.d)))))) else none
 |_,_=>none
open PySem
noncomputable def mmD(best:Int->List Int->Int)(dv:D)(d:D):Option RV:=(ka d).bind λds=>(C4 ds).map λns=>match ns with
 |[]=> ⟨.c,dv⟩
 |n::ns=> ⟨.c,.int (best n ns)⟩
@[simp] noncomputable def mmE(best:Int->List Int->Int)(dv:D)(f:DE):DE:=λenv=>(f env).bind λr=>mmD best dv r.d
open PySem
noncomputable def isInt:D->Bool
 | .int _=>true
 |_=>false
noncomputable def unI:D->Int
 | .int i=>i
 |_=>0
noncomputable def Ds:Key->D
 | .inl i=> .int i
 | .inr x=> .str x
noncomputable def tf(eE:List (List Key×D)):List D:=eE.map λp=> .tup (p.1.map Ds)
noncomputable def C8:List D->Option RV
 |[.dT eE]=>some ⟨.tn,.lst (tf eE)⟩
 |_=>none
open PySem
noncomputable def Dt:D->D->Option (Option D)
 | .dK eE,k=>(keyOf k).map λk=>look eE k
 | .dT eE,.tup ks=>(keysOf ks).map λk=>look eE k
 |_,_=>none
@[simp] noncomputable def Ir(o k d:DE):DE:=λenv=>(o env).bind λx=>(k env).bind λy=>(d env).bind λr=>if r.k= .c then(Dt x.d y.d).map λv=> ⟨.c,v.getD r.d⟩ else none
@[simp] theorem Pg{eE:List (List Key×D)}{ks:List D}:Dt (.dT eE) (.tup ks)=(keysOf ks).map λk=>look eE k:=rfl
open PySem
open PySem
noncomputable def bB(eE:List (List Key×D)):List D:=eE.map λp=> .tup [.tup (p.1.map Ds),p.2]
@[simp] noncomputable def Fg(vw:List (List Key×D)->List D)(f:DE):DI:=λenv=>(f env).bind λr=>if r.k= .tn then match r.d with
 | .dT eE=>some (vw eE)
 |_=>none
 else none
@[simp] noncomputable def NR(i:Nat)(env:Env):Bool:=(List.range env.length).all λj=>j==i||match env[j]? with
 |some (some (.bor _))=>false
 |_=>true
@[simp] noncomputable def dictAt(i:Nat)(env:Env):Option (List (List Key×D)):=match env[i]? with
 |some (some (.own (.dT eE)))=>some eE
 |some (some (.lok (.dT eE)))=>some eE
 |some (some (.bor (.dT eE)))=>if NR i env then some eE else none
 |_=>none
@[simp] noncomputable def nX(vw:List (List Key×D)->List D)(i n:Nat)(ar:List Nat)(g:DG)(t:DT)(f:DE):DE:=λenv=>(dictAt i env).bind λeE=>
 if(vw eE).length<=a6 then(br g t f (vw eE) (compEnv n ar (env.set i none))).map λrs=> ⟨.tn,.lst rs⟩ else none
open PySem
open PySem
open PySem
open PySem
open PySem
abbrev DN:=Env->List (List D)->Option (Env×List (List D))
@[simp] noncomputable def C9(env:Env):Bool:=env.all λz=>match z with
 |some (.bor _)=>false
 |_=>true
open PySem
noncomputable def fD:List D->Option RV:=one λds=>if decide (ds.length<1000000)&&keysOk ds then some ⟨.tn,.lst (bU ds)⟩ else none
open PySem
noncomputable def dd1(ks:List Int)(k:Int):List Int:=if k∈ks then ks else ks++[k]
noncomputable def ddF(ns:List Int):List Int:=ns.foldl dd1 []
open PySem
abbrev Rws:=List (List Key×D)
abbrev DM:=Env->Rws->Option (Env×Rws)
@[simp] noncomputable def NS(f g:DM):DM:=λenv eA=>(f env eA).bind λq=>g q.1 q.2
@[simp] noncomputable def setM(j:Nat)(f:DE):DM:=λenv eA=>(f env).bind λr=>match r.k with
 | .c=>some (env.set j (some (.sh r.d)),eA)
 |_=>none
noncomputable def Fh(eE:Rws)(k:List Key)(d:D):Option Rws:=if eE.length<a6 then match eE.findIdx? (λp=>decide (p.1=k)) with
 |some j=>match eE[j]? with
  |some (_,.lst ds)=>if ds.length<a6 then some (eE.set j (k,.lst (ds++[d]))) else none
  |_=>none
 |none=>some (eE++[(k,.lst [d])])
 else none
@[simp] noncomputable def NT(k f:DE):DM:=λenv eA=>(k env).bind λy=>(f env).bind λr=>match y.d with
 | .tup ks=>if r.d.imm&&C9 env then(keysOf ks).bind λk=>(Fh eA k r.d).map λxK =>(env,xK) else none
 |_=>none
@[simp] noncomputable def mX(j:Nat)(f:DM):List D->DM
 |[],env,eA=>some (env,eA)
 |d::ds,env,eA=>(f (env.set j (some (.sh d))) eA).bind λq=>mX j f ds q.1 q.2
@[simp] noncomputable def K6(j:Nat)(e:DE)(f:DM):DM:=λenv eA=>(e env).bind λr=>match r.d with
 | .tup xs=>if aq xs then mX j f xs env eA else none
 |_=>none
@[simp] noncomputable def Fj(i:Nat)(f:DM):DS:=λenv=>(f (env.set i none) []).bind λq=>some (.ret (.dT q.2))
open PySem
noncomputable def iE:D->D->Option RV
 | .tup [],.tup y=>some ⟨.c,.tup y⟩
 |x,y=>aB x y
noncomputable def L8:Key->Option Int
 | .inl i=>some (hashInt i)
 | .inr _=>none
noncomputable def Ca:List Key->Option (List Int)
 |[]=>some []
 |k::ks=>match L8 k,Ca ks with
  |some h,some hs=>some (h::hs)
  |_,_=>none
noncomputable def keyHash(ks:List Key):Option Int:=(Ca ks).map λhs=>reduceHash (Builtin.Tuple.tupleHashOf hs)
noncomputable def vQ(i:Nat)(env:Env):Bool:=(List.range env.length).all λj=>j==i||match env[j]? with
 |some none=>true
 |some (some (.sh d))=>d.imm
 |_=>false
open PySem
noncomputable def vR(lo hi:Option Int):D->Option RV
 | .tup xs=>some ⟨.c,.tup (cutD xs lo hi)⟩
 |d=>slD lo hi d
noncomputable def vS(f:DE)(lo hi:DO):DE:=λenv=>(f env).bind λx=>(lo env).bind λl=>(hi env).bind λh=>vR l h x.d
noncomputable def cD{α:Type}:List α->List α
 |[]=>[]
 |[x]=>[x]
 |x::_::xs=>x::cD xs
noncomputable def L9(f:DE):DE:=λenv=>(f env).bind λx=>match x.d with
 | .tup xs=>some ⟨.c,.tup (cD xs)⟩
 |_=>none
open PySem PySem.Spec PyProof.Rows L2
abbrev ak:=PySem.W.Frag
abbrev St:=L2.St
def isT:HO->Prop
 | .tup _=>True
 | .frz _ _=>True
 |_=>False
def Kl(K:ak)(a:Addr)(xs:List V):Prop:=∃(o:Obj) (eI:Array Value) (n:Nat),K.lookup a=some o/\o.cls= .type "list"/\o.dict=none/\o.data= .seq eI n/\eI.size<=sizeLine/\Vals xs eI.toList
def Scr(K:ak)(H:Hp)(a:Addr)(ns:List Int):Prop:=(∃o,H a=some (.frz o (.lst (ns.map V.int))))\/Kl K a (ns.map V.int)
def Xc(H:Hp)(a:Addr)(C:Nat)(n:Str)(v:V):Prop:=∃dx vs sl od,H a=some (.frz {cls:= .ref C,dict:=some dx,data:= .fields vs,slots:=sl} (.own a))/\H dx=some (.frz od (.xd [(n,v)]))
inductive Rep (K:ak) (F:Addr->Prop) (H:Hp):D->V->Prop where
 |non:Rep K F H .non .non
 |bl (b:Bool):Rep K F H (.bl b) (.bl b)
 |int (i:Int):Rep K F H (.int i) (.int i)
 |str (x:Str):Rep K F H (.str x) (.str x)
 |tup {a:Addr} {vs:List V} {ds:List D} (h:H a=some (.tup vs)) (l:ds.length=vs.length) (r:∀(i:Nat) d v,ds[i]? =some d->vs[i]? =some v->Rep K F H d v):Rep K F H (.tup ds) (.ref a)
 |lst {a:Addr} {vs:List V} {ds:List D} (f:F a) (h:Rd H a (.lst vs)) (l:ds.length=vs.length) (r:∀(i:Nat) d v,ds[i]? =some d->vs[i]? =some v->Rep K F H d v):Rep K F H (.lst ds) (.ref a)
 |scr {a:Addr} {ns:List Int} (h:Scr K H a ns):Rep K F H (.scr ns) (.ref a)
 |exc {a:Addr} {C:Nat} {n:Str} {v:V} {d:D} (h:Xc H a C n v) (r:Rep K F H d v):Rep K F H (.exc C n d) (.ref a)
 |dK {a:Addr} {ws:List (Key×V)} {eE:List (Key×D)} (f:F a) (h:H a=some (.dK ws)) (l:eE.map (·.1)=ws.map (·.1)) (r:∀(i:Nat) p q,eE[i]? =some p->ws[i]? =some q->Rep K F H p.2 q.2):Rep K F H (.dK eE) (.ref a)
 |dT {a:Addr} {ws:List (List Key×V)} {eE:List (List Key×D)} (f:F a) (h:H a=some (.dT ws)) (l:eE.map (·.1)=ws.map (·.1)) (r:∀(i:Nat) p q,eE[i]? =some p->ws[i]? =some q->Rep K F H p.2 q.2):Rep K F H (.dT eE) (.ref a)
def aN(K:ak)(F:Addr->Prop)(H:Hp)(ds:List D)(vs:List V):Prop:=ds.length=vs.length/\∀(i:Nat) d v,ds[i]? =some d->vs[i]? =some v->Rep K F H d v
def aP{Y:Type}(K:ak)(F:Addr->Prop)(H:Hp)(eE:List (Y×D))(ws:List (Y×V)):Prop:=eE.map (·.1)=ws.map (·.1)/\∀(i:Nat) p q,eE[i]? =some p->ws[i]? =some q->Rep K F H p.2 q.2
inductive Inn (K:ak) (F:Addr->Prop) (H:Hp):D->V->Prop where
 |non:Inn K F H .non .non
 |bl (b:Bool):Inn K F H (.bl b) (.bl b)
 |int (i:Int):Inn K F H (.int i) (.int i)
 |str (x:Str):Inn K F H (.str x) (.str x)
 |tup {a:Addr} {vs:List V} {ds:List D} (h:H a=some (.tup vs)) (r:aN K F H ds vs):Inn K F H (.tup ds) (.ref a)
 |lst {a:Addr} {vs:List V} {ds:List D} (h:Rd H a (.lst vs)) (r:aN K F H ds vs):Inn K F H (.lst ds) (.ref a)
 |scr {a:Addr} {ns:List Int} (h:Scr K H a ns):Inn K F H (.scr ns) (.ref a)
 |exc {a:Addr} {C:Nat} {n:Str} {v:V} {d:D} (h:Xc H a C n v) (r:Rep K F H d v):Inn K F H (.exc C n d) (.ref a)
 |dK {a:Addr} {ws:List (Key×V)} {eE:List (Key×D)} (h:H a=some (.dK ws)) (r:aP K F H eE ws):Inn K F H (.dK eE) (.ref a)
 |dT {a:Addr} {ws:List (List Key×V)} {eE:List (List Key×D)} (h:H a=some (.dT ws)) (r:aP K F H eE ws):Inn K F H (.dT eE) (.ref a)
section
variable{K:ak}{F F' :Addr->Prop}{H H' :Hp}{d:D}{v:V}{ds:List D}{vs:List V}
theorem Rep.inn(h:Rep K F H d v):Inn K F H d v:=by
 cases h with
 |non=>exact .non
 |bl b=>exact .bl b
 |int i=>exact .int i
 |str x=>exact .str x
 |tup h l r=>exact .tup h ⟨l,r⟩
 |lst f h l r=>exact .lst h ⟨l,r⟩
 |scr h=>exact .scr h
 |exc h r=>exact .exc h r
 |dK f h l r=>exact .dK h ⟨l,r⟩
 |dT f h l r=>exact .dT h ⟨l,r⟩
theorem Inn.rep(h:Inn K F H d v)(hf:∀a,v= .ref a->d.top=true->F a):Rep K F H d v:=by
 cases h with
 |non=>exact .non
 |bl b=>exact .bl b
 |int i=>exact .int i
 |str x=>exact .str x
 |tup h r=>exact .tup h r.1 r.2
 |lst h r=>exact .lst (hf _ rfl rfl) h r.1 r.2
 |scr h=>exact .scr h
 |exc h r=>exact .exc h r
 |dK h r=>exact .dK (hf _ rfl rfl) h r.1 r.2
 |dT h r=>exact .dT (hf _ rfl rfl) h r.1 r.2
def gE(F:Addr->Prop)(H H' :Hp):Prop:=∀b o,H b=some o->(F b\/isT o)->H' b=some o
theorem gE.of_same(h:bR H H'):gE F H H' :=λb o e _=>h b o e
theorem gE.tup{a:Addr}(s:gE F H H')(h:H a=some (.tup vs)):H' a=some (.tup vs):=s _ _ h (.inr trivial)
theorem gE.scr{a:Addr}{ns:List Int}(s:gE F H H')(h:Scr K H a ns):Scr K H' a ns:=by
 rcases h with⟨o,h⟩|h
 .exact .inl ⟨o,s _ _ h (.inr trivial)⟩
 .exact .inr h
theorem gE.xc{a:Addr}{C:Nat}{n:Str}(s:gE F H H')(h:Xc H a C n v):Xc H' a C n v:=let⟨dx,vs,sl,od,h1,h2⟩:=h;⟨dx,vs,sl,od,s _ _ h1 (.inr trivial),s _ _ h2 (.inr trivial)⟩
theorem gE.rd{a:Addr}{u:HO}(s:gE F H H')(f:F a)(h:Rd H a u):Rd H' a u:=by
 rcases h with h| ⟨o,h⟩
 .exact .inl (s _ _ h (.inl f))
 .exact .inr ⟨o,s _ _ h (.inl f)⟩
theorem Rd.there{a:Addr}{u:HO}(h:Rd H a u):H a≠none:=by
 rcases h with h| ⟨o,h⟩<;>rw[h]<;>simp
theorem Rep.gen(s:gE F H H')(hF:∀b,F b->H b≠none->F' b)(h:Rep K F H d v):Rep K F' H' d v:=by
 induction h with
 |non=>exact .non
 |bl b=>exact .bl b
 |int i=>exact .int i
 |str x=>exact .str x
 |tup h l r ih=>exact .tup (s.tup h) l ih
 |lst f h l r ih=>exact .lst (hF _ f (Rd.there h)) (s.rd f h) l ih
 |scr h=>exact .scr (s.scr h)
 |exc h r ih=>exact .exc (s.xc h) ih
 |dK f h l r ih=>exact .dK (hF _ f (by rw[h];simp)) (s _ _ h (.inl f)) l ih
 |dT f h l r ih=>exact .dT (hF _ f (by rw[h];simp)) (s _ _ h (.inl f)) l ih
theorem Rep.same(s:bR H H')(h:Rep K F H d v):Rep K F H' d v:=h.gen (.of_same s) λ_ f _=>f
theorem Rep.imp(hF:∀b,F b->F' b)(h:Rep K F H d v):Rep K F' H d v:=h.gen (.of_same λ_ _ e=>e) λb f _=>hF b f
theorem aN.gen(s:gE F H H')(hF:∀b,F b->H b≠none->F' b)(h:aN K F H ds vs):aN K F' H' ds vs:=⟨h.1,λi d v e1 e2=>(h.2 i d v e1 e2).gen s hF⟩
theorem aP.gen{Y:Type}{eE:List (Y×D)}{ws:List (Y×V)}(s:gE F H H')(hF:∀b,F b->H b≠none->F' b)(h:aP K F H eE ws):aP K F' H' eE ws:=⟨h.1,λi p q e1 e2=>(h.2 i p q e1 e2).gen s hF⟩
theorem Inn.gen(s:gE F H H')(hF:∀b,F b->H b≠none->F' b)(ht:∀a,v= .ref a->d.top=true->∀o,H a=some o->H' a=some o)(h:Inn K F H d v):Inn K F' H' d v:=by
 have rd:∀{a:Addr} {u:HO},(∀o,H a=some o->H' a=some o)->Rd H a u->Rd H' a u:=λk h=>by
  rcases h with h| ⟨o,h⟩
  .exact .inl (k _ h)
  .exact .inr ⟨o,k _ h⟩
 cases h with
 |non=>exact .non
 |bl b=>exact .bl b
 |int i=>exact .int i
 |str x=>exact .str x
 |tup h r=>exact .tup (s.tup h) (r.gen s hF)
 |lst h r=>exact .lst (rd (ht _ rfl rfl) h) (r.gen s hF)
 |scr h=>exact .scr (s.scr h)
 |exc h r=>exact .exc (s.xc h) (r.gen s hF)
 |dK h r=>exact .dK (ht _ rfl rfl _ h) (r.gen s hF)
 |dT h r=>exact .dT (ht _ rfl rfl _ h) (r.gen s hF)
theorem Inn.same(s:bR H H')(h:Inn K F H d v):Inn K F H' d v:=h.gen (.of_same s) (λ_ f _=>f) λ_ _ _ o e=>s _ o e
theorem Inn.imp(hF:∀b,F b->F' b)(h:Inn K F H d v):Inn K F' H d v:=h.gen (.of_same λ_ _ e=>e) (λb f _=>hF b f) λ_ _ _ _ e=>e
theorem Inn.any(h:Inn K F H d v):Rep K (λ_=>True) H d v:=(h.imp (F' :=λ_=>True) λ_ _=>trivial).rep λ_ _ _=>trivial
theorem pH{ds:List D}(h:aq ds=true):∀(i:Nat) d,ds[i]? =some d->d.imm=true:=by
 induction ds with
 |nil=>intro i d e;simp at e
 |cons x xs ih=>
  unfold aq at h;rw[Gay] at h;intro i d e;cases i with
  |zero=>simp at e;subst e;exact h.1
  |succ i=>exact ih h.2 i d (by simpa using e)
theorem Rep.imm(h:Rep K F H d v)(hd:d.imm=true):Rep K F' H d v:=by
 induction h with
 |non=>exact .non
 |bl b=>exact .bl b
 |int i=>exact .int i
 |str x=>exact .str x
 |tup h l r ih=>
  unfold D.imm at hd;exact .tup h l λi d v e1 e2=>ih i d v e1 e2 (pH hd i d e1)
 |lst f h l r ih=>simp[D.imm] at hd
 |scr h=>exact .scr h
 |exc h r ih=>
  unfold D.imm at hd;exact .exc h (ih hd)
 |dK f h l r ih=>simp[D.imm] at hd
 |dT f h l r ih=>simp[D.imm] at hd
theorem Inn.imm(h:Inn K F H d v)(hd:d.imm=true):Rep K F' H d v:=by
 refine Rep.imm (h.rep λa _ ht=> ?_) hd;cases d<;>simp[D.top] at ht<;>simp[D.imm] at hd
theorem aN.nil:aN K F H [] []:=⟨rfl,λi d v e=>by simp at e⟩
theorem aN.cg(h:aN K F H [] vs):vs=[]:=List.eq_nil_of_length_eq_zero h.1.symm
theorem aN.cons(h:Rep K F H d v)(r:aN K F H ds vs):aN K F H (d::ds) (v::vs):=by
 refine⟨by simp[r.1],λi x u e1 e2=> ?_⟩;cases i with
 |zero=>simp at e1 e2;subst e1;subst e2;exact h
 |succ i=>exact r.2 i x u (by simpa using e1) (by simpa using e2)
theorem aN.cons_inv(h:aN K F H (d::ds) vs):∃v r,vs=v::r/\Rep K F H d v/\aN K F H ds r:=by
 cases vs with
 |nil=>exact absurd h.1 (by simp)
 |cons v r=>exact⟨v,r,rfl,h.2 0 d v rfl rfl,by simpa using h.1,λi x u e1 e2=>h.2 (i+1) x u (by simpa using e1) (by simpa using e2)⟩
theorem aN.append:∀{ds es:List D} {vs us:List V},aN K F H ds vs->aN K F H es us->aN K F H (ds++es) (vs++us)
 |[],es,vs,us,h,r=>by rw[h.cg];exact r
 |d::ds,es,vs,us,h,r=>by
  obtain⟨v,w,rfl,h1,h2⟩:=h.cons_inv;exact .cons h1 (h2.append r)
theorem aN.take(n:Nat)(h:aN K F H ds vs):aN K F H (ds.take n) (vs.take n):=by
 refine⟨by simp[h.1],λi x u e1 e2=> ?_⟩;by_cases hi:i<n
 .rw[GaV hi] at e1 e2;exact h.2 i x u e1 e2
 .rw[Gbt (by simp;lia)] at e1;cases e1
theorem aN.drop(n:Nat)(h:aN K F H ds vs):aN K F H (ds.drop n) (vs.drop n):=by
 refine⟨by simp[h.1],λi x u e1 e2=> ?_⟩;rw[Gbm] at e1 e2;exact h.2 _ x u e1 e2
theorem aN.set(h:aN K F H ds vs)(r:Rep K F H d v)(i:Nat):aN K F H (ds.set i d) (vs.set i v):=by
 refine⟨by simp[h.1],λj x u e1 e2=> ?_⟩;by_cases hj:i=j
 .subst hj;have hi:i<ds.length:=by have:=(Gaj.mp e1).1;simpa using this
  rw[GaT hi] at e1;rw[GaT (by rw[<-h.1];exact hi)] at e2;cases e1;cases e2;exact r
 .rw[Gad hj] at e1 e2;exact h.2 j x u e1 e2
theorem aN.get{i:Nat}(h:aN K F H ds vs)(e:ds[i]? =some d):∃v,vs[i]? =some v/\Rep K F H d v:=by
 have hi:=(Gaj.mp e).1;have hi' :i<vs.length:=by rw[<-h.1];exact hi
 exact⟨vs[i],by simp[hi'],h.2 i d _ e (by simp[hi'])⟩
theorem aN.imm(h:aN K F H ds vs)(hd:aq ds=true):aN K F' H ds vs:=⟨h.1,λi d v e1 e2=>(h.2 i d v e1 e2).imm (pH hd i d e1)⟩
end
def b5:Option (Option Slot)->Prop
 |some (some (.own _))=>True
 |some (some (.lok _))=>True
 |some (some (.bor _))=>True
 |_=>False
def vT:Option (Option Slot)->Prop
 |some (some (.own _))=>True
 |some (some (.lok _))=>True
 |_=>False
def isO:Option (Option Slot)->Prop
 |some (some (.own _))=>True
 |_=>False
def vU:Option (Option Slot)->Prop
 |some (some (.lok _))=>True
 |some (some (.bor _))=>True
 |_=>False
theorem tm{x:Option (Option Slot)}(h:b5 x):isO x\/vU x:=by
 match x,h with
 |some (some (.own _)),_=>exact .inl trivial
 |some (some (.lok _)),_=>exact .inr trivial
 |some (some (.bor _)),_=>exact .inr trivial
theorem vU.top{x:Option (Option Slot)}(h:vU x):b5 x:=by
 match x,h with
 |some (some (.lok _)),_=>trivial
 |some (some (.bor _)),_=>trivial
theorem isO.ol{x:Option (Option Slot)}(h:isO x):vT x:=by
 match x,h with
 |some (some (.own _)),_=>trivial
theorem vT.top{x:Option (Option Slot)}(h:vT x):b5 x:=by
 match x,h with
 |some (some (.own _)),_=>trivial
 |some (some (.lok _)),_=>trivial
def Cln(eF:Addr->Prop)(env:Env)(Z:St)(a:Addr):Prop:=¬eF a/\∀i:Nat,b5 env[i]? ->Z[i]? ≠some (some (V.ref a))
def isW:HO->Prop
 | .lst _=>True
 | .dK _=>True
 | .dT _=>True
 |_=>False
def Wr(H:Hp)(a:Addr):Prop:=∃o,H a=some o/\isW o
def Ow(env:Env)(Z:St)(a:Addr):Prop:=∃i:Nat,isO env[i]? /\Z[i]? =some (some (.ref a))
structure ao(K:ak)(H0:Hp)(eF:Addr->Prop)(env:Env)(Z:St)(H:Hp):Prop where
 same:bR H0 H
 len:env.length=Z.length
 bad:∀a,eF a->H a≠none
 sh:∀(i:Nat) d,env[i]? =some (some (.sh d))->∃v,Z[i]? =some (some v)/\Rep K (Cln eF env Z) H d v
 ow:∀(i:Nat) d,(env[i]? =some (some (.own d))\/env[i]? =some (some (.lok d)))->∃a,Z[i]? =some (some (.ref a))/\H0 a=none/\¬eF a/\Wr H a/\d.top=true/\Inn K (Cln eF env Z) H d (.ref a)
 bo:∀(i:Nat) d,env[i]? =some (some (.bor d))->∃a,Z[i]? =some (some (.ref a))/\Wr H a/\d.top=true/\Inn K (Cln eF env Z) H d (.ref a)
 dj:∀(i j:Nat) a,vT env[i]? ->b5 env[j]? ->Z[i]? =some (some (.ref a))->Z[j]? =some (some (.ref a))->i=j
structure Stp(env:Env)(Z:St)(H:Hp)(eU :Env)(Z' :St)(H' :Hp):Prop where
 keep:∀b o,H b=some o->¬Ow env Z b->H' b=some o
 ow:∀b,Ow eU Z' b->Ow env Z b\/H b=none
 lk:∀i:Nat,vU eU[i]? ->eU[i]? =env[i]? /\Z'[i]? =Z[i]?
theorem Stp.refl{env:Env}{Z:St}{H:Hp}:Stp env Z H env Z H:=⟨λ_ _ e _=>e,λ_ h=> .inl h,λ_ _=> ⟨rfl,rfl⟩⟩
theorem Stp.of_same{env:Env}{Z:St}{H H' :Hp}(s:bR H H'):Stp env Z H env Z H' :=⟨λb o e _=>s b o e,λ_ h=> .inl h,λ_ _=> ⟨rfl,rfl⟩⟩
theorem Stp.trans{e1 e2 e3:Env}{s1 s2 s3:St}{H1 H2 H3:Hp}(a:Stp e1 s1 H1 e2 s2 H2)(b:Stp e2 s2 H2 e3 s3 H3):Stp e1 s1 H1 e3 s3 H3:=by
 refine⟨λc o e n=>b.keep c o (a.keep c o e n) λh=> ?_,λc h=> ?_,λi h=> ?_⟩
 .rcases a.ow c h with q|q
  .exact n q
  .rw[e] at q;cases q
 .rcases b.ow c h with q|q
  .exact a.ow c q
  .by_cases z:Ow e1 s1 c
   .exact .inl z
   .right
    cases e:H1 c with
    |none=>rfl
    |some o=>rw[a.keep c o e z] at q;cases q
 .obtain⟨h1,h2⟩:=b.lk i h;rw[h1] at h;obtain⟨h3,h4⟩:=a.lk i h;exact⟨h1.trans h3,h2.trans h4⟩
section
variable{K:ak}{H0 H H' H1:Hp}{eF:Addr->Prop}{env eU :Env}{Z Z' :St}{d:D}{v:V}{a:Addr}{i:Nat}
theorem Wr.same(s:bR H H')(w:Wr H a):Wr H' a:=let⟨o,h1,h2⟩:=w;⟨o,s a o h1,h2⟩
theorem Wr.there(w:Wr H a):H a≠none:=let⟨o,h1,_⟩:=w;by rw[h1];simp
theorem ao.mono(E:ao K H0 eF env Z H)(s:bR H H'):ao K H0 eF env Z H' where
 same:=E.same.trans s
 len:=E.len
 bad:=λa h e=>E.bad a h (s.free e)
 sh:=λi d e=>let⟨v,h1,h2⟩:=E.sh i d e;⟨v,h1,h2.same s⟩
 ow:=λi d e=>let⟨a,h1,h2,h3,h4,h5,h6⟩:=E.ow i d e;⟨a,h1,h2,h3,h4.same s,h5,h6.same s⟩
 bo:=λi d e=>let⟨a,h1,h2,h3,h4⟩:=E.bo i d e;⟨a,h1,h2.same s,h3,h4.same s⟩
 dj:=E.dj
theorem ao.NU(E:ao K H0 eF env Z H)(h:b5 env[i]?):∃d a,d.top=true/\Z[i]? =some (some (.ref a))/\Wr H a/\Inn K (Cln eF env Z) H d (.ref a):=by
 match e:env[i]?,h with
 |some (some (.own d)),_=>obtain⟨a,h1,_,_,h4,h5,h6⟩:=E.ow i d (.inl e);exact⟨d,a,h5,h1,h4,h6⟩
 |some (some (.lok d)),_=>obtain⟨a,h1,_,_,h4,h5,h6⟩:=E.ow i d (.inr e);exact⟨d,a,h5,h1,h4,h6⟩
 |some (some (.bor d)),_=>obtain⟨a,h1,h4,h5,h6⟩:=E.bo i d e;exact⟨d,a,h5,h1,h4,h6⟩
theorem ao.K7(E:ao K H0 eF env Z H)(h:b5 env[i]?)(e:Z[i]? =some (some (.ref a))):Wr H a:=by
 obtain⟨d,b,h1,h2,h3,h4⟩:=E.NU h;rw[e] at h2;cases h2
 exact h3
theorem ao.mY(E:ao K H0 eF env Z H)(h:b5 env[i]?)(e:Z[i]? =some (some (.ref a))):H a≠none:=(E.K7 h e).there
theorem ao.uy(E:ao K H0 eF env Z H)(h:H a=none):Cln eF env Z a:=⟨λb=>E.bad a b h,λi t e=>E.mY t e h⟩
def iU(K:ak)(H0:Hp)(eF:Addr->Prop)(env:Env)(Z:St)(H H' :Hp)(r:RV)(v:V):Prop:=
 match r.k with
 | .c=>Rep K (Cln eF env Z) H' r.d v
 | .tn=>∃a,v= .ref a/\H a=none/\Wr H' a/\r.d.top=true/\Inn K (λb=>Cln eF env Z b/\b≠a) H' r.d v
 | .to=>∃a,v= .ref a/\H0 a=none/\Wr H' a/\r.d.top=true/\Inn K (Cln eF env Z) H' r.d v
 | .tb=>Inn K (Cln eF env Z) H' r.d v/\∀a,v= .ref a->r.d.top=true->¬Ow env Z a
theorem iU.inn{r:RV}(h:iU K H0 eF env Z H H' r v):Inn K (Cln eF env Z) H' r.d v:=by
 obtain⟨k,d⟩:=r;cases k with
 |c=>exact Rep.inn h
 |tn=>obtain⟨_,_,_,_,_,h⟩:=h;exact h.imp λ_ z=>z.1
 |to=>obtain⟨_,_,_,_,_,h⟩:=h;exact h
 |tb=>exact h.1
theorem iU.rep{r:RV}(h:iU K H0 eF env Z H H' r v)(E:ao K H0 eF env Z H)(hf:r.free=true):Rep K (Cln eF env Z) H' r.d v:=by
 obtain⟨k,d⟩:=r;cases k with
 |c=>exact h
 |tn=>
  obtain⟨a,e,h1,_,_,h2⟩:=h;exact(h2.imp λ_ z=>z.1).rep λb eb _=>by rw[e] at eb;cases eb;exact E.uy h1
 |to=>simp[RV.free] at hf
 |tb=>simp[RV.free] at hf
theorem iU.same{r:RV}{H2:Hp}(h:iU K H0 eF env Z H H' r v)(s:bR H' H2):iU K H0 eF env Z H H2 r v:=by
 obtain⟨k,d⟩:=r;cases k with
 |c=>exact Rep.same s h
 |tn=>obtain⟨a,e,h1,w,t,h2⟩:=h;subst e;exact⟨a,rfl,h1,w.same s,t,h2.same s⟩
 |to=>obtain⟨a,e,h1,w,t,h2⟩:=h;subst e;exact⟨a,rfl,h1,w.same s,t,h2.same s⟩
 |tb=>exact⟨h.1.same s,h.2⟩
theorem iU.from{r:RV}(s:bR H H1)(h:iU K H0 eF env Z H1 H' r v):iU K H0 eF env Z H H' r v:=by
 obtain⟨k,d⟩:=r;cases k with
 |c=>exact h
 |tn=>obtain⟨a,e,h1,w,t,h2⟩:=h;exact⟨a,e,s.free h1,w,t,h2⟩
 |to=>exact h
 |tb=>exact h
def tq(K:ak)(H0 H' :Hp)(d:D)(v:V):Prop:=
 (d.top=true->∃a,v= .ref a/\H0 a=none/\Wr H' a)/\Inn K (λb=>H0 b=none/\v≠ .ref b) H' d v
theorem tq.rv(E:ao K H0 eF env Z H)(h:tq K H H' d v):iU K H0 eF env Z H H' (iR d) v:=by
 obtain⟨h1,h2⟩:=h;unfold iR;by_cases t:d.top=true
 .rw[Gaf t];obtain⟨a,e,n,w⟩:=h1 t;subst e;exact⟨a,rfl,n,w,t,h2.imp λb z=> ⟨E.uy z.1,λq=>z.2 (by rw[q])⟩⟩
 .rw[Gag t];exact(h2.imp λb z=>E.uy z.1).rep λ_ _ z=>absurd z t
end
open PySem PySem.Spec PyProof.Rows L2
def tE(X:Cx)(f:DE):TE:=λZ H Q=>∃H0 eF env r,ao X.K H0 eF env Z H/\f env=some r/\∀v H',bR H H' ->iU X.K H0 eF env Z H H' r v->Q v H'
def tT(X:Cx)(t:DT):TT:=λZ H Q=>∃H0 eF env b,ao X.K H0 eF env Z H/\t env=some b/\∀H',bR H H' ->Q b H'
def tA(X:Cx)(a:DA):TA:=λZ H Q=>∃H0 eF env rs,ao X.K H0 eF env Z H/\a env=some rs/\∀vs H',bR H H' ->Paired (iU X.K H0 eF env Z H H') rs vs->Q vs H'
def NV(X:Cx)(H0:Hp)(eF:Addr->Prop)(env:Env)(Z:St)(H:Hp)(E:Ends):Out->Prop
 | .nx e=>∀Z' H',ao X.K H0 eF e Z' H' ->Stp env Z H e Z' H' ->E.nx Z' H'
 | .bk e=>∀Z' H',ao X.K H0 eF e Z' H' ->Stp env Z H e Z' H' ->E.bk Z' H'
 | .ct e=>∀Z' H',ao X.K H0 eF e Z' H' ->Stp env Z H e Z' H' ->E.ct Z' H'
 | .ret d=>∀v H',bR H0 H' ->tq X.K H0 H' d v->E.rt v H'
def tS(X:Cx)(f:DS):TS:=λE Z H=>∃H0 eF env o,ao X.K H0 eF env Z H/\f env=some o/\NV X H0 eF env Z H E o
def tG(X:Cx)(g:DG):TG:=λv Z H Q=>∃H0 eF env d eU,ao X.K H0 eF env Z H/\g d env=some eU /\Rep X.K (Cln eF env Z) H d v/\∀Z' H',ao X.K H0 eF eU Z' H' ->Stp env Z H eU Z' H' ->Q Z' H'
abbrev PEd(X:Cx)(e:Expr)(f:DE):Prop:=PE X e (tE X f)
abbrev PTd(X:Cx)(e:Expr)(t:DT):Prop:=PT X e (tT X t)
abbrev PWd(X:Cx)(e:Expr)(t:DT):Prop:=PW X e (tT X t)
abbrev PAd(X:Cx)(es:List Expr)(a:DA):Prop:=PA X es (tA X a)
abbrev PSd(X:Cx)(st:Stmt)(f:DS):Prop:=PS X st (tS X f)
abbrev qh(X:Cx)(st:List Stmt)(f:DS):Prop:=PSs X st (tS X f)
abbrev PGd(X:Cx)(e:Expr)(g:DG):Prop:=PG X e (tG X g)
section
variable{X:Cx}{e a b c:Expr}{f g h:DE}{t u:DT}{pos:Pos}
theorem _root_.L2.PE.aG{t t' :TE}(h:PE X e t')(i:∀Z H Q,t Z H Q->t' Z H Q):PE X e t:=λee s Z H Q I q=>h ee s Z H Q I (i Z H Q q)
theorem _root_.L2.PT.aG{t t' :TT}(h:PT X e t')(i:∀Z H Q,t Z H Q->t' Z H Q):PT X e t:=λee s Z H Q I q=>h ee s Z H Q I (i Z H Q q)
theorem _root_.L2.PW.aG{t t' :TT}(h:PW X e t')(i:∀Z H Q,t Z H Q->t' Z H Q):PW X e t:=λwh ee s Z H Q I q=>h wh ee s Z H Q I (i Z H Q q)
theorem _root_.L2.PA.aG{es:List Expr}{t t' :TA}(h:PA X es t')(i:∀Z H Q,t Z H Q->t' Z H Q):PA X es t:=λpos ee s Z H Q I q=>h pos ee s Z H Q I (i Z H Q q)
theorem _root_.L2.PS.aG{st:Stmt}{t t' :TS}(h:PS X st t')(i:∀D Z H,t D Z H->t' D Z H):PS X st t:=λee s Z H D I q=>h ee s Z H D I (i D Z H q)
theorem _root_.L2.PSs.aG{st:List Stmt}{t t' :TS}(h:PSs X st t')(i:∀D Z H,t D Z H->t' D Z H):PSs X st t:=λee s Z H D I q=>h ee s Z H D I (i D Z H q)
theorem _root_.L2.PG.aG{t t' :TG}(h:PG X e t')(i:∀v Z H Q,t v Z H Q->t' v Z H Q):PG X e t:=λee s Z H v u Q I r q=>h ee s Z H v u Q I r (i v Z H Q q)
theorem bF{H:Hp}:bR H H:=λ_ _ e=>e
theorem eD{α β:Type}{o:Option α}{k:α->Option β}{y:β}(h:o.bind k=some y):∃x,o=some x/\k x=some y:=Option.bind_eq_some_iff.mp h
theorem AM(i:Nat){x:Str}(hN:X.N[i]? =some x:=by rfl)(hv:Vis X.env.scope x:=by first|exact Or.inl rfl|exact Or.inr (Or.inl rfl)|exact Or.inr (Or.inr rfl))(hd:(x==("__debug__":Str))=false:=by decide)
  (xn:(x==("__classdict__":Str))=false:=by decide):PEd X (.Name x pos) (vE i):=by
 refine(jY hN hv hd xn).aG ?_;rintro Z H Q ⟨H0,eF,env,r,E,e,k⟩;unfold vE at e
 match q:env[i]?,e with
 |some (some (.sh d)),e=>
  cases e;obtain⟨v,h1,h2⟩:=E.sh i d q;exact⟨v,h1,k v H bF h2⟩
 |some (some (.own d)),e=>
  cases e;obtain⟨a,h1,h2,h3,h4,h5,h6⟩:=E.ow i d (.inl q);exact⟨_,h1,k _ H bF ⟨a,rfl,h2,h4,h5,h6⟩⟩
 |some (some (.lok d)),e=>
  cases e;obtain⟨a,h1,h2,h3,h4,h5,h6⟩:=E.ow i d (.inr q);refine⟨_,h1,k _ H bF ⟨h6,λb eb _ ⟨j,ho,hj⟩=> ?_⟩⟩;cases eb;have:=E.dj j i a ho.ol (by rw[q];trivial) hj h1;subst this;rw[q] at ho;exact ho
 |some (some (.bor d)),e=>
  cases e;obtain⟨a,h1,h4,h5,h6⟩:=E.bo i d q;refine⟨_,h1,k _ H bF ⟨h6,λb eb _ ⟨j,ho,hj⟩=> ?_⟩⟩;cases eb;have:=E.dj j i a ho.ol (by rw[q];trivial) hj h1;subst this;rw[q] at ho;exact ho
theorem nY{i:Int}{j:Nat}:PEd X (.Constant (.int i) j pos) (kE (.int i)):=EJ.aG λZ H Q ⟨_,_,_,_,_,e,k⟩=>by cases e;exact k _ H bF (.int i)
theorem NW{b:Bool}{j:Nat}:PEd X (.Constant (.bool b) j pos) (kE (.bl b)):=MJ.aG λZ H Q ⟨_,_,_,_,_,e,k⟩=>by cases e;exact k _ H bF (.bl b)
theorem Fl{j:Nat}:PEd X (.Constant .none j pos) (kE .non):=Kk.aG λZ H Q ⟨_,_,_,_,_,e,k⟩=>by cases e;exact k _ H bF .non
theorem AN{x:Str}{j:Nat}:PEd X (.Constant (.str x) j pos) (kE (.str x)):=Km.aG λZ H Q ⟨_,_,_,_,_,e,k⟩=>by cases e;exact k _ H bF (.str x)
def RvN(K:ak)(F:Addr->Prop)(H H' :Hp)(r:RV)(v:V):Prop:=
 match r.k with
 | .c=>Rep K F H' r.d v
 | .tn=>∃a,v= .ref a/\H a=none/\Wr H' a/\r.d.top=true/\Inn K (λb=>F b/\b≠a) H' r.d v
 |_=>False
theorem RvN.ok{K:ak}{H0 H H1 H' :Hp}{eF:Addr->Prop}{env:Env}{Z:St}{r:RV}{v:V}(h:RvN K (Cln eF env Z) H1 H' r v)(s:bR H H1):iU K H0 eF env Z H H' r v:=by
 obtain⟨k,d⟩:=r;cases k with
 |c=>exact h
 |tn=>obtain⟨a,e,h1,w,t,h2⟩:=h;exact⟨a,e,s.free h1,w,t,h2⟩
 |to=>exact(show False from h).elim
 |tb=>exact(show False from h).elim
def OpD(X:Cx)(o:D->D->Option RV)(r:R2):Prop:=∀(F:Addr->Prop) (H:Hp) (dx dy:D) (x y:V) (rv:RV) (Q:VK),Inn X.K F H dx x->Inn X.K F H dy y->o dx dy=some rv->
 (∀v H',bR H H' ->RvN X.K F H H' rv v->Q v H')->r x y H Q
theorem qi{op:Operator}{o:D->D->Option RV}{r:R2}(ho:OpR X (binaryOp op) r)(hd:OpD X o r)(ha:PEd X a f)(hb:PEd X b g):PEd X (.BinOp a op b pos) (opE o f g):=by
 refine(MT ho ha hb).aG ?_;rintro Z H Q ⟨H0,eF,env,rv,E,e,k⟩;obtain⟨x,hx,e⟩:=eD e;obtain⟨y,hy,e⟩:=eD e;exact⟨H0,eF,env,x,E,hx,λvx H1 s1 R1=> ⟨H0,eF,env,y,E.mono s1,hy,λvy H2 s2 R2=>hd _ H2 x.d y.d vx vy rv Q (R1.inn.same s2) R2.inn e λv H3 s3 R3=>
  k v H3 (s1.trans (s2.trans s3)) (R3.ok (s1.trans s2))⟩⟩
theorem La{o:D->D->Option RV}{gi:Int->Int->Int}(h:∀dx dy rv,o dx dy=some rv->∃i j,dx= .int i/\dy= .int j/\rv=⟨.c,.int (gi i j)⟩):OpD X o (rI0 λi j=> .int (gi i j)):=by
 intro F H dx dy x y rv Q ix iy e k;obtain⟨i,j,rfl,rfl,rfl⟩:=h dx dy rv e;cases ix;cases iy
 exact⟨i,j,rfl,rfl,k _ H bF (.int _)⟩
theorem Cb{o:D->D->Option RV}{C:Int->Int->Prop}{gi:Int->Int->Int}(h:∀dx dy rv,o dx dy=some rv->∃i j,dx= .int i/\dy= .int j/\C i j/\rv=⟨.c,.int (gi i j)⟩):OpD X o (rI C λi j=> .int (gi i j)):=by
 intro F H dx dy x y rv Q ix iy e k;obtain⟨i,j,rfl,rfl,hc,rfl⟩:=h dx dy rv e;cases ix;cases iy
 exact⟨i,j,rfl,rfl,hc,k _ H bF (.int _)⟩
theorem Iu:OpD X gP (rI0 λi j=> .int (i -j)):=La λdx dy rv e=>by
 unfold gP at e;split at e
 .cases e;exact⟨_,_,rfl,rfl,rfl⟩
 .cases e
theorem Iv:OpD X cy (rI HV λi j=> .int (i*j)):=Cb λdx dy rv e=>by
 unfold cy at e;split at e
 .split at e
  .rename_i i j q;cases e;refine⟨i,j,rfl,rfl, ?_,rfl⟩;unfold bC at q;rw[GaX] at q;rcases q with q|q
   .left;have:=Gar q;lia
   .right;have:=Gar q;lia
  .cases e
 .cases e
theorem Fm:OpD X jR (rI MW λi j=> .int (i/j)):=Cb λdx dy rv e=>by
 unfold jR at e;split at e
 .split at e
  .rename_i i j q;cases e;exact⟨i,j,rfl,rfl,q,rfl⟩
  .cases e
 .cases e
theorem Iw:OpD X pz (rI (λ_ j=>0<j) λi j=> .int (i%j)):=Cb λdx dy rv e=>by
 unfold pz at e;split at e
 .split at e
  .rename_i i j q;cases e;exact⟨i,j,rfl,rfl,q,rfl⟩
  .cases e
 .cases e
theorem Iy:OpD X nU (rI MX λi j=> .int (i^j.toNat)):=Cb λdx dy rv e=>by
 unfold nU at e;split at e
 .split at e
  .rename_i i j q;cases e;exact⟨i,j,rfl,rfl,⟨q.1,by lia,by lia⟩,rfl⟩
  .cases e
 .cases e
def K8:R2:=λx y H Q=>∃l b xs zs,x= .ref l/\y= .ref b/\Rd H l (.lst xs)/\Rd H b (.lst zs)/\xs.length+zs.length<=sizeLine/\∀p,H p=none->Q (.ref p) (upd H p (.lst (xs++zs)))
theorem Iz:OpR X (binaryOp .Add) K8:=by
 intro ee s Z H x y v u Q I rx ry h;obtain⟨l,b,xs,zs,rfl,rfl,hH,hB,hz,q⟩:=h;cases rx;cases ry;obtain⟨z,eI,n,r,e⟩:=(show bQ X.prog X.w H s.heap l (.lst xs) from hH.ok I.hok)
 obtain⟨z2,eS,n2,r2,e2⟩:=(show bQ X.prog X.w H s.heap b (.lst zs) from hB.ok I.hok)
 have hl:=r.length;have Qg:=r2.length;refine PySem.P.add_list e e2 ?_ (by rw[Gam,Gam];lia);have ea:eI.toArray++eS.toArray=(eI++eS).toArray:=by simp
 rw[ea];exact⟨.ref _,_,I.PJ (t' :=s.toks) (r.append r2) (by rw[Gan];lia),rfl,q _ I.fresh⟩
theorem eR:a6=sizeLine:=by rw[GbN];rfl
theorem aW{H:Hp}{p:Addr}{o:HO}(n:H p=none):bR H (upd H p o):=λb u e=>by rw[ah (cZ e n)];exact e
theorem cK{K:ak}{F:Addr->Prop}{H:Hp}{p:Addr}{ds:List D}{vs:List V}(n:H p=none)(r:aN K F H ds vs):Rep K F (upd H p (.tup vs)) (.tup ds) (.ref p):=by
 have r2:=r.gen (F' :=F) (.of_same (aW (o:= .tup vs) n)) λ_ f _=>f;exact .tup az r2.1 r2.2
theorem dh{K:ak}{F:Addr->Prop}{H:Hp}{p:Addr}{ds:List D}{vs:List V}(n:H p=none)(r:aN K F H ds vs):Inn K (λb=>F b/\b≠p) (upd H p (.lst vs)) (.lst ds) (.ref p):=
 .lst (.inl az) (r.gen (F' :=λb=>F b/\b≠p) (.of_same (aW (o:= .lst vs) n)) λb f hb=> ⟨f,λz=>hb (z▸n)⟩)
theorem kf{H:Hp}{p:Addr}{xs:List V}:Wr (upd H p (.lst xs)) p:=⟨_,az,trivial⟩
def Fp(K:ak):R2:=λx y H Q=>rI0 (λi j=> .int (i+j)) x y H Q\/(∃i j,x= .str i/\y= .str j/\i.length+j.length<=sizeLine/\Q (.str (i++j)) H)\/K8 x y H Q\/K3 K x y H Q
theorem Cc:OpR X (binaryOp .Add) (Fp X.K):=Kx.or (AD.or (Iz.or Ij))
theorem aN.ne{K:ak}{F:Addr->Prop}{H:Hp}{ds:List D}{vs:List V}(r:aN K F H ds vs):vs=[]↔ds=[]:=by
 constructor
 .intro z;subst z;exact List.eq_nil_of_length_eq_zero r.1
 .intro z;subst z;exact r.cg
theorem Cd:OpD X aB (Fp X.K):=by
 intro F H dx dy x y rv Q ix iy e k;unfold aB at e;split at e
 .cases e;cases ix;cases iy
  exact .inl ⟨_,_,rfl,rfl,k _ H bF (.int _)⟩
 .split at e
  .rename_i q;cases e;cases ix;cases iy
   exact .inr (.inl ⟨_,_,rfl,rfl,by rw[<-eR];exact q,k _ H bF (.str _)⟩)
  .cases e
 .split at e
  .rename_i xs ys q;cases e;cases ix with
   |tup hx rx=>
    cases iy with
    |tup hy ry=>
     refine .inr (.inr (.inr ⟨_,_,_,_,rfl,rfl,SqT.of hx,SqT.of hy, ?_, ?_, ?_, ?_⟩))
     .intro z;have:=rx.ne.mp z;subst this;exact absurd q.2 (by simp)
     .rw[<-rx.1,<-ry.1,<-eR];exact q.1
     .intro z;have:=ry.ne.mp z;subst this;refine k _ H bF ?_;rw[GaW];exact .tup hx rx.1 rx.2
     .intro z p n;exact k _ _ (aW n) (cK n (rx.append ry))
  .cases e
 .split at e
  .rename_i xs ys q;cases e;cases ix with
   |lst hx rx=>
    cases iy with
    |lst hy ry=>
     refine .inr (.inr (.inl ⟨_,_,_,_,rfl,rfl,hx,hy,by rw[<-rx.1,<-ry.1,<-eR];exact q,λp n=> ?_⟩));exact k _ _ (aW n) ⟨p,rfl,n,kf,rfl,dh n (rx.append ry)⟩
  .cases e
 .cases e
def UnD(X:Cx)(o:D->Option RV)(r:V->Hp->VK->Prop):Prop:=∀(F:Addr->Prop) (H:Hp) (dx:D) (x:V) (rv:RV) (Q:VK),Inn X.K F H dx x->o dx=some rv->(∀v H',bR H H' ->RvN X.K F H H' rv v->Q v H')->r x H Q
theorem NX{op:UnaryOp}{o:D->Option RV}{r:V->Hp->VK->Prop}(ho:UnR X (unaryOp op) r)(hd:UnD X o r)(ha:PEd X a f):PEd X (.UnaryOp op a pos) (unE o f):=by
 refine(MU ho ha).aG ?_;rintro Z H Q ⟨H0,eF,env,rv,E,e,k⟩;obtain⟨x,hx,e⟩:=eD e;exact⟨H0,eF,env,x,E,hx,λvx H1 s1 R1=>hd _ H1 x.d vx rv Q R1.inn e λv H3 s3 R3=>k v H3 (s1.trans s3) (R3.ok s1)⟩
theorem IA:UnD X Dn (rU λi=> .int (-i)):=by
 intro F H dx x rv Q ix e k;unfold Dn at e;split at e
 .cases e;cases ix;exact⟨_,rfl,k _ H bF (.int _)⟩
 .cases e
theorem AO(ha:PEd X a f)(hb:PEd X b g):PEd X (.BinOp a .Add b pos) (opE aB f g):=qi Cc Cd ha hb
theorem AQ(ha:PEd X a f)(hb:PEd X b g):PEd X (.BinOp a .Sub b pos) (opE gP f g):=qi Ky Iu ha hb
theorem AR(ha:PEd X a f)(hb:PEd X b g):PEd X (.BinOp a .Mult b pos) (opE cy f g):=qi Kz Iv ha hb
theorem uz(ha:PEd X a f)(hb:PEd X b g):PEd X (.BinOp a .FloorDiv b pos) (opE jR f g):=qi HW Fm ha hb
theorem AS(ha:PEd X a f)(hb:PEd X b g):PEd X (.BinOp a .Mod b pos) (opE pz f g):=qi KA Iw ha hb
theorem Lb(ha:PEd X a f)(hb:PEd X b g):PEd X (.BinOp a .Pow b pos) (opE nU f g):=qi KC Iy ha hb
theorem Lc(ha:PEd X a f):PEd X (.UnaryOp .USub a pos) (unE Dn f):=NX KD IA ha
def OpB(X:Cx)(o:D->D->Option Bool)(r:R2):Prop:=∀(F:Addr->Prop) (H:Hp) (dx dy:D) (x y:V) (b:Bool) (Q:VK),Inn X.K F H dx x->Inn X.K F H dy y->o dx dy=some b->Q (.bl b) H->r x y H Q
theorem cT{op:CmpOp}{o:D->D->Option Bool}{r:R2}(ho:OpR X (compareOp op) r)(hd:OpB X o r)(ha:PEd X a f)(hb:PEd X b g)(hm:behindInMarks op b=false):PTd X (.Compare a [op] [b] pos) (aC o f g):=by
 refine(HY ho ha hb hm).aG ?_;rintro Z H Q ⟨H0,eF,env,bb,E,e,k⟩;obtain⟨x,hx,e⟩:=eD e;obtain⟨y,hy,e⟩:=eD e;exact⟨H0,eF,env,x,E,hx,λvx H1 s1 R1=> ⟨H0,eF,env,y,E.mono s1,hy,λvy H2 s2 R2=>hd _ H2 x.d y.d vx vy bb _ (R1.inn.same s2) R2.inn e ⟨bb,rfl,k H2 (s1.trans s2)⟩⟩⟩
theorem uA{op:CmpOp}{o:D->D->Option Bool}{r:R2}(ho:OpR X (compareOp op) r)(hd:OpB X o r)(ha:PEd X a f)(hb:PEd X b g)(hm:behindInMarks op b=false):PEd X (.Compare a [op] [b] pos) (bE (aC o f g)):=by
 refine(HX ho ha hb hm).aG ?_;rintro Z H Q ⟨H0,eF,env,rv,E,e,k⟩;obtain⟨bb,e',rfl⟩:=Gap.mp e;clear e;have e:=e';clear e';obtain⟨x,hx,e⟩:=eD e;obtain⟨y,hy,e⟩:=eD e;exact⟨H0,eF,env,x,E,hx,λvx H1 s1 R1=> ⟨H0,eF,env,y,E.mono s1,hy,λvy H2 s2 R2=>hd _ H2 x.d y.d vx vy bb _ (R1.inn.same s2) R2.inn e (k _ H2 (s1.trans s2) (.bl bb))⟩⟩
theorem Ce{o:D->D->Option Bool}{gb:Int->Int->Bool}(h:∀dx dy b,o dx dy=some b->∃i j,dx= .int i/\dy= .int j/\b=gb i j):OpB X o (rI0 λi j=> .bl (gb i j)):=by
 intro F H dx dy x y b Q ix iy e q;obtain⟨i,j,rfl,rfl,rfl⟩:=h dx dy b e;cases ix;cases iy
 exact⟨i,j,rfl,rfl,q⟩
theorem qj:OpB X ltB (rI0 λi j=> .bl (decide (i<j))):=Ce λdx dy b e=>by
 unfold ltB at e;split at e<;>cases e;exact⟨_,_,rfl,rfl,rfl⟩
theorem AU:OpB X leB (rI0 λi j=> .bl (decide (i<=j))):=Ce λdx dy b e=>by
 unfold leB at e;split at e<;>cases e;exact⟨_,_,rfl,rfl,rfl⟩
theorem AV:OpB X gtB (rI0 λi j=> .bl (decide (j<i))):=Ce λdx dy b e=>by
 unfold gtB at e;split at e<;>cases e;exact⟨_,_,rfl,rfl,rfl⟩
theorem Ld:OpB X geB (rI0 λi j=> .bl (decide (j<=i))):=Ce λdx dy b e=>by
 unfold geB at e;split at e<;>cases e;exact⟨_,_,rfl,rfl,rfl⟩
theorem tu{K:ak}{F:Addr->Prop}{H:Hp}{d:D}{x:V}(h:Inn K F H d x):decide (x= .non)=bL d:=by
 cases h<;>simp[bL]
theorem uB:OpB X jX (λx y H Q=>y= .non/\Q (.bl (decide (x= .non))) H):=by
 intro F H dx dy x y b Q ix iy e q;simp only[jX,gy] at e;split at e
 .rename_i h;cases e;cases iy<;>simp[bL] at h
  exact⟨rfl,by rw[tu ix];exact q⟩
 .cases e
theorem vV:OpB X gy (λx y H Q=>y= .non/\Q (.bl (!decide (x= .non))) H):=by
 intro F H dx dy x y b Q ix iy e q;simp only[jX,gy] at e;split at e
 .rename_i h;cases e;cases iy<;>simp[bL] at h
  exact⟨rfl,by rw[tu ix];exact q⟩
 .cases e
theorem Fq(h:PEd X e f)(he:∀whole,isTrue e X.env whole=(do let v<-whole;standAt e.pos;holding [v] (truthy v)):=by intro _;rfl):PTd X e (vN f):=by
 refine(Kn h he).aG ?_;rintro Z H Q ⟨H0,eF,env,bb,E,e,k⟩;obtain⟨x,hx,e⟩:=eD e;split at e
 .rename_i b hb;cases e;refine⟨H0,eF,env,x,E,hx,λvx H1 s1 R1=> ⟨bb, ?_,k H1 s1⟩⟩;have i:=R1.inn;rw[hb] at i;cases i;rfl
 .cases e
theorem uC(ha:PTd X a t):PWd X (.BoolOp .And [a] pos) t:=HQ ha
theorem Fs(ha:PTd X a t):PWd X (.BoolOp .Or [a] pos) t:=Ko ha
theorem nZ{rest:List Expr}(ha:PTd X a t)(hb:PWd X (.BoolOp .And (b::rest) pos) u):PWd X (.BoolOp .And (a::b::rest) pos) (fA t u):=by
 refine(Kp ha hb).aG ?_;rintro Z H Q ⟨H0,eF,env,bb,E,e,k⟩;obtain⟨x,hx,e⟩:=eD e;refine⟨H0,eF,env,x,E,hx,λH1 s1=> ?_⟩;cases x with
 |true=>rw[Gaf rfl];rw[Gaf rfl] at e;exact⟨H0,eF,env,bb,E.mono s1,e,λH2 s2=>k H2 (s1.trans s2)⟩
 |false=>rw[Gag GaH];rw[Gag GaH] at e;cases e;exact k H1 s1
theorem vW{rest:List Expr}(ha:PTd X a t)(hb:PWd X (.BoolOp .Or (b::rest) pos) u):PWd X (.BoolOp .Or (a::b::rest) pos) (orT t u):=by
 refine(MK ha hb).aG ?_;rintro Z H Q ⟨H0,eF,env,bb,E,e,k⟩;obtain⟨x,hx,e⟩:=eD e;refine⟨H0,eF,env,x,E,hx,λH1 s1=> ?_⟩;cases x with
 |false=>rw[Gag GaH];rw[Gag GaH] at e;exact⟨H0,eF,env,bb,E.mono s1,e,λH2 s2=>k H2 (s1.trans s2)⟩
 |true=>rw[Gaf rfl];rw[Gaf rfl] at e;cases e;exact k H1 s1
theorem Ft(ha:PTd X a t):PTd X (.UnaryOp .Not a pos) (AK t):=by
 refine(Kq ha).aG ?_;rintro Z H Q ⟨H0,eF,env,bb,E,e,k⟩;obtain⟨x,hx,rfl⟩:=Gap.mp e;exact⟨H0,eF,env,x,E,hx,λH1 s1=>k H1 s1⟩
theorem Le{op:BoolOp}(ha:PEd X a (bE t)):PEd X (.BoolOp op [a] pos) (bE t):=Kr ha
theorem Lf{rest:List Expr}(ha:PEd X a (bE t))(hb:PEd X (.BoolOp .And (b::rest) pos) (bE u)):PEd X (.BoolOp .And (a::b::rest) pos) (bE (fA t u)):=by
 refine(Ks ha hb).aG ?_;rintro Z H Q ⟨H0,eF,env,rv,E,e,k⟩;obtain⟨bb,e',rfl⟩:=Gap.mp e;clear e;have e:=e';clear e';obtain⟨x,hx,e⟩:=eD e;refine⟨H0,eF,env,⟨.c,.bl x⟩,E,by unfold bE;rw[hx];rfl,λv H1 s1 R=> ?_⟩;have R' :Inn X.K (Cln eF env Z) H1 (.bl x) v:=R.inn;cases R';refine⟨x,rfl, ?_⟩;cases x with
 |true=>rw[Gaf rfl];rw[Gaf rfl] at e;exact⟨H0,eF,env,⟨.c,.bl bb⟩,E.mono s1,by unfold bE;rw[e];rfl,λv2 H2 s2 R2=>k v2 H2 (s1.trans s2) (R2.from s1)⟩
 |false=>rw[Gag GaH];rw[Gag GaH] at e;cases e;exact k _ H1 s1 (.bl false)
theorem Fu(hc:PTd X c t)(ha:PEd X a f)(hb:PEd X b g):PEd X (.IfExp c a b pos) (ifE t f g):=by
 refine(EK hc ha hb).aG ?_;rintro Z H Q ⟨H0,eF,env,rv,E,e,k⟩;obtain⟨x,hx,e⟩:=eD e;refine⟨H0,eF,env,x,E,hx,λH1 s1=> ?_⟩;cases x with
 |true=>rw[Gaf rfl];rw[Gaf rfl] at e;exact⟨H0,eF,env,rv,E.mono s1,e,λv H2 s2 R=>k v H2 (s1.trans s2) (R.from s1)⟩
 |false=>rw[Gag GaH];rw[Gag GaH] at e;exact⟨H0,eF,env,rv,E.mono s1,e,λv H2 s2 R=>k v H2 (s1.trans s2) (R.from s1)⟩
theorem Fv{op yR :CmpOp}{o p:D->D->Option Bool}{r r' :R2}(ho:OpR X (compareOp op) r)(hd:OpB X o r)(xO :OpR X (compareOp yR) r')(xr :OpB X p r')(ha:PEd X a f)(hb:PEd X b g)(hc:PEd X c h)
  (hm:lastMarks [op,yR] [b,c]=false:=by with_unfolding_all rfl):PTd X (.Compare a [op,yR] [b,c] pos) (Fd o p f g h):=by
 refine(EY ho xO ha hb hc hm).aG ?_;rintro Z H Q ⟨H0,eF,env,bb,E,e,k⟩;obtain⟨x,hx,e⟩:=eD e;obtain⟨y,hy,e⟩:=eD e;obtain⟨b1,h1,e⟩:=eD e;refine⟨H0,eF,env,x,E,hx,λvx H1 s1 R1=> ⟨H0,eF,env,y,E.mono s1,hy,λvy H2 s2 R2=>hd _ H2 x.d y.d vx vy b1 _ (R1.inn.same s2) R2.inn h1 ⟨b1,rfl, ?_⟩⟩⟩;cases b1 with
 |true=>
  rw[Gaf rfl];rw[Gaf rfl] at e
  obtain⟨z,hz,e⟩:=eD e;exact⟨H0,eF,env,z,(E.mono s1).mono s2,hz,λvz H3 s3 R3=>xr _ H3 y.d z.d vy vz bb _ (R2.inn.same s3) R3.inn e ⟨bb,rfl,k H3 (s1.trans (s2.trans s3))⟩⟩
 |false=>
  rw[Gag GaH];rw[Gag GaH] at e;cases e
  exact⟨false,rfl,k H2 (s1.trans s2)⟩
end
open PySem PySem.Spec PyProof.Rows L2
section
variable{X:Cx}{e a b c:Expr}{f g h:DE}{t u:DT}{pos:Pos}
theorem Scr.sq{K:ak}{H:Hp}{a:Addr}{ns:List Int}(h:Scr K H a ns):SqL K H a (ns.map V.int):=by
 rcases h with⟨o,h⟩|h
 .exact .inl (.inr ⟨o,h⟩)
 .exact .inr h
theorem Fw{K:ak}{F:Addr->Prop}{H:Hp}{ds:List D}{vs:List V}{i:Int}{d:D}(r:aN K F H ds vs)(e:atD ds i=some d):∃v,atI vs i=some v/\Rep K F H d v:=by
 unfold atD at e;unfold atI ixN;rw[<-r.1];split at e
 .rename_i h0;obtain⟨v,h1,h2⟩:=r.get e;have hi:=(Gaj.mp e).1;refine⟨v, ?_,h2⟩;rw[Gaf h0,Gaf (by lia)];exact h1
 .rename_i h0;split at e
  .rename_i h1;obtain⟨v,h2,h3⟩:=r.get e;refine⟨v, ?_,h3⟩;rw[Gag h0,Gaf h1];exact h2
  .cases e
def NY:R2:=λx y H Q=>∃a v,x= .ref a/\sk H a y (some v)/\Q v H
theorem IB(hu:X.A.units+1<cLine):IxR X NY:=by
 intro value slice ee s Z H x y v u Q I rx ry h hs;obtain⟨a,z,rfl,g,q⟩:=h;cases rx;exact tail_any (vI I g) PySem.F.slot_dict_getitem.lookup (Dj hu I g ry λw' s3 I3 xy => ⟨z,H,I3,xy,q⟩) hs
def PZ(K:ak):R2:=λx y H Q=>rIx K x y H Q\/NY x y H Q
theorem IC(hu:X.A.units+1<cLine):IxR X (PZ X.K):=KQ.or (IB hu)
theorem mZ{Y:Type} [DecidableEq Y]{K:ak}{F:Addr->Prop}{H:Hp}:∀{eE:List (Y×D)} {ws:List (Y×V)} {k:Y} {d:D},aP K F H eE ws->look eE k=some d->∃v,gp ws k=some v/\Rep K F H d v
 |[],ws,k,d,_,e=>by simp[look] at e
 |p::eE,[],k,d,r,_=>absurd r.1 (by simp)
 |p::eE,q::ws,k,d,r,e=>by
  have h1:p.1=q.1/\eE.map (·.1)=ws.map (·.1):=by have:=r.1;simpa using this
  have r2:aP K F H eE ws:=⟨h1.2,λi x y e1 e2=>r.2 (i+1) x y (by simpa using e1) (by simpa using e2)⟩
  by_cases z:p.1=k
  .have e' :look (p::eE) k=some p.2:=by simp[look,GbE,z]
   rw[e'] at e;cases e
   exact⟨q.2,k6 (h1.1.symm.trans z),r.2 0 p q rfl rfl⟩
  .have e' :look (p::eE) k=look eE k:=by simp[look,GbE,z]
   rw[e'] at e;obtain⟨v,h3,h4⟩:=mZ r2 e;exact⟨v,by rw[gO (λw=>z (h1.1.trans w))];exact h3,h4⟩
theorem tw{Y:Type} [DecidableEq Y]{K:ak}{F:Addr->Prop}{H:Hp}:∀{eE:List (Y×D)} {ws:List (Y×V)} {k:Y},aP K F H eE ws->look eE k=none->gp ws k=none
 |[],[],k,_,_=>rfl
 |[],q::ws,k,r,_=>absurd r.1 (by simp)
 |p::eE,[],k,r,_=>absurd r.1 (by simp)
 |p::eE,q::ws,k,r,e=>by
  have h1:p.1=q.1/\eE.map (·.1)=ws.map (·.1):=by have:=r.1;simpa using this
  have r2:aP K F H eE ws:=⟨h1.2,λi x y e1 e2=>r.2 (i+1) x y (by simpa using e1) (by simpa using e2)⟩
  by_cases z:p.1=k
  .have e' :look (p::eE) k=some p.2:=by simp[look,GbE,z]
   rw[e'] at e;cases e
  .have e' :look (p::eE) k=look eE k:=by simp[look,GbE,z]
   rw[e'] at e;rw[gO (λw=>z (h1.1.trans w))];exact tw r2 e
theorem o4{K:ak}{F:Addr->Prop}{H:Hp}{d:D}{x:V}{k:Key}(i:Inn K F H d x)(e:keyOf d=some k):x=kV k:=by
 unfold keyOf at e;split at e<;>cases e<;>cases i<;>rfl
theorem iF{K:ak}{F:Addr->Prop}{H:Hp}:∀{ds:List D} {vs:List V} {ks:List Key},aN K F H ds vs->keysOf ds=some ks->vs=ks.map kV
 |[],vs,ks,r,e=>by cases e;rw[r.cg];rfl
 |d::ds,vs,ks,r,e=>by
  obtain⟨v,w,rfl,h1,h2⟩:=r.cons_inv;unfold keysOf at e;obtain⟨k,hk,e⟩:=eD e;obtain⟨SK,QT,rfl⟩:=Gap.mp e;rw[o4 h1.inn hk,iF h2 QT]
  rfl
theorem uD{K:ak}{F:Addr->Prop}{H:Hp}{d k:D}{x y:V}(ix:Inn K F H d x)(iy:Inn K F H k y):
  (∀eE key,d= .dK eE->keyOf k=some key->∃a ws,x= .ref a/\aP K F H eE ws/\sk H a y (gp ws key))/\
  (∀eE ks key,d= .dT eE->k= .tup ks->keysOf ks=some key->∃a ws,x= .ref a/\aP K F H eE ws/\sk H a y (gp ws key)):=by
 refine⟨λeE key ed ek=> ?_,λeE ks key ed ek e=> ?_⟩
 .subst ed;cases ix with
  |dK h r=>exact⟨_,_,rfl,r,.inl ⟨_,key,.inl h,o4 iy ek,rfl⟩⟩
 .subst ed ek;cases ix with
  |dT h r=>
   cases iy with
   |tup hy ry=>exact⟨_,_,rfl,r,.inr ⟨_,key,_,.inl h,rfl,by rw[<-iF ry e];exact hy,rfl⟩⟩
theorem Fx(hu:X.A.units+1<cLine)(ha:PEd X a f)(hb:PEd X b g)(hs:BX b:=by exactλ_ _=>rfl):PEd X (.Subscript a b pos) (ixE f g):=by
 refine(N8 (IC hu) ha hb hs).aG ?_;rintro Z H Q ⟨H0,eF,env,rv,E,e,k⟩;obtain⟨x,hx,e⟩:=eD e;obtain⟨y,hy,e⟩:=eD e;obtain⟨d,e',rfl⟩:=Gap.mp e;clear e;have e:=e';clear e';refine⟨H0,eF,env,x,E,hx,λvx H1 s1 R1=> ⟨H0,eF,env,y,E.mono s1,hy,λvy H2 s2 R2=> ?_⟩⟩;have ix:=R1.inn.same s2;have iy:=R2.inn;have fin:∀v,Rep X.K (Cln eF env Z) H2 d v->Q v H2:=λv r=>k v H2 (s1.trans s2) r;generalize x.d=dx at ix e;generalize y.d=dy at iy e;unfold ixD at e;split at e
 .cases iy;cases ix with
  |lst h r=>
   obtain⟨v,h1,h2⟩:=Fw r e;exact .inl (.inl ⟨_,_,_,v,rfl,rfl,.inl h,h1,fin v h2⟩)
 .cases iy;cases ix with
  |tup h r=>
   obtain⟨v,h1,h2⟩:=Fw r e;exact .inl (.inr (.inl ⟨_,_,_,v,rfl,rfl,SqT.of h,h1,fin v h2⟩))
 .split at e
  .rename_i hz;obtain⟨ch,e',rfl⟩:=Gap.mp e;clear e;have e:=e';clear e';cases iy;cases ix
   refine .inl (.inr (.inr ⟨_,_,ch,rfl,rfl,by rw[<-eR];exact hz, ?_,fin _ (.str _)⟩));unfold atD at e;unfold atI ixN;split at e
   .rename_i h0;have hi:=(Gaj.mp e).1;rw[Gaf h0,Gaf (by lia)];exact e
   .rename_i h0;split at e
    .rename_i h1;rw[Gag h0,Gaf h1];exact e
    .cases e
  .cases e
 .obtain⟨key,hk,e⟩:=eD e;obtain⟨p,ws,rfl,r,dg⟩:=(uD ix iy).1 _ key rfl hk;obtain⟨v,h1,h2⟩:=mZ r e;rw[h1] at dg;exact .inr ⟨p,v,rfl,dg,fin v h2⟩
 .obtain⟨key,hk,e⟩:=eD e;obtain⟨p,ws,rfl,r,dg⟩:=(uD ix iy).2 _ _ key rfl rfl hk;obtain⟨v,h1,h2⟩:=mZ r e;rw[h1] at dg;exact .inr ⟨p,v,rfl,dg,fin v h2⟩
 .obtain⟨n,e',rfl⟩:=Gap.mp e;clear e;have e:=e';clear e';cases iy;cases ix with
  |scr h=>
   refine .inl (.inl ⟨_,_,_,.int n,rfl,rfl,h.sq, ?_,fin _ (.int n)⟩);unfold atD at e;unfold atI ixN;rw[Gac];split at e
   .rename_i h0;have hi:=(Gaj.mp e).1;rw[Gaf h0,Gaf (by lia)];show(List.map V.int _)[_]? =_;rw[Gah,e];rfl
   .rename_i h0;split at e
    .rename_i h1;rw[Gag h0,Gaf h1];show(List.map V.int _)[_]? =_;rw[Gah,e];rfl
    .cases e
 .cases e
theorem gS:PAd X [] a8:=by
 refine AE.aG ?_;rintro Z H Q ⟨H0,eF,env,rs,E,e,k⟩;cases e;exact k [] H bF .nil
theorem oW{K:ak}{H0 H H1 H' :Hp}{eF:Addr->Prop}{env:Env}{Z:St}(s:bR H H1):∀{rs:List RV} {vs:List V},Paired (iU K H0 eF env Z H1 H') rs vs->Paired (iU K H0 eF env Z H H') rs vs
 |_,_,.nil=> .nil
 |_,_,.cons h t=> .cons (h.from s) (oW s t)
theorem dG{es:List Expr}{r:DA}(ha:PEd X e f)(hr:PAd X es r)(hs:starEach (e::es) X.env=(false,eval e X.env)::starEach es X.env:=by rfl):PAd X (e::es) (a4 f r):=by
 refine(um ha hr hs).aG ?_;rintro Z H Q ⟨H0,eF,env,rs,E,e,k⟩;obtain⟨x,hx,e⟩:=eD e;obtain⟨xs,Sa,e⟩:=eD e;cases e;exact⟨H0,eF,env,x,E,hx,λvx H1 s1 R1=> ⟨H0,eF,env,xs,E.mono s1,Sa,λvs H2 s2 Rs=>k _ H2 (s1.trans s2) (.cons (R1.same s2) (oW s1 Rs))⟩⟩
theorem o5{K:ak}{H0 H H' :Hp}{eF:Addr->Prop}{env:Env}{Z:St}(E:ao K H0 eF env Z H):∀{rs:List RV} {vs:List V},Paired (iU K H0 eF env Z H H') rs vs->rs.all (·.free)=true->aN K (Cln eF env Z) H' (rs.map (·.d)) vs
 |_,_,.nil,_=>aN.nil
 |r::rs,v::vs,.cons h t,f=>by
  rw[GbR,Gay] at f;exact aN.cons (h.rep E f.1) (o5 E t f.2)
theorem AW{es:List Expr}{r:DA}{j:Nat}(ha:PAd X es r):PEd X (.Tuple es j pos) (aQ r):=by
 refine(KI ha).aG ?_;rintro Z H Q ⟨H0,eF,env,rv,E,e,k⟩;obtain⟨rs,hr,e⟩:=eD e;split at e
 .rename_i q;rw[Gay] at q;cases e;refine⟨H0,eF,env,rs,E,hr,λvs H1 s1 Rs=> ?_⟩;have rep:=o5 E Rs q.1;refine⟨by rw[<-rep.1,Gac,<-eR];exact Gar q.2,λp n=> ?_⟩;exact k _ _ (s1.trans (aW n)) (cK n rep)
 .cases e
theorem AX{es:List Expr}{r:DA}(ha:PAd X es r):PEd X (.List es pos) (dF r):=by
 refine(EZ ha).aG ?_;rintro Z H Q ⟨H0,eF,env,rv,E,e,k⟩;obtain⟨rs,hr,e⟩:=eD e;split at e
 .rename_i q;rw[Gay] at q;cases e;refine⟨H0,eF,env,rs,E,hr,λvs H1 s1 Rs=> ?_⟩;have rep:=o5 E Rs q.1;refine⟨by rw[<-rep.1,Gac,<-eR];exact Gar q.2,λp n=> ?_⟩;exact k _ _ (s1.trans (aW n)) ⟨p,rfl,s1.free n,kf,rfl,dh n rep⟩
 .cases e
noncomputable def spD(K:ak)(np:Nat)(sp:List D->Option D):Sp:=λvs H Q _=>∃ds d,ds.length=np/\aN K (λ_=>True) H ds vs/\sp ds=some d/\∀v H',bR H H' ->tq K H H' d v->Q v H'
theorem tD{K:ak}{H0 H H' :Hp}{eF:Addr->Prop}{env:Env}{Z:St}:∀{rs:List RV} {vs:List V},Paired (iU K H0 eF env Z H H') rs vs->aN K (λ_=>True) H' (rs.map (·.d)) vs
 |_,_,.nil=>aN.nil
 |r::rs,v::vs,.cons h t=>aN.cons h.inn.any (tD t)
theorem ID{CX:CXT}{k:Nat}{fa:Addr}{fd:FuncData}{ps:List Str}{np:Nat}{sp:List D->Option D}{x:Str}{p:Pos}{es:List Expr}{r:DA}{E:XK}(F:mL X.prog X.w X.K X.mg X.base CX k fa fd ps (spD X.K np sp))(hr:gL k X.A)(hg:Gl X x)
  (hm:X.mg x=some (.ref fa))(hk:PySem.W.keepIn X.K (.ref fa)=true)(hb:Binds X.K fd ps [])(hx:Passes CX X E)(ha:PAd X (e::es) r)(hl:∀env rs,r env=some rs->rs.length=np)
  (xG:(x==("__debug__":Str))=false:=by decide)(he:starEach (e::es) X.env=(false,eval e X.env)::starEach es X.env:=by rfl)(xF:(backTo pos (starEach es X.env)).any (·.1)=false:=by rfl):
  PEd X (.Call (.Name x p) (e::es) [] pos) (aj sp r):=by
 refine(Ib (dvs:=[]) F hr hg hm hk hb .nil hx ha xG he xF).aG ?_;rintro Z H Q ⟨H0,eF,env,rv,E,e,k⟩;obtain⟨rs,xV,e⟩:=eD e;obtain⟨d,hd,rfl⟩:=Gap.mp e;refine⟨H0,eF,env,rs,E,xV,λvs H1 s1 Rs=> ⟨rs.map (·.d),d,by rw[Gac];exact hl env rs xV, ?_,hd,λv H2 s2 R2=>k v H2 (s1.trans s2) ((R2.rv (E.mono s1)).from s1)⟩⟩;rw[GaW];exact tD Rs
def CallD(X:Cx)(o:List D->Option RV)(r:List V->Hp->VK->Prop):Prop:=∀(F:Addr->Prop) (H:Hp) (ds:List D) (vs:List V) (rv:RV) (Q:VK),Paired (Inn X.K F H) ds vs->o ds=some rv->(∀v H',bR H H' ->RvN X.K F H H' rv v->Q v H')->r vs H Q
theorem m6{K:ak}{H0 H H' :Hp}{eF:Addr->Prop}{env:Env}{Z:St}:∀{rs:List RV} {vs:List V},Paired (iU K H0 eF env Z H H') rs vs->Paired (Inn K (Cln eF env Z) H') (rs.map (·.d)) vs
 |_,_,.nil=> .nil
 |_,_,.cons h t=> .cons h.inn (m6 t)
theorem gr{id:String}{o:List D->Option RV}{r:List V->Hp->VK->Prop}{x:Str}{p:Pos}{es:List Expr}{ra:DA}(hc:fY X (.builtin id) r)(hd:CallD X o r)(hg:Gl X x)(hm:X.mg x=none)(hv:bootBuiltins x=some (.builtin id))(ha:PAd X (e::es) ra)
  (hn:x≠"__name__":=by decide)(xG:(x==("__debug__":Str))=false:=by decide)(he:starEach (e::es) X.env=(false,eval e X.env)::starEach es X.env:=by rfl)(xF:(backTo pos (starEach es X.env)).any (·.1)=false:=by rfl):
  PEd X (.Call (.Name x p) (e::es) [] pos) (cz o ra):=by
 refine(vC hc hg hm hv ha hn xG he xF).aG ?_;rintro Z H Q ⟨H0,eF,env,rv,E,e,k⟩;obtain⟨rs,xV,e⟩:=eD e;exact⟨H0,eF,env,rs,E,xV,λvs H1 s1 Rs=>hd _ H1 _ vs rv Q (m6 Rs) e λv H2 s2 R2=>k v H2 (s1.trans s2) (R2.ok s1)⟩
theorem qk{T:String}{o:List D->Option RV}{r:List V->Hp->VK->Prop}{x:Str}{p:Pos}{es:List Expr}{ra:DA}(hc:fY X (.type T) r)(hd:CallD X o r)(hg:Gl X x)(hm:X.mg x=none)(hv:bootBuiltins x=some (.type T))(ha:PAd X (e::es) ra)
  (hn:x≠"__name__":=by decide)(xG:(x==("__debug__":Str))=false:=by decide)(he:starEach (e::es) X.env=(false,eval e X.env)::starEach es X.env:=by rfl)(xF:(backTo pos (starEach es X.env)).any (·.1)=false:=by rfl):
  PEd X (.Call (.Name x p) (e::es) [] pos) (cz o ra):=by
 refine(Dg hc hg hm hv ha hn xG he xF).aG ?_;rintro Z H Q ⟨H0,eF,env,rv,E,e,k⟩;obtain⟨rs,xV,e⟩:=eD e;exact⟨H0,eF,env,rs,E,xV,λvs H1 s1 Rs=>hd _ H1 _ vs rv Q (m6 Rs) e λv H2 s2 R2=>k v H2 (s1.trans s2) (R2.ok s1)⟩
theorem fW{R:D->V->Prop}{d:D}{vs:List V}(h:Paired R [d] vs):∃v,vs=[v]/\R d v:=by
 cases h with
 |cons h t=>cases t;exact⟨_,rfl,h⟩
theorem Cf{R:D->V->Prop}{d d2:D}{vs:List V}(h:Paired R [d,d2] vs):∃v w,vs=[v,w]/\R d v/\R d2 w:=by
 cases h with
 |cons h t=>cases t with
  |cons h2 t=>cases t;exact⟨_,_,rfl,h,h2⟩
theorem o6:fY X (.builtin "len") (λxs H Q=>∃a eE,xs=[.ref a]/\Rd H a (.dK eE)/\Q (.int eE.length) H):=by
 intro ee s Z H xs us Q I r h;obtain⟨a,eE,rfl,e,q⟩:=h;obtain⟨u,rfl,rx⟩:=vals1 r;cases rx;exact Nd I e λt s' I' => ⟨.int eE.length,H,I',⟨t,rfl⟩,q⟩
theorem o7:CallD X bA (λxs H Q=>(∃x n,xs=[x]/\MZ X.K x H n/\Q (.int n) H)\/(∃a eE,xs=[.ref a]/\Rd H a (.dK eE)/\Q (.int eE.length) H)):=by
 intro F H ds vs rv Q ps e k;unfold bA at e;split at e
 .cases e;obtain⟨v,rfl,i⟩:=fW ps;cases i with
  |lst h r=>exact .inl ⟨_,_,rfl,.inl ⟨_,.inl h,r.1⟩,k _ H bF (.int _)⟩
 .cases e;obtain⟨v,rfl,i⟩:=fW ps;cases i with
  |tup h r=>exact .inl ⟨_,_,rfl,.inr ⟨_,SqT.of h,r.1⟩,k _ H bF (.int _)⟩
 .split at e
  .rename_i q;cases e;obtain⟨v,rfl,i⟩:=fW ps;cases i;exact .inl ⟨_,_,rfl,⟨by rw[<-eR];exact q,rfl⟩,k _ H bF (.int _)⟩
  .cases e
 .cases e;obtain⟨v,rfl,i⟩:=fW ps;cases i with
  |dK h r=>
   have hl:=congrArg List.length r.1;rw[Gac,Gac] at hl;exact .inr ⟨_,_,rfl,.inl h,by rw[<-hl];exact k _ H bF (.int _)⟩
 .cases e;obtain⟨v,rfl,i⟩:=fW ps;cases i with
  |scr h=>exact .inl ⟨_,_,rfl,.inl ⟨_,h.sq,by simp⟩,k _ H bF (.int _)⟩
 .cases e
theorem ql:CallD X mV (λxs H Q=>∃i j,xs=[.int i,.int j]/\Q (.int (if j<i then j else i)) H):=by
 intro F H ds vs rv Q ps e k;unfold mV at e;split at e
 .cases e;obtain⟨v,w,rfl,i1,i2⟩:=Cf ps;cases i1;cases i2
  exact⟨_,_,rfl,k _ H bF (.int _)⟩
 .cases e
theorem AY:CallD X t8 (λxs H Q=>∃i j,xs=[.int i,.int j]/\Q (.int (if j>i then j else i)) H):=by
 intro F H ds vs rv Q ps e k;unfold t8 at e;split at e
 .cases e;obtain⟨v,w,rfl,i1,i2⟩:=Cf ps;cases i1;cases i2
  exact⟨_,_,rfl,k _ H bF (.int _)⟩
 .cases e
theorem oX:CallD X gQ (λxs H Q=>∃p ys,xs=[.ref p]/\((SqL X.K H p ys/\∀l,H l=none->Q (.ref l) (upd H l (.tup ys)))\/(SqT X.K H p ys/\Q (.ref p) H))):=by
 intro F H ds vs rv Q ps e k;unfold gQ at e;split at e
 .cases e;obtain⟨v,rfl,i⟩:=fW ps;cases i with
  |lst h r=>
   refine⟨_,_,rfl,.inl ⟨.inl h,λl n=> ?_⟩⟩;exact k _ _ (aW n) (cK n r)
 .cases e;obtain⟨v,rfl,i⟩:=fW ps;cases i with
  |tup h r=>exact⟨_,_,rfl,.inr ⟨SqT.of h,k _ H bF (.tup h r.1 r.2)⟩⟩
 .cases e
end
open PySem PySem.Spec PyProof.Rows L2
section
variable{K:ak}{H0 H H' :Hp}{eF:Addr->Prop}{env eU :Env}{Z Z' :St}{d:D}{v:V}{a:Addr}{i:Nat}
theorem eN{α:Type}{l:List α}{i j:Nat}{x y:α}(e:(l.set i x)[j]? =some y):(i=j/\y=x)\/(i≠j/\l[j]? =some y):=by
 by_cases h:i=j
 .subst h;have hi:i<l.length:=by have:=(Gaj.mp e).1;simpa using this
  rw[GaT hi] at e;cases e;exact .inl ⟨rfl,rfl⟩
 .rw[Gad h] at e;exact .inr ⟨h,e⟩
theorem set_same{α:Type}{l:List α}{i:Nat}{x:α}(e:l[i]? =some x):l.set i x=l:=by
 apply Gdo;intro j;by_cases h:i=j
 .subst h;rw[GaT (Gaj.mp e).1,e]
 .rw[Gad h]
theorem bT{α:Type}{l:List α}{i:Nat}{x:α}(h:i<l.length):(l.set i x)[i]? =some x:=GaT h
theorem gU{j:Nat}(h:b5 (env.set i (some (.sh d)))[j]?):i≠j/\b5 env[j]? :=by
 by_cases q:i=j
 .subst q;by_cases z:i<env.length
  .rw[bT z] at h;exact h.elim
  .rw[Gbt (by simpa using Nat.le_of_not_lt z)] at h;exact h.elim
 .rw[Gad q] at h;exact⟨q,h⟩
theorem ao.lF(E:ao K H0 eF env Z H)(r:Rep K (Cln eF env Z) H d v):ao K H0 eF (env.set i (some (.sh d))) (Z.set i (some v)) H:=by
 have xh:∀b,Cln eF env Z b->Cln eF (env.set i (some (.sh d))) (Z.set i (some v)) b:=λb ⟨h1,h2⟩=> ⟨h1,λj t e=>by
  obtain⟨q,t⟩:=gU t;rw[Gad q] at e;exact h2 j t e⟩
 refine⟨E.same,by simp[E.len],E.bad,λj dj e=> ?_,λj dj e=> ?_,λj dj e=> ?_,λj k b t1 t2 e1 e2=> ?_⟩
 .rcases eN e with⟨q,e⟩| ⟨q,e⟩
  .cases e;subst q;have hi:i<env.length:=by have:=(Gaj.mp e);simpa using this.1
   exact⟨v,bT (by rw[<-E.len];exact hi),r.imp xh⟩
  .obtain⟨w,h1,h2⟩:=E.sh j dj e;exact⟨w,by rw[Gad q];exact h1,h2.imp xh⟩
 .have e' :i≠j/\(env[j]? =some (some (.own dj))\/env[j]? =some (some (.lok dj))):=by
   rcases e with e|e
   .rcases eN e with⟨q,e⟩| ⟨q,e⟩
    .cases e
    .exact⟨q,.inl e⟩
   .rcases eN e with⟨q,e⟩| ⟨q,e⟩
    .cases e
    .exact⟨q,.inr e⟩
  obtain⟨b,h1,h2,h3,h4,h5,h6⟩:=E.ow j dj e'.2;exact⟨b,by rw[Gad e'.1];exact h1,h2,h3,h4,h5,h6.imp xh⟩
 .rcases eN e with⟨q,e⟩| ⟨q,e⟩
  .cases e
  .obtain⟨b,h1,hw,h2,h3⟩:=E.bo j dj e;exact⟨b,by rw[Gad q];exact h1,hw,h2,h3.imp xh⟩
 .obtain⟨q1,yb⟩:=gU t1.top;obtain⟨q2,t2⟩:=gU t2;rw[Gad q1] at e1 t1;rw[Gad q2] at e2;exact E.dj j k b t1 t2 e1 e2
theorem Stp.lF:Stp env Z H (env.set i (some (.sh d))) (Z.set i (some v)) H:=⟨λ_ _ e _=>e,λb ⟨j,h,e⟩=>by
 have h' :b5 (env.set i (some (.sh d)))[j]? :=h.ol.top;obtain⟨q,_⟩:=gU h';rw[Gad q] at h e;exact .inl ⟨j,h,e⟩,λj h=>by
 obtain⟨q,_⟩:=gU h.top;rw[Gad q,Gad q];exact⟨rfl,rfl⟩⟩
theorem iH{j:Nat}(h:b5 (env.set i (some (.own d)))[j]?)(hi:i<env.length):i=j\/(i≠j/\b5 env[j]?):=by
 by_cases q:i=j
 .exact .inl q
 .rw[Gad q] at h;exact .inr ⟨q,h⟩
theorem ao.Fy(E:ao K H0 eF env Z H)(hi:i<env.length)(n0:H0 a=none)(nb:¬eF a)(w:Wr H' a)(t:d.top=true)(s:bR H0 H')(bd:∀b,eF b->H' b≠none)
  (ne:∀j b,j≠i->b5 env[j]? ->Z[j]? =some (some (.ref b))->b≠a/\H' b=H b)
  (inn:Inn K (Cln eF (env.set i (some (.own d))) (Z.set i (some (.ref a)))) H' d (.ref a))
  (xh:∀b,Cln eF env Z b->H b≠none->Cln eF (env.set i (some (.own d))) (Z.set i (some (.ref a))) b)
  (dN:gE (Cln eF env Z) H H'):
  ao K H0 eF (env.set i (some (.own d))) (Z.set i (some (.ref a))) H' :=by
 have keep:∀{j:Nat} {b:Addr} {dj:D},j≠i->b5 env[j]? ->Z[j]? =some (some (.ref b))->Inn K (Cln eF env Z) H dj (.ref b)->Inn K (Cln eF (env.set i (some (.own d))) (Z.set i (some (.ref a)))) H' dj (.ref b):=λ{j b dj} hj tj ej h=>
  h.gen dN xh λb' eb _ o e=>by cases eb;rw[(ne j b hj tj ej).2];exact e
 refine⟨s,by simp[E.len],bd,λj dj e=> ?_,λj dj e=> ?_,λj dj e=> ?_,λj k b t1 t2 e1 e2=> ?_⟩
 .rcases eN e with⟨q,e⟩| ⟨q,e⟩
  .cases e
  .obtain⟨u,h1,h2⟩:=E.sh j dj e;exact⟨u,by rw[Gad q];exact h1,h2.gen dN xh⟩
 .have e' :(i=j/\dj=d)\/(i≠j/\(env[j]? =some (some (.own dj))\/env[j]? =some (some (.lok dj)))):=by
   rcases e with e|e
   .rcases eN e with⟨q,e⟩| ⟨q,e⟩
    .cases e;exact .inl ⟨q,rfl⟩
    .exact .inr ⟨q,.inl e⟩
   .rcases eN e with⟨q,e⟩| ⟨q,e⟩
    .cases e
    .exact .inr ⟨q,.inr e⟩
  rcases e' with⟨q,rfl⟩| ⟨q,e'⟩
  .subst q;exact⟨a,bT (by rw[<-E.len];exact hi),n0,nb,w,t,inn⟩
  .obtain⟨b,h1,h2,h3,h4,h5,h6⟩:=E.ow j dj e';have tj:b5 env[j]? :=by rcases e' with e' |e' <;>rw[e']<;>trivial
   refine⟨b,by rw[Gad q];exact h1,h2,h3, ?_,h5,keep (Ne.symm q) tj h1 h6⟩;unfold Wr;rw[(ne j b (Ne.symm q) tj h1).2];exact h4
 .rcases eN e with⟨q,e⟩| ⟨q,e⟩
  .cases e
  .obtain⟨b,h1,hw,h2,h3⟩:=E.bo j dj e;have tj:b5 env[j]? :=by rw[e];trivial
   refine⟨b,by rw[Gad q];exact h1, ?_,h2,keep (Ne.symm q) tj h1 h3⟩;unfold Wr;rw[(ne j b (Ne.symm q) tj h1).2];exact hw
 .rcases iH t1.top hi with q1| ⟨q1,yb⟩
  .rcases iH t2 hi with q2| ⟨q2,yM⟩
   .rw[<-q1,<-q2]
   .subst q1;rw[bT (by rw[<-E.len];exact hi)] at e1;cases e1;rw[Gad q2] at e2;exact absurd rfl (ne k a (Ne.symm q2) yM e2).1
  .rcases iH t2 hi with q2| ⟨q2,yM⟩
   .subst q2;rw[bT (by rw[<-E.len];exact hi)] at e2;cases e2;rw[Gad q1] at e1;exact absurd rfl (ne j a (Ne.symm q1) yb e1).1
   .rw[Gad q1] at e1 t1;rw[Gad q2] at e2;exact E.dj j k b t1 yM e1 e2
theorem vX(hi:i<env.length)(hs:env.length=Z.length){b:Addr}(h:Cln eF env Z b)(hb:b≠a):Cln eF (env.set i (some (.own d))) (Z.set i (some (.ref a))) b:=⟨h.1,λj t e=>by
 rcases iH t hi with q| ⟨q,t⟩
 .subst q;rw[bT (by rw[<-hs];exact hi)] at e;cases e;exact hb rfl
 .rw[Gad q] at e;exact h.2 j t e⟩
theorem ao.qp(E:ao K H0 eF env Z H)(s:bR H H')(hi:i<env.length)(n:H a=none)(w:Wr H' a)(t:d.top=true)(Sl:Inn K (λb=>Cln eF env Z b/\b≠a) H' d (.ref a)):
  ao K H0 eF (env.set i (some (.own d))) (Z.set i (some (.ref a))) H' :=by
 have xh:∀b,Cln eF env Z b->b≠a->Cln eF (env.set i (some (.own d))) (Z.set i (some (.ref a))) b:=λb h hb=>vX hi E.len h hb;have cln' :∀b,Cln eF env Z b->H b≠none->Cln eF (env.set i (some (.own d))) (Z.set i (some (.ref a))) b:=λb h hb=>xh b h λz=>hb (z▸n);refine E.Fy (H' :=H') hi (E.same.free n) (λb=>E.bad a b n) w t (E.same.trans s) (λb h e=>E.bad b h (s.free e)) (λj b hj tj ej=> ?_) (Sl.imp λb h=>xh b h.1 h.2) cln' (.of_same s);have hb:=E.mY tj ej;refine⟨λz=>hb (z▸n), ?_⟩;cases q:H b with
 |none=>exact absurd q hb
 |some o=>exact s b o q
theorem Stp.qp(s:bR H H')(hi:i<env.length)(hs:env.length=Z.length)(n:H a=none):Stp env Z H (env.set i (some (.own d))) (Z.set i (some (.ref a))) H' :=⟨λb o e _=>s b o e,λb ⟨j,h,e⟩=>by
 by_cases q:i=j
 .subst q;rw[bT (by rw[<-hs];exact hi)] at e;cases e;exact .inr n
 .rw[Gad q] at h e;exact .inl ⟨j,h,e⟩,λj h=>by
 by_cases q:i=j
 .subst q;rw[bT hi] at h;exact h.elim
 .rw[Gad q,Gad q];exact⟨rfl,rfl⟩⟩
theorem ao.change{d' :D}{o:HO}(E:ao K H0 eF env Z H)(e:env[i]? =some (some (.own d)))(ea:Z[i]? =some (some (.ref a)))(wo:isW o)(t:d'.top=true)
  (inn:Inn K (Cln eF env Z) (upd H a o) d' (.ref a)):ao K H0 eF (env.set i (some (.own d'))) Z (upd H a o)/\Stp env Z H (env.set i (some (.own d'))) Z (upd H a o):=by
 have hi:i<env.length:=(Gaj.mp e).1;obtain⟨a',h1,h2,h3,h4,h5,h6⟩:=E.ow i d (.inl e);rw[ea] at h1;cases h1
 have hZ:Z.set i (some (.ref a))=Z:=set_same ea;have xa:∀j,b5 (env.set i (some (.own d')))[j]? ↔b5 env[j]? :=λj=>by
  by_cases q:i=j
  .subst q;rw[bT hi,e];exact⟨λ_=>trivial,λ_=>trivial⟩
  .rw[Gad q]
 have clnE:∀b,Cln eF env Z b->Cln eF (env.set i (some (.own d'))) Z b:=λb h=> ⟨h.1,λj tj ej=>h.2 j ((xa j).mp tj) ej⟩;have ca:∀b,Cln eF env Z b->b≠a:=λb h z=>by subst z;exact h.2 i (by rw[e];trivial) ea
 have dN:gE (Cln eF env Z) H (upd H a o):=λb x hb q=>by
  have:b≠a:=by
   rintro rfl;rcases q with q|q
   .exact ca b q rfl
   .obtain⟨y,hy,wy⟩:=h4;rw[hb] at hy;cases hy
    cases x<;>simp[isT] at q<;>exact wy
  rw[ah this];exact hb
 have keepA:∀b x,H b=some x->b≠a->(upd H a o) b=some x:=λb x hb hn=>by rw[ah hn];exact hb
 refine⟨?_,⟨λb x hb n=>keepA b x hb λz=>n ⟨i,by rw[e];trivial,by rw[z];exact ea⟩,λb ⟨j,h,ej⟩=> .inl ?_,λj h=> ?_⟩⟩
 .have:=E.Fy (H' :=upd H a o) (a:=a) (d:=d') hi h2 h3 ⟨o,az,wo⟩ t (λb x hb=>keepA b x (E.same b x hb) λz=>by rw[z,h2] at hb;cases hb)
   (λb hb z=>by
    by_cases q:b=a
    .subst q;rw[az] at z;cases z
    .rw[ah q] at z;exact E.bad b hb z)
   (λj b hj tj ej=>by
    have:b≠a:=by rintro rfl;exact hj (E.dj i j b (by rw[e];trivial) tj ea ej).symm
    exact⟨this,by rw[ah this]⟩)
   (by rw[hZ];exact inn.imp clnE) (λb h _=>by rw[hZ];exact clnE b h) dN
  rw[hZ] at this;exact this
 .by_cases q:i=j
  .subst q;exact⟨i,by rw[e];trivial,ej⟩
  .rw[Gad q] at h;exact⟨j,h,ej⟩
 .by_cases q:i=j
  .subst q;rw[bT hi] at h;exact h.elim
  .rw[Gad q];exact⟨rfl,rfl⟩
end
open PySem PySem.Spec PyProof.Rows L2
section
variable{X:Cx}{e a b c:Expr}{f g h:DE}{t u:DT}{pos:Pos}{st:Stmt}{rest:List Stmt}{s1 s2:DS}
theorem AZ:qh X [] aI:=by
 refine HR.aG ?_;rintro D Z H ⟨H0,eF,env,o,E,e,k⟩;cases e;exact k Z H E .refl
theorem uE(h1:PSd X st s1)(h2:qh X rest s2):qh X (st::rest) (ai s1 s2):=by
 refine(mJ h1 h2).aG ?_;rintro D Z H ⟨H0,eF,env,o,E,e,k⟩;obtain⟨o1,h1,e⟩:=eD e;refine⟨H0,eF,env,o1,E,h1, ?_⟩;cases o1 with
 |nx e1=>
  intro Z1 H1 E1 p1;refine⟨H0,eF,e1,o,E1,e, ?_⟩;cases o with
  |nx e2=>exactλZ2 H2 E2 p2=>k Z2 H2 E2 (p1.trans p2)
  |bk e2=>exactλZ2 H2 E2 p2=>k Z2 H2 E2 (p1.trans p2)
  |ct e2=>exactλZ2 H2 E2 p2=>k Z2 H2 E2 (p1.trans p2)
  |ret d=>exact k
 |bk e1=>cases e;exact k
 |ct e1=>cases e;exact k
 |ret d=>cases e;exact k
theorem B0(h1:PSd X st s1):qh X [st] s1:=uk h1
theorem Fz:PSd X (.Break pos) bkS:=by
 refine EM.aG ?_;rintro D Z H ⟨H0,eF,env,o,E,e,k⟩;cases e;exact k Z H E .refl
theorem IE{K:ak}{F:Addr->Prop}{H0 H' :Hp}{d:D}{v:V}(i:Inn K F H' d v)(hd:d.imm=true):tq K H0 H' d v:=by
 refine⟨λt=> ?_,(i.imm hd).inn⟩;cases d<;>simp[D.top] at t<;>simp[D.imm] at hd
theorem NZ{Y:Type}{K:ak}{F F' :Addr->Prop}{H:Hp}{eE:List (Y×D)}{ws:List (Y×V)}(r:aP K F H eE ws)(h:aq (eE.map (·.2))=true):aP K F' H eE ws:=
 ⟨r.1,λi p q e1 e2=>(r.2 i p q e1 e2).imm (pH h i p.2 (by rw[Gah,e1];rfl))⟩
theorem Cg{K:ak}{F:Addr->Prop}{H0 H' :Hp}{d:D}{a:Addr}(i:Inn K F H' d (.ref a))(hd:d.mT=true)(n:H0 a=none)(w:Wr H' a):tq K H0 H' d (.ref a):=by
 refine⟨λ_=> ⟨a,rfl,n,w⟩, ?_⟩;cases i with
 |tup h r=>exact(Inn.imm (.tup h r) (by exact hd)).inn
 |scr h=>exact .scr h
 |exc h r=>exact(Inn.imm (.exc h r) (by exact hd)).inn
 |lst h r=>exact .lst h (r.imm hd)
 |dK h r=>exact .dK h (NZ r hd)
 |dT h r=>exact .dT h (NZ r hd)
theorem B1(he:PEd X e f):PSd X (.Return (some e) pos) (retS f):=by
 refine(EO he).aG ?_;rintro D Z H ⟨H0,eF,env,o,E,e,k⟩;obtain⟨r,hr,e⟩:=eD e;split at e
 .rename_i ok;cases e;refine⟨H0,eF,env,r,E,hr,λv H1 s1 R=>k v H1 (E.same.trans s1) ?_⟩;obtain⟨kd,d⟩:=r;cases kd with
  |c=>exact IE R.inn ok
  |tn=>
   have ii:=R.inn;obtain⟨a,rfl,n,w,t,i⟩:=R;exact Cg ii ok (E.same.free n) w
  |to=>
   have ii:=R.inn;obtain⟨a,rfl,n,w,t,i⟩:=R;exact Cg ii ok n w
  |tb=>exact absurd (show false=true from ok) GaH
 .cases e
theorem FA{xs ys:List Stmt}(hc:PTd X c t)(ha:qh X xs s1)(hb:qh X ys s2):PSd X (.If c xs ys pos) (ifS t s1 s2):=by
 refine(MO hc ha hb).aG ?_;rintro D Z H ⟨H0,eF,env,o,E,e,k⟩;obtain⟨x,hx,e⟩:=eD e;refine⟨H0,eF,env,x,E,hx,λH1 s1=> ?_⟩;have st:Stp env Z H env Z H1:= .of_same s1;have fin:∀{s:DS},s env=some o->tS X s D Z H1:=λ{s} e=> ⟨H0,eF,env,o,E.mono s1,e,by
  cases o with
  |nx e2=>exactλZ2 H2 E2 p2=>k Z2 H2 E2 (st.trans p2)
  |bk e2=>exactλZ2 H2 E2 p2=>k Z2 H2 E2 (st.trans p2)
  |ct e2=>exactλZ2 H2 E2 p2=>k Z2 H2 E2 (st.trans p2)
  |ret d=>exact k⟩
 dsimp only;cases x with
 |true=>rw[Gaf rfl];rw[Gaf rfl] at e;exact fin e
 |false=>rw[Gag GaH];rw[Gag GaH] at e;exact fin e
theorem B2{X:Cx}{eF:Addr->Prop}{env:Env}{Z:St}{H:Hp}{i:Nat}{x:Str}(E:ao X.K H0 eF env Z H)(hl:Z.length=X.N.length)(hi:X.N[i]? =some x):i<env.length:=by
 rw[E.len,hl];exact(Gaj.mp hi).1
theorem B3{i:Nat}{x:Str}{pos' :Pos}(hN:X.N.Nodup)(hi:X.N[i]? =some x)(hx:Loc X.env.scope x)(he:PEd X e f)(hs:swapsWith e (some (.Name x pos')) pos.line X.env=pure false:=by rfl)
  (hf:X.fn x=true\/X.env.scope.names.lookup x=some .local:=by first|exact .inl rfl|exact .inr rfl|assumption):PSd X (.Assign [.Name x pos'] e pos) (av i f):=by
 intro ee s Z H D I hw;have hl:=I.len;refine(Ay hN hi hx he hs hf) ee s Z H D I ?_;obtain⟨H0,eF,env,o,E,e,k⟩:=hw;obtain⟨r,hr,e⟩:=eD e;obtain⟨e',yh,rfl⟩:=Gap.mp e;have hie:i<env.length:=B2 E hl hi;refine⟨H0,eF,env,r,E,hr,λv H1 s1 R=> ?_⟩;have st:Stp env Z H env Z H1:= .of_same s1;obtain⟨kd,d⟩:=r;unfold stored at yh;cases kd with
 |c=>
  cases yh;exact k _ H1 ((E.mono s1).lF R) (st.trans .lF)
 |tn=>
  cases yh;obtain⟨a,rfl,n,w,t,i⟩:=R;exact k _ H1 (E.qp s1 hie n w t i) (.qp s1 hie E.len n)
 |to=>cases yh
 |tb=>cases yh
def B4(K:ak)(F N:Addr->Prop)(J:It)(ds:List D)(H1:Hp):Prop:=
 ∀Hi:Hp,(∀b o,H1 b=some o->N b->Hi b=some o)->(∀(i:Nat) d,ds[i]? =some d->J.go i Hi/\∀x H2,J.yld i Hi x H2->bR Hi H2/\Rep K F H2 d x)/\J.stop ds.length Hi
def tI(X:Cx)(src:DI):TI:=λZ H R=>∃H0 eF env ds,ao X.K H0 eF env Z H/\src env=some ds/\∀J H',bR H H' ->B4 X.K (λb=>Cln eF env Z b/\H' b≠none) (λb=>¬Ow env Z b) J ds H' ->R J H'
abbrev PId(X:Cx)(tg iter:Expr)(src:DI):Prop:=PI X tg iter (tI X src)
theorem _root_.L2.PI.aG{tg iter:Expr}{w w' :TI}(h:PI X tg iter w')(i:∀Z H R,w Z H R->w' Z H R):PI X tg iter w:=λee s Z H R I q=>h ee s Z H R I (i Z H R q)
theorem ao.lock{K:ak}{H0:Hp}{eF:Addr->Prop}{env:Env}{Z:St}{H:Hp}(E:ao K H0 eF env Z H)(l:Option Nat):ao K H0 eF (bf l env) Z H/\(∀b,Ow (bf l env) Z b->Ow env Z b)/\∀i:Nat,b5 (bf l env)[i]? ↔b5 env[i]? :=by
 cases l with
 |none=>exact⟨E,λ_ h=>h,λ_=>Iff.rfl⟩
 |some j=>
  unfold bf;dsimp only;split
  .rename_i d q;have hj:j<env.length:=(Gaj.mp q).1;have xa:∀i,b5 (env.set j (some (.lok d)))[i]? ↔b5 env[i]? :=λi=>by
    by_cases z:j=i
    .subst z;rw[bT hj,q];exact⟨λ_=>trivial,λ_=>trivial⟩
    .rw[Gad z]
   have xh:∀b,Cln eF env Z b->Cln eF (env.set j (some (.lok d))) Z b:=λb h=> ⟨h.1,λi t e=>h.2 i ((xa i).mp t) e⟩;refine⟨⟨E.same,by simpa using E.len,E.bad,λi di e=> ?_,λi di e=> ?_,λi di e=> ?_,λi k b t1 t2 e1 e2=> ?_⟩,λb ⟨i,h,e⟩=> ?_,xa⟩
   .rcases eN e with⟨z,e⟩| ⟨z,e⟩
    .cases e
    .obtain⟨v,h1,h2⟩:=E.sh i di e;exact⟨v,h1,h2.imp xh⟩
   .have e' :env[i]? =some (some (.own di))\/env[i]? =some (some (.lok di)):=by
     rcases e with e|e
     .rcases eN e with⟨z,e⟩| ⟨z,e⟩
      .cases e
      .exact .inl e
     .rcases eN e with⟨z,e⟩| ⟨z,e⟩
      .cases e;subst z;exact .inl q
      .exact .inr e
    obtain⟨b,h1,h2,h3,h4,h5,h6⟩:=E.ow i di e';exact⟨b,h1,h2,h3,h4,h5,h6.imp xh⟩
   .rcases eN e with⟨z,e⟩| ⟨z,e⟩
    .cases e
    .obtain⟨b,h1,hw,h2,h3⟩:=E.bo i di e;exact⟨b,h1,hw,h2,h3.imp xh⟩
   .have yb :vT env[i]? :=by
     by_cases z:j=i
     .subst z;rw[q];trivial
     .rw[Gad z] at t1;exact t1
    exact E.dj i k b yb ((xa k).mp t2) e1 e2
   .by_cases z:j=i
    .subst z;rw[bT hj] at h;exact h.elim
    .rw[Gad z] at h;exact⟨i,h,e⟩
  .exact⟨E,λ_ h=>h,λ_=>Iff.rfl⟩
theorem ao.free{K:ak}{H0:Hp}{eF:Addr->Prop}{env:Env}{Z:St}{H:Hp}(E:ao K H0 eF env Z H)(l:Option Nat):ao K H0 eF (gR l env) Z H:=by
 cases l with
 |none=>exact E
 |some j=>
  unfold gR;dsimp only;split
  .rename_i d q;have hj:j<env.length:=(Gaj.mp q).1;have xa:∀i,b5 (env.set j (some (.own d)))[i]? ↔b5 env[i]? :=λi=>by
    by_cases z:j=i
    .subst z;rw[bT hj,q];exact⟨λ_=>trivial,λ_=>trivial⟩
    .rw[Gad z]
   have xh:∀b,Cln eF env Z b->Cln eF (env.set j (some (.own d))) Z b:=λb h=> ⟨h.1,λi t e=>h.2 i ((xa i).mp t) e⟩;refine⟨E.same,by simpa using E.len,E.bad,λi di e=> ?_,λi di e=> ?_,λi di e=> ?_,λi k b t1 t2 e1 e2=> ?_⟩
   .rcases eN e with⟨z,e⟩| ⟨z,e⟩
    .cases e
    .obtain⟨v,h1,h2⟩:=E.sh i di e;exact⟨v,h1,h2.imp xh⟩
   .have e' :env[i]? =some (some (.own di))\/env[i]? =some (some (.lok di)):=by
     rcases e with e|e
     .rcases eN e with⟨z,e⟩| ⟨z,e⟩
      .cases e;subst z;exact .inr q
      .exact .inl e
     .rcases eN e with⟨z,e⟩| ⟨z,e⟩
      .cases e
      .exact .inr e
    obtain⟨b,h1,h2,h3,h4,h5,h6⟩:=E.ow i di e';exact⟨b,h1,h2,h3,h4,h5,h6.imp xh⟩
   .rcases eN e with⟨z,e⟩| ⟨z,e⟩
    .cases e
    .obtain⟨b,h1,hw,h2,h3⟩:=E.bo i di e;exact⟨b,h1,hw,h2,h3.imp xh⟩
   .have yb :vT env[i]? :=by
     by_cases z:j=i
     .subst z;rw[q];trivial
     .rw[Gad z] at t1;exact t1
    exact E.dj i k b yb ((xa k).mp t2) e1 e2
  .exact E
end
open PySem PySem.Spec PyProof.Rows L2
section
variable{X:Cx}{e a b c:Expr}{f g h:DE}{t u:DT}{pos:Pos}{st:Stmt}{rest:List Stmt}{s1 s2:DS}
theorem vY{env:Env}{l:Option Nat}{i:Nat}(h:∀j,l=some j->j≠i):(bf l env)[i]? =env[i]? :=by
 unfold bf;split
 .rfl
 .rename_i j;split
  .rw[Gad (h j rfl)]
  .rfl
theorem Stp.loop{env xg:Env}{Z ZN:St}{H HN:Hp}{l:Option Nat}(p:Stp (bf l env) Z H xg ZN HN)(lo:∀b,Ow (bf l env) Z b->Ow env Z b):Stp env Z H (if qf l env then gR l xg else xg) ZN HN:=by
 have same:qf l env=false->bf l env=env:=λh=>by
  unfold qf at h;unfold bf;split at h
  .rfl
  .split at h
   .cases h
   .rfl
 cases ho:qf l env with
 |false=>
  rw[Gag GaH];rw[same ho] at p;exact p
 |true=>
  rw[Gaf rfl];unfold qf at ho;split at ho
  .cases ho
  .rename_i j;split at ho
   .rename_i d q;have hj:j<env.length:=(Gaj.mp q).1;have lockj:(bf (some j) env)[j]? =some (some (.lok d)):=by unfold bf;simp only[q];exact bT hj
    have other:∀i,j≠i->(bf (some j) env)[i]? =env[i]? :=λi hi=>vY λk e=>by cases e;exact hi
    refine⟨λb o e n=>p.keep b o e λz=>n (lo b z),λb ⟨i,h,e⟩=> ?_,λi h=> ?_⟩
    .by_cases z:j=i
     .subst z;unfold gR at h;dsimp only at h;split at h
      .rename_i d' q';obtain⟨h1,h2⟩:=p.lk j (by rw[q'];trivial);rw[h2] at e;exact .inl ⟨j,by rw[q];trivial,e⟩
      .rcases p.ow b ⟨j,h,e⟩ with w|w
       .exact .inl (lo b w)
       .exact .inr w
     .have h' :isO xg[i]? :=by
       unfold gR at h;dsimp only at h;split at h
       .rw[Gad z] at h;exact h
       .exact h
      rcases p.ow b ⟨i,h',e⟩ with w|w
      .exact .inl (lo b w)
      .exact .inr w
    .by_cases z:j=i
     .subst z;unfold gR at h⊢;dsimp only at h⊢;split at h
      .rename_i d' q';have hj' :j<xg.length:=(Gaj.mp q').1;rw[bT hj'] at h;exact h.elim
      .rename_i q';obtain⟨h1,_⟩:=p.lk j h;rw[lockj] at h1;exact absurd h1 (q' d)
     .have hN:(gR (some j) xg)[i]? =xg[i]? :=by
       unfold gR;dsimp only;split
       .rw[Gad z]
       .rfl
      rw[hN] at h⊢;obtain⟨h1,h2⟩:=p.lk i h;rw[other i z] at h1;exact⟨h1,h2⟩
   .cases ho
theorem tF{eF:Addr->Prop}{env eU :Env}{Z Z' :St}{H H' :Hp}(p:Stp env Z H eU Z' H'){b:Addr}(h:Cln eF env Z b)(hb:H b≠none):Cln eF eU Z' b:=⟨h.1,λi t e=>by
 rcases tm t with o|o
 .rcases p.ow b ⟨i,o,e⟩ with⟨j,w,ej⟩|w
  .exact h.2 j w.ol.top ej
  .exact hb w
 .obtain⟨h1,h2⟩:=p.lk i o;rw[h1] at t;rw[h2] at e;exact h.2 i t e⟩
theorem B5{tg iter:Expr}{body:List Stmt}{l:Option Nat}{src:DI}{gd:DG}{sb:DS}(hp:PassesOwn (model X.prog X.w) X.A X.env X.xe)(hc:X.calm=true)(hi:PId X tg iter src)(hg:PGd X tg gd)(hb:qh X body sb)
  (hs:∀x,foldedSetIterable iter X.env x=pure x:=by intro _;rfl):PSd X (.For tg iter body [] pos) (dP l src gd sb):=by
 refine(EU hp hc hi hg hb hs).aG ?_;rintro D Z H ⟨H0,eF,env,o,E,e,k⟩;obtain⟨ds,xk,e⟩:=eD e;obtain⟨o1,Sh,rfl⟩:=Gap.mp e;obtain⟨EL,lo,_⟩:=E.lock l;refine⟨H0,eF,bf l env,ds,EL,xk,λJ H1 sH it=> ?_⟩;have E1:=EL.mono sH;have st1:Stp env Z H env Z H1:= .of_same sH;have nxOk:∀xg ZN HN,o1= .nx xg->ao X.K H0 eF xg ZN HN->Stp (bf l env) Z H1 xg ZN HN->D.nx ZN HN:=λxg ZN HN eo EN pN=>by
  subst eo;refine k ZN HN ?_ (st1.trans (pN.loop lo));show ao X.K H0 eF (if qf l env then gR l xg else xg) ZN HN;split
  .exact EN.free l
  .exact EN
 refine⟨λi m Z' H' =>m=ds.length -i/\i<=ds.length/\∃eP,ao X.K H0 eF eP Z' H' /\Stp (bf l env) Z H1 eP Z' H' /\forL gd sb (ds.drop i) eP=some o1,
  ⟨ds.length,by simp,GbB _,_,E1,.refl,by simpa using Sh⟩, ?_⟩
 rintro i m Z' H' ⟨rfl,hle,eP,Ei,pi,ei⟩;obtain⟨items,stop⟩:=it H' λb o hb n=>pi.keep b o hb n;by_cases hU:i<ds.length
 .obtain⟨go,yld⟩:=items i ds[i] (by simp[hU]);refine .inr ⟨go,λZ2 H2=>(ds.length -(i+1))=ds.length -(i+1)/\i+1<=ds.length/\∃eP,ao X.K H0 eF eP Z2 H2/\Stp (bf l env) Z H1 eP Z2 H2/\forL gd sb (ds.drop (i+1)) eP=some o1,λZ2 H2 q=> ⟨_,by lia,q⟩,λx H2 y=> ?_⟩;obtain⟨s2,rep⟩:=yld x H2 y;have hd:ds.drop i=ds[i]::ds.drop (i+1):=GbF hU;rw[hd] at ei;unfold forL at ei;obtain⟨e2,xX,ei⟩:=eD ei;obtain⟨o2,QZ,ei⟩:=eD ei;refine⟨H0,eF,eP,ds[i],e2,Ei.mono s2,xX,rep.imp λb q=>tF pi q.1 q.2,λZ3 H3 E3 p3=> ?_⟩;have p3' :Stp (bf l env) Z H1 e2 Z3 H3:=(pi.trans (.of_same s2)).trans p3;refine⟨H0,eF,e2,o2,E3,QZ, ?_⟩;cases o2 with
  |nx e4=>exactλZ4 H4 E4 p4=> ⟨rfl,hU,e4,E4,p3'.trans p4,ei⟩
  |ct e4=>exactλZ4 H4 E4 p4=> ⟨rfl,hU,e4,E4,p3'.trans p4,ei⟩
  |bk e4=>
   cases ei
   exactλZ4 H4 E4 p4=>nxOk e4 Z4 H4 rfl E4 (p3'.trans p4)
  |ret d=>
   cases ei;exact k
 .have hi:i=ds.length:=by lia
  subst hi;rw[GbL] at ei;cases ei;exact .inl ⟨stop,nxOk eP Z' H' rfl Ei pi⟩
theorem FC{body:List Stmt}{sb:DS}(hp:PassesOwn (model X.prog X.w) X.A X.env X.xe)(hc:PTd X c t)(hb:qh X body sb):PSd X (.While c body [] pos) (uw t sb):=by
 refine(ES hp hc hb).aG ?_;rintro D Z H ⟨H0,eF,env,o,E,e,k⟩;refine⟨λm Z' H' =>∃eP,ao X.K H0 eF eP Z' H' /\Stp env Z H eP Z' H' /\gq t sb m eP=some o,⟨100000,env,E,.refl,e⟩, ?_⟩;rintro m Z' H' ⟨eP,Ei,pi,ei⟩;cases m with
 |zero=>cases ei
 |succ m=>
  unfold gq at ei;obtain⟨bb,QY,ei⟩:=eD ei;refine⟨H0,eF,eP,bb,Ei,QY,λH1 s1=> ?_⟩;have pi1:Stp env Z H eP Z' H1:=pi.trans (.of_same s1);dsimp only;cases bb with
  |true=>
   rw[Gaf rfl];rw[Gaf rfl] at ei;obtain⟨o2,QZ,ei⟩:=eD ei;refine⟨λZ2 H2=>∃eP,ao X.K H0 eF eP Z2 H2/\Stp env Z H eP Z2 H2/\gq t sb m eP=some o,λZ2 H2 q=> ⟨m,by lia,q⟩,H0,eF,eP,o2,Ei.mono s1,QZ, ?_⟩;cases o2 with
   |nx e4=>exactλZ4 H4 E4 p4=> ⟨e4,E4,pi1.trans p4,ei⟩
   |ct e4=>exactλZ4 H4 E4 p4=> ⟨e4,E4,pi1.trans p4,ei⟩
   |bk e4=>cases ei;exactλZ4 H4 E4 p4=>k Z4 H4 E4 (pi1.trans p4)
   |ret d=>cases ei;exact k
  |false=>
   rw[Gag GaH];rw[Gag GaH] at ei;cases ei;exact k Z' H1 (Ei.mono s1) pi1
theorem ao.fh{K:ak}{H0:Hp}{eF:Addr->Prop}{env:Env}{Z:St}{H:Hp}(E:ao K H0 eF env Z H){b:Addr}{o:HO}(h:Ow env Z b)(hb:H b=some o):¬isT o:=by
 intro q;obtain⟨i,h1,h2⟩:=h;obtain⟨y,hy,wy⟩:=E.K7 h1.ol.top h2;rw[hb] at hy;cases hy
 cases o<;>simp[isT] at q<;>exact wy
theorem ao.kS{K:ak}{H0:Hp}{eF:Addr->Prop}{env:Env}{Z:St}{H Hi:Hp}{d:D}{v:V}(E:ao K H0 eF env Z H)(keep:∀b o,H b=some o->¬Ow env Z b->Hi b=some o)(r:Rep K (Cln eF env Z) H d v):
  Rep K (λb=>Cln eF env Z b/\H b≠none) Hi d v:=
 r.gen (λb o hb q=>keep b o hb (by
  rcases q with q|q
  .exactλ⟨i,h1,h2⟩=>q.2 i h1.ol.top h2
  .exactλw=>E.fh w hb q)) λb q hb=> ⟨q,hb⟩
def Q0(K:ak)(tl:TE):TI:=λZ H R=>tl Z H λx H1=>∃a,x= .ref a/\(((∃xs,SqL K H1 a xs)/\R (Itl K a) H1)\/((∃xs,SqT K H1 a xs)/\R (Itt K a) H1))
theorem FD{tg l:Expr}{tl:TE}(hl:PE X l tl):PI X tg l (Q0 X.K tl):=by
 intro ee s Z H R I h;refine thn (hl ee s Z H _ I h) λv s1 ⟨x,H1,I1,r1,q1⟩=> ?_;obtain⟨a,e,q1⟩:=q1;subst e;cases r1;have fp:∀b∈[s1.heap.objs.size],lU X ee H1 b:=λb hb=>by
  have e:b=s1.heap.objs.size:=by simpa using hb
  subst e;exact I1.D5 (Gaq _) (I1.hok.fresh (Gaq _))
 rcases q1 with⟨⟨xs,hq⟩,q⟩| ⟨⟨xs,hq⟩,q⟩
 .obtain⟨eI,rv,p,hz⟩:=I1.list hq;refine wpAny_pyIter_list p.isList ?_;exact⟨s1.heap.objs.size,[s1.heap.objs.size],_,_,H1,rfl,I1.kept (t' :=s1.toks) λb o e=>Gai _ e,D6 a _,⟨_,GaJ _ rfl,rfl,rfl⟩,fp,q⟩
 .obtain⟨eI,rv,p,hz⟩:=I1.tuple hq;refine Gde (show s1.heap.IsTuple a eI.toArray from p) ?_;exact⟨s1.heap.objs.size,[s1.heap.objs.size],_,_,H1,rfl,I1.kept (t' :=s1.toks) λb o e=>Gai _ e,Az a _,⟨_,GaJ _ rfl,rfl,rfl⟩,fp,q⟩
theorem Ci{eF:Addr->Prop}{env:Env}{Z:St}{H H1:Hp}{kd:Cls}{d:D}{v:V}(E:ao X.K H0 eF env Z H)(ht:d.top=true)(hk:kd≠ .to)(Rv:iU X.K H0 eF env Z H H1 ⟨kd,d⟩ v):∀a,v= .ref a->¬Ow env Z a:=λa ea=>by
 cases kd with
 |c=>
  have Rv' :Rep X.K (Cln eF env Z) H1 d v:=Rv;have fin:∀b,Cln eF env Z b->¬Ow env Z b:=λb f ⟨i,h1,h2⟩=>f.2 i h1.ol.top h2;cases Rv' with
  |tup h l r=>simp[D.top] at ht
  |lst f h l r=>cases ea;exact fin _ f
  |dK f h l r=>cases ea;exact fin _ f
  |dT f h l r=>cases ea;exact fin _ f
  |non=>cases ea
  |bl b=>cases ea
  |int i=>cases ea
  |str x=>cases ea
  |scr h=>simp[D.top] at ht
  |exc _ _=>simp[D.top] at ht
 |tn=>
  obtain⟨a',e',n,_⟩:=Rv;rw[e'] at ea;cases ea
  exactλ⟨i,h1,h2⟩=>E.mY h1.ol.top h2 n
 |to=>exact absurd rfl hk
 |tb=>exact Rv.2 a ea ht
theorem FE{tg:Expr}(he:PEd X e f):PId X tg e (iA f):=by
 refine(FD he).aG ?_;rintro Z H R ⟨H0,eF,env,ds,E,hf,k⟩;obtain⟨⟨kd,d⟩,hr,hf⟩:=eD hf;split at hf
 .cases hf
 rename_i hk;refine⟨H0,eF,env,_,E,hr,λv H1 s1 Rv=> ?_⟩;have ii:=Rv.inn;have E1:=E.mono s1;split at hf
 .rename_i xs hd;cases hf;have xr :d= .lst ds:=hd;subst xr;have yI:=Ci E rfl hk Rv;cases ii with
  | @lst la lv _ h r=>
   refine⟨_,rfl,.inl ⟨⟨_,.inl h⟩,k _ H1 s1 λHi keep=> ?_⟩⟩;have hh:Rd Hi la (.lst lv):=by
    rcases h with h| ⟨o,h⟩
    .exact .inl (keep _ _ h (yI _ rfl))
    .exact .inr ⟨o,keep _ _ h (yI _ rfl)⟩
   refine⟨λi d hd=> ?_,⟨_,.inl hh,by rw[r.1];exact Gaq _⟩⟩;obtain⟨x,h1,h2⟩:=r.get hd;refine⟨⟨_,x,.inl hh,h1⟩,λy H2 ⟨e2,e3⟩=> ?_⟩;subst e2;refine⟨bF, ?_⟩;have:=e3 _ (.inl hh);rw[h1] at this;cases this
   exact E1.kS keep h2
 .rename_i xs hd;cases hf;have xr :d= .tup ds:=hd;subst xr;cases ii with
  | @tup la lv _ h r=>
   refine⟨_,rfl,.inr ⟨⟨_,SqT.of h⟩,k _ H1 s1 λHi keep=> ?_⟩⟩;have hh:Hi la=some (.tup lv):=keep _ _ h λw=>E1.fh w h trivial;refine⟨λi d hd=> ?_,⟨_,SqT.of hh,by rw[r.1];exact Gaq _⟩⟩;obtain⟨x,h1,h2⟩:=r.get hd;refine⟨⟨_,x,SqT.of hh,h1⟩,λy H2 ⟨e2,e3⟩=> ?_⟩;subst e2;refine⟨bF, ?_⟩;have:=e3 _ (SqT.of hh);rw[h1] at this;cases this
   exact E1.kS keep h2
 .rename_i ns hd;cases hf;have xr :d= .scr ns:=hd;subst xr;cases ii with
  | @scr la _ h=>
   refine⟨_,rfl,.inl ⟨⟨_,h.sq⟩,k _ H1 s1 λHi keep=> ?_⟩⟩;have hh:Scr X.K Hi la ns:=by
    rcases h with⟨o,h⟩|h
    .exact .inl ⟨o,keep _ _ h λw=>E1.fh w h trivial⟩
    .exact .inr h
   refine⟨λi d hd=> ?_,⟨_,hh.sq,by simp⟩⟩;rw[Gah] at hd;cases q:ns[i]? with
   |none=>rw[q] at hd;cases hd
   |some n=>
    rw[q] at hd;cases hd
    refine⟨⟨_,.int n,hh.sq,by rw[Gah,q];rfl⟩,λy H2 ⟨e2,e3⟩=> ?_⟩;subst e2;have:=e3 _ hh.sq;rw[Gah,q] at this;cases this
    exact⟨bF,.int n⟩
 .cases hf
theorem k5{lo:Int}{n:Nat}{F N:Addr->Prop}{H1:Hp}:B4 X.K F N (Itr lo n) (aE lo n) H1:=λHi _=>by
 refine⟨λi d hd=> ?_,by show n<=(aE lo n).length;simp[aE]⟩;have hi:i<n:=by have:=(Gaj.mp hd).1;simpa[aE] using this
 refine⟨hi,λx H2 ⟨e1,e2⟩=> ?_⟩;subst e1 e2;have:d= .int (lo+(i:Int)):=by
  unfold aE at hd;rw[Gah,List.getElem?_range hi] at hd;cases hd;rfl
 subst this;exact⟨bF,.int _⟩
theorem fj{i:Int}(h:aZ i=true): -(2^62)<=i/\i<2^62:=by
 unfold aZ at h;rw[Gay] at h;have h1:=Gar h.1;have h2:=Gar h.2;lia
theorem o8{tg:Expr}{p:Pos}(hg:Gl X "range")(hm:X.mg "range"=none)(he:PEd X e f)(hs:starEach [e] X.env=[(false,eval e X.env)]:=by rfl):PId X tg (.Call (.Name "range" p) [e] [] pos) (cI f):=by
 refine(D7 hg hm (dG he gS hs) hs).aG ?_;rintro Z H R ⟨H0,eF,env,ds,E,hf,k⟩;obtain⟨r,hr,hf⟩:=eD hf;split at hf
 .rename_i j hd;split at hf
  .rename_i hz;cases hf;refine⟨H0,eF,env,[r],E,by unfold a4 a8;rw[hr];rfl,λvs H1 s1 Rs=> ?_⟩;cases Rs with
   |cons R1 t=>
    cases t;have i:=R1.inn;rw[hd] at i;cases i;exact⟨j,rfl,(fj hz).1,(fj hz).2,k _ H1 s1 k5⟩
  .cases hf
 .cases hf
theorem Du{tg:Expr}{p:Pos}(hg:Gl X "range")(hm:X.mg "range"=none)(ha:PEd X a f)(hb:PEd X b g)(hs:starEach [a,b] X.env=[(false,eval a X.env),(false,eval b X.env)]:=by rfl)(eY:starEach [b] X.env=[(false,eval b X.env)]:=by rfl):
  PId X tg (.Call (.Name "range" p) [a,b] [] pos) (C5 f g):=by
 refine(D8 hg hm (dG ha (dG hb gS eY) (by rw[hs,eY])) hs eY).aG ?_;rintro Z H R ⟨H0,eF,env,ds,E,hf,k⟩;obtain⟨r,hr,hf⟩:=eD hf;obtain⟨r',yX,hf⟩:=eD hf;split at hf
 .rename_i i j hd xr;split at hf
  .rename_i hz;rw[Gay] at hz;cases hf;refine⟨H0,eF,env,[r,r'],E,by simp only[a4,a8,hr,yX];rfl,λvs H1 s1 Rs=> ?_⟩;cases Rs with
   |cons R1 t=>
    cases t with
    |cons R2 t=>
     cases t;have i1:=R1.inn;rw[hd] at i1;cases i1;have i2:=R2.inn;rw[xr] at i2;cases i2;exact⟨i,j,rfl,⟨(fj hz.1).1,(fj hz.1).2,(fj hz.2).1,(fj hz.2).2⟩,k _ H1 s1 k5⟩
  .cases hf
 .cases hf
theorem bH{i:Nat}{x:Str}(hN:X.N.Nodup)(hi:X.N[i]? =some x)(hx:Loc X.env.scope x)(hf:X.fn x=true\/X.env.scope.names.lookup x=some .local:=by first|exact .inl rfl|exact .inr rfl|assumption):PGd X (.Name x pos) (gN i):=by
 refine(BS hN hi hx hf).aG ?_;rintro v Z H Q ⟨H0,eF,env,d,eU,E,hg,r,k⟩;cases hg;exact k _ H (E.lF r) .lF
def tGs(X:Cx)(is:List Nat):TGs:=λvs Z H Q=>∃H0 eF env ds eU,ao X.K H0 eF env Z H/\gNs is ds env=some eU /\aN X.K (λb=>Cln eF env Z b/\H b≠none) H ds vs/\∀Z' H',ao X.K H0 eF eU Z' H' ->Stp env Z H eU Z' H' ->Q Z' H'
theorem _root_.L2.PGs.aG{es:List Expr}{t t' :TGs}(h:PGs X es t')(i:∀v Z H Q,t v Z H Q->t' v Z H Q):PGs X es t:=λee s Z H v u Q I r q=>h ee s Z H v u Q I r (i v Z H Q q)
theorem kT:PGs X [] (tGs X []):=by
 refine HS.aG ?_;rintro vs Z H Q ⟨H0,eF,env,ds,eU,E,hg,r,k⟩;cases ds with
 |nil=>cases hg;exact⟨r.cg,k Z H E .refl⟩
 |cons d ds=>cases hg
theorem fE{es:List Expr}{i:Nat}{is:List Nat}(h1:PGd X e (gN i))(h2:PGs X es (tGs X is))(hs:(assignEach (e::es) X.env).map (·.2)=assign e X.env::(assignEach es X.env).map (·.2):=by rfl):PGs X (e::es) (tGs X (i::is)):=by
 refine(ER h1 h2 hs).aG ?_;rintro vs Z H Q ⟨H0,eF,env,ds,eU,E,hg,r,k⟩;cases ds with
 |nil=>cases hg
 |cons d ds=>
  obtain⟨v,vr,rfl,r1,r2⟩:=r.cons_inv;refine⟨v,vr,rfl,H0,eF,env,d,_,E,rfl,r1.imp λ_ q=>q.1,λZ1 H1 E1 p1=> ?_⟩;refine⟨H0,eF,_,ds,eU,E1,hg,r2.gen (λb o hb q=>p1.keep b o hb (by
   rcases q with q|q
   .exactλ⟨j,w1,w2⟩=>q.1.2 j w1.ol.top w2
   .exactλw=>E.fh w hb q)) (λb q hb=> ⟨tF p1 q.1 hb, ?_⟩),λZ2 H2 E2 p2=>k Z2 H2 E2 (p1.trans p2)⟩
  cases o:H b with
  |none=>exact absurd o hb
  |some x=>rw[p1.keep b x o λ⟨j,w1,w2⟩=>q.1.2 j w1.ol.top w2];simp
theorem Cj:∀{is:List Nat} {ds:List D} {env eU :Env},gNs is ds env=some eU ->ds.length=is.length
 |[],[],_,_,_=>rfl
 |[],_::_,_,_,h=>by cases h
 |_::_,[],_,_,h=>by cases h
 |i::is,d::ds,env,eU,h=>by
  have:=Cj (is:=is) (ds:=ds) h;simp[this]
theorem o9{es:List Expr}{j n:Nat}{is:List Nat}(hc:X.calm=true)(h:PGs X es (tGs X is))(hn:(assignEach es X.env).length=n:=by rfl)(yh:(assignEach es X.env).findIdx? (·.1)=none:=by rfl)(hl:is.length=n:=by rfl):PGd X (.Tuple es j pos) (gT is):=by
 refine(Ku hc h hn yh).aG ?_;rintro v Z H Q ⟨H0,eF,env,d,eU,E,hg,r,k⟩;unfold gT at hg;split at hg
 .rename_i ds;cases r with
  |tup h l r=>
   refine⟨_,_,rfl,SqT.of h,by rw[<-l,Cj hg,hl],H0,eF,env,ds,eU,E,hg,⟨l,λi d v e1 e2=>(r i d v e1 e2).gen (.of_same bF) λb q hb=> ⟨q,hb⟩⟩,k⟩
 .cases hg
end
open PySem PySem.Spec PyProof.Rows L2
section
variable{X:Cx}{e a b c:Expr}{f g h:DE}{t u:DT}{pos:Pos}{st:Stmt}{rest:List Stmt}{s1 s2:DS}
theorem n4{i:Nat}{env:Env}{d:D}(h:ownAt i env=some d):env[i]? =some (some (.own d)):=by
 unfold ownAt at h;split at h
 .rename_i d' q;cases h;exact q
 .cases h
theorem n5{K:ak}{F:Addr->Prop}{H:Hp}{ds:List D}{a:Addr}(w:Wr H a)(i:Inn K F H (.lst ds) (.ref a)):∃vs,H a=some (.lst vs)/\aN K F H ds vs:=by
 cases i with
 |lst h r=>
  rcases h with h| ⟨o,h⟩
  .exact⟨_,h,r⟩
  .obtain⟨y,hy,wy⟩:=w;rw[h] at hy;cases hy;exact wy.elim
theorem oe{i:Nat}{x:Str}{px apos eM:Pos}(hN:X.N[i]? =some x)(hv:Vis X.env.scope x)(he:PEd X e f)(hd:(x==("__debug__":Str))=false:=by decide)(xn:(x==("__classdict__":Str))=false:=by decide)
  (xi:starEach [e] X.env=[(false,eval e X.env)]:=by rfl)
  (eX:attributeBase (.Name x px) "append" X.env (eval (.Name x px) X.env)=eval (.Name x px) X.env:=by rfl)
  (xB:((backTo eM (starEach [e] X.env)).all (λx=> !x.1)&&(backToKw eM (keywordEach [] X.env)).all (λx=>x.1.isSome)
   &&decide (([e]:List Expr).length+([]:List Keyword).length+(if([]:List Keyword).isEmpty then 0 else 1)<30))=true:=by rfl)
  (eW:(apos.endLine==eM.line)=true:=by rfl)(hs:swapsWith (.Call (.Attribute (.Name x px) "append" apos) [e] [] eM) none pos.line X.env=pure false:=by rfl):
  PSd X (.Expr (.Call (.Attribute (.Name x px) "append" apos) [e] [] eM) pos) (gC i f):=by
 refine(pF (BZ Gcy PySem.F.slot_list_append PySem.F.type_list_append nT (jY hN hv hd xn) (dG he gS xi) eX xB eW xi rfl) hs).aG ?_;rintro D Z H ⟨H0,eF,env,o,E,e,k⟩;obtain⟨r,hr,e⟩:=eD e;obtain⟨d,hd,e⟩:=eD e;have q:=n4 hd;split at e
 .rename_i xs;split at e
  .rename_i z;rw[Gay] at z;cases e;obtain⟨a,h1,h2,h3,h4,h5,h6⟩:=E.ow i _ (.inl q);obtain⟨vs,hH,rp⟩:=n5 h4 h6;refine⟨_,h1,.inl ⟨rfl,vs,.inl (.inl hH)⟩,H0,eF,env,[r],E,by unfold a4 a8;rw[hr];rfl,λws H2 s2 Rs=> ?_⟩;cases Rs with
   | @cons _ v _ _ R1 tl=>
    cases tl;have xY:=s2 _ _ hH;refine⟨a,vs,v,rfl,rfl,xY,by rw[<-rp.1,<-eR];exact Gar z.2, ?_⟩;have E2:=E.mono s2;have rep1:=R1.rep E z.1;have rp2:aN X.K (Cln eF env Z) H2 (xs++[r.d]) (vs++[v]):=(rp.gen (.of_same s2) λ_ f _=>f).append (.cons rep1 .nil);obtain⟨E3,p3⟩:=E2.change (d' := .lst (xs++[r.d])) (o:= .lst (vs++[v])) q h1 trivial rfl (.lst (.inl az) (rp2.gen (λb o hb w=>by
     have:b≠a:=by
      rintro rfl;rcases w with w|w
      .exact w.2 i (by rw[q];trivial) h1
      .rw[xY] at hb;cases hb;exact w
     rw[ah this];exact hb) λ_ f _=>f))
    exact k Z _ E3 ((Stp.of_same s2).trans p3)
  .cases e
 .cases e
theorem Dv{i:Nat}{x:Str}{px apos eM:Pos}(hN:X.N[i]? =some x)(hv:Vis X.env.scope x)(he:PEd X e f)(hd:(x==("__debug__":Str))=false:=by decide)(xn:(x==("__classdict__":Str))=false:=by decide)
  (xi:starEach [e] X.env=[(false,eval e X.env)]:=by rfl)
  (eX:attributeBase (.Name x px) "extend" X.env (eval (.Name x px) X.env)=eval (.Name x px) X.env:=by rfl)
  (xB:((backTo eM (starEach [e] X.env)).all (λx=> !x.1)&&(backToKw eM (keywordEach [] X.env)).all (λx=>x.1.isSome)
   &&decide (([e]:List Expr).length+([]:List Keyword).length+(if([]:List Keyword).isEmpty then 0 else 1)<30))=true:=by rfl)
  (eW:(apos.endLine==eM.line)=true:=by rfl)(hs:swapsWith (.Call (.Attribute (.Name x px) "extend" apos) [e] [] eM) none pos.line X.env=pure false:=by rfl):
  PSd X (.Expr (.Call (.Attribute (.Name x px) "extend" apos) [e] [] eM) pos) (Nj i f):=by
 refine(pF (BZ Gcy PySem.F.slot_list_extend PySem.F.type_list_extend Dh (jY hN hv hd xn) (dG he gS xi) eX xB eW xi rfl) hs).aG ?_;rintro D Z H ⟨H0,eF,env,o,E,e,k⟩;obtain⟨⟨kd,rd⟩,hr,e⟩:=eD e;obtain⟨d,hd,e⟩:=eD e;have q:=n4 hd;split at e
 .rename_i xs ys hrd;have hrd' :rd= .lst ys:=hrd;subst hrd';split at e
  .rename_i z;rw[Gay] at z;cases e;have hk:kd= .tn:=by have:=z.1;simpa using this
   subst hk;obtain⟨a,h1,h2,h3,h4,h5,h6⟩:=E.ow i _ (.inl q);obtain⟨vs,hH,rp⟩:=n5 h4 h6;refine⟨_,h1,.inl ⟨rfl,vs,.inl (.inl hH)⟩,H0,eF,env,[⟨.tn,.lst ys⟩],E,by unfold a4 a8;rw[hr];rfl,λws H2 s2 Rs=> ?_⟩;cases Rs with
   | @cons _ v _ _ R1 tl=>
    cases tl;obtain⟨b,rfl,nb,wb,_,ib⟩:=R1;obtain⟨us,hB,ru⟩:=n5 wb ib;have xY:=s2 _ _ hH;refine⟨a,b,vs,us,rfl,rfl,xY,hB,by rw[<-rp.1,<-ru.1,<-eR];exact Gar z.2, ?_⟩;have E2:=E.mono s2;have rp2:aN X.K (Cln eF env Z) H2 (xs++ys) (vs++us):=(rp.gen (.of_same s2) λ_ f _=>f).append (ru.gen (.of_same bF) λ_ f _=>f.1);obtain⟨E3,p3⟩:=E2.change (d' := .lst (xs++ys)) (o:= .lst (vs++us)) q h1 trivial rfl (.lst (.inl az) (rp2.gen (λb o hb w=>by
     have:b≠a:=by
      rintro rfl;rcases w with w|w
      .exact w.2 i (by rw[q];trivial) h1
      .rw[xY] at hb;cases hb;exact w
     rw[ah this];exact hb) λ_ f _=>f))
    exact k Z _ E3 ((Stp.of_same s2).trans p3)
  .cases e
 .cases e
def Q1(K:ak):List V->Hp->VK->Prop:=λxs H Q=>∃x T t b,xs=[x,.ty T]/\lV K H x (.type t)/\PySem.W.kitOne K (.type t) (.type T)=some b/\Q (.bl b) H
theorem FF:fY X (.builtin "isinstance") (Q1 X.K):=by
 intro ee s Z H xs us Q I r h;obtain⟨x,T,t,bb,rfl,ty,hk,q⟩:=h;obtain⟨u,w',rfl,r1,r2⟩:=vals2 r;cases r2;exact De I r1 ty hk λtk=> ⟨.bl bb,H,I.tok _,rfl,q⟩
def K9(K:ak)(T:String):Prop:=∀t∈["NoneType","bool","int","str","tuple","list","dict"],PySem.W.kitOne K (.type t) (.type T)=some (T==t||(t=="bool"&&T=="int"))
theorem IF{K:ak}{F:Addr->Prop}{H:Hp}{d:D}{x:V}(i:Inn K F H d x)(hs:mW d=false):∃t∈["NoneType","bool","int","str","tuple","list","dict"],lV K H x (.type t)/\∀S,kb S d=(S==t||(t=="bool"&&S=="int")):=by
 have rdl:∀{a:Addr} {vs:List V},Rd H a (.lst vs)->lV K H (.ref a) (.type "list"):=λh=>by
  rcases h with h| ⟨o,h⟩
  .exact .lst h
  .exact .frz h
 cases i with
 |non=>exact⟨"NoneType",by simp,.non,λS=>by simp[kb]⟩
 |bl b=>exact⟨"bool",by simp,.bl b,λS=>by simp[kb]⟩
 |int i=>exact⟨"int",by simp,.int i,λS=>by simp[kb]⟩
 |str x=>exact⟨"str",by simp,.str x,λS=>by simp[kb]⟩
 |tup h r=>exact⟨"tuple",by simp,.tup h,λS=>by simp[kb]⟩
 |lst h r=>exact⟨"list",by simp,rdl h,λS=>by simp[kb]⟩
 |dK h r=>exact⟨"dict",by simp,.dK h,λS=>by simp[kb]⟩
 |dT h r=>exact⟨"dict",by simp,.dT h,λS=>by simp[kb]⟩
 |scr h=>cases hs
 |exc _ _=>cases hs
theorem Lg{T:String}{x:Str}{p p2:Pos}(S8:K9 X.K T)(he:PEd X e f)(hg:Gl X "isinstance")(hm:X.mg "isinstance"=none)(xX:Gl X x)(QQ:X.mg x=none)(Sb:bootBuiltins x=some (.type T))(zD:x≠"__name__":=by decide)(hd2:(x==("__debug__":Str))=false:=by decide)
  (xi:starEach [e,.Name x p2] X.env=(false,eval e X.env)::starEach [.Name x p2] X.env:=by rfl)(eY:starEach [.Name x p2] X.env=(false,eval (.Name x p2) X.env)::starEach [] X.env:=by rfl)(xF:(backTo pos (starEach [.Name x p2] X.env)).any (·.1)=false:=by rfl):
  PEd X (.Call (.Name "isinstance" p) [e,.Name x p2] [] pos) (bE (Nh T f)):=by
 have ht:PE X (.Name x p2) (tC (.ty T)):=HP xX QQ Sb rfl zD hd2;refine(vC FF hg hm (by decide+kernel) (um he (um ht AE eY) xi) (by decide) (by decide) xi xF).aG ?_;rintro Z H Q ⟨H0,eF,env,rv,E,e,k⟩;obtain⟨bb,e',rfl⟩:=Gap.mp e;clear e;have e:=e';clear e';obtain⟨r,hr,e⟩:=eD e;split at e
 .cases e
 .rename_i hs;cases e;refine⟨H0,eF,env,r,E,hr,λv H1 s1 R=> ?_⟩;obtain⟨t,ht,ty,hb⟩:=IF R.inn (by simpa using hs);exact⟨v,T,t,_,rfl,ty,S8 t ht,by rw[<-hb T];exact k _ H1 s1 (.bl _)⟩
theorem uF:∀env rs,a8 env=some rs->rs.length=0:=λenv rs h=>by cases h;rfl
theorem qq{r:DA}{n:Nat}(h:∀env rs,r env=some rs->rs.length=n):∀env rs,a4 f r env=some rs->rs.length=n+1:=λenv rs e=>by
 obtain⟨x,_,e⟩:=eD e;obtain⟨xs,hx,e⟩:=eD e;cases e;rw[Gaw,h env xs hx]
theorem ao.start{K:ak}{H:Hp}{N:List Str}{ds:List D}{vs:List V}(hl:ds.length<=N.length)(r:aN K (λ_=>True) H ds vs):ao K H (λ_=>False) (aM N.length ds) (start N vs) H:=by
 have nt:∀i:Nat,¬b5 (aM N.length ds)[i]? :=λi h=>by
  unfold aM at h;by_cases hi:i<ds.length
  .rw[GaU (by simpa using hi),Gah] at h;cases q:ds[i]? with
   |none=>rw[q] at h;exact h
   |some d=>rw[q] at h;exact h
  .rw[GaN (by simpa using hi),Gcx] at h;split at h<;>exact h
 have no:∀{i:Nat} {s:Slot},(aM N.length ds)[i]? =some (some s)->b5 (some (some s))->False:=λ{i s} e h=>nt i (by rw[e];exact h);refine⟨λ_ _ e=>e,by simp[aM,L2.start,r.1],λ_ h=>h.elim,λi d e=> ?_,λi d e=> ?_,λi d e=> ?_,λi j a t _ _ _=>(nt i t.top).elim⟩
 .unfold aM at e;by_cases hi:i<ds.length
  .rw[GaU (by simpa using hi),Gah] at e;cases q:ds[i]? with
   |none=>rw[q] at e;cases e
   |some d' =>
    rw[q] at e;have e' :d' =d:=by simpa using e
    subst e';obtain⟨v,h1,h2⟩:=r.get q;refine⟨v, ?_,h2.imp λb _=> ⟨λz=>z,λj t=>(nt j t).elim⟩⟩;unfold L2.start;rw[GaU (by rw[Gac,<-r.1];exact hi),Gah,h1];rfl
  .rw[GaN (by simpa using hi),Gcx] at e;split at e<;>cases e
 .rcases e with e|e
  .exact(no e trivial).elim
  .exact(no e trivial).elim
 .exact(no e trivial).elim
theorem O0{P:Program}{w:World}{K:ak}{mg:Str->Option Value}{base:Heap}{x qual:Str}{sd:Stmt}{fa:Addr}{fd:FuncData}{N ps:List Str}{k np:Nat}{body:DS}(F:Fun K x qual sd fa fd)(S:jz N ps (bz sd))(QN:ps.length=np)
  (xD:∀(xb:Value) (A:Around) (outer:List PySem.Env) (s:Shared) (H:Hp) (E:XK),gL k (A.deeper (envOfC qual (bz sd) s.heap.objs.size fa xb))->
   qh (vA CX0 P w K mg base N qual (bz sd) fa xb A outer s H E).nox (gB sd) body):mL P w K mg base CX0 (k+1) fa fd ps (spD K np (cC N.length np body)):=by
 refine F.ok S (λvs H Q E h=> ?_) λxb A outer s H vs Q E hr h=> ⟨_,xD xb A outer s H E hr, ?_⟩
 .obtain⟨ds,d,h1,h2,_⟩:=h;rw[<-h2.1,h1,QN]
 .obtain⟨ds,d,h1,h2,h3,k⟩:=h;unfold cC at h3;rw[Gaf h1] at h3;obtain⟨o,ho,h3⟩:=eD h3;have hl:ds.length<=N.length:=by
   have:=congrArg List.length S.pre;rw[Gce] at this;lia
  refine⟨H,λ_=>False,aM N.length ds,o,ao.start hl h2,ho, ?_⟩;cases o with
  |ret d' =>cases h3;exactλv H' s' R=>k v H' s' R
  |nx e=>cases h3;exactλZ' H' E' p' =>k .non H' E'.same ⟨λt=>(by cases t),.non⟩
  |bk e=>cases h3
  |ct e=>cases h3
theorem Lh{K:ak}{H:Hp}{a:Addr}{ns:List Int}{sp:List D->Option D}{E:XK}(hO:Io H)(hS:SqL K H a (ns.map V.int))(h:sp [.scr ns]=some (.bl true)):spD K 1 sp [.ref a] H (λv _=>v= .bl true) E:=by
 refine⟨[.scr ns],.bl true,rfl,aN.cons (.scr ?_) .nil,h,λv H' _ R=> ?_⟩
 .rcases hS with(z|z)|z
  .rcases hO a with q| ⟨o,xs,q⟩<;>rw[z] at q<;>cases q
  .exact .inl z
  .exact .inr z
 .have i:=R.2;cases i;rfl
end
open PySem PySem.Spec PyProof.Rows L2
theorem plain_all{n:Nat}{ds:List D}(h:ds.all (a9 n)=true){i:Nat}{d:D}(e:ds[i]? =some d):a9 n d=true:=GaA.mp h d (GaP e)
theorem vZ:∀(n:Nat) (d:D),a9 n d=true->eqD d d=true:=by
 intro n;induction n with
 |zero=>intro d h;cases d<;>simp[a9] at h<;>simp[eqD]
 |succ n ih=>
  have all:∀ds:List D,ds.all (a9 n)=true->mU ds ds=true:=by
   intro ds;induction ds with
   |nil=>intro _;rfl
   |cons d ds ih2=>
    intro h;rw[GbR,Gay] at h;simp[mU,ih d h.1,ih2 h.2]
  intro d h;cases d<;>simp only[a9] at h<;>first
   |(simp[eqD];done)
   |(simp only[eqD];exact all _ h)
   |cases h
theorem kg:∀{ds es:List D},ds.length≠es.length->mU ds es=false
 |[],[],h=>absurd rfl h
 |[],_::_,_=>rfl
 |_::_,[],_=>rfl
 |d::ds,e::es,h=>by
  unfold mU;rw[kg (by simpa using h),GcM]
theorem gV:∀{ds es:List D},ds.length=es.length->(List.range ds.length).all (λj=>eqD (ds.getD j .non) (es.getD j .non))=mU ds es
 |[],[],_=>rfl
 |[],_::_,h=>by simp at h
 |_::_,[],h=>by simp at h
 |d::ds,e::es,h=>by
  have ih:=gV (ds:=ds) (es:=es) (by simpa using h);unfold mU;rw[Gaw,Gdt,GbR,GbM,<-ih]
  rfl
section
variable{X:Cx}{ee:List (Addr×Obj)}{Z:St}{H:Hp}{s:Shared}
theorem Ck{K:ak}{F G:Addr->Prop}:∀(n:Nat) {d d' :D} {v:V},a9 n d=true->a9 n d' =true->Rep K F H d v->Rep K G H d' v->d=d' :=by
 intro n;induction n with
 |zero=>intro d d' v h1 h2 r1 r2;cases r1<;>simp[a9] at h1<;>cases r2<;>simp[a9] at h2<;>rfl
 |succ n ih=>
  have all:∀{ds es:List D} {vs:List V},ds.all (a9 n)=true->es.all (a9 n)=true->ds.length=vs.length->es.length=vs.length->(∀(i:Nat) d v,ds[i]? =some d->vs[i]? =some v->Rep K F H d v)->(∀(i:Nat) d v,es[i]? =some d->vs[i]? =some v->Rep K G H d v)->ds=es:=by
   intro ds es vs p1 p2 l1 l2 r1 r2;apply Gdo;intro i;by_cases hi:i<vs.length
   .have e1:ds[i]? =some ds[i]:=by simp[l1,hi]
    have e2:es[i]? =some es[i]:=by simp[l2,hi]
    have e3:vs[i]? =some vs[i]:=by simp[hi]
    rw[e1,e2,ih (plain_all p1 e1) (plain_all p2 e2) (r1 i _ _ e1 e3) (r2 i _ _ e2 e3)]
   .rw[Gbt (by lia),Gbt (by lia)]
  intro d d' v h1 h2 r1 r2;cases r1 with
  |non=>cases r2;rfl
  |bl b=>cases r2;rfl
  |int i=>cases r2;rfl
  |str x=>cases r2;rfl
  |scr h=>simp[a9] at h1
  |exc _ _=>simp[a9] at h1
  |dK f h l r=>simp[a9] at h1
  |dT f h l r=>simp[a9] at h1
  |tup h l r=>
   cases r2 with
   |tup h' l' r' =>
    rw[h] at h';cases h'
    rw[all (by simpa[a9] using h1) (by simpa[a9] using h2) l l' r r']
   |lst f h' l' r' =>rcases h' with h' | ⟨o,h'⟩<;>rw[h] at h' <;>cases h'
   |scr h' =>simp[a9] at h2
   |exc _ _=>simp[a9] at h2
   |dK f h' l r=>simp[a9] at h2
   |dT f h' l r=>simp[a9] at h2
  |lst f h l r=>
   cases r2 with
   |tup h' l' r' =>rcases h with h| ⟨o,h⟩<;>rw[h] at h' <;>cases h'
   |lst f' h' l' r' =>
    have:∀{xs ys:List V} {a:Addr},Rd H a (.lst xs)->Rd H a (.lst ys)->xs=ys:=λz1 z2=>by
     rcases z1 with z1| ⟨o,z1⟩<;>rcases z2 with z2| ⟨o',z2⟩<;>rw[z1] at z2<;>cases z2<;>rfl
    cases this h h';rw[all (by simpa[a9] using h1) (by simpa[a9] using h2) l l' r r']
   |scr h' =>simp[a9] at h2
   |exc _ _=>simp[a9] at h2
   |dK f h' l r=>simp[a9] at h2
   |dT f h' l r=>simp[a9] at h2
theorem item_at{ds:List D}{vs:List V}{eI:List Value}{K:ak}{F:Addr->Prop}(l:ds.length=vs.length)(r:∀(i:Nat) d v,ds[i]? =some d->vs[i]? =some v->Rep K F H d v)(rv:Vals vs eI){j:Nat}(h:j<eI.toArray.size):
  ∃d v,ds[j]? =some d/\ds.getD j .non=d/\Rep K F H d v/\RelV v eI.toArray[j]:=by
 have hj:j<eI.length:=by simpa using h
 have hv:j<vs.length:=by rw[rv.length];exact hj
 have hd:j<ds.length:=by rw[l];exact hv
 obtain⟨u,e1,e2⟩:=rv.get (i:=j) (x:=vs[j]) (by simp[hv]);refine⟨ds[j],vs[j],by simp[hd],by simp[hd],r j _ _ (by simp[hd]) (by simp[hv]), ?_⟩;have:eI.toArray[j]=u:=by
  have:=e1;simp[hj] at this
  simpa using this
 rw[this];exact e2
theorem in1_units{A:Around}{n:Nat}(h:A.units+(n+1)<cLine):A.in1.units+n<cLine:=by
 show A.units+1+n<_;lia
theorem w5(I:Inv X ee Z H s){F G:Addr->Prop}:∀(n:Nat) {dx dy:D} {x y:V} {v u:Value} {A:Around},a9 n dx=true->a9 n dy=true->Rep X.K F H dx x->Rep X.K G H dy y->RelV x v->RelV y u->A.units+n<cLine->SeqAt.EqAt A s v u (eqD dx dy):=by
 have flat:∀{dx dy:D} {x y:V} {v u:Value} {A:Around},Rep X.K F H dx x->Rep X.K G H dy y->RelV x v->RelV y u->sY x=true->sY y=true->SeqAt.EqAt A s v u (eqD dx dy):=by
  intro dx dy x y v u A r1 r2 rv ru fx fy;have e:eqD dx dy=eqV x y:=by
   cases r1<;>cases r2<;>first|rfl|(simp[sY] at fx)|(simp[sY] at fy)
  rw[e];exact KS rv ru fx fy
 intro n;induction n with
 |zero=>
  intro dx dy x y v u A p1 p2 r1 r2 rv ru hu;refine flat r1 r2 rv ru ?_ ?_
  .cases r1<;>first|rfl|(simp[a9] at p1)
  .cases r2<;>first|rfl|(simp[a9] at p2)
 |succ n ih=>
  intro dx dy x y v u A p1 p2 r1 r2 rv ru hu;have hu0:A.units<cLine:=by lia
  cases r1 with
  |scr h=>simp[a9] at p1
  |exc _ _=>simp[a9] at p1
  |dK f h l r=>simp[a9] at p1
  |dT f h l r=>simp[a9] at p1
  | @tup a vs1 ds1 h l r=>
   cases rv;obtain⟨eI,xA,ht,_⟩:=I.tuple (SqT.of h);cases r2 with
   |scr h' =>simp[a9] at p2
   |exc _ _=>simp[a9] at p2
   |dK f h' l r=>simp[a9] at p2
   |dT f h' l r=>simp[a9] at p2
   |non=>cases ru;exact SeqAt.EqAt.tuple_none ht hu0
   |bl b=>cases ru;exact SeqAt.EqAt.tuple_bool b ht hu0
   |int i=>obtain⟨t,rfl⟩:=ru;exact SeqAt.EqAt.tuple_int i t ht hu0
   |str z=>obtain⟨t,rfl⟩:=ru;exact SeqAt.EqAt.tuple_str z t ht hu0
   |lst f' h' l' r' =>
    cases ru;obtain⟨eS,eZ,pl,_⟩:=I.list (.inl h');exact SeqAt.EqAt.tuple_list ht pl.isList hu0
   | @tup b vs2 ds2 h' l' r' =>
    cases ru;by_cases hab:a=b
    .subst hab;have:=Ck (n+1) p1 p2 (Rep.tup h l r) (Rep.tup h' l' r');rw[<-this,vZ _ _ p1];exact SeqAt.EqAt.same _
    .obtain⟨eS,eZ,hV,_⟩:=I.tuple (SqT.of h');have xi:eI.toArray.size=ds1.length:=by rw[Gam,<-xA.length,l]
     have eY:eS.toArray.size=ds2.length:=by rw[Gam,<-eZ.length,l']
     have key:=SeqAt.RcAt.tuples (e:=λj=>eqD (ds1.getD j .non) (ds2.getD j .non)) ht hV hu0 λj h1 h2=>by
      obtain⟨d1,v1,q1,q2,q3,q4⟩:=item_at l r xA h1;obtain⟨d2,v2,w1,w2,w3,w4⟩:=item_at l' r' eZ h2;rw[q2,w2];exact ih (plain_all (by simpa[a9] using p1) q1) (plain_all (by simpa[a9] using p2) w1) q3 w3 q4 w4 (in1_units hu)
     refine SeqAt.EqAt.of_refs hab ?_;show SeqAt.RcAt A s (.ref a) (.ref b) (mU ds1 ds2);rw[xi,eY] at key;by_cases hl:ds1.length=ds2.length
     .rw[<-hl,GdY,gV hl] at key
      simpa using key
     .rw[kg hl];have:(ds1.length==ds2.length)=false:=by simpa using hl
      rw[this,GcM] at key;exact key
  | @lst a vs1 ds1 f h l r=>
   cases rv;obtain⟨eI,xA,pl,_⟩:=I.list (.inl h);have ht:=pl.isList;cases r2 with
   |scr h' =>simp[a9] at p2
   |exc _ _=>simp[a9] at p2
   |dK f h' l r=>simp[a9] at p2
   |dT f h' l r=>simp[a9] at p2
   |non=>cases ru;exact SeqAt.EqAt.list_none ht hu0
   |bl b=>cases ru;exact SeqAt.EqAt.list_bool b ht hu0
   |int i=>obtain⟨t,rfl⟩:=ru;exact SeqAt.EqAt.list_int i t ht hu0
   |str z=>obtain⟨t,rfl⟩:=ru;exact SeqAt.EqAt.list_str z t ht hu0
   |tup h' l' r' =>
    cases ru;obtain⟨eS,eZ,hV,_⟩:=I.tuple (SqT.of h');exact SeqAt.EqAt.list_tuple ht hV hu0
   | @lst b vs2 ds2 f' h' l' r' =>
    cases ru;by_cases hab:a=b
    .subst hab;have:=Ck (n+1) p1 p2 (Rep.lst f h l r) (Rep.lst f' h' l' r');rw[<-this,vZ _ _ p1];exact SeqAt.EqAt.same _
    .obtain⟨eS,eZ,yd,_⟩:=I.list (.inl h');have hV:=yd.isList;have xi:eI.toArray.size=ds1.length:=by rw[Gam,<-xA.length,l]
     have eY:eS.toArray.size=ds2.length:=by rw[Gam,<-eZ.length,l']
     refine SeqAt.EqAt.of_refs hab ?_;show SeqAt.RcAt A s (.ref a) (.ref b) (mU ds1 ds2);by_cases hl:ds1.length=ds2.length
     .have key:=SeqAt.RcAt.lists (e:=λj=>eqD (ds1.getD j .non) (ds2.getD j .non)) ht hV (by rw[xi,eY,hl]) hu0 λj h1 h2=>by
       obtain⟨d1,v1,q1,q2,q3,q4⟩:=item_at l r xA h1;obtain⟨d2,v2,w1,w2,w3,w4⟩:=item_at l' r' eZ h2;rw[q2,w2];exact ih (plain_all (by simpa[a9] using p1) q1) (plain_all (by simpa[a9] using p2) w1) q3 w3 q4 w4 (in1_units hu)
      rw[xi,gV hl] at key;exact key
     .rw[kg hl];exact SeqAt.RcAt.lists_lengths ht hV (by rw[xi,eY];simpa using hl) hu0
  |non=>
   cases rv;cases r2 with
   |scr h' =>simp[a9] at p2
   |exc _ _=>simp[a9] at p2
   |dK f h' l r=>simp[a9] at p2
   |dT f h' l r=>simp[a9] at p2
   |tup h' l' r' =>cases ru;obtain⟨eS,eZ,hV,_⟩:=I.tuple (SqT.of h');exact SeqAt.EqAt.none_tuple hV hu0
   |lst f' h' l' r' =>cases ru;obtain⟨eS,eZ,yd,_⟩:=I.list (.inl h');exact SeqAt.EqAt.none_list yd.isList hu0
   |_=>exact flat .non (by first|exact .non|exact .bl _|exact .int _|exact .str _) rfl ru rfl rfl
  |bl b=>
   cases r2 with
   |scr h' =>simp[a9] at p2
   |exc _ _=>simp[a9] at p2
   |dK f h' l r=>simp[a9] at p2
   |dT f h' l r=>simp[a9] at p2
   |tup h' l' r' =>cases rv;cases ru;obtain⟨eS,eZ,hV,_⟩:=I.tuple (SqT.of h');exact SeqAt.EqAt.bool_tuple b hV hu0
   |lst f' h' l' r' =>cases rv;cases ru;obtain⟨eS,eZ,yd,_⟩:=I.list (.inl h');exact SeqAt.EqAt.bool_list b yd.isList hu0
   |_=>exact flat (.bl b) (by first|exact .non|exact .bl _|exact .int _|exact .str _) rv ru rfl rfl
  |int i=>
   cases r2 with
   |scr h' =>simp[a9] at p2
   |exc _ _=>simp[a9] at p2
   |dK f h' l r=>simp[a9] at p2
   |dT f h' l r=>simp[a9] at p2
   |tup h' l' r' =>obtain⟨t,rfl⟩:=rv;cases ru;obtain⟨eS,eZ,hV,_⟩:=I.tuple (SqT.of h');exact SeqAt.EqAt.int_tuple i t hV hu0
   |lst f' h' l' r' =>obtain⟨t,rfl⟩:=rv;cases ru;obtain⟨eS,eZ,yd,_⟩:=I.list (.inl h');exact SeqAt.EqAt.int_list i t yd.isList hu0
   |_=>exact flat (.int i) (by first|exact .non|exact .bl _|exact .int _|exact .str _) rv ru rfl rfl
  |str z=>
   cases r2 with
   |scr h' =>simp[a9] at p2
   |exc _ _=>simp[a9] at p2
   |dK f h' l r=>simp[a9] at p2
   |dT f h' l r=>simp[a9] at p2
   |tup h' l' r' =>obtain⟨t,rfl⟩:=rv;cases ru;obtain⟨eS,eZ,hV,_⟩:=I.tuple (SqT.of h');exact SeqAt.EqAt.str_tuple z t hV hu0
   |lst f' h' l' r' =>obtain⟨t,rfl⟩:=rv;cases ru;obtain⟨eS,eZ,yd,_⟩:=I.list (.inl h');exact SeqAt.EqAt.str_list z t yd.isList hu0
   |_=>exact flat (.str z) (by first|exact .non|exact .bl _|exact .int _|exact .str _) rv ru rfl rfl
theorem w6(I:Inv X ee Z H s){F G:Addr->Prop}{n:Nat}{dx dy:D}{x y:V}{v u:Value}{A:Around}(p1:a9 n dx=true)(p2:a9 n dy=true)(r1:Rep X.K F H dx x)(r2:Rep X.K G H dy y)(rv:RelV x v)(ru:RelV y u)(hu:A.units+n<cLine):
  SeqAt.RcAt A s v u (eqD dx dy)/\SeqAt.RcNeAt A s v u (!eqD dx dy):=by
 have hu0:A.units<cLine:=by lia
 have tupAt:∀{a:Addr} {vs:List V},H a=some (.tup vs)->∃eI:List Value,s.heap.IsTuple a eI.toArray:=λh=>let⟨eI,_,ht,_⟩:=I.tuple (SqT.of h);⟨eI,ht⟩
 have lstAt:∀{a:Addr} {vs:List V},Rd H a (.lst vs)->∃eI:List Value,s.heap.IsList a eI.toArray:=λh=>let⟨eI,_,pl,_⟩:=I.list (.inl h);⟨eI,pl.isList⟩
 cases r1 with
 |scr h=>cases n<;>simp[a9] at p1
 |exc _ _=>cases n<;>simp[a9] at p1
 |dK f h l r=>cases n<;>simp[a9] at p1
 |dT f h l r=>cases n<;>simp[a9] at p1
 |non=>
  cases rv;cases r2 with
  |scr h' =>cases n<;>simp[a9] at p2
  |exc _ _=>cases n<;>simp[a9] at p2
  |dK f h' l r=>cases n<;>simp[a9] at p2
  |dT f h' l r=>cases n<;>simp[a9] at p2
  |non=>cases ru;exact⟨.none_none,.none_none⟩
  |bl b=>cases ru;exact⟨.none_bool b,.none_bool b⟩
  |int i=>obtain⟨t,rfl⟩:=ru;exact⟨.none_int i t,.none_int i t⟩
  |str z=>obtain⟨t,rfl⟩:=ru;exact⟨.none_str z t,.none_str z t⟩
  |tup h' l' r' =>cases ru;obtain⟨eI,ht⟩:=tupAt h';exact⟨.none_tuple ht hu0,.none_tuple ht hu0⟩
  |lst f' h' l' r' =>cases ru;obtain⟨eI,ht⟩:=lstAt h';exact⟨.none_list ht hu0,.none_list ht hu0⟩
 |bl b=>
  cases rv;cases r2 with
  |scr h' =>cases n<;>simp[a9] at p2
  |exc _ _=>cases n<;>simp[a9] at p2
  |dK f h' l r=>cases n<;>simp[a9] at p2
  |dT f h' l r=>cases n<;>simp[a9] at p2
  |non=>cases ru;exact⟨.bool_none b,.bool_none b⟩
  |bl b' =>cases ru;exact⟨.bool_bool b b',.bool_bool b b'⟩
  |int i=>obtain⟨t,rfl⟩:=ru;exact⟨.bool_int b i t,.bool_int b i t⟩
  |str z=>obtain⟨t,rfl⟩:=ru;exact⟨.bool_str b z t,.bool_str b z t⟩
  |tup h' l' r' =>cases ru;obtain⟨eI,ht⟩:=tupAt h';exact⟨.bool_tuple b ht hu0,.bool_tuple b ht hu0⟩
  |lst f' h' l' r' =>cases ru;obtain⟨eI,ht⟩:=lstAt h';exact⟨.bool_list b ht hu0,.bool_list b ht hu0⟩
 |int i=>
  obtain⟨t,rfl⟩:=rv;cases r2 with
  |scr h' =>cases n<;>simp[a9] at p2
  |exc _ _=>cases n<;>simp[a9] at p2
  |dK f h' l r=>cases n<;>simp[a9] at p2
  |dT f h' l r=>cases n<;>simp[a9] at p2
  |non=>cases ru;exact⟨.int_none i t,.int_none i t⟩
  |bl b' =>cases ru;exact⟨.int_bool i t b',.int_bool i t b'⟩
  |int j=>obtain⟨t',rfl⟩:=ru;exact⟨.int_int i t j t',.int_int i t j t'⟩
  |str z=>obtain⟨t',rfl⟩:=ru;exact⟨.int_str i t z t',.int_str i t z t'⟩
  |tup h' l' r' =>cases ru;obtain⟨eI,ht⟩:=tupAt h';exact⟨.int_tuple i t ht hu0,.int_tuple i t ht hu0⟩
  |lst f' h' l' r' =>cases ru;obtain⟨eI,ht⟩:=lstAt h';exact⟨.int_list i t ht hu0,.int_list i t ht hu0⟩
 |str z=>
  obtain⟨t,rfl⟩:=rv;cases r2 with
  |scr h' =>cases n<;>simp[a9] at p2
  |exc _ _=>cases n<;>simp[a9] at p2
  |dK f h' l r=>cases n<;>simp[a9] at p2
  |dT f h' l r=>cases n<;>simp[a9] at p2
  |non=>cases ru;exact⟨.str_none z t,.str_none z t⟩
  |bl b' =>cases ru;exact⟨.str_bool z t b',.str_bool z t b'⟩
  |int j=>obtain⟨t',rfl⟩:=ru;exact⟨.str_int z t j t',.str_int z t j t'⟩
  |str z' =>obtain⟨t',rfl⟩:=ru;exact⟨.str_str z t z' t',.str_str z t z' t'⟩
  |tup h' l' r' =>cases ru;obtain⟨eI,ht⟩:=tupAt h';exact⟨.str_tuple z t ht hu0,.str_tuple z t ht hu0⟩
  |lst f' h' l' r' =>cases ru;obtain⟨eI,ht⟩:=lstAt h';exact⟨.str_list z t ht hu0,.str_list z t ht hu0⟩
 | @tup a vs1 ds1 h l r=>
  cases n with
  |zero=>simp[a9] at p1
  |succ n=>
   cases rv;obtain⟨eI,xA,ht,_⟩:=I.tuple (SqT.of h);cases r2 with
   |scr h' =>simp[a9] at p2
   |exc _ _=>simp[a9] at p2
   |dK f h' l r=>simp[a9] at p2
   |dT f h' l r=>simp[a9] at p2
   |non=>cases ru;exact⟨.tuple_none ht hu0,.tuple_none ht hu0⟩
   |bl b=>cases ru;exact⟨.tuple_bool b ht hu0,.tuple_bool b ht hu0⟩
   |int i=>obtain⟨t,rfl⟩:=ru;exact⟨.tuple_int i t ht hu0,.tuple_int i t ht hu0⟩
   |str z=>obtain⟨t,rfl⟩:=ru;exact⟨.tuple_str z t ht hu0,.tuple_str z t ht hu0⟩
   |lst f' h' l' r' =>cases ru;obtain⟨eS,hV⟩:=lstAt h';exact⟨.tuple_list ht hV hu0,.tuple_list ht hV hu0⟩
   | @tup b vs2 ds2 h' l' r' =>
    cases ru;obtain⟨eS,eZ,hV,_⟩:=I.tuple (SqT.of h');have xi:eI.toArray.size=ds1.length:=by rw[Gam,<-xA.length,l]
    have eY:eS.toArray.size=ds2.length:=by rw[Gam,<-eZ.length,l']
    have items:∀j (h1:j<eI.toArray.size) (h2:j<eS.toArray.size),SeqAt.EqAt A.in1 s eI.toArray[j] eS.toArray[j] ((λj=>eqD (ds1.getD j .non) (ds2.getD j .non)) j):=λj h1 h2=>by
     obtain⟨d1,v1,q1,q2,q3,q4⟩:=item_at l r xA h1;obtain⟨d2,v2,w1,w2,w3,w4⟩:=item_at l' r' eZ h2;dsimp only;rw[q2,w2];exact w5 I n (plain_all (by simpa[a9] using p1) q1) (plain_all (by simpa[a9] using p2) w1) q3 w3 q4 w4 (in1_units hu)
    have k1:=SeqAt.RcAt.tuples ht hV hu0 items;have k2:=SeqAt.RcNeAt.tuples ht hV hu0 items;have e:((List.range (min eI.toArray.size eS.toArray.size)).all (λj=>eqD (ds1.getD j .non) (ds2.getD j .non))&&eI.toArray.size==eS.toArray.size)=mU ds1 ds2:=by
     rw[xi,eY];by_cases hl:ds1.length=ds2.length
     .rw[<-hl,GdY,gV hl];simp
     .rw[kg hl];have:(ds1.length==ds2.length)=false:=by simpa using hl
      rw[this,GcM]
    rw[e] at k1 k2;exact⟨k1,k2⟩
 | @lst a vs1 ds1 f h l r=>
  cases n with
  |zero=>simp[a9] at p1
  |succ n=>
   cases rv;obtain⟨eI,xA,pl,_⟩:=I.list (.inl h);have ht:=pl.isList;cases r2 with
   |scr h' =>simp[a9] at p2
   |exc _ _=>simp[a9] at p2
   |dK f h' l r=>simp[a9] at p2
   |dT f h' l r=>simp[a9] at p2
   |non=>cases ru;exact⟨.list_none ht hu0,.list_none ht hu0⟩
   |bl b=>cases ru;exact⟨.list_bool b ht hu0,.list_bool b ht hu0⟩
   |int i=>obtain⟨t,rfl⟩:=ru;exact⟨.list_int i t ht hu0,.list_int i t ht hu0⟩
   |str z=>obtain⟨t,rfl⟩:=ru;exact⟨.list_str z t ht hu0,.list_str z t ht hu0⟩
   |tup h' l' r' =>cases ru;obtain⟨eS,hV⟩:=tupAt h';exact⟨.list_tuple ht hV hu0,.list_tuple ht hV hu0⟩
   | @lst b vs2 ds2 f' h' l' r' =>
    cases ru;obtain⟨eS,eZ,yd,_⟩:=I.list (.inl h');have hV:=yd.isList;have xi:eI.toArray.size=ds1.length:=by rw[Gam,<-xA.length,l]
    have eY:eS.toArray.size=ds2.length:=by rw[Gam,<-eZ.length,l']
    have items:∀j (h1:j<eI.toArray.size) (h2:j<eS.toArray.size),SeqAt.EqAt A.in1 s eI.toArray[j] eS.toArray[j] ((λj=>eqD (ds1.getD j .non) (ds2.getD j .non)) j):=λj h1 h2=>by
     obtain⟨d1,v1,q1,q2,q3,q4⟩:=item_at l r xA h1;obtain⟨d2,v2,w1,w2,w3,w4⟩:=item_at l' r' eZ h2;dsimp only;rw[q2,w2];exact w5 I n (plain_all (by simpa[a9] using p1) q1) (plain_all (by simpa[a9] using p2) w1) q3 w3 q4 w4 (in1_units hu)
    show SeqAt.RcAt A s (.ref a) (.ref b) (mU ds1 ds2)/\SeqAt.RcNeAt A s (.ref a) (.ref b) (!mU ds1 ds2);by_cases hl:ds1.length=ds2.length
    .have k1:=SeqAt.RcAt.lists ht hV (by rw[xi,eY,hl]) hu0 items;have k2:=SeqAt.RcNeAt.lists ht hV (by rw[xi,eY,hl]) hu0 items;rw[xi,gV hl] at k1 k2;exact⟨k1,k2⟩
    .rw[kg hl];exact⟨SeqAt.RcAt.lists_lengths ht hV (by rw[xi,eY];simpa using hl) hu0,SeqAt.RcNeAt.lists_lengths ht hV (by rw[xi,eY];simpa using hl) hu0⟩
end
section
variable{X:Cx}
def IG(K:ak)(neg:Bool):R2:=λx y H Q=>∃F dx dy,Inn K F H dx x/\Inn K F H dy y/\dx.plain=true/\dy.plain=true/\Q (.bl (if neg then !eqD dx dy else eqD dx dy)) H
theorem qr(hu:X.A.units+20<cLine):OpR X (compareOp .Eq) (IG X.K false):=by
 intro ee s Z H x y v u Q I rx ry h;obtain⟨F,dx,dy,i1,i2,p1,p2,q⟩:=h;exact(w6 I (n:=20) p1 p2 i1.any i2.any rx ry hu).1 X.prog X.w _ _ ⟨.bl (eqD dx dy),H,I,rfl,q⟩
theorem FG(hu:X.A.units+20<cLine):OpR X (compareOp .NotEq) (IG X.K true):=by
 intro ee s Z H x y v u Q I rx ry h;obtain⟨F,dx,dy,i1,i2,p1,p2,q⟩:=h;exact(w6 I (n:=20) p1 p2 i1.any i2.any rx ry hu).2 X.prog X.w _ _ ⟨.bl (!eqD dx dy),H,I,rfl,q⟩
theorem qt:OpB X eqB (IG X.K false):=by
 intro F H dx dy x y b Q ix iy e q;unfold eqB at e;split at e
 .rename_i z;rw[Gay] at z;cases e;exact⟨F,dx,dy,ix,iy,z.1,z.2,q⟩
 .cases e
theorem FH:OpB X neB (IG X.K true):=by
 intro F H dx dy x y b Q ix iy e q;unfold neB at e;split at e
 .rename_i z;rw[Gay] at z;cases e;exact⟨F,dx,dy,ix,iy,z.1,z.2,q⟩
 .cases e
theorem IH{A:Around}{k:Nat}(hr:gL k A):A.units+20<cLine:=GbK (Nat.add_le_add_left (by decide:20<=64) _) hr.units
theorem B6:bootBuiltins "len"=some (.builtin "len"):=by decide+kernel
theorem FI:bootBuiltins "min"=some (.builtin "min"):=by decide+kernel
theorem FJ:bootBuiltins "max"=some (.builtin "max"):=by decide+kernel
theorem Li:bootBuiltins "any"=some (.builtin "any"):=by decide+kernel
theorem jd:bootBuiltins "sorted"=some (.builtin "sorted"):=by decide+kernel
theorem w8:bootBuiltins "tuple"=some (.type "tuple"):=by decide+kernel
theorem Cm:bootBuiltins "list"=some (.type "list"):=by decide+kernel
theorem uG:bootBuiltins "enumerate"=some (.type "enumerate"):=by decide+kernel
theorem FK{K:ak}:K9 K "list":=by
 intro t ht;simp only[GaC,List.not_mem_nil,or_false] at ht;rcases ht with rfl|rfl|rfl|rfl|rfl|rfl|rfl<;>rfl
end
open PySem PySem.Spec PyProof.Rows L2
open PySem PySem.Spec PyProof.Rows L2
theorem m8{env:PySem.Env}:∀(names:List (Str×NameKind)),(∀y∈names,y.2= .free->∃c,env.cells.lookup y.1=some c)->∀(cs:List (Str×Addr)),(∀n c,cs.lookup n=some c->env.cells.lookup n=some c)->
  ∃cl:List (Str×Addr),(forIn names cs λx r=>(do
    if(x.2==NameKind.free)=true then pure (ForInStep.yield ((x.1,<-cellOf env x.1)::r)) else pure (ForInStep.yield r):Sem (ForInStep (List (Str×Addr)))))=pure cl/\
   (∀n c,cl.lookup n=some c->env.cells.lookup n=some c)/\(∀y∈names,y.2= .free->∃c,cl.lookup y.1=some c)/\∀n c,cs.lookup n=some c->∃c',cl.lookup n=some c'
 |[],_,cs,h=>by
  refine⟨cs,rfl,h, ?_,λn c e=> ⟨c,e⟩⟩;intro y hy;cases hy
 |(x,k)::names,hf,cs,h=>by
  by_cases hk:k= .free
  .subst hk;obtain⟨c,hc⟩:=hf (x,.free) Gak rfl;have xm:cellOf env x=pure c:=by unfold cellOf;rw[hc]<;>rfl
   obtain⟨cl,h1,h2,h3,h4⟩:=m8 names (λy hy=>hf y (Gae _ hy)) ((x,c)::cs) (λn c' e=>by
    by_cases z:n=x
    .subst z;simp[Gbg] at e;subst e;exact hc
    .have z' :(n==x)=false:=by simpa using z
     simp[Gbg,z'] at e;exact h n c' e)
   refine⟨cl, ?_,h2,λy hy zX=> ?_,λn c' e=> ?_⟩
   .rw[List.forIn_cons];simp only[xm];exact h1
   .rcases GaC.mp hy with rfl|hy
    .exact h4 x c (by simp[Gbg])
    .exact h3 y hy zX
   .by_cases z:n=x
    .subst z;exact h4 n c (by simp[Gbg])
    .have z' :(n==x)=false:=by simpa using z
     exact h4 n c' (by simp[Gbg,z',e])
  .have hk' :(k==NameKind.free)=false:=by simpa using hk
   obtain⟨cl,h1,h2,h3,h4⟩:=m8 names (λy hy=>hf y (Gae _ hy)) cs h;refine⟨cl, ?_,h2,λy hy zX=> ?_,h4⟩
   .rw[List.forIn_cons];simp only[hk'];exact h1
   .rcases GaC.mp hy with rfl|hy
    .exact absurd zX hk
    .exact h3 y hy zX
theorem iV{env:PySem.Env}{scope:Scope}(hf:∀y∈scope.names,y.2= .free->∃c,env.cells.lookup y.1=some c):
  ∃cl:List (Str×Addr),closureFor scope env=pure cl/\(∀n c,cl.lookup n=some c->env.cells.lookup n=some c)/\∀y∈scope.names,y.2= .free->∃c,cl.lookup y.1=some c:=by
 obtain⟨cl,h1,h2,h3,_⟩:=m8 scope.names hf [] (λn c e=>by simp at e);refine⟨cl, ?_,h2,h3⟩;unfold closureFor;exact(congrArg (λm=>m>>=pure) h1).trans (by rfl)
theorem mem_of_lookup{x:Str}{k:NameKind}:∀{l:List (Str×NameKind)},l.lookup x=some k->(x,k)∈l
 |[],h=>by simp at h
 |(n,k')::r,h=>by
  rw[Gbg] at h;cases hx:x==n with
  |true=>rw[hx] at h;cases h;rw[GcR] at hx;subst hx;exact Gak
  |false=>rw[hx] at h;exact Gae _ (mem_of_lookup h)
theorem m9{env:PySem.Env}{x:Str}:∀{names:List (Str×NameKind)},(∀y∈names,y.2≠ .cell)->((names.map λ(n,k)=>if(k==NameKind.free&&env.scope.kind== .function&&env.kindOf n==some .cell) then(n,NameKind.cell) else(n,k)).lookup x=some .cell\/
   (names.map λ(n,k)=>if(k==NameKind.free&&env.scope.kind== .function&&env.kindOf n==some .cell) then(n,NameKind.cell) else(n,k)).lookup x=some .free)->(x,NameKind.free)∈names
 |[],_,h=>by simp at h
 |(n,k)::r,hc,h=>by
  have hk:k≠ .cell:=hc (n,k) Gak;rw[GaB] at h;dsimp only at h;split at h
  .rename_i q;have q1:k= .free:=by
    rw[Gay,Gay] at q
    simpa using q.1.1
   subst q1;rw[Gbg] at h;cases hx:x==n with
   |true=>rw[GcR] at hx;subst hx;exact Gak
   |false=>rw[hx] at h;exact Gae _ (m9 (λy hy=>hc y (Gae _ hy)) h)
  .rw[Gbg] at h;cases hx:x==n with
   |true=>
    rw[hx] at h;rw[GcR] at hx;subst hx
    rcases h with h|h
    .cases h;exact absurd rfl hk
    .cases h;exact Gak
   |false=>rw[hx] at h;exact Gae _ (m9 (λy hy=>hc y (Gae _ hy)) h)
theorem gF{env:PySem.Env}{x:Str}:∀{names:List (Str×NameKind)},names.lookup x=some .free->((names.map λ(n,k)=>if(k==NameKind.free&&env.scope.kind== .function&&env.kindOf n==some .cell) then(n,NameKind.cell) else(n,k)).lookup x=some .cell\/
   (names.map λ(n,k)=>if(k==NameKind.free&&env.scope.kind== .function&&env.kindOf n==some .cell) then(n,NameKind.cell) else(n,k)).lookup x=some .free)
 |[],h=>by simp at h
 |(n,k)::r,h=>by
  rw[Gbg] at h;rw[GaB];dsimp only;cases hx:x==n with
  |true=>
   rw[hx] at h;cases h
   split
   .left;rw[Gbg,hx]
   .right;rw[Gbg,hx]
  |false=>
   rw[hx] at h;split
   .rw[Gbg,hx];exact gF h
   .rw[Gbg,hx];exact gF h
noncomputable def blk(X:Cx)(scope:Scope)(cl:List (Str×Addr))(C:Addr)(N:List Str)(s:Shared)(H:Hp)(ex:List Addr):Cx:=
 {X with N:=N,s₀:=s,H0:=H,env:=compEnvC scope cl C X.env,outer:=X.stack,ex:=ex,fn:=λ_=>false,pn:=[],xe:=λ_ _=>False}
noncomputable def O1:Option NameKind->Bool
 |some .cell=>true
 |some .free=>true
 |_=>false
structure iW(X:Cx)(scope:Scope)(N:List Str)(n:Nat)(ar:List Nat):Prop where
 cell:(scope.names.all λy=>y.2 != .cell)=true
 kind:scope.kind= .function
 names:(scope.names.all λy=>y.2 != .local||scope.names.lookup y.1==some .local)=true
 free:(scope.names.all λy=>y.2 != .free||O1 (X.env.kindOf y.1))=true
 cap:N.drop n=ar.map λi=>(X.N[i]?).getD ("":Str)
 le:n<=N.length
 lt:(ar.all λi=>decide (i<X.N.length))=true
 fr:((N.drop n).all λx=>scope.names.lookup x==some .free)=true
def pI(X:Cx)(ifs:List Expr)(tt:TT):Prop:=∀(ee:List (Addr×Obj)) (s:Shared) (Z:St) (H:Hp) (Q:Bool->Hp->Prop),Inv X ee Z H s->tt Z H Q->
 wpAny (model X.prog X.w) X.A (forIn ifs true λc r=>if r=true then do let ok<-isTrue c X.env (eval c X.env);pure (ForInStep.yield ok) else pure (ForInStep.yield r)) (TP X ee Z Q) X.xe s
theorem og{X:Cx}:pI X [] (tT X fZ):=λee s Z H Q I ⟨_,_,_,_,_,e,k⟩=>by
 cases e;exact wpAny_tests_nil ⟨H,I,k H bF⟩
theorem oh{X:Cx}{c:Expr}{t:DT}(h:PTd X c t):pI X [c] (tT X t):=λee s Z H Q I q=>wpAny_tests_one (h ee s Z H Q I q)
theorem pJ{ar:List Nat}{n j:Nat}{α:Type}{f:Nat->Option α}{y:α}(h:(List.replicate n (none:Option α)++ar.map f)[j]? =some (some y)):∃i,ar[j -n]? =some i/\n<=j/\f i=some y:=by
 by_cases hj:j<n
 .rw[GaU (by simpa using hj),Gcx] at h;rw[Gaf hj] at h;cases h
 .rw[GaN (by simp;lia),GdD,Gah] at h;cases q:ar[j -n]? with
  |none=>rw[q] at h;cases h
  |some i=>rw[q] at h;simp only[GbZ,Gcn] at h;exact⟨i,rfl,by lia,h⟩
theorem FL{ar:List Nat}{n j i:Nat}{α:Type}{f:Nat->Option α}(h1:ar[j -n]? =some i)(h2:n<=j):(List.replicate n (none:Option α)++ar.map f)[j]? =some (f i):=by
 rw[GaN (by simp;lia),GdD,Gah,h1];rfl
noncomputable def kh(n:Nat)(ar:List Nat)(Z:St):St:=List.replicate n none++ar.map λi=>Z[i]?.getD none
def lG(eF:Addr->Prop)(env:Env)(Z:St)(p:Addr):Addr->Prop:=λa=>a=p\/¬Cln eF env Z a
theorem getD_some{α:Type}{o:Option (Option α)}{y:α}(h:o.getD none=some y):o=some (some y):=by
 cases o with
 |none=>cases h
 |some z=>simp only[Option.getD_some] at h;rw[h]
theorem w9{ar:List Nat}{n j:Nat}{env:Env}{sl:Slot}(e:(compEnv n ar env)[j]? =some (some sl)):∃i,ar[j -n]? =some i/\n<=j/\cJ (env[i]?.getD none)=some sl:=pJ e
theorem Cn{ar:List Nat}{n j:Nat}{env:Env}{Z:St}{a:Addr}(t:b5 (compEnv n ar env)[j]?)(e:(kh n ar Z)[j]? =some (some (.ref a))):∃i:Nat,b5 env[i]? /\Z[i]? =some (some (.ref a)):=by
 cases q:(compEnv n ar env)[j]? with
 |none=>rw[q] at t;exact t.elim
 |some z=>
  cases z with
  |none=>rw[q] at t;exact t.elim
  |some sl=>
   obtain⟨i,e1,e2,e3⟩:=w9 q;obtain⟨i',xU,_,RP⟩:=pJ e;rw[e1] at xU;cases xU
   refine⟨i, ?_,getD_some RP⟩;rw[q] at t;cases r:env[i]? with
   |none=>rw[r] at e3;cases e3
   |some z=>cases z with
    |none=>rw[r] at e3;cases e3
    |some z=>
     rw[r] at e3;cases z with
     |sh d=>cases e3;exact t.elim
     |own d=>trivial
     |lok d=>trivial
     |bor d=>trivial
theorem II{ar:List Nat}{n j:Nat}{env:Env}:¬isO (compEnv n ar env)[j]? :=λt=>by
 match q:(compEnv n ar env)[j]?,t with
 |some (some (.own d)),_=>
  obtain⟨i,_,_,e3⟩:=w9 q;cases q:env[i]?.getD none with
  |none=>rw[q] at e3;cases e3
  |some z=>rw[q] at e3;cases z<;>cases e3
theorem ao.block{K:ak}{H0:Hp}{eF:Addr->Prop}{env:Env}{Z:St}{H:Hp}(E:ao K H0 eF env Z H)(n:Nat)(ar:List Nat){p:Addr}(hp:H p=none):
  ao K H (lG eF env Z p) (compEnv n ar env) (kh n ar Z) (upd H p (.lst [])):=by
 have sm:bR H (upd H p (.lst [])):=aW hp;have slot:∀(j:Nat) (sl:Slot),(compEnv n ar env)[j]? =some (some sl)->∃i,ar[j -n]? =some i/\n<=j/\cJ (env[i]?.getD none)=some sl:=λj sl e=>pJ e;have noO:∀(j:Nat) d,(compEnv n ar env)[j]? ≠some (some (.own d))/\(compEnv n ar env)[j]? ≠some (some (.lok d)):=λj d=>by
  constructor<;>
  .intro e;obtain⟨i,_,_,e3⟩:=slot j _ e;cases q:env[i]?.getD none with
   |none=>rw[q] at e3;cases e3
   |some z=>rw[q] at e3;cases z<;>cases e3
 have topAd:∀(j:Nat) a,b5 (compEnv n ar env)[j]? ->(kh n ar Z)[j]? =some (some (.ref a))->∃i:Nat,b5 env[i]? /\Z[i]? =some (some (.ref a)):=λj a t e=>Cn t e;have xh:∀b,Cln eF env Z b->H b≠none->Cln (lG eF env Z p) (compEnv n ar env) (kh n ar Z) b:=λb h hb=>by
  refine⟨λz=> ?_,λj t e=> ?_⟩
  .rcases z with z|z
   .subst z;exact hb hp
   .exact z h
  .obtain⟨i,t',e'⟩:=topAd j b t e;exact h.2 i t' e'
 refine⟨sm, ?_, ?_, ?_, ?_, ?_, ?_⟩
 .simp[compEnv,kh]
 .intro a ha;rcases ha with ha|ha
  .subst ha;rw[az];simp
  .intro z;refine ha ⟨λb=>E.bad a b (sm.free z),λi t e=>E.mY t e (sm.free z)⟩
 .intro j d e;obtain⟨i,e1,e2,e3⟩:=slot j _ e;have q:env[i]? =some (some (.sh d)):=by
   cases r:env[i]? with
   |none=>rw[r] at e3;cases e3
   |some z=>cases z with
    |none=>rw[r] at e3;cases e3
    |some z=>rw[r] at e3;cases z<;>cases e3;rfl
  obtain⟨v,h1,h2⟩:=E.sh i d q;refine⟨v, ?_,h2.gen (.of_same sm) xh⟩;unfold kh;rw[FL e1 e2,h1];rfl
 .intro j d e;rcases e with e|e
  .exact absurd e (noO j d).1
  .exact absurd e (noO j d).2
 .intro j d e;obtain⟨i,e1,e2,e3⟩:=slot j _ e;have q:b5 env[i]? /\(env[i]? =some (some (.own d))\/env[i]? =some (some (.lok d))\/env[i]? =some (some (.bor d))):=by
   cases r:env[i]? with
   |none=>rw[r] at e3;cases e3
   |some z=>cases z with
    |none=>rw[r] at e3;cases e3
    |some z=>
     rw[r] at e3;cases z with
     |sh d=>cases e3
     |own d=>cases e3;exact⟨trivial,.inl rfl⟩
     |lok d=>cases e3;exact⟨trivial,.inr (.inl rfl)⟩
     |bor d=>cases e3;exact⟨trivial,.inr (.inr rfl)⟩
  have fact:∃a,Z[i]? =some (some (.ref a))/\Wr H a/\d.top=true/\Inn K (Cln eF env Z) H d (.ref a):=by
   rcases q.2 with q|q|q
   .obtain⟨a,h1,_,_,h4,h5,h6⟩:=E.ow i d (.inl q);exact⟨a,h1,h4,h5,h6⟩
   .obtain⟨a,h1,_,_,h4,h5,h6⟩:=E.ow i d (.inr q);exact⟨a,h1,h4,h5,h6⟩
   .exact E.bo i d q
  obtain⟨a,h1,h4,h5,h6⟩:=fact;refine⟨a, ?_,h4.same sm,h5,h6.gen (.of_same sm) xh λ_ _ _ o e=>sm _ o e⟩;unfold kh;rw[FL e1 e2,h1];rfl
 .intro j k a t;exfalso;cases q:(compEnv n ar env)[j]? with
  |none=>rw[q] at t;exact t
  |some z=>cases z with
   |none=>rw[q] at t;exact t
   |some z=>cases z with
    |sh d=>rw[q] at t;exact t
    |own d=>exact(noO j d).1 q
    |lok d=>exact(noO j d).2 q
    |bor d=>rw[q] at t;exact t
theorem ao.grow{K:ak}{H0:Hp}{eF:Addr->Prop}{env:Env}{Z:St}{H:Hp}{p:Addr}{vs us:List V}(E:ao K H0 eF env Z H)(hb:eF p)(h0:H0 p=none)(hp:H p=some (.lst vs))(hl:∀i:Nat,vU env[i]? ->Z[i]? ≠some (some (.ref p))):ao K H0 eF env Z (upd H p (.lst us)):=by
 have dN:gE (Cln eF env Z) H (upd H p (.lst us)):=λb o e q=>by
  refine(ah ?_).trans e;rintro rfl;rcases q with q|q
  .exact q.1 hb
  .rw[hp] at e;cases e;exact q
 have wr:∀{a},Wr H a->Wr (upd H p (.lst us)) a:=λ{a} ⟨o,h1,h2⟩=>by
  by_cases z:a=p
  .subst z;exact⟨_,az,trivial⟩
  .exact⟨o,(ah z).trans h1,h2⟩
 refine⟨λb o e=>(ah λz=>by subst z;rw[h0] at e;cases e).trans (E.same b o e),E.len,λa ha=> ?_,λi d e=> ?_,λi d e=> ?_,λi d e=> ?_,E.dj⟩
 .by_cases z:a=p
  .subst z;rw[az];simp
  .rw[ah z];exact E.bad a ha
 .obtain⟨v,h1,h2⟩:=E.sh i d e;exact⟨v,h1,h2.gen dN λ_ f _=>f⟩
 .obtain⟨a,h1,h2,h3,h4,h5,h6⟩:=E.ow i d e;refine⟨a,h1,h2,h3,wr h4,h5,h6.gen dN (λ_ f _=>f) λb eb _ o q=> ?_⟩;cases eb;exact(ah (λz:a=p=>h3 (by rw[z];exact hb))).trans q
 .obtain⟨a,h1,h4,h5,h6⟩:=E.bo i d e;refine⟨a,h1,wr h4,h5,h6.gen dN (λ_ f _=>f) λb eb _ o q=> ?_⟩;cases eb;exact(ah (λz:a=p=>hl i (by rw[e];trivial) (by rw[<-z];exact h1))).trans q
open PySem PySem.Spec PyProof.Rows L2
theorem ex7{a b c d e f g:Type}{P:a->b->c->d->e->f->g->Prop}{G:Prop}(h:∀x1 x2 x3 x4 x5 x6 x7,P x1 x2 x3 x4 x5 x6 x7->G):(∃x1 x2 x3 x4 x5 x6 x7,P x1 x2 x3 x4 x5 x6 x7)->G:=λ⟨x1,x2,x3,x4,x5,x6,x7,q⟩=>h x1 x2 x3 x4 x5 x6 x7 q
structure CoI(X:Cx)(scope:Scope)(cl:List (Str×Addr))(C:Addr)(N:List Str)(s:Shared)(H:Hp)(fp:List Addr)(tn:Nat->Heap->Prop)(eF:Addr->Prop)(env:Env)(Z:St)(p:Addr)(gd:DG)(t:DT)(f:DE)(ds rs:List D)(m:Nat)(s' :Shared)(i:Nat)(Zi:St)(Hi:Hp)(eP:Env)(vs:List V)(done rest:List D):Prop where
 em:m=ds.length -i
 hi:i<=ds.length
 Ii:Inv (blk X scope cl C N s H fp) [] Zi Hi s'
 sti:tn i s'.heap
 fri:∀b∈fp,Hi b=none
 Ei:ao X.K H (lG eF env Z p) eP Zi Hi
 hpi:Hi p=some (.lst vs)
 ri:aN X.K (λb=>Cln eF env Z b/\b≠p) Hi done vs
 owi:∀j:Nat,¬isO eP[j]?
 lbi:∀(j:Nat) a,vU eP[j]? ->Zi[j]? =some (some (.ref a))->¬Cln eF env Z a
 dl:done.length<=i
 ci:br gd t f (ds.drop i) eP=some rest
 eqi:done++rest=rs
section
variable{X:Cx}{pos:Pos}
theorem gW{env:PySem.Env}{scope:Scope}{x:Str}(h:scope.names.lookup x=some .local):(relabel scope env).names.lookup x=some .local:=lookup_relabel_local h
theorem gH{scope:Scope}{cl:List (Str×Addr)}{C:Addr}{N:List Str}{s:Shared}{H:Hp}{ex:List Addr}{x:Str}(h:scope.names.lookup x=some .local):Vis (blk X scope cl C N s H ex).env.scope x:= .inl (gW h)
theorem b7{scope:Scope}{cl:List (Str×Addr)}{C:Addr}{N:List Str}{s:Shared}{H:Hp}{ex:List Addr}{x:Str}(h:scope.names.lookup x=some .local):Loc (blk X scope cl C N s H ex).env.scope x:= .inl (gW h)
theorem je{scope:Scope}{cl:List (Str×Addr)}{C:Addr}{N:List Str}{s:Shared}{H:Hp}{ex:List Addr}{x:Str}(h:scope.names.lookup x=some .free):Vis (blk X scope cl C N s H ex).env.scope x:= .inr (gF h)
theorem Dw{scope:Scope}{cl:List (Str×Addr)}{N:List Str}{n:Nat}{ar:List Nat}{ee:List (Addr×Obj)}{Z:St}{H:Hp}{s:Shared}{fp:List Addr}{h₁:Heap}{tk:Nat}{C:Addr}(S:iW X scope N n ar)(I:Inv X ee Z H s)
  (yK:∀x c,cl.lookup x=some c->X.env.cells.lookup x=some c)(Qk:∀y∈scope.names,y.2= .free->∃c,cl.lookup y.1=some c)(hf:∀b∈fp,lU X ee H b)(Ql:∀b∈fp,b<s.heap.objs.size)
  (hC:s.heap.objs.size+1=C)(Qc:h₁.Ns C λ_=>none)(old:∀b o,s.heap.get? b=some o->h₁.get? b=some o)(xS:h₁.get? s.heap.objs.size=some {cls:= .type "list",data:= .seq ([]:List Value).toArray}):
  Inv (blk X scope cl C N s H fp) [] (kh n ar Z) (upd H s.heap.objs.size (.lst [])) {s with heap:=h₁,toks:=tk}:=by
 have yY:=I.fresh;have hCn:H C=none:=I.hok.fresh (by lia);have xQ:C≠s.heap.objs.size:=λz=>by rw[z] at hC;exact Nat.succ_ne_self _ hC
 have xm:∀y∈scope.names,y.2≠ .cell:=λy hy z=>by
  have:=GaA.mp S.cell y hy;rw[z] at this;simp at this
 have cells:∀x c,cl.lookup x=some c->∃v,s.heap.IsCell c v:=λx c e=>I.cell x c (yK x c e);have cNe:∀x c,cl.lookup x=some c->c≠s.heap.objs.size:=λx c e z=>by
  obtain⟨v,q⟩:=cells x c e;exact absurd q.lt (by rw[z];exact Gbs _)
 refine⟨⟨I.ok.mod,S.kind,I.ok.glob,I.ok.blt,by show s.heap.objs.size<=C;lia,λx y c e1 e2=>I.ok.inj x y c (yK x c e1) (yK y c e2),λx hx=> ?_,λx c e=>(by cases e),I.ok.hd,I.ok.frames,.inl rfl,λb hb=> ⟨?_,λx c e=>(hf b hb).2.2.2.2.1 x c (yK x c e)⟩,
  I.bs,Gbh I.ok.bsz I.sz,λb o e hb=> ?_,λb hb hs=> ?_,I.stack,I.BQ⟩,rfl,I.bare,Un.laid old (Gaq _) yY,⟨_,Qc,λj x v e1 e2 e3=> ?_⟩,λx c e=> ?_,(ah xQ).trans hCn,λx c e=>(ah (cNe x c e)).trans (I.jw x c (yK x c e)),λp hp=> ?_, ?_, ?_⟩
 .obtain⟨c,hc⟩:=Qk (x,.free) (m9 xm hx) rfl;exact⟨c,hc⟩
 .intro z;have:=Ql b hb;have z' :b=C:=z;rw[z',<-hC] at this;exact Gbs _ (Nat.lt_of_succ_lt this)
 .rcases(hf b hb).2.2.2.1 with z|z
  .exact I.ok.HI b o e z
  .exact absurd (GaS (Gax e) (Gbh I.ok.bsz z)) (Gbs _)
 .have yn :b∈frs X.stack:=hs;rcases GaC.mp (I.Ax b yn) with z|z
  .exact(hf b hb).2.1 z
  .exact(hf b hb).2.2.1 z
 ·
  obtain⟨i,f1,f2,f3⟩:=pJ e2;have f3' :=getD_some f3;have xU :N[j]? =some x:=e1;have hd:(N.drop n)[j -n]? =some x:=by rw[Gbm];rw[show n+(j -n)=j by lia];exact xU
  have hxf:scope.names.lookup x=some .free:=by
   have:=GaA.mp S.fr x (GaP hd)
   simpa using this
  rw[S.cap,Gah,f1] at hd;have hi:i<X.N.length:=Gar (GaA.mp S.lt i (GaP f1));have hXN:X.N[i]? =some x:=by
   simp only[GbZ,Gcn] at hd;rw[Gaa hi] at hd⊢
   simpa using hd
  have hk:O1 (X.env.kindOf x)=true:=by
   have:=GaA.mp S.free (x,.free) (mem_of_lookup hxf)
   simpa using this
  have hk' :X.env.kindOf x=some .cell\/X.env.kindOf x=some .free:=by
   cases q:X.env.kindOf x with
   |none=>rw[q] at hk;cases hk
   |some z=>rw[q] at hk;cases z<;>first|(cases hk;done)|exact .inl rfl|exact .inr rfl
  obtain⟨m,hm,look⟩:=I.loc;have hv:Vis X.env.scope x:= .inr hk';obtain⟨u,ru,l⟩:=look i x v hXN f3' hv;refine⟨u,ru,.inr ⟨?_, ?_⟩⟩
  .exact gF hxf
  .rcases l with⟨l,_⟩| ⟨_,c,hc,o,ho,zp⟩
   .rcases hk' with z|z<;>rw[l] at z<;>cases z
   .obtain⟨c',zd⟩:=Qk (x,.free) (mem_of_lookup hxf) rfl;have:=yK x c' zd;rw[hc] at this;cases this
    exact⟨c,zd,o,old _ _ ho,zp⟩
 .obtain⟨v,o,ho,zp⟩:=cells x c e;exact⟨v,o,old _ _ ho,zp⟩
 .cases hp
 .exact I.hok.laid old (Gaq _) ⟨GbB _,[],0,.nil,xS⟩
 .show(kh n ar Z).length=N.length;have:=congrArg List.length S.cap;rw[GbJ,Gac] at this;have:=S.le;simp[kh];lia
theorem IJ{scope:Scope}{cl:List (Str×Addr)}{N:List Str}{C:Addr}{ee xM :List (Addr×Obj)}{Z Z' :St}{H H' :Hp}{s s' :Shared}{fp:List Addr}(I:Inv X ee Z H s)(hf:∀b∈fp,lU X ee H b)
  (I' :Inv (blk X scope cl C N s H fp) xM Z' H' s'):Inv X ee Z H' s' :=
 I.K0 I'.os I'.base I'.hok I'.bare λb hb=> ⟨(hf b hb).2.2.2.1,(hf b hb).2.1,(hf b hb).2.2.2.2.1,(hf b hb).2.2.2.2.2⟩
def O2(K:ak)(H H' :Hp)(F:Addr->Prop)(p:Addr)(rs:List D):Prop:=bR H H' /\H p=none/\∃vs,H' p=some (.lst vs)/\aN K (λb=>F b/\b≠p) H' rs vs
def qu(gd:DG):Prop:=∀d e e',gd d e=some e' ->(∀j:Nat,¬isO e[j]?)->∀j:Nat,¬isO e'[j]?
theorem Co{e:Env}{i:Nat}{d:D}(h:∀j:Nat,¬isO e[j]?):∀j:Nat,¬isO (e.set i (some (.sh d)))[j]? :=λj z=>by
 by_cases q:i=j
 .subst q;by_cases hl:i<e.length
  .rw[GaT hl] at z;exact z
  .rw[Gbt (by simp;lia)] at z;exact z
 .rw[Gad q] at z;exact h j z
theorem g8{i:Nat}:qu (gN i):=λd e e' h n=>by cases h;exact Co n
theorem tH:∀(is:List Nat) (ds:List D) (e e' :Env),gNs is ds e=some e' ->(∀j:Nat,¬isO e[j]?)->∀j:Nat,¬isO e'[j]?
 |[],[],e,e',h,n=>by cases h;exact n
 |i::is,d::ds,e,e',h,n=>tH is ds _ e' h (Co n)
 |[],_::_,_,_,h,_=>by cases h
 |_::_,[],_,_,h,_=>by cases h
theorem qv{is:List Nat}:qu (gT is):=λd e e' h n=>by
 unfold gT at h;split at h
 .exact tH is _ e e' h n
 .cases h
theorem oj{scope:Scope}{cl:List (Str×Addr)}{N:List Str}{n:Nat}{ar:List Nat}{ee:List (Addr×Obj)}{Z:St}{H H0:Hp}{s:Shared}{fp:List Addr}{it:Addr}{tn:Nat->Heap->Prop}{J:It}{tg iter elt:Expr}{ifs:List Expr}{E:Value->Shared->Prop}
  {gd:DG}{t:DT}{f:DE}{ds rs:List D}{eF:Addr->Prop}{env:Env}{RR:Value->Addr->Result->Shared->Prop}(hc:X.calm=true)(S:iW X scope N n ar)(I:Inv X ee Z H s)
  (yK:∀x c,cl.lookup x=some c->X.env.cells.lookup x=some c)(Qk:∀y∈scope.names,y.2= .free->∃c,cl.lookup y.1=some c)(hf:∀b∈fp,lU X ee H b)(T:Turn X.prog X.w X.K tg J fp it tn)(st:tn 0 s.heap)
  (hg:∀C s' H',PGd (blk X scope cl C N s' H' fp) tg gd)(ht:∀C s' H',pI (blk X scope cl C N s' H' fp) ifs (tT X t))(he:∀C s' H',PEd (blk X scope cl C N s' H' fp) elt f)
  (EE:ao X.K H0 eF env Z H)(io:B4 X.K (λb=>Cln eF env Z b/\H b≠none) (λb=>¬Ow env Z b) J ds H)(yC:qu gd)(hz:ds.length<=a6)(hl:br gd t f ds (compEnv n ar env)=some rs)
  (Sx:∀p C s' H' m,Inv X ee Z H' s' ->s'.heap.Ns C m->s.heap.objs.size<=C->lU X ee H' C->O2 X.K H H' (Cln eF env Z) p rs->RR (.ref p) C (.ok .next) s'):
  wpAny (model X.prog X.w) X.A (newList []) (λacc s₃=>wpAny (model X.prog X.w) X.A (newFunctionEnv scope X.env.globals cl [] X.env.qual none .none (some X.env)) (λzN s₄=>
   codeAny (model X.prog X.w) X.A (.compStart (.ListComp elt [⟨tg,iter,ifs,0⟩] scope pos) 0 (.ref it) acc {zN with scope:=relabel scope X.env}) (RR acc zN.locals) s₄) E s₃) E s:=by
 have xm:∀y∈scope.names,y.2≠ .cell:=λy hy z=>by
  have:=GaA.mp S.cell y hy;rw[z] at this;simp at this
 refine GaY (wpAny_newFunctionEnv xm (by intro y hy;simp at hy) (λh₁ hns₁ hsb₁=> ?_) S.kind);dsimp only at hns₁ hsb₁⊢;generalize xY:s.heap.push {cls:= .type "list",dict:=none,data:= .seq ([]:List Value).toArray}=H2 at hns₁ hsb₁⊢;have hC:s.heap.objs.size+1=H2.objs.size:=by rw[<-xY,Gdh]
 have hDC:s.heap.objs.size≠H2.objs.size:=by rw[<-hC];exact GaO (Nat.lt_succ_self _)
 have hCle:s.heap.objs.size<=H2.objs.size:=by rw[<-hC];exact Gdu _
 have old:∀b o,s.heap.get? b=some o->h₁.get? b=some o:=λb o e=>hsb₁.extBut b o (by rw[<-hC];exact GaO (Gdp (Gax e))) (Gai _ (xY▸Gai _ e));have xS:h₁.get? s.heap.objs.size=some {cls:= .type "list",data:= .seq ([]:List Value).toArray}:=hsb₁.extBut _ _ hDC (Gai _ (xY▸GaJ _ rfl));have Ql:∀b∈fp,b<s.heap.objs.size:=λb hb=>by obtain⟨o,e,_⟩:=T.obj 0 _ st b hb;exact Gax e
 have st₁:tn 0 h₁:=T.keep 0 _ _ st λb _ o e=>old b o e;have yY:=I.fresh;generalize hC' :H2.objs.size=C at*;have I1:Inv (blk X scope cl C N s H fp) [] (kh n ar Z) (upd H s.heap.objs.size (.lst [])) {s with heap:=h₁,toks:=s.toks+([]:List (Str×Value)).length}:=Dw S I yK Qk hf Ql hC (by
  have z:(λx:Str=>([]:List (Str×Value)).reverse.lookup x)=λ_=>none:=by funext x;rfl
  rw[z] at hns₁;exact hns₁) old xS
 have E1:=EE.block n ar yY;generalize hp:s.heap.objs.size=p at*;have loop:codeAny (model X.prog X.w) X.A (.compLoop (.ListComp elt [⟨tg,iter,ifs,0⟩] scope pos) 0 (.ref it) (.ref p) (compEnvC scope cl C X.env)) (RR (.ref p) C) {s with heap:=h₁,toks:=s.toks+([]:List (Str×Value)).length}:=by
  refine codeAny_loop rfl (λm s' =>∃i Zi Hi eP vs done rest,CoI X scope cl C N s H fp tn eF env Z p gd t f ds rs m s' i Zi Hi eP vs done rest) ?_ ds.length ?_
  .refineλm s' =>ex7 λi Zi Hi eP vs done rest J0=> ?_
   have e0:=J0.em;subst e0;have hi:=J0.hi;have Ii:=J0.Ii;have sti:=J0.sti;have fri:=J0.fri;have Ei:=J0.Ei;have hpi:=J0.hpi;have ri:=J0.ri;have owi:=J0.owi;have lbi:=J0.lbi;have dl:=J0.dl;have ci:=J0.ci;have eqi:=J0.eqi;have hfi:∀{H' :Hp},(∀b∈fp,H' b=none)->∀b∈fp,lU (blk X scope cl C N s H fp) [] H' b:=λhn b hb=>by
    refine⟨hn b hb,(Ii.ok.exf b hb).1,Ii.ok.HJ b hb,.inl hb,(Ii.ok.exf b hb).2,λq hq=>(by cases hq)⟩
   have xN:∀b o,H b=some o->Hi b=some o:=Ei.same;obtain⟨items,stop⟩:=io Hi λb o hb _=>xN b o hb;show wpAny _ X.A ((compTurn (.ListComp elt [⟨tg,iter,ifs,0⟩] scope pos) 0 (.ref it) (.ref p) (compEnvC scope cl C X.env)).onRaise (λx=>do noteFrame x (compEnvC scope cl C X.env);theTreesLotGoes x)) _ _ s';refine wpAny_noted ?_;rw[compTurn_list];refine Gab (wpAny_standAt (Gab ?_));by_cases hU:i<ds.length
   .obtain⟨go,yld⟩:=items i ds[i] (by simp[hU]);refine thn (T.item (blk X scope cl C N s H fp) rfl rfl rfl hc i [] s' Zi Hi _ Ii (hfi fri) sti go) λr s4 ⟨u,hr,h4⟩=> ?_;subst hr;refine Gab (thn h4 λ_ s5 ⟨x,H5,I5,r5,y5,yN,R8⟩=> ?_);obtain⟨s2,rep⟩:=yld x H5 y5;have I5' :=I5.pinned (hfi R8) (T.obj _ _ yN);have hd:ds.drop i=ds[i]::ds.drop (i+1):=GbF hU;rw[hd] at ci;unfold br at ci;obtain⟨e2,xX,ci⟩:=eD ci;obtain⟨bb,hV,ci⟩:=eD ci;have clnIn:∀b,Cln eF env Z b/\H b≠none->Cln (lG eF env Z p) eP Zi b:=λb ⟨q1,q2⟩=>by
     refine⟨λz=>z.elim (λz=>q2 (by rw[z];exact yY)) λz=>z q1,λj tj ej=> ?_⟩;rcases tm tj with o|o
     .exact owi j o
     .exact lbi j b o ej q1
    refine Gab (thn (GbX (hg C s H _ s5 Zi H5 x u (λZ6 H6=>ao X.K H (lG eF env Z p) e2 Z6 H6/\Stp eP Zi H5 e2 Z6 H6) I5' r5 ⟨H,lG eF env Z p,eP,ds[i],e2,Ei.mono s2,xX,rep.imp clnIn,λZ' H' E' p' => ⟨E',p'⟩⟩) (λ_ _ q=>q) λ_ _ q=>q.elim) λ_ s6 ⟨Z6,H6,I6,E6,p6⟩=> ?_);have QC:=yC _ _ _ xX owi;have s56:bR H5 H6:=λb o e=>p6.keep b o e λ⟨j,z,_⟩=>owi j z;have Rr:∀(j:Nat) a,vU e2[j]? ->Z6[j]? =some (some (.ref a))->¬Cln eF env Z a:=λj a z ej=>by
     obtain⟨q1,q2⟩:=p6.lk j z;rw[q1] at z;rw[q2] at ej
     exact lbi j a z ej
    have again:∀{H7:Hp} {s7:Shared} {zR :List V} {xE xC :List D},Inv (blk X scope cl C N s H fp) ([]++pQ fp s5.heap) Z6 H7 s7->ao X.K H (lG eF env Z p) e2 Z6 H7->H7 p=some (.lst zR)->aN X.K (λb=>Cln eF env Z b/\b≠p) H7 xE zR ->
      xE.length<=i+1->br gd t f (ds.drop (i+1)) e2=some xC ->xE ++xC =rs->
      ∃m,m<ds.length -i/\∃i Zi Hi eP vs done rest,CoI X scope cl C N s H fp tn eF env Z p gd t f ds rs m s7 i Zi Hi eP vs done rest:=by
     intro H7 s7 zR xE xC I7 E7 zY r7 SE c7 q7;refine⟨ds.length -(i+1),by lia,i+1,Z6,H7,e2,zR,xE,xC,⟨rfl,hU,I7.mK,T.keep _ _ _ yN λb hb o e=>(I7.pin (b,o) (Gbe _ (Gbe _ (jx hb e)))).1,λb hb=> ?_,E7,zY,r7,QC,Rr,SE,c7,q7⟩⟩;obtain⟨o,e,d⟩:=T.obj _ _ yN b hb;exact(I7.pin (b,o) (Gbe _ (Gbe _ (jx hb e)))).2.1
    refine Gab (thn (GbX (ht C s H _ s6 Z6 H6 (λb' H7=>b' =bb/\bR H6 H7) I6 ⟨H,lG eF env Z p,e2,bb,E6,hV,λH' s' => ⟨rfl,s'⟩⟩) (λ_ _ q=>q) λ_ _ q=>q.elim) λok s7 ⟨H7,I7,hok,Rp⟩=> ?_);subst hok;have sAll:bR Hi H7:=s2.trans (s56.trans Rp);have E7:=E6.mono Rp;have zY:H7 p=some (.lst vs):=sAll _ _ hpi;have r7:=ri.gen (F' :=λb=>Cln eF env Z b/\b≠p) (.of_same sAll) λ_ q _=>q;cases ok with
    |false=>
     rw[Gag GaH] at ci;exact Gao ⟨rfl,again I7 E7 zY r7 (Nat.le_succ_of_le dl) ci eqi⟩
    |true=>
     rw[Gaf rfl] at ci;obtain⟨r,hr,ci⟩:=eD ci;split at ci
     .rename_i xw;obtain⟨xC,c8,rfl⟩:=Gap.mp ci;refine Gab (Gab (thn (GbX (he C s H _ s7 Z6 H7 (λv H8=>bR H7 H8/\iU X.K H (lG eF env Z p) e2 Z6 H7 H8 r v) I7 ⟨H,lG eF env Z p,e2,r,E7,hr,λv H' s' R=> ⟨s',R⟩⟩) (λ_ _ q=>q) λ_ _ q=>q.elim) λy s8 ⟨v,H8,I8,ry,Qz,R⟩=> ?_));have E8:=E7.mono Qz;have QK:H8 p=some (.lst vs):=Qz _ _ zY;have r8:=(r7.gen (F' :=λb=>Cln eF env Z b/\b≠p) (.of_same Qz) λ_ q _=>q)
      have vr:Rep X.K (λb=>Cln eF env Z b/\b≠p) H8 r.d v:=(R.rep E7 xw).imp λb q=> ⟨Classical.byContradiction λz=>q.1 (.inr z),λz=>q.1 (.inl z)⟩;have eO:vs.length<sizeLine:=by
       rw[<-eR,<-ri.1];lia
      refine Gab (thn (GbX (nT (X:=blk X scope cl C N s H fp) _ s8 Z6 H8 (.ref p) [v] (.ref p) [y] (λ_ H9=>H9=upd H8 p (.lst (vs++[v]))) I8 rfl (.cons ry .nil) ⟨p,vs,v,rfl,rfl,QK,eO,rfl⟩) (λ_ _ q=>q) λ_ _ q=>q.elim) λ_ s9 ⟨_,H9,I9,_,h9⟩=> ?_);subst h9;have lbp:∀j:Nat,vU e2[j]? ->Z6[j]? ≠some (some (.ref p)):=λj z ej=>Rr j p z ej (EE.uy yY);have dN:gE (λb=>Cln eF env Z b/\b≠p) H8 (upd H8 p (.lst (vs++[v]))):=λb o e q=>by
       refine(ah ?_).trans e;rintro rfl;rcases q with q|q
       .exact q.2 rfl
       .rw[QK] at e;cases e;exact q
      refine Gao (Gao ⟨rfl,again I9 (E8.grow (.inl rfl) yY QK lbp) az ((r8.append (aN.cons vr .nil)).gen dN λ_ q _=>q) (by simp;lia) c8 ?_⟩);rw[<-eqi,Gas];rfl
     .cases ci
   .have hi' :i=ds.length:=by lia
    subst hi';rw[GbL] at ci;cases ci;rw[GaW] at eqi;subst eqi;refine thn (T.done (blk X scope cl C N s H fp) rfl rfl rfl hc ds.length [] s' Zi Hi _ Ii (hfi fri) sti stop) λr s4 ⟨hr,I4⟩=> ?_;subst hr;obtain⟨m,hm,_⟩:=I4.loc;have IX:=IJ I hf I4;exact Gao (Sx p C s4 Hi m IX hm hCle ⟨I4.free,(I.D5 (by rw[hp];exact hCle) (I.hok.fresh (by rw[hp];exact hCle))).2⟩ ⟨xN,yY,vs,hpi,ri⟩)
  .exact⟨0,_,_,_,[],[],rs,⟨by simp,GbB _,I1,st₁,λb hb=>(ah (by rintro rfl;exact Gbs _ (Ql _ hb))).trans (hf b hb).1,E1,az,aN.nil,λj=>II,λj a z e=>by
    obtain⟨i,t1,t2⟩:=Cn z.top e
    exactλq=>q.2 i t1 t2,Gaq _,by simpa using hl,rfl⟩⟩
 exact codeAny_compStart_list loop (T.self X.A 0 _ _ _ st₁ loop)
end
open PySem PySem.Spec PyProof.Rows L2
section
variable{X:Cx}{pos:Pos}
theorem n6{n:Nat}{ar:List Nat}{l:Option Nat}{env:Env}:compEnv n ar (bf l env)=compEnv n ar env:=by
 cases l with
 |none=>rfl
 |some j=>
  unfold bf;dsimp only;split
  .rename_i d q;unfold compEnv;congr 1;apply GaM;intro i _;by_cases z:j=i
   .subst z;rw[GaT (Gaj.mp q).1,q];rfl
   .rw[Gad z]
  .rfl
theorem iW.cells{scope:Scope}{N:List Str}{n:Nat}{ar:List Nat}{ee:List (Addr×Obj)}{Z:St}{H:Hp}{s:Shared}(S:iW X scope N n ar)(I:Inv X ee Z H s):∀y∈scope.names,y.2= .free->∃c,X.env.cells.lookup y.1=some c:=λy hy hf=>by
 have hk:=GaA.mp S.free y hy;rw[hf] at hk;simp only[bne_self_eq_false,Bool.false_or] at hk;refine I.ok.has y.1 ?_;cases q:X.env.kindOf y.1 with
 |none=>rw[q] at hk;cases hk
 |some z=>rw[q] at hk;cases z<;>first|(cases hk;done)|exact .inl rfl|exact .inr rfl
theorem iW.B7{scope:Scope}{N:List Str}{n:Nat}{ar:List Nat}(S:iW X scope N n ar):∀y∈scope.names,y.2= .local->scope.names.lookup y.1=some .local:=λy hy hl=>by
 have:=GaA.mp S.names y hy;rw[hl] at this
 simpa using this
structure Blk(X:Cx)(scope:Scope)(N:List Str)(tg elt:Expr)(ifs:List Expr)(gd:DG)(t:DT)(f:DE):Prop where
 g:∀cl C s H ex,PGd (blk X scope cl C N s H ex) tg gd
 t:∀cl C s H ex,pI (blk X scope cl C N s H ex) ifs (tT X t)
 e:∀cl C s H ex,PEd (blk X scope cl C N s H ex) elt f
theorem _root_.L2.Inv.FN{ee:List (Addr×Obj)}{Z:St}{H:Hp}{s:Shared}{C:Addr}{h' :Heap}(I:Inv X ee Z H s)(F:lU X ee H C)(hs:Heap.SameBut C s.heap h'):Inv X ee Z H {s with heap:=h' }:=
 I.turned (t' :=s.toks) (λb o hb e=>(hs.2 b hb).trans e) F.1 F.2.1 F.2.2.2.1 F.2.2.2.2.1 F.2.2.2.2.2
theorem kU{tg iter elt:Expr}{ifs:List Expr}{scope:Scope}{N:List Str}{n:Nat}{ar:List Nat}{l:Option Nat}{src:DI}{gd:DG}{t:DT}{f:DE}(hc:X.calm=true)(S:iW X scope N n ar)(hi:PId X tg iter src)(yC:qu gd)(B:Blk X scope N tg elt ifs gd t f)
  (hs:∀x,foldedSetIterable iter X.env x=pure x:=by intro _;rfl):PEd X (.ListComp elt [⟨tg,iter,ifs,0⟩] scope pos) (jS l n ar src gd t f):=by
 intro ee s Z H Q I hw;obtain⟨H0,eF,env,r,E,e,k⟩:=hw;unfold jS at e;obtain⟨ds,xk,e⟩:=eD e;split at e
 .rename_i hz;obtain⟨rs,xV,rfl⟩:=Gap.mp e;obtain⟨EL,lo,xa⟩:=E.lock l;obtain⟨cl,h1,h2,h3⟩:=iV (S.cells I);rw[eval_ListComp];refine Gdf (use:=none) rfl hs h1 S.kind S.B7 ?_;refine thn (hi ee s Z H (λJ H' =>bR H H' /\B4 X.K (λb=>Cln eF (bf l env) Z b/\H' b≠none) (λb=>¬Ow (bf l env) Z b) J ds H') I ⟨H0,eF,bf l env,ds,EL,xk,λJ H' s' io=> ⟨s',io⟩⟩) λv s1 q1=>thn q1 λzA s2 q2=> ?_;obtain⟨it,fp,tn,J,H2,e,I2,T,yO,f2,sH,io⟩:=q2;subst e;refine oj (RR:=λacc C=>compPost (model X.prog X.w) X.A X.xe none (EP X ee Z Q) acc C) hc S I2 h2 h3 f2 T yO (λC s' H' =>B.g cl C s' H' fp) (λC s' H' =>B.t cl C s' H' fp) (λC s' H' =>B.e cl C s' H' fp) (EL.mono sH) io yC hz (by rw[n6];exact xV) ?_;intro p C s' H' m IX hm hC hF G;refine⟨m,hm,λh' yn => ⟨.ref p,H',IX.FN hF yn,rfl, ?_⟩⟩;obtain⟨g1,g2,vs,g3,g4⟩:=G;exact k _ H' (sH.trans g1) ⟨p,rfl,sH.free g2,⟨_,g3,trivial⟩,rfl,.lst (.inl g3) (g4.gen (.of_same bF) λb q _=> ⟨⟨q.1.1,λi ti ei=>q.1.2 i ((xa i).mpr ti) ei⟩,q.2⟩)⟩
 .cases e
theorem Cp{i:Nat}{x:Str}{pos' yS:Pos}{tg iter elt:Expr}{ifs:List Expr}{scope:Scope}{N:List Str}{n:Nat}{ar:List Nat}{l:Option Nat}{src:DI}{gd:DG}{t:DT}{f:DE}(hN:X.N.Nodup)(hi' :X.N[i]? =some x)(hx:Loc X.env.scope x)(hc:X.calm=true)(S:iW X scope N n ar)
  (hi:PId X tg iter src)(yC:qu gd)(B:Blk X scope N tg elt ifs gd t f)
  (Se:swapsWith (.ListComp elt [⟨tg,iter,ifs,0⟩] scope yS) (some (.Name x pos')) pos.line X.env=pure true:=by rfl)(hs:∀x,foldedSetIterable iter X.env x=pure x:=by intro _;rfl)
  (hf:X.fn x=true\/X.env.scope.names.lookup x=some .local:=by first|exact .inl rfl|exact .inr rfl|assumption):PSd X (.Assign [.Name x pos'] (.ListComp elt [⟨tg,iter,ifs,0⟩] scope yS) pos) (av i (jS l n ar src gd t f)):=by
 intro ee s Z H D I hw;have hl:=I.len;obtain⟨H0,eF,env,o,E,e,k⟩:=hw;obtain⟨r,hr,e⟩:=eD e;obtain⟨e',yh,rfl⟩:=Gap.mp e;have hie:i<env.length:=B2 E hl hi';unfold jS at hr;obtain⟨ds,xk,hr⟩:=eD hr;split at hr
 .rename_i hz;obtain⟨rs,xV,rfl⟩:=Gap.mp hr;cases yh;obtain⟨EL,lo,xa⟩:=E.lock l;obtain⟨cl,h1,h2,h3⟩:=iV (S.cells I);rw[exec_Assign_Name_used _ _ _ _ Se];refine Gab (wpAny_standAt (Gab ?_));show wpAny _ X.A (do let _<-comprehension (.ListComp elt [⟨tg,iter,ifs,0⟩] scope yS) scope X.env _ (newList []) false (eval iter X.env) (some (assign (.Name x pos') X.env))) _ _ s;refine Gab (GbX (Gdf (use:=some (assign (.Name x pos') X.env)) (Q:=λ_ s' =>SP X ee D .next s') rfl hs h1 S.kind S.B7 ?_) (λ_ s' hq=>Gao (Gao hq)) λ_ _ e=>e);refine thn (hi ee s Z H (λJ H' =>bR H H' /\B4 X.K (λb=>Cln eF (bf l env) Z b/\H' b≠none) (λb=>¬Ow (bf l env) Z b) J ds H') I ⟨H0,eF,bf l env,ds,EL,xk,λJ H' s' io=> ⟨s',io⟩⟩) λv s1 q1=>thn q1 λzA s2 q2=> ?_;obtain⟨it,fp,tn,J,H2,e,I2,T,yO,f2,sH,io⟩:=q2;subst e;refine oj (RR:=λacc C=>compPost (model X.prog X.w) X.A X.xe (some (assign (.Name x pos') X.env)) (λ_ s' =>SP X ee D .next s') acc C) hc S I2 h2 h3 f2 T yO (λC s' H' =>B.g cl C s' H' fp) (λC s' H' =>B.t cl C s' H' fp) (λC s' H' =>B.e cl C s' H' fp) (EL.mono sH) io yC hz (by rw[n6];exact xV) ?_;intro p C s' H' m IX hm hC hF G;obtain⟨g1,g2,vs,g3,g4⟩:=G;show wpAny _ X.A (assign (.Name x pos') X.env (.ref p)) _ _ _;refine wpAny_assign_Name (sR IX hN hi' hx (v:= .ref p) rfl (λzU I'' ⟨a,Sf,ha⟩=> ?_) hf);have hCa:C≠a:=by
   rcases ha with ha|ha
   .rw[ha];exact hF.2.1
   .exactλz=>hF.2.2.2.2.1 x a ha z.symm
  refine⟨m,hm.sameBut Sf hCa,λh' yn => ⟨_,H',I''.FN hF yn, ?_⟩⟩;exact k _ H' (E.qp (sH.trans g1) hie (sH.free g2) ⟨_,g3,trivial⟩ rfl (.lst (.inl g3) (g4.gen (.of_same bF) λb q _=> ⟨⟨q.1.1,λi ti ei=>q.1.2 i ((xa i).mpr ti) ei⟩,q.2⟩))) (.qp (sH.trans g1) hie E.len (sH.free g2))
 .cases hr
end
open PySem PySem.Spec PyProof.Rows L2
section
variable{X:Cx}{scope:Scope}{cl:List (Str×Addr)}{C:Addr}{N:List Str}{s:Shared}{H:Hp}{ex:List Addr}{x:Str}
theorem dm(h:N.Nodup):(blk X scope cl C N s H ex).N.Nodup:=h
theorem dw(h:scope.names.lookup x=some .local):(blk X scope cl C N s H ex).fn x=true\/(blk X scope cl C N s H ex).env.scope.names.lookup x=some .local:= .inr (gW h)
end
open PySem PySem.Spec PyProof.Rows L2
section
variable{X:Cx}{e a b c:Expr}{f g h:DE}{pos:Pos}
def tO(X:Cx)(o:DO):TO:=λZ H Q=>∃H0 eF env i,ao X.K H0 eF env Z H/\o env=some i/\∀H',bR H H' ->Q i H'
theorem _root_.L2.PO.aG{e:Option Expr}{t t' :TO}(h:PO X e t')(i:∀Z H Q,t Z H Q->t' Z H Q):PO X e t:=λee s Z H Q I q=>h ee s Z H Q I (i Z H Q q)
theorem tJ:PO X none (tO X noO):=Ig.aG λZ H Q ⟨_,_,_,_,_,e,k⟩=>by cases e;exact k H bF
theorem tK(he:PEd X e f):PO X (some e) (tO X (d9 f)):=by
 refine(Ih he).aG ?_;rintro Z H Q ⟨H0,eF,env,o,E,ho,k⟩;obtain⟨r,hr,ho⟩:=eD ho;split at ho
 .rename_i i hd;cases ho;refine⟨H0,eF,env,r,E,hr,λv H1 s1 R=> ?_⟩;have q:=R.inn;rw[hd] at q;cases q;exact⟨i,rfl,k H1 s1⟩
 .cases ho
theorem om(n d:Nat)(o:Option Int):HT.sIx n d o=sIx n d o:=by
 cases o<;>rfl
theorem jf{K:ak}{F:Addr->Prop}{H:Hp}{ds:List D}{vs:List V}{lo hi:Option Int}(r:aN K F H ds vs):aN K F H (cutD ds lo hi) (uo vs lo hi):=by
 unfold cutD uo;rw[om,om,<-r.1];exact(r.drop _).take _
theorem qx{K:ak}{F:Addr->Prop}{H:Hp}:∀{ns:List Int},aN K F H (ns.map .int) (ns.map V.int)
 |[]=> .nil
 |n::ns=> .cons (.int n) qx
theorem wa{lo hi:Option Expr}{l u:DO}{p2:Pos}(he:PEd X e f)(hl:PO X lo (tO X l))(hu:PO X hi (tO X u)):PEd X (.Subscript e (.Slice lo hi none p2) pos) (slE f l u):=by
 refine(vF (BY.or AH) he hl hu).aG ?_;rintro Z H Q ⟨H0,eF,env,rv,E,hf,k⟩;obtain⟨r,hr,hf⟩:=eD hf;obtain⟨lv,zb,hf⟩:=eD hf;obtain⟨uv,zl,hf⟩:=eD hf;refine⟨H0,eF,env,r,E,hr,λv H1 s1 R=> ⟨H0,eF,env,lv,E.mono s1,zb,λH2 s2=> ⟨H0,eF,env,uv,(E.mono s1).mono s2,zl,λH3 s3=> ?_⟩⟩⟩;have i3:=(R.inn.same s2).same s3;have s13:=s1.trans (s2.trans s3);unfold slD at hf;split at hf
 .rename_i xs hd;cases hf;rw[hd] at i3;cases i3 with
  |lst hh rr=>exact .inl ⟨_,_,rfl,.inl hh,λp n=>k _ _ (s13.trans (aW n)) ⟨p,rfl,s13.free n,kf,rfl,dh n (jf rr)⟩⟩
 .rename_i xs hd;split at hf
  .cases hf
  .rename_i hw;cases hf;rw[hd] at i3;cases i3 with
   |tup hh rr=>exact .inr ⟨_,_,rfl,SqT.of hh,by rw[om,om,<-rr.1];exact hw,λp n=>k _ _ (s13.trans (aW n)) (cK n (jf rr))⟩
 .rename_i ns hd;cases hf;rw[hd] at i3;cases i3 with
  |scr hh=>exact .inl ⟨_,_,rfl,hh.sq,λp n=>k _ _ (s13.trans (aW n)) ⟨p,rfl,s13.free n,kf,rfl,dh n (jf qx)⟩⟩
 .cases hf
theorem wc{ee:List (Addr×Obj)}{Z:St}{H:Hp}{s:Shared}{p:Addr}{ys:List V}{Q:Value->Shared->Prop}{E:Value->Shared->Prop}(hc:X.calm=true)(I:Inv X ee Z H s)(h:SqL X.K H p ys\/SqT X.K H p ys)
  (k:∀(It:Addr) fp wr P St (s₂:Shared),Walks X.prog X.w X.A.in1 It fp wr ys.length P St->St 0 s₂.heap->(∀b∈fp,b<s₂.heap.objs.size)->(∀(i:Nat) v,P i v->∃y,ys[i]? =some y/\RelV y v)->
   (∀h' tk,(∀b o,b∉wr->s₂.heap.get? b=some o->h'.get? b=some o)->Inv X ee Z H {s₂ with heap:=h',toks:=tk})->Q (.ref It) s₂):wpAny (model X.prog X.w) X.A.in1 (pyIter (.ref p)) Q E s:=by
 have hh:X.A.in1.handled=none:=I.ok.hd hc;have kept:∀{oi:Obj} {h' :Heap} {tk:Nat},(∀b o,b∉[s.heap.objs.size]->(s.heap.push oi).get? b=some o->h'.get? b=some o)->Inv X ee Z H {s with heap:=h',toks:=tk}:=λ{oi h' tk} hk=>
  I.kept λb o e=>hk b o (by simp only[Gbw];exact GaO (Gax e)) (Gai _ e)
 have get:∀{eI:List Value},Vals ys eI->∀(i:Nat) v,eI.toArray[i]? =some v->∃y,ys[i]? =some y/\RelV y v:=λ{eI} r i v e=>by
  have e' :eI[i]? =some v:=by simpa using e
  obtain⟨hi,_⟩:=Gaj.mp e';have hi' :i<ys.length:=by rw[r.length];exact hi
  obtain⟨u,hu,ru⟩:=r.get (x:=ys[i]) (i:=i) (by simp[hi']);rw[e'] at hu;cases hu
  exact⟨ys[i],by simp[hi'],ru⟩
 have lts:∀{oi:Obj},p<s.heap.objs.size->∀b∈[s.heap.objs.size,p],b<(s.heap.push oi).objs.size:=λ{oi} hp b hb=>by
  rw[Gdh];rcases GaC.mp hb with rfl|hb
  .exact Nat.lt_succ_self _
  .rcases GaC.mp hb with rfl|hb
   .exact Gdp hp
   .cases hb
 rcases h with hq|hq
 .obtain⟨eI,rv,pl,hz⟩:=I.list hq;have hU:p<s.heap.objs.size:=by obtain⟨_,e,_⟩:=pl.isList;exact Gax e
  have W:=Walks.list (prog:=X.prog) (w:=X.w) hh s.heap.objs.size p (GaO hU) eI.toArray;have hsz:eI.toArray.size=ys.length:=by rw[Gam,rv.length]
  rw[hsz] at W;exact wpAny_pyIter_list pl.isList (k _ _ _ _ _ _ W ⟨⟨_,GaJ _ rfl,rfl,rfl⟩,pl.isList.push _⟩ (lts hU) (get rv) λh' tk hk=>kept hk)
 .obtain⟨eI,rv,pl,hz⟩:=I.tuple hq;have pl' :s.heap.IsTuple p eI.toArray:=pl;have hU:p<s.heap.objs.size:=by obtain⟨_,e,_⟩:=pl';exact Gax e
  have W:=Walks.tuple (prog:=X.prog) (w:=X.w) hh s.heap.objs.size p (GaO hU) eI.toArray;have hsz:eI.toArray.size=ys.length:=by rw[Gam,rv.length]
  rw[hsz] at W;exact Gde pl' (k _ _ _ _ _ _ W ⟨⟨_,GaJ _ rfl,rfl,rfl⟩,pl'.at λo e=>Gai _ e⟩ (lts hU) (get rv) λh' tk hk=>kept hk)
theorem range_any(bs:List Bool):(List.range bs.length).any (λi=>bs[i]?.getD false)=bs.any id:=by
 rw[Bool.eq_iff_iff];simp only[GcS,GaZ,id];constructor
 .rintro⟨i,hi,h⟩;rw[Gaa hi] at h;exact⟨bs[i],Gat hi,h⟩
 .rintro⟨b,hb,h⟩;obtain⟨i,hi,rfl⟩:=GdP hb;exact⟨i,hi,by rw[Gaa hi];exact h⟩
theorem we{A:Around}{P:Nat->Value->Prop}{bs:List Bool}(hP:∀(i:Nat) v,P i v->∃y,(bs.map V.bl)[i]? =some y/\RelV y v):TruthOf X.prog X.w A P (λi=>bs[i]?.getD false):=by
 intro i v s Q E p q;obtain⟨y,hy,r⟩:=hP i v p;rw[Gah] at hy;cases hb:bs[i]? with
 |none=>rw[hb] at hy;cases hy
 |some b=>
  rw[hb] at hy;cases hy
  cases r;refine Gca ?_;have q' :Q (bs[i]?.getD false) s:=q;rw[hb] at q';exact q'
theorem Dx(hc:X.calm=true):fY X (.builtin "any") (λxs H Q=>∃(p:Addr) (bs:List Bool),xs=[.ref p]/\(SqL X.K H p (bs.map V.bl)\/SqT X.K H p (bs.map V.bl))/\Q (.bl (bs.any id)) H):=by
 intro ee s Z H xs us Q I rv h;obtain⟨p,bs,rfl,hq,q⟩:=h;obtain⟨u,rfl,ru⟩:=rv.one;cases ru;refine call_any_walk (wc hc I hq λIt fp wr P St s₂ W st lt hP kept=> ⟨It,fp,wr,_,P,St,_,rfl,W,st,we hP,λh' tk hk=> ?_⟩);rw[Gac,range_any];exact⟨.bl (bs.any id),H,kept h' tk hk,rfl,q⟩
noncomputable def uH(ns:List Int)(i:Nat):Int:=ns[i]?.getD 0
theorem wg{P:Nat->Value->Prop}{ns:List Int}(hP:∀(i:Nat) v,P i v->∃y,(ns.map V.int)[i]? =some y/\RelV y v):∀i v,P i v->∃t,v= .int (uH ns i) t:=by
 intro i v p;obtain⟨y,hy,r⟩:=hP i v p;rw[Gah] at hy;cases hb:ns[i]? with
 |none=>rw[hb] at hy;cases hy
 |some n=>
  rw[hb] at hy;cases hy
  obtain⟨t,rfl⟩:=r;exact⟨t,by unfold uH;rw[hb];rfl⟩
theorem Dy{f:Int->Int->Int}{i:Int}{ns:List Int}{k:Nat}(hk:k<ns.length):(ns.take (k+1)).foldl f i=f ((ns.take k).foldl f i) (ns[k]):=by
 rw[GbT hk,GdS];rfl
theorem FP{n:Int}{ns:List Int}:∀k,k<=ns.length->uH (n::ns) (argBest (λi j=>decide (uH (n::ns) i>uH (n::ns) j)) k)=(ns.take k).foldl (λa b=>if b>a then b else a) n
 |0,_=>by simp[argBest,uH]
 |k+1,hk=>by
  have ih:= @FP n ns k (by lia);rw[Dy (by lia),argBest];have e:uH (n::ns) (k+1)=ns[k]:=by simp[uH,show k<ns.length by lia]
  rw[ih,e];simp only[decide_eq_true_eq];split
  .exact e
  .exact ih
theorem wj{K:ak}{F:Addr->Prop}{H:Hp}:∀{ds:List D} {vs:List V} {bs:List Bool},aN K F H ds vs->uu ds=some bs->vs=bs.map V.bl
 |[],vs,bs,r,e=>by cases e;exact r.cg
 |d::ds,vs,bs,r,e=>by
  obtain⟨v,w,rfl,h1,h2⟩:=r.cons_inv;cases d<;>try (cases e;done)
  obtain⟨xf,e',rfl⟩:=Gap.mp e;cases h1;rw[wj h2 e'];rfl
theorem Cq{K:ak}{F:Addr->Prop}{H:Hp}:∀{ds:List D} {vs:List V} {bs:List Int},aN K F H ds vs->C4 ds=some bs->vs=bs.map V.int
 |[],vs,bs,r,e=>by cases e;exact r.cg
 |d::ds,vs,bs,r,e=>by
  obtain⟨v,w,rfl,h1,h2⟩:=r.cons_inv;cases d<;>try (cases e;done)
  obtain⟨xf,e',rfl⟩:=Gap.mp e;cases h1;rw[Cq h2 e'];rfl
theorem B8{K:ak}{F:Addr->Prop}{H:Hp}{d:D}{v:V}{ds:List D}(i:Inn K F H d v)(e:ka d=some ds):∃p vs,v= .ref p/\(SqL K H p vs\/SqT K H p vs)/\aN K F H ds vs:=by
 unfold ka at e;split at e
 .cases e;cases i with
  |lst h r=>exact⟨_,_,rfl,.inl (.inl h),r⟩
 .cases e;cases i with
  |tup h r=>exact⟨_,_,rfl,.inr (SqT.of h),r⟩
 .rename_i ns;cases e;cases i with
  |scr h=>
   refine⟨_,_,rfl,.inl h.sq,by simp,λi d v e1 e2=> ?_⟩;rw[Gah] at e1 e2;cases q:ns[i]? with
   |none=>rw[q] at e1;cases e1
   |some n=>rw[q] at e1 e2;cases e1;cases e2;exact .int n
 .cases e
theorem B9{o:List D->Option RV}{ds:List D}{rv:RV}(h:one o ds=some rv):∃d xs,ds=[d]/\ka d=some xs/\o xs=some rv:=by
 unfold one at h;split at h
 .obtain⟨xs,h1,h2⟩:=eD h;exact⟨_,xs,rfl,h1,h2⟩
 .cases h
theorem Dz:CallD X anyS (λxs H Q=>∃(p:Addr) (bs:List Bool),xs=[.ref p]/\(SqL X.K H p (bs.map V.bl)\/SqT X.K H p (bs.map V.bl))/\Q (.bl (bs.any id)) H):=by
 intro F H ds vs rv Q ps e k;obtain⟨d,xs,rfl,h1,h2⟩:=B9 e;obtain⟨bs,hb,rfl⟩:=Gap.mp h2;obtain⟨v,rfl,i⟩:=fW ps;obtain⟨p,vs,rfl,hs,r⟩:=B8 i h1;rw[wj r hb] at hs;exact⟨p,bs,rfl,hs,k _ H bF (.bl _)⟩
end
open PySem PySem.Spec PyProof.Rows L2
section
variable{X:Cx}{e a b c:Expr}{f g h:DE}{pos:Pos}
theorem aP.cons{Y:Type}{K:ak}{F:Addr->Prop}{H:Hp}{eE:List (Y×D)}{ws:List (Y×V)}{k:Y}{d:D}{v:V}(h:Rep K F H d v)(r:aP K F H eE ws):aP K F H ((k,d)::eE) ((k,v)::ws):=by
 refine⟨by simp[r.1],λi x u e1 e2=> ?_⟩;cases i with
 |zero=>simp at e1 e2;subst e1;subst e2;exact h
 |succ i=>exact r.2 i x u (by simpa using e1) (by simpa using e2)
theorem aP.cons_inv{Y:Type}{K:ak}{F:Addr->Prop}{H:Hp}{eE:List (Y×D)}{ws:List (Y×V)}{k:Y}{d:D}(h:aP K F H ((k,d)::eE) ws):∃v r,ws=(k,v)::r/\Rep K F H d v/\aP K F H eE r:=by
 cases ws with
 |nil=>exact absurd h.1 (by simp)
 |cons q r=>
  obtain⟨k',v⟩:=q;have h1:k=k' /\eE.map (·.1)=r.map (·.1):=by have:=h.1;simpa using this
  obtain⟨rfl,h2⟩:=h1;exact⟨v,r,rfl,h.2 0 (k,d) (k,v) rfl rfl,h2,λi x y e1 e2=>h.2 (i+1) x y (by simpa using e1) (by simpa using e2)⟩
theorem aP.nil{Y:Type}{K:ak}{F:Addr->Prop}{H:Hp}:aP K F H ([]:List (Y×D)) []:=⟨rfl,λi p q e=>by simp at e⟩
theorem aP.cg{Y:Type}{K:ak}{F:Addr->Prop}{H:Hp}{ws:List (Y×V)}(h:aP K F H [] ws):ws=[]:=by
 cases ws with
 |nil=>rfl
 |cons q r=>exact absurd h.1 (by simp)
theorem aP.len{Y:Type}{K:ak}{F:Addr->Prop}{H:Hp}{eE:List (Y×D)}{ws:List (Y×V)}(h:aP K F H eE ws):eE.length=ws.length:=by
 have:=congrArg List.length h.1
 simpa using this
theorem aP.over{Y:Type} [DecidableEq Y]{K:ak}{F:Addr->Prop}{H:Hp}{k:Y}{d:D}{v:V}(hv:Rep K F H d v):∀{eE:List (Y×D)} {ws:List (Y×V)},aP K F H eE ws->
  aP K F H (eE.map λkv=>if kv.1=k then(kv.1,d) else kv) (ws.map λkv=>if kv.1=k then(kv.1,v) else kv)
 |[],ws,r=>by rw[r.cg];exact .nil
 |(k',d')::eE,ws,r=>by
  obtain⟨v',w,rfl,h1,h2⟩:=r.cons_inv;rw[GaB,GaB];dsimp only;split
  .exact .cons hv (aP.over hv h2)
  .exact .cons h1 (aP.over hv h2)
theorem aP.snoc{Y:Type}{K:ak}{F:Addr->Prop}{H:Hp}{k:Y}{d:D}{v:V}(hv:Rep K F H d v):∀{eE:List (Y×D)} {ws:List (Y×V)},aP K F H eE ws->aP K F H (eE++[(k,d)]) (ws++[(k,v)])
 |[],ws,r=>by rw[r.cg];exact .cons hv .nil
 |(k',d')::eE,ws,r=>by
  obtain⟨v',w,rfl,h1,h2⟩:=r.cons_inv;exact .cons h1 (aP.snoc hv h2)
theorem aP.any{Y:Type} [DecidableEq Y]{K:ak}{F:Addr->Prop}{H:Hp}{k:Y}:∀{eE:List (Y×D)} {ws:List (Y×V)},aP K F H eE ws->(eE.any λkv=>decide (kv.1=k))=(ws.any λkv=>decide (kv.1=k))
 |[],ws,r=>by rw[r.cg];rfl
 |(k',d')::eE,ws,r=>by
  obtain⟨v',w,rfl,h1,h2⟩:=r.cons_inv;rw[GcU,GcU,aP.any h2]
theorem aP.put{Y:Type} [DecidableEq Y]{K:ak}{F:Addr->Prop}{H:Hp}{eE:List (Y×D)}{ws:List (Y×V)}{k:Y}{d:D}{v:V}(r:aP K F H eE ws)(hv:Rep K F H d v):aP K F H (put eE k d) (putK ws k v):=by
 unfold DL.put putK;rw[r.any];split
 .exact r.over hv
 .exact r.snoc hv
theorem Lj{K:ak}{F:Addr->Prop}{H:Hp}{eE:List (Key×D)}{a:Addr}(i:Inn K F H (.dK eE) (.ref a)):∃ws,H a=some (.dK ws)/\aP K F H eE ws:=by
 cases i with
 |dK h r=>exact⟨_,h,r⟩
theorem Lk{K:ak}{F:Addr->Prop}{H:Hp}{eE:List (List Key×D)}{a:Addr}(i:Inn K F H (.dT eE) (.ref a)):∃ws,H a=some (.dT ws)/\aP K F H eE ws:=by
 cases i with
 |dT h r=>exact⟨_,h,r⟩
def Ka:V->V->V->Hp->(Hp->Prop)->Prop:=λo i v H Q=>K4 o i v H Q\/∃a H4,o= .ref a/\vH H a i v H4/\Q H4
theorem IK(hu:X.A.units+1<cLine):MP X Ka:=by
 intro ee s Z H o i v ov iv u Q I ro ri rv h;rcases h with h| ⟨a,H4,rfl,g,q⟩
 .exact set_list ee s Z H o i v ov iv u Q I ro ri rv h
 .cases ro;exact Dk hu I g ri rv λs4 I4=> ⟨H4,I4,q⟩
def Q2(td ty tv:TE):TS:=λD Z H=>tv Z H λv H1=>td Z H1 λx H2=>ty Z H2 λy H3=>Ka x y v H3 λH4=>D.nx Z H4
theorem Ll{o i value:Expr}{td ty tv:TE}{pos' :Pos}(hu:X.A.units+1<cLine)(ho:PE X o td)(hi:PE X i ty)(hv:PE X value tv)(hs:swapsWith value (some (.Subscript o i pos')) pos.line X.env=pure false):PS X (.Assign [.Subscript o i pos'] value pos) (Q2 td ty tv):=by
 intro ee s Z H D I h;refine wpAny_Assign_Subscript (thn (hv ee s Z H _ I h) λr s1 ⟨v,H1,I1,rv,q1⟩=>thn (ho ee s1 Z H1 _ I1 q1) λu s2 ⟨x,H2,I2,rx,q2⟩=>thn (hi ee s2 Z H2 _ I2 q2) λiv s3 ⟨y,H3,I3,ry,q3⟩=> ?_) hs;exact thn (IK hu ee s3 Z H3 x y v u iv r _ I3 rx ry rv q3) λ_ s4 ⟨H4,I4,q4⟩=> ⟨Z,H4,I4,q4⟩
theorem n8{eF:Addr->Prop}{env:Env}{Z:St}{H:Hp}{i:Nat}{a:Addr}{d:D}{o o' :HO}(q:env[i]? =some (some (.own d)))(h1:Z[i]? =some (some (.ref a)))(hH:H a=some o')(hw:isW o'):gE (Cln eF env Z) H (upd H a o):=λb x hb w=>by
 have:b≠a:=by
  rintro rfl;rcases w with w|w
  .exact w.2 i (by rw[q];trivial) h1
  .rw[hH] at hb;cases hb
   cases o' <;>simp[isT] at w<;>exact hw
 rw[ah this];exact hb
theorem Ba{i:Nat}{x:Str}{px pos' :Pos}{k value:Expr}{fk fv:DE}(hu:X.A.units+1<cLine)(hN:X.N[i]? =some x)(hv:Vis X.env.scope x)(hk:PEd X k fk)(he:PEd X value fv)(hd:(x==("__debug__":Str))=false:=by decide)(xn:(x==("__classdict__":Str))=false:=by decide)
  (hs:swapsWith value (some (.Subscript (.Name x px) k pos')) pos.line X.env=pure false:=by rfl):PSd X (.Assign [.Subscript (.Name x px) k pos'] value pos) (sr i fk fv):=by
 refine(Ll hu (jY hN hv hd xn) hk he hs).aG ?_;rintro D Z H ⟨H0,eF,env,o,E,e,kk⟩;obtain⟨r,hr,e⟩:=eD e;obtain⟨y,hy,e⟩:=eD e;obtain⟨d,hd,e⟩:=eD e;have q:=n4 hd;split at e
 .rename_i xw;obtain⟨d',hp,rfl⟩:=Gap.mp e;refine⟨H0,eF,env,r,E,hr,λv H1 s1 R=> ?_⟩;have E1:=E.mono s1;obtain⟨a,h1,h2,h3,h4,h5,h6⟩:=E1.ow i _ (.inl q);refine⟨_,h1,H0,eF,env,y,E1,hy,λvy H3 s3 Ry=> ?_⟩;have E3:=E1.mono s3;have rep:=(R.rep E xw).same s3;have i6:=h6.same s3;have iy:=Ry.inn;have fin:∀(o' :HO) (QB :HO),H3 a=some QB ->isW QB ->isW o' ->d'.top=true->Inn X.K (Cln eF env Z) (upd H3 a o') d' (.ref a)->D.nx Z (upd H3 a o'):=λo' QB hH hw QG ht inn=>by
   obtain⟨E4,p4⟩:=E3.change (d' :=d') (o:=o') q h1 QG ht inn;exact kk Z _ E4 (((Stp.of_same s1).trans (.of_same s3)).trans p4)
  unfold putD at hp;split at hp
  .rename_i eE;split at hp
   .rename_i hz;obtain⟨key,xj,rfl⟩:=Gap.mp hp;obtain⟨ws,hH,rp⟩:=Lj i6;have hy' :=o4 iy xj;subst hy';refine .inr ⟨a,_,rfl,vH.k hH (by rw[<-rp.len,<-eR];exact hz),fin _ _ hH trivial trivial rfl ?_⟩;exact .dK az ((rp.put rep).gen (n8 q h1 hH trivial) λ_ f _=>f)
   .cases hp
  .rename_i eE;split at hp
   .rename_i ks QT;split at hp
    .rename_i hz;obtain⟨key,xj,rfl⟩:=Gap.mp hp;obtain⟨ws,hH,rp⟩:=Lk i6;rw[QT] at iy;cases iy with
     |tup hb rb=>
      have:=iF rb xj;subst this;refine .inr ⟨a,_,rfl,vH.t hH hb (by rw[<-rp.len,<-eR];exact hz),fin _ _ hH trivial trivial rfl ?_⟩;exact .dT az ((rp.put rep).gen (n8 q h1 hH trivial) λ_ f _=>f)
    .cases hp
   .cases hp
  .rename_i xs;split at hp
   .rename_i j hj;rw[hj] at iy;cases iy;obtain⟨vs,hH,rp⟩:=n5 (h4.same s3) i6;split at hp
    .rename_i hb;cases hp;refine .inl ⟨a,vs,j,j.toNat,rfl,rfl,hH, ?_,fin _ _ hH trivial trivial rfl ?_⟩
     .unfold ixN;rw[Gaf hb.1,Gaf (by rw[<-rp.1];exact hb.2)]
     .exact .lst (.inl az) ((rp.set rep j.toNat).gen (n8 q h1 hH trivial) λ_ f _=>f)
    .split at hp
     .rename_i hb;cases hp;refine .inl ⟨a,vs,j,(j+xs.length).toNat,rfl,rfl,hH, ?_,fin _ _ hH trivial trivial rfl ?_⟩
      .unfold ixN;rw[Gag (by lia),Gaf (by rw[<-rp.1];lia),rp.1]
      .exact .lst (.inl az) ((rp.set rep _).gen (n8 q h1 hH trivial) λ_ f _=>f)
     .cases hp
   .cases hp
  .cases hp
 .cases e
theorem qy:PEd X (.Dict [] [] pos) nV:=vJ.aG λZ H Q ⟨_,_,_,_,E,e,k⟩ p n=>by
 cases e;exact k _ _ (aW n) ⟨p,rfl,n,⟨_,az,trivial⟩,rfl,.dT az .nil⟩
end
open PySem PySem.Spec PyProof.Rows L2
open PySem.W (KasT kas_rev kas_asc kas_desc kas_tail3 kas_descPart kas_count kas_place kas_bin kas_sort)
section
variable{rk:Nat->Int}{N:Nat}
def Ord(N:Nat)(p:Array Nat):Prop:=p.toList.Perm (List.range N)
theorem Ord.size{p:Array Nat}(h:Ord N p):p.size=N:=by
 have:=List.Perm.length_eq h
 simpa using this
noncomputable def Lm(rk:Nat->Int)(p:Array Nat)(i:Nat):Int:=rk (p.getD i 0)
def Up(rk:Nat->Int)(p:Array Nat)(k:Nat):Prop:=∀u v,u<=v->v<k->Lm rk p u<=Lm rk p v
end
open PySem PySem.Spec PyProof.Rows L2
def FO(h:Heap)(a:Addr)(T:String)(vs:Array Value):Prop:=∃o,h.get? a=some o/\o.cls= .type T/\o.data= .fields vs
def kl(h:Heap)(d:Addr)(es:Array DictEntry)(ep:Nat):Prop:=∃o,h.get? d=some o/\o.ExactDict/\o.data= .dict es ep
theorem kl.at{h h' :Heap}{d:Addr}{es:Array DictEntry}{ep:Nat}(x:kl h d es ep)(e:∀o,h.get? d=some o->h'.get? d=some o):kl h' d es ep:=let⟨o,ho,r⟩:=x;⟨o,e _ ho,r⟩
section
variable{prog:Program}{w:World}{A:Around}{E:Value->Shared->Prop}{z:Shared}
theorem kl.ty{d:Addr}{es:Array DictEntry}{ep:Nat}(x:kl z.heap d es ep):z.TypeIs (.ref d) "dict":=let⟨o,ho,hc,_⟩:=x;⟨o,ho,hc.1⟩
theorem uI{d:Addr}{es:Array DictEntry}{ep:Nat}{p:Option Value}{Q:Array DictEntry->Shared->Prop}(x:kl z.heap d es ep)(h:Q es z):wpAny (model prog w) A (dictEntries d p) Q E z:=let⟨_,ho,_,hd⟩:=x;wpAny_dictEntries ho hd h
theorem Cr{d:Addr}{es:Array DictEntry}{ep:Nat}{p:Option Value}{Q:Nat->Shared->Prop}(x:kl z.heap d es ep)(h:Q ep z):wpAny (model prog w) A (dictEpoch d p) Q E z:=let⟨_,ho,_,hd⟩:=x;wpAny_dictEpoch ho hd h
theorem FO.ty{a:Addr}{T:String}{vs:Array Value}(x:FO z.heap a T vs):z.TypeIs (.ref a) T:=let⟨o,ho,hc,_⟩:=x;⟨o,ho,hc⟩
theorem FQ{a:Addr}{T:String}{vs:Array Value}{Q:Array Value->Shared->Prop}(x:FO z.heap a T vs)(h:Q vs z):wpAny (model prog w) A (fieldsOf (.ref a)) Q E z:=let⟨_,ho,_,hd⟩:=x;wpAny_fieldsOf ho hd h
theorem gw{a:Addr}{T:String}{vs:Array Value}{k:Nat}{x:Value}{Q:Unit->Shared->Prop}(f:FO z.heap a T vs)(h:∀h',FO h' a T (vs.setIfInBounds k x)/\Heap.SameBut a z.heap h' ->Q () {z with heap:=h' })(hk:k<vs.size):
  wpAny (model prog w) A (setField (.ref a) k x) Q E z:=by
 obtain⟨⟨c,dc,dt,sl⟩,ho,hc,hd⟩:=f;cases hc;cases hd
 exact wpAny_setField ho rfl hk (h _ ⟨⟨_,GbH _ ho rfl,rfl,rfl⟩,Heap.SameBut.update ..⟩)
theorem FO.at{h h' :Heap}{a:Addr}{T:String}{vs:Array Value}(x:FO h a T vs)(k:∀o,h.get? a=some o->h'.get? a=some o):FO h' a T vs:=let⟨o,q,r⟩:=x;⟨o,k o q,r⟩
theorem FO.lt{h:Heap}{a:Addr}{T:String}{vs:Array Value}(x:FO h a T vs):a<h.objs.size:=let⟨_,q,_⟩:=x;Gax q
theorem jA{a:Addr}{T:String}{vs:Array Value}{i:Nat}{x:Value}{Q:Value->Shared->Prop}(f:FO z.heap a T vs)(e:vs[i]? =some x)(h:Q x z):wpAny (model prog w) A (field (.ref a) i) Q E z:=let⟨_,ho,_,hd⟩:=f;GcV ho hd e h
theorem FR{α:Type}{Q:α->Shared->Prop}(hh:A.handled=none)(h:∀h' a,(∀b o,z.heap.get? b=some o->h'.get? b=some o)/\(∃o,h'.get? a=some o/\o.cls= .type "StopIteration")->E (.ref a) {z with heap:=h' }):
  wpAny (model prog w) A (newExc (.type "StopIteration") []>>=λe=>(raiseNew e:Sem α)) Q E z:=by
 obtain⟨hp,g,dr,tk,os⟩:=z
 wp_walk using GaY
 .unfold raiseNew
  wp_walk
  exact h _ _ ⟨λb o e=>Gai _ (Gai _ e),_,GaJ _ rfl,rfl⟩
 all_goals size_fits
theorem uJ{e:Addr}{Q:Bool->Shared->Prop}(x:∃o,z.heap.get? e=some o/\o.cls= .type "StopIteration")(h:Q true z):wpAny (model prog w) A (isInstance (.ref e) (.type "StopIteration")) Q E z:=
 wpAny_isInstance (T:="StopIteration") x isSubtype_stop h
theorem Kb(es:Array DictEntry)(i:Nat):(if(i:Int)<0 then none else es[(i:Int).toNat]?)=es[i]? :=by simp;lia
def Emp(h:Heap)(S:Addr):Prop:=∃c,h.get? S=some {cls:= .type "list",data:= .seq #[] c}
theorem on{α:Type}{t:Sem α}{Q Q' :α->Shared->Prop}(h:wpAny (model prog w) A t Q E z)(k:∀a s,Q a s->Q' a s):wpAny (model prog w) A t Q' E z:=GbX h k λ_ _ x=>x
theorem touched{S:Addr}{Q:Unit->Shared->Prop}(e:Emp z.heap S)(h:∀h2,Emp h2 S/\(∀b o,b≠S->z.heap.get? b=some o->h2.get? b=some o)->Q () {z with heap:=h2}):wpAny (model prog w) A (Builtin.List.listTouch (.ref S)) Q E z:=by
 obtain⟨c,e⟩:=e;have e1:=GbH (Obj.mapSeq (·.push Value.none)) e rfl;refine Gab (GdL e rfl (GdL (hz:=by seq_fits) e1 rfl (h _ ⟨⟨_,GbH (Obj.mapSeq (·.pop)) e1 rfl⟩,λb o n k=> ?_⟩)));rw[GbA _ _ (Ne.symm n),GbA _ _ (Ne.symm n),k]
theorem FT{T:String}{S:Addr}{v res:Value}{R:Result->Shared->Prop}(hT:z.TypeIs v T)(n1:(Value.type T== .type "list")=false)(n2:(Value.type T== .type "tuple")=false)(n3:Builtin.List.listSameRef (.ref S) v=false)
  (h:wpAny (model prog w) A.in1 (pyIter v) (λi s1=>wpAny (model prog w) A.in1 (Builtin.List.listLengthHint v) (λ_ s2=>Emp s2.heap S/\∀h2,Emp h2 S->(∀b o,b≠S->s2.heap.get? b=some o->h2.get? b=some o)->
   codeAny (model prog w) A (.builtin "list.extend.loop" ⟨[.ref S,i,res],[]⟩) R {s2 with heap:=h2}) (λe s' =>R (.error e) s') s1) (λe s' =>R (.error e) s') z):
  wpAny (model prog w) A.in1 (Builtin.List.listExtendWith (.ref S) v res) (λfin s' =>match fin with| .done f=>R (.ok f) s' | .again c' =>c'.quiet=true/\codeAny (model prog w) A c' R s') (λe s' =>R (.error e) s') z:=by
 wp_walk using GdI hT,on h
 intro i s1 q
 wp_walk using on q
 rintro b s2 ⟨e,q⟩;have quiet:Code.quiet (.builtin "list.extend.loop" ⟨[.ref S,i,res],[]⟩)=true:=plainId_quiet F.plain_extend_loop _;apply wpAny_ite_split<;>intro _
 .wp_walk using touched e
  exactλh2 k=>Gao ⟨quiet,q h2 k.1 k.2⟩
 .exact Gao ⟨quiet,q _ e λ_ _ _ k=>k⟩
theorem DB{v:Value}{Q:Value->Shared->Prop}
  (h:∀h1:Heap,Emp h1 z.heap.objs.size->(∀b o,z.heap.get? b=some o->h1.get? b=some o)->z.heap.objs.size<h1.objs.size->wpAny (model prog w) A.in1.in1 (Builtin.List.listExtendWith (.ref z.heap.objs.size) v .none)
   (λfin s' =>match fin with| .done f=>wants (λr s₂=>r= .none/\Q (.ref z.heap.objs.size) s₂) E (.ok f) s' | .again c' =>c'.quiet=true/\codeAny (model prog w) A.in1 c' (wants (λr s₂=>r= .none/\Q (.ref z.heap.objs.size) s₂) E) s')
   (λe s' =>wants (λr s₂=>r= .none/\Q (.ref z.heap.objs.size) s₂) E (.error e) s') {z with heap:=h1}):wpAny (model prog w) A (call (.type "list") [v]) Q E z:=by
 apply callType_codes (Q₁:=λo s=>o= .ref z.heap.objs.size/\s={z with heap:=z.heap.push {cls:= .type "list",data:= .seq #[]}}) F.called_list (F.typeCall_list_1 _) F.entry_list_init (code_list_new _ ⟨rfl,rfl⟩);rintro _ _ ⟨rfl,rfl⟩;have e:(z.heap.push {cls:= .type "list",data:= .seq #[]}).get? z.heap.objs.size=some {cls:= .type "list",data:= .seq #[]}:=GaJ _ rfl;refine⟨⟨_,e,rfl⟩,F.args_list_init_2 _ _,Gab (Gab (wpAny_seqItems e rfl (Gao (Gab (GdL e rfl (Gab (Gdv ?_)))))))⟩;have e2:=GbH (Obj.mapSeq λ_=>(#[]:Array Value)) e rfl;refine h _ ⟨_,e2⟩ (λb o k=> ?_) (Gax e2);rw[GbA _ _ (Gct (Gax k))];exact Gai _ k
theorem IL{c:Code}{Q:Value->Shared->Prop}(h:∀R:Result->Shared->Prop,(∀v s',Q v s' ->R (.ok (.ret v)) s')->codeAny (model prog w) A c R z):wpAny (model prog w) A (runValue c) Q E z:=wpAny_runValue (h _ λ_ _ q=>q)
theorem gather{v:Value}{Q:List Value->Shared->Prop}
  (h:∀R:Result->Shared->Prop,(∀s' acc c,s'.heap.get? z.heap.objs.size=some {cls:= .type "list",dict:=none,data:= .seq acc c,slots:=#[]}->Q acc.toList s' ->R (.ok (.ret (.ref z.heap.objs.size))) s')->
   wpAny (model prog w) A.in1 (Builtin.List.listExtendWith (.ref z.heap.objs.size) v (.ref z.heap.objs.size)) (λfin s' =>match fin with| .done f=>R (.ok f) s' | .again c' =>c'.quiet=true/\codeAny (model prog w) A c' R s') (λe s' =>R (.error e) s') {z with heap:=z.heap.push (seqObj "list" #[] 0)}):
  wpAny (model prog w) A (collect v) Q E z:=by
 unfold collect;apply Gab;apply IL;intro R r;apply GdM entry_proto_collect';apply Gab;refine wpAny_newList (Gao ⟨Code.quiet_builtin _ (by decide+kernel), ?_⟩);apply GdM entry_list_iadd';rw[GdN (by decide+kernel:plainId "list.__iadd__"=true)];exact h R λs' acc c k q=>r _ _ (Gab (wpAny_load k (Gao q)))
def wk(h:Heap)(S:Addr)(acc:Array Value):Prop:=∃c,h.get? S=some {cls:= .type "list",dict:=none,data:= .seq acc c,slots:=#[]}
end
open PySem PySem.Spec PyProof.Rows L2
open PySem.W (KatLex KatTups kas_sort kas_ask kat_kind kat_lt kat_one kat_run kat_snds BoolBack kat_lt_int)
def FlV:D->Value->Prop
 | .non,v=>v= .none
 | .int i,v=>∃t,v= .int i t
 | .str x,v=>∃t,v= .str x t
 |_,_=>False
def qz(h:Heap):D->Value->Prop
 | .int i,v=>∃t,v= .int i t
 | .tup fs,v=>∃a o n us,v= .ref a/\h.get? a=some o/\o.cls= .type "tuple"/\o.data= .seq (List.toArray us) n/\Paired FlV fs us
 |_,_=>False
theorem oY{α β:Type}{R S:α->β->Prop}(h:∀a b,R a b->S a b):∀{xs:List α} {ys:List β},Paired R xs ys->Paired S xs ys
 |_,_,.nil=> .nil
 |_,_,.cons p t=> .cons (h _ _ p) (oY h t)
theorem IM{xs ys:List Nat}(h:xs.map Int.ofNat=ys.map Int.ofNat):xs=ys:=by
 induction xs generalizing ys with
 |nil=>cases ys with
  |nil=>rfl
  |cons=>simp at h
 |cons x xs ih=>cases ys with
  |nil=>simp at h
  |cons y ys=>
   simp only[GaB,GcY] at h;rw[ih h.2,Int.ofNat_inj.mp h.1]
theorem IP{x y:Str}(h:x.cps.toList=y.cps.toList):x=y:=by
 cases x;cases y
 simp only at h;rw[Gcu.mp h]
theorem oq{a b:D}(ha:lj a=true)(hb:lj b=true)(h:aV a=aV b):a=b:=by
 cases a<;>cases b<;>simp[lj,tyD] at ha hb<;>simp[aV] at h
 .rfl
 .rw[h]
 .have:=IP (IM h);rw[this]
theorem tL:∀{as bs:List D},as.all lj=true->bs.all lj=true->as.map aV=bs.map aV->as=bs
 |[],[],_,_,_=>rfl
 |[],_::_,_,_,h=>by simp at h
 |_::_,[],_,_,h=>by simp at h
 |a::as,b::bs,ha,hb,h=>by
  rw[GbR,Gay] at ha hb;simp only[GaB,GcY] at h;rw[oq ha.1 hb.1 h.1,tL ha.2 hb.2 h.2]
theorem Ln{a:D}{t:Nat}(h:(tyD a==t)=true)(ht:t≠3):lj a=true:=by
 unfold lj;rw[GcR] at h;rw[h]
 simpa using ht
theorem kW{t:Nat}{d:D}(ht:t≠3)(h:ll t d=true):∃f r,d= .tup (f::r)/\tyD f=t/\(f::r).all lj=true:=by
 unfold ll at h;split at h
 .rename_i f r;rw[Gay] at h;refine⟨f,r,rfl,GcR.mp h.1, ?_⟩;rw[GbR,Gay];exact⟨Ln h.1 ht,h.2⟩
 .cases h
theorem jg{d:D}(h:Dq d=true):∃i,d= .int i:=by
 unfold Dq at h;split at h
 .exact⟨_,rfl⟩
 .cases h
theorem FU{ds:List D}(h:keysOk ds=true):∀a∈ds,∀b∈ds,code a=code b->a=b:=by
 intro a ha b hb e;unfold keysOk at h;rw[GaX,Gay,GaX] at h;have tup:∀t,t≠3->ds.all (ll t)=true->a=b:=λt ht hk=>by
  obtain⟨f,r,rfl,_,q1⟩:=kW ht (GaA.mp hk a ha);obtain⟨f',r',rfl,_,q2⟩:=kW ht (GaA.mp hk b hb);rw[tL q1 q2 e]
 rcases h with h| ⟨h|h,_⟩
 .obtain⟨i,rfl⟩:=jg (GaA.mp h a ha);obtain⟨j,rfl⟩:=jg (GaA.mp h b hb);simp[code,aV] at e;rw[e]
 .exact tup 1 (by decide) h
 .exact tup 2 (by decide) h
theorem Ct{i j:Int}:dQ ltI (aV (.int i)) (aV (.int j))=decide (i<j):=by
 unfold aV;simp only[dQ,Gbx];by_cases e:i=j
 .subst e;simp
 .rw[Gag e];rfl
theorem Cu:∀(xs ys:List Nat),dQ ltI (xs.map Int.ofNat) (ys.map Int.ofNat)=decide (xs<ys)
 |[],[]=>by simp[dQ]
 |[],y::ys=>by simp[dQ]
 |x::xs,[]=>by simp[dQ]
 |x::xs,y::ys=>by
  simp only[GaB,dQ];by_cases e:x=y
  .subst e;rw[Gaf rfl,Cu xs ys];simp[List.cons_lt_cons_iff]
  .rw[Gag (λz:Int.ofNat x=Int.ofNat y=>e (Int.ofNat_inj.mp z))];have:(x::xs<y::ys)↔x<y:=by rw[List.cons_lt_cons_iff];simp[e]
   unfold ltI;simp[this]
theorem IQ{x y:Str}:dQ ltI (aV (.str x)) (aV (.str y))=decide (x.cps.toList<y.cps.toList):=by
 unfold aV;simp only[dQ,Gbx];exact Cu _ _
section
variable{prog:Program}{w:World}{A:Around}{E:Value->Shared->Prop}{s:Shared}
theorem O3{a b:D}{u v:Value}{Q:Bool->Shared->Prop}(ha:FlV a u)(hb:FlV b v)(ht:tyD a=tyD b)(h:Q (decide (aV a=aV b)) s):wpAny (model prog w) A (eqBool u v) Q E s:=by
 cases a<;>cases b<;>simp[tyD] at ht<;>try exact ha.elim
 .cases ha;cases hb
  unfold eqBool;refine GcA ?_;simp only[aV,decide_true] at h;rw[Gaf (by rfl)];exact Gab (Gco (Gao h))
 .obtain⟨t,rfl⟩:=ha;obtain⟨t',rfl⟩:=hb;refine wpAny_eqBool_int ?_;rename_i i j;have e:decide (aV (.int i)=aV (.int j))=(i==j):=by
   simp only[aV];by_cases q:i=j
   .subst q;simp
   .simp[q]
  rw[e] at h;exact h
 .obtain⟨t,rfl⟩:=ha;obtain⟨t',rfl⟩:=hb;refine eqBool_str ?_;rename_i i j;have e:decide (aV (.str i)=aV (.str j))=(i==j):=by
   by_cases q:i=j
   .subst q;simp
   .have:¬aV (.str i)=aV (.str j):=λz=>q (by
     have:=oq (a:= .str i) (b:= .str j) rfl rfl z;cases this;rfl)
    simp[q,this]
  rw[e] at h;exact h
theorem O4{a b:D}{u v:Value}{one:Bool}{Q:Bool->Shared->Prop}(ha:FlV a u)(hb:FlV b v)(ht:tyD a=tyD b)(hk:tyD a=1\/tyD a=2)(h:Q (dQ ltI (aV a) (aV b)) s):wpAny (model prog w) A (oneLt' one u v) Q E s:=by
 cases a<;>cases b<;>simp[tyD] at ht hk
 .obtain⟨t,rfl⟩:=ha;obtain⟨t',rfl⟩:=hb;rw[Ct] at h;cases one with
  |true=>exact oneLt_int h
  |false=>exact kat_one _ _ (PyProof.Rows.lt_int h)
 .obtain⟨t,rfl⟩:=ha;obtain⟨t',rfl⟩:=hb;rw[IQ] at h;cases one with
  |true=>exact oneLt_str h
  |false=>exact kat_one _ _ (PyProof.Rows.lt_str h)
theorem FV{b fin:Bool}{Q:Bool->Shared->Prop}:∀{as bs:List D} {us vs:List Value} (i:Nat),Paired FlV as us->Paired FlV bs vs->lC as bs=true->fin=decide (as.length<bs.length)->Q (ltC (as.map aV) (bs.map aV)) s->KatLex prog w A b fin Q (us.zip vs) i s
 |[],[],_,_,i,.nil,.nil,_,hf,h=>by
  have h' :Q fin s:=by rw[hf];exact h
  exact h'
 |[],_::_,_,_,i,.nil,.cons _ _,_,hf,h=>by
  have h' :Q fin s:=by rw[hf,Gaz (by simp)];exact h
  exact h'
 |_::_,[],_,_,i,.cons _ _,.nil,_,hf,h=>by
  have h' :Q fin s:=by rw[hf,GaD (by simp)];exact h
  exact h'
 |a::as,c::cs,_,_,i,.cons (b:=u) ha ta,.cons (b:=v) hb tb,hc,hf,h=>by
  unfold lC at hc;have h0:ltC ((a::as).map aV) ((c::cs).map aV)=if aV a=aV c then ltC (as.map aV) (cs.map aV) else dQ ltI (aV a) (aV c):=rfl
  rw[h0] at h;have ht:tyD a=tyD c:=by
   split at hc
   .rename_i e;cases a<;>cases c<;>simp[aV] at e<;>first|rfl|exact ha.elim|exact hb.elim
   .rw[Gay] at hc;exact GcR.mp hc.1
  show wpAny _ _ (eqBool u v) _ _ s;refine O3 ha hb ht ?_;by_cases e:aV a=aV c
  .rw[Gaz e,Gaf rfl];rw[Gaf e] at h hc;exact FV (i+1) ta tb hc (by rw[hf];simp) h
  .rw[GaD e,Gag GaH];rw[Gag e] at h hc;rw[Gay,GaX] at hc;exact O4 ha hb ht (hc.2.imp GcR.mp GcR.mp) h
theorem FW{ds:List D}{vs:List Value}{Y:SortKind}(hK:Paired (qz s.heap) ds vs)(hok:keysOk ds=true)(hY:(ds.all Dq=true/\Y=oneType')\/((ds.all (ll 1)||ds.all (ll 2))=true/\(ds.all λx=>ds.all λy=>vP x y)=true/\Y=tuples' true)):
  ∀i j C,i<ds.length->j<ds.length->C (decide (rank (ds.map code) i<rank (ds.map code) j)) s->kas_ask prog w A Y vs i j C s:=by
 intro i j C hi hj h;have hl:=hK.length;rw[C6 (by simpa using hi) (by simpa using hj)] at h;simp only[Gcf] at h;unfold kas_ask;have gi:vs.getD i Value.none=vs[i]:=by simp[<-hl,hi]
 have gj:vs.getD j Value.none=vs[j]:=by simp[<-hl,hj]
 rw[gi,gj];have at_:∀{ds:List D} {vs:List Value},Paired (qz s.heap) ds vs->∀(i:Nat) (h1:i<ds.length) (h2:i<vs.length),qz s.heap ds[i] vs[i]:=by
  intro ds vs hK;induction hK with
  |nil=>intro i h1;simp at h1
  |cons h t ih=>
   intro i h1 h2;cases i with
   |zero=>exact h
   |succ i=>exact ih i (by simpa using h1) (by simpa using h2)
 have ki:=at_ hK i hi (by lia);have kj:=at_ hK j hj (by lia);rcases hY with⟨a1,rfl⟩| ⟨a1,a2,rfl⟩
 .obtain⟨x,hx⟩:=jg (GaA.mp a1 ds[i] (Gat hi));obtain⟨y,hy⟩:=jg (GaA.mp a1 ds[j] (Gat hj));rw[hx] at ki h;rw[hy] at kj h;obtain⟨t,ei⟩:=ki;obtain⟨t',ej⟩:=kj;rw[ei,ej];refine kat_lt_int ?_;have e:ltC (code (.int x)) (code (.int y))=decide (x<y):=by
   show dQ (dQ ltI) [aV (.int x)] [aV (.int y)]=_;unfold dQ;split
   .rename_i z;have:=oq (a:= .int x) (b:= .int y) rfl rfl z;cases this;simp[dQ]
   .exact Ct
  rw[e] at h;exact h
 .have tup:∀d∈ds,∃fs,d= .tup fs:=λd hd=>by
   rw[GaX] at a1;rcases a1 with a1|a1
   .obtain⟨f,r,e,_⟩:=kW (by decide) (GaA.mp a1 d hd);exact⟨_,e⟩
   .obtain⟨f,r,e,_⟩:=kW (by decide) (GaA.mp a1 d hd);exact⟨_,e⟩
  have cm:=GaA.mp (GaA.mp a2 ds[i] (Gat hi)) ds[j] (Gat hj);obtain⟨xs,hx⟩:=tup ds[i] (Gat hi);obtain⟨ys,hy⟩:=tup ds[j] (Gat hj);rw[hx] at ki h cm;rw[hy] at kj h cm;obtain⟨a,o,n,us,ei,h1,h2,h3,h4⟩:=ki;obtain⟨a',o',n',SJ,ej,yq,Qo,RL,Qn⟩:=kj;rw[ei,ej];refine kat_lt h1 h3 yq RL ?_;exact FV 0 h4 Qn cm (by rw[Gam,Gam,h4.length,Qn.length]) h
theorem ot{t:Nat}(ht:t≠3):∀{ds:List D} {vs:List Value},Paired (qz s.heap) ds vs->ds.all (ll t)=true->∃fs:List Value,∃gs:List D,KatTups s.heap vs fs/\Paired FlV gs fs/\(∀g∈gs,tyD g=t)/\fs.length=vs.length
 |[],_,.nil,_=> ⟨[],[],trivial,.nil,(by intro g hg;cases hg),rfl⟩
 |d::ds,_,.cons h tl,hk=>by
  rw[GbR,Gay] at hk;obtain⟨fs,gs,h1,h2,h3,h4⟩:=ot ht tl hk.2;obtain⟨f,r,rfl,q1,q2⟩:=kW ht hk.1;obtain⟨a,o,n,us,rfl,g1,g2,g3,g4⟩:=h;cases g4 with
  |cons p t=>
   refine⟨_::fs,f::gs,KatTups.cons g1 g2 g3 (by simp) h1,.cons p h2,λg hg=> ?_,by simp[h4]⟩;rcases GaC.mp hg with e|e
   .subst e;exact q1
   .exact h3 g e
theorem Cv{M:Model}{h:Heap}{d:D}{v:Value}{t:Nat}(hd:FlV d v)(ht:tyD d=t):(t=1->PySem.W.Looks M h (typeOf v) (.type "int"))/\(t=2->PySem.W.Looks M h (typeOf v) (.type "str")):=by
 subst ht;cases d<;>simp[tyD]<;>try exact hd.elim
 .obtain⟨u,rfl⟩:=hd;exact PySem.W.Looks.of_pure rfl
 .obtain⟨u,rfl⟩:=hd;exact PySem.W.Looks.of_pure rfl
theorem DC{ds:List D}{vs:List Value}{Q:SortKind->Shared->Prop}(hK:Paired (qz s.heap) ds vs)(hok:keysOk ds=true)(h2:2<=ds.length)
  (h:∀Y,((ds.all Dq=true/\Y=oneType')\/((ds.all (ll 1)||ds.all (ll 2))=true/\(ds.all λx=>ds.all λy=>vP x y)=true/\Y=tuples' true))->Q Y s):wpAny (model prog w) A (keyKind' vs.toArray) Q E s:=by
 have hl:=hK.length;unfold keysOk at hok;rw[GaX,Gay] at hok;rcases hok with hok| ⟨hok,hc⟩
 .have ia:∀{ds:List D} {vs:List Value},Paired (qz s.heap) ds vs->ds.all Dq=true->∃ns,IntsAre vs ns:=by
   intro ds vs hK;induction hK with
   |nil=>intro _;exact⟨[],.nil⟩
   |cons p t ih=>
    intro hk;rw[GbR,Gay] at hk;obtain⟨ns,q⟩:=ih hk.2;obtain⟨i,rfl⟩:=jg hk.1;obtain⟨u,rfl⟩:=p;exact⟨i::ns,.cons i u q⟩
  obtain⟨ns,q⟩:=ia hK hok
  match vs,hl,q with
  |[],e,_=>rw[Gcj] at e;lia
  |[_],e,_=>rw[List.length_singleton] at e;lia
  |v1::v2::vr,_,q=>
   rw[keyKind_ints q];exact Gao (h _ (.inl ⟨hok,rfl⟩))
 .have yB :=hok;rw[GaX] at yB;rcases yB with a1|a1
  .obtain⟨fs,gs,q1,q2,q3,q4⟩:=ot (s:=s) (by decide) hK a1;refine kat_kind (T:= .type "int") q1 (by rw[q4,<-hl];lia) (λv hv=> ?_) (by rfl) (h _ (.inr ⟨hok,hc,rfl⟩));obtain⟨g,hg,QW⟩:∃g∈gs,FlV g v:=by
    clear q1 q3 q4;induction q2 with
    |nil=>cases hv
    |cons p t ih=>
     rcases GaC.mp hv with e|e
     .subst e;exact⟨_,Gak,p⟩
     .obtain⟨g,h1,h2⟩:=ih e;exact⟨g,Gae _ h1,h2⟩
   exact(Cv QW (q3 g hg)).1 rfl
  .obtain⟨fs,gs,q1,q2,q3,q4⟩:=ot (s:=s) (by decide) hK a1;refine kat_kind (T:= .type "str") q1 (by rw[q4,<-hl];lia) (λv hv=> ?_) (by rfl) (h _ (.inr ⟨hok,hc,rfl⟩));obtain⟨g,hg,QW⟩:∃g∈gs,FlV g v:=by
    clear q1 q3 q4;induction q2 with
    |nil=>cases hv
    |cons p t ih=>
     rcases GaC.mp hv with e|e
     .subst e;exact⟨_,Gak,p⟩
     .obtain⟨g,h1,h2⟩:=ih e;exact⟨g,Gae _ h1,h2⟩
   exact(Cv QW (q3 g hg)).2 rfl
theorem FX(vs:List Value):(vs.toArray.zip vs.toArray).map (·.2)=vs.toArray:=by
 apply Gcu.mp;rw[Array.toList_map,Array.toList_zip];exact List.map_snd_zip (Gaq _)
theorem Bb{a:Addr}{vs:List Value}{n:Nat}{P:PySem.Fin->Shared->Prop}{Ok:Array Value->Prop}(ho:s.heap.get? a=some (seqObj "list" vs.toArray n))(sz:vs.length<=sizeLine)(one:vs.length<2->Ok vs.toArray)(len:∀out,Ok out->out.size=vs.length)
  (big:∀G:Heap,(∀b o,b≠a->s.heap.get? b=some o->G.get? b=some o)->2<=vs.length->wpAny (model prog w) A (keyKind' vs.toArray) (λY s1=>wpAny (model prog w) A (sortRuns'.run (SortSt.mk' Y (vs.toArray.zip vs.toArray) #[] 7 none)) (λr s2=>s2={s with heap:=G}/\failedOf r.2=none/\Ok ((arrOf r.2).map (·.2))) E s1) E {s with heap:=G})
  (h:∀out,Ok out->P (.done (.ret .none)) {s with heap:=sortedHeap s.heap a vs out}):wpAny (model prog w) A (Builtin.«list.sort» ⟨[.ref a],[]⟩) P E s:=by
 have⟨ep,e1⟩:∃ep,(s.heap.update a (Obj.mapSeq λ_=>(#[]:Array Value))).get? a=some (seqObj "list" #[] ep):=⟨_,get?_update_seq ho _⟩
 rw[list_sort_plain];refine Gab (listItems_at ho rfl (Gab (listUpdate_at ho rfl (Gab (seqEpoch_at e1 rfl (Gab (wpAny_newTuple (Gab (wpAny_newList (GcA ?_) (GbB _))) sz)))) (by simpa using sz) (GbB _))));have e2:=Gai (seqObj "list" #[] 0) (Gai (seqObj "tuple" vs.toArray 0) e1);have last:∀st:SortSt,failedOf st=none->Ok ((arrOf st).map (·.2))->wpAny (model prog w) A (do
   let touched:=(<-seqEpoch a) !=ep
   Builtin.List.listUpdate (.ref a) λ_=>(arrOf st).map (·.2)
   if let some e:=failedOf st then rule "list.sort.comparison-raised";throw e
   if touched then rule "list.sort.modified";raiseError "ValueError" "list modified during sort"
   ret .none) P E {s with heap:=((s.heap.update a (Obj.mapSeq λ_=>(#[]:Array Value))).push (seqObj "tuple" vs.toArray 0)).push (seqObj "list" #[] 0)}:=λst f ok=>by
  refine Gab (seqEpoch_at e2 rfl (Gab (listUpdate_at e2 rfl ?_ (GbB _) (by rw[len _ ok];lia))));rw[f]
  wp_walk
  exact h _ ok
 by_cases c:vs.length<2
 .have c' :vs.toArray.size<2:=by simpa using c
  rw[Gaf c',Gaf c'];refine Gab (Gao (Gab (Gao (last (SortSt.mk' general' (vs.toArray.zip vs.toArray) #[] 7 none) rfl ?_))));show Ok ((vs.toArray.zip vs.toArray).map (·.2));rw[FX];exact one c
 .have c' :¬vs.toArray.size<2:=by simpa using c
  rw[Gag c',Gag c'];refine Gab (on (big _ (λb o n q=>Gai _ (Gai _ ((GbA _ _ (Ne.symm n)).trans q))) (by lia)) λY s1 q=>Gab (on q ?_));rintro⟨⟨⟩,st⟩ s2 ⟨rfl,f,ok⟩;exact last st f ok
def jB(cs:List (List (List Int)))(vs:List Value)(out:Array Value):Prop:=∃p:Array Nat,Ord vs.length p/\Up (rank cs) p vs.length/\out=List.toArray (p.toList.map λi=>vs.getD i Value.none)
theorem jB.len{cs:List (List (List Int))}{vs:List Value}{out:Array Value}(x:jB cs vs out):out.size=vs.length:=by
 obtain⟨p,h1,_,rfl⟩:=x;rw[Gam,Gac,GbQ,h1.size]
theorem jB.one{cs:List (List (List Int))}{vs:List Value}(c:vs.length<2):jB cs vs vs.toArray:=by
 refine⟨List.toArray (List.range vs.length),List.Perm.refl _,λu v q r=> ?_, ?_⟩
 .rw[show u=v by lia];exact GbC _
 .rcases vs with _| ⟨x,_| ⟨y,t⟩⟩
  .rfl
  .rfl
  .exact absurd c (by simp)
def uK(prog:Program)(w:World)(A:Around)(E:Value->Shared->Prop)(s:Shared)(cs:List (List (List Int)))(vs:List Value):Prop:=
 2<=vs.length->∀Q:SortKind->Shared->Prop,(∀Y,(∀i j C,i<vs.length->j<vs.length->C (decide (rank cs i<rank cs j)) s->kas_ask prog w A Y vs i j C s)->Q Y s)->wpAny (model prog w) A (keyKind' vs.toArray) Q E s
theorem wm{l:Addr}{o:Obj}{vs:List Value}{n:Nat}{T:String}{Q:List Value->Shared->Prop}(ho:s.heap.get? l=some o)(hc:o.cls= .type T)(hT:T="list"\/T="tuple")(hd:o.data= .seq vs.toArray n)
  (h:Q vs {s with heap:=(s.heap.push (seqObj "list" #[] 0)).update s.heap.objs.size (Obj.mapSeq (· ++vs.toArray))})(hsz:vs.length<=sizeLine):wpAny (model prog w) A (collect (.ref l)) Q E s:=by
 have e0:(s.heap.push (seqObj "list" #[] 0)).get? s.heap.objs.size=some (seqObj "list" #[] 0):=GaJ _ rfl;have el:=Gai (seqObj "list" #[] 0) ho;have up:(#[]++vs.toArray:Array Value)=vs.toArray:=by simp
 have ek:((s.heap.push (seqObj "list" #[] 0)).update s.heap.objs.size (Obj.mapSeq (· ++vs.toArray))).get? s.heap.objs.size=some (seqObj "list" (#[]++vs.toArray) _):=get?_update_seq e0 _;rw[up] at ek;refine gather λR r=> ?_;have c:(Builtin.List.listSameRef (.ref s.heap.objs.size) (.ref l)||Value.type T== .type "list"||Value.type T== .type "tuple")=true:=by rcases hT with rfl|rfl<;>rw[GaX,GaX]<;>simp
 exact Gab (GdI ⟨o,el,hc⟩ (wpAny_ite_true (by rw[c];rfl) (Gab (listItems_at el hd (Gab (listItems_at e0 rfl (wpAny_ite_false (by simp) (Gab (listUpdate_at e0 rfl (Gao (r _ vs.toArray _ ek h)) (GbB _) (by rw[up,Gam];lia))))))))))
end
section
variable{X:Cx}
theorem O5{K:ak}{F:Addr->Prop}{H:Hp}{d:D}{v:V}{u:Value}(r:Rep K F H d v)(hf:lj d=true)(ru:RelV v u):FlV d u:=by
 cases r<;>simp[lj,tyD] at hf
 .cases ru;rfl
 .exact ru
 .exact ru
theorem FY{K:ak}{F:Addr->Prop}{H:Hp}:∀{ds:List D} {vs:List V} {us:List Value},aN K F H ds vs->ds.all lj=true->Vals vs us->Paired FlV ds us
 |[],vs,us,r,_,ru=>by
  have:=r.cg;subst this;cases ru;exact .nil
 |d::ds,vs,us,r,hf,ru=>by
  obtain⟨v,w,rfl,h1,h2⟩:=r.cons_inv;rw[GbR,Gay] at hf;cases ru with
  |cons r1 r2=>exact .cons (O5 h1 hf.1 r1) (FY h2 hf.2 r2)
noncomputable def isKey(d:D):Bool:=match d with
 | .int _=>true
 | .tup fs=>fs.all lj
 |_=>false
theorem lW{ee:List (Addr×Obj)}{Z:St}{F:Addr->Prop}{H:Hp}{s:Shared}{d:D}{v:V}{u:Value}(I:Inv X ee Z H s)(r:Rep X.K F H d v)(hk:isKey d=true)(ru:RelV v u):qz s.heap d u:=by
 cases r<;>simp[isKey] at hk
 .exact ru
 .rename_i a vs fs h l r;cases ru;obtain⟨eI,rv,⟨o,h1,h2,n,h3⟩,_⟩:=I.tuple (SqT.of h);exact⟨a,o,n,eI,rfl,h1,h2,h3,FY ⟨l,r⟩ (GaA.mpr hk) rv⟩
theorem Cw{ee:List (Addr×Obj)}{Z:St}{F:Addr->Prop}{H:Hp}{s:Shared}(I:Inv X ee Z H s):∀{ds:List D} {vs:List V} {us:List Value},aN X.K F H ds vs->ds.all isKey=true->Vals vs us->Paired (qz s.heap) ds us
 |[],vs,us,r,_,ru=>by
  have:=r.cg;subst this;cases ru;exact .nil
 |d::ds,vs,us,r,hf,ru=>by
  obtain⟨v,w,rfl,h1,h2⟩:=r.cons_inv;rw[GbR,Gay] at hf;cases ru with
  |cons r1 r2=>exact .cons (lW I h1 hf.1 r1) (Cw I h2 hf.2 r2)
theorem FZ{ds:List D}(h:keysOk ds=true):ds.all isKey=true:=by
 unfold keysOk at h;rw[GaX,Gay,GaX] at h;refine GaA.mpr λd hd=> ?_;have tup:∀t,t≠3->ds.all (ll t)=true->isKey d=true:=λt ht hk=>by
  obtain⟨f,r,rfl,_,q1⟩:=kW ht (GaA.mp hk d hd);exact q1
 rcases h with h| ⟨h|h,_⟩
 .obtain⟨i,rfl⟩:=jg (GaA.mp h d hd);rfl
 .exact tup 1 (by decide) h
 .exact tup 2 (by decide) h
theorem range_getD{α:Type}{xs:List α}{d:α}:(List.range xs.length).map (λi=>xs.getD i d)=xs:=by
 apply List.ext_getElem
 .simp
 .intro i h1 h2;simp[h2]
theorem qA{α:Type}{xs:List α}{d:α}{p:Array Nat}(h:Ord xs.length p):(p.toList.map λi=>xs.getD i d).Perm xs:=by
 have:=GdA (λi=>xs.getD i d) h;rw[range_getD] at this;exact this
theorem G0{n:Nat}{p:Array Nat}(h:Ord n p){i:Nat}(hi:i<p.toList.length):p.toList[i]<n:=GaZ.mp (h.mem_iff.mp (Gat hi))
theorem Bc{ds:List D}{p:Array Nat}(h:Ord ds.length p)(hu:Up (rank (ds.map code)) p ds.length):iD (p.toList.map λi=>ds.getD i .non):=by
 refine Gcp.mpr λi j hi hj yp=> ?_;rw[Gac] at hi hj;rw[Gcf,Gcf];have bi:=G0 h hi;have bj:=G0 h hj;have hs:=h.size;have hi' :i<p.size:=by simpa using hi
 have hj' :j<p.size:=by simpa using hj
 have u:=hu i j (GdG yp) (by lia);unfold Lm at u;have ei:p.getD i 0=p.toList[i]:=by simp[Array.getD,hi']
 have ej:p.getD j 0=p.toList[j]:=by simp[Array.getD,hj']
 rw[ei,ej] at u;have r:=C6 (cs:=ds.map code) (i:=p.toList[j]) (j:=p.toList[i]) (by simpa using bj) (by simpa using bi);rw[GaD (Int.not_lt.mpr u)] at r;simp only[Gcf] at r;have gd:∀{k:Nat} (hk:k<ds.length),ds.getD k .non=ds[k]:=λ{k} hk=>by simp[hk]
 have gi:=gd bi;have gj:=gd bj;rw[gi,gj];exact r.symm
theorem G1{K:ak}{F:Addr->Prop}{H:Hp}{ds:List D}{vs:List V}{p:Array Nat}(h:Ord ds.length p)(r:aN K F H ds vs):aN K F H (p.toList.map λi=>ds.getD i .non) (p.toList.map λi=>vs.getD i .non):=by
 refine⟨by simp,λi d v e1 e2=> ?_⟩;rw[Gah] at e1 e2;cases q:p.toList[i]? with
 |none=>rw[q] at e1;cases e1
 |some k=>
  rw[q] at e1 e2;have hk:k<ds.length:=GaZ.mp (h.mem_iff.mp (GaP q));have xW:k<vs.length:=by rw[<-r.1];exact hk
  cases e1;cases e2
  exact r.2 k _ _ (by simp[hk]) (by simp[xW])
theorem G2{vs:List V}{us:List Value}{p:Array Nat}(h:Ord vs.length p)(r:Vals vs us):Vals (p.toList.map λi=>vs.getD i .non) (p.toList.map λi=>us.getD i Value.none):=by
 have hl:=r.length;have all:∀(l:List Nat),(∀i∈l,i<vs.length)->Vals (l.map λi=>vs.getD i .non) (l.map λi=>us.getD i Value.none):=by
  intro l;induction l with
  |nil=>intro _;exact .nil
  |cons i l ih=>
   intro hm;have hi:=hm i Gak;obtain⟨u,hu,ru⟩:=r.get (x:=vs[i]) (i:=i) (by simp[hi]);refine .cons ?_ (ih λj hj=>hm j (Gae _ hj));have e1:vs.getD i .non=vs[i]:=by simp[hi]
   have e2:us.getD i Value.none=u:=by simp[hu]
   show RelV (vs.getD i .non) (us.getD i Value.none);rw[e1,e2];exact ru
 exact all _ λi hi=>GaZ.mp (h.mem_iff.mp hi)
end
open PySem PySem.Spec PyProof.Rows L2
section
variable{X:Cx}{e a b c:Expr}{f g h:DE}{pos:Pos}
theorem _root_.L2.Inv.qB{ee:List (Addr×Obj)}{Z:St}{H:Hp}{s s' :Shared}{ch:List Addr}{T:Addr}{o:HO}(I:Inv X ee Z H s)(hf:∀b∈ch,lU X ee H b)(yi:s'.os=s.os)(hg:s'.gens=s.gens)
  (k:∀b u,b∉ch->s.heap.get? b=some u->s'.heap.get? b=some u)(hT:s.heap.objs.size<=T)(new:bQ X.prog X.w (upd H T o) s'.heap T o):Inv X ee Z (upd H T o) s' :=by
 have hn:H T=none:=I.hok.fresh hT;have ne:∀{b u},H b=some u->b≠T:=λ{b u} q=>cZ q hn;refine I.K0 (ch:=ch) yi ⟨λb ob q _ _ hx=>k b ob hx q,λb ob q _ _ hx=> ⟨ob.slots,k b ob hx q⟩,λb ob q n _=> ?_,λb ob q hx=> ⟨ob,k b ob hx q⟩,λb xs q=> ?_,λb ob u q=> ?_,λb ps q=> ⟨#[], ?_⟩⟩ ?_ (by rw[hg];exact I.bare) λb hb=> ⟨(hf b hb).2.2.2.1,(hf b hb).2.1,(hf b hb).2.2.2.2.1,(hf b hb).2.2.2.2.2⟩
 .rw[ah (GaO (GaS (Gax q) hT))];exact n
 .rw[ah (ne q)];exact q
 .rw[ah (ne q)];exact q
 .rw[ah (ne q),q];simp
 .intro b u q;by_cases hb:b=T
  .subst hb;rw[az] at q;cases q;exact new
  .rw[ah hb] at q;have tr:∀{c v},H c=some v->c∉ch:=λ{c v} z hc=>by rw[(hf c hc).1] at z;cases z
   refine(I.hok b u q).dN (λc v hc z=>k c v ?_ z) (λc z=>by rw[ah (ne z)];exact z) λc xs z=>by rw[ah (ne z)];exact z
   rcases hc with hc|hc
   .rw[hc];exact tr q
   .exact tr hc
noncomputable def Ite(K:ak)(l:Addr):It:=
 ⟨λi H=>∃xs x,SqL K H l xs/\xs[i]? =some x,λi H x H' =>∃p y,H p=none/\x= .ref p/\H' =upd H p (.tup [.int i,y])/\∀xs,SqL K H l xs->xs[i]? =some y,λi H=>∃xs,SqL K H l xs/\xs.length<=i⟩
theorem DD{P:Program}{w:World}{K:ak}{elts:List Expr}{x1}{tp:Pos}(en it l:Addr)(xQ:en≠it):Turn P w K (.Tuple elts x1 tp) (Ite K l) [en,it] en (λi h=>(∃old,IsEnum h en it i old)/\h.IsListIter it l i) where
 mem:=by simp
 obj:=λi h st b hb=>by
  obtain⟨⟨old,he⟩,o,e,c,d⟩:=st;rcases GaC.mp hb with z|z
  .subst z;exact⟨_,he,λv z=>by
    have z' :Data.fields _=Data.cell v:=z;cases z'⟩
  .have z' :b=it:=by simpa using z
   subst z';exact⟨o,e,λv z=>by rw[d] at z;cases z⟩
 keep:=λi h h' st k=> ⟨let⟨old,he⟩:=st.1;⟨old,k en (by simp) _ he⟩,st.2.at λo e=>k it (by simp) o e⟩
 item:=by
  intro X hP hw hK hc i ee s Z H E I hf st hg;subst hP hw hK;obtain⟨⟨old,he⟩,hit⟩:=st;obtain⟨xs,x,hq,hx⟩:=hg;obtain⟨eI,rv,p,hz⟩:=I.list hq;obtain⟨u,hu,ru⟩:=rv.get hx;refine wpAny_pyNext_enum_item he hit p.isList (x:=u) (by simpa using hu) xQ λh' ho xJ hT hsz kk=> ⟨_,rfl, ?_⟩;refine wpAny_letOwnedTupleGo_enum (s:={s with heap:=h',toks:=s.toks+1}) ho λh2 zo sb=> ?_;have hltE:en<s.heap.objs.size:=Gax he;have kept:∀b o,b∉[en,it]->s.heap.get? b=some o->h2.get? b=some o:=λb o hb e=>by
   have b1:b≠en:=λz=>hb (by simp[z]);have b2:b≠it:=λz=>hb (by simp[z]);exact(sb.2 b b1).trans (kk b o b1 b2 e)
  have zL:h2.get? s.heap.objs.size=some {cls:= .type "tuple",data:= .seq #[.int i s.toks,u]}:=(sb.2 _ (Gct hltE)).trans hT;have I1:Inv X ee Z (upd H s.heap.objs.size (.tup [.int i,x])) {s with heap:=h2,toks:=s.toks+1}:=I.qB (ch:=[en,it]) hf rfl rfl kept (Gaq _) (by
   refine⟨by simp[GbN],[.int i s.toks,u],.cons ⟨_,rfl⟩ (.cons ru .nil),_,zL,rfl,0,rfl⟩)
  refine⟨.ref s.heap.objs.size,_,I1,rfl,⟨_,x,I.fresh,rfl,rfl,λys hy=>by rw[I.vq hy hq];exact hx⟩,⟨⟨u,by simpa using zo⟩,xJ.at λo e=>(sb.2 it (Ne.symm xQ)).trans e⟩,λb hb=> ?_⟩;obtain⟨o,ob,_⟩:∃o,s.heap.get? b=some o/\True:=by
   rcases GaC.mp hb with z|z
   .subst z;exact⟨_,he,trivial⟩
   .have z' :b=it:=by simpa using z
    subst z';obtain⟨o,e,_⟩:=hit;exact⟨o,e,trivial⟩
  rw[ah (GaO (Gax ob))];exact(hf b hb).1
 done:=by
  intro X hP hw hK hc i ee s Z H E I hf st hg;subst hP hw hK;obtain⟨⟨old,he⟩,hit⟩:=st;obtain⟨xs,hq,hx⟩:=hg;obtain⟨eI,rv,p,hz⟩:=I.list hq;obtain⟨f0,f1,f2,f3,f4,f5⟩:=hf it (by simp);have hl:=rv.length;exact wpAny_pyNext_enum_end (I.ok.hd hc) he hit p.isList (by simp;lia) λh' eb=> ⟨rfl,I.turned (t' :=s.toks) (λb o hb e=>eb b o hb e) f0 f1 f3 f4 f5⟩
 self:=λ_ _ _ _ _ st h=>let⟨old,he⟩:=st.1;Gdq he h
theorem qC{prog:Program}{w:World}{A:Around}{E:Value->Shared->Prop}{z:Shared}{it t:Addr}{i:Nat}{eI:Array Value}{Q:Value->Shared->Prop}(hh:A.handled=none)(hit:z.heap.IsTupleIter it t i)(ht:z.heap.IsTuple t eI)
  (hQ:∀x h',eI[i]? =some x->h'.IsTupleIter it t (i+1)->Heap.SameBut it z.heap h' ->Q x {z with heap:=h' })
  (hE:∀h' e,eI[i]? =none->Heap.ExtBut it z.heap h' ->(∃o,h'.get? e=some o/\o.cls= .type "StopIteration")->E (.ref e) {z with heap:=h' }):wpAny (model prog w) A (Builtin.SmallTypes.nextOf (.ref it)) Q E z:=by
 have f:FO z.heap it _ _:=hit;obtain⟨ol,Sg,_,nl,Ss⟩:=ht
 wp_walk using GbO f.ty F.slot_tuple_iterator_next,Gby F.slot_tuple_iterator_next f.ty F.entry_tuple_iterator_next (ha:=F.args_tuple_iterator_next_1 _),jA (i:=0) (x:= .ref t) f rfl,jA (i:=1) (x:= .int i 0) f rfl,wpAny_seqItems Sg Ss
 rw[show eI[(i:Int).toNat]? =eI[i]? by simp];cases h:eI[i]? with
 |some x=>
  wp_walk using gw f
  .exactλh' k=>Gao ⟨_,rfl,Gao (hQ x h' h k.1 k.2)⟩
  .show _<2;decide
 |none=>
  wp_walk using gw f
  .exactλh1 k=>FR hh λh' a q=>hE h' a h (λb o n e=>q.1 b o (k.2.extBut b o n e)) q.2
  .show _<2;decide
theorem DF{prog:Program}{w:World}{A:Around}(hh:A.handled=none)(it l:Addr)(xQ:l≠it)(eI:Array Value):Draws prog w A it [it,l] eI.size (λi v=>eI[i]? =some v) (λi h=>h.IsTupleIter it l i/\h.IsTuple l eI) where
 live:=λ_ _ st=>let⟨o,ho,_⟩:=st.1;⟨o,ho⟩
 frame:=λ_ _ _ st hk=> ⟨st.1.at λo e=>hk it (by simp) o e,let⟨o,ho,r⟩:=st.2;⟨o,hk l (by simp) _ ho,r⟩⟩
 item:=λi z Q E hi st hQ=>qC hh st.1 st.2 (λx h' hx xJ yn =>hQ x h' z.toks hx ⟨xJ,let⟨o,ho,r⟩:=st.2;⟨o,yn.extBut _ _ xQ ho,r⟩⟩ yn) λ_ _ q=>absurd hi (by simpa using q)
 done:=λz Q E st hE=>qC hh st.1 st.2 (λ_ _ q=>absurd (Gcm.mp q).1 (Gbs _)) λh' e _=>hE h' e
noncomputable def O6(K:ak)(l:Addr):It:=
 ⟨λi H=>∃xs x,SqT K H l xs/\xs[i]? =some x,λi H x H' =>∃p y,H p=none/\x= .ref p/\H' =upd H p (.tup [.int i,y])/\∀xs,SqT K H l xs->xs[i]? =some y,λi H=>∃xs,SqT K H l xs/\xs.length<=i⟩
theorem Bd{P:Program}{w:World}{K:ak}{elts:List Expr}{x1}{tp:Pos}(en it l:Addr)(xQ:en≠it)(hle:l≠en)(Sj:l≠it):Turn P w K (.Tuple elts x1 tp) (O6 K l) [en,it] en (λi h=>(∃old,IsEnum h en it i old)/\h.IsTupleIter it l i) where
 mem:=by simp
 obj:=λi h st b hb=>by
  obtain⟨⟨old,he⟩,o,e,c,d⟩:=st;rcases GaC.mp hb with z|z
  .subst z;exact⟨_,he,λv z=>by
    have z' :Data.fields _=Data.cell v:=z;cases z'⟩
  .have z' :b=it:=by simpa using z
   subst z';exact⟨o,e,λv z=>by rw[d] at z;cases z⟩
 keep:=λi h h' st k=> ⟨let⟨old,he⟩:=st.1;⟨old,k en (by simp) _ he⟩,st.2.at λo e=>k it (by simp) o e⟩
 item:=by
  intro X hP hw hK hc i ee s Z H E I hf st hg;subst hP hw hK;obtain⟨⟨old,he⟩,hit⟩:=st;obtain⟨xs,x,hq,hx⟩:=hg;obtain⟨eI,rv,p,hz⟩:=I.tuple hq;obtain⟨u,hu,ru⟩:=rv.get hx;have hi:i<eI.toArray.size:=by
   have:=(Gaj.mp hu).1
   simpa using this
  refine wpAny_pyNext_enum_itemD (DF (A:=X.A.in1) (I.ok.hd hc) it l Sj eI.toArray) he ⟨hit,p⟩ hi xQ (by simp[xQ,Ne.symm hle]) λu' h' tk yG ho xJ hT hsz kk=> ⟨_,rfl, ?_⟩;have hit1:=xJ.1;have eu:u' =u:=by
   have hu2:eI.toArray[i]? =some u:=by simpa using hu
   rw[hu2] at yG;cases yG;rfl
  subst eu;refine wpAny_letOwnedTupleGo_enum (s:={s with heap:=h',toks:=tk+1}) ho λh2 zo sb=> ?_;have hltE:en<s.heap.objs.size:=Gax he;have kept:∀b o,b∉[en,it]->s.heap.get? b=some o->h2.get? b=some o:=λb o hb e=>by
   have b1:b≠en:=λz=>hb (by simp[z]);have b2:b≠it:=λz=>hb (by simp[z]);exact(sb.2 b b1).trans (kk b o b1 b2 e)
  have zL:h2.get? s.heap.objs.size=some {cls:= .type "tuple",data:= .seq #[.int i tk,u']}:=(sb.2 _ (Gct hltE)).trans hT;have I1:Inv X ee Z (upd H s.heap.objs.size (.tup [.int i,x])) {s with heap:=h2,toks:=tk+1}:=I.qB (ch:=[en,it]) hf rfl rfl kept (Gaq _) (by
   refine⟨by simp[GbN],[.int i tk,u'],.cons ⟨_,rfl⟩ (.cons ru .nil),_,zL,rfl,0,rfl⟩)
  refine⟨.ref s.heap.objs.size,_,I1,rfl,⟨_,x,I.fresh,rfl,rfl,λys hy=>by rw[I.sS hy hq];exact hx⟩,⟨⟨u',by simpa using zo⟩,hit1.at λo e=>(sb.2 it (Ne.symm xQ)).trans e⟩,λb hb=> ?_⟩;obtain⟨o,ob,_⟩:∃o,s.heap.get? b=some o/\True:=by
   rcases GaC.mp hb with z|z
   .subst z;exact⟨_,he,trivial⟩
   .have z' :b=it:=by simpa using z
    subst z';obtain⟨o,e,_⟩:=hit;exact⟨o,e,trivial⟩
  rw[ah (GaO (Gax ob))];exact(hf b hb).1
 done:=by
  intro X hP hw hK hc i ee s Z H E I hf st hg;subst hP hw hK;obtain⟨⟨old,he⟩,hit⟩:=st;obtain⟨xs,hq,hx⟩:=hg;obtain⟨eI,rv,p,hz⟩:=I.tuple hq;obtain⟨f0,f1,f2,f3,f4,f5⟩:=hf it (by simp);have hl:=rv.length;have fe:FO s.heap en "enumerate" _:=⟨_,he,rfl,rfl⟩
  have pt:s.heap.IsTuple l eI.toArray:=p
  wp_walk using GbO fe.ty F.slot_enumerate_next,Gby F.slot_enumerate_next fe.ty F.entry_enumerate_next (ha:=F.args_enumerate_next_1 _),jA (i:=2) (x:= .ref it) fe rfl,qC (A:=X.A.in1) (I.ok.hd hc) hit pt
  .exactλx h' q=>absurd (Gcm.mp q).1 (by simp;lia)
  .exactλh' e _ eb q=>Gab (uJ q (Gao ⟨rfl,I.turned (t' :=s.toks) (λb o hb e=>eb b o hb e) f0 f1 f3 f4 f5⟩))
 self:=λ_ _ _ _ _ st h=>let⟨old,he⟩:=st.1;Gdq he h
theorem G3{prog:Program}{w:World}{A:Around}{E:Value->Shared->Prop}{z:Shared}{b:Bool}{Q:Bool->Shared->Prop}(h:∀b,Q b z):wpAny (model prog w) A (pure b) Q E z:=Gao (h b)
theorem wq(l:Addr)(items:Array Value):
  Meets (Builtin.«enumerate.__new__» ⟨[.type "enumerate",.ref l],[]⟩) (λ_ R s=>s.heap.IsTuple l items/\
   R (.ok (.ret (.ref (s.heap.objs.size+1)))) {s with heap:=(s.heap.push {cls:= .type "tuple_iterator",data:= .fields #[.ref l,.int 0 0]}).push {cls:= .type "enumerate",data:= .fields #[.none,.bool false,.ref s.heap.objs.size,rawInt 0,.none,.none]}}):=by
 apply Meets.of_wp;rintro prog w A R s ⟨hl,h⟩;have sub:=sub_enumerate
 wp_walk using Gde hl,wpAny_stack_any
 intro st;refine G3 λshort=> ?_;have sz:(s.heap.push {cls:= .type "tuple_iterator",data:= .fields #[.ref l,.int 0 0]}).objs.size=s.heap.objs.size+1:=Gdh ..;rw[<-sz] at h;cases short<;>wp_walk using Gde hl<;>exact⟨_,rfl,h⟩
theorem Be{prog:Program}{w:World}{A:Around}{E:Value->Shared->Prop}{z:Shared}{l:Addr}{items:Array Value}{Q:Value->Shared->Prop}(hL:z.heap.IsTuple l items)
  (h:∀h',IsEnum h' (z.heap.objs.size+1) z.heap.objs.size 0 .none->h'.IsTupleIter z.heap.objs.size l 0->(∀b o,z.heap.get? b=some o->h'.get? b=some o)->Q (.ref (z.heap.objs.size+1)) {z with heap:=h' }):
  wpAny (model prog w) A (call (.type "enumerate") [.ref l]) Q E z:=by
 have sz:(z.heap.push {cls:= .type "tuple_iterator",data:= .fields #[.ref l,.int 0 0]}).objs.size=z.heap.objs.size+1:=Gdh ..;have en:IsEnum ((z.heap.push {cls:= .type "tuple_iterator",data:= .fields #[.ref l,.int 0 0]}).push {cls:= .type "enumerate",data:= .fields #[.none,.bool false,.ref z.heap.objs.size,rawInt 0,.none,.none]}) (z.heap.objs.size+1) z.heap.objs.size 0 .none:=sz▸GaJ _ rfl;exact callType_new F.called_enumerate (by decide) (F.typeCall_enumerate_1 _) (F.newCall_enumerate_1 _) (λ_=>F.args_object_init_2 _ _) F.entry_enumerate_new (wq l items) ⟨hL,⟨_,en,rfl⟩,h _ en ⟨_,Gai _ (GaJ _ rfl),rfl,rfl⟩ λb o q=>Gai _ (Gai _ q)⟩
def O7(K:ak)(tl:TA):TI:=λZ H R=>tl Z H λvs H1=>∃l,vs=[.ref l]/\(((∃xs,SqL K H1 l xs)/\R (Ite K l) H1)\/((∃xs,SqT K H1 l xs)/\R (O6 K l) H1))
theorem IS{elts:List Expr}{x1}{tp p:Pos}{ta:TA}(hg:Gl X "enumerate")(hm:X.mg "enumerate"=none)(ha:PA X [a] ta)(hs:starEach [a] X.env=[(false,eval a X.env)]:=by rfl):PI X (.Tuple elts x1 tp) (.Call (.Name "enumerate" p) [a] [] pos) (O7 X.K ta):=by
 intro ee s Z H R I h;refine Call_ (lT I hg hm uG (Gcg (thn (ha pos ee s Z H _ I h) λus s1 ⟨vs,H1,I1,r1,q1⟩=> ?_) hs rfl));obtain⟨l,e,q1⟩:=q1;subst e;cases r1 with
 |cons r rr=>
  cases rr;cases r;have RO:∀b∈[s1.heap.objs.size+1,s1.heap.objs.size],lU X ee H1 b:=λb hb=>by
   rcases GaC.mp hb with z|z
   .subst z;exact I1.D5 (Gdu _) (I1.hok.fresh (Gdu _))
   .have z' :b=s1.heap.objs.size:=by simpa using z
    subst z';exact I1.D5 (Gaq _) (I1.hok.fresh (Gaq _))
  rcases q1 with⟨⟨xs,hq⟩,q⟩| ⟨⟨xs,hq⟩,q⟩
  .obtain⟨eI,rv,pl,hz⟩:=I1.list hq;refine call_enumerate_list pl.isList λh' he hit hsz kk=> ?_;refine Gdq (s:={s1 with heap:=h' }) he ?_;exact⟨s1.heap.objs.size+1,[s1.heap.objs.size+1,s1.heap.objs.size],_,_,H1,rfl,I1.kept (t' :=s1.toks) kk,DD _ _ l (Nat.succ_ne_self _),⟨⟨.none,he⟩,hit⟩,RO,q⟩
  .obtain⟨eI,rv,pl,hz⟩:=I1.tuple hq;have hU:l<s1.heap.objs.size:=pl.lt;refine Be (show s1.heap.IsTuple l eI.toArray from pl) λh' he hit kk=> ?_;refine Gdq (s:={s1 with heap:=h' }) he ?_;exact⟨s1.heap.objs.size+1,[s1.heap.objs.size+1,s1.heap.objs.size],_,_,H1,rfl,I1.kept (t' :=s1.toks) kk,Bd _ _ l (Nat.succ_ne_self _) (GaO (Gdp hU)) (GaO hU),⟨⟨.none,he⟩,hit⟩,RO,q⟩
theorem IT{elts:List Expr}{x1}{tp p:Pos}(hg:Gl X "enumerate")(hm:X.mg "enumerate"=none)(he:PEd X e f)(hs:starEach [e] X.env=[(false,eval e X.env)]:=by rfl):PId X (.Tuple elts x1 tp) (.Call (.Name "enumerate" p) [e] [] pos) (C7 f):=by
 refine(IS hg hm (dG he gS hs) hs).aG ?_;rintro Z H R ⟨H0,eF,env,ds,E,hf,k⟩;obtain⟨⟨kd,d⟩,hr,hf⟩:=eD hf;split at hf
 .cases hf
 rename_i hk;split at hf
 .rename_i xs hd;have xr :d= .lst xs:=hd;subst xr;cases hf;refine⟨H0,eF,env,[⟨kd,.lst xs⟩],E,by unfold a4 a8;rw[hr];rfl,λvs H1 s1 Rs=> ?_⟩;cases Rs with
  |cons Rv tl=>
   cases tl;have ii:=Rv.inn;have yI:=Ci E rfl hk Rv;have E1:=E.mono s1;cases ii with
   | @lst la lv _ h r=>
    refine⟨_,rfl,.inl ⟨⟨_,.inl h⟩,k _ H1 s1 λHi keep=> ?_⟩⟩;have hh:Rd Hi la (.lst lv):=by
     rcases h with h| ⟨o,h⟩
     .exact .inl (keep _ _ h (yI _ rfl))
     .exact .inr ⟨o,keep _ _ h (yI _ rfl)⟩
    refine⟨λi d hd=> ?_,⟨_,.inl hh,by rw[jb,r.1];exact Gaq _⟩⟩;rw[jc] at hd;obtain⟨y,hy,rfl⟩:=Gap.mp hd;obtain⟨v,h1,h2⟩:=r.get hy;refine⟨⟨_,v,.inl hh,h1⟩,λz H2 ⟨p,w,hp,ez,eH,ew⟩=> ?_⟩;subst ez eH;have:=ew _ (.inl hh);rw[h1] at this;cases this
    refine⟨aW hp, ?_⟩;have rp:=E1.kS keep h2;rw[show(((0+i:Nat)):Int)=(i:Int) by simp];exact cK hp (.cons (.int _) (.cons rp .nil))
 .rename_i xs hd;have xr :d= .tup xs:=hd;subst xr;cases hf;refine⟨H0,eF,env,[⟨kd,.tup xs⟩],E,by unfold a4 a8;rw[hr];rfl,λvs H1 s1 Rs=> ?_⟩;cases Rs with
  |cons Rv tl=>
   cases tl;have ii:=Rv.inn;have E1:=E.mono s1;cases ii with
   | @tup la lv _ h r=>
    refine⟨_,rfl,.inr ⟨⟨_,SqT.of h⟩,k _ H1 s1 λHi keep=> ?_⟩⟩;have hh:Hi la=some (.tup lv):=keep _ _ h λw=>E1.fh w h trivial;refine⟨λi d hd=> ?_,⟨_,SqT.of hh,by rw[jb,r.1];exact Gaq _⟩⟩;rw[jc] at hd;obtain⟨y,hy,rfl⟩:=Gap.mp hd;obtain⟨v,h1,h2⟩:=r.get hy;refine⟨⟨_,v,SqT.of hh,h1⟩,λz H2 ⟨p,w,hp,ez,eH,ew⟩=> ?_⟩;subst ez eH;have:=ew _ (SqT.of hh);rw[h1] at this;cases this
    refine⟨aW hp, ?_⟩;have rp:=E1.kS keep h2;rw[show(((0+i:Nat)):Int)=(i:Int) by simp];exact cK hp (.cons (.int _) (.cons rp .nil))
 .cases hf
end
open PySem PySem.Spec PyProof.Rows L2
open PySem PySem.Spec PyProof.Rows L2
namespace Fr
end Fr
open PySem PySem.Spec PyProof.Rows L2
section
variable{X:Cx}{e a b c:Expr}{f g h:DE}{pos:Pos}
theorem G4{xs:List V}{eI:List Value}(r:Vals xs eI){x:V}{u:Value}(hx:RelV x u)(j:Int):Vals (fR xs j x) (PySem.W.kl_ins eI j u):=by
 have hl:=r.length;unfold fR PySem.W.kl_ins;rw[hl];have tk:∀{xs:List V} {eI:List Value} (r:Vals xs eI) (n:Nat),Vals (xs.take n) (eI.take n):=by
  intro xs eI r;induction r with
  |nil=>intro n;simp;exact .nil
  |cons h t ih=>intro n;cases n with
   |zero=>exact .nil
   |succ n=>exact .cons h (ih n)
 have dr:∀{xs:List V} {eI:List Value} (r:Vals xs eI) (n:Nat),Vals (xs.drop n) (eI.drop n):=by
  intro xs eI r;induction r with
  |nil=>intro n;simp;exact .nil
  |cons h t ih=>intro n;cases n with
   |zero=>exact .cons h t
   |succ n=>exact ih n
 exact(tk r _).append (.cons hx (dr r _))
def IU:V->List V->Hp->VK->Prop:=λx vs H Q=>∃l xs j y,x= .ref l/\vs=[.int j,y]/\H l=some (.lst xs)/\xs.length<sizeLine/\-(2^62)<=j/\j<2^62/\Q .non (upd H l (.lst (fR xs j y)))
theorem DH:MtM X "list.insert" IU:=by
 intro ee z Z H x vs v us Q I rx rv h;obtain⟨l,xs,j,y,rfl,rfl,hH,hz,h1,h2,q⟩:=h;cases rx;cases rv with
 |cons r1 t1=>
  cases t1 with
  |cons r2 t2=>
   cases t2;obtain⟨t,rfl⟩:=r1;rename_i u;obtain⟨_,eI,n,r,hl,e⟩:=I.Il hH;have hfit:Builtin.List.listFitsIndex j=true:=by simp[Builtin.List.listFitsIndex];lia
   refine call_meets F.slot_list_insert ⟨_,e,rfl⟩ F.entry_list_insert (F.args_list_insert_3 _ _ _) (PySem.AutoSeq1.list_insert_list_int_val_1 l eI.toArray n j t u (by simp[hfit]) (by rw[Gam];lia)) ⟨e, ?_⟩;refine⟨.non,_,I.KW (its' :=PySem.W.kl_ins eI j u) hH e ?_ (G4 r r2 j) ?_,rfl,q⟩
   .show(eI.toArray.extract 0 _).push u++eI.toArray.extract _=_;rw[PySem.W.kl_ins_eq];simp only[Gam]
    rfl
   .rw[t9];lia
theorem DJ{i:Nat}{x:Str}{px apos eM:Pos}(hN:X.N[i]? =some x)(hv:Vis X.env.scope x)(he:PEd X e f)(ha:PEd X a g)(hd:(x==("__debug__":Str))=false:=by decide)(xn:(x==("__classdict__":Str))=false:=by decide)
  (xi:starEach [e,a] X.env=(false,eval e X.env)::starEach [a] X.env:=by rfl)(eY:starEach [a] X.env=[(false,eval a X.env)]:=by rfl)
  (eX:attributeBase (.Name x px) "insert" X.env (eval (.Name x px) X.env)=eval (.Name x px) X.env:=by rfl)
  (xB:((backTo eM (starEach [e,a] X.env)).all (λx=> !x.1)&&(backToKw eM (keywordEach [] X.env)).all (λx=>x.1.isSome)
   &&decide (([e,a]:List Expr).length+([]:List Keyword).length+(if([]:List Keyword).isEmpty then 0 else 1)<30))=true:=by rfl)
  (eW:(apos.endLine==eM.line)=true:=by rfl)(hs:swapsWith (.Call (.Attribute (.Name x px) "insert" apos) [e,a] [] eM) none pos.line X.env=pure false:=by rfl):
  PSd X (.Expr (.Call (.Attribute (.Name x px) "insert" apos) [e,a] [] eM) pos) (NQ i f g):=by
 refine(pF (BZ Gcy PySem.F.slot_list_insert PySem.F.type_list_insert DH (jY hN hv hd xn) (dG he (dG ha gS eY) xi) eX xB eW xi (by rw[eY];rfl)) hs).aG ?_;rintro D Z H ⟨H0,eF,env,o,E,e,k⟩;obtain⟨r,hr,e⟩:=eD e;obtain⟨r2,RC,e⟩:=eD e;obtain⟨d,hd,e⟩:=eD e;have q:=n4 hd;obtain⟨kd,rd⟩:=r;split at e
 .rename_i xs j hj;have hj' :rd= .int j:=hj;split at e
  .rename_i z;rw[Gay,Gay] at z;obtain⟨z1,z2,z3⟩:=z;cases e;subst hj';obtain⟨a,h1,h2,h3,h4,h5,h6⟩:=E.ow i _ (.inl q);obtain⟨vs,hH,rp⟩:=n5 h4 h6;refine⟨_,h1,.inl ⟨rfl,vs,.inl (.inl hH)⟩,H0,eF,env,[⟨kd,.int j⟩,r2],E,by unfold a4 a8;rw[hr,RC];rfl,λws H2 s2 Rs=> ?_⟩;cases Rs with
   | @cons _ v _ _ R1 tl=>
    cases tl with
    | @cons _ v2 _ _ R2 tl=>
    cases tl;have i1:=R1.inn;cases i1;have xY:=s2 _ _ hH;have sj:=fj z3;refine⟨a,vs,j,v2,rfl,rfl,xY,by rw[<-rp.1,<-eR];exact Gar z2,sj.1,sj.2, ?_⟩;have E2:=E.mono s2;have rep1:=R2.rep E z1;have rp1:aN X.K (Cln eF env Z) H2 xs vs:=rp.gen (.of_same s2) λ_ f _=>f;have rp2:aN X.K (Cln eF env Z) H2 (fR xs j r2.d) (fR vs j v2):=by
     unfold fR;rw[<-rp1.1];exact(rp1.take _).append (.cons rep1 (rp1.drop _))
    obtain⟨E3,p3⟩:=E2.change (d' := .lst (fR xs j r2.d)) (o:= .lst (fR vs j v2)) q h1 trivial rfl (.lst (.inl az) (rp2.gen (λb o hb w=>by
     have:b≠a:=by
      rintro rfl;rcases w with w|w
      .exact w.2 i (by rw[q];trivial) h1
      .rw[xY] at hb;cases hb;exact w
     rw[ah this];exact hb) λ_ f _=>f))
    exact k Z _ E3 ((Stp.of_same s2).trans p3)
  .cases e
 .cases e
theorem qD{α β:Type}{F:α->β->Prop}:∀{xs:List α} {ys:List β},xs.length=ys.length->(∀(i:Nat) x y,xs[i]? =some x->ys[i]? =some y->F x y)->Paired F xs ys
 |[],[],_,_=> .nil
 |[],_::_,h,_=>by cases h
 |_::_,[],h,_=>by cases h
 |x::xs,y::ys,h,g=> .cons (g 0 x y rfl rfl) (qD (by simpa using h) λi a b ha hb=>g (i+1) a b (by simpa using ha) (by simpa using hb))
theorem qE{K:ak}{F:Addr->Prop}{H:Hp}{α:Type}{dd:α->D}{vv:α->V}(h:∀n,Rep K F H (dd n) (vv n)):∀{l:List α},aN K F H (l.map dd) (l.map vv)
 |[]=> .nil
 |x::l=> .cons (h x) (qE h)
end
def O8(prog:Program)(w:World)(A:Around)(op:CmpOp)(G:Shared->Prop)(P:Nat->Value->Prop)(bt:Nat->Nat->Bool):Prop:=
 ∀i j vi vj (z:Shared) (Q:Value->Shared->Prop) (E:Value->Shared->Prop),G z->P i vi->P j vj->Q (.bool (bt i j)) z->wpAny (model prog w) A (richCompare op vi vj) Q E z
noncomputable def mmO(mx:Bool):CmpOp:=bif mx then .Gt else .Lt
noncomputable def mmN(mx:Bool):String:=bif mx then "max.loop" else "min.loop"
noncomputable def jh:Option Value->Array Value
 |none=>#[]
 |some v=>#[v,v]
section
variable{prog:Program}{w:World}{A:Around}{R:Result->Shared->Prop}{I B:Addr}{kw:List (Str×Value)}{z:Shared}
theorem uL{old:Option Value}{v:Option Value}{Q:Unit->Shared->Prop}{E:Value->Shared->Prop}(e:wk z.heap B (jh old))(h:∀h',wk h' B (jh v)->(∀b o,b≠B->z.heap.get? b=some o->h'.get? b=some o)->Q () {z with heap:=h' }):
  wpAny (model prog w) A (updateSeq B λ_=>jh v) Q E z:=by
 obtain⟨c,e⟩:=e;have l1:(jh old).size<=2:=by cases old<;>simp[jh]
 have l2:(jh v).size<=2:=by cases v<;>simp[jh]
 have:=GbN;refine GdL e rfl (h _ ⟨_,GbH _ e rfl⟩ λb o n q=> ?_) (by lia) (by lia);rw[GbA _ _ (Ne.symm n),q]
theorem Cy(mx:Bool){old:Option Value}
  (h:wpAny (model prog w) A.in1 (pyNext (.ref I)) (λr s' =>wk s'.heap B (jh old)/\match r,old with
   |none,some v=>∀h',(∀b o,b≠B->s'.heap.get? b=some o->h'.get? b=some o)->R (.ok (.ret v)) {s' with heap:=h' }
   |none,none=>∃k d t,kw=(k,d)::t/\R (.ok (.ret d)) s'
   |some x,some v=>∃bt:Bool,(∀Q E,Q (.bool bt) s' ->wpAny (model prog w) A.in1 (richCompare (mmO mx) x v) Q E s')/\∀h',wk h' B (jh (some (if bt then x else v)))->(∀b o,b≠B->s'.heap.get? b=some o->h'.get? b=some o)->codeAny (model prog w) A (.builtin (mmN mx) ⟨[.ref I,.none,.ref B],kw⟩) R {s' with heap:=h' }
   |some x,none=>∀h',wk h' B (jh (some x))->(∀b o,b≠B->s'.heap.get? b=some o->h'.get? b=some o)->codeAny (model prog w) A (.builtin (mmN mx) ⟨[.ref I,.none,.ref B],kw⟩) R {s' with heap:=h' }) (λ_ _=>False) z)(hB:wk z.heap B (jh old)):
  codeAny (model prog w) A (.builtin (mmN mx) ⟨[.ref I,.none,.ref B],kw⟩) R z:=by
 obtain⟨c,e⟩:=id hB;have quiet:Code.quiet (.builtin (mmN mx) ⟨[.ref I,.none,.ref B],kw⟩)=true:=by cases mx<;>exact plainId_quiet (by decide+kernel) _
 cases mx
 all_goals
  first
  |(apply GdM F.entry_min_loop;rw[GdN F.plain_min_loop])
  |(apply GdM F.entry_max_loop;rw[GdN F.plain_max_loop])
  refine Gab (wpAny_seqItems e rfl (Gab (wpAny_tryCatch (GbX h (λr s' q=> ?_) λ_ _ q=>q.elim))));obtain⟨e',q⟩:=q;rcases r with _|x<;>rcases old with _|v
  .obtain⟨k,d,t,rfl,q⟩:=q;exact Gab (Gco (Gao q))
  .exact Gab (uL (v:=none) e' λh' _ k=>Gab (Gdv (Gao (q h' k))))
  .exact Gab (Gao (Gab (uL (v:=some x) e' λh' l k=>Gao ⟨quiet,q h' l k⟩)))
  .obtain⟨bt,q1,q2⟩:=q;refine Gab (Gao (Gab (wpAny_tryCatch (GcA (Gab (q1 _ _ (Gab (GcA (Gca (Gab (Gdv (Gao ?_))))))))))));cases bt
   .exact Gab (Gdv (Gao ⟨quiet,q2 _ e' λ_ _ _ k=>k⟩))
   .exact Gab (uL (v:=some x) e' λh' l k=>Gab (Gdv (Gao ⟨quiet,q2 h' l k⟩)))
variable{fp wr:List Addr}{n:Nat}{P:Nat->Value->Prop}{St:Nat->Heap->Prop}{G:Shared->Prop}
theorem Cz(mx:Bool)(W:Walks prog w A.in1 I fp wr n P St)(bt:Nat->Nat->Bool)(zI:O8 prog w A.in1 (mmO mx) G P bt)(hf:B∉fp)
  (hG:∀h' tk,(∀b o,b∉wr->b≠B->z.heap.get? b=some o->h'.get? b=some o)->G {z with heap:=h',toks:=tk})
  (hE:n=0->∃k d t,kw=(k,d)::t/\∀h' tk,(∀b o,b∉wr->b≠B->z.heap.get? b=some o->h'.get? b=some o)->R (.ok (.ret d)) {z with heap:=h',toks:=tk})
  (hR:0<n->∀v h' tk,P (argBest bt (n -1)) v->(∀b o,b∉wr->b≠B->z.heap.get? b=some o->h'.get? b=some o)->R (.ok (.ret v)) {z with heap:=h',toks:=tk}):
  ∀(k i:Nat) (old:Option Value) (h:Heap) (tk:Nat),i+k=n->St i h->wk h B (jh old)->(∀b o,b∉wr->b≠B->z.heap.get? b=some o->h.get? b=some o)->(match old with|none=>i=0|some v=>0<i/\P (argBest bt (i -1)) v)->
   codeAny (model prog w) A (.builtin (mmN mx) ⟨[.ref I,.none,.ref B],kw⟩) R {z with heap:=h,toks:=tk}
 |0,i,old,h,tk,hk,st,l,kp,ho=>by
  cases hk;refine Cy mx (W.done {z with heap:=h,toks:=tk} _ _ st λh' zi k=> ⟨let⟨c,e⟩:=l;⟨c,k B _ (λm=>hf (W.sub _ m)) e⟩, ?_⟩) l;have kp' :∀b o,b∉wr->b≠B->z.heap.get? b=some o->h'.get? b=some o:=λb o q1 q2 q=>k b o q1 (kp b o q1 q2 q);cases old with
  |none=>
   obtain⟨a,d,t,q1,q2⟩:=hE ho;exact⟨a,d,t,q1,q2 h' zi kp'⟩
  |some v=>exactλh2 k2=>hR ho.1 v h2 zi ho.2 λb o q1 q2 q=>k2 b o q2 (kp' b o q1 q2 q)
 |k+1,i,old,h,tk,hk,st,l,kp,ho=>by
  refine Cy mx (W.item i {z with heap:=h,toks:=tk} _ _ (by lia) st λx h' zi hP xI k' => ⟨let⟨c,e⟩:=l;⟨c,k' B _ (λm=>hf (W.sub _ m)) e⟩, ?_⟩) l;have kp' :∀b o,b∉wr->b≠B->z.heap.get? b=some o->h'.get? b=some o:=λb o q1 q2 q=>k' b o q1 (kp b o q1 q2 q);have go:∀v h2,wk h2 B (jh (some v))->(∀b o,b≠B->h'.get? b=some o->h2.get? b=some o)->P (argBest bt i) v->codeAny (model prog w) A (.builtin (mmN mx) ⟨[.ref I,.none,.ref B],kw⟩) R {z with heap:=h2,toks:=zi }:=λv h2 l2 k2 hv=>
   Cz mx W bt zI hf hG hE hR k (i+1) (some v) h2 zi (by lia) (W.frame _ _ _ xI λb m o q=>k2 b o (λe=>hf (e▸m)) q) l2 (λb o q1 q2 q=>k2 b o q2 (kp' b o q1 q2 q)) ⟨Nat.succ_pos _,hv⟩
  cases old with
  |none=>
   cases ho
   exactλh2 l2 k2=>go x h2 l2 k2 hP
  |some v=>
   obtain⟨pos,hv⟩:=ho;obtain⟨j,rfl⟩:∃j,i=j+1:=⟨i -1,by lia⟩
   refine⟨bt (j+1) (argBest bt j),λQ E q=>zI _ _ x v _ Q E (hG h' zi kp') hP hv q,λh2 l2 k2=>go _ h2 l2 k2 ?_⟩;show P (if bt (j+1) (argBest bt j)=true then j+1 else argBest bt j) _;split
   .exact hP
   .exact hv
theorem Bf(a d:Value):argsOk "min" ⟨[a],[(Str.ofString "default",d)]⟩:=by unfold argsOk;kernel_rfl
theorem Bg(a d:Value):argsOk "max" ⟨[a],[(Str.ofString "default",d)]⟩:=by unfold argsOk;kernel_rfl
noncomputable def mmF(mx:Bool):String:=bif mx then "max" else "min"
abbrev MMs(prog:Program)(w:World)(A:Around)(mx:Bool)(od:Option Value)(Q:Value->Shared->Prop)(it:Value)(s₂:Shared):Prop:=∃I fp wr n P St bt G,it= .ref I/\Walks prog w A.in1 I fp wr n P St/\St 0 s₂.heap/\(∀b∈fp,b<s₂.heap.objs.size)/\O8 prog w A.in1 (mmO mx) G P bt/\
 (∀h' tk,(∀b o,b∉wr->s₂.heap.get? b=some o->h'.get? b=some o)->G {s₂ with heap:=h',toks:=tk})/\(n=0->∃d,od=some d/\∀h' tk,(∀b o,b∉wr->s₂.heap.get? b=some o->h'.get? b=some o)->Q d {s₂ with heap:=h',toks:=tk})/\
 (0<n->∀v h' tk,P (argBest bt (n -1)) v->(∀b o,b∉wr->s₂.heap.get? b=some o->h'.get? b=some o)->Q v {s₂ with heap:=h',toks:=tk})
theorem n9(mx:Bool)(od:Option Value){E Q:Value->Shared->Prop}{it:Value}{s₂:Shared}(q:MMs prog w A mx od Q it s₂):codeAny (model prog w) A (.builtin (mmN mx) ⟨[it,.none,.ref s₂.heap.objs.size],od.toList.map λd=>(Str.ofString "default",d)⟩) (λr s' =>match r with| .ok (.ret v)=>Q v s' | .ok _=>False| .error e=>E e s') {s₂ with heap:=s₂.heap.push {cls:= .type "list",data:= .seq #[]}}:=by
 obtain⟨I,fp,wr,n,P,St,bt,G,rfl,W,st,lt,hc,hG,h0,hv⟩:=q;have up:∀{h' :Heap},(∀b o,b∉wr->b≠s₂.heap.objs.size->s₂.heap.get? b=some o->h'.get? b=some o)->∀b o,b∉wr->s₂.heap.get? b=some o->h'.get? b=some o:=λk b o q e=>k b o q (GaO (Gax e)) e;refine Cz (z:=s₂) mx W bt hc (λm=>Gbs _ (lt _ m)) (λh' tk k=>hG h' tk (up k)) (λn0=> ?_) (λp v h' tk hp k=>hv p v h' tk hp (up k)) n 0 none _ s₂.toks (Gbp _) (W.frame _ _ _ st λb _ o e=>Gai _ e) ⟨0,GaJ _ rfl⟩ (λb o _ _ e=>Gai _ e) rfl;obtain⟨d,rfl,hd⟩:=h0 n0;exact⟨_,d,_,rfl,λh' tk k=>hd h' tk (up k)⟩
theorem IV(mx:Bool)(od:Option Value){x:Value}{E Q:Value->Shared->Prop}(h:wpAny (model prog w) A.in1 (pyIter x) (MMs prog w A mx od Q) E z):wpAny (model prog w) A (call (.builtin (mmF mx)) [x] (od.toList.map λd=>(Str.ofString "default",d))) Q E z:=by
 have quiet:∀a,Code.quiet (.builtin (mmN mx) a)=true:=λa=>by cases mx<;>exact plainId_quiet (by decide+kernel) _
 cases mx<;>cases od
 .exact GcN F.kind_min F.plain_min F.entry_min (F.args_min1 _) (Gab (wpAny_of_eq (a:=[none,none]) rfl (Gab (Gao (Gab (on h λ_ _ q=>Gab (GaY (Gao ⟨quiet _,n9 _ _ q⟩))))))))
 .exact GcN F.kind_min F.plain_min F.entry_min (Bf _ _) (Gab (wpAny_of_eq (a:=[none,some _]) rfl (Gab (Gao (Gab (on h λ_ _ q=>Gab (GaY (Gao ⟨quiet _,n9 _ _ q⟩))))))))
 .exact GcN F.kind_max F.plain_max F.entry_max (F.args_max1 _) (Gab (wpAny_of_eq (a:=[none,none]) rfl (Gab (Gao (Gab (on h λ_ _ q=>Gab (GaY (Gao ⟨quiet _,n9 _ _ q⟩))))))))
 .exact GcN F.kind_max F.plain_max F.entry_max (Bg _ _) (Gab (wpAny_of_eq (a:=[none,some _]) rfl (Gab (Gao (Gab (on h λ_ _ q=>Gab (GaY (Gao ⟨quiet _,n9 _ _ q⟩))))))))
end
section
variable{X:Cx}{e a b c:Expr}{f g h:DE}{pos:Pos}
def Lo(K:ak)(dv:V)(t:TA):TE:=λZ H Q=>t Z H λvs H1=>∃(p:Addr) (ns:List Int),vs=[.ref p]/\(SqL K H1 p (ns.map V.int)\/SqT K H1 p (ns.map V.int))/\Q (match ns with|[]=>dv|n::ns=> .int (pA n ns)) H1
theorem IW{p pos kp:Pos}{dx:Expr}{dv:V}{t:TA}(hc:X.calm=true)(hg:Gl X "max")(hm:X.mg "max"=none)(ha:PA X [e] t)(hd:PE X dx (tC dv))(hs:starEach [e] X.env=[(false,eval e X.env)]:=by rfl):PE X (.Call (.Name "max" p) [e] [⟨some "default",dx,kp⟩] pos) (Lo X.K dv t):=by
 intro ee z Z H Q I h;refine Gdb (lT I hg hm FJ ?_);refine PyProof.Rows.callWith_kw (thn (ha pos ee z Z H _ I h) λus s1 ⟨vs,H1,I1,r1,q1⟩=> ?_) (by rw[hs];rfl) (by rw[hs];rfl) rfl rfl;obtain⟨l,ns,e1,hq,q⟩:=q1;subst e1;cases r1 with
 |cons r rr=>
  cases rr;cases r;refine PyProof.Rows.kws_cons (thn (hd ee s1 Z H1 (λv H2=>v=dv/\H2=H1) I1 ⟨rfl,rfl⟩) λdu s2 ⟨v,H2,I2,r2,e2,e3⟩=>PyProof.Rows.kws_nil ?_);subst e2 e3;show wpAny _ _ (call (.builtin "max") [.ref l] [(Str.ofString "default",du)]) _ _ _;refine IV true (some du) (wc hc I2 hq λIt fp wr P St s₃ W st lt hP kept=> ⟨It,fp,wr,_,P,St,_,λ_=>True,rfl,W,st,lt,λi j vi vj zz Q' E' _ hi hj zB =>CmpOf.ints_gt (uH ns) (wg hP) i j vi vj zz Q' E' hi hj zB,λ_ _ _=>trivial,λhn=> ⟨du,rfl,λh' tk hk=> ?_⟩,λhn u h' tk hu hk=> ?_⟩)
  .cases ns with
   |nil=>exact⟨v,H2,kept h' tk hk,r2,q⟩
   |cons n ns=>simp at hn
  .cases ns with
   |nil=>simp at hn
   |cons n ns=>
    obtain⟨t,rfl⟩:=wg hP _ _ hu;rw[show((n::ns).map V.int).length -1=ns.length by simp,FP _ (Gaq _),Gcv];exact⟨.int (pA n ns),H2,kept h' tk hk,⟨t,rfl⟩,q⟩
theorem IY{p pos kp:Pos}{dx:Expr}{dd:D}{dv:V}(hc:X.calm=true)(hg:Gl X "max")(hm:X.mg "max"=none)(he:PEd X e f)(hd:PE X dx (tC dv))(Sr:∀K F H,Inn K F H dd dv)(ht:dd.top=false)(hs:starEach [e] X.env=[(false,eval e X.env)]:=by rfl):PEd X (.Call (.Name "max" p) [e] [⟨some "default",dx,kp⟩] pos) (mmE pA dd f):=by
 refine(IW hc hg hm (dG he gS hs) hd hs).aG ?_;rintro Z H Q ⟨H0,eF,env,rv,E,e,k⟩;obtain⟨r,hr,e⟩:=eD e;refine⟨H0,eF,env,[r],E,by unfold a4 a8;rw[hr];rfl,λvs H1 s1 Rs=> ?_⟩;cases Rs with
 |cons R1 tl=>
  cases tl;unfold mmD at e;obtain⟨ds,h1,e⟩:=eD e;obtain⟨ns,h2,e⟩:=Gap.mp e;obtain⟨p,vs,rfl,hq,rr⟩:=B8 R1.inn h1;rw[Cq rr h2] at hq;refine⟨p,ns,rfl,hq, ?_⟩;subst e;cases ns with
  |nil=>exact k _ _ s1 ((Sr _ _ _).rep λa _ w=>by rw[ht] at w;cases w)
  |cons n ns=>exact k _ _ s1 (.int _)
end
section
variable{prog:Program}{w:World}{A:Around}{E:Value->Shared->Prop}{z:Shared}
theorem G5{d:Addr}{es:Array DictEntry}{ep:Nat}{Q:Value->Shared->Prop}(hd:(d==sysModules)=false)(hm:kl z.heap d es ep)
  (hQ:Q (.ref z.heap.objs.size) {z with heap:=z.heap.push {cls:= .type "dict_keyiterator",data:= .fields #[.ref d,.int 0 0,.int es.size 0,.int ep 0]}}):wpAny (model prog w) A (pyIter (.ref d)) Q E z:=by
 have hT:=hm.ty;apply wpAny_pyIter_slot hT F.slot_dict_iter;apply Gby F.slot_dict_iter hT F.entry_dict_iter (ha:=F.args_dict_iter_1 _)
 wp_walk using GdF hT,uI hm,Cr hm,GaY
 .exact⟨_,rfl,_,_,⟨_,GaJ _ rfl,rfl⟩,GcO.lookup,hQ⟩
 .size_fits
theorem wx{it d:Addr}{i ep:Nat}{es:Array DictEntry}{Q:Option Value->Shared->Prop}(hh:A.handled=none)(hit:z.heap.IsKeyIter it d i es.size ep)(hm:kl z.heap d es ep)
  (hQ:∀e h',es[i]? =some e->h'.IsKeyIter it d (i+1) es.size ep->Heap.SameBut it z.heap h' ->Q (some e.key) {z with heap:=h' })(hE:∀h',es.size<=i->Heap.ExtBut it z.heap h' ->Q none {z with heap:=h' }):
  wpAny (model prog w) A (pyNext (.ref it)) Q E z:=by
 have hT:=hit.typeIs;have hf:FO z.heap it _ _:=hit
 wp_walk using GbO hT GcO,Gby GcO hT F.entry_dict_keyiterator_next (ha:=F.args_dict_keyiterator_next_1 _),uI hm,Cr hm,FQ hf,GcI hT
 rw[Kb];cases h:es[i]? with
 |some e=>
  wp_walk using GcI hT,wpAny_isOneOf_keyiter hT,gw hf
  .rintro h' ⟨f,hs⟩
   wp_walk using wpAny_isOneOf_keyiter f.ty
   exact⟨_,rfl,Gao (hQ e h' h f hs)⟩
  .show _<4;decide
 |none=>
  wp_walk using GcI hT,gw hf
  .rintro h' ⟨f,hs⟩;refine FR hh λh2 a k=>Gab (uJ k.2 (Gao (hE h2 (by simpa using h) λb o n e=>k.1 b o (hs.extBut b o n e))))
  .show _<4;decide
theorem DK(hh:A.handled=none)(I d:Addr)(xQ:d≠I)(es:Array DictEntry)(ep:Nat):Walks prog w A I [I,d] [I] es.size (λi v=>∃e,es[i]? =some e/\v=e.key) (λi h=>h.IsKeyIter I d i es.size ep/\kl h d es ep):=by
 have out:∀{b:Addr},b∉[I]->b≠I:=λh e=>h (e▸List.mem_singleton_self _);refine⟨by simp,λi h h' st k=> ⟨let⟨o,q,r⟩:=st.1;⟨o,k I (by simp) o q,r⟩,st.2.at (k d (by simp))⟩,λi z Q E hi st hQ=> ?_,λz Q E st hQ=> ?_,λ_ _ _ _ st q=>wpAny_pyIter_keyiter st.1 q⟩
 .exact wx hh st.1 st.2 (λe h' h f s=>hQ _ h' z.toks ⟨e,h,rfl⟩ ⟨f,st.2.at λo=>s.extBut d o xQ⟩ λb o hb=>s.extBut b o (out hb)) λ_ h=>absurd hi (Nat.not_lt.mpr h)
 .exact wx hh st.1 st.2 (λe h' h=>absurd (Gcm.mp h).1 (Gbs _)) λh' _ s=>hQ h' z.toks λb o hb=>s b o (out hb)
theorem Bh{R:Result->Shared->Prop}{d:Addr}{es:Array DictEntry}{ep:Nat}(hh:A.handled=none)(xk:(d==sysModules)=false)(hm:kl z.heap d es ep)(eO:es.size<=sizeLine)(S:Addr)(res:Value)(hS:Emp z.heap S)(R4:S≠d)
  (hR:∀h' tk xp c',(∀b o,b≠S->z.heap.get? b=some o->h'.get? b=some o)->h'.get? S=some {cls:= .type "list",dict:=none,data:= .seq xp c',slots:=#[]}->ItemsOf (λi v=>∃e,es[i]? =some e/\v=e.key) xp es.size->R (.ok (.ret res)) {z with heap:=h',toks:=tk}):
  wpAny (model prog w) A.in1 (Builtin.List.listExtendWith (.ref S) (.ref d) res) (λfin s' =>match fin with| .done f=>R (.ok f) s' | .again c' =>c'.quiet=true/\codeAny (model prog w) A c' R s') (λe s' =>R (.error e) s') z:=by
 have lS:S<z.heap.objs.size:=let⟨_,e⟩:=hS;Gax e
 have ld:d<z.heap.objs.size:=let⟨o,ho,_⟩:=hm;Gax ho
 have W:=(DK (prog:=prog) (w:=w) (A:=A.in1) hh z.heap.objs.size d (GaO ld) es ep).toS;have nS:S∉[z.heap.objs.size,d]:=by simp[R4,GaO lS]
 refine FT hm.ty rfl rfl (by simp[Builtin.List.listSameRef,R4]) (G5 xk hm (PySem.W.kdl_hint_dict (kl.ty (hm.at λo=>Gai _)) ⟨let⟨c,e⟩:=hS;⟨c,Gai _ e⟩,λh2 ⟨c,e⟩ k=> ?_⟩));refine codeAny_extend_loopS W eO S nS res es.size 0 _ #[] c rfl (GbB _) ⟨⟨_,k _ _ (Gct lS) (GaJ _ rfl),rfl,rfl⟩,hm.at λo e=>k d o (Ne.symm R4) (Gai _ e)⟩ e (ItemsOf.nil _) λs' xp c' mv e' it=> ?_;rw[Moved.eq_with mv];refine hR _ _ xp c' (λb o n e=>mv.heap b o (λm=> ?_) (k b o n (Gai _ e))) e' it;have:=Gax e;simp only[GaC,List.not_mem_nil,or_false] at m;rcases m with rfl|rfl
 .exact n rfl
 .exact Gbs _ this
theorem su{Q:Value->Shared->Prop}{d:Addr}{es:Array DictEntry}{ep:Nat}(hh:A.handled=none)(xk:(d==sysModules)=false)(hm:kl z.heap d es ep)(eO:es.size<=sizeLine)
  (hQ:∀h' tk xp c',(∀b o,z.heap.get? b=some o->h'.get? b=some o)->h'.get? z.heap.objs.size=some {cls:= .type "list",dict:=none,data:= .seq xp c',slots:=#[]}->ItemsOf (λi v=>∃e,es[i]? =some e/\v=e.key) xp es.size->Q (.ref z.heap.objs.size) {z with heap:=h',toks:=tk}):
  wpAny (model prog w) A (call (.type "list") [.ref d]) Q E z:=by
 have old:∀{b o},z.heap.get? b=some o->b≠z.heap.objs.size:=λe=>GaO (Gax e);refine DB λh1 e k _=>Bh (A:=A.in1) (z:={z with heap:=h1}) hh xk (hm.at (k d)) eO _ _ e (let⟨o,ho,_⟩:=hm;Ne.symm (old ho)) λh' tk xp c' k' e' it=> ?_;exact⟨rfl,hQ h' tk xp c' (λb o q=>k' b o (old q) (k b o q)) e' it⟩
end
section
variable{X:Cx}{e a b c:Expr}{f g h:DE}{pos:Pos}
def Bi(H:Hp)(eE:List (List Key×V))(ks:List V):Prop:=ks.length=eE.length/\∀(i:Nat) p v,eE[i]? =some p->ks[i]? =some v->∃b,v= .ref b/\H b=some (.tup (p.1.map kV))
theorem Lp{ee:List (Addr×Obj)}{Z:L2.St}{H:Hp}{z:Shared}{d:Addr}{eE:List (List Key×V)}(I:Inv X ee Z H z)(e:H d=some (.dT eE)):eE.length<=sizeLine/\(d==sysModules)=false/\∃(es:Array DictEntry) (ep:Nat) (bs:List Addr),kl z.heap d es ep/\es.size=eE.length/\bs.length=eE.length/\
  (∀(i:Nat) p b,eE[i]? =some p->bs[i]? =some b->H b=some (.tup (p.1.map kV)))/\∀(i:Nat) en b,es[i]? =some en->bs[i]? =some b->en.key= .ref b:=by
 obtain⟨h1,h2,xs,kt,o,es,ep,ho,hx,hd,he,_⟩:=C2 I.hok e;have hl:eE.length=xs.length:=Paired.length kt;have hs:es.size=xs.length:=by rw[<-GbQ,he,Gac]
 refine⟨h1,h2,es,ep,xs.map (·.2.1),⟨o,ho,hx,hd⟩,by lia,by simp[hl], ?_, ?_⟩
 .have all:∀{l:List (List Key×V)} {m:List (List Key×Addr×Value)},KT H l m->∀(i:Nat) p b,l[i]? =some p->(m.map (·.2.1))[i]? =some b->H b=some (.tup (p.1.map kV)):=by
   intro l m q;induction q with
   |nil=>intro i p b h;simp at h
   | @cons p q ps qs hq t ih=>
    intro i p' b h1 h2;cases i with
    |zero=>
     simp at h1 h2;subst h1 h2;exact hq.2.1
    |succ i=>exact ih i p' b (by simpa using h1) (by simpa using h2)
  exact all kt
 .intro i en b h3 h4;have h5:es.toList[i]? =some en:=by simpa using h3
  rw[he,Gah] at h5;rw[Gah] at h4;cases q:xs[i]? with
  |none=>rw[q] at h4;cases h4
  |some x=>
   rw[q] at h4 h5;cases h4;cases h5
   rfl
theorem uM(hc:X.calm=true):fY X (.type "list") (λxs H Q=>∃a eE,xs=[.ref a]/\H a=some (.dT eE)/\∀l ks,H l=none->Bi H eE ks->Q (.ref l) (upd H l (.lst ks))):=by
 intro ee z Z H xs us Q I r h;obtain⟨d,eE,rfl,hp,q⟩:=h;obtain⟨u,rfl,rx⟩:=vals1 r;cases rx;obtain⟨h1,h2,es,ep,bs,hr,e1,e2,e3,e4⟩:=Lp I hp;refine su (I.ok.hd hc) h2 hr (by lia) λh' tk xp c' hk hS xS=> ?_;refine⟨.ref z.heap.objs.size,_,I.laid (a:=z.heap.objs.size) (o:= .lst (bs.map V.ref)) hk (Gaq _) ⟨by rw[Gac];lia,xp.toList,c', ?_,by simpa using hS⟩,rfl,q _ _ I.fresh ⟨by rw[Gac,e2],λi p v zC hv=> ?_⟩⟩
 .refine qD (by simp[xS.1,e2,e1]) λi x y hx hy=> ?_;rw[Gah] at hx;obtain⟨b,hb,rfl⟩:=Gap.mp hx;obtain⟨en,h3,rfl⟩:=xS.2 i y (by simpa using hy);exact e4 i en b h3 hb
 .rw[Gah] at hv;obtain⟨b,hb,rfl⟩:=Gap.mp hv;exact⟨b,rfl,e3 i p b zC hb⟩
theorem CA{K:ak}{F:Addr->Prop}{H:Hp}(k:Key):Rep K F H (Ds k) (kV k):=by
 cases k with
 |inl i=>exact .int i
 |inr x=>exact .str x
theorem DP{K:ak}{F:Addr->Prop}{H:Hp}{eE:List (List Key×D)}{ws:List (List Key×V)}{ks:List V}(h:eE.map (·.1)=ws.map (·.1))(hk:Bi H ws ks):aN K F H (tf eE) ks:=by
 have hl:eE.length=ws.length:=by have:=congrArg List.length h;simpa using this
 refine⟨by unfold tf;rw[Gac,hl,hk.1],λi d v e1 e2=> ?_⟩;unfold tf at e1;rw[Gah] at e1;obtain⟨p,hp,rfl⟩:=Gap.mp e1;have hi:i<ws.length:=by rw[<-hl];exact(Gaj.mp hp).1
 have hq:ws[i]? =some ws[i]:=Gaa hi;have ep:p.1=ws[i].1:=by
  have:=congrArg (λl=>l[i]?) h;simp only[Gah,hp,hq,GbZ,Gcn] at this;exact this
 obtain⟨b,rfl,hb⟩:=hk.2 i _ _ hq e2;have rs:aN K F H (p.1.map Ds) (ws[i].1.map kV):=by rw[ep];exact qE λk=>CA k
 exact .tup hb rs.1 rs.2
theorem wz:CallD X C8 (λxs H Q=>∃a eE,xs=[.ref a]/\H a=some (.dT eE)/\∀l ks,H l=none->Bi H eE ks->Q (.ref l) (upd H l (.lst ks))):=by
 intro F H ds vs rv Q ps e k;unfold C8 at e;split at e
 .cases e;obtain⟨v,rfl,i⟩:=fW ps;cases i with
  |dT h r=>
   exact⟨_,_,rfl,h,λl ks hl hk=>k _ _ (aW hl) ⟨l,rfl,hl,kf,rfl,dh hl (DP r.1 hk)⟩⟩
 .cases e
end
section
variable{X:Cx}{e a b c:Expr}{f g h:DE}{pos:Pos}
theorem Lq{K:ak}{F:Addr->Prop}{H:Hp}{d:D}{v:V}{k:D}{o:Option D}(i:Inn K F H d v)(e:Dt d k=some o):∃p,v= .ref p/\IsD H p:=by
 unfold Dt at e;split at e
 .cases i with
  |dK h r=>exact⟨_,rfl,.inl ⟨_,.inl h⟩⟩
 .cases i with
  |dT h r=>exact⟨_,rfl,.inr ⟨_,.inl h⟩⟩
 .cases e
theorem G6{K:ak}{F:Addr->Prop}{H:Hp}{dx dy rd:D}{y vz:V}{p:Addr}{o' :Option D}(ix:Inn K F H dx (.ref p))(iy:Inn K F H dy y)(e:Dt dx dy=some o')(rz:Rep K F H rd vz):∃o,sk H p y o/\Rep K F H (o'.getD rd) (o.getD vz):=by
 obtain⟨g1,g2⟩:=uD ix iy;have fin:∀{Y:Type} [DecidableEq Y] {eE:List (Y×D)} {ws:List (Y×V)} {k:Y},aP K F H eE ws->Rep K F H ((look eE k).getD rd) ((gp ws k).getD vz):=λ{Y _ eE ws k} rp=>by
  cases z:look eE k with
  |none=>rw[tw rp z];exact rz
  |some d=>obtain⟨v,h1,h2⟩:=mZ rp z;rw[h1];exact h2
 unfold Dt at e;split at e
 .obtain⟨k',hk,rfl⟩:=Gap.mp e;obtain⟨q,ws,eq,rp,gg⟩:=g1 _ k' rfl hk;cases eq;exact⟨_,gg,fin rp⟩
 .obtain⟨k',hk,rfl⟩:=Gap.mp e;obtain⟨q,ws,eq,rp,gg⟩:=g2 _ _ k' rfl rfl hk;cases eq;exact⟨_,gg,fin rp⟩
 .cases e
theorem IZ{apos eM:Pos}{o:Expr}(hu:X.A.units+1<cLine)(ho:PEd X o f)(he:PEd X a g)(hd:PEd X b h)(m:M2 X o "get" apos a b eM):PEd X (.Call (.Attribute o "get" apos) [a,b] [] eM) (Ir f g h):=by
 refine(F8 hu ho he hd m).aG ?_;rintro Z H Q ⟨H0,eF,env,rv,E,e,k⟩;obtain⟨x,hx,e⟩:=eD e;obtain⟨y,hy,e⟩:=eD e;obtain⟨r,hr,e⟩:=eD e;split at e
 .rename_i hc;obtain⟨o',e',rfl⟩:=Gap.mp e;refine⟨H0,eF,env,x,E,hx,λvx H1 s1 R1=> ?_⟩;obtain⟨p,rfl,hD⟩:=Lq R1.inn e';refine⟨p,rfl,hD,H0,eF,env,y,E.mono s1,hy,λvy H2 s2 R2=> ⟨H0,eF,env,r,(E.mono s1).mono s2,hr,λvz H3 s3 R3=> ?_⟩⟩;have rz:Rep X.K (Cln eF env Z) H3 r.d vz:=R3.rep ((E.mono s1).mono s2) (by unfold RV.free;rw[hc]);obtain⟨ov,gg,rp⟩:=G6 ((R1.inn.same s2).same s3) (R2.inn.same s3) e' rz;exact⟨ov,gg,k _ H3 (s1.trans (s2.trans s3)) rp⟩
 .cases e
end
section
variable{prog:Program}{w:World}{A:Around}{E:Value->Shared->Prop}{s:Shared}
theorem pB(d:Addr)(hd:(d==sysModules)=false):MeetsIn prog w (Builtin.«dict.items» ⟨[.ref d],[]⟩) (λ_ R s=>s.TypeIs (.ref d) "dict"/\R (.ok (.ret (.ref s.heap.objs.size))) {s with heap:=s.heap.push {cls:= .type "dict_items",data:= .fields #[.ref d]}}):=by
 apply MeetsIn.of_wp;rintro A R s ⟨hm,h⟩
 wp_walk using GdF hm,GaY
 .exact⟨_,rfl,h⟩
 .size_fits
theorem qF{v d:Addr}{es:Array DictEntry}{ep:Nat}{Q:Value->Shared->Prop}(hv:s.heap.IsItemsView v d)(hm:kl s.heap d es ep)
  (hQ:Q (.ref s.heap.objs.size) {s with heap:=s.heap.push {cls:= .type "dict_itemiterator",data:= .fields #[.none,.bool false,.ref d,.int 0 0,.int es.size 0,.int ep 0,.none,.none]}}):wpAny (model prog w) A (pyIter (.ref v)) Q E s:=by
 have f:FO s.heap v _ _:=hv;apply wpAny_pyIter_slot f.ty F.slot_dict_items_iter;apply Gby F.slot_dict_items_iter f.ty F.entry_dict_items_iter (ha:=F.args_dict_items_iter_1 _)
 wp_walk using jA (i:=0) (x:= .ref d) f rfl,uI hm,Cr hm,GaY
 .exact⟨_,rfl,_,_,⟨_,GaJ _ rfl,rfl⟩,GcJ.lookup,hQ⟩
 .simp[sizeOk,Builtin.Dict_items.ownsTuple,Builtin.Dict_items.ownedTupleFields,GbN]
abbrev ItI(h:Heap)(it d:Addr)(i n ep:Nat)(f0 f1 ok ov:Value):Prop:=FO h it "dict_itemiterator" #[f0,f1,.ref d,.int i 0,.int n 0,.int ep 0,ok,ov]
def Kept(h:Heap)(it:Addr)(f0 f1:Value):Prop:=f0= .none\/∃(a:Addr) (oa:Obj) (f:Bool),f0=rawInt a/\f1= .bool f/\h.get? a=some oa/\a≠it
theorem DQ{it:Addr}{x2 x3 x4 x5 f0 f1 ok ov k v:Value}{Q:Value->Shared->Prop}(f:FO s.heap it "dict_itemiterator" #[f0,f1,x2,x3,x4,x5,ok,ov])(hf:Kept s.heap it f0 f1)
  (h:∀h' g0 g1 zk zj,FO h' it "dict_itemiterator" #[g0,g1,x2,x3,x4,x5,zk,zj]->((f0= .none/\g0=rawInt s.heap.objs.size/\g1= .bool false)\/(f0≠ .none/\g0=f0/\g1= .bool true))->
   h'.get? s.heap.objs.size=some {cls:= .type "tuple",data:= .seq #[k,v]}->h'.objs.size=s.heap.objs.size+1->(∀b o,b≠it->s.heap.get? b=some o->h'.get? b=some o)->Q (.ref s.heap.objs.size) {s with heap:=h' }):
  wpAny (model prog w) A (Builtin.Dict_items.pairFromOwner (.ref it) 6 k v) Q E s:=by
 have ne:s.heap.objs.size≠it:=Gct f.lt;apply Gab;refine wpAny_newTuple ?_;have f2:=f.at λo=>Gai {cls:= .type "tuple",data:= .seq #[k,v]};have t2:(s.heap.push {cls:= .type "tuple",data:= .seq #[k,v]}).get? s.heap.objs.size=_:=GaJ _ rfl;have k2:∀b o,s.heap.get? b=some o->(s.heap.push {cls:= .type "tuple",data:= .seq #[k,v]}).get? b=some o:=λb o=>Gai _;have z2:(s.heap.push {cls:= .type "tuple",data:= .seq #[k,v]}).objs.size=s.heap.objs.size+1:=Gdh ..;generalize s.heap.push {cls:= .type "tuple",data:= .seq #[k,v]}=p at*;have fin:∀h',Heap.SameBut it p h' ->h'.get? s.heap.objs.size=some {cls:= .type "tuple",data:= .seq #[k,v]}/\h'.objs.size=s.heap.objs.size+1/\∀b o,b≠it->s.heap.get? b=some o->h'.get? b=some o:=λh' sb=> ⟨sb.extBut _ _ ne t2,sb.1.trans z2,λb o n e=>sb.extBut b o n (k2 b o e)⟩;rcases hf with rfl| ⟨a,oa,b,rfl,rfl,ha,SV⟩
 .wp_walk using jA (i:=0) (x:= .none) f2 rfl,jA (i:=6) (x:=ok) f2 rfl,jA (i:=7) (x:=ov) f2 rfl,gw f2
  .rintro h3 ⟨f3,s3⟩;refine Gab (gw f3 (λh4 ⟨f4,s4⟩=>Gab (gw f4 (λh5 ⟨f5,s5⟩=>Gab (gw f5 (λh6 ⟨f6,s6⟩=>Gab (Gdv (Gao ?_))) (by simp))) (by simp))) (by simp));obtain⟨q1,q2,q3⟩:=fin h6 (((s3.trans s4).trans s5).trans s6);exact h h6 _ _ _ _ f6 (.inl ⟨rfl,rfl,rfl⟩) q1 q2 q3
  .show _<8;decide
 .wp_walk using jA (i:=0) (x:=rawInt a) f2 rfl,PySem.W.kdx_alive (k2 a oa ha),jA (i:=1) (x:= .bool b) f2 rfl
  have q1:(Value.bool b !=Value.bool true)= !b:=by cases b<;>rfl
  rw[q1];have no:rawInt (a:Int)≠Value.none:=by simp[rawInt]
  cases b with
  |true=>
   wp_walk
   obtain⟨q1,q2,q3⟩:=fin p (Heap.SameBut.refl _ _);exact h p _ _ _ _ f2 (.inr ⟨no,rfl,rfl⟩) q1 q2 q3
  |false=>
   wp_walk using gw f2
   .rintro h3 ⟨f3,s3⟩
    wp_walk
    obtain⟨q1,q2,q3⟩:=fin h3 s3;exact h h3 _ _ _ _ f3 (.inr ⟨no,rfl,rfl⟩) q1 q2 q3
   .show _<8;decide
theorem km{it d:Addr}{i ep:Nat}{es:Array DictEntry}{f0 f1 ok ov:Value}{Q:Option Value->Shared->Prop}(hh:A.handled=none)(hit:ItI s.heap it d i es.size ep f0 f1 ok ov)(hm:kl s.heap d es ep)(hf:Kept s.heap it f0 f1)
  (hQ:∀e h' g0 g1 zk zj,es[i]? =some e->ItI h' it d (i+1) es.size ep g0 g1 zk zj ->((f0= .none/\g0=rawInt s.heap.objs.size/\g1= .bool false)\/(f0≠ .none/\g0=f0/\g1= .bool true))->
   h'.get? s.heap.objs.size=some {cls:= .type "tuple",data:= .seq #[e.key,e.val]}->(∀b o,b≠it->s.heap.get? b=some o->h'.get? b=some o)->Q (some (.ref s.heap.objs.size)) {s with heap:=h' })
  (hE:∀h',es.size<=i->Heap.ExtBut it s.heap h' ->Q none {s with heap:=h' }):wpAny (model prog w) A (pyNext (.ref it)) Q E s:=by
 have hT:=hit.ty
 wp_walk using GbO hT GcJ,Gby GcJ hT F.entry_dict_itemiterator_next (ha:=F.args_dict_itemiterator_next_1 _),uI hm,Cr hm,FQ hit,GcD hT
 rw[Kb];cases h:es[i]? with
 |some e=>
  wp_walk using GcD hT,wpAny_isOneOf_itemiter hT,gw hit
  .rintro h1 ⟨f,hs⟩;replace f:ItI h1 it d (i+1) es.size ep f0 f1 ok ov:=f;have kp:Kept h1 it f0 f1:=hf.imp id λ⟨a,o,b,q1,q2,q3,q4⟩=> ⟨a,o,b,q1,q2,hs.extBut a o q4 q3,q4⟩
   wp_walk using wpAny_isOneOf_itemiter f.ty,DQ f kp
   intro h' g0 g1 zk zj f' g t _ k;rw[show h1.objs.size=s.heap.objs.size from hs.1] at*;exact Gao ⟨_,rfl,Gao (hQ e h' g0 g1 zk zj h f' g t λb o n q=>k b o n (hs.extBut b o n q))⟩
  .show _<8;decide
 |none=>
  wp_walk using GcD hT,gw hit
  .rintro h' ⟨f,hs⟩;exact FR hh λh2 a k=>Gab (uJ k.2 (Gao (hE h2 (by simpa using h) λb o n e=>k.1 b o (hs.extBut b o n e))))
  .show _<8;decide
theorem G7{elts:List Expr}{x1}{pos:Pos}{it d a:Addr}{i n ep:Nat}{f1 ok ov:Value}{Q:Unit->Shared->Prop}(he:ItI s.heap it d i n ep (rawInt a) f1 ok ov)
  (hQ:∀h',ItI h' it d i n ep .none f1 ok ov->Heap.SameBut it s.heap h' ->Q () {s with heap:=h' }):
  wpAny (model prog w) A (letOwnedTupleGo (.Tuple elts x1 pos) (.ref it) (.ref a)) Q E s:=by
 obtain⟨⟨c,dc,dt,sl⟩,ho,hc,hd⟩:=id he;cases hc;cases hd
 apply Gab;apply wpAny_load ho;apply wpAny_ite_split<;>intro hi
 .exact Gab (Gco (gw he (λh' k=>hQ h' k.1 k.2) (by simp)))
 .exact absurd (by simp) hi
end
section
variable{X:Cx}{e a b c:Expr}{f g h:DE}{pos:Pos}{ee:List (Addr×Obj)}{Z:St}{H:Hp}{s:Shared}
theorem _root_.L2.Inv.freeze{d:Addr}{eE:List (List Key×V)}{o:Obj}(I:Inv X ee Z H s)(e:H d=some (.dT eE))(ho:s.heap.get? d=some o):Inv X ee Z (upd H d (.frz o (.dT eE))) s:=by
 have:=pG (t' :=s.toks) (h' :=s.heap) (ob:= .frz o (.dT eE)) I (by rw[e];trivial) (Heap.SameBut.refl _ _) ⟨o,ho⟩
  ⟨ho,(I.hok d _ e).dN (λb u _ q=>q) (λb q=>by rw[ah (BP q e (by simp))];exact q) λb xs q=>by rw[ah (BP q e (by simp))];exact q⟩
 exact this
theorem _root_.L2.Inv.Lr{d:Addr}{eE:List (List Key×V)}{o:Obj}(I:Inv X ee Z H s)(e:H d=some (.frz o (.dT eE)))(hn:∀o u,X.H0 d≠some (.frz o u)):Inv X ee Z (upd H d (.dT eE)) s:=by
 have ne:∀{b:Addr},H b=none->b≠d:=λq z=>by rw[z,e] at q;cases q
 have nt:∀{b:Addr} {u:HO},H b=some u->u≠ .frz o (.dT eE)->b≠d:=λq hu z=>by rw[z,e] at q;cases q;exact hu rfl
 refine⟨I.ok,I.os,I.bare,⟨I.base.keep,I.base.slot,λb ob q n hx=> ?_,I.base.there,λb xs q=> ?_,λb ob u q=> ?_,λb ps q=> ?_⟩,I.loc,I.cell, ?_,λx c q=> ?_,λp hp=> ?_,λb u q=> ?_,I.len⟩
 .have:=I.base.free b ob q n hx;rw[ah (ne this)];exact this
 .have:=I.base.vd b xs q;rw[ah (nt this (by simp))];exact this
 .have:=I.base.rZ b ob u q;rw[ah (λz=>hn ob u (by rw[<-z];exact q))];exact this
 .obtain⟨more,q'⟩:=I.base.ve b ps q;exact⟨more,by rw[ah (nt q' (by simp))];exact q'⟩
 .rw[ah (ne I.free)];exact I.free
 .rw[ah (ne (I.jw x c q))];exact I.jw x c q
 .obtain⟨h1,h2,h3⟩:=I.pin p hp;exact⟨h1,by rw[ah (ne h2)];exact h2,h3⟩
 .have st:∀{b:Addr} {u:HO},bQ X.prog X.w H s.heap b u->bQ X.prog X.w (upd H d (.dT eE)) s.heap b u:=λx=>
   x.dN (λ_ _ _ q=>q) (λc q=>by rw[ah (nt q (by simp))];exact q) λc xs q=>by rw[ah (nt q (by simp))];exact q
  by_cases hb:b=d
  .subst hb;rw[az] at q;cases q
   exact st (I.hok b _ e).2
  .rw[ah hb] at q;exact st (I.hok b _ q)
theorem CB{d:Addr}{eE:List (List Key×V)}{o:Obj}{es:Array DictEntry}{ep:Nat}(I:Inv X ee Z H s)(e:H d=some (.frz o (.dT eE)))(hd:o.data= .dict es ep):kl s.heap d es ep/\es.size=eE.length/\
  ∀(i:Nat) p,eE[i]? =some p->∃b en,es[i]? =some en/\en.key= .ref b/\H b=some (.tup (p.1.map kV))/\RelV p.2 en.val:=by
 obtain⟨ho,h1,h2,xs,kt,o',Qr,Qs,xO,hx,xr,he,_⟩:=I.hok d _ e;rw[ho] at xO;cases xO
 rw[hd] at xr;cases xr
 have hl:eE.length=xs.length:=Paired.length kt;have hs:es.size=xs.length:=by rw[<-GbQ,he,Gac]
 refine⟨⟨o,ho,hx,hd⟩,by lia,λi p hp=> ?_⟩;have hi:i<xs.length:=by rw[<-hl];exact(Gaj.mp hp).1
 have rel:∀{l:List (List Key×V)} {m:List (List Key×Addr×Value)},Paired (λ(p:List Key×V) (q:List Key×Addr×Value)=>p.1=q.1/\H q.2.1=some (.tup (p.1.map kV))/\RelV p.2 q.2.2) l m->∀(i:Nat) p q,l[i]? =some p->m[i]? =some q->H q.2.1=some (.tup (p.1.map kV))/\RelV p.2 q.2.2:=by
  intro l m q;induction q with
  |nil=>intro i p q h;simp at h
  |cons hq t ih=>
   intro i p' q' h1 h2;cases i with
   |zero=>simp at h1 h2;subst h1 h2;exact hq.2
   |succ i=>exact ih i p' q' (by simpa using h1) (by simpa using h2)
 obtain⟨r1,r2⟩:=rel kt i p xs[i] hp (by simp[hi]);refine⟨xs[i].2.1,entryOfKey (tupleKind (bS X.prog X.w)) xs[i], ?_,rfl,r1,r2⟩;have:es.toList[i]? =some (entryOfKey (tupleKind (bS X.prog X.w)) xs[i]):=by rw[he,Gah];simp[hi]
 simpa using this
noncomputable def Ls(d:Addr)(o:Obj)(eE:List (List Key×V)):It:=
 ⟨λi H=>H d=some (.frz o (.dT eE))/\i<eE.length,λi H x H' =>∃p b q,eE[i]? =some p/\H b=some (.tup (p.1.map kV))/\H q=none/\x= .ref q/\H' =upd H q (.tup [.ref b,p.2]),λi H=>H d=some (.frz o (.dT eE))/\eE.length<=i⟩
theorem Bj{prog:Program}{w:World}{A:Around}{E:Value->Shared->Prop}{s:Shared}{it d:Addr}{i n ep:Nat}{f0 f1 ok ov:Value}{Q:Value->Shared->Prop}(hit:ItI s.heap it d i n ep f0 f1 ok ov)(h:Q (.ref it) s):wpAny (model prog w) A (pyIter (.ref it)) Q E s:=by
 have hT:=hit.ty;apply wpAny_pyIter_slot hT Gdi;apply Gby Gdi hT PySem.W.kcp_entry (ha:=PySem.F.args_dict_itemiterator_iter_1 _);exact Gao ⟨_,rfl,_,_,hT,PySem.F.slot_dict_itemiterator_next.lookup,h⟩
theorem Bk{P:Program}{w:World}{K:ak}{elts:List Expr}{x1}{tp:Pos}(it d:Addr)(o:Obj)(eE:List (List Key×V))(es:Array DictEntry)(ep:Nat)(hd:o.data= .dict es ep)(xQ:d≠it):
  Turn P w K (.Tuple elts x1 tp) (Ls d o eE) [it] it (λi h=>∃f1 ok ov,ItI h it d i es.size ep .none f1 ok ov) where
 mem:=by simp
 obj:=λi h st b hb=>by
  have e:b=it:=by simpa using hb
  subst e;obtain⟨f1,ok,ov,o,e,c,d⟩:=st;exact⟨o,e,λv z=>by rw[d] at z;cases z⟩
 keep:=λi h h' st k=>let⟨f1,ok,ov,e⟩:=st;⟨f1,ok,ov,e.at (k it (by simp))⟩
 item:=by
  intro X hP hw hK hc i ee s Z H E I hf st hg;subst hP hw hK;obtain⟨he,hi⟩:=hg;obtain⟨hr,hz,hx⟩:=CB I he hd;obtain⟨f1,ok,ov,hit⟩:=st;obtain⟨b,en,q1,q2,q3,q4⟩:=hx i eE[i] (by simp[hi]);refine km (I.ok.hd hc) hit hr (.inl rfl) (λT4 h' g0 g1 zk zj RW xJ hg hT kk=> ⟨_,rfl, ?_⟩) λ_ hl _=>absurd hl (by lia);cases q1.symm.trans RW;have hg0:g0=rawInt s.heap.objs.size:=by
   rcases hg with⟨_,z,_⟩| ⟨z,_⟩
   .exact z
   .exact absurd rfl z
  subst hg0;refine G7 (s:={s with heap:=h' }) xJ λh2 zo sb=> ?_;have hU:it<s.heap.objs.size:=hit.lt;have kept:∀b o,b∉[it]->s.heap.get? b=some o->h2.get? b=some o:=λb o hb e=>by
   have b1:b≠it:=λz=>hb (by simp[z]);exact(sb.2 b b1).trans (kk b o b1 e)
  have zL:h2.get? s.heap.objs.size=some {cls:= .type "tuple",data:= .seq #[en.key,en.val]}:=(sb.2 _ (Gct hU)).trans hT;have I1:Inv X ee Z (upd H s.heap.objs.size (.tup [.ref b,eE[i].2])) {s with heap:=h2}:=I.qB (ch:=[it]) hf rfl rfl kept (Gaq _) (by
   refine⟨by simp[GbN],[en.key,en.val],.cons q2 (.cons q4 .nil),_,zL,rfl,0,rfl⟩)
  refine⟨.ref s.heap.objs.size,_,I1,rfl,⟨eE[i],b,_,by simp[hi],q3,I.fresh,rfl,rfl⟩,⟨_,_,_,zo⟩,λb' hb=> ?_⟩;have z:b' =it:=by simpa using hb
  subst z;rw[ah (GaO hU)];exact(hf b' hb).1
 done:=by
  intro X hP hw hK hc i ee s Z H E I hf st hg;subst hP hw hK;obtain⟨he,hi⟩:=hg;obtain⟨hr,hz,hx⟩:=CB I he hd;obtain⟨f0,f1,f2,f3,f4,f5⟩:=hf it (by simp);obtain⟨SY,ok,ov,hit⟩:=st;exact km (I.ok.hd hc) hit hr (.inl rfl) (λ_ _ _ _ _ _ q=>absurd (Gcm.mp q).1 (by lia)) λh' _ eb=> ⟨rfl,I.turned (t' :=s.toks) (λb o hb e=>eb b o hb e) f0 f1 f3 f4 f5⟩
 self:=λ_ _ _ _ _ st h=>let⟨_,_,_,e⟩:=st;Bj e h
def G8(X:Cx)(J:Addr->Obj->List (List Key×V)->It)(to:TE):TI:=λZ H R=>to Z H λx H1=>∃d eE,x= .ref d/\H1 d=some (.dT eE)/\∀o,(∀o u,X.H0 d≠some (.frz o u))->R (J d o eE) (upd H1 d (.frz o (.dT eE)))
theorem wA{o:Expr}{elts:List Expr}{x1}{tp:Pos}{to:TE}{apos eM:Pos}(ho:PE X o to)(eX:attributeBase o "items" X.env (eval o X.env)=eval o X.env:=by rfl)(eW:(apos.endLine==eM.line)=true:=by rfl):PI X (.Tuple elts x1 tp) (.Call (.Attribute o "items" apos) [] [] eM) (G8 X Ls to):=by
 intro ee s Z H R I h;refine wpAny_Call_method0_late eX eW (thn (ho ee s Z H _ I h) λv s1 ⟨x,H1,I1,r1,d,eE,ex,hd,q1⟩=> ?_);subst ex;cases r1;obtain⟨_,xk,xs,kt,ob,es,ep,QM,hx,zp,he,_⟩:=C2 I1.hok hd;obtain⟨t1,t2,_⟩:=AJ I1 (.inr ⟨eE,.inl hd⟩);refine⟨"dict","dict.items",Gdl,PySem.F.slot_dict_items,PySem.F.type_dict_items,t1,t2,GcG rfl (PySem.evalArgs_none ?_)⟩;refine call_meetsIn PySem.F.slot_dict_items t1 PySem.F.entry_dict_items (PySem.F.args_dict_items_1 _) (pB d xk) ⟨t1, ?_⟩;generalize hh1:s1.heap.push {cls:= .type "dict_items",data:= .fields #[.ref d]}=h1;have hv:h1.IsItemsView s1.heap.objs.size d:=by rw[<-hh1];exact⟨_,GaJ _ rfl,rfl,rfl⟩
 have k1:∀b u,s1.heap.get? b=some u->h1.get? b=some u:=λb u q=>by rw[<-hh1];exact Gai _ q
 have I2:Inv X ee Z H1 {s1 with heap:=h1}:=I1.kept (t' :=s1.toks) k1;refine qF (s:={s1 with heap:=h1}) hv ⟨ob,k1 _ _ QM,hx,zp⟩ ?_;have I3:Inv X ee Z H1 {s1 with heap:=h1.push {cls:= .type "dict_itemiterator",data:= .fields #[.none,.bool false,.ref d,.int 0 0,.int es.size 0,.int ep 0,.none,.none]}}:=I2.kept (t' :=s1.toks) λb u q=>Gai _ q;have I4:=I3.freeze hd (o:=ob) (Gai _ (k1 _ _ QM));have hU:d<h1.objs.size:=Gax (k1 _ _ QM);have fresh:(upd H1 d (.frz ob (.dT eE))) h1.objs.size=none:=by
  rw[ah (Gct hU)];exact I2.fresh
 refine⟨h1.objs.size,[h1.objs.size],_,_,_,rfl,I4,Bk _ d ob eE es ep zp (GaO hU),⟨_,_,_,_,GaJ _ rfl,rfl,rfl⟩,λb hb=> ?_,q1 ob λo u z=> ?_⟩
 .have z:b=h1.objs.size:=by simpa using hb
  subst z;exact I2.D5 (Gaq _) fresh
 .have:=I1.base.rZ d o u z;rw[hd] at this;cases this
end
section
variable{X:Cx}{e a b c:Expr}{f g h:DE}{pos:Pos}
def Bl(J:Addr->Obj->List (List Key×V)->It)(vw:List (List Key×D)->List D):Prop:=
 ∀{K:ak} {Hf:Hp} {a:Addr} {o:Obj} {ws:List (List Key×V)} {eE:List (List Key×D)} {F F' Nn:Addr->Prop},Hf a=some (.frz o (.dT ws))->aP K F Hf eE ws->
  (∀b u,Hf b=some u->(F b\/isT u)->Nn b)->(∀b,F b->Hf b≠none->F' b)->B4 K F' Nn (J a o ws) (vw eE) Hf
theorem tN{Y:Type}{K:ak}{F:Addr->Prop}{H:Hp}{eE:List (Y×D)}{ws:List (Y×V)}(r:aP K F H eE ws):eE.length=ws.length:=by
 have:=congrArg List.length r.1
 simpa using this
theorem DR{Y:Type}{K:ak}{F:Addr->Prop}{H:Hp}{eE:List (Y×D)}{ws:List (Y×V)}(r:aP K F H eE ws){i:Nat}{p:Y×D}(e:eE[i]? =some p):∃q,ws[i]? =some q/\p.1=q.1/\Rep K F H p.2 q.2:=by
 have hi:i<ws.length:=by rw[<-tN r];exact(Gaj.mp e).1
 have hq:ws[i]? =some ws[i]:=Gaa hi;refine⟨ws[i],hq, ?_,r.2 i p _ e hq⟩;have:=congrArg (λl=>l[i]?) r.1;simp only[Gah,e,hq,GbZ,Gcn] at this;exact this
theorem qG:Bl Ls bB:=by
 intro K Hf a o ws eE F F' Nn hA r hN hF Hi keep;have RK:Hi a=some (.frz o (.dT ws)):=keep a _ hA (hN a _ hA (.inr trivial));have r' :aP K F' Hi eE ws:=r.gen (λb u hb q=>keep b u hb (hN b u hb q)) hF;refine⟨λi d hd=> ?_,RK,by unfold bB;rw[Gac,tN r];exact Gaq _⟩;unfold bB at hd;rw[Gah] at hd;obtain⟨p,hp,rfl⟩:=Gap.mp hd;obtain⟨q,h1,h2,h3⟩:=DR r' hp;refine⟨⟨RK,(Gaj.mp h1).1⟩,λx H2 ⟨q',b,t,e2,e3,e4,e5,e6⟩=> ?_⟩;subst e5 e6;rw[h1] at e2;cases e2
 refine⟨aW e4,cK e4 (.cons ?_ (.cons h3 .nil))⟩;have rs:aN K F' Hi (p.1.map Ds) (q.1.map kV):=by rw[h2];exact qE λk=>CA k
 exact .tup e3 rs.1 rs.2
theorem J1{tg iter:Expr}{J:Addr->Obj->List (List Key×V)->It}{vw:List (List Key×D)->List D}(hi:PI X tg iter (G8 X J (tE X f)))(hv:Bl J vw):PId X tg iter (Fg vw f):=by
 refine hi.aG ?_;rintro Z H R ⟨H0,eF,env,ds,E,hf,k⟩;obtain⟨⟨kd,d⟩,hr,hf⟩:=eD hf;split at hf
 .rename_i hk;have hk' :kd= .tn:=hk;subst hk';split at hf
  .rename_i eE hd;have xr :d= .dT eE:=hd;subst xr;cases hf;refine⟨H0,eF,env,⟨.tn,.dT eE⟩,E,hr,λv H1 s1 Rv=> ?_⟩;obtain⟨a,ev,hn,wr,_,ii⟩:=Rv;subst ev;cases ii with
   | @dT _ ws _ h r=>
    refine⟨a,ws,rfl,h,λo Qd=> ?_⟩;have sm:bR H (upd H1 a (.frz o (.dT ws))):=λb u q=>by
     rw[ah (cZ q hn)];exact s1 b u q
    have E1:=E.mono sm;refine k _ _ sm (hv az (r.gen (λb u hb q=> ?_) λb q _=>q) (λb u hb q=> ?_) λb q hb=> ⟨q.1,hb⟩)
    .have:b≠a:=by
      rcases q with q|q
      .exact q.2
      .intro z;subst z;rw[h] at hb;cases hb;exact q
     rw[ah this];exact hb
    .rcases q with q|q
     .exactλ⟨i,h1,h2⟩=>q.1.2 i h1.ol.top h2
     .exactλw=>E1.fh w hb q
  .cases hf
 .cases hf
theorem G9{o:Expr}{elts:List Expr}{x1}{tp:Pos}{apos eM:Pos}(ho:PEd X o f)(eX:attributeBase o "items" X.env (eval o X.env)=eval o X.env:=by rfl)(eW:(apos.endLine==eM.line)=true:=by rfl):PId X (.Tuple elts x1 tp) (.Call (.Attribute o "items" apos) [] [] eM) (Fg bB f):=J1 (wA ho eX eW) qG
theorem jk{env:Env}{i j:Nat}{sl:Slot}(h:(env.set i none)[j]? =some (some sl)):j≠i/\env[j]? =some (some sl):=by
 by_cases z:i=j
 .subst z;rw[GdT] at h;simp at h
 .rw[Gad z] at h;exact⟨Ne.symm z,h⟩
theorem nh{env:Env}{i j:Nat}(h:b5 (env.set i none)[j]?):j≠i/\b5 env[j]? :=by
 by_cases z:i=j
 .subst z;rw[GdT] at h;split at h
  .split at h<;>exact h.elim
  .exact absurd rfl (by assumption)
 .rw[Gad z] at h;exact⟨Ne.symm z,h⟩
theorem wB{env:Env}{i j:Nat}(h:vT (env.set i none)[j]?):j≠i/\vT env[j]? :=by
 by_cases z:i=j
 .subst z;rw[GdT] at h;split at h
  .split at h<;>exact h.elim
  .exact absurd rfl (by assumption)
 .rw[Gad z] at h;exact⟨Ne.symm z,h⟩
theorem ao.O9{K:ak}{H0:Hp}{eF:Addr->Prop}{env:Env}{Z:St}{H:Hp}{i:Nat}{a:Addr}{o:Obj}{ws:List (List Key×V)}(E:ao K H0 eF env Z H)(ti:b5 env[i]?)(ea:Z[i]? =some (some (.ref a)))
  (yu:∀j:Nat,j≠i->b5 env[j]? ->Z[j]? ≠some (some (.ref a)))(hH:H a=some (.dT ws)):
  ao K (λb=>if b=a then none else H0 b) (λb=>eF b\/b=a) (env.set i none) Z (upd H a (.frz o (.dT ws)))/\∀b,Cln (λb=>eF b\/b=a) (env.set i none) Z b↔Cln eF env Z b:=by
 have cl:∀b,Cln (λb=>eF b\/b=a) (env.set i none) Z b↔Cln eF env Z b:=λb=>by
  constructor
  .intro q;refine⟨λz=>q.1 (.inl z),λj tj ej=> ?_⟩;by_cases z:j=i
   .subst z;rw[ea] at ej;cases ej;exact q.1 (.inr rfl)
   .exact q.2 j (by rw[Gad (Ne.symm z)];exact tj) ej
  .intro q;refine⟨λz=> ?_,λj tj ej=>q.2 j (nh tj).2 ej⟩;rcases z with z|z
   .exact q.1 z
   .subst z;exact q.2 i ti ea
 have na:¬Cln eF env Z a:=λq=>q.2 i ti ea;have dN:gE (Cln eF env Z) H (upd H a (.frz o (.dT ws))):=λb u hb q=>by
  have:b≠a:=by
   rcases q with q|q
   .intro z;subst z;exact na q
   .intro z;subst z;rw[hH] at hb;cases hb;exact q
  rw[ah this];exact hb
 have hF:∀b,Cln eF env Z b->H b≠none->Cln (λb=>eF b\/b=a) (env.set i none) Z b:=λb q _=>(cl b).mpr q;refine⟨⟨λb u q=> ?_,by rw[GdJ];exact E.len,λb q=> ?_,λj d q=> ?_,λj d q=> ?_,λj d q=> ?_,λj k b tj tk ej ek=> ?_⟩,cl⟩
 .by_cases z:b=a
  .subst z;rw[Gaf rfl] at q;cases q
  .rw[Gag z] at q;rw[ah z];exact E.same b u q
 .rcases q with q|q
  .by_cases z:b=a
   .subst z;rw[az];simp
   .rw[ah z];exact E.bad b q
  .subst q;rw[az];simp
 .obtain⟨v,h1,h2⟩:=E.sh j d (jk q).2;exact⟨v,h1,h2.gen dN hF⟩
 .have q' :j≠i/\(env[j]? =some (some (.own d))\/env[j]? =some (some (.lok d))):=by
   rcases q with q|q
   .exact⟨(jk q).1,.inl (jk q).2⟩
   .exact⟨(jk q).1,.inr (jk q).2⟩
  have tj:b5 env[j]? :=by rcases q'.2 with z|z<;>rw[z]<;>trivial
  obtain⟨a',h1,h2,h3,h4,h5,h6⟩:=E.ow j d q'.2;have ne:a' ≠a:=λz=>yu j q'.1 tj (by rw[h1,z]);refine⟨a',h1,by rw[Gag ne];exact h2,λz=>z.elim h3 ne, ?_,h5,h6.gen dN hF λb eb _ u hu=> ?_⟩
  .obtain⟨u,hu,wu⟩:=h4;exact⟨u,by rw[ah ne];exact hu,wu⟩
  .cases eb;rw[ah ne];exact hu
 .have q' :=jk q;have tj:b5 env[j]? :=by rw[q'.2];trivial
  obtain⟨a',h1,h4,h5,h6⟩:=E.bo j d q'.2;have ne:a' ≠a:=λz=>yu j q'.1 tj (by rw[h1,z]);refine⟨a',h1, ?_,h5,h6.gen dN hF λb eb _ u hu=> ?_⟩
  .obtain⟨u,hu,wu⟩:=h4;exact⟨u,by rw[ah ne];exact hu,wu⟩
  .cases eb;rw[ah ne];exact hu
 .exact E.dj j k b (wB tj).2 (nh tk).2 ej ek
theorem Rep.Lr{K:ak}{F:Addr->Prop}{H:Hp}{a:Addr}{o:Obj}{ws:List (List Key×V)}{d:D}{v:V}(hH:H a=some (.frz o (.dT ws)))(nf:¬F a)(r:Rep K F H d v):Rep K F (upd H a (.dT ws)) d v:=by
 induction r with
 |non=>exact .non
 |bl b=>exact .bl b
 |int i=>exact .int i
 |str x=>exact .str x
 | @tup b vs ds h l r ih=>
  refine .tup ?_ l ih;rw[ah λz=>by subst z;rw[hH] at h;cases h];exact h
 | @lst b vs ds f h l r ih=>
  have ne:b≠a:=λz=>by subst z;exact nf f
  refine .lst f ?_ l ih;rcases h with h| ⟨o',h⟩
  .exact .inl (by rw[ah ne];exact h)
  .exact .inr ⟨o',by rw[ah ne];exact h⟩
 | @exc b C n v d h r ih=>
  obtain⟨dx,vs,sl,od,h1,h2⟩:=h;exact .exc ⟨dx,vs,sl,od,by rw[ah λz=>by subst z;rw[hH] at h1;cases h1];exact h1,by rw[ah λz=>by subst z;rw[hH] at h2;cases h2];exact h2⟩ ih
 | @scr b ns h=>
  refine .scr ?_;rcases h with⟨o',h⟩|h
  .exact .inl ⟨o',by rw[ah λz=>by subst z;rw[hH] at h;cases h];exact h⟩
  .exact .inr h
 | @dK b yt eE f h l r ih=>exact .dK f (by rw[ah λz=>by subst z;exact nf f];exact h) l ih
 | @dT b yt eE f h l r ih=>exact .dT f (by rw[ah λz=>by subst z;exact nf f];exact h) l ih
theorem Kc{H:Hp}{a:Addr}{K:ak}{F:Addr->Prop}{eE:List (List Key×D)}(ii:Inn K F H (.dT eE) (.ref a)):∃ws,H a=some (.dT ws)/\aP K F H eE ws:=by
 cases ii with
 |dT h r=>exact⟨_,h,r⟩
theorem DU{K:ak}{H0:Hp}{eF:Addr->Prop}{env:Env}{Z:St}{H:Hp}{i:Nat}{eE:List (List Key×D)}(E:ao K H0 eF env Z H)(e:dictAt i env=some eE):
  ∃a ws,b5 env[i]? /\Z[i]? =some (some (.ref a))/\(∀j:Nat,j≠i->b5 env[j]? ->Z[j]? ≠some (some (.ref a)))/\H a=some (.dT ws)/\aP K (Cln eF env Z) H eE ws:=by
 unfold dictAt at e;have own:∀{d:D},(env[i]? =some (some (.own d))\/env[i]? =some (some (.lok d)))->d= .dT eE->∃a ws,b5 env[i]? /\Z[i]? =some (some (.ref a))/\(∀j:Nat,j≠i->b5 env[j]? ->Z[j]? ≠some (some (.ref a)))/\H a=some (.dT ws)/\aP K (Cln eF env Z) H eE ws:=by
  intro d q hd;subst hd;obtain⟨a,h1,h2,h3,h4,h5,h6⟩:=E.ow i _ q;obtain⟨ws,g1,g2⟩:=Kc h6;refine⟨a,ws,by rcases q with z|z<;>rw[z]<;>trivial,h1,λj hj tj ej=>hj (E.dj i j a (by rcases q with z|z<;>rw[z]<;>trivial) tj h1 ej).symm,g1,g2⟩
 split at e
 .rename_i q;cases e;exact own (.inl q) rfl
 .rename_i q;cases e;exact own (.inr q) rfl
 .rename_i q;split at e
  .rename_i hs;cases e;obtain⟨a,h1,h4,h5,h6⟩:=E.bo i _ q;obtain⟨ws,g1,g2⟩:=Kc h6;refine⟨a,ws,by rw[q];trivial,h1,λj hj tj ej=> ?_,g1,g2⟩;have hU:j<env.length:=by
    rcases Nat.lt_or_ge j env.length with z|z
    .exact z
    .rw[Gbt z] at tj;exact tj.elim
   have hsj:=GaA.mp hs j (GaZ.mpr hU);cases hq:env[j]? with
   |none=>rw[hq] at tj;exact tj.elim
   |some sl=>
    cases sl with
    |none=>rw[hq] at tj;exact tj.elim
    |some sl=>
     cases sl with
     |sh d=>rw[hq] at tj;exact tj.elim
     |own d=>exact hj (E.dj j i a (by rw[hq];trivial) (by rw[q];trivial) ej h1)
     |lok d=>exact hj (E.dj j i a (by rw[hq];trivial) (by rw[q];trivial) ej h1)
     |bor d=>rw[hq] at hsj;simp[hj] at hsj
  .cases e
 .cases e
theorem Ga{tg iter elt:Expr}{ifs:List Expr}{scope:Scope}{N:List Str}{n i:Nat}{ar:List Nat}{gd:DG}{t:DT}{f:DE}{J:Addr->Obj->List (List Key×V)->It}{vw:List (List Key×D)->List D}(hc:X.calm=true)(S:iW X scope N n ar)
  (hi:PI X tg iter (G8 X J (MI i)))(hv:Bl J vw)(yC:qu gd)(B:Blk X scope N tg elt ifs gd t f)
  (hs:∀x,foldedSetIterable iter X.env x=pure x:=by intro _;rfl):PEd X (.ListComp elt [⟨tg,iter,ifs,0⟩] scope pos) (nX vw i n ar gd t f):=by
 intro ee s Z H Q I hw;obtain⟨H0,eF,env,r,E,e,k⟩:=hw;unfold nX at e;obtain⟨eE,hk,e⟩:=eD e;split at e
 .rename_i hz;obtain⟨rs,xV,rfl⟩:=Gap.mp e;obtain⟨a,ws,ti,ea,yu,hH,rp⟩:=DU E hk;obtain⟨cl,h1,h2,h3⟩:=iV (S.cells I);rw[eval_ListComp];refine Gdf (use:=none) rfl hs h1 S.kind S.B7 ?_;refine thn (hi ee s Z H (λJ' H' =>∃o,(∀o u,X.H0 a≠some (.frz o u))/\J' =J a o ws/\H' =upd H a (.frz o (.dT ws))) I ⟨.ref a,ea,a,ws,rfl,hH,λo Qd=> ⟨o,Qd,rfl,rfl⟩⟩) λv s1 q1=>thn q1 λzA s2 q2=> ?_;obtain⟨it,fp,tn,J2,H2,e,I2,T,yO,f2,o,Qd,eJ,eH⟩:=q2;subst e eJ eH;obtain⟨E2,Rg⟩:=E.O9 (o:=o) ti ea yu hH;have na:¬Cln eF env Z a:=λq=>q.2 i ti ea;have dN:gE (Cln eF env Z) H (upd H a (.frz o (.dT ws))):=λb u hb q=>by
   have:b≠a:=by
    rcases q with q|q
    .intro z;subst z;exact na q
    .intro z;subst z;rw[hH] at hb;cases hb;exact q
   rw[ah this];exact hb
  have io:B4 X.K (λb=>Cln (λb=>eF b\/b=a) (env.set i none) Z b/\(upd H a (.frz o (.dT ws))) b≠none) (λb=>¬Ow (env.set i none) Z b) (J a o ws) (vw eE) (upd H a (.frz o (.dT ws))):=
   hv (F:=Cln (λb=>eF b\/b=a) (env.set i none) Z) az (rp.gen dN λb q _=>(Rg b).mpr q) (λb u hb q=>by
    rcases q with q|q
    .exactλ⟨j,h1,h2⟩=>q.2 j h1.ol.top h2
    .exactλw=>E2.fh w hb q) λb q hb=> ⟨q,hb⟩
  refine oj (RR:=λacc C=>compPost (model X.prog X.w) X.A X.xe none (EP X ee Z Q) acc C) hc S I2 h2 h3 f2 T yO (λC s' H' =>B.g cl C s' H' fp) (λC s' H' =>B.t cl C s' H' fp) (λC s' H' =>B.e cl C s' H' fp) E2 io yC hz xV ?_;intro p C s' H' m IX hm hC hF G;obtain⟨g1,g2,vs,g3,g4⟩:=G;have hA:H' a=some (.frz o (.dT ws)):=g1 a _ az;have yo:p≠a:=λz=>by subst z;rw[az] at g2;cases g2
  refine⟨m,hm,λh' yn => ⟨.ref p,upd H' a (.dT ws),(IX.FN hF yn).Lr hA Qd,rfl, ?_⟩⟩;have sm:bR H (upd H' a (.dT ws)):=λb u q=>by
   by_cases z:b=a
   .subst z;rw[az,<-q,hH]
   .rw[ah z];exact g1 b u (by rw[ah z];exact q)
  have RM :(upd H' a (.dT ws)) p=some (.lst vs):=by rw[ah yo];exact g3
  refine k _ _ sm ⟨p,rfl,by rw[ah yo] at g2;exact g2,⟨_,RM,trivial⟩,rfl,.lst (.inl RM) ⟨g4.1,λj d v e1 e2=> ?_⟩⟩;have r1:=Rep.Lr hA (λq=>na ((Rg a).mp q.1)) (g4.2 j d v e1 e2);exact r1.imp λb q=> ⟨(Rg b).mp q.1,q.2⟩
 .cases e
theorem jC{elts:List Expr}{x1}{tp:Pos}{elt:Expr}{ifs:List Expr}{scope:Scope}{N:List Str}{n i:Nat}{ar:List Nat}{gd:DG}{t:DT}{f:DE}{x:Str}{px apos eM:Pos}(hN:X.N[i]? =some x)(hv:Vis X.env.scope x)(hc:X.calm=true)(S:iW X scope N n ar)
  (yC:qu gd)(B:Blk X scope N (.Tuple elts x1 tp) elt ifs gd t f)(hd:(x==("__debug__":Str))=false:=by decide)(xn:(x==("__classdict__":Str))=false:=by decide)
  (eX:attributeBase (.Name x px) "items" X.env (eval (.Name x px) X.env)=eval (.Name x px) X.env:=by rfl)(eW:(apos.endLine==eM.line)=true:=by rfl)
  (hs:∀y,foldedSetIterable (.Call (.Attribute (.Name x px) "items" apos) [] [] eM) X.env y=pure y:=by intro _;rfl):
  PEd X (.ListComp elt [⟨.Tuple elts x1 tp,.Call (.Attribute (.Name x px) "items" apos) [] [] eM,ifs,0⟩] scope pos) (nX bB i n ar gd t f):=Ga hc S (wA (jY hN hv hd xn) eX eW) qG yC B hs
end
open PySem.W (KatLex KatTups kas_sort kas_ask kat_kind kat_lt kat_one kat_run kat_snds BoolBack kat_lt_int)
section
variable{K:ak}{H0 H H' H1:Hp}{eF zQ :Addr->Prop}{env eU :Env}{Z Z' :St}{d:D}{v:V}{a p:Addr}{i j:Nat}{as:List Addr}{eA:List (List D)}
theorem Gb(nb:C9 env=true){k:Nat}(e:env[k]? =some (some (.bor d))):False:=by
 have:=GaA.mp nb _ (GaP e);cases this
theorem ao.Gd{o o' :HO}(E:ao K H0 eF env Z H)(hb:eF a)(h0:H0 a=none)(h:H a=some o)(ho:¬isT o)(nb:C9 env=true):ao K H0 eF env Z (upd H a o'):=by
 have dN:gE (Cln eF env Z) H (upd H a o'):=λb x hx q=>by
  have:b≠a:=by
   rintro rfl;rcases q with q|q
   .exact q.1 hb
   .rw[h] at hx;cases hx;exact ho q
  rw[ah this];exact hx
 refine⟨λb x hx=> ?_,E.len,λb q z=> ?_,λk dk e=> ?_,λk dk e=> ?_,λk dk e=>(Gb nb e).elim,E.dj⟩
 .have:b≠a:=by rintro rfl;rw[h0] at hx;cases hx
  rw[ah this];exact E.same b x hx
 .by_cases m:b=a
  .subst m;rw[az] at z;cases z
  .rw[ah m] at z;exact E.bad b q z
 .obtain⟨u,h1,h2⟩:=E.sh k dk e;exact⟨u,h1,h2.gen dN λ_ f _=>f⟩
 .obtain⟨b,h1,h2,h3,h4,h5,h6⟩:=E.ow k dk e;have m:b≠a:=λz=>h3 (z▸hb);refine⟨b,h1,h2,h3, ?_,h5,h6.gen dN (λ_ f _=>f) λc ec _ x hx=> ?_⟩
  .unfold Wr;rw[ah m];exact h4
  .cases ec;rw[ah m];exact hx
theorem ao.hide(E:ao K H0 eF env Z H)(i:Nat)(v:V):ao K H0 eF (env.set i none) (Z.set i (some v)) H:=by
 have xa:∀{k:Nat},b5 (env.set i none)[k]? ->i≠k/\b5 env[k]? :=λ{k} t=>by
  by_cases q:i=k
  .subst q;by_cases z:i<env.length
   .rw[bT z] at t;exact t.elim
   .rw[Gbt (by simpa using Nat.le_of_not_lt z)] at t;exact t.elim
  .rw[Gad q] at t;exact⟨q,t⟩
 have xh:∀b,Cln eF env Z b->Cln eF (env.set i none) (Z.set i (some v)) b:=λb h=> ⟨h.1,λk t e=>by
  obtain⟨q,t⟩:=xa t;rw[Gad q] at e;exact h.2 k t e⟩
 refine⟨E.same,by simp[E.len],E.bad,λk dk e=> ?_,λk dk e=> ?_,λk dk e=> ?_,λk l b t1 t2 e1 e2=> ?_⟩
 .rcases eN e with⟨q,e⟩| ⟨q,e⟩
  .cases e
  .obtain⟨u,h1,h2⟩:=E.sh k dk e;exact⟨u,by rw[Gad q];exact h1,h2.imp xh⟩
 .have e' :i≠k/\(env[k]? =some (some (.own dk))\/env[k]? =some (some (.lok dk))):=by
   rcases e with e|e
   .rcases eN e with⟨q,e⟩| ⟨q,e⟩
    .cases e
    .exact⟨q,.inl e⟩
   .rcases eN e with⟨q,e⟩| ⟨q,e⟩
    .cases e
    .exact⟨q,.inr e⟩
  obtain⟨b,h1,h2,h3,h4,h5,h6⟩:=E.ow k dk e'.2;exact⟨b,by rw[Gad e'.1];exact h1,h2,h3,h4,h5,h6.imp xh⟩
 .rcases eN e with⟨q,e⟩| ⟨q,e⟩
  .cases e
  .obtain⟨b,h1,hw,h2,h3⟩:=E.bo k dk e;exact⟨b,by rw[Gad q];exact h1,hw,h2,h3.imp xh⟩
 .obtain⟨q1,yb⟩:=xa t1.top;obtain⟨q2,t2⟩:=xa t2;rw[Gad q1] at e1 t1;rw[Gad q2] at e2;exact E.dj k l b t1 t2 e1 e2
theorem ao.CD{New:Addr->Prop}(E:ao K H0 eF env Z H)(s:bR H H')(h1:∀b,New b->H b=none)(h2:∀b,New b->H' b≠none):ao K H0 (λb=>eF b\/New b) env Z H' :=by
 have xh:∀b,Cln eF env Z b->H b≠none->Cln (λb=>eF b\/New b) env Z b:=λb h n=> ⟨λq=>q.elim h.1 λz=>n (h1 b z),h.2⟩;refine⟨E.same.trans s,E.len,λb q z=>q.elim (λq=>E.bad b q (s.free z)) λq=>h2 b q z,λk dk e=> ?_,λk dk e=> ?_,λk dk e=> ?_,E.dj⟩
 .obtain⟨u,q1,q2⟩:=E.sh k dk e;exact⟨u,q1,q2.gen (.of_same s) xh⟩
 .obtain⟨b,q1,q2,q3,q4,q5,q6⟩:=E.ow k dk e;exact⟨b,q1,q2,λz=>z.elim q3 λz=>q4.there (h1 b z),q4.same s,q5,q6.gen (.of_same s) xh λc ec _ x hx=>s c x hx⟩
 .obtain⟨b,q1,qw,q2,q3⟩:=E.bo k dk e;exact⟨b,q1,qw.same s,q2,q3.gen (.of_same s) xh λc ec _ x hx=>s c x hx⟩
end
open PySem PyProof.Rows
abbrev SM:=StateT SortSt Sem
noncomputable def jT:Bool->Keyed->Array Keyed->Nat->Nat->Nat->SM (Option Nat):=sortPriv%PySem.Builtin.gallop
noncomputable def J3(xZ:Nat->SM (Option Bool))(n l0 r0:Nat):SM (Option Nat):=do
 let mut lo:=l0
 let mut hi:=r0
 for _ in [0:n] do
  if lo>=hi then break
  let md:=lo+(hi -lo)/2
  let some mo<-xZ md|return none
  if mo then lo:=md+1 else hi:=md
 return some hi
noncomputable def Lu(xZ:Nat->SM (Option Bool))(n h0:Nat):SM (Option Nat):=do
 let some rt<-xZ h0|return none
 if rt then
  let mut lst:=0
  let mut nxt:=1
  for _ in [0:n] do
   if nxt>=n -h0 then break
   let some mo<-xZ (h0+nxt)|return none
   if !mo then break
   lst:=nxt
   nxt:=2*nxt+1
  J3 xZ n (h0+lst+1) (h0+min nxt (n -h0))
 else
  let mut lst:=0
  let mut nxt:=1
  for _ in [0:n] do
   if nxt>=h0+1 then break
   let some fd<-xZ (h0 -nxt)|return none
   if fd then break
   lst:=nxt
   nxt:=2*nxt+1
  J3 xZ n (h0+1 -min nxt (h0+1)) (h0 -lst)
noncomputable def Kd(lf:Bool)(kx:Keyed)(xs:Array Keyed)(b0 u:Nat):SM (Option Bool):=do
 let y<-elem' xs (b0+u)
 if lf then lt' y kx else return(<-lt' kx y).map (!·)
theorem Ge(lf:Bool)(kx:Keyed)(xs:Array Keyed)(b0 n h0:Nat):jT lf kx xs b0 n h0=Lu (Kd lf kx xs b0) n h0:=rfl
theorem cV{M:Model}{A:Around}{E:Value->Shared->Prop}{s:Shared}{Z α:Type}{c:Prop}{_:Decidable c}{x y:StateT Z Sem α}{Q:α->Z->Prop}{st:Z}(h1:c->wpS M A E s x Q st)(h2:¬c->wpS M A E s y Q st):wpS M A E s (if c then x else y) Q st:=by
 by_cases h:c
 .rw[Gaf h];exact h1 h
 .rw[Gag h];exact h2 h
section
variable{M:Model}{A:Around}{E:Value->Shared->Prop}{s:Shared}{st:SortSt}{xZ:Nat->SM (Option Bool)}{n:Nat}{B:Nat->Bool}{Q:Option Nat->SortSt->Prop}
def Cut(B:Nat->Bool)(n k:Nat):Prop:=k<=n/\(∀u,u<k->B u=true)/\∀u,k<=u->u<n->B u=false
theorem CF{lo hi:Nat}(hf:∀u,u<n->∀R:Option Bool->SortSt->Prop,R (some (B u)) st->wpS M A E s (xZ u) R st)(mB:∀u v,u<=v->v<n->B v=true->B u=true)(h1:lo<=hi)(h2:hi<=n)
  (QR:∀u,u<lo->B u=true)(Sm:∀u,hi<=u->u<n->B u=false)(h:∀k,Cut B n k->Q (some k) st):wpS M A E s (J3 xZ n lo hi) Q st:=by
 unfold J3;refine Gal (Gbz (Gbi (I:=λi c z=>z=st/\∃lo hi,c=(none,lo,hi)/\lo<=hi/\hi<=n/\hi -lo<=n -i/\(∀u,u<lo->B u=true)/\(∀u,hi<=u->u<n->B u=false))
  (Q:=λc z=>z=st/\∃lo hi,c=(none,lo,hi)/\Cut B n hi) ?step ?fin ⟨rfl,lo,hi,rfl,h1,h2,by lia,QR,Sm⟩) ?post)
 case fin=>
  rintro c z ⟨rfl,lo,hi,rfl,q1,q2,q3,q4,q5⟩;have:lo=hi:=by
   have:max 0 n=n:=by lia
   lia
  subst this;exact⟨rfl,_,_,rfl,q2,q4,q5⟩
 case step=>
  rintro i c z _ hi' ⟨rfl,lo,hi,rfl,q1,q2,q3,q4,q5⟩;dsimp only;by_cases g:lo>=hi
  .rw[Gaf g];have:lo=hi:=by lia
   subst this;exact Gau ⟨rfl,_,_,rfl,q2,q4,q5⟩
  .rw[Gag g];refine Gal (hf _ (by lia) _ ?_);dsimp only;cases b:B (lo+(hi -lo)/2) with
   |true=>
    simp only[Gbx];exact Gau ⟨rfl,_,_,rfl,by lia,q2,by lia,λu hu=>mB u _ (by lia) (by lia) b,q5⟩
   |false=>
    simp only[GaK,Gbj];refine Gau ⟨rfl,_,_,rfl,by lia,by lia,by lia,q4,λu hu hn=> ?_⟩;cases b' :B u with
    |false=>rfl
    |true=>rw[mB _ u hu hn b'] at b;cases b
 case post=>
  rintro c z ⟨rfl,lo,hi,rfl,q⟩;exact Gau (h hi q)
theorem J4{h0:Nat}(hf:∀u,u<n->∀R:Option Bool->SortSt->Prop,R (some (B u)) st->wpS M A E s (xZ u) R st)(mB:∀u v,u<=v->v<n->B v=true->B u=true)(hh:h0<n)
  (h:∀k,Cut B n k->Q (some k) st):wpS M A E s (Lu xZ n h0) Q st:=by
 unfold Lu;refine Gal (hf _ hh _ ?_);dsimp only;cases b:B h0 with
 |true=>
  simp only[Gbx];refine Gal (Gbz (Gbi (I:=λi c z=>z=st/\∃l o,c=(none,l,o)/\l<o/\l<n -h0/\i+1<=o/\B (h0+l)=true)
   (Q:=λc z=>z=st/\∃l o,c=(none,l,o)/\l<o/\l<n -h0/\B (h0+l)=true/\(o>=n -h0\/B (h0+o)=false)) ?step ?fin ⟨rfl,0,1,rfl,by lia,by lia,by lia,b⟩) ?post)
  case fin=>
   rintro c z ⟨rfl,l,o,rfl,q1,q2,q3,q4⟩;exact⟨rfl,l,o,rfl,q1,q2,q4,.inl (by lia)⟩
  case step=>
   rintro i c z _ hi' ⟨rfl,l,o,rfl,q1,q2,q3,q4⟩;dsimp only;by_cases g:o>=n -h0
   .rw[Gaf g];exact Gau ⟨rfl,l,o,rfl,q1,q2,q4,.inl g⟩
   .rw[Gag g];refine Gal (hf _ (by lia) _ ?_);dsimp only;cases b' :B (h0+o) with
    |false=>
     simp only[Bool.not_false,Gbx];exact Gau ⟨rfl,l,o,rfl,q1,q2,q4,.inr b'⟩
    |true=>
     simp only[GdB,GaK,Gbj];exact Gau ⟨rfl,o,2*o+1,rfl,by lia,by lia,by lia,b'⟩
  case post=>
   rintro c z ⟨rfl,l,o,rfl,q1,q2,q3,q4⟩;dsimp only;refine CF hf mB (by lia) (by lia) (λu hu=>mB u (h0+l) (by lia) (by lia) q3) (λu hu hn=> ?_) h;rcases q4 with q4|q4
   .lia
   .by_cases w:o>=n -h0
    .lia
    .cases b' :B u with
     |false=>rfl
     |true=>rw[mB (h0+o) u (by lia) hn b'] at q4;cases q4
 |false=>
  simp only[GaK,Gbj];refine Gal (Gbz (Gbi (I:=λi c z=>z=st/\∃l o,c=(none,l,o)/\l<o/\l<h0+1/\i+1<=o/\B (h0 -l)=false)
   (Q:=λc z=>z=st/\∃l o,c=(none,l,o)/\l<o/\l<h0+1/\B (h0 -l)=false/\(o>=h0+1\/B (h0 -o)=true)) ?step ?fin ⟨rfl,0,1,rfl,by lia,by lia,by lia,b⟩) ?post)
  case fin=>
   rintro c z ⟨rfl,l,o,rfl,q1,q2,q3,q4⟩;exact⟨rfl,l,o,rfl,q1,q2,q4,.inl (by lia)⟩
  case step=>
   rintro i c z _ hi' ⟨rfl,l,o,rfl,q1,q2,q3,q4⟩;dsimp only;by_cases g:o>=h0+1
   .rw[Gaf g];exact Gau ⟨rfl,l,o,rfl,q1,q2,q4,.inl g⟩
   .rw[Gag g];refine Gal (hf _ (by lia) _ ?_);dsimp only;cases b' :B (h0 -o) with
    |true=>
     simp only[Gbx];exact Gau ⟨rfl,l,o,rfl,q1,q2,q4,.inr b'⟩
    |false=>
     simp only[GaK,Gbj];exact Gau ⟨rfl,o,2*o+1,rfl,by lia,by lia,by lia,b'⟩
  case post=>
   rintro c z ⟨rfl,l,o,rfl,q1,q2,q3,q4⟩;dsimp only;refine CF hf mB (by lia) (by lia) (λu hu=> ?_) (λu hu hn=> ?_) h
   .rcases q4 with q4|q4
    .lia
    .by_cases w:o>=h0+1
     .lia
     .exact mB u (h0 -o) (by lia) (by lia) q4
   .cases b' :B u with
    |false=>rfl
    |true=>rw[mB (h0 -l) u (by lia) hn b'] at q3;cases q3
end
open PySem.W (kas_item)
noncomputable def qH:Nat->SM Unit:=sortPriv%PySem.Builtin.setMinGallop
theorem ni(g:Nat):qH g=modify (λz=>SortSt.mk' (kindOf z) (arrOf z) (pendingOf z) g (failedOf z)):=rfl
def Srt(rk:Nat->Int)(p:List Nat):Prop:=p.Pairwise λx y=>rk x<=rk y
def gz(prog:Program)(w:World)(A:Around)(s:Shared)(Y:SortKind)(it:Array Keyed)(rk:Nat->Int):Prop:=
 ∀i j,i<it.size->j<it.size->∀C:Bool->Shared->Prop,C (decide (rk i<rk j)) s->wpAny (model prog w) A (keyLt' Y (kas_item it i).1 (kas_item it j).1) C (λ_ _=>False) s
def aR(it:Array Keyed)(a:Array Keyed)(p:List Nat):Prop:=a=(p.map (kas_item it)).toArray/\∀i∈p,i<it.size
def bg(z z' :SortSt):Prop:=kindOf z' =kindOf z/\arrOf z' =arrOf z/\pendingOf z' =pendingOf z/\failedOf z' =failedOf z
theorem bg.refl{z:SortSt}:bg z z:=⟨rfl,rfl,rfl,rfl⟩
theorem bg.trans{x y z:SortSt}(a:bg x y)(b:bg y z):bg x z:=⟨b.1.trans a.1,b.2.1.trans a.2.1,b.2.2.1.trans a.2.2.1,b.2.2.2.trans a.2.2.2⟩
section
variable{it:Array Keyed}{a b:Array Keyed}{p q:List Nat}
theorem aR.size(R:aR it a p):a.size=p.length:=by rw[R.1];simp
theorem aR.get{k i:Nat}(R:aR it a p)(h:p[k]? =some i):a[k]? =some (kas_item it i):=by rw[R.1];simp[h]
theorem aR.lt{k i:Nat}(R:aR it a p)(h:p[k]? =some i):i<it.size:=R.2 i (GaP h)
theorem aR.push{i:Nat}(R:aR it a p)(hi:i<it.size):aR it (a.push (kas_item it i)) (p++[i]):=⟨by rw[R.1];simp,λj hj=>by
 rcases GaE.mp hj with h|h
 .exact R.2 j h
 .simp at h;subst h;exact hi⟩
theorem aR.append(R:aR it a p)(S:aR it b q):aR it (a++b) (p++q):=⟨by rw[R.1,S.1];simp,λj hj=>(GaE.mp hj).elim (R.2 j) (S.2 j)⟩
theorem aR.sub(R:aR it a p){l:List Nat}(h:∀x∈l,x∈p){c:Array Keyed}(e:c=(l.map (kas_item it)).toArray):aR it c l:=⟨e,λj hj=>R.2 j (h j hj)⟩
theorem aR.extract(R:aR it a p)(i j:Nat):aR it (a.extract i j) ((p.drop i).take (j -i)):=by
 refine R.sub (λx hx=>Gbr (Gbk hx)) ?_;apply Gcu.mp;rw[R.1];simp[GdC,GcB,List.extract_eq_take_drop]
theorem aR.drop(R:aR it a p)(i:Nat):aR it (a.extract i a.size) (p.drop i):=by
 have:=R.extract i a.size;rw[R.size,Gbn (by simp)] at this;rw[R.size];exact this
theorem aR.reverse(R:aR it a p):aR it a.reverse p.reverse:=by
 refine R.sub (λx hx=>GbU.mp hx) ?_;rw[R.1];simp
end
section
variable{prog:Program}{w:World}{A:Around}{E:Value->Shared->Prop}{s:Shared}{st:SortSt}{Y:SortKind}{it:Array Keyed}{rk:Nat->Int}
theorem wC{i j:Nat}{Q:Option Bool->SortSt->Prop}(hA:gz prog w A s Y it rk)(hk:kindOf st=Y)(hi:i<it.size)(hj:j<it.size)(h:Q (some (decide (rk i<rk j))) st):wpS (model prog w) A E s (lt' (kas_item it i) (kas_item it j)) Q st:=by
 rw[lt'_eq];refine Gal (GcP ?_);rw[hk];refine Gal (wpS_lift (wpAny_attempt (GbX (hA i j hi hj (λb z=>z=s/\b=decide (rk i<rk j)) ⟨rfl,rfl⟩) (λb z hb=> ⟨hb.1, ?_⟩) λ_ _ f=>f.elim)));rw[hb.2];exact Gau h
theorem bh{a:Array Keyed}{p:List Nat}{k i:Nat}{Q:Keyed->SortSt->Prop}(R:aR it a p)(hk:p[k]? =some i)(h:Q (kas_item it i) st):wpS (model prog w) A E s (elem' a k) Q st:=by
 rw[elem'_eq,R.get hk];exact Gau h
theorem pK{l:List Nat}(h:Srt rk l):∀{u v x y:Nat},u<=v->l[u]? =some x->l[v]? =some y->rk x<=rk y:=by
 intro u v x y zl hx hy;rcases Nat.lt_or_ge u v with c|c
 .obtain⟨h1,rfl⟩:=Gaj.mp hx;obtain⟨h2,rfl⟩:=Gaj.mp hy;exact Gcp.mp h u v h1 h2 c
 .have:u=v:=by lia
  subst this;rw[hx] at hy;cases hy;exact GbC _
theorem ou{lf:Bool}{xs:Array Keyed}{ps:List Nat}{ik b0 n h0:Nat}{Q:Option Nat->SortSt->Prop}(hA:gz prog w A s Y it rk)(hk:kindOf st=Y)(R:aR it xs ps)(hi:ik<it.size)(hn:b0+n<=ps.length)(hs:Srt rk ((ps.drop b0).take n))(hh:h0<n)
  (h:∀k,k<=n->(∀x∈((ps.drop b0).take n).take k,if lf=true then rk x<rk ik else rk x<=rk ik)->(∀x∈((ps.drop b0).take n).drop k,if lf=true then rk ik<=rk x else rk ik<rk x)->Q (some k) st):
  wpS (model prog w) A E s (jT lf (kas_item it ik) xs b0 n h0) Q st:=by
 rw[Ge];have len:((ps.drop b0).take n).length=n:=by simp;lia
 have at_:∀u,u<n->∃x,((ps.drop b0).take n)[u]? =some x/\ps[b0+u]? =some x:=λu hu=>by
  have h1:u<((ps.drop b0).take n).length:=by rw[len];exact hu
  refine⟨((ps.drop b0).take n)[u],Gaa h1, ?_⟩;have:=Gaa h1;rw[GaV hu,Gbm] at this;exact this
 have fin:∀B:Nat->Bool,(∀u x,((ps.drop b0).take n)[u]? =some x->B u=if lf=true then decide (rk x<rk ik) else !decide (rk ik<rk x))->∀k,Cut B n k->Q (some k) st:=by
  intro B hB k ⟨c1,c2,c3⟩;refine h k c1 (λx hx=> ?_) (λx hx=> ?_)
  .obtain⟨u,hu⟩:=Gck.mp hx;have yG :u<k:=by have:=(Gaj.mp hu).1;simp at this;lia
   rw[GaV yG] at hu;have b:=c2 u yG;rw[hB u x hu] at b;cases lf with
   |true=>simpa using b
   |false=>simpa using b
  .obtain⟨u,hu⟩:=Gck.mp hx;rw[Gbm] at hu;have yG :k+u<n:=by have:=(Gaj.mp hu).1;rw[len] at this;exact this
   have b:=c3 (k+u) (by lia) yG;rw[hB _ x hu] at b;cases lf with
   |true=>simpa using b
   |false=>simpa using b
 refine J4 (B:=λu=>if lf=true then decide (rk (((ps.drop b0).take n).getD u 0)<rk ik) else !decide (rk ik<rk (((ps.drop b0).take n).getD u 0))) (λu hu R' hR=> ?_) (λu v zl hv b=> ?_) hh (fin _ λu x hx=>by simp[List.getD,hx])
 .obtain⟨x,h1,h2⟩:=at_ u hu;have e:((ps.drop b0).take n).getD u 0=x:=by simp[List.getD,h1]
  simp only[e] at hR;unfold Kd;refine Gal (bh R h2 ?_);cases lf with
  |true=>
   simp only[Gbx] at hR⊢;exact wC hA hk (R.lt h2) hi hR
  |false=>
   simp only[GaK,Gbj] at hR⊢;exact Gal (wC hA hk hi (R.lt h2) (Gau hR))
 .obtain⟨x,h1,_⟩:=at_ u (by lia);obtain⟨y,h2,_⟩:=at_ v hv;have e1:((ps.drop b0).take n).getD u 0=x:=by simp[List.getD,h1]
  have e2:((ps.drop b0).take n).getD v 0=y:=by simp[List.getD,h2]
  have le:=pK hs zl h1 h2;simp only[e1,e2] at b⊢;cases lf with
  |true=>simp at b⊢;lia
  |false=>simp at b⊢;lia
end
noncomputable def Lv:Array Keyed->Array Keyed->SM (Array Keyed):=sortPriv%PySem.Builtin.mergeLo
theorem J5(a b:Array Keyed):Lv a b=(do
 rule "list.sort.merge-lo"
 let tot:=a.size+b.size
 let fin (o:Array Keyed) (u v:Nat):=o++a.extract u a.size++b.extract v b.size
 let las (o:Array Keyed) (u v:Nat):=o++b.extract v b.size++a.extract u a.size
 let mut o:Array Keyed:=#[<-elem' b 0]
 let mut u:=0
 let mut v:=1
 if v==b.size then return fin o u v
 if u+1==a.size then return las o u v
 let mut mg:=gallopOf (<-get)
 for _ in [0:tot] do
  let mut ca:=0
  let mut cb:=0
  for _ in [0:tot] do
   let some w<-lt' (<-elem' b v) (<-elem' a u)|return fin o u v
   if w then
    o:=o.push (<-elem' b v);v:=v+1;cb:=cb+1;ca:=0
    if v==b.size then return fin o u v
    if cb>=mg then break
   else
    o:=o.push (<-elem' a u);u:=u+1;ca:=ca+1;cb:=0
    if u+1==a.size then return las o u v
    if ca>=mg then break
  rule "list.sort.gallop"
  mg:=mg+1
  for _ in [0:tot] do
   if mg>1 then mg:=mg -1
   qH mg
   let some k<-jT false (<-elem' b v) a u (a.size -u) 0|return fin o u v
   ca:=k
   if k>0 then
    o:=o++a.extract u (u+k);u:=u+k
    if u+1==a.size then return las o u v
    if u==a.size then return fin o u v
   o:=o.push (<-elem' b v);v:=v+1
   if v==b.size then return fin o u v
   let some k<-jT true (<-elem' a u) b v (b.size -v) 0|return fin o u v
   cb:=k
   if k>0 then
    o:=o++b.extract v (v+k);v:=v+k
    if v==b.size then return fin o u v
   o:=o.push (<-elem' a u);u:=u+1
   if u+1==a.size then return las o u v
   if ca<7&&cb<7 then break
  mg:=mg+1
  qH mg
 unsupported "internal:list.sort.merge-bound"):=rfl
abbrev Bm:=Option (Array Keyed)×Array Keyed×Nat×Nat×Nat×Nat×Nat
noncomputable def loC(a b:Array Keyed)(mg ca cb:Nat)(o:Array Keyed)(u v:Nat):SM (ForInStep Bm):=do
 let e<-elem' a u
 if(u+1+1==a.size)=true then pure (.done (some (o.push e++b.extract v b.size++a.extract (u+1) a.size),o.push e,u+1,v,mg,ca,cb))
 else if(decide (ca<7)&&decide (cb<7))=true then pure (.done (none,o.push e,u+1,v,mg,ca,cb))
 else pure (.yield (none,o.push e,u+1,v,mg,ca,cb))
noncomputable def loB(a b:Array Keyed)(mg ca cb:Nat)(o:Array Keyed)(u v:Nat):SM (ForInStep Bm):=do
 let e<-elem' b v
 if(v+1==b.size)=true then pure (.done (some (o.push e++a.extract u a.size++b.extract (v+1) b.size),o.push e,u,v+1,mg,ca,cb))
 else do
  let e2<-elem' a u
  let f<-jT true e2 b (v+1) (b.size -(v+1)) 0
  match f with
  |some k=>
   if k>0 then
    if(v+1+k==b.size)=true then pure (.done (some (o.push e++b.extract (v+1) (v+1+k)++a.extract u a.size++b.extract (v+1+k) b.size),o.push e++b.extract (v+1) (v+1+k),u,v+1+k,mg,ca,k))
    else loC a b mg ca k (o.push e++b.extract (v+1) (v+1+k)) u (v+1+k)
   else loC a b mg ca k (o.push e) u (v+1)
  |_=>pure (.done (some (o.push e++a.extract u a.size++b.extract (v+1) b.size),o.push e,u,v+1,mg,ca,cb))
noncomputable def loA(a b:Array Keyed)(mg ca cb:Nat)(o:Array Keyed)(u v:Nat):SM (ForInStep Bm):=do
 qH mg
 let e<-elem' b v
 let f<-jT false e a u (a.size -u) 0
 match f with
 |some k=>
  if k>0 then
   if(u+k+1==a.size)=true then pure (.done (some (o++a.extract u (u+k)++b.extract v b.size++a.extract (u+k) a.size),o++a.extract u (u+k),u+k,v,mg,k,cb))
   else if(u+k==a.size)=true then pure (.done (some (o++a.extract u (u+k)++a.extract (u+k) a.size++b.extract v b.size),o++a.extract u (u+k),u+k,v,mg,k,cb))
   else loB a b mg k cb (o++a.extract u (u+k)) (u+k) v
  else loB a b mg k cb o u v
 |_=>pure (.done (some (o++a.extract u a.size++b.extract v b.size),o,u,v,mg,ca,cb))
structure LoI(rk:Nat->Int)(p q o:List Nat)(u v:Nat):Prop where
 pm:o.Perm (p.take u++q.take v)
 so:Srt rk o
 oa:∀x∈o,∀y∈p.drop u,rk x<=rk y
 ob:∀x∈o,∀y∈q.drop v,rk x<=rk y
section
variable{rk:Nat->Int}{p q o:List Nat}{u v k:Nat}
theorem cW{l m:List Nat}(h:Srt rk l)(h2:Srt rk m)(h3:∀x∈l,∀y∈m,rk x<=rk y):Srt rk (l++m):=List.pairwise_append.mpr ⟨h,h2,h3⟩
theorem dU{l:List Nat}(h:Srt rk l)(n:Nat):Srt rk (l.drop n):=h.sublist (Gdr _ _)
theorem fF{l:List Nat}(h:Srt rk l)(n:Nat):Srt rk (l.take n):=h.sublist (List.take_sublist _ _)
theorem pL{l:List Nat}(h:Srt rk l)(n:Nat):∀x∈l.take n,∀y∈l.drop n,rk x<=rk y:=by
 have:=h;rw[<-Gbf n l] at this;exact(List.pairwise_append.mp this).2.2
theorem DV{l:List Nat}{n k:Nat}{x:Nat}(h:x∈l.drop (n+k)):x∈l.drop n:=by
 rw[<-GbV] at h;exact Gbr h
theorem LoI.Bn(I:LoI rk p q o u v)(sp:Srt rk p)(h:∀x∈(p.drop u).take k,∀y∈q.drop v,rk x<=rk y):LoI rk p q (o++(p.drop u).take k) (u+k) v:=by
 refine⟨?_,cW I.so (fF (dU sp u) k) λx hx y hy=>I.oa x hx y (Gbk hy),λx hx y hy=> ?_,λx hx y hy=> ?_⟩
 .rw[List.take_add];refine(I.pm.append_right _).trans ?_;rw[Gas,Gas];exact Gbq.append_left _
 .rcases GaE.mp hx with hx|hx
  .exact I.oa x hx y (DV hy)
  .rw[<-GbV] at hy;exact pL (dU sp u) k x hx y hy
 .rcases GaE.mp hx with hx|hx
  .exact I.ob x hx y hy
  .exact h x hx y hy
theorem LoI.swap(I:LoI rk p q o u v):LoI rk q p o v u:=⟨I.pm.trans Gbq,I.so,I.ob,I.oa⟩
theorem LoI.Lw(I:LoI rk p q o u v)(sq:Srt rk q)(h:∀x∈(q.drop v).take k,∀y∈p.drop u,rk x<=rk y):LoI rk p q (o++(q.drop v).take k) u (v+k):=(I.swap.Bn sq h).swap
theorem take1{l:List Nat}{n x:Nat}(h:l[n]? =some x):(l.drop n).take 1=[x]:=by
 obtain⟨h1,rfl⟩:=Gaj.mp h;rw[GbF h1]
 rfl
theorem LoI.qI{x:Nat}(I:LoI rk p q o u v)(sp:Srt rk p)(hx:p[u]? =some x)(h:∀y∈q.drop v,rk x<=rk y):LoI rk p q (o++[x]) (u+1) v:=by
 have:=I.Bn (k:=1) sp (by rw[take1 hx];intro z hz;simp at hz;subst hz;exact h);rw[take1 hx] at this;exact this
theorem LoI.wD{x:Nat}(I:LoI rk p q o u v)(sq:Srt rk q)(hx:q[v]? =some x)(h:∀y∈p.drop u,rk x<=rk y):LoI rk p q (o++[x]) u (v+1):=(I.swap.qI sq hx h).swap
theorem LoI.done(I:LoI rk p q o u v)(sp:Srt rk p)(sq:Srt rk q)(h:v=q.length\/u=p.length):(o++p.drop u++q.drop v).Perm (p++q)/\Srt rk (o++p.drop u++q.drop v):=by
 constructor
 .refine(Gbc _ (Gbc _ I.pm)).trans ?_;have e:p++q=(p.take u++p.drop u)++(q.take v++q.drop v):=by rw[Gbf,Gbf]
  rw[e,Gas,Gas,Gas];refine GbI _ ?_;rw[<-Gas,<-Gas];exact Gbc _ Gbq
 .rcases h with rfl|rfl
  .rw[GbL,GaW];exact cW I.so (dU sp u) I.oa
  .rw[GbL,GaW];exact cW I.so (dU sq v) I.ob
theorem LoI.last(I:LoI rk p q o u v)(sq:Srt rk q)(h:u+1=p.length)(hl:∀x,p[u]? =some x->∀y∈q,rk y<=rk x):(o++q.drop v++p.drop u).Perm (p++q)/\Srt rk (o++q.drop v++p.drop u):=by
 have hu:u<p.length:=by lia
 have e:p.drop u=[p[u]]:=by rw[GbF hu,h,GbL]
 constructor
 .have pm:=I.pm;refine(Gbc _ (Gbc _ pm)).trans ?_;rw[Gas,Gas,<-Gas (List.take v q),Gbf];refine(GbI _ Gbq).trans ?_;rw[<-Gas,Gbf]
 .refine cW (cW I.so (dU sq v) I.ob) (by rw[e];exact Gcb _ _) λx hx y hy=> ?_;rw[e] at hy;simp at hy;subst hy;rcases GaE.mp hx with hx|hx
  .exact I.oa x hx _ (by rw[e];simp)
  .exact hl _ (Gaa hu) x (Gbr hx)
end
section
variable{prog:Program}{w:World}{A:Around}{E:Value->Shared->Prop}{s:Shared}{st:SortSt}{Y:SortKind}{it:Array Keyed}{rk:Nat->Int}{a b:Array Keyed}{p q:List Nat}
def cN(it:Array Keyed)(rk:Nat->Int)(p q:List Nat)(r:Array Keyed):Prop:=∃l,aR it r l/\l.Perm (p++q)/\Srt rk l
theorem kX{l:List Nat}{x y n:Nat}(h:Srt rk l)(hx:l[n]? =some x)(hy:y∈l.drop n):rk x<=rk y:=by
 obtain⟨k,hk⟩:=Gck.mp hy;rw[Gbm] at hk;exact pK h (by lia) hx hk
structure LoP(it:Array Keyed)(rk:Nat->Int)(p q:List Nat)(o:Array Keyed)(u v:Nat):Prop where
 ex:∃l,aR it o l/\LoI rk p q l u v
 bu:u+1<p.length
 bv:v<q.length
def CG(it:Array Keyed)(rk:Nat->Int)(p q:List Nat)(N:Nat):ForInStep Bm->Prop
 | .done c=>(∃r t,c=(some r,t)/\cN it rk p q r)\/∃o u v mg ca cb,c=(none,o,u,v,mg,ca,cb)/\LoP it rk p q o u v/\N<=u+v
 | .yield c=>∃o u v mg ca cb,c=(none,o,u,v,mg,ca,cb)/\LoP it rk p q o u v/\N<=u+v
structure LoX(prog:Program)(w:World)(A:Around)(s:Shared)(Y:SortKind)(it:Array Keyed)(rk:Nat->Int)(a b:Array Keyed)(p q:List Nat):Prop where
 hA:gz prog w A s Y it rk
 Ra:aR it a p
 Rb:aR it b q
 sp:Srt rk p
 sq:Srt rk q
 hl:∀x,p[p.length -1]? =some x->∀y∈q,rk y<=rk x
theorem LoX.done{o:Array Keyed}{l:List Nat}{u v:Nat}(X:LoX prog w A s Y it rk a b p q)(Ro:aR it o l)(I:LoI rk p q l u v)(hh:v=q.length\/u=p.length):cN it rk p q (o++a.extract u a.size++b.extract v b.size):=
 ⟨_,(Ro.append (X.Ra.drop _)).append (X.Rb.drop _),(I.done X.sp X.sq hh).1,(I.done X.sp X.sq hh).2⟩
theorem LoX.last{o:Array Keyed}{l:List Nat}{u v:Nat}(X:LoX prog w A s Y it rk a b p q)(Ro:aR it o l)(I:LoI rk p q l u v)(hh:u+1=p.length):cN it rk p q (o++b.extract v b.size++a.extract u a.size):=by
 have yJ :∀x,p[u]? =some x->∀y∈q,rk y<=rk x:=by
  have:=X.hl;rw[show p.length -1=u by lia] at this;exact this
 exact⟨_,(Ro.append (X.Rb.drop _)).append (X.Ra.drop _),(I.last X.sq hh yJ).1,(I.last X.sq hh yJ).2⟩
theorem Gf{mg ca cb u v N:Nat}{o:Array Keyed}{l:List Nat}{R:ForInStep Bm->SortSt->Prop}(X:LoX prog w A s Y it rk a b p q)(Ro:aR it o l)(I:LoI rk p q l u v)(bu:u+1<p.length)(bv:v<q.length)
  (hx:∀x,p[u]? =some x->∀y∈q.drop v,rk x<=rk y)(hN:N<=u+v+1)(h:∀r,CG it rk p q N r->R r st):wpS (model prog w) A E s (loC a b mg ca cb o u v) R st:=by
 have sza:=X.Ra.size;unfold loC;obtain⟨x,ex⟩:∃x,p[u]? =some x:=⟨_,Gaa (by lia)⟩
 refine Gal (bh X.Ra ex ?_);have I' :=I.qI X.sp ex (hx x ex);have xq :=Ro.push (X.Ra.lt ex);by_cases e:(u+1+1==a.size)=true
 .rw[Gaf e];have:u+1+1=a.size:=by simpa using e
  exact Gau (h _ (.inl ⟨_,_,rfl,X.last xq I' (by lia)⟩))
 .rw[Gag e];have e' :u+1+1≠a.size:=by simpa using e
  by_cases e2:(decide (ca<7)&&decide (cb<7))=true
  .rw[Gaf e2];exact Gau (h _ (.inr ⟨_,_,_,_,_,_,rfl,⟨⟨_,xq,I'⟩,by lia,bv⟩,by lia⟩))
  .rw[Gag e2];exact Gau (h _ ⟨_,_,_,_,_,_,rfl,⟨⟨_,xq,I'⟩,by lia,bv⟩,by lia⟩)
theorem Gg{mg ca cb u v N:Nat}{o:Array Keyed}{l:List Nat}{R:ForInStep Bm->SortSt->Prop}(X:LoX prog w A s Y it rk a b p q)(hk:kindOf st=Y)(Ro:aR it o l)(I:LoI rk p q l u v)(bu:u+1<p.length)(bv:v<q.length)
  (hx:∀x,q[v]? =some x->∀y∈p.drop u,rk x<=rk y)(hN:N<=u+v+2)(h:∀r,CG it rk p q N r->R r st):wpS (model prog w) A E s (loB a b mg ca cb o u v) R st:=by
 have szb:=X.Rb.size;unfold loB;obtain⟨y,ey⟩:∃x,q[v]? =some x:=⟨_,Gaa bv⟩
 obtain⟨x,ex⟩:∃x,p[u]? =some x:=⟨_,Gaa (by lia)⟩
 refine Gal (bh X.Rb ey ?_);have I1:=I.wD X.sq ey (hx y ey);have xu:=Ro.push (X.Rb.lt ey);by_cases e:(v+1==b.size)=true
 .rw[Gaf e];have:v+1=b.size:=by simpa using e
  exact Gau (h _ (.inl ⟨_,_,rfl,X.done xu I1 (.inl (by lia))⟩))
 rw[Gag e];have e' :v+1≠b.size:=by simpa using e
 refine Gal (bh X.Ra ex ?_);have full:(q.drop (v+1)).take (b.size -(v+1))=q.drop (v+1):=Gbn (by simp;lia);refine Gal (ou X.hA hk X.Rb (X.Ra.lt ex) (by lia) (by rw[full];exact dU X.sq _) (by lia) λk Qh t1 t2=> ?_);rw[full] at t1 t2;simp only[Gbx] at t1 t2;dsimp only;have I2:=I1.Lw (k:=k) X.sq λz hz t ht=>by have:=t1 z hz;have:=kX X.sp ex ht;lia
 have yE:=xu.append (X.Rb.extract (v+1) (v+1+k));rw[show v+1+k -(v+1)=k by lia] at yE;have hx2:∀z,p[u]? =some z->∀t∈q.drop (v+1+k),rk z<=rk t:=λz hz t ht=>by
  rw[ex] at hz;cases hz
  rw[<-GbV] at ht;exact t2 t ht
 by_cases g:k>0
 .rw[Gaf g];by_cases e2:(v+1+k==b.size)=true
  .rw[Gaf e2];have:v+1+k=b.size:=by simpa using e2
   exact Gau (h _ (.inl ⟨_,_,rfl,X.done yE I2 (.inl (by lia))⟩))
  .rw[Gag e2];have e2' :v+1+k≠b.size:=by simpa using e2
   exact Gf X yE I2 bu (by lia) hx2 (by lia) h
 .rw[Gag g];have k0:k=0:=by lia
  subst k0;exact Gf X xu I1 bu (by lia) hx2 (by lia) h
theorem Lx{mg ca cb u v N:Nat}{o:Array Keyed}{l:List Nat}{R:ForInStep Bm->SortSt->Prop}(X:LoX prog w A s Y it rk a b p q)(hk:kindOf st=Y)(Ro:aR it o l)(I:LoI rk p q l u v)(bu:u+1<p.length)(bv:v<q.length)
  (hN:N<=u+v+2)(h:∀r z,bg st z->CG it rk p q N r->R r z):wpS (model prog w) A E s (loA a b mg ca cb o u v) R st:=by
 have sza:=X.Ra.size;unfold loA;rw[ni];refine Gal (GbS ?_);generalize hz:SortSt.mk' (kindOf st) (arrOf st) (pendingOf st) mg (failedOf st)=z;have sz:bg st z:=by rw[<-hz];exact⟨rfl,rfl,rfl,rfl⟩
 have hkz:kindOf z=Y:=sz.1.trans hk;have h' :∀r,CG it rk p q N r->R r z:=λr hr=>h r z sz hr;obtain⟨y,ey⟩:∃x,q[v]? =some x:=⟨_,Gaa bv⟩
 refine Gal (bh X.Rb ey ?_);have full:(p.drop u).take (a.size -u)=p.drop u:=Gbn (by simp;lia);refine Gal (ou X.hA hkz X.Ra (X.Rb.lt ey) (by lia) (by rw[full];exact dU X.sp _) (by lia) λk Qh t1 t2=> ?_);rw[full] at t1 t2;simp only[GaK,Gbj] at t1 t2;dsimp only;have I1:=I.Bn (k:=k) X.sp λz hz t ht=>by have:=t1 z hz;have:=kX X.sq ey ht;lia
 have xu:=Ro.append (X.Ra.extract u (u+k));rw[show u+k -u=k by lia] at xu;have hx:∀z,q[v]? =some z->∀t∈p.drop (u+k),rk z<=rk t:=λz hz t ht=>by
  rw[ey] at hz;cases hz
  rw[<-GbV] at ht;have:=t2 t ht;lia
 by_cases g:k>0
 .rw[Gaf g];by_cases e1:(u+k+1==a.size)=true
  .rw[Gaf e1];have:u+k+1=a.size:=by simpa using e1
   exact Gau (h' _ (.inl ⟨_,_,rfl,X.last xu I1 (by lia)⟩))
  rw[Gag e1];have xU :u+k+1≠a.size:=by simpa using e1
  by_cases e2:(u+k==a.size)=true
  .rw[Gaf e2];have:u+k=a.size:=by simpa using e2
   exact Gau (h' _ (.inl ⟨_,_,rfl,X.done xu I1 (.inr (by lia))⟩))
  rw[Gag e2];have e2' :u+k≠a.size:=by simpa using e2
  exact Gg X hkz xu I1 (by lia) bv hx (by lia) h'
 .rw[Gag g];have k0:k=0:=by lia
  subst k0;exact Gg X hkz Ro I bu bv hx (by lia) h'
theorem J6{G:Nat->Option (Array Keyed)×Array Keyed×Nat×Nat×Nat->SortSt->Prop}{n m:Nat}(h:∀i z o u v mg l,i<m->bg st z->aR it o l->LoI rk p q l u v->u+1<p.length->v<q.length->i+1<=u+v->G i (none,o,u,v,mg) z):∀i c z,n<=i->i<m->(bg st z/\∃o u v mg l,c=(none,o,u,v,mg)/\aR it o l/\LoI rk p q l u v/\u+1<p.length/\v<q.length/\i+1<=u+v)->G i c z:=by
 rintro i c z _ hi ⟨hz,o,u,v,mg,l,rfl,Ro,I,g1,g2,g3⟩;exact h i z o u v mg l hi hz Ro I g1 g2 g3
theorem Oa{G:Nat->Option (Array Keyed)×Array Keyed×Nat×Nat×Nat×Nat->SortSt->Prop}{n m t:Nat}{z:SortSt}(h:∀j o u v ca cb l,j<m->aR it o l->LoI rk p q l u v->u+1<p.length->v<q.length->t+j<=u+v->G j (none,o,u,v,ca,cb) z):∀j c z',n<=j->j<m->(z' =z/\∃o u v ca cb l,c=(none,o,u,v,ca,cb)/\aR it o l/\LoI rk p q l u v/\u+1<p.length/\v<q.length/\t+j<=u+v)->G j c z' :=by
 rintro j c z' _ hj ⟨rfl,o,u',v',ca,cb,l,rfl,Ro,I,k1,k2,k3⟩;exact h j o u' v' ca cb l hj Ro I k1 k2 k3
theorem Ob{G:Option (Array Keyed)×Array Keyed×Nat×Nat×Nat×Nat->SortSt->Prop}{n:Nat}{z:SortSt}(h1:∀r t,cN it rk p q r->G (some r,t) z)(h2:∀o u v ca cb l,aR it o l->LoI rk p q l u v->u+1<p.length->v<q.length->n<=u+v->G (none,o,u,v,ca,cb) z):∀c z',(z' =z/\((∃r t,c=(some r,t)/\cN it rk p q r)\/∃o u v ca cb l,c=(none,o,u,v,ca,cb)/\aR it o l/\LoI rk p q l u v/\u+1<p.length/\v<q.length/\n<=u+v))->G c z' :=by
 rintro c z' ⟨rfl,⟨r,t,rfl,g⟩| ⟨o1,u1,v1,yk,yj,l1,rfl,xu,I1,k1,k2,k3⟩⟩
 .exact h1 r t g
 .exact h2 o1 u1 v1 yk yj l1 xu I1 k1 k2 k3
theorem Oc{G:Nat->Option (Array Keyed)×Array Keyed×Nat×Nat×Nat×Nat×Nat->SortSt->Prop}{n m t:Nat}(h:∀j y o u v mg ca cb l,j<m->bg st y->aR it o l->LoI rk p q l u v->u+1<p.length->v<q.length->t+j<=u+v->G j (none,o,u,v,mg,ca,cb) y):∀j c y,n<=j->j<m->(bg st y/\∃o u v mg ca cb l,c=(none,o,u,v,mg,ca,cb)/\aR it o l/\LoI rk p q l u v/\u+1<p.length/\v<q.length/\t+j<=u+v)->G j c y:=by
 rintro j c y _ hj ⟨hy,o,u',v',ye,ca,cb,l,rfl,Ro,I,n1,n2,n3⟩;exact h j y o u' v' ye ca cb l hj hy Ro I n1 n2 n3
theorem Od{G:Option (Array Keyed)×Array Keyed×Nat×Nat×Nat×Nat×Nat->SortSt->Prop}{n:Nat}(h1:∀y r t,bg st y->cN it rk p q r->G (some r,t) y)(h2:∀y o u v mg ca cb l,bg st y->aR it o l->LoI rk p q l u v->u+1<p.length->v<q.length->n<=u+v->G (none,o,u,v,mg,ca,cb) y):∀c y,(bg st y/\((∃r t,c=(some r,t)/\cN it rk p q r)\/∃o u v mg ca cb l,c=(none,o,u,v,mg,ca,cb)/\aR it o l/\LoI rk p q l u v/\u+1<p.length/\v<q.length/\n<=u+v))->G c y:=by
 rintro c y ⟨hy,⟨r,t,rfl,g⟩| ⟨o1,u1,v1,QD,yk,yj,l1,rfl,xu,I1,k1,k2,k3⟩⟩
 .exact h1 y r t hy g
 .exact h2 y o1 u1 v1 QD yk yj l1 hy xu I1 k1 k2 k3
theorem Oe{Q:Array Keyed->SortSt->Prop}(hA:gz prog w A s Y it rk)(hk:kindOf st=Y)(Ra:aR it a p)(Rb:aR it b q)(sp:Srt rk p)(sq:Srt rk q)(hp:0<p.length)(hq:0<q.length)
  (h0:∀x,q[0]? =some x->∀y∈p,rk x<=rk y)(hl:∀x,p[p.length -1]? =some x->∀y∈q,rk y<=rk x)(h:∀r z,bg st z->cN it rk p q r->Q r z):wpS (model prog w) A E s (Lv a b) Q st:=by
 rw[J5];refine Gal (wpS_lift (Gco ⟨rfl, ?_⟩));obtain⟨x0,yf⟩:∃x,q[0]? =some x:=⟨_,Gaa hq⟩
 refine Gal (bh Rb yf ?_);have I0:LoI rk p q [x0] 0 1:=by
  refine⟨?_,Gcb _ _,λx hx y hy=> ?_,λx hx y hy=> ?_⟩
  .have:=take1 yf;rw[Gbu] at this;rw[this];simp
  .simp at hx;subst hx;exact h0 _ yf y (Gbr hy)
  .simp at hx;subst hx;exact kX sq yf (Gbr hy)
 have R0:aR it #[kas_item it x0] [x0]:=⟨rfl,λj hj=>by simp at hj;subst hj;exact Rb.lt yf⟩
 have sza:=Ra.size;have szb:=Rb.size;have X:LoX prog w A s Y it rk a b p q:=⟨hA,Ra,Rb,sp,sq,hl⟩
 refine cV (λc1=> ?_) λc1=> ?_
 .have:1=b.size:=by simpa using c1
  exact Gau (h _ _ .refl (X.done R0 I0 (.inl (by lia))))
 have c1' :1≠b.size:=by simpa using c1
 refine cV (λc2=> ?_) λc2=> ?_
 .have:0+1=a.size:=by simpa using c2
  exact Gau (h _ _ .refl (X.last R0 I0 (by lia)))
 have c2' :0+1≠a.size:=by simpa using c2
 refine Gal (GcP ?_);refine Gal (Gbz (Gbi (I:=λi c z=>bg st z/\∃o u v mg l,c=(none,o,u,v,mg)/\aR it o l/\LoI rk p q l u v/\u+1<p.length/\v<q.length/\i+1<=u+v)
  (Q:=λc z=>bg st z/\∃r t,c=(some r,t)/\cN it rk p q r) ?step ?fin ⟨.refl,_,0,1,_,[x0],rfl,R0,I0,by lia,by lia,by lia⟩) ?post)
 case fin=>
  rintro c z ⟨_,o,u,v,mg,l,rfl,_,_,g1,g2,g3⟩;exfalso;lia
 case post=>
  rintro c z ⟨hz,r,t,rfl,g⟩;exact Gau (h r z hz g)
 case step=>
  refine J6 λi z o u v mg l hi hz Ro I g1 g2 g3=> ?_;have hkz:kindOf z=Y:=hz.1.trans hk;refine Gal (Gbz (Gbi (I:=λj c z' =>z' =z/\∃o u' v' ca cb l,c=(none,o,u',v',ca,cb)/\aR it o l/\LoI rk p q l u' v' /\u' +1<p.length/\v' <q.length/\u+v+j<=u' +v')
   (Q:=λc z' =>z' =z/\((∃r t,c=(some r,t)/\cN it rk p q r)\/∃o u' v' ca cb l,c=(none,o,u',v',ca,cb)/\aR it o l/\LoI rk p q l u' v' /\u' +1<p.length/\v' <q.length/\u+v+1<=u' +v')) ?s1 ?f1 ⟨rfl,o,u,v,0,0,l,rfl,Ro,I,g1,g2,by lia⟩) ?p1)
  case f1=>
   rintro c z' ⟨_,o,u',v',ca,cb,l,rfl,_,_,k1,k2,k3⟩;exfalso;lia
  case s1=>
   refine Oa λj o u' v' ca cb l hj Ro I k1 k2 k3=> ?_;obtain⟨y,hy⟩:∃x,q[v']? =some x:=⟨_,Gaa k2⟩
   obtain⟨x,hx⟩:∃x,p[u']? =some x:=⟨_,Gaa (by lia)⟩
   refine Gal (bh Rb hy (Gal (bh Ra hx (Gal (wC hA hkz (Rb.lt hy) (Ra.lt hx) ?_)))));dsimp only;refine cV (λlt=> ?_) λlt=> ?_
   .replace lt:=Gar lt;refine Gal (bh Rb hy ?_);have I' :=I.wD sq hy λt ht=>by have:=kX sp hx ht;lia
    have xq :=Ro.push (Rb.lt hy);refine cV (λe=> ?_) λe=> ?_
    .have:v' +1=b.size:=by simpa using e
     exact Gau ⟨rfl,.inl ⟨_,_,rfl,X.done xq I' (.inl (by lia))⟩⟩
    .have e' :v' +1≠b.size:=by simpa using e
     refine cV (λe2=> ?_) λe2=> ?_
     .exact Gau ⟨rfl,.inr ⟨_,_,_,_,_,_,rfl,xq,I',k1,by lia,by lia⟩⟩
     .exact Gau ⟨rfl,_,_,_,_,_,_,rfl,xq,I',k1,by lia,by lia⟩
   .replace lt:=of_decide_eq_false (Bool.eq_false_iff.mpr lt);refine Gal (bh Ra hx ?_);have I' :=I.qI sp hx λt ht=>by have:=kX sq hy ht;lia
    have xq :=Ro.push (Ra.lt hx);refine cV (λe=> ?_) λe=> ?_
    .have:u' +1+1=a.size:=by simpa using e
     exact Gau ⟨rfl,.inl ⟨_,_,rfl,X.last xq I' (by lia)⟩⟩
    .have e' :u' +1+1≠a.size:=by simpa using e
     refine cV (λe2=> ?_) λe2=> ?_
     .exact Gau ⟨rfl,.inr ⟨_,_,_,_,_,_,rfl,xq,I',by lia,k2,by lia⟩⟩
     .exact Gau ⟨rfl,_,_,_,_,_,_,rfl,xq,I',by lia,k2,by lia⟩
  case p1=>
   refine Ob (λr t g=>Gau ⟨hz,r,_,rfl,g⟩) λo1 u1 v1 yk yj l1 xu I1 k1 k2 k3=> ?_;refine Gal (wpS_lift (Gco ⟨rfl, ?_⟩));refine Gal (Gbz (Gbi (I:=λj c y=>bg st y/\∃o u' v' mg ca cb l,c=(none,o,u',v',mg,ca,cb)/\aR it o l/\LoI rk p q l u' v' /\u' +1<p.length/\v' <q.length/\u1+v1+j<=u' +v')
    (Q:=λc y=>bg st y/\((∃r t,c=(some r,t)/\cN it rk p q r)\/∃o u' v' mg ca cb l,c=(none,o,u',v',mg,ca,cb)/\aR it o l/\LoI rk p q l u' v' /\u' +1<p.length/\v' <q.length/\u1+v1<=u' +v')) ?s2 ?f2 ⟨hz,o1,u1,v1,_,yk,yj,l1,rfl,xu,I1,k1,k2,by lia⟩) ?p2)
   case f2=>
    rintro c y ⟨_,o,u',v',mg,ca,cb,l,rfl,_,_,n1,n2,n3⟩;exfalso;lia
   case p2=>
    refine Od (λy r t hy g=>Gau ⟨hy,r,_,rfl,g⟩) λy o2 u2 v2 S0 SI SH l2 hy yE I2 n1 n2 n3=> ?_;dsimp only;rw[ni];refine Gal (GbS (Gau ⟨hy.trans ⟨rfl,rfl,rfl,rfl⟩,o2,u2,v2,_,l2,rfl,yE,I2,n1,n2,by lia⟩))
   case s2=>
    refine Oc λj y o u' v' ye ca cb l hj hy Ro I n1 n2 n3=> ?_;have fin:∀g,wpS (model prog w) A E s (loA a b g ca cb o u' v') (λr y' =>match r with
      | .done c=>bg st y' /\((∃r t,c=(some r,t)/\cN it rk p q r)\/∃o u' v' mg ca cb l,c=(none,o,u',v',mg,ca,cb)/\aR it o l/\LoI rk p q l u' v' /\u' +1<p.length/\v' <q.length/\u1+v1<=u' +v')
      | .yield c=>bg st y' /\∃o u' v' mg ca cb l,c=(none,o,u',v',mg,ca,cb)/\aR it o l/\LoI rk p q l u' v' /\u' +1<p.length/\v' <q.length/\u1+v1+(j+1)<=u' +v') y:=λg=>by
     refine Lx X (hy.1.trans hk) Ro I n1 n2 (N:=u' +v' +2) (Gaq _) λr z' sz hr=> ?_;cases r with
     |done c=>
      rcases hr with hr| ⟨o,u,v,mg,ca,cb,e,P,hn⟩
      .exact⟨hy.trans sz,.inl hr⟩
      .obtain⟨l,h1,h2⟩:=P.ex;exact⟨hy.trans sz,.inr ⟨o,u,v,mg,ca,cb,l,e,h1,h2,P.bu,P.bv,by lia⟩⟩
     |yield c=>
      obtain⟨o,u,v,mg,ca,cb,e,P,hn⟩:=hr;obtain⟨l,h1,h2⟩:=P.ex;exact⟨hy.trans sz,o,u,v,mg,ca,cb,l,e,h1,h2,P.bu,P.bv,by lia⟩
    show wpS (model prog w) A E s (if ye >1 then loA a b (ye -1) ca cb o u' v' else loA a b ye ca cb o u' v') _ y;split
    .exact Gbz (fin _) λr y' hr=>by cases r<;>exact hr
    .exact Gbz (fin _) λr y' hr=>by cases r<;>exact hr
end
noncomputable def Ly:Array Keyed->Array Keyed->SM (Array Keyed):=sortPriv%PySem.Builtin.mergeHi
theorem J7(a b:Array Keyed):Ly a b=(do
 rule "list.sort.merge-hi"
 let tot:=a.size+b.size
 let fin (o:Array Keyed) (u v:Nat):=a.extract 0 u++b.extract 0 v++o.reverse
 let fst (o:Array Keyed) (u v:Nat):=b.extract 0 v++a.extract 0 u++o.reverse
 let mut u:=a.size -1
 let mut v:=b.size
 let mut o:Array Keyed:=#[<-elem' a u]
 if u==0 then return fin o u v
 if v==1 then return fst o u v
 let mut mg:=gallopOf (<-get)
 for _ in [0:tot] do
  let mut ca:=0
  let mut cb:=0
  for _ in [0:tot] do
   let some w<-lt' (<-elem' b (v -1)) (<-elem' a (u -1))|return fin o u v
   if w then
    u:=u -1;o:=o.push (<-elem' a u);ca:=ca+1;cb:=0
    if u==0 then return fin o u v
    if ca>=mg then break
   else
    v:=v -1;o:=o.push (<-elem' b v);cb:=cb+1;ca:=0
    if v==1 then return fst o u v
    if cb>=mg then break
  rule "list.sort.gallop"
  mg:=mg+1
  for _ in [0:tot] do
   if mg>1 then mg:=mg -1
   qH mg
   let some c<-jT false (<-elem' b (v -1)) a 0 u (u -1)|return fin o u v
   let k:=u -c
   ca:=k
   if k>0 then
    o:=o++(a.extract c u).reverse;u:=c
    if u==0 then return fin o u v
   v:=v -1;o:=o.push (<-elem' b v)
   if v==1 then return fst o u v
   let some c<-jT true (<-elem' a (u -1)) b 0 v (v -1)|return fin o u v
   let k:=v -c
   cb:=k
   if k>0 then
    o:=o++(b.extract c v).reverse;v:=c
    if v==1 then return fst o u v
    if v==0 then return fin o u v
   u:=u -1;o:=o.push (<-elem' a u)
   if u==0 then return fin o u v
   if ca<7&&cb<7 then break
  mg:=mg+1
  qH mg
 unsupported "internal:list.sort.merge-bound"):=rfl
abbrev Bo:=Option (Array Keyed)×Nat×Nat×Array Keyed×Nat×Nat×Nat
noncomputable def hiC(a b:Array Keyed)(mg ca cb:Nat)(o:Array Keyed)(u v:Nat):SM (ForInStep Bo):=do
 let e<-elem' a (u -1)
 if(u -1==0)=true then pure (.done (some (a.extract 0 (u -1)++b.extract 0 v++(o.push e).reverse),u -1,v,o.push e,mg,ca,cb))
 else if(decide (ca<7)&&decide (cb<7))=true then pure (.done (none,u -1,v,o.push e,mg,ca,cb))
 else pure (.yield (none,u -1,v,o.push e,mg,ca,cb))
noncomputable def hiB(a b:Array Keyed)(mg ca cb:Nat)(o:Array Keyed)(u v:Nat):SM (ForInStep Bo):=do
 let e<-elem' b (v -1)
 if(v -1==1)=true then pure (.done (some (b.extract 0 (v -1)++a.extract 0 u++(o.push e).reverse),u,v -1,o.push e,mg,ca,cb))
 else do
  let e2<-elem' a (u -1)
  let f<-jT true e2 b 0 (v -1) (v -1 -1)
  match f with
  |some c=>
   if v -1 -c>0 then
    if(c==1)=true then pure (.done (some (b.extract 0 c++a.extract 0 u++(o.push e++(b.extract c (v -1)).reverse).reverse),u,c,o.push e++(b.extract c (v -1)).reverse,mg,ca,v -1 -c))
    else if(c==0)=true then pure (.done (some (a.extract 0 u++b.extract 0 c++(o.push e++(b.extract c (v -1)).reverse).reverse),u,c,o.push e++(b.extract c (v -1)).reverse,mg,ca,v -1 -c))
    else hiC a b mg ca (v -1 -c) (o.push e++(b.extract c (v -1)).reverse) u c
   else hiC a b mg ca (v -1 -c) (o.push e) u (v -1)
  |_=>pure (.done (some (a.extract 0 u++b.extract 0 (v -1)++(o.push e).reverse),u,v -1,o.push e,mg,ca,cb))
noncomputable def hiA(a b:Array Keyed)(mg ca cb:Nat)(o:Array Keyed)(u v:Nat):SM (ForInStep Bo):=do
 qH mg
 let e<-elem' b (v -1)
 let f<-jT false e a 0 u (u -1)
 match f with
 |some c=>
  if u -c>0 then
   if(c==0)=true then pure (.done (some (a.extract 0 c++b.extract 0 v++(o++(a.extract c u).reverse).reverse),c,v,o++(a.extract c u).reverse,mg,u -c,cb))
   else hiB a b mg (u -c) cb (o++(a.extract c u).reverse) c v
  else hiB a b mg (u -c) cb o u v
 |_=>pure (.done (some (a.extract 0 u++b.extract 0 v++o.reverse),u,v,o,mg,ca,cb))
structure HiI(rk:Nat->Int)(p q o:List Nat)(u v:Nat):Prop where
 pm:o.Perm (p.drop u++q.drop v)
 so:Srt rk o.reverse
 oa:∀x∈o,∀y∈p.take u,rk y<=rk x
 ob:∀x∈o,∀y∈q.take v,rk y<=rk x
section
variable{rk:Nat->Int}{p q o:List Nat}{u v c:Nat}
theorem DW{l:List Nat}{m n:Nat}{x:Nat}(h:m<=n)(hx:x∈l.take m):x∈l.take n:=by
 have:l.take m=(l.take n).take m:=by rw[Gcs,GbP h]
 rw[this] at hx;exact Gbk hx
theorem Gh{l:List Nat}{m n:Nat}{x:Nat}(h:m<=n)(hx:x∈(l.drop m).take (n -m)):x∈l.take n:=by
 rw[<-GcQ] at hx;exact Gbr hx
theorem Gi{l:List Nat}{m n:Nat}(h:m<=n):l.drop m=(l.drop m).take (n -m)++l.drop n:=by
 conv=>lhs;rw[<-Gbf (n -m) (l.drop m)]
 rw[GbV,show m+(n -m)=n by lia]
theorem HiI.Bn(I:HiI rk p q o u v)(sp:Srt rk p)(hc:c<=u)(h:∀x∈(p.drop c).take (u -c),∀y∈q.take v,rk y<=rk x):HiI rk p q (o++((p.drop c).take (u -c)).reverse) c v:=by
 refine⟨?_, ?_,λx hx y hy=> ?_,λx hx y hy=> ?_⟩
 .have e:p.drop c++q.drop v=((p.drop c).take (u -c)++p.drop u)++q.drop v:=by rw[<-Gi hc]
  rw[e];refine(Gbq.trans ?_);rw[Gas];exact(List.reverse_perm _).append I.pm
 .rw[List.reverse_append,List.reverse_reverse];exact cW (fF (dU sp c) _) I.so λx hx y hy=>I.oa y (GbU.mp hy) x (Gh hc hx)
 .rcases GaE.mp hx with hx|hx
  .exact I.oa x hx y (DW hc hy)
  .exact pL sp c y hy x (Gbk (GbU.mp hx))
 .rcases GaE.mp hx with hx|hx
  .exact I.ob x hx y hy
  .exact h x (GbU.mp hx) y hy
theorem HiI.swap(I:HiI rk p q o u v):HiI rk q p o v u:=⟨I.pm.trans Gbq,I.so,I.ob,I.oa⟩
theorem HiI.Lw(I:HiI rk p q o u v)(sq:Srt rk q)(hc:c<=v)(h:∀x∈(q.drop c).take (v -c),∀y∈p.take u,rk y<=rk x):HiI rk p q (o++((q.drop c).take (v -c)).reverse) u c:=(I.swap.Bn sq hc h).swap
theorem HiI.qI{x:Nat}(I:HiI rk p q o u v)(sp:Srt rk p)(hu:0<u)(hx:p[u -1]? =some x)(h:∀y∈q.take v,rk y<=rk x):HiI rk p q (o++[x]) (u -1) v:=by
 have e:(p.drop (u -1)).take (u -(u -1))=[x]:=by rw[show u -(u -1)=1 by lia];exact take1 hx
 have:=I.Bn (c:=u -1) sp (by lia) (by rw[e];intro z hz;simp at hz;subst hz;exact h);rw[e] at this;exact this
theorem HiI.wD{x:Nat}(I:HiI rk p q o u v)(sq:Srt rk q)(hv:0<v)(hx:q[v -1]? =some x)(h:∀y∈p.take u,rk y<=rk x):HiI rk p q (o++[x]) u (v -1):=(I.swap.qI sq hv hx h).swap
theorem HiI.perm(I:HiI rk p q o u v):(p.take u++q.take v++o.reverse).Perm (p++q):=by
 refine(GbI _ ((List.reverse_perm _).trans I.pm)).trans ?_;have e:p++q=(p.take u++p.drop u)++(q.take v++q.drop v):=by rw[Gbf,Gbf]
 rw[e,Gas,Gas];refine GbI _ ?_;rw[<-Gas,<-Gas];exact Gbc _ Gbq
theorem HiI.done(I:HiI rk p q o u v)(sp:Srt rk p)(sq:Srt rk q)(h:u=0\/v=0):(p.take u++q.take v++o.reverse).Perm (p++q)/\Srt rk (p.take u++q.take v++o.reverse):=by
 refine⟨I.perm, ?_⟩;rcases h with rfl|rfl
 .rw[List.take_zero,GcE];exact cW (fF sq v) I.so λx hx y hy=>I.ob y (GbU.mp hy) x hx
 .rw[List.take_zero,GaW];exact cW (fF sp u) I.so λx hx y hy=>I.oa y (GbU.mp hy) x hx
theorem HiI.first(I:HiI rk p q o u v)(sp:Srt rk p)(h:v=1)(h0:∀x,q[0]? =some x->∀y∈p,rk x<=rk y):(q.take v++p.take u++o.reverse).Perm (p++q)/\Srt rk (q.take v++p.take u++o.reverse):=by
 refine⟨(Gbc _ Gbq).trans I.perm, ?_⟩;subst h;refine cW (cW ?_ (fF sp u) λx hx y hy=> ?_) I.so λx hx y hy=> ?_
 .cases q with
  |nil=>exact List.Pairwise.nil
  |cons z t=>exact Gcb _ _
 .cases q with
  |nil=>cases hx
  |cons z t=>
   have:x=z:=by simpa using hx
   subst this;exact h0 x rfl y (Gbk hy)
 .rcases GaE.mp hx with hx|hx
  .exact I.ob y (GbU.mp hy) x hx
  .exact I.oa y (GbU.mp hy) x hx
end
section
variable{prog:Program}{w:World}{A:Around}{E:Value->Shared->Prop}{s:Shared}{st:SortSt}{Y:SortKind}{it:Array Keyed}{rk:Nat->Int}{a b:Array Keyed}{p q:List Nat}
theorem aR.take{a:Array Keyed}{p:List Nat}(R:aR it a p)(n:Nat):aR it (a.extract 0 n) (p.take n):=by
 have:=R.extract 0 n;rw[Gbu,GdZ] at this;exact this
theorem kY{l:List Nat}{x y n:Nat}(h:Srt rk l)(hx:l[n -1]? =some x)(hy:y∈l.take n):rk y<=rk x:=by
 obtain⟨k,hk⟩:=Gck.mp hy;have QU:k<n:=by have:=(Gaj.mp hk).1;simp at this;lia
 rw[GaV QU] at hk;exact pK h (by lia) hk hx
structure HiP(it:Array Keyed)(rk:Nat->Int)(p q:List Nat)(o:Array Keyed)(u v:Nat):Prop where
 ex:∃l,aR it o l/\HiI rk p q l u v
 bu:0<u
 bv:1<v
 cu:u<=p.length
 cv:v<=q.length
def CH(it:Array Keyed)(rk:Nat->Int)(p q:List Nat)(N:Nat):ForInStep Bo->Prop
 | .done c=>(∃r t,c=(some r,t)/\cN it rk p q r)\/∃o u v mg ca cb,c=(none,u,v,o,mg,ca,cb)/\HiP it rk p q o u v/\u+v<=N
 | .yield c=>∃o u v mg ca cb,c=(none,u,v,o,mg,ca,cb)/\HiP it rk p q o u v/\u+v<=N
structure HiX(prog:Program)(w:World)(A:Around)(s:Shared)(Y:SortKind)(it:Array Keyed)(rk:Nat->Int)(a b:Array Keyed)(p q:List Nat):Prop where
 hA:gz prog w A s Y it rk
 Ra:aR it a p
 Rb:aR it b q
 sp:Srt rk p
 sq:Srt rk q
 h0:∀x,q[0]? =some x->∀y∈p,rk x<=rk y
theorem HiX.done{o:Array Keyed}{l:List Nat}{u v:Nat}(X:HiX prog w A s Y it rk a b p q)(Ro:aR it o l)(I:HiI rk p q l u v)(hh:u=0\/v=0):cN it rk p q (a.extract 0 u++b.extract 0 v++o.reverse):=
 ⟨_,((X.Ra.take _).append (X.Rb.take _)).append Ro.reverse,(I.done X.sp X.sq hh).1,(I.done X.sp X.sq hh).2⟩
theorem HiX.first{o:Array Keyed}{l:List Nat}{u v:Nat}(X:HiX prog w A s Y it rk a b p q)(Ro:aR it o l)(I:HiI rk p q l u v)(hh:v=1):cN it rk p q (b.extract 0 v++a.extract 0 u++o.reverse):=
 ⟨_,((X.Rb.take _).append (X.Ra.take _)).append Ro.reverse,(I.first X.sp hh X.h0).1,(I.first X.sp hh X.h0).2⟩
theorem Gj{mg ca cb u v N:Nat}{o:Array Keyed}{l:List Nat}{R:ForInStep Bo->SortSt->Prop}(X:HiX prog w A s Y it rk a b p q)(Ro:aR it o l)(I:HiI rk p q l u v)(bu:0<u)(bv:1<v)(cu:u<=p.length)(cv:v<=q.length)
  (hx:∀x,p[u -1]? =some x->∀y∈q.take v,rk y<=rk x)(hN:u+v<=N+1)(h:∀r,CH it rk p q N r->R r st):wpS (model prog w) A E s (hiC a b mg ca cb o u v) R st:=by
 unfold hiC;obtain⟨x,ex⟩:∃x,p[u -1]? =some x:=⟨_,Gaa (by lia)⟩
 refine Gal (bh X.Ra ex ?_);have I' :=I.qI X.sp bu ex (hx x ex);have xq :=Ro.push (X.Ra.lt ex);by_cases e:(u -1==0)=true
 .rw[Gaf e];have:u -1=0:=by simpa using e
  exact Gau (h _ (.inl ⟨_,_,rfl,X.done xq I' (.inl this)⟩))
 .rw[Gag e];have e' :u -1≠0:=by simpa using e
  by_cases e2:(decide (ca<7)&&decide (cb<7))=true
  .rw[Gaf e2];exact Gau (h _ (.inr ⟨_,_,_,_,_,_,rfl,⟨⟨_,xq,I'⟩,by lia,bv,by lia,cv⟩,by lia⟩))
  .rw[Gag e2];exact Gau (h _ ⟨_,_,_,_,_,_,rfl,⟨⟨_,xq,I'⟩,by lia,bv,by lia,cv⟩,by lia⟩)
theorem Gk{mg ca cb u v N:Nat}{o:Array Keyed}{l:List Nat}{R:ForInStep Bo->SortSt->Prop}(X:HiX prog w A s Y it rk a b p q)(hk:kindOf st=Y)(Ro:aR it o l)(I:HiI rk p q l u v)(bu:0<u)(bv:1<v)(cu:u<=p.length)(cv:v<=q.length)
  (hx:∀x,q[v -1]? =some x->∀y∈p.take u,rk y<=rk x)(hN:u+v<=N+2)(h:∀r,CH it rk p q N r->R r st):wpS (model prog w) A E s (hiB a b mg ca cb o u v) R st:=by
 unfold hiB;obtain⟨y,ey⟩:∃x,q[v -1]? =some x:=⟨_,Gaa (by lia)⟩
 obtain⟨x,ex⟩:∃x,p[u -1]? =some x:=⟨_,Gaa (by lia)⟩
 refine Gal (bh X.Rb ey ?_);have I1:=I.wD X.sq (by lia) ey (hx y ey);have xu:=Ro.push (X.Rb.lt ey);by_cases e:(v -1==1)=true
 .rw[Gaf e];have:v -1=1:=by simpa using e
  exact Gau (h _ (.inl ⟨_,_,rfl,X.first xu I1 this⟩))
 rw[Gag e];have e' :v -1≠1:=by simpa using e
 refine Gal (bh X.Ra ex ?_);refine Gal (ou X.hA hk X.Rb (X.Ra.lt ex) (by lia) (by rw[Gbu];exact fF X.sq _) (by lia) λc zJ t1 t2=> ?_);rw[Gbu] at t1 t2;simp only[Gbx] at t1 t2;dsimp only;have yM :∀z∈(q.drop c).take (v -1 -c),rk x<=rk z:=λz hz=>t2 z (by rw[GcQ];exact hz);have yb :∀z∈q.take c,rk z<rk x:=λz hz=>t1 z (by rw[Gcs,GbP zJ];exact hz);have I2:=I1.Lw (c:=c) X.sq zJ λz hz t ht=>by have:=yM z hz;have:=kY X.sp ex ht;lia
 have yE:=xu.append (X.Rb.extract c (v -1)).reverse;have hx2:∀z,p[u -1]? =some z->∀t∈q.take c,rk t<=rk z:=λz hz t ht=>by
  rw[ex] at hz;cases hz
  have:=yb t ht;lia
 by_cases g:v -1 -c>0
 .rw[Gaf g];by_cases e2:(c==1)=true
  .rw[Gaf e2];have:c=1:=by simpa using e2
   exact Gau (h _ (.inl ⟨_,_,rfl,X.first yE I2 this⟩))
  rw[Gag e2];have e2' :c≠1:=by simpa using e2
  by_cases e3:(c==0)=true
  .rw[Gaf e3];have:c=0:=by simpa using e3
   exact Gau (h _ (.inl ⟨_,_,rfl,X.done yE I2 (.inr this)⟩))
  rw[Gag e3];have RP :c≠0:=by simpa using e3
  exact Gj X yE I2 bu (by lia) cu (by lia) hx2 (by lia) h
 .rw[Gag g];have k0:c=v -1:=by lia
  rw[k0] at hx2;exact Gj X xu I1 bu (by lia) cu (by lia) hx2 (by lia) h
theorem Lz{mg ca cb u v N:Nat}{o:Array Keyed}{l:List Nat}{R:ForInStep Bo->SortSt->Prop}(X:HiX prog w A s Y it rk a b p q)(hk:kindOf st=Y)(Ro:aR it o l)(I:HiI rk p q l u v)(bu:0<u)(bv:1<v)(cu:u<=p.length)(cv:v<=q.length)
  (hN:u+v<=N+2)(h:∀r z,bg st z->CH it rk p q N r->R r z):wpS (model prog w) A E s (hiA a b mg ca cb o u v) R st:=by
 unfold hiA;rw[ni];refine Gal (GbS ?_);generalize hz:SortSt.mk' (kindOf st) (arrOf st) (pendingOf st) mg (failedOf st)=z;have sz:bg st z:=by rw[<-hz];exact⟨rfl,rfl,rfl,rfl⟩
 have hkz:kindOf z=Y:=sz.1.trans hk;have h' :∀r,CH it rk p q N r->R r z:=λr hr=>h r z sz hr;obtain⟨y,ey⟩:∃x,q[v -1]? =some x:=⟨_,Gaa (by lia)⟩
 refine Gal (bh X.Rb ey ?_);refine Gal (ou X.hA hkz X.Ra (X.Rb.lt ey) (by lia) (by rw[Gbu];exact fF X.sp _) (by lia) λc zJ t1 t2=> ?_);rw[Gbu] at t1 t2;simp only[GaK,Gbj] at t1 t2;dsimp only;have yM :∀z∈(p.drop c).take (u -c),rk y<rk z:=λz hz=>t2 z (by rw[GcQ];exact hz);have yb :∀z∈p.take c,rk z<=rk y:=λz hz=>t1 z (by rw[Gcs,GbP zJ];exact hz);have I1:=I.Bn (c:=c) X.sp zJ λz hz t ht=>by have:=yM z hz;have:=kY X.sq ey ht;lia
 have xu:=Ro.append (X.Ra.extract c u).reverse;have hx:∀z,q[v -1]? =some z->∀t∈p.take c,rk t<=rk z:=λz hz t ht=>by
  rw[ey] at hz;cases hz
  exact yb t ht
 by_cases g:u -c>0
 .rw[Gaf g];by_cases e1:(c==0)=true
  .rw[Gaf e1];have:c=0:=by simpa using e1
   exact Gau (h' _ (.inl ⟨_,_,rfl,X.done xu I1 (.inl this)⟩))
  rw[Gag e1];have xU :c≠0:=by simpa using e1
  exact Gk X hkz xu I1 (by lia) bv (by lia) cv hx (by lia) h'
 .rw[Gag g];have k0:c=u:=by lia
  rw[k0] at hx;exact Gk X hkz Ro I bu bv cu cv hx (by lia) h'
theorem J8{G:Nat->Option (Array Keyed)×Nat×Nat×Array Keyed×Nat->SortSt->Prop}{n m:Nat}(h:∀i z o u v mg,i<m->bg st z->HiP it rk p q o u v->u+v+i+1<=p.length+q.length->G i (none,u,v,o,mg) z):∀i c z,n<=i->i<m->(bg st z/\∃o u v mg,c=(none,u,v,o,mg)/\HiP it rk p q o u v/\u+v+i+1<=p.length+q.length)->G i c z:=by
 rintro i c z _ hi ⟨hz,o,u,v,mg,rfl,P,g3⟩;exact h i z o u v mg hi hz P g3
theorem Of{G:Nat->Option (Array Keyed)×Nat×Nat×Array Keyed×Nat×Nat->SortSt->Prop}{n m t:Nat}{z:SortSt}(h:∀j o u v ca cb,j<m->HiP it rk p q o u v->u+v+j<=t->G j (none,u,v,o,ca,cb) z):∀j c z',n<=j->j<m->(z' =z/\∃o u v ca cb,c=(none,u,v,o,ca,cb)/\HiP it rk p q o u v/\u+v+j<=t)->G j c z' :=by
 rintro j c z' _ hj ⟨rfl,o,u',v',ca,cb,rfl,P,k3⟩;exact h j o u' v' ca cb hj P k3
theorem Og{G:Option (Array Keyed)×Nat×Nat×Array Keyed×Nat×Nat->SortSt->Prop}{n:Nat}{z:SortSt}(h1:∀r t,cN it rk p q r->G (some r,t) z)(h2:∀o u v ca cb,HiP it rk p q o u v->u+v+1<=n->G (none,u,v,o,ca,cb) z):∀c z',(z' =z/\((∃r t,c=(some r,t)/\cN it rk p q r)\/∃o u v ca cb,c=(none,u,v,o,ca,cb)/\HiP it rk p q o u v/\u+v+1<=n))->G c z' :=by
 rintro c z' ⟨rfl,⟨r,t,rfl,g⟩| ⟨o1,u1,v1,yk,yj,rfl,P1,k3⟩⟩
 .exact h1 r t g
 .exact h2 o1 u1 v1 yk yj P1 k3
theorem Oh{G:Nat->Option (Array Keyed)×Nat×Nat×Array Keyed×Nat×Nat×Nat->SortSt->Prop}{n m t:Nat}(h:∀j y o u v mg ca cb,j<m->bg st y->HiP it rk p q o u v->u+v+j<=t->G j (none,u,v,o,mg,ca,cb) y):∀j c y,n<=j->j<m->(bg st y/\∃o u v mg ca cb,c=(none,u,v,o,mg,ca,cb)/\HiP it rk p q o u v/\u+v+j<=t)->G j c y:=by
 rintro j c y _ hj ⟨hy,o,u',v',ye,ca,cb,rfl,P,n3⟩;exact h j y o u' v' ye ca cb hj hy P n3
theorem Oi{G:Option (Array Keyed)×Nat×Nat×Array Keyed×Nat×Nat×Nat->SortSt->Prop}{n:Nat}(h1:∀y r t,bg st y->cN it rk p q r->G (some r,t) y)(h2:∀y o u v mg ca cb,bg st y->HiP it rk p q o u v->u+v<=n->G (none,u,v,o,mg,ca,cb) y):∀c y,(bg st y/\((∃r t,c=(some r,t)/\cN it rk p q r)\/∃o u v mg ca cb,c=(none,u,v,o,mg,ca,cb)/\HiP it rk p q o u v/\u+v<=n))->G c y:=by
 rintro c y ⟨hy,⟨r,t,rfl,g⟩| ⟨o1,u1,v1,QD,yk,yj,rfl,P1,k3⟩⟩
 .exact h1 y r t hy g
 .exact h2 y o1 u1 v1 QD yk yj hy P1 k3
theorem Oj{Q:Array Keyed->SortSt->Prop}(hA:gz prog w A s Y it rk)(hk:kindOf st=Y)(Ra:aR it a p)(Rb:aR it b q)(sp:Srt rk p)(sq:Srt rk q)(hp:0<p.length)(hq:0<q.length)
  (h0:∀x,q[0]? =some x->∀y∈p,rk x<=rk y)(hl:∀x,p[p.length -1]? =some x->∀y∈q,rk y<=rk x)(h:∀r z,bg st z->cN it rk p q r->Q r z):wpS (model prog w) A E s (Ly a b) Q st:=by
 rw[J7];refine Gal (wpS_lift (Gco ⟨rfl, ?_⟩));have sza:=Ra.size;have szb:=Rb.size;obtain⟨x0,yf⟩:∃x,p[p.length -1]? =some x:=⟨_,Gaa (by lia)⟩
 rw[sza,szb];refine Gal (bh Ra yf ?_);have I0:HiI rk p q [x0] (p.length -1) q.length:=by
  refine⟨?_,Gcb _ _,λx hx y hy=> ?_,λx hx y hy=> ?_⟩
  .have:=take1 yf;rw[GbL,GaW];have e:p.drop (p.length -1)=[x0]:=by
    rw[<-this,Gbn (by simp;lia)]
   rw[e]
  .simp at hx;subst hx;exact kY sp yf (by rw[Gcv];exact Gbk hy)
  .simp at hx;subst hx;exact hl _ yf y (Gbk hy)
 have R0:aR it #[kas_item it x0] [x0]:=⟨rfl,λj hj=>by simp at hj;subst hj;exact Ra.lt yf⟩
 have X:HiX prog w A s Y it rk a b p q:=⟨hA,Ra,Rb,sp,sq,h0⟩
 refine cV (λc1=> ?_) λc1=> ?_
 .have:p.length -1=0:=by simpa using c1
  exact Gau (h _ _ .refl (X.done R0 I0 (.inl this)))
 have c1' :p.length -1≠0:=by simpa using c1
 refine cV (λc2=> ?_) λc2=> ?_
 .have:q.length=1:=by simpa using c2
  exact Gau (h _ _ .refl (X.first R0 I0 this))
 have c2' :q.length≠1:=by simpa using c2
 refine Gal (GcP ?_);refine Gal (Gbz (Gbi (I:=λi c z=>bg st z/\∃o u v mg,c=(none,u,v,o,mg)/\HiP it rk p q o u v/\u+v+i+1<=p.length+q.length)
  (Q:=λc z=>bg st z/\∃r t,c=(some r,t)/\cN it rk p q r) ?step ?fin ⟨.refl,_,_,_,_,rfl,⟨⟨_,R0,I0⟩,by lia,by lia,by lia,by lia⟩,by lia⟩) ?post)
 case fin=>
  rintro c z ⟨_,o,u,v,mg,rfl,P,g3⟩;have:=P.bu;exfalso;lia
 case post=>
  rintro c z ⟨hz,r,t,rfl,g⟩;exact Gau (h r z hz g)
 case step=>
  refine J8 λi z o u v mg hi hz P g3=> ?_;have hkz:kindOf z=Y:=hz.1.trans hk;refine Gal (Gbz (Gbi (I:=λj c z' =>z' =z/\∃o u' v' ca cb,c=(none,u',v',o,ca,cb)/\HiP it rk p q o u' v' /\u' +v' +j<=u+v)
   (Q:=λc z' =>z' =z/\((∃r t,c=(some r,t)/\cN it rk p q r)\/∃o u' v' ca cb,c=(none,u',v',o,ca,cb)/\HiP it rk p q o u' v' /\u' +v' +1<=u+v)) ?s1 ?f1 ⟨rfl,o,u,v,0,0,rfl,P,by lia⟩) ?p1)
  case f1=>
   rintro c z' ⟨_,o,u',v',ca,cb,rfl,P',k3⟩;have:=P'.bu;have:=P.cu;have:=P.cv;exfalso;lia
  case s1=>
   refine Of λj o u' v' ca cb hj P' k3=> ?_;have⟨⟨l,Ro,I⟩,bu,bv,cu,cv⟩:=P';obtain⟨y,hy⟩:∃x,q[v' -1]? =some x:=⟨_,Gaa (by lia)⟩
   obtain⟨x,hx⟩:∃x,p[u' -1]? =some x:=⟨_,Gaa (by lia)⟩
   refine Gal (bh Rb hy (Gal (bh Ra hx (Gal (wC hA hkz (Rb.lt hy) (Ra.lt hx) ?_)))));dsimp only;refine cV (λlt=> ?_) λlt=> ?_
   .replace lt:=Gar lt;refine Gal (bh Ra hx ?_);have I' :=I.qI sp bu hx λt ht=>by have:=kY sq hy ht;lia
    have xq :=Ro.push (Ra.lt hx);refine cV (λe=> ?_) λe=> ?_
    .have:u' -1=0:=by simpa using e
     exact Gau ⟨rfl,.inl ⟨_,_,rfl,X.done xq I' (.inl this)⟩⟩
    .have e' :u' -1≠0:=by simpa using e
     refine cV (λe2=> ?_) λe2=> ?_
     .exact Gau ⟨rfl,.inr ⟨_,_,_,_,_,rfl,⟨⟨_,xq,I'⟩,by lia,bv,by lia,cv⟩,by lia⟩⟩
     .exact Gau ⟨rfl,_,_,_,_,_,rfl,⟨⟨_,xq,I'⟩,by lia,bv,by lia,cv⟩,by lia⟩
   .replace lt:=of_decide_eq_false (Bool.eq_false_iff.mpr lt);refine Gal (bh Rb hy ?_);have I' :=I.wD sq (by lia) hy λt ht=>by have:=kY sp hx ht;lia
    have xq :=Ro.push (Rb.lt hy);refine cV (λe=> ?_) λe=> ?_
    .have:v' -1=1:=by simpa using e
     exact Gau ⟨rfl,.inl ⟨_,_,rfl,X.first xq I' this⟩⟩
    .have e' :v' -1≠1:=by simpa using e
     refine cV (λe2=> ?_) λe2=> ?_
     .exact Gau ⟨rfl,.inr ⟨_,_,_,_,_,rfl,⟨⟨_,xq,I'⟩,bu,by lia,cu,by lia⟩,by lia⟩⟩
     .exact Gau ⟨rfl,_,_,_,_,_,rfl,⟨⟨_,xq,I'⟩,bu,by lia,cu,by lia⟩,by lia⟩
  case p1=>
   refine Og (λr t g=>Gau ⟨hz,r,_,rfl,g⟩) λo1 u1 v1 yk yj P1 k3=> ?_;refine Gal (wpS_lift (Gco ⟨rfl, ?_⟩));refine Gal (Gbz (Gbi (I:=λj c y=>bg st y/\∃o u' v' mg ca cb,c=(none,u',v',o,mg,ca,cb)/\HiP it rk p q o u' v' /\u' +v' +j<=u1+v1)
    (Q:=λc y=>bg st y/\((∃r t,c=(some r,t)/\cN it rk p q r)\/∃o u' v' mg ca cb,c=(none,u',v',o,mg,ca,cb)/\HiP it rk p q o u' v' /\u' +v' <=u1+v1)) ?s2 ?f2 ⟨hz,o1,u1,v1,_,yk,yj,rfl,P1,by lia⟩) ?p2)
   case f2=>
    rintro c y ⟨_,o,u',v',mg,ca,cb,rfl,P',n3⟩;have:=P'.bu;have:=P1.cu;have:=P1.cv;exfalso;lia
   case p2=>
    refine Oi (λy r t hy g=>Gau ⟨hy,r,_,rfl,g⟩) λy o2 u2 v2 S0 SI SH hy P2 n3=> ?_;dsimp only;rw[ni];exact Gal (GbS (Gau ⟨hy.trans ⟨rfl,rfl,rfl,rfl⟩,o2,u2,v2,_,rfl,P2,by lia⟩))
   case s2=>
    refine Oh λj y o u' v' ye ca cb hj hy P' n3=> ?_;have⟨⟨l,Ro,I⟩,bu,bv,cu,cv⟩:=P';have fin:∀g,wpS (model prog w) A E s (hiA a b g ca cb o u' v') (λr y' =>match r with
      | .done c=>bg st y' /\((∃r t,c=(some r,t)/\cN it rk p q r)\/∃o u' v' mg ca cb,c=(none,u',v',o,mg,ca,cb)/\HiP it rk p q o u' v' /\u' +v' <=u1+v1)
      | .yield c=>bg st y' /\∃o u' v' mg ca cb,c=(none,u',v',o,mg,ca,cb)/\HiP it rk p q o u' v' /\u' +v' +(j+1)<=u1+v1) y:=λg=>by
     refine Lz X (hy.1.trans hk) Ro I bu bv cu cv (N:=u' +v' -2) (by lia) λr z' sz hr=> ?_;cases r with
     |done c=>
      rcases hr with hr| ⟨o,u,v,mg,ca,cb,e,P,hn⟩
      .exact⟨hy.trans sz,.inl hr⟩
      .exact⟨hy.trans sz,.inr ⟨o,u,v,mg,ca,cb,e,P,by lia⟩⟩
     |yield c=>
      obtain⟨o,u,v,mg,ca,cb,e,P,hn⟩:=hr;exact⟨hy.trans sz,o,u,v,mg,ca,cb,e,P,by lia⟩
    show wpS (model prog w) A E s (if ye >1 then hiA a b (ye -1) ca cb o u' v' else hiA a b ye ca cb o u' v') _ y;split
    .exact Gbz (fin _) λr y' hr=>by cases r<;>exact hr
    .exact Gbz (fin _) λr y' hr=>by cases r<;>exact hr
end
open PySem.W (kas_item kas_swaps_map)
abbrev LA:=Option (Option Nat)×Nat
abbrev LB:=Option (Option Nat)×Nat×Nat
noncomputable def Gm(lo a eL:Nat):SM LA:=forIn [a:eL] ((none,a):LA) λ_ z=>do
 let x<-ltAt' (lo+z.2) (lo+z.2 -1)
 match x with
 |some c=>if c=true then pure (.done (none,z.2)) else pure (.yield (none,z.2+1))
 |_=>pure (.done (some none,z.2))
noncomputable def wF(lo n eL:Nat):SM (Option Nat):=do
 reverseSlice' lo (lo+n)
 let z<-Gm lo n eL
 match z.1 with
 |some r=>pure r
 |none=>pure (some z.2)
noncomputable def CI(lo n eL:Nat):SM LB:=forIn [n:eL] ((none,n,0):LB) λ_ z=>do
 let x<-ltAt' (lo+z.2.1) (lo+z.2.1 -1)
 match x with
 |some c=>
  if c=true then
   if z.2.2>0 then do
    reverseSlice' (lo+z.2.1 -(z.2.2+1)) (lo+z.2.1)
    pure (.yield (none,z.2.1+1,0))
   else pure (.yield (none,z.2.1+1,0))
  else do
   let y<-ltAt' (lo+z.2.1 -1) (lo+z.2.1)
   match y with
   |some d=>if d=true then pure (.done (none,z.2.1,z.2.2)) else pure (.yield (none,z.2.1+1,z.2.2+1))
   |_=>pure (.done (some none,z.2.1,z.2.2))
 |_=>pure (.done (some none,z.2.1,z.2.2))
noncomputable def qJ(lo n eL:Nat):SM (Option Nat):=do
 rule "list.sort.descending-run"
 let z<-CI lo (n+1) eL
 match z.1 with
 |some r=>pure r
 |none=>
  if z.2.2>0 then
   reverseSlice' (lo+z.2.1 -(z.2.2+1)) (lo+z.2.1)
   wF lo z.2.1 eL
  else wF lo z.2.1 eL
noncomputable def LC(lo eL:Nat):SM (Option Nat):=do
 let z<-Gm lo 1 eL
 match z.1 with
 |some r=>pure r
 |none=>
  if(z.2==eL)=true then pure (some z.2)
  else if z.2>1 then
   let x<-ltAt' lo (lo+z.2 -1)
   match x with
   |some c=>
    if c=true then pure (some z.2)
    else
     reverseSlice' lo (lo+z.2)
     qJ lo z.2 eL
   |_=>pure none
  else qJ lo z.2 eL
theorem uN(lo eL:Nat):countRun' lo eL=LC lo eL:=by
 rw[countRun'_eq];dsimp only;unfold LC qJ wF CI Gm;refine congrArg (bind _) (funext λz=> ?_);obtain⟨r,n⟩:=z;cases r with
 |some r=>rfl
 |none=>
  dsimp only;split
  .rfl
  .split
   .congr 1
    funext x
    cases x with
    |none=>rfl
    |some c=>
     dsimp only;split
     .rfl
     .congr 1
      funext _r
      congr 1
      funext _u
      congr 1;congr 1
      funext z2
      obtain⟨r2,n2,q2⟩:=z2;cases r2 with
      |some r2=>rfl
      |none=>
       dsimp only;split
       .congr 1
        funext _v
        congr 1
        funext _w
        congr 1
        funext z3
        obtain⟨r3,n3⟩:=z3;cases r3<;>rfl
       .congr 1
        funext _w
        congr 1
        funext z3
        obtain⟨r3,n3⟩:=z3;cases r3<;>rfl
   .congr 1
    funext _u
    congr 1;congr 1
    funext z2
    obtain⟨r2,n2,q2⟩:=z2;cases r2 with
    |some r2=>rfl
    |none=>
     dsimp only;split
     .congr 1
      funext _v
      congr 1
      funext _w
      congr 1
      funext z3
      obtain⟨r3,n3⟩:=z3;cases r3<;>rfl
     .congr 1
      funext _w
      congr 1
      funext z3
      obtain⟨r3,n3⟩:=z3;cases r3<;>rfl
structure SS(Y:SortKind)(it:Array Keyed)(z:SortSt)(p:Array Nat):Prop where
 kind:kindOf z=Y
 arr:arrOf z=p.map (kas_item it)
 fail:failedOf z=none
 ok:∀i∈p.toList,i<it.size
def ko(z z' :SortSt):Prop:=pendingOf z' =pendingOf z
noncomputable def Rk(rk:Nat->Int)(p:Array Nat)(i:Nat):Int:=rk (p.getD i 0)
def Up'(rk:Nat->Int)(p:Array Nat)(lo hi:Nat):Prop:=∀u v,lo<=u->u<=v->v<hi->Rk rk p u<=Rk rk p v
def Dn'(rk:Nat->Int)(p:Array Nat)(lo hi:Nat):Prop:=∀u v,lo<=u->u<=v->v<hi->Rk rk p v<=Rk rk p u
structure Ag(lo hi:Nat)(p p' :Array Nat):Prop where
 perm:p'.Perm p
 out:∀k,k<lo\/hi<=k->p'[k]? =p[k]?
theorem Ag.refl{lo hi:Nat}{p:Array Nat}:Ag lo hi p p:=⟨Array.Perm.refl _,λ_ _=>rfl⟩
theorem Ag.trans{lo hi:Nat}{p q r:Array Nat}(a:Ag lo hi p q)(b:Ag lo hi q r):Ag lo hi p r:=⟨b.perm.trans a.perm,λk h=>(b.out k h).trans (a.out k h)⟩
theorem Ag.size{lo hi:Nat}{p q:Array Nat}(a:Ag lo hi p q):q.size=p.size:=by
 have:=a.perm.toList.length_eq
 simpa using this
theorem Ag.mono{lo hi hi' :Nat}{p q:Array Nat}(a:Ag lo hi p q)(h:hi<=hi'):Ag lo hi' p q:=⟨a.perm,λk z=>a.out k (by lia)⟩
theorem Ag.rk{rk:Nat->Int}{lo hi k:Nat}{p q:Array Nat}(a:Ag lo hi p q)(h:k<lo\/hi<=k):Rk rk q k=Rk rk p k:=by
 unfold Rk;have:=a.out k h;simp only[Gch,this]
theorem kZ{lo hi:Nat}{p:Array Nat}(h:hi<=p.size):Ag lo hi p (mirror p lo hi ((hi -lo)/2)):=⟨mirror_perm _ _ _ _,λk z=>by
 rw[getElem?_mirror_all h,Gag (by lia)]⟩
theorem ox{rk:Nat->Int}{i j k:Nat}{p:Array Nat}(h:j<=p.size):Rk rk (mirror p i j ((j -i)/2)) k=if i<=k/\k<j then Rk rk p (i+j -1 -k) else Rk rk p k:=by
 unfold Rk;simp only[Gch,getElem?_mirror_all h];split<;>rfl
theorem fG{rk:Nat->Int}{i j k:Nat}{p:Array Nat}(h:j<=p.size)(e:∀u,i<=u->u<j->Rk rk p u=Rk rk p (j -1)):Rk rk (mirror p i j ((j -i)/2)) k=Rk rk p k:=by
 rw[ox h];split
 .rename_i z;rw[e _ (by lia) (by lia),e k z.1 z.2]
 .rfl
section
variable{prog:Program}{w:World}{A:Around}{E:Value->Shared->Prop}{s:Shared}{st:SortSt}{Y:SortKind}{it:Array Keyed}{rk:Nat->Int}{p:Array Nat}
theorem SS.rep(S:SS Y it st p):aR it (arrOf st) p.toList:=⟨by rw[S.arr];apply Gcu.mp;simp,S.ok⟩
theorem SS.move{p' :Array Nat}{xs:Array Keyed}(S:SS Y it st p)(pm:p'.Perm p)(e:xs=p'.map (kas_item it)):SS Y it (setArr st xs) p' :=⟨S.kind,e,S.fail,λi hi=>S.ok i (by
 have:=pm.toList.mem_iff (a:=i);exact this.mp hi)⟩
theorem wp_at{i j:Nat}{Q:Option Bool->SortSt->Prop}(hA:gz prog w A s Y it rk)(S:SS Y it st p)(hi:i<p.size)(hj:j<p.size)(h:Q (some (decide (Rk rk p i<Rk rk p j))) st):wpS (model prog w) A E s (ltAt' i j) Q st:=by
 rw[ltAt'_eq];refine Gal (GcP ?_);have gi:p.toList[i]? =some (p.getD i 0):=by simp[Array.getD,hi]
 have gj:p.toList[j]? =some (p.getD j 0):=by simp[Array.getD,hj]
 exact Gal (bh S.rep gi (Gal (bh S.rep gj (wC hA S.kind (S.rep.lt gi) (S.rep.lt gj) h))))
theorem uO{i j:Nat}{Q:Unit->SortSt->Prop}(S:SS Y it st p)(h:∀z,SS Y it z (mirror p i j ((j -i)/2))->ko st z->Q () z):wpS (model prog w) A E s (reverseSlice' i j) Q st:=by
 rw[reverseSlice'_eq];refine GbS (h _ (S.move (mirror_perm _ _ _ _) ?_) rfl);rw[S.arr];exact kas_swaps_map (kas_item it) (λk=>i+k) (λk=>j -1 -k) _ p
theorem CJ{lo a eL:Nat}{Q:LA->SortSt->Prop}(hA:gz prog w A s Y it rk)(S:SS Y it st p)(h1:1<=a)(ha:a<=eL)(hz:lo+eL<=p.size)(hu:Up' rk p lo (lo+a))
  (h:∀m,a<=m->m<=eL->Up' rk p lo (lo+m)->(m=eL\/Rk rk p (lo+m)<Rk rk p (lo+m -1))->Q (none,m) st):wpS (model prog w) A E s (Gm lo a eL) Q st:=by
 unfold Gm;refine Gbi (I:=λx c z=>z=st/\c=(none,x)/\Up' rk p lo (lo+x)) ?step ?fin ⟨rfl,rfl,hu⟩
 case fin=>
  rintro c z ⟨rfl,rfl,q⟩;rw[show max a eL=eL by lia] at q⊢;exact h eL ha (Gaq _) q (.inl rfl)
 case step=>
  rintro x c z h2 h3 ⟨rfl,rfl,q⟩;dsimp only;refine Gal (wp_at hA S (by lia) (by lia) ?_);dsimp only;by_cases lt:Rk rk p (lo+x)<Rk rk p (lo+x -1)
  .rw[Gaz lt];simp only[Gbx];exact Gau (h x h2 (by lia) q (.inr lt))
  .rw[GaD lt];simp only[GaK,Gbj];refine Gau ⟨rfl,rfl,λu v a1 a2 a3=> ?_⟩;by_cases hv:v<lo+x
   .exact q u v a1 a2 hv
   .have e:v=lo+x:=by lia
    subst e;by_cases hu:u=lo+x
    .subst hu;exact GbC _
    .have:=q u (lo+x -1) a1 (by lia) (by lia);lia
theorem wG{lo n eL:Nat}{Q:Option Nat->SortSt->Prop}(hA:gz prog w A s Y it rk)(S:SS Y it st p)(h1:1<=n)(hn:n<=eL)(hz:lo+eL<=p.size)(hd:Dn' rk p lo (lo+n))
  (h:∀m z p',SS Y it z p' ->ko st z->Ag lo (lo+eL) p p' ->1<=m->m<=eL->Up' rk p' lo (lo+m)->Q (some m) z):wpS (model prog w) A E s (wF lo n eL) Q st:=by
 unfold wF;refine Gal (uO S λz S' hp=> ?_);have ag:Ag lo (lo+n) p (mirror p lo (lo+n) ((lo+n -lo)/2)):=kZ (by lia);refine Gal (CJ hA S' h1 hn (by rw[ag.size];exact hz) (λu v a1 a2 a3=> ?_) λm m1 m2 m3 _=> ?_)
 .rw[ox (by lia),ox (by lia),Gaf (by lia),Gaf (by lia)];exact hd _ _ (by lia) (by lia) (by lia)
 .exact Gau (h m z _ S' hp (ag.mono (by lia)) (by lia) m2 m3)
theorem Gn{lo n eL:Nat}{Q:LB->SortSt->Prop}(hA:gz prog w A s Y it rk)(S:SS Y it st p)(h1:1<=n)(hn:n<=eL)(hz:lo+eL<=p.size)(hd:Dn' rk p lo (lo+n))
  (h:∀m e z p',SS Y it z p' ->ko st z->Ag lo (lo+eL) p p' ->n<=m->m<=eL->Dn' rk p' lo (lo+m)->e+1<=m->(∀u,lo+m -(e+1)<=u->u<lo+m->Rk rk p' u=Rk rk p' (lo+m -1))->Q (none,m,e) z):wpS (model prog w) A E s (CI lo n eL) Q st:=by
 unfold CI;refine Gbi (I:=λx c z=>∃e p',c=(none,x,e)/\SS Y it z p' /\ko st z/\Ag lo (lo+eL) p p' /\Dn' rk p' lo (lo+x)/\e+1<=x/\(∀u,lo+x -(e+1)<=u->u<lo+x->Rk rk p' u=Rk rk p' (lo+x -1))) ?step ?fin
  ⟨0,p,rfl,S,rfl,.refl,hd,by lia,λu a1 a2=>by rw[show u=lo+n -1 by lia]⟩
 case fin=>
  rintro c z ⟨e,p',rfl,S',hp,ag,d,e1,e2⟩;rw[show max n eL=eL by lia] at d e1 e2⊢;exact h eL e z p' S' hp ag hn (Gaq _) d e1 e2
 case step=>
  rintro x c z h2 h3 ⟨e,p',rfl,S',hp,ag,d,e1,e2⟩;have sz:=ag.size;dsimp only;refine Gal (wp_at hA S' (by lia) (by lia) ?_);dsimp only;by_cases lt:Rk rk p' (lo+x)<Rk rk p' (lo+x -1)
  .rw[Gaz lt];simp only[Gbx];have dn:∀r:Array Nat,(∀k,Rk rk r k=Rk rk p' k)->Dn' rk r lo (lo+(x+1)):=λr hr u v a1 a2 a3=>by
    rw[hr,hr];by_cases hv:v<lo+x
    .exact d u v a1 a2 hv
    .have ev:v=lo+x:=by lia
     subst ev;by_cases hu:u=lo+x
     .subst hu;exact GbC _
     .have:=d u (lo+x -1) a1 (by lia) (by lia);lia
   by_cases g:e>0
   .rw[Gaf g];refine Gal (uO S' λz' S2 xv=>Gau ⟨0,_,rfl,S2,xv.trans hp,ag.trans ?_,dn _ λk=>fG (by lia) e2,by lia,λu a1 a2=>by rw[show u=lo+(x+1)-1 by lia]⟩);have am:Ag (lo+x -(e+1)) (lo+x) p' (mirror p' (lo+x -(e+1)) (lo+x) ((lo+x -(lo+x -(e+1)))/2)):=kZ (by lia);exact⟨am.perm,λk hk=>am.out k (by lia)⟩
   .rw[Gag g];exact Gau ⟨0,p',rfl,S',hp,ag,dn p' λ_=>rfl,by lia,λu a1 a2=>by rw[show u=lo+(x+1)-1 by lia]⟩
  .rw[GaD lt];simp only[GaK,Gbj];refine Gal (wp_at hA S' (by lia) (by lia) ?_);dsimp only;by_cases gt:Rk rk p' (lo+x -1)<Rk rk p' (lo+x)
   .rw[Gaz gt];simp only[Gbx];exact Gau (h x e z p' S' hp ag h2 (by lia) d e1 e2)
   .rw[GaD gt];simp only[GaK,Gbj];have eq:Rk rk p' (lo+x)=Rk rk p' (lo+x -1):=by lia
    refine Gau ⟨e+1,p',rfl,S',hp,ag,λu v a1 a2 a3=> ?_,by lia,λu a1 a2=> ?_⟩
    .by_cases hv:v<lo+x
     .exact d u v a1 a2 hv
     .have ev:v=lo+x:=by lia
      subst ev;by_cases hu:u=lo+x
      .subst hu;exact GbC _
      .have:=d u (lo+x -1) a1 (by lia) (by lia);lia
    .rw[show lo+(x+1)-1=lo+x by lia,eq];by_cases hu:u=lo+x
     .subst hu;exact eq
     .exact e2 u (by lia) (by lia)
theorem tP{lo n eL:Nat}{Q:Option Nat->SortSt->Prop}(hA:gz prog w A s Y it rk)(S:SS Y it st p)(h1:1<=n)(hn:n+1<=eL)(hz:lo+eL<=p.size)(hd:Dn' rk p lo (lo+(n+1)))
  (h:∀m z p',SS Y it z p' ->ko st z->Ag lo (lo+eL) p p' ->1<=m->m<=eL->Up' rk p' lo (lo+m)->Q (some m) z):wpS (model prog w) A E s (qJ lo n eL) Q st:=by
 unfold qJ;refine Gal (wpS_lift (Gco ⟨rfl, ?_⟩));refine Gal (Gn hA S (by lia) hn hz hd λm e z p' S' hp ag m1 m2 d e1 e2=> ?_);have sz:=ag.size;dsimp only;by_cases g:e>0
 .rw[Gaf g];refine Gal (uO S' λz2 S2 xv=> ?_);have am:Ag (lo+m -(e+1)) (lo+m) p' (mirror p' (lo+m -(e+1)) (lo+m) ((lo+m -(lo+m -(e+1)))/2)):=kZ (by lia);have am' :Ag lo (lo+eL) p' (mirror p' (lo+m -(e+1)) (lo+m) ((lo+m -(lo+m -(e+1)))/2)):=⟨am.perm,λk hk=>am.out k (by lia)⟩
  refine wG hA S2 (by lia) m2 (by rw[am.size];lia) (λu v a1 a2 a3=> ?_) λm' z3 p3 S3 yA zO=>h m' z3 p3 S3 ((yA.trans xv).trans hp) ((ag.trans am').trans zO);rw[fG (by lia) e2,fG (by lia) e2];exact d u v a1 a2 a3
 .rw[Gag g];exact wG hA S' (by lia) m2 (by lia) d λm' z3 p3 S3 yA zO=>h m' z3 p3 S3 (yA.trans hp) (ag.trans zO)
theorem Gp{lo eL:Nat}{Q:Option Nat->SortSt->Prop}(hA:gz prog w A s Y it rk)(S:SS Y it st p)(h1:1<=eL)(hz:lo+eL<=p.size)
  (h:∀m z p',SS Y it z p' ->ko st z->Ag lo (lo+eL) p p' ->1<=m->m<=eL->Up' rk p' lo (lo+m)->Q (some m) z):wpS (model prog w) A E s (countRun' lo eL) Q st:=by
 rw[uN];unfold LC;refine Gal (CJ hA S (Gaq _) h1 hz (λu v a1 a2 a3=>by rw[show u=v by lia];exact GbC _) λn n1 n2 up stop=> ?_);dsimp only;by_cases c1:(n==eL)=true
 .rw[Gaf c1];exact Gau (h n st p S rfl .refl n1 n2 up)
 rw[Gag c1];have c1' :n≠eL:=by simpa using c1
 have lt:Rk rk p (lo+n)<Rk rk p (lo+n -1):=stop.resolve_left c1';by_cases c2:n>1
 .rw[Gaf c2];refine Gal (wp_at hA S (by lia) (by lia) ?_);dsimp only;by_cases ro:Rk rk p lo<Rk rk p (lo+n -1)
  .rw[Gaz ro];simp only[Gbx];exact Gau (h n st p S rfl .refl n1 n2 up)
  .rw[GaD ro];simp only[GaK,Gbj];have eq:∀u,lo<=u->u<lo+n->Rk rk p u=Rk rk p (lo+n -1):=λu a1 a2=>by
    have b1:=up lo u (Gaq _) a1 a2;have b2:=up u (lo+n -1) a1 (by lia) (by lia);lia
   refine Gal (uO S λz S' hp=> ?_);have am:Ag lo (lo+n) p (mirror p lo (lo+n) ((lo+n -lo)/2)):=kZ (by lia);refine tP hA S' n1 (by lia) (by rw[am.size];exact hz) (λu v a1 a2 a3=> ?_) λm' z3 p3 S3 yA zO=>h m' z3 p3 S3 (yA.trans hp) ((am.mono (by lia)).trans zO);rw[fG (by lia) eq,fG (by lia) eq];by_cases hv:v<lo+n
   .rw[eq u a1 (by lia),eq v (by lia) hv];exact GbC _
   .rw[show v=lo+n by lia];by_cases hu:u=lo+n
    .subst hu;exact GbC _
    .rw[eq u a1 (by lia)];lia
 .rw[Gag c2];have yv :n=1:=by lia
  subst yv;refine tP hA S (Gaq _) (by lia) hz (λu v a1 a2 a3=> ?_) h;by_cases e1:u=v
  .subst e1;exact GbC _
  .rw[show v=lo+1 by lia,show u=lo+1 -1 by lia];lia
end
theorem tQ{rk:Nat->Int}{src d k:Nat}{p:Array Nat}(h:src<p.size)(hd:d<=src):Rk rk (bubble p src d) k=if k=src -d then Rk rk p src else if src -d<k/\k<=src then Rk rk p (k -1) else Rk rk p k:=by
 unfold Rk;simp only[Gch,getElem?_bubble h d hd];split
 .rfl
 .split<;>rfl
section
variable{prog:Program}{w:World}{A:Around}{E:Value->Shared->Prop}{s:Shared}{st:SortSt}{Y:SortKind}{it:Array Keyed}{rk:Nat->Int}{p:Array Nat}
theorem J9{src dst:Nat}{Q:Unit->SortSt->Prop}(S:SS Y it st p)(h:∀z,SS Y it z (bubble p src (src -dst))->ko st z->Q () z):wpS (model prog w) A E s (moveDown' src dst) Q st:=by
 rw[moveDown'_eq];refine GbS (h _ (S.move (bubble_perm _ _ _) ?_) rfl);rw[S.arr];exact kas_swaps_map (kas_item it) (λk=>src -k) (λk=>src -k -1) _ p
theorem LD{lo n ok:Nat}{Q:Bool->SortSt->Prop}(hA:gz prog w A s Y it rk)(S:SS Y it st p)(hz:lo+n<=p.size)(h1:1<=ok)(hok:ok<=n)(hu:Up' rk p lo (lo+ok))
  (h:∀z p',SS Y it z p' ->ko st z->Ag lo (lo+n) p p' ->Up' rk p' lo (lo+n)->Q true z):wpS (model prog w) A E s (binarySort' lo n ok) Q st:=by
 rw[binarySort'_eq];refine Gal (Gbz (Gbi (I:=λk c z=>∃p',c=(none,())/\SS Y it z p' /\ko st z/\Ag lo (lo+n) p p' /\Up' rk p' lo (lo+k))
  (Q:=λc z=>∃p',c=(none,())/\SS Y it z p' /\ko st z/\Ag lo (lo+n) p p' /\Up' rk p' lo (lo+n)) ?step ?fin ⟨p,rfl,S,rfl,.refl,by rw[show max ok 1=ok by lia];exact hu⟩) ?post)
 case post=>
  rintro c z ⟨p',rfl,S',hp,ag,up⟩;exact Gau (h z p' S' hp ag up)
 case fin=>
  rintro c z ⟨p',rfl,S',hp,ag,up⟩;rw[show max (max ok 1) n=n by lia] at up;exact⟨p',rfl,S',hp,ag,up⟩
 case step=>
  rintro k c z k1 k2 ⟨p',rfl,S',hp,ag,up⟩;have sz:=ag.size;refine Gal (Gbz (Gbi (I:=λi c z' =>z' =z/\∃l r,c=(none,l,r)/\l<=r/\r<=k/\r -l<=k -i/\(∀u,u<l->Rk rk p' (lo+u)<=Rk rk p' (lo+k))/\(∀u,r<=u->u<k->Rk rk p' (lo+k)<=Rk rk p' (lo+u)))
   (Q:=λc z' =>z' =z/\∃l,c=(none,l,l)/\l<=k/\(∀u,u<l->Rk rk p' (lo+u)<=Rk rk p' (lo+k))/\(∀u,l<=u->u<k->Rk rk p' (lo+k)<=Rk rk p' (lo+u))) ?s1 ?f1 ⟨rfl,0,k,rfl,by lia,by lia,by lia,λu hu=>by lia,λu a1 a2=>by lia⟩) ?p1)
  case f1=>
   rintro c z' ⟨rfl,l,r,rfl,q1,q2,q3,q4,q5⟩;have:l=r:=by lia
   subst this;exact⟨rfl,l,rfl,q2,q4,q5⟩
  case s1=>
   rintro i c z' _ hi ⟨rfl,l,r,rfl,q1,q2,q3,q4,q5⟩;dsimp only;by_cases g:l>=r
   .rw[Gaf g];have:l=r:=by lia
    subst this;exact Gau ⟨rfl,l,rfl,q2,q4,q5⟩
   rw[Gag g];refine Gal (wp_at hA S' (by lia) (by lia) ?_);by_cases lt:Rk rk p' (lo+k)<Rk rk p' (lo+(l+r)/2)
   .rw[Gaz lt];simp only[Gbx];refine Gau ⟨rfl,l,(l+r)/2,rfl,by lia,by lia,by lia,q4,λu a1 a2=> ?_⟩;have:=up (lo+(l+r)/2) (lo+u) (by lia) (by lia) (by lia);lia
   .rw[GaD lt];simp only[GaK,Gbj];refine Gau ⟨rfl,(l+r)/2+1,r,rfl,by lia,by lia,by lia,λu a1=> ?_,q5⟩;have:=up (lo+u) (lo+(l+r)/2) (by lia) (by lia) (by lia);lia
  case p1=>
   rintro c z' ⟨rfl,l,rfl,l1,l2,l3⟩;refine Gal (J9 S' λz2 S2 xv=>Gau ⟨_,rfl,S2,xv.trans hp,ag.trans ⟨bubble_perm _ _ _,λj hj=> ?_⟩,λu v a1 a2 a3=> ?_⟩)
   .rw[getElem?_bubble (by lia) _ (by lia),Gag (by lia),Gag (by lia)]
   .rw[tQ (by lia) (by lia),tQ (by lia) (by lia)];have e:lo+k -(lo+k -(lo+l))=lo+l:=by lia
    rw[e];by_cases u1:u=lo+l
    .rw[Gaf u1];by_cases v1:v=lo+l
     .rw[Gaf v1];exact GbC _
     .rw[Gag v1,Gaf (by lia)];have:=l3 (v -1 -lo) (by lia) (by lia);rw[show lo+(v -1 -lo)=v -1 by lia] at this;exact this
    .rw[Gag u1];by_cases u2:lo+l<u/\u<=lo+k
     .rw[Gaf u2,Gag (by lia),Gaf (by lia)];exact up _ _ (by lia) (by lia) (by lia)
     .rw[Gag u2];have yG :u<lo+l:=by lia
      by_cases v1:v=lo+l
      .rw[Gaf v1];have:=l2 (u -lo) (by lia);rw[show lo+(u -lo)=u by lia] at this;exact this
      .rw[Gag v1];by_cases v2:lo+l<v/\v<=lo+k
       .rw[Gaf v2];exact up _ _ (by lia) (by lia) (by lia)
       .rw[Gag v2];exact up _ _ a1 a2 (by lia)
end
theorem LF{rk:Nat->Int}{p:Array Nat}{k x:Nat}(h:p.toList[k]? =some x):Rk rk p k=rk x:=by
 unfold Rk;have h' :p[k]? =some x:=by simpa using h
 simp[Gch,h']
theorem uP{rk:Nat->Int}{p:Array Nat}{lo n:Nat}(hz:lo+n<=p.size):Up' rk p lo (lo+n)↔Srt rk ((p.toList.drop lo).take n):=by
 have len:((p.toList.drop lo).take n).length=n:=by simp;lia
 have at_:∀u,u<n->∃x,((p.toList.drop lo).take n)[u]? =some x/\Rk rk p (lo+u)=rk x:=λu hu=>by
  have h1:u<((p.toList.drop lo).take n).length:=by rw[len];exact hu
  refine⟨((p.toList.drop lo).take n)[u],Gaa h1, ?_⟩;have:=Gaa h1;rw[GaV hu,Gbm] at this;exact LF this
 constructor
 .intro h;unfold Srt;rw[Gcp];intro i j hi hj yp;rw[len] at hi hj;obtain⟨x,e1,e2⟩:=at_ i hi;obtain⟨y,e3,e4⟩:=at_ j hj;obtain⟨_,e5⟩:=Gaj.mp e1;obtain⟨_,e6⟩:=Gaj.mp e3;rw[e5,e6,<-e2,<-e4];exact h _ _ (by lia) (by lia) (by lia)
 .intro h u v a1 a2 a3;obtain⟨x,e1,e2⟩:=at_ (u -lo) (by lia);obtain⟨y,e3,e4⟩:=at_ (v -lo) (by lia);rw[show lo+(u -lo)=u by lia] at e2;rw[show lo+(v -lo)=v by lia] at e4;rw[e2,e4];exact pK h (by lia) e1 e3
theorem wH{α:Type}(c:Nat):∀(m:List α) (n:Nat) (a:Array α),c+n+m.length<=a.size->((m.zipIdx n).foldl (λa (x:α×Nat)=>a.setIfInBounds (c+x.2) x.1) a).toList=a.toList.take (c+n)++m++a.toList.drop (c+n+m.length)
 |[],n,a,_=>by simp
 |x::m,n,a,h=>by
  rw[List.zipIdx_cons,GbG];simp only[Gaw] at h;rw[wH c m (n+1) _ (by rw[Array.size_setIfInBounds];lia),Array.toList_setIfInBounds];have hc:c+n<a.toList.length:=by simp;lia
  have e1:(a.toList.set (c+n) x).take (c+(n+1))=a.toList.take (c+n)++[x]:=by
   rw[show c+(n+1)=c+n+1 by lia,List.take_succ,List.take_set_of_le (Gaq _),GaT hc]
   rfl
  have e2:(a.toList.set (c+n) x).drop (c+(n+1)+m.length)=a.toList.drop (c+n+(x::m).length):=by
   rw[List.drop_set_of_lt (by lia)];congr 1;simp only[Gaw];lia
  rw[e1,e2];simp
theorem Ja{M:Model}{A:Around}{E:Value->Shared->Prop}{s:Shared}{Z:Type}{x st:Z}{Q:PUnit->Z->Prop}(h:Q ⟨⟩ x):wpS M A E s (set x:StateT Z Sem PUnit) Q st:=by
 unfold wpS;rw[StateT.run_set];exact Gao ⟨rfl,h⟩
theorem Jb(i:Nat):mergeAt' i=(do
 let z<-get
 let(some (sa,na,w0),some (sb,nb,_)):=((pendingOf z)[i]?,(pendingOf z)[i+1]?)|unsupported "internal:list.sort.pending"
 set (setPending z (((pendingOf z).setIfInBounds i (sa,na+nb,w0)).eraseIdxIfInBounds (i+1)))
 let some k<-jT false (<-elem' (arrOf z) sb) (arrOf z) sa na 0|return false
 let(sc,nc):=(sa+k,na -k)
 if nc==0 then return true
 let some nd<-jT true (<-elem' (arrOf z) (sc+nc -1)) (arrOf z) sb nb (nb -1)|return false
 if nd==0 then return true
 let x:=(arrOf z).extract sc sb
 let y:=(arrOf z).extract sb (sb+nd)
 let mm<-if nc<=nd then Lv x y else Ly x y
 modify λz=>setArr z (mm.toList.zipIdx.foldl (λa (q,j)=>a.setIfInBounds (sc+j) q) (arrOf z))
 return(failedOf (<-get)).isNone):=rfl
section
variable{prog:Program}{w:World}{A:Around}{E:Value->Shared->Prop}{s:Shared}{st:SortSt}{Y:SortKind}{it:Array Keyed}{rk:Nat->Int}{p:Array Nat}
theorem Jc{l:List Nat}{a b:Nat}(h:a<=b):l=l.take a++(l.drop a).take (b -a)++l.drop b:=by
 rw[Gas,<-Gi h,Gbf]
theorem Bp{i sa na sb nb w0 w1:Nat}{Q:Bool->SortSt->Prop}(hA:gz prog w A s Y it rk)(S:SS Y it st p)(e1:(pendingOf st)[i]? =some (sa,na,w0))(e2:(pendingOf st)[i+1]? =some (sb,nb,w1))(hb:sb=sa+na)(Sw:0<na)(Sv:0<nb)(hz:sb+nb<=p.size)
  (ua:Up' rk p sa sb)(ub:Up' rk p sb (sb+nb))
  (h:∀z p',SS Y it z p' ->pendingOf z=((pendingOf st).setIfInBounds i (sa,na+nb,w0)).eraseIdxIfInBounds (i+1)->Ag sa (sb+nb) p p' ->Up' rk p' sa (sb+nb)->Q true z):wpS (model prog w) A E s (mergeAt' i) Q st:=by
 rw[Jb];refine Gal (GcP ?_);rw[e1,e2];refine Gal (Ja ?_);generalize hz1:setPending st (((pendingOf st).setIfInBounds i (sa,na+nb,w0)).eraseIdxIfInBounds (i+1))=z1;have S1:SS Y it z1 p:=by rw[<-hz1];exact⟨S.kind,S.arr,S.fail,S.ok⟩
 have pe:pendingOf z1=((pendingOf st).setIfInBounds i (sa,na+nb,w0)).eraseIdxIfInBounds (i+1):=by rw[<-hz1]
 have R:=S.rep;have szl:p.toList.length=p.size:=by simp
 subst hb;have sA:Srt rk ((p.toList.drop sa).take na):=(uP (by lia)).mp ua;have sB:Srt rk ((p.toList.drop (sa+na)).take nb):=(uP (by lia)).mp ub;have whole:∀l:List Nat,(p.toList.drop sa).take (na+nb)=l->Srt rk l->Up' rk p sa (sa+na+nb):=λl hl hs=>by
  rw[GdR];exact(uP (by lia)).mpr (by rw[hl];exact hs)
 have split:(p.toList.drop sa).take (na+nb)=(p.toList.drop sa).take na++(p.toList.drop (sa+na)).take nb:=by
  rw[List.take_add,GbV]
 obtain⟨y0,Qp⟩:∃x,p.toList[sa+na]? =some x:=⟨_,Gaa (by lia)⟩
 refine Gal (bh R Qp ?_);refine Gal (ou hA S1.kind R (R.lt Qp) (by lia) sA Sw λk k1 t1 t2=> ?_);simp only[GaK,Gbj] at t1 t2;dsimp only;have hB0:((p.toList.drop (sa+na)).take nb)[0]? =some y0:=by
  rw[GaV Sv,Gbm];exact Qp
 have leB:∀y∈(p.toList.drop (sa+na)).take nb,rk y0<=rk y:=λy hy=>kX sB hB0 (by rw[Gbu];exact hy);by_cases c1:(na -k==0)=true
 .rw[Gaf c1];have:na -k=0:=by simpa using c1
  have kk:k=na:=by lia
  subst kk;refine Gau (h z1 p S1 pe .refl (whole _ split (cW sA sB λx hx y hy=> ?_)));have q1:=t1 x (by rw[Gcs,GdY];exact hx);have q2:=leB y hy;lia
 rw[Gag c1];have c1' :na -k≠0:=by simpa using c1
 obtain⟨x1,Qq⟩:∃x,p.toList[sa+k+(na -k)-1]? =some x:=⟨_,Gaa (by lia)⟩
 refine Gal (bh R Qq ?_);refine Gal (ou hA S1.kind R (R.lt Qq) (by lia) sB (by lia) λnd d1 t3 t4=> ?_);simp only[Gbx] at t3 t4;dsimp only;have hAl:((p.toList.drop sa).take na)[na -1]? =some x1:=by
  rw[GaV (by lia),Gbm,show sa+(na -1)=sa+k+(na -k)-1 by lia];exact Qq
 have leA:∀x∈(p.toList.drop sa).take na,rk x<=rk x1:=λx hx=>by
  refine kY (n:=na) sA hAl ?_;rw[Gcs,GdY];exact hx
 by_cases c2:(nd==0)=true
 .rw[Gaf c2];have nd0:nd=0:=by simpa using c2
  subst nd0;refine Gau (h z1 p S1 pe .refl (whole _ split (cW sA sB λx hx y hy=> ?_)));have q1:=leA x hx;have q2:=t4 y (by rw[Gbu];exact hy);lia
 rw[Gag c2];have c2' :nd≠0:=by simpa using c2
 have Rx:aR it ((arrOf st).extract (sa+k) (sa+na)) ((p.toList.drop (sa+k)).take (na -k)):=by
  have:=R.extract (sa+k) (sa+na);rw[show sa+na -(sa+k)=na -k by lia] at this;exact this
 have Ry:aR it ((arrOf st).extract (sa+na) (sa+na+nd)) ((p.toList.drop (sa+na)).take nd):=by
  have:=R.extract (sa+na) (sa+na+nd);rw[show sa+na+nd -(sa+na)=nd by lia] at this;exact this
 have ePx:(p.toList.drop (sa+k)).take (na -k)=((p.toList.drop sa).take na).drop k:=by rw[GcQ,GbV]
 have ePy:(p.toList.drop (sa+na)).take nd=((p.toList.drop (sa+na)).take nb).take nd:=by rw[Gcs,GbP d1]
 have sx:Srt rk ((p.toList.drop (sa+k)).take (na -k)):=by rw[ePx];exact dU sA k
 have sy:Srt rk ((p.toList.drop (sa+na)).take nd):=by rw[ePy];exact fF sB nd
 have lx:((p.toList.drop (sa+k)).take (na -k)).length=na -k:=by simp;lia
 have ly:((p.toList.drop (sa+na)).take nd).length=nd:=by simp;lia
 have f0:∀x,((p.toList.drop (sa+na)).take nd)[0]? =some x->∀y∈(p.toList.drop (sa+k)).take (na -k),rk x<=rk y:=λx hx y hy=>by
  rw[GaV (by lia),Gbm] at hx;have:p.toList[sa+na]? =some x:=hx;rw[Qp] at this;cases this
  rw[ePx] at hy;have:=t2 y hy;lia
 have fl:∀x,((p.toList.drop (sa+k)).take (na -k))[((p.toList.drop (sa+k)).take (na -k)).length -1]? =some x->∀y∈(p.toList.drop (sa+na)).take nd,rk y<=rk x:=λx hx y hy=>by
  rw[lx,GaV (by lia),Gbm,show sa+k+(na -k -1)=sa+k+(na -k)-1 by lia,Qq] at hx;cases hx;rw[ePy] at hy;have:=t3 y hy;lia
 have fin:∀mm z,bg z1 z->cN it rk ((p.toList.drop (sa+k)).take (na -k)) ((p.toList.drop (sa+na)).take nd) mm->
   wpS (model prog w) A E s (do
    modify λz=>setArr z (mm.toList.zipIdx.foldl (λa (x:Keyed×Nat)=>a.setIfInBounds (sa+k+x.2) x.1) (arrOf z))
    let z' <-get
    pure (failedOf z').isNone) Q z:=by
  rintro mm z sg ⟨m,Rm,pm,sm⟩;have lm:m.length=na -k+nd:=by have:=pm.length_eq;rw[Gan,lx,ly] at this;exact this
  refine Gal (GbS (Gal (GcP (Gau ?_))));have ea:arrOf z=arrOf st:=sg.2.1.trans (by rw[S1.arr,S.arr]);have hmm:mm.toList=m.map (kas_item it):=by rw[Rm.1]
  have hw:((mm.toList.zipIdx.foldl (λa (x:Keyed×Nat)=>a.setIfInBounds (sa+k+x.2) x.1) (arrOf z))).toList=(p.toList.take (sa+k)++m++p.toList.drop (sa+na+nd)).map (kas_item it):=by
   rw[hmm,ea];have:=wH (sa+k) (m.map (kas_item it)) 0 (arrOf st) (by rw[Gac,lm,R.size,szl];lia);rw[this,R.1];simp only[GaF,GdC,GcB,Gac,lm,Nat.add_zero];rw[show sa+k+(na -k+nd)=sa+na+nd by lia]
  have fz:failedOf (setArr z (mm.toList.zipIdx.foldl (λa (x:Keyed×Nat)=>a.setIfInBounds (sa+k+x.2) x.1) (arrOf z)))=none:=sg.2.2.2.trans S1.fail;have pieces:p.toList=p.toList.take (sa+k)++((p.toList.drop (sa+k)).take (na -k)++(p.toList.drop (sa+na)).take nd)++p.toList.drop (sa+na+nd):=by
   conv=>lhs;rw[Jc (l:=p.toList) (show sa+k<=sa+na+nd by lia)]
   congr 2;rw[show sa+na+nd -(sa+k)=(na -k)+nd by lia,List.take_add,GbV,show sa+k+(na -k)=sa+na by lia]
  generalize yJ :p.toList.take (sa+k)++m++p.toList.drop (sa+na+nd)=l' at hw;have pl:l'.Perm p.toList:=by
   rw[<-yJ]
   conv=>rhs;rw[pieces]
   exact Gbc _ (GbI _ pm)
  have S2:SS Y it (setArr z (mm.toList.zipIdx.foldl (λa (x:Keyed×Nat)=>a.setIfInBounds (sa+k+x.2) x.1) (arrOf z))) l'.toArray:=by
   refine⟨sg.1.trans S1.kind, ?_,fz,λj hj=>S.ok j (pl.mem_iff.mp hj)⟩;apply Gcu.mp;show(mm.toList.zipIdx.foldl (λa (x:Keyed×Nat)=>a.setIfInBounds (sa+k+x.2) x.1) (arrOf z)).toList=_;rw[hw];simp
  have zV:(p.toList.take (sa+k)).length=sa+k:=by simp;lia
  have ag:Ag sa (sa+na+nb) p l'.toArray:=by
   refine⟨⟨pl⟩,λj hj=> ?_⟩;show l'.toArray[j]? =p[j]?;have g1:l'.toArray[j]? =l'[j]? :=by simp
   have g2:p[j]? =p.toList[j]? :=by simp
   rw[g1,g2,<-yJ];rcases hj with hj|hj
   .rw[Gas,GaU (by rw[zV];lia),GaV (by lia)]
   .rw[GaN (by rw[Gan,zV,lm];lia),Gan,zV,lm,Gbm];congr 1;lia
  have nn:failedOf (setArr z (mm.toList.zipIdx.foldl (λa (x:Keyed×Nat)=>a.setIfInBounds (sa+k+x.2) x.1) (arrOf z)))=none:=fz;have goal:=h _ l'.toArray S2 (sg.2.2.1.trans pe) ag ?_
  .rw[nn];exact goal
  .rw[GdR];refine(uP (by rw[Gam,pl.length_eq,szl];lia)).mpr ?_;have seg:(l'.drop sa).take (na+nb)=((p.toList.drop sa).take na).take k++m++((p.toList.drop (sa+na)).take nb).drop nd:=by
    rw[<-yJ,Gas,List.drop_append_of_le_length (by rw[zV];lia)];have q1:(p.toList.take (sa+k)).drop sa=((p.toList.drop sa).take na).take k:=by rw[GcQ,Gcs,show sa+k -sa=k by lia,GbP k1]
    rw[q1];have lk:(((p.toList.drop sa).take na).take k).length=k:=by simp;lia
    rw[<-Gas,List.take_append,Gan,lk,lm,Gbn (by rw[Gan,lk,lm];lia)];congr 1;rw[GcQ,GbV];congr 1;lia
   show Srt rk ((l'.toArray.toList.drop sa).take (na+nb));show Srt rk ((l'.drop sa).take (na+nb));rw[seg];refine cW (cW (fF sA k) sm λx hx y hy=> ?_) (dU sB nd) λx hx y hy=> ?_
   .rcases GaE.mp (pm.mem_iff.mp hy) with hy|hy
    .rw[ePx] at hy;exact pL sA k x hx y hy
    .rw[ePy] at hy;have b1:=t1 x hx;have b2:=leB y (Gbk hy);lia
   .rcases GaE.mp hx with hx|hx
    .have b1:=leA x (Gbk hx);have b2:=t4 y hy;lia
    .rcases GaE.mp (pm.mem_iff.mp hx) with hx|hx
     .rw[ePx] at hx;have b1:=leA x (Gbr hx);have b2:=t4 y hy;lia
     .rw[ePy] at hx;exact pL sB nd x hx y hy
 by_cases c3:na -k<=nd
 .rw[Gaf c3];exact Gal (Oe hA S1.kind Rx Ry sx sy (by lia) (by lia) f0 fl fin)
 .rw[Gag c3];exact Gal (Oj hA S1.kind Rx Ry sx sy (by lia) (by lia) f0 fl fin)
end
abbrev Run:=Nat×Nat×Nat
def chain:Nat->List Run->Nat->Prop
 |a,[],b=>a=b
 |a,r::t,b=>r.1=a/\0<r.2.1/\chain (a+r.2.1) t b
theorem nj:∀{l:List Run} {a b:Nat},chain a l b->a+l.length<=b
 |[],a,b,h=>by have:a=b:=h;simp;lia
 |r::t,a,b,h=>by
  have:=nj h.2.2;have:=h.2.1;simp only[Gaw];lia
theorem oy:∀{l:List Run} {a b:Nat} {r:Run},chain a l b->r∈l->a<=r.1/\r.1+r.2.1<=b/\0<r.2.1
 |q::t,a,b,r,h,hr=>by
  rcases GaC.mp hr with e|e
  .subst e;have:=nj h.2.2;have:=h.1;exact⟨by lia,by lia,h.2.1⟩
  .have:=oy h.2.2 e;exact⟨by lia,this.2.1,this.2.2⟩
theorem qK:∀{l:List Run} {a b:Nat} {n w0:Nat},chain a l b->0<n->chain a (l++[(b,n,w0)]) (b+n)
 |[],a,b,n,w0,h,hn=>by have:a=b:=h;subst this;exact⟨rfl,hn,rfl⟩
 |r::t,a,b,n,w0,h,hn=> ⟨h.1,h.2.1,qK h.2.2 hn⟩
theorem nq{f:Run->Run}(hf:∀r,(f r).1=r.1/\(f r).2.1=r.2.1):∀{l:List Run} {a b:Nat} (i:Nat),chain a l b->chain a (l.modify i f) b
 |[],a,b,i,h=>by simpa using h
 |r::t,a,b,0,h=>by
  rw[List.modify_zero_cons];exact⟨(hf r).1.trans h.1,by rw[(hf r).2];exact h.2.1,by rw[(hf r).2];exact h.2.2⟩
 |r::t,a,b,i+1,h=>by
  rw[List.modify_succ_cons];exact⟨h.1,h.2.1,nq hf i h.2.2⟩
theorem mem_modify{f:Run->Run}(hf:∀r,(f r).1=r.1/\(f r).2.1=r.2.1):∀{l:List Run} {i:Nat} {r:Run},r∈l.modify i f->∃r' ∈l,r'.1=r.1/\r'.2.1=r.2.1
 |[],i,r,h=>by simp at h
 |q::t,0,r,h=>by
  rw[List.modify_zero_cons] at h;rcases GaC.mp h with e|e
  .subst e;exact⟨q,Gak,(hf q).1.symm,(hf q).2.symm⟩
  .exact⟨r,Gae _ e,rfl,rfl⟩
 |q::t,i+1,r,h=>by
  rw[List.modify_succ_cons] at h;rcases GaC.mp h with e|e
  .subst e;exact⟨r,Gak,rfl,rfl⟩
  .obtain⟨r',h1,h2⟩:=mem_modify hf e;exact⟨r',Gae _ h1,h2⟩
theorem oZ:∀{l:List Run} {a b:Nat} {i sa na w0 sb nb w1:Nat},chain a l b->l[i]? =some (sa,na,w0)->l[i+1]? =some (sb,nb,w1)->
  sb=sa+na/\0<na/\0<nb/\a<=sa/\sb+nb<=b/\chain a ((l.set i (sa,na+nb,w0)).eraseIdx (i+1)) b/\∀r∈(l.set i (sa,na+nb,w0)).eraseIdx (i+1),r=(sa,na+nb,w0)\/(r∈l/\(r.1+r.2.1<=sa\/sb+nb<=r.1))
 |r::r2::t,a,b,0,sa,na,w0,sb,nb,w1,h,e1,e2=>by
  simp at e1 e2;subst e1 e2;obtain⟨h1,h2,h3,h4,h5⟩:=h;have yq :sa=a:=h1;have RL :sb=a+na:=h3;have Qo :0<na:=h2;have Qn :0<nb:=h4;have le:=nj h5;refine⟨by lia,Qo,Qn,by lia, ?_, ?_,λq hq=> ?_⟩
  .have:a+na+nb<=b:=by
    have:a+(sa,na,w0).2.1+(sb,nb,w1).2.1+t.length<=b:=le;have:a+na+nb+t.length<=b:=this;lia
   lia
  .show chain a ((sa,na+nb,w0)::t) b;refine⟨h1,by show 0<na+nb;lia, ?_⟩;show chain (a+(na+nb)) t b;rw[<-GdR];exact h5
  .have zB :q=(sa,na+nb,w0)\/q∈t:=by simpa using hq
   rcases zB with e|e
   .exact .inl e
   .refine .inr ⟨Gae _ (Gae _ e),.inr ?_⟩;have:=(oy h5 e).1;have:a+na+nb<=q.1:=this;lia
 |r::t,a,b,i+1,sa,na,w0,sb,nb,w1,h,e1,e2=>by
  rw[Gdm] at e1 e2;obtain⟨g1,g2,g3,g4,g5,g6,g7⟩:=oZ h.2.2 e1 e2;have:=h.2.1;refine⟨g1,g2,g3,by lia,g5,⟨h.1,h.2.1, ?_⟩,λq hq=> ?_⟩
  .exact g6
  .have zB :q=r\/q∈(t.set i (sa,na+nb,w0)).eraseIdx (i+1):=by simpa using hq
   rcases zB with e|e
   .subst e;refine .inr ⟨Gak,.inl ?_⟩;have:=h.1;lia
   .rcases g7 q e with z| ⟨z1,z2⟩
    .exact .inl z
    .exact .inr ⟨Gae _ z1,z2⟩
section
variable{prog:Program}{w:World}{A:Around}{E:Value->Shared->Prop}{s:Shared}{st:SortSt}{Y:SortKind}{it:Array Keyed}{rk:Nat->Int}{p0 p:Array Nat}
structure Pd(Y:SortKind)(it:Array Keyed)(rk:Nat->Int)(p0:Array Nat)(lo:Nat)(z:SortSt)(p:Array Nat):Prop where
 ss:SS Y it z p
 perm:p.Perm p0
 ch:chain 0 (pendingOf z).toList lo
 up:∀r∈(pendingOf z).toList,Up' rk p r.1 (r.1+r.2.1)
 le:lo<=p0.size
theorem Pd.size{lo:Nat}{z:SortSt}(P:Pd Y it rk p0 lo z p):p.size=p0.size:=by
 have:=P.perm.toList.length_eq
 simpa using this
theorem qL{lo i:Nat}{Q:Bool->SortSt->Prop}(hA:gz prog w A s Y it rk)(P:Pd Y it rk p0 lo st p)(hi:i+1<(pendingOf st).size)
  (h:∀z p',Pd Y it rk p0 lo z p' ->Ag 0 lo p p' ->(pendingOf z).size+1=(pendingOf st).size->Q true z):wpS (model prog w) A E s (mergeAt' i) Q st:=by
 obtain⟨⟨sa,na,w0⟩,e1⟩:∃x,(pendingOf st)[i]? =some x:=⟨_,Gcq (by lia)⟩
 obtain⟨⟨sb,nb,w1⟩,e2⟩:∃x,(pendingOf st)[i+1]? =some x:=⟨_,Gcq hi⟩
 have xU :(pendingOf st).toList[i]? =some (sa,na,w0):=by simpa using e1
 have e2' :(pendingOf st).toList[i+1]? =some (sb,nb,w1):=by simpa using e2
 obtain⟨g1,g2,g3,g4,g5,g6,g7⟩:=oZ P.ch xU e2';have le:=P.le;have sz:=P.size;have u1:=P.up _ (GaP xU);have u2:=P.up _ (GaP e2');refine Bp hA P.ss e1 e2 g1 g2 g3 (by lia) (by rw[g1];exact u1) u2 λz p' S' pe ag RT => ?_;have tl:(pendingOf z).toList=((pendingOf st).toList.set i (sa,na+nb,w0)).eraseIdx (i+1):=by
  rw[pe];simp[Array.toList_eraseIdxIfInBounds,Array.toList_setIfInBounds]
 have aL:Ag 0 lo p p' :=⟨ag.perm,λk hk=>ag.out k (by lia)⟩
 refine h z p' ⟨S',ag.perm.trans P.perm,by rw[tl];exact g6,λr hr=> ?_,P.le⟩ aL ?_
 .rw[tl] at hr;rcases g7 r hr with e| ⟨QI,RC⟩
  .subst e;show Up' rk p' sa (sa+(na+nb));rw[<-GdR,<-g1];exact RT
  .intro u v a1 a2 a3;rw[ag.rk (by lia),ag.rk (by lia)];exact P.up r QI u v a1 a2 a3
 .have l1:(pendingOf z).size=(pendingOf z).toList.length:=by simp
  have l2:(pendingOf st).size=(pendingOf st).toList.length:=by simp
  rw[l1,l2,tl,List.length_eraseIdx_of_lt (by rw[GdJ,<-l2];exact hi),GdJ];lia
end
section
variable{prog:Program}{w:World}{A:Around}{E:Value->Shared->Prop}{s:Shared}{st:SortSt}{Y:SortKind}{it:Array Keyed}{rk:Nat->Int}{p0 p:Array Nat}
theorem Pd.push{lo n:Nat}{z:SortSt}(P:Pd Y it rk p0 lo z p)(hn:0<n)(hz:lo+n<=p0.size)(hu:Up' rk p lo (lo+n)):Pd Y it rk p0 (lo+n) (setPending z ((pendingOf z).push (lo,n,0))) p:=by
 refine⟨⟨P.ss.kind,P.ss.arr,P.ss.fail,P.ss.ok⟩,P.perm, ?_,λr hr=> ?_,hz⟩
 .show chain 0 ((pendingOf z).push (lo,n,0)).toList (lo+n);rw[GdU];exact qK P.ch hn
 .have yX :r∈((pendingOf z).push (lo,n,0)).toList:=hr;rw[GdU] at yX;rcases GaE.mp yX with e|e
  .exact P.up r e
  .simp at e;subst e;exact hu
theorem Pd.modify{lo i:Nat}{z:SortSt}{f:Run->Run}(P:Pd Y it rk p0 lo z p)(hf:∀r,(f r).1=r.1/\(f r).2.1=r.2.1):Pd Y it rk p0 lo (setPending z ((pendingOf z).modify i f)) p:=by
 refine⟨⟨P.ss.kind,P.ss.arr,P.ss.fail,P.ss.ok⟩,P.perm, ?_,λr hr=> ?_,P.le⟩
 .show chain 0 ((pendingOf z).modify i f).toList lo;rw[Array.toList_modify];exact nq hf i P.ch
 .have yX :r∈((pendingOf z).modify i f).toList:=hr;rw[Array.toList_modify] at yX;obtain⟨r',h1,h2,h3⟩:=mem_modify hf yX;rw[<-h2,<-h3];exact P.up r' h1
theorem Jd{Q:Unit->SortSt->Prop}(hA:gz prog w A s Y it rk)(S:SS Y it st p0)(hp:pendingOf st=#[])(h1:1<=p0.size)
  (h:∀z p,SS Y it z p->p.Perm p0->Up' rk p 0 p0.size->Q () z):wpS (model prog w) A E s sortRuns' Q st:=by
 rw[sortRuns'_eq];refine Gal (GcP ?_);dsimp only;have sz:(arrOf st).size=p0.size:=by rw[S.arr];simp
 rw[sz];generalize minRun' p0.size p0.size 0=mr;have P0:Pd Y it rk p0 0 st p0:=⟨S,Array.Perm.refl _,by rw[hp];rfl,λr hr=>(by rw[hp] at hr;cases hr),by lia⟩
 refine Gal (Gbz (Gbi (I:=λx c z=>∃lo p,c=(none,lo)/\Pd Y it rk p0 lo z p/\(x<=lo))
  (Q:=λc z=>∃p,c=(none,p0.size)/\Pd Y it rk p0 p0.size z p) ?step ?fin ⟨0,p0,rfl,P0,Gaq _⟩) ?post)
 case fin=>
  rintro c z ⟨lo,p,rfl,P,hx⟩;have:=P.le;have e:lo=p0.size:=by
   have:max 0 p0.size=p0.size:=by lia
   lia
  subst e;exact⟨p,rfl,P⟩
 case step=>
  rintro x c z _ hx ⟨lo,p,rfl,P,QR⟩;have le:=P.le;have szp:=P.size;by_cases c1:lo>=p0.size
  .rw[Gaf c1];have e:lo=p0.size:=by lia
   subst e;exact Gau ⟨p,rfl,P⟩
  rw[Gag c1];refine Gal (Gp hA P.ss (by lia) (by lia) λm z1 p1 S1 RE Rl m1 m2 up1=> ?_);dsimp only;have carry:∀{n:Nat} {z2:SortSt} {p2:Array Nat},SS Y it z2 p2->ko z z2->Ag lo (lo+n) p p2->lo+n<=p0.size->Pd Y it rk p0 lo z2 p2:=λ{n z2 p2} S2 xv zP hn=>by
   have hp2' :pendingOf z2=pendingOf z:=xv;refine⟨S2,zP.perm.trans P.perm,by rw[hp2'];exact P.ch,λr hr=> ?_,le⟩;rw[hp2'] at hr;have:=(oy P.ch hr).2.1;intro u v a1 a2 a3;rw[zP.rk (by lia),zP.rk (by lia)];exact P.up r hr u v a1 a2 a3
  by_cases c2:m<mr
  .rw[Gaf c2];refine Gal (wpS_lift (Gco ⟨rfl, ?_⟩));have sz1:=Rl.size;refine Gal (LD hA S1 (by lia) m1 (by lia) up1 λz2 p2 S2 xv zP Qw=> ?_);simp only[GdB,GaK,Gbj];obtain⟨n,QO⟩:∃n,n=min (p0.size -lo) mr:=⟨_,rfl⟩
   have P2:Pd Y it rk p0 lo z2 p2:=carry S2 (xv.trans RE) (Rl.trans (zP.mono (by lia))|>.mono (hi' :=lo+(p0.size -lo)) (by lia)) (by lia);rw[<-QO] at Qw⊢;have n0:0<n:=by lia
   have hn:lo+n<=p0.size:=by lia
   refine Gal (GcP ?_);cases hb:(pendingOf z2).back? with
   |none=>
    exact Gal (GbS (Gau ⟨lo+n,p2,rfl,P2.push n0 hn Qw,by lia⟩))
   |some r=>
    obtain⟨s1,n1,w1⟩:=r;refine Gal (Gbz (Gbi (I:=λ_ c y=>c=(none,⟨⟩)/\∃p3,Pd Y it rk p0 lo y p3/\Up' rk p3 lo (lo+n)) (Q:=λc y=>c=(none,⟨⟩)/\∃p3,Pd Y it rk p0 lo y p3/\Up' rk p3 lo (lo+n)) ?s1 (λ_ _ z=>z) ⟨rfl,p2,P2,Qw⟩) ?p1)
    case p1=>
     rintro c y ⟨rfl,p3,P3,ya⟩;refine Gal (GbS (Gal (GbS (Gau ⟨lo+n,p3,rfl, ?_,by lia⟩))));exact(P3.modify (f:=λx=>(x.1,x.2.1,power' p0.size (2*s1+n1) (2*s1+n1+n1+n) p0.size)) (λr=> ⟨rfl,rfl⟩)).push n0 hn ya
    case s1=>
     rintro i c y _ _ ⟨rfl,p3,P3,ya⟩;refine Gal (GcP ?_);by_cases g:(pendingOf y).size>1
     .rw[Gaf g];obtain⟨⟨t1,t2,t3⟩,ht⟩:∃x,(pendingOf y)[(pendingOf y).size -2]? =some x:=⟨_,Gcq (by lia)⟩
      rw[ht];dsimp only;split
      .exact Gau ⟨rfl,p3,P3,ya⟩
      .refine Gal (qL hA P3 (by lia) λy2 p4 P4 zv _=> ?_);simp only[GdB,GaK,Gbj];refine Gau ⟨rfl,p4,P4,λu v a1 a2 a3=> ?_⟩;rw[zv.rk (by lia),zv.rk (by lia)];exact ya u v a1 a2 a3
     .rw[Gag g];exact Gau ⟨rfl,p3,P3,ya⟩
  .rw[Gag c2];obtain⟨n,QO⟩:∃n,n=m:=⟨_,rfl⟩
   rw[<-QO] at up1⊢;have P2:Pd Y it rk p0 lo z1 p1:=carry S1 RE (Rl.mono (hi' :=lo+(p0.size -lo)) (by lia)) (by lia);have n0:0<n:=by lia
   have hn:lo+n<=p0.size:=by lia
   refine Gal (GcP ?_);cases hb:(pendingOf z1).back? with
   |none=>
    exact Gal (GbS (Gau ⟨lo+n,p1,rfl,P2.push n0 hn up1,by lia⟩))
   |some r=>
    obtain⟨s1,n1,w1⟩:=r;refine Gal (Gbz (Gbi (I:=λ_ c y=>c=(none,⟨⟩)/\∃p3,Pd Y it rk p0 lo y p3/\Up' rk p3 lo (lo+n)) (Q:=λc y=>c=(none,⟨⟩)/\∃p3,Pd Y it rk p0 lo y p3/\Up' rk p3 lo (lo+n)) ?s1 (λ_ _ z=>z) ⟨rfl,p1,P2,up1⟩) ?pp)
    case pp=>
     rintro c y ⟨rfl,p3,P3,ya⟩;refine Gal (GbS (Gal (GbS (Gau ⟨lo+n,p3,rfl, ?_,by lia⟩))));exact(P3.modify (f:=λx=>(x.1,x.2.1,power' p0.size (2*s1+n1) (2*s1+n1+n1+n) p0.size)) (λr=> ⟨rfl,rfl⟩)).push n0 hn ya
    case s1=>
     rintro i c y _ _ ⟨rfl,p3,P3,ya⟩;refine Gal (GcP ?_);by_cases g:(pendingOf y).size>1
     .rw[Gaf g];obtain⟨⟨t1,t2,t3⟩,ht⟩:∃x,(pendingOf y)[(pendingOf y).size -2]? =some x:=⟨_,Gcq (by lia)⟩
      rw[ht];dsimp only;split
      .exact Gau ⟨rfl,p3,P3,ya⟩
      .refine Gal (qL hA P3 (by lia) λy2 p4 P4 zv _=> ?_);simp only[GdB,GaK,Gbj];refine Gau ⟨rfl,p4,P4,λu v a1 a2 a3=> ?_⟩;rw[zv.rk (by lia),zv.rk (by lia)];exact ya u v a1 a2 a3
     .rw[Gag g];exact Gau ⟨rfl,p3,P3,ya⟩
 case post=>
  rintro c z ⟨p,rfl,P⟩;refine Gal (Gbz (Gbi (I:=λx c y=>c=(none,())/\∃p,Pd Y it rk p0 p0.size y p/\(pendingOf y).size+x<=p0.size) (Q:=λc y=>c=(none,())/\∃p,Pd Y it rk p0 p0.size y p/\(pendingOf y).size<=1) ?s2 ?f2 ⟨rfl,p,P, ?i2⟩) ?p2)
  case i2=>
   have:=nj P.ch;simp at this;lia
  case f2=>
   rintro c y ⟨rfl,p,P,hs⟩;refine⟨rfl,p,P, ?_⟩;have:max 0 p0.size=p0.size:=by lia
   lia
  case p2=>
   rintro c y ⟨rfl,p,P,hs⟩;refine Gau (h y p P.ss P.perm ?_);have ch:=P.ch;have up:=P.up;have l1:(pendingOf y).toList.length<=1:=by simpa using hs
   generalize (pendingOf y).toList=l at ch up l1
   match l,l1 with
   |[],_=>
    have:0=p0.size:=ch;lia
   |[r],_=>
    obtain⟨c1,c2,c3⟩:=ch;have c3' :0+r.2.1=p0.size:=c3;have:=up r (by simp);rw[c1,c3'] at this;exact this
  case s2=>
   rintro x c y _ hx ⟨rfl,p,P,hs⟩;refine Gal (GcP ?_);by_cases g:(pendingOf y).size<=1
   .rw[Gaf g];exact Gau ⟨rfl,p,P,g⟩
   rw[Gag g];have go:∀i,i+1<(pendingOf y).size->wpS (model prog w) A E s (do
     let b<-mergeAt' i
     if(!b)=true then pure (ForInStep.done ((some ⟨⟩,()):Option PUnit×PUnit)) else pure (ForInStep.yield (none,()))) (λr z' =>match r with
     | .done c=>c=(none,())/\∃p,Pd Y it rk p0 p0.size z' p/\(pendingOf z').size<=1
     | .yield c=>c=(none,())/\∃p,Pd Y it rk p0 p0.size z' p/\(pendingOf z').size+(x+1)<=p0.size) y:=λi hi=>by
    refine Gal (qL hA P hi λy2 p4 P4 zv SO=> ?_);simp only[GdB,GaK,Gbj];exact Gau ⟨rfl,p4,P4,by lia⟩
   refine Gbz (go _ ?_) λr z' hr=>by cases r<;>exact hr
   by_cases i0:(pendingOf y).size -2>0
   .rw[Gaf i0];split<;>lia
   .rw[Gag i0];simp only[Option.any_none,GaK,Gbj];lia
end
section
variable{prog:Program}{w:World}{A:Around}{E:Value->Shared->Prop}{s:Shared}
theorem sv{a:Addr}{vs:List Value}{cs:List (List (List Int))}{n:Nat}{P:PySem.Fin->Shared->Prop}(ho:s.heap.get? a=some (seqObj "list" vs.toArray n))(R7:vs.length<1000000)
  (hK:∀G:Heap,(∀b o,b≠a->s.heap.get? b=some o->G.get? b=some o)->uK prog w A E {s with heap:=G} cs vs)
  (h:∀p:Array Nat,Ord vs.length p->Up (rank cs) p vs.length->P (.done (.ret .none)) {s with heap:=sortedHeap s.heap a vs (List.toArray (p.toList.map λi=>vs.getD i Value.none))}):wpAny (model prog w) A (Builtin.«list.sort» ⟨[.ref a],[]⟩) P E s:=by
 have hz:(vs.toArray.zip vs.toArray).size=vs.length:=by simp
 have zr:(List.toArray (List.range vs.length)).size=vs.length:=by simp
 refine Bb (Ok:=jB cs vs) ho (by rw[GbN];lia) jB.one (λ_ q=>q.len) (λG kp c=>hK G kp c _ λY hY=> ?_) λ_ ⟨p,h1,h2,e⟩=>e▸h p h1 h2;refine GbX (Jd (prog:=prog) (w:=w) (A:=A) (Y:=Y) (E:=E) (s:={s with heap:=G}) (st:=SortSt.mk' Y (vs.toArray.zip vs.toArray) #[] 7 none) (it:=vs.toArray.zip vs.toArray) (rk:=rank cs) (p0:=List.toArray (List.range vs.length))
  (Q:=λ_ st=>failedOf st=none/\jB cs vs ((arrOf st).map (·.2))) (λi j hi hj C hc=> ?_) ⟨rfl, ?_,rfl,λi hi=> ?_⟩ rfl (by lia) λz p S pm up=> ?_) (λr s' q=> ?_) λ_ _ e=>e
 .have:=hY i j C (by lia) (by lia) hc
  rwa[PySem.W.kat_ask_eq (ks:=vs) (vs:=vs) rfl] at this
 .have e:=PySem.W.kas_range (vs.toArray.zip vs.toArray);rw[hz] at e;exact e.symm
 .simpa using hi
 .rw[zr] at up;exact⟨S.fail,p,pm.toList,λu v q r=>up u v (GbB _) q r,kat_snds rfl S.arr⟩
 .exact q
theorem Bq{l:Addr}{o:Obj}{vs:List Value}{cs:List (List (List Int))}{n:Nat}{T:String}{Q:Value->Shared->Prop}(ho:s.heap.get? l=some o)(hc:o.cls= .type T)(hT:T="list"\/T="tuple")(hd:o.data= .seq vs.toArray n)(R7:vs.length<1000000)
  (hK:∀G:Heap,(∀b o,s.heap.get? b=some o->G.get? b=some o)->∀A' :Around,A'.units=A.units+2->uK prog w A' E {s with heap:=G} cs vs)
  (h:∀p:Array Nat,Ord vs.length p->Up (rank cs) p vs.length->Q (.ref (s.heap.objs.size+1)) {s with heap:=sortedAll s.heap vs (List.toArray (p.toList.map λi=>vs.getD i Value.none))}):wpAny (model prog w) A (call (.builtin "sorted") [.ref l]) Q E s:=by
 have szl:vs.length<=sizeLine:=by rw[GbN];lia
 refine Calls.call_function_entry kind_sorted plain_sorted entry_sorted (args_sorted1 _) ?_;unfold Builtin.«sorted»;refine Gab (m:=checkCount "sorted" 1 1 _) (Gao (Gab (wm ho hc hT hd ?_ szl)));refine Gab (wpAny_newList ?_ szl);generalize hG:(s.heap.push (seqObj "list" #[] 0)).update s.heap.objs.size (Obj.mapSeq (· ++vs.toArray))=G;have hsz:G.objs.size=s.heap.objs.size+1:=by rw[<-hG,Heap.size_update,size_push']
 have zZ:(G.push (seqObj "list" vs.toArray 0)).get? (s.heap.objs.size+1)=some (seqObj "list" vs.toArray 0):=by rw[<-hsz];exact GaJ _ rfl
 have keep:∀b o,s.heap.get? b=some o->(G.push (seqObj "list" vs.toArray 0)).get? b=some o:=λb o e=>by
  have hU:=Gax e;refine Gai _ ?_;rw[<-hG,Heap.get?_update_ne _ _ _ _ (GaO hU)];exact Gai _ e
 show wpAny _ _ _ _ _ {s with heap:=G.push (seqObj "list" vs.toArray 0)};rw[hsz];refine Gab (GcA (Gby slot_list_sort ⟨_,zZ,rfl⟩ entry_list_sort (sv (cs:=cs) (s:={s with heap:=G.push (seqObj "list" vs.toArray 0)}) zZ R7 (λG' kG=> ?_) λp h1 h2=> ⟨_,rfl, ?_⟩) (args_list_sort _)))
 .exact hK G' (λb o e=>kG b o (GaO (Gdp (Gax e))) (keep b o e)) _ rfl
 .have:=h p h1 h2;unfold sortedAll at this;rw[hG] at this;exact Gao ⟨_,rfl,this⟩
theorem uQ{ds:List D}{vs:List Value}(hK:Paired (qz s.heap) ds vs)(hok:keysOk ds=true):uK prog w A E s (ds.map code) vs:=λh2 Q hQ=>by
 have hl:=hK.length;exact DC hK hok (by lia) λY hY=>hQ Y λi j C hi hj hc=>FW hK hok hY i j C (by lia) (by lia) hc
theorem DX{h G:Heap}(kG:∀b o,h.get? b=some o->G.get? b=some o){d:D}{v:Value}(k:qz h d v):qz G d v:=by
 cases d with
 |int i=>exact k
 |tup fs=>
  obtain⟨b,o,m,us,h1,h2,h3,h4⟩:=k;exact⟨b,o,m,us,h1,kG b o h2,h3,h4⟩
 |_=>exact k
end
section
variable{X:Cx}{e a b c:Expr}{f g h:DE}{pos:Pos}
def qM(K:ak):List V->Hp->VK->Prop:=λxs H Q=>∃(p:Addr) (ds:List D) (vs:List V) (F:Addr->Prop),xs=[.ref p]/\(SqL K H p vs\/SqT K H p vs)/\aN K F H ds vs/\ds.length<1000000/\keysOk ds=true/\
 ∀l out,H l=none->(∀F',aN K F' H ds vs->aN K F' H (bU ds) out)->Q (.ref l) (upd H l (.lst out))
theorem fH:fY X (.builtin "sorted") (qM X.K):=by
 intro ee s Z H xs us Q I rv h;obtain⟨p,ds,vs,F,rfl,hq,hr,R7,hok,q⟩:=h;obtain⟨u,rfl,ru⟩:=rv.one;cases ru;obtain⟨o,T,n,eI,ho,hc,hT,hd,xA⟩:∃(o:Obj) (T:String) (n:Nat) (eI:List Value),s.heap.get? p=some o/\o.cls= .type T/\(T="list"\/T="tuple")/\o.data= .seq eI.toArray n/\Vals vs eI:=by
  rcases hq with hq|hq
  .obtain⟨eI,xA,pl,_⟩:=I.list hq;obtain⟨o,h1,h2,n,h3⟩:=pl.isList;exact⟨o,"list",n,eI,h1,h2,.inl rfl,h3,xA⟩
  .obtain⟨eI,xA,⟨o,h1,h2,n,h3⟩,_⟩:=I.tuple hq;exact⟨o,"tuple",n,eI,h1,h2,.inr rfl,h3,xA⟩
 have e1:eI.length=ds.length:=by rw[<-xA.length,hr.1]
 have hK:=Cw I hr (FZ hok) xA;refine Bq (cs:=ds.map code) ho hc hT hd (by lia) (λG kG A' _=>uQ (oY (λd v kv=>DX kG kv) hK) hok) λod h1 h2=> ?_;have yq :Ord ds.length od:=by rw[<-e1];exact h1
 have Qo :Up (rank (ds.map code)) od ds.length:=by rw[<-e1];exact h2
 have uniq:(od.toList.map λi=>ds.getD i .non)=bU ds:=lE ((qA yq).trans (fg ds).symm) (Bc yq Qo) (gD ds) λa ha b hb=>FU hok a ((qA yq).mem_iff.mp ha) b ((qA yq).mem_iff.mp hb);obtain⟨c,yL⟩:=sortedAll_at s.heap eI (List.toArray (od.toList.map λi=>eI.getD i Value.none));have fresh:H (s.heap.objs.size+1)=none:=I.hok.fresh (Gdu _);have h1v:Ord vs.length od:=by rw[<-hr.1];exact yq
 refine⟨.ref (s.heap.objs.size+1),_,I.laid (a:=s.heap.objs.size+1) (o:= .lst (od.toList.map λi=>vs.getD i .non)) (t' :=s.toks) (λb ob e=>sortedAll_old e) (Gdu _) ?_,rfl,q _ _ fresh λF' r=> ?_⟩
 .refine⟨?_,_,c,G2 h1v xA,yL⟩;rw[Gac,GbQ,h1v.size,<-hr.1,GbN];lia
 .rw[<-uniq];exact G1 yq r
theorem iX:CallD X fD (qM X.K):=by
 intro F H ds vs rv Q ps e k;obtain⟨d,xs,rfl,h1,h2⟩:=B9 e;split at h2
 .rename_i c;rw[Gay] at c;cases h2;obtain⟨v,rfl,i⟩:=fW ps;obtain⟨p,vs,rfl,hs,r⟩:=B8 i h1;exact⟨p,xs,vs,F,rfl,hs,r,Gar c.1,c.2,λl out hl hr=>k _ _ (aW hl) ⟨l,rfl,hl,kf,rfl,dh hl (hr F r)⟩⟩
 .cases h2
end
open PySem
open PySem PySem.Spec PyProof.Rows
section
variable{prog:Program}{w:World}{A:Around}{E:Value->Shared->Prop}{z:Shared}
theorem after{c:Code}{Q:Value->Shared->Prop}{R:Result->Shared->Prop}(h:codeAny (model prog w) A c (wants Q E) z)(k:∀v s',Q v s' ->R (.ok (.ret v)) s')(e:∀x s',E x s' ->R (.error x) s'):codeAny (model prog w) A c R z:=by
 refine codeAny_mono h ?_;rintro(x|(v|_|_|_)) s' q
 .exact e x s' q
 all_goals first|exact k _ s' q|exact q.elim
end
namespace Fr
end Fr
open PySem PySem.Spec PyProof.Rows
open PySem PySem.Spec PyProof.Rows L2
section
variable{X:Cx}{ee:List (Addr×Obj)}{Z:St}{H:Hp}{s:Shared}
theorem _root_.L2.Inv.draw(I:Inv X ee Z H s)(d:Drawn):Inv X ee Z H {s with drawn:=d}:=⟨I.ok,I.os,I.bare,I.base,I.loc,I.cell,I.free,I.jw,I.pin,I.hok,I.len⟩
end
section
variable{X:Cx}{e a b c:Expr}{f g h:DE}{pos:Pos}{ee:List (Addr×Obj)}{Z:St}{H:Hp}{s:Shared}
theorem kQ:∀{ns:List Int} {us:List Value},Vals (ns.map V.int) us->IntsAre us ns
 |[],_,.nil=> .nil
 |n::ns,_,.cons h t=>by
  obtain⟨k,rfl⟩:=h;exact .cons n k (kQ t)
end
namespace Fr
end Fr
section
variable{X:Cx}{e a b c:Expr}{f g h:DE}{pos:Pos}{ee:List (Addr×Obj)}{Z:St}{H:Hp}{s:Shared}
noncomputable def gone(H:Hp)(it l:Addr)(o:HO):Hp:=λb=>if b=it then none else upd H l o b
end
open PySem PySem.Spec PyProof.Rows L2
section
variable{prog:Program}{w:World}{K:Type} [DecidableEq K]{knd:HeapKind prog w K}{A:Around}{E:Value->Shared->Prop}{s:Shared}
theorem Gq{d:Addr}{o:Obj}{es:Array DictEntry}{ep:Nat}{ys:List (K×Addr×Value)}{f:Array DictEntry->Array DictEntry}{p:Option Value}{Q:Unit->Shared->Prop}(ho:s.heap.get? d=some o)(hc:o.ExactDict)(hd:o.data= .dict es ep)(he:(f es).toList=ys.map (entryOfKey knd))
  (Qj:∀x∈ys,knd.is s.heap x.1 x.2.1)(hn:(ys.map (·.1)).Nodup)(hz:es.size<=sizeLine)(hf:(f es).size<=es.size+1)(h:∀h',h'.DictOfH knd d ys->Heap.SameBut d s.heap h' ->Q () {s with heap:=h' }):wpAny (model prog w) A (updateDictKeys d f p) Q E s:=by
 have sb:=Heap.SameBut.update s.heap d (Obj.mapDictKeys f);refine wpAny_updateDictKeys ho hd (h _ ⟨_,f es,ep+1,GbH _ ho ?_,hc.mapDictKeys _,Obj.data_mapDictKeys hd _,he,λx m=>knd.keeps (Qj x m) ho hd sb,hn⟩ sb) hz hf;exact Obj.isFreed_of_dict (Obj.data_mapDictKeys hd _)
theorem pC{d a:Addr}{xs:List (K×Addr×Value)}{k:K}{v:Value}{Q:Value->Shared->Prop}(hu:knd.room A)(xj:knd.is s.heap k a)(hm:s.heap.DictOfH knd d xs)
  (yW:∀p,atKey xs k=some p->Q p.2 {s with toks:=s.toks+knd.draws k})
  (QP:atKey xs k=none->∀h',h'.DictOfH knd d (storedH xs k a v)->Heap.SameBut d s.heap h' ->Q v {s with heap:=h',toks:=s.toks+knd.draws k})
  (hsz:xs.length<=sizeLine):
  wpAny (model prog w) A (dictSetDefault d (.ref a) v) Q E s:=by
 obtain⟨o,es,ep,ho,hc,hd,he,Qj,hn⟩:=hm;have sz:=size_of_entries he
 wp_walk using knd.pyHash hu xj,wpAny_dictFind_heap (s:={s with toks:=s.toks+knd.draws k}) hu xj ho hd he Qj hn
 .intro no;have none' :=atKey_none_of_get no;have ys:=storedH_new none' a v;refine Gab (Gco (Gab (Gq (knd:=knd) (ys:=storedH xs k a v) (s:={s with toks:=s.toks+knd.draws k}) ho hc hd ?_ ?_ ?_ (by lia) (by simp) λh' q1 q2=>Gao (QP none' h' q1 q2))))
  .rw[ys,GdU,he,GaF];rfl
  .rw[ys];intro x m;rcases GaE.mp m with m|m
   .exact Qj x m
   .rw[Gbw.mp m];exact xj
  .rw[ys,GaF,GcL];exact⟨hn,by simp,λx m y n=>by simp at n;rw[n];exactλe=>not_mem_keys_of_get no (e▸m)⟩
 .intro j p at_;have e:=entry_at he j;rw[at_] at e
  wp_walk using wpAny_dictEntries (s:={s with toks:=s.toks+knd.draws k}) ho hd
  rw[e]
  wp_walk
  exact yW p (atKey_of_get hn at_)
theorem nr(d a:Addr)(hd:(d==sysModules)=false)(dflt:Value):
  MeetsIn prog w (Builtin.«dict.setdefault» ⟨[.ref d,.ref a,dflt],[]⟩) (λA R s=>knd.room A.in1/\∃k xs,knd.is s.heap k a/\s.heap.DictOfH knd d xs/\xs.length<=sizeLine/\
   (∀p,atKey xs k=some p->R (.ok (.ret p.2)) {s with toks:=s.toks+knd.draws k})/\
   (atKey xs k=none->∀h',h'.DictOfH knd d (storedH xs k a dflt)->Heap.SameBut d s.heap h' ->R (.ok (.ret dflt)) {s with heap:=h',toks:=s.toks+knd.draws k})):=by
 apply MeetsIn.of_wp;rintro A R s ⟨hu,k,xs,xj,hm,hsz,h1,h2⟩
 wp_walk using GdF hm.typeIs,pC hu xj hm
 .exactλp q=>Gao ⟨_,rfl,h1 p q⟩
 .exactλq h' q1 q2=>Gao ⟨_,rfl,h2 q h' q1 q2⟩
 .exact hsz
end
section
variable{X:Cx}{ee:List (Addr×Obj)}{Z:St}{H:Hp}{s:Shared}{a b:Addr}{d:V}{u r:Value}{o:Option V}{A:Around}{E:Value->Shared->Prop}
theorem uR{eE:List (List Key×V)}{k:List Key}{Q:Value->Shared->Prop}(hu:A.units+1<cLine)(I:Inv X ee Z H s)(e:H a=some (.dT eE))(eb:H b=some (.tup (k.map kV)))(hl:eE.length<sizeLine)(rd:RelV d r)
  (h1:∀v w' s',gp eE k=some v->Inv X ee Z H s' ->RelV v w' ->Q w' s')(h2:∀s',gp eE k=none->Inv X ee Z (upd H a (.dT (putK eE k d))) s' ->Q r s'):
  wpAny (model X.prog X.w) A (call (.builtin "dict.setdefault") [.ref a,.ref b,r]) Q E s:=by
 obtain⟨z,hd,xs,rel,dd⟩:=C2 I.hok e;have hz:xs.length<=sizeLine:=by rw[<-Paired.length rel];exact z
 refine call_meetsIn PySem.F.slot_dict_setdefault dd.typeIs PySem.F.entry_dict_setdefault (PySem.F.args_dict_setdefault_3 _ _ _) (nr (knd:=tupleKind (bS X.prog X.w)) a b hd r) ⟨Gdd hu,k,xs,L2.lW I.hok eb,dd,hz,λp hp=> ?_,λhn h' zu hs=> ?_⟩
 .have rv:=rel.val k;rw[hp] at rv;cases hv:gp eE k with
  |none=>rw[hv] at rv;exact rv.elim
  |some v=>rw[hv] at rv;exact h1 v _ _ hv (I.tok _) rv
 .have rv:=rel.val k;rw[hn] at rv;cases hv:gp eE k with
  |some v=>rw[hv] at rv;exact rv.elim
  |none=>
   refine h2 _ hv ?_;have yJ :(putK eE k d).length<=sizeLine:=by have:=k7 eE k d;lia
   obtain⟨q,es,ep,hq,g2,g3,g4,_,g5⟩:=zu;refine pG I (by rw[e];exact True.intro) hs ⟨q,hq⟩ ⟨yJ,hd,_,(rel.put k eb rd).keeps λc ys ec=> ?_,q,es,ep,hq,g2,g3,g4,g5⟩;rw[ah (BP ec e (λz=>nomatch z))];exact ec
end
def LH(td ty tx:TE):TE:=λZ H Q=>td Z H λx H1=>∃a,x= .ref a/\IsD H1 a/\ty Z H1 λy H2=>tx Z H2 λz H3=>∃eE k b,H3 a=some (.dT eE)/\y= .ref b/\H3 b=some (.tup (k.map kV))/\eE.length<sizeLine/\
 (∀v,gp eE k=some v->Q v H3)/\(gp eE k=none->Q z (upd H3 a (.dT (putK eE k z))))
section
variable{X:Cx}{o e f:Expr}{apos eM:Pos}{td ty tx:TE}
theorem Gr(hu:X.A.units+1<cLine)(ho:PE X o td)(he:PE X e ty)(hf:PE X f tx)(m:M2 X o "setdefault" apos e f eM):PE X (.Call (.Attribute o "setdefault" apos) [e,f] [] eM) (LH td ty tx):=by
 intro ee s Z H Q I h;refine wpAny_Call_method m.base m.few m.line Gdl PySem.F.slot_dict_setdefault PySem.F.type_dict_setdefault (thn (ho ee s Z H _ I h) λu s1 ⟨x,H1,I1,rx,a,ex,d,q1⟩=> ?_);subst ex;obtain rfl:u=Value.ref a:=rx;obtain⟨t1,t2,_⟩:=AJ I1 d;refine⟨t1,t2, ?_⟩;rw[m.trees];refine GcG rfl (GdK (GcC (thn (he ee s1 Z H1 _ I1 q1) λiv s2 ⟨y,H2,I2,ry,q2⟩=>
  GcC (thn (hf ee s2 Z H2 _ I2 q2) λfv s3 ⟨z,H3,I3,rz,eE,k,b,e1,e2,e3,e4,e5,e6⟩=>Calls.spliced_nil ?_))))
 subst e2;cases(show iv=Value.ref b from ry);exact uR hu I3 e1 e3 e4 rz (λv w' s4 hv I4 rv=> ⟨_,H3,I4,rv,e5 v hv⟩) λs4 hv I4=> ⟨_,_,I4,rz,e6 hv⟩
end
def g9(eF:Addr->Prop)(p:Addr)(ws:List (List Key×V))(b:Addr):Prop:=eF b\/b=p\/V.ref b∈ws.map (·.2)
structure dM(K:ak)(eF:Addr->Prop)(env:Env)(Z:St)(H:Hp)(i:Nat)(p:Addr)(ws:List (List Key×V))(eE:Rws):Prop where
 at_:Z[i]? =some (some (.ref p))
 hid:env[i]? =some none
 top:H p=some (.dT ws)
 keys:eE.map (·.1)=ws.map (·.1)
 row:∀(j:Nat) k v d,ws[j]? =some (k,v)->eE[j]? =some (k,d)->∃a ds vs,v= .ref a/\d= .lst ds/\a≠p/\H a=some (.lst vs)/\aN K (λ_=>False) H ds vs
 inj:∀(j j' :Nat) k k' a,ws[j]? =some (k,V.ref a)->ws[j']? =some (k',V.ref a)->j=j'
def ma(H H' :Hp):Prop:=∀b o,H b=some o->isT o->H' b=some o
theorem ma.trans{H H1 H2:Hp}(a:ma H H1)(b:ma H1 H2):ma H H2:=λc o e t=>b c o (a c o e t) t
theorem ma.same{H H1:Hp}(s:bR H H1):ma H H1:=λc o e _=>s c o e
theorem ma.upd{H:Hp}{a:Addr}{o o' :HO}(h:H a=some o)(n:¬isT o):ma H (upd H a o'):=λc x e t=>by
 have:c≠a:=by rintro rfl;rw[h] at e;cases e;exact n t
 rw[ah this];exact e
section
variable{K:ak}{H0 H H' H1:Hp}{eF zQ :Addr->Prop}{env eU :Env}{Z Z' :St}{d:D}{v:V}{a p:Addr}{i j:Nat}{ws:List (List Key×V)}{eE:Rws}
theorem dM.mono(N:dM K eF env Z H i p ws eE)(s:bR H H'):dM K eF env Z H' i p ws eE where
 at_:=N.at_
 hid:=N.hid
 top:=s _ _ N.top
 keys:=N.keys
 row:=λj k v d h1 h2=>let⟨a,ds,vs,e1,e2,e3,e4,e5⟩:=N.row j k v d h1 h2;⟨a,ds,vs,e1,e2,e3,s _ _ e4,e5.gen (.of_same s) λ_ f _=>f⟩
 inj:=N.inj
theorem dM.lF(N:dM K eF env Z H i p ws eE)(yp:i≠j):dM K eF (env.set j (some (.sh d))) (Z.set j (some v)) H i p ws eE where
 at_:=by rw[Gad (Ne.symm yp)];exact N.at_
 hid:=by rw[Gad (Ne.symm yp)];exact N.hid
 top:=N.top
 keys:=N.keys
 row:=λj k v d h1 h2=>let⟨a,ds,vs,e1,e2,e3,e4,e5⟩:=N.row j k v d h1 h2;⟨a,ds,vs,e1,e2,e3,e4,e5⟩
 inj:=N.inj
theorem dM.LI(N:dM K eF env Z H i p ws eE):dM K zQ env Z H i p ws eE:=⟨N.at_,N.hid,N.top,N.keys,N.row,N.inj⟩
theorem dM.app{vs:List V}{ds:List D}{k:List Key}(N:dM K eF env Z H i p ws eE)(ba:eF a)(ha:ws[j]? =some (k,.ref a))(hd:eE[j]? =some (k,.lst ds))(hv:H a=some (.lst vs))(rp:aN K (λ_=>False) H (ds++[d]) (vs++[v])):
  dM K eF env Z (upd H a (.lst (vs++[v]))) i p ws (eE.set j (k,.lst (ds++[d]))):=by
 have dN:gE (λ_=>False) H (upd H a (.lst (vs++[v]))):=λb x hx q=>by
  have:b≠a:=by
   rintro rfl;rcases q with q|q
   .exact q
   .rw[hv] at hx;cases hx;exact q
  rw[ah this];exact hx
 have yo:p≠a:=by
  obtain⟨a',_,_,e1,_,e3,_⟩:=N.row j k _ _ ha hd;cases e1;exact Ne.symm e3
 have Qi:=(Gaj.mp hd).1;refine⟨N.at_,N.hid,by rw[ah yo];exact N.top, ?_,λj' k' v' d' h1 h2=> ?_,N.inj⟩
 .rw[List.map_set,<-N.keys];apply Gdo;intro m;by_cases q:j=m
  .subst q;rw[GaT (by simpa using Qi),Gah,hd];rfl
  .rw[Gad q]
 .by_cases q:j=j'
  .subst q;rw[ha] at h1;cases h1
   rw[GaT Qi] at h2;cases h2;exact⟨a,_,_,rfl,rfl,Ne.symm yo,az,rp.gen dN λ_ f _=>f⟩
  .rw[Gad q] at h2;obtain⟨a',Qt,us,e1,e2,e3,e4,e5⟩:=N.row j' k' v' d' h1 h2;subst e1;have na:a' ≠a:=by
    rintro rfl;exact q (N.inj j j' _ _ _ ha h1)
   exact⟨a',Qt,us,rfl,e2,e3,by rw[ah na];exact e4,e5.gen dN λ_ f _=>f⟩
theorem dM.make{k:List Key}(N:dM K eF env Z H i p ws eE)(bp:eF p)(ba:eF a)(hn:V.ref a∉ws.map (·.2))(yo:a≠p)(hv:H a=some (.lst [])):dM K eF env Z (upd H p (.dT (ws++[(k,.ref a)]))) i p (ws++[(k,.ref a)]) (eE++[(k,.lst [])]):=by
 have dN:gE (λ_=>False) H (upd H p (.dT (ws++[(k,.ref a)]))):=λb x hx q=>by
  have:b≠p:=by
   rintro rfl;rcases q with q|q
   .exact q
   .rw[N.top] at hx;cases hx;exact q
  rw[ah this];exact hx
 have eO:eE.length=ws.length:=by have:=congrArg List.length N.keys;simpa using this
 refine⟨N.at_,N.hid,az,by rw[GaF,GaF,N.keys];rfl,λj' k' v' d' h1 h2=> ?_,λj1 j2 k1 k2 b h1 h2=> ?_⟩
 .by_cases q:j' <ws.length
  .rw[GaU q] at h1;rw[GaU (by lia)] at h2;obtain⟨a',Qt,us,e1,e2,e3,e4,e5⟩:=N.row j' k' v' d' h1 h2;exact⟨a',Qt,us,e1,e2,e3,by rw[ah e3];exact e4,e5.gen dN λ_ f _=>f⟩
  .rw[GaN (by lia)] at h1;rw[GaN (by lia)] at h2;rw[eO] at h2;cases hz:j' -ws.length with
   |zero=>
    rw[hz] at h1 h2;cases h1;cases h2
    exact⟨a,[],[],rfl,rfl,yo,by rw[ah yo];exact hv,.nil⟩
   |succ n=>rw[hz] at h1;simp at h1
 .by_cases q1:j1<ws.length
  .rw[GaU q1] at h1;by_cases q2:j2<ws.length
   .rw[GaU q2] at h2;exact N.inj j1 j2 _ _ _ h1 h2
   .rw[GaN (by lia)] at h2;cases hz:j2 -ws.length with
    |zero=>
     rw[hz] at h2;cases h2
     exact absurd (GaG.mpr ⟨_,GaP h1,rfl⟩) hn
    |succ n=>rw[hz] at h2;simp at h2
  .rw[GaN (by lia)] at h1;cases hz:j1 -ws.length with
   |succ n=>rw[hz] at h1;simp at h1
   |zero=>
    rw[hz] at h1;cases h1
    by_cases q2:j2<ws.length
    .rw[GaU q2] at h2;exact absurd (GaG.mpr ⟨_,GaP h2,rfl⟩) hn
    .rw[GaN (by lia)] at h2;cases zW:j2 -ws.length with
     |succ n=>rw[zW] at h2;simp at h2
     |zero=>lia
end
def FrW(H0:Hp)(eF:Addr->Prop)(p:Addr)(ws:List (List Key×V)):Prop:=∀b,(b=p\/V.ref b∈ws.map (·.2))->H0 b=none/\¬eF b
theorem uS{eE:Rws}{ws:List (List Key×V)}{k:List Key}(h:eE.map (·.1)=ws.map (·.1)):eE.findIdx? (λp=>decide (p.1=k))=ws.findIdx? (λp=>decide (p.1=k)):=by
 have h1:(eE.map (·.1)).findIdx? (λq=>decide (q=k))=eE.findIdx? (λp=>decide (p.1=k)):=by rw[GdV];rfl
 have h2:(ws.map (·.1)).findIdx? (λq=>decide (q=k))=ws.findIdx? (λp=>decide (p.1=k)):=by rw[GdV];rfl
 rw[<-h1,<-h2,h]
theorem find_some:∀{ws:List (List Key×V)} {k:List Key} {j:Nat},ws.findIdx? (λp=>decide (p.1=k))=some j->∃v,ws[j]? =some (k,v)/\gp ws k=some v
 |[],k,j,h=>by simp at h
 |p::ws,k,j,h=>by
  rw[List.findIdx?_cons] at h;by_cases c:p.1=k
  .rw[Gaz c] at h;cases h;exact⟨p.2,by rw[<-c];rfl,k6 c⟩
  .rw[GaD c] at h;simp only[GaK,Gbj] at h;obtain⟨j',hj,rfl⟩:=Gap.mp h;obtain⟨v,h1,h2⟩:=find_some hj;exact⟨v,by rw[Gdm];exact h1,by rw[gO c];exact h2⟩
theorem find_none:∀{ws:List (List Key×V)} {k:List Key},ws.findIdx? (λp=>decide (p.1=k))=none->gp ws k=none
 |[],k,h=>rfl
 |p::ws,k,h=>by
  rw[List.findIdx?_cons] at h;by_cases c:p.1=k
  .rw[Gaz c] at h;cases h
  .rw[GaD c] at h;simp only[GaK,Gbj] at h;rw[gO c];exact find_none (Option.map_eq_none_iff.mp h)
theorem Br{eE:Rws}{ws:List (List Key×V)}{j:Nat}{k:List Key}{v:V}{q:List Key×D}(h:eE.map (·.1)=ws.map (·.1))(h1:eE[j]? =some q)(h2:ws[j]? =some (k,v)):q.1=k:=by
 have e1:(eE.map (·.1))[j]? =some q.1:=by rw[Gah,h1];rfl
 have e2:(ws.map (·.1))[j]? =some k:=by rw[Gah,h2];rfl
 rw[h,e2] at e1;cases e1;rfl
def tM(X:Cx)(i:Nat)(f:DM):TS:=λD Z H=>∃H0 eF env p ws eE q,ao X.K H0 (g9 eF p ws) env Z H/\dM X.K (g9 eF p ws) env Z H i p ws eE/\FrW H0 eF p ws/\f env eE=some q/\
 ∀Z' H' yt,ao X.K H0 (g9 eF p yt) q.1 Z' H' ->dM X.K (g9 eF p yt) q.1 Z' H' i p yt q.2->FrW H0 eF p yt ->ma H H' ->D.nx Z' H'
section
variable{X:Cx}{e a b c:Expr}{f g h:DE}{t u:DT}{pos:Pos}{st:Stmt}{rest body:List Stmt}{i j:Nat}{x:Str}{n1 n2:DM}
theorem Je(h1:PS X st (tM X i n1)):PSs X [st] (tM X i n1):=uk h1
theorem Gs(h1:PS X st (tM X i n1))(h2:PSs X rest (tM X i n2)):PSs X (st::rest) (tM X i (NS n1 n2)):=by
 refine(mJ h1 h2).aG ?_;rintro D Z H ⟨H0,eF,env,p,ws,eE,q,E,N,h0,e,k⟩;obtain⟨q1,hq,e⟩:=eD e;exact⟨H0,eF,env,p,ws,eE,q1,E,N,h0,hq,λZ' H' yt E' N' f' t' => ⟨H0,eF,q1.1,p,yt,q1.2,q,E',N',f',e,λZ2 H2 yl E2 N2 f2 t2=>k Z2 H2 yl E2 N2 f2 (t'.trans t2)⟩⟩
theorem LJ{pos' :Pos}(hN:X.N.Nodup)(hj:X.N[j]? =some x)(hx:Loc X.env.scope x)(yp:i≠j)(he:PEd X e f)(hs:swapsWith e (some (.Name x pos')) pos.line X.env=pure false:=by rfl)
  (hf:X.fn x=true\/X.env.scope.names.lookup x=some .local:=by first|exact .inl rfl|exact .inr rfl|assumption):PS X (.Assign [.Name x pos'] e pos) (tM X i (setM j f)):=by
 refine(Ay hN hj hx he hs hf).aG ?_;rintro D Z H ⟨H0,eF,env,p,ws,eE,q,E,N,h0,e,k⟩;obtain⟨⟨kr,d⟩,hr,e⟩:=eD e;cases kr with
 |c=>
  cases e;refine⟨H0,_,env,_,E,hr,λv H1 s1 R=> ?_⟩;exact k _ _ ws ((E.mono s1).lF R) ((N.mono s1).lF yp) h0 (.same s1)
 |tn=>cases e
 |to=>cases e
 |tb=>cases e
theorem bindM{α β:Type}{o:Option α}{f:α->Option β}{b:β}(h:o.bind f=some b):∃a,o=some a/\f a=some b:=eD h
theorem LK{px ap cp apos eM lp:Pos}{ke:Expr}(hu:X.A.units+1<cLine)(hN:X.N[i]? =some x)(hv:Vis X.env.scope x)(hk:PEd X ke g)(he:PEd X e f)(hd:(x==("__debug__":Str))=false:=by decide)(xn:(x==("__classdict__":Str))=false:=by decide)
  (m:M2 X (.Name x px) "setdefault" ap ke (.List [] lp) cp:=by exact⟨rfl,rfl,rfl,rfl⟩)
  (xi:starEach [e] X.env=[(false,eval e X.env)]:=by rfl)
  (eX:attributeBase (.Call (.Attribute (.Name x px) "setdefault" ap) [ke,.List [] lp] [] cp) "append" X.env (eval (.Call (.Attribute (.Name x px) "setdefault" ap) [ke,.List [] lp] [] cp) X.env)=eval (.Call (.Attribute (.Name x px) "setdefault" ap) [ke,.List [] lp] [] cp) X.env:=by rfl)
  (xB:((backTo eM (starEach [e] X.env)).all (λx=> !x.1)&&(backToKw eM (keywordEach [] X.env)).all (λx=>x.1.isSome)
   &&decide (([e]:List Expr).length+([]:List Keyword).length+(if([]:List Keyword).isEmpty then 0 else 1)<30))=true:=by rfl)
  (eW:(apos.endLine==eM.line)=true:=by rfl)(hs:swapsWith (.Call (.Attribute (.Call (.Attribute (.Name x px) "setdefault" ap) [ke,.List [] lp] [] cp) "append" apos) [e] [] eM) none pos.line X.env=pure false:=by rfl):
  PS X (.Expr (.Call (.Attribute (.Call (.Attribute (.Name x px) "setdefault" ap) [ke,.List [] lp] [] cp) "append" apos) [e] [] eM) pos) (tM X i (NT g f)):=by
 refine(pF (BZ Gcy PySem.F.slot_list_append PySem.F.type_list_append nT (Gr hu (jY hN hv hd xn) hk (EZ AE) m) (dG he gS xi) eX xB eW xi rfl) hs).aG ?_;rintro D Z H ⟨H0,eF,env,p,ws,eE,q,E,N,h0,e,kk⟩;obtain⟨⟨ky,dy⟩,hy,e⟩:=bindM e;obtain⟨r,hr,e⟩:=bindM e;cases dy with
 |tup ks=>
  dsimp only at e;split at e
  .rename_i z;rw[Gay] at z;obtain⟨key,xj,e⟩:=bindM e;obtain⟨yT,ym,e⟩:=Gap.mp e;cases e;have bp:g9 eF p ws p:= .inr (.inl rfl);refine⟨_,N.at_,p,rfl,.inr ⟨ws,.inl N.top⟩,H0,_,env,_,E,hy,λvy H1 s1 Ry=> ?_⟩;have iy:Inn X.K (Cln (g9 eF p ws) env Z) H1 (.tup ks) vy:=Ry.inn;cases iy with
   | @tup bk kv _ hb rb=>
    have ekv:=iF rb xj;subst ekv;have E1:=E.mono s1;have N1:=N.mono s1;refine⟨GbB _,λa1 yv => ?_⟩;have sA:bR H1 (upd H1 a1 (.lst [])):=aW yv;have Su:upd H1 a1 (.lst []) bk=some (.tup (key.map kV)):=sA _ _ hb;have N2:=N1.mono sA;have E2:=E1.mono sA;have eO:eE.length=ws.length:=by have:=congrArg List.length N.keys;simpa using this
    have szk:eE.length<a6/\((∃jj ds k0,eE.findIdx? (λp=>decide (p.1=key))=some jj/\eE[jj]? =some (k0,.lst ds)/\ds.length<a6/\yT =eE.set jj (key,.lst (ds++[r.d])))\/(eE.findIdx? (λp=>decide (p.1=key))=none/\yT =eE++[(key,.lst [r.d])])):=by
     unfold Fh at ym;split at ym
     .rename_i hz;refine⟨hz, ?_⟩;split at ym
      .rename_i jj xR;split at ym
       .rename_i k0 ds xk;split at ym
        .rename_i hl;cases ym;exact .inl ⟨jj,ds,k0,xR,xk,hl,rfl⟩
        .cases ym
       .cases ym
      .rename_i xR;cases ym;exact .inr ⟨xR,rfl⟩
     .cases ym
    have fin:∀(H2:Hp) (yl:List (List Key×V)) (yx:Rws) (jj:Nat) (a:Addr) (ds:List DL.D),ao X.K H0 (g9 eF p yl) env Z H2->dM X.K (g9 eF p yl) env Z H2 i p yl yx->FrW H0 eF p yl->ma H H2->yl[jj]? =some (key,.ref a)->yx[jj]? =some (key,.lst ds)->ds.length<a6->yT =yx.set jj (key,.lst (ds++[r.d]))->
      tyV X.K "list" (.ref a) H2/\tA X (a4 f a8) Z H2 λvs H3=>C0 (.ref a) vs H3 λ_ H4=>D.nx Z H4:=by
     intro H2 yl yx jj a ds E2 N2 F2 T2 hw zG hl ek;obtain⟨a',Qt,vs,e1,e2,e3,Rw,rp⟩:=N2.row jj _ _ _ hw zG;cases e1;cases e2
     have ba:g9 eF p yl a:= .inr (.inr (GaG.mpr ⟨_,GaP hw,rfl⟩));refine⟨.inl ⟨rfl,vs,.inl (.inl Rw)⟩,H0,_,env,[r],E2,by unfold a4 a8;rw[hr];rfl,λus H3 s3 Rs=> ?_⟩;cases Rs with
     | @cons _ v _ _ R1 tl=>
      cases tl;have yy:=s3 _ _ Rw;have N3:=N2.mono s3;have E3:=E2.mono s3;refine⟨_,vs,v,rfl,rfl,yy,by rw[<-rp.1,<-eR];exact hl, ?_⟩;have rep1:Rep X.K (λ_=>False) H3 r.d v:=R1.inn.imm z.1;have rp3:aN X.K (λ_=>False) H3 (ds++[r.d]) (vs++[v]):=(rp.gen (.of_same s3) λ_ f _=>f).append (.cons rep1 .nil);have N4:=N3.app ba hw zG yy rp3;rw[<-ek] at N4;exact kk Z _ yl (E3.Gd ba (F2 a (.inr (GaG.mpr ⟨_,GaP hw,rfl⟩))).1 yy (λz=>z) z.2) N4 F2 ((T2.trans (.same s3)).trans (.upd yy λz=>z))
    refine⟨ws,key,bk,N2.top,rfl,Su,by rw[<-eO,<-eR];exact szk.1,λv hv=> ?_,λhv=> ?_⟩
    .rcases szk.2 with⟨jj,ds,k0,xR,xk,hl,ek⟩| ⟨xR,_⟩
     .rw[uS N.keys] at xR;obtain⟨v',hw,yV⟩:=find_some xR;rw[hv] at yV;cases yV
      have hk0:k0=key:=Br N.keys xk hw;subst hk0;obtain⟨a',_,_,e1,_⟩:=N.row jj _ _ _ hw xk;subst e1;exact fin _ ws eE jj a' ds E2 N2 h0 ((ma.same s1).trans (.same sA)) hw xk hl ek
     .rw[uS N.keys] at xR;rw[find_none xR] at hv;cases hv
    .rcases szk.2 with⟨jj,ds,k0,xR,xk,hl,ek⟩| ⟨xR,ek⟩
     .rw[uS N.keys] at xR;obtain⟨v',hw,yV⟩:=find_some xR;rw[hv] at yV;cases yV
     .have hn:V.ref a1∉ws.map (·.2):=λhm=>by
       obtain⟨⟨k1,v1⟩,Qe,QQ⟩:=GaG.mp hm;have hm2' :v1=V.ref a1:=QQ;subst hm2';obtain⟨j1,QV⟩:=Gck.mp Qe;have hj1' :j1<eE.length:=by rw[eO];exact(Gaj.mp QV).1
       have Qh:eE[j1]? =some eE[j1]:=Gaa hj1';have xW:eE[j1].1=k1:=Br N.keys Qh QV;obtain⟨a',_,us,e1,_,_,e4,_⟩:=N1.row j1 k1 _ eE[j1].2 QV (by rw[Qh,<-xW]);cases e1;rw[yv] at e4;cases e4
      have yo:a1≠p:=λq=>by subst q;rw[N1.top] at yv;cases yv
      rw[F6 _ hv];have eB:(λb=>g9 eF p ws b\/b=a1)=g9 eF p (ws++[(key,V.ref a1)]):=by
       funext b
       apply propext;unfold g9;rw[GaF,GaE];simp only[GaB,GdX,Gbw,V.ref.injEq];constructor
       .rintro((h|h|h)|h)
        .exact .inl h
        .exact .inr (.inl h)
        .exact .inr (.inr (.inl h))
        .exact .inr (.inr (.inr h))
       .rintro(h|h|h|h)
        .exact .inl (.inl h)
        .exact .inl (.inr (.inl h))
        .exact .inl (.inr (.inr h))
        .exact .inr h
      have E3:ao X.K H0 (g9 eF p (ws++[(key,V.ref a1)])) env Z (upd H1 a1 (.lst [])):=by
       rw[<-eB];exact E1.CD (New:=λb=>b=a1) sA (λb hb=>by rw[hb];exact yv) λb hb=>by rw[hb,az];simp
      have N3:dM X.K (g9 eF p (ws++[(key,V.ref a1)])) env Z (upd H1 a1 (.lst [])) i p ws eE:=by
       exact N1.LI.mono sA
      have F3:FrW H0 eF p (ws++[(key,V.ref a1)]):=λb hb=>by
       rw[GaF,GaE] at hb;simp only[GaB,GdX,Gbw,V.ref.injEq] at hb;rcases hb with h|h|h
       .exact h0 b (.inl h)
       .exact h0 b (.inr h)
       .subst h;exact⟨E1.same.free yv,λq=>E1.bad b (.inl q) yv⟩
      have bp' :g9 eF p (ws++[(key,V.ref a1)]) p:= .inr (.inl rfl);have ba' :g9 eF p (ws++[(key,V.ref a1)]) a1:= .inr (.inr (by rw[GaF,GaE];exact .inr Gak));have N4:=N3.make (k:=key) bp' ba' hn yo az;have E4:=E3.Gd (o' := .dT (ws++[(key,V.ref a1)])) bp' (F3 p (.inl rfl)).1 N3.top (λz=>z) z.2;have lw:(ws++[(key,V.ref a1)])[ws.length]? =some (key,V.ref a1):=by rw[GaN (Gaq _),Nat.sub_self];rfl
      have lk:(eE++[(key,DL.D.lst [])])[ws.length]? =some (key,DL.D.lst []):=by rw[<-eO,GaN (Gaq _),Nat.sub_self];rfl
      refine fin _ _ (eE++[(key,DL.D.lst [])]) ws.length a1 [] E4 N4 F3 (((ma.same s1).trans (.same sA)).trans (.upd N3.top λz=>z)) lw lk (by rw[eR,GbN];exact(by decide:(0:Nat)<16777216)) ?_;rw[ek,<-eO,List.set_append_right _ _ (Gaq _),Nat.sub_self]
      rfl
  .cases e
 |_=>cases e
theorem LL{px:Pos}(hp:PassesOwn (model X.prog X.w) X.A X.env X.xe)(hc:X.calm=true)(he:PEd X e f)(hN:X.N.Nodup)(hj:X.N[j]? =some x)(hx:Loc X.env.scope x)(yp:i≠j)(hb:PSs X body (tM X i n1))
  (hs:∀x,foldedSetIterable e X.env x=pure x:=by intro _;rfl)
  (hf:X.fn x=true\/X.env.scope.names.lookup x=some .local:=by first|exact .inl rfl|exact .inr rfl|assumption):
  PS X (.For (.Name x px) e body [] pos) (tM X i (K6 j f n1)):=by
 refine(EU hp hc (FD he) (BS hN hj hx hf) hb hs).aG ?_;rintro D Z H ⟨H0,eF,env,p,ws,eE,q,E,N,h0,e,k⟩;obtain⟨⟨kr,d⟩,hr,e⟩:=bindM e;split at e
 .rename_i xs hd;have xr :d= .tup xs:=hd;subst xr;split at e
  .rename_i him;refine⟨H0,_,env,_,E,hr,λv H1 s1 R=> ?_⟩;have i1:Inn X.K (Cln (g9 eF p ws) env Z) H1 (.tup xs) v:=R.inn;cases i1 with
   | @tup la lv _ Qf rr=>
    have hll:xs.length=lv.length:=rr.1;refine⟨_,rfl,.inr ⟨⟨_,SqT.of Qf⟩, ?_⟩⟩;refine⟨λc n Z' H' =>n=xs.length -c/\c<=xs.length/\ma H1 H' /\∃eP xP yU,ao X.K H0 (g9 eF p xP) eP Z' H' /\dM X.K (g9 eF p xP) eP Z' H' i p xP yU/\FrW H0 eF p xP/\mX j n1 (xs.drop c) eP yU=some q,
     ⟨xs.length,by simp,GbB _,λ_ _ e _=>e,env,ws,eE,E.mono s1,N.mono s1,h0,by simpa using e⟩, ?_⟩
    rintro c n Z' H' ⟨rfl,hle,tS,eP,xP,yU,Ei,Ni,Fi,ei⟩;have hla' :H' la=some (.tup lv):=tS _ _ Qf trivial;by_cases hU:c<xs.length
    .have hd:xs.drop c=xs[c]::xs.drop (c+1):=GbF hU;rw[hd] at ei;unfold mX at ei;obtain⟨q1,hq,ei⟩:=bindM ei;have zb:lv[c]? =some (lv[c]'(by lia)):=Gaa _;refine .inr ⟨⟨lv,_,SqT.of hla',zb⟩,λZ2 H2=>ma H1 H2/\∃eP xP yU,ao X.K H0 (g9 eF p xP) eP Z2 H2/\dM X.K (g9 eF p xP) eP Z2 H2 i p xP yU/\FrW H0 eF p xP/\mX j n1 (xs.drop (c+1)) eP yU=some q,λZ2 H2 z=> ⟨xs.length -(c+1),by lia,rfl,hU,z⟩,λy H2 ⟨e2,e3⟩=> ?_⟩;subst e2;have ey:=e3 _ (SqT.of hla');rw[zb] at ey;cases ey;have rep0:=rr.2 c _ _ (Gaa hU) zb;have rep1:Rep X.K (λ_=>False) H1 xs[c] lv[c]:=rep0.imm (pH him c _ (Gaa hU));have rep2:Rep X.K (Cln (g9 eF p xP) eP Z') H2 xs[c] lv[c]:=rep1.gen (λb o hb w=>w.elim (λz=>z.elim) λw=>tS b o hb w) λ_ z _=>z.elim;refine⟨H0,eF,eP.set j (some (.sh xs[c])),p,xP,yU,q1,Ei.lF rep2,Ni.lF yp,Fi,hq,λZ3 H3 RS E3 N3 F3 t3=> ?_⟩;exact⟨tS.trans t3,q1.1,RS,q1.2,E3,N3,F3,ei⟩
    .have zd :c=xs.length:=by lia
     subst zd;rw[GbL] at ei;cases ei;exact .inl ⟨⟨lv,SqT.of hla',by lia⟩,k Z' H' xP Ei Ni Fi ((ma.same s1).trans tS)⟩
  .cases e
 .cases e
theorem DY{pos' dp px rp:Pos}(hN:X.N.Nodup)(hi:X.N[i]? =some x)(hx:Loc X.env.scope x)(hv:Vis X.env.scope x)(h1:PS X st (tM X i n1))(hd:(x==("__debug__":Str))=false:=by decide)(xn:(x==("__classdict__":Str))=false:=by decide)
  (hs:swapsWith (.Dict [] [] dp) (some (.Name x pos')) pos.line X.env=pure false:=by rfl)
  (hf:X.fn x=true\/X.env.scope.names.lookup x=some .local:=by first|exact .inl rfl|exact .inr rfl|assumption):
  qh X [.Assign [.Name x pos'] (.Dict [] [] dp) pos,st,.Return (some (.Name x px)) rp] (Fj i n1):=by
 intro ee z Z H D I hw;have hl:=I.len;refine(mJ (Ay hN hi hx vJ hs hf) (mJ h1 (uk (EO (jY hi hv hd xn))))) ee z Z H D I ?_;obtain⟨H0,eF,env,o,E,e,k⟩:=hw;obtain⟨q,hq,e⟩:=bindM e;cases e;have hie:i<env.length:=B2 E hl hi;have hie' :i<Z.length:=by rw[<-E.len];exact hie
 intro p np;have eB:(λb=>eF b\/b=p)=g9 eF p []:=by
  funext b
  apply propext;unfold g9;simp
 have E1:ao X.K H0 (g9 eF p []) (env.set i none) (Z.set i (some (.ref p))) (upd H p (.dT [])):=by
  rw[<-eB];exact(E.hide i (.ref p)).CD (New:=λb=>b=p) (aW np) (λb hb=>by rw[hb];exact np) λb hb=>by rw[hb,az];simp
 have N1:dM X.K (g9 eF p []) (env.set i none) (Z.set i (some (.ref p))) (upd H p (.dT [])) i p [] []:=
  ⟨bT hie',bT hie,az,rfl,λj k v d h=>by simp at h,λj j' k k' a h=>by simp at h⟩
 have F1:FrW H0 eF p []:=λb hb=>by
  rcases hb with rfl|hb
  .exact⟨E.same.free np,λq=>E.bad b q np⟩
  .simp at hb
 refine⟨H0,eF,env.set i none,p,[],[],q,E1,N1,F1,hq,λZ' H' yt E' N' F' _=> ?_⟩;refine⟨.ref p,N'.at_,k (.ref p) H' E'.same ⟨λ_=> ⟨p,rfl,(F' p (.inl rfl)).1,⟨_,N'.top,trivial⟩⟩,.dT N'.top ⟨N'.keys,λj pd wd e1 e2=> ?_⟩⟩⟩;obtain⟨kd,dd⟩:=pd;obtain⟨kw,vw⟩:=wd;have ek:kd=kw:=Br N'.keys e1 e2;subst ek;obtain⟨a,ds,vs,r1,r2,r3,r4,r5⟩:=N'.row j kd vw dd e2 e1;subst r1 r2;have fa:=F' a (.inr (GaG.mpr ⟨_,GaP e2,rfl⟩));exact .lst ⟨fa.1,λz=>r3 (by cases z;rfl)⟩ (.inl r4) r5.1 λj' d v h1 h2=>(r5.2 j' d v h1 h2).imp λ_ z=>z.elim
end
section
variable{X:Cx}
theorem DZ{ds:List D}{r:RV}(h:sortedS ds=some r):fD ds=some r:=by
 obtain⟨d,xs,rfl,h1,h2⟩:=B9 h;split at h2
 .rename_i c;rw[Gay] at c;have c1:=Gar c.1;unfold fD one;simp only[h1,Option.bind_some];rw[Gaz (by lia:xs.length<1000000),c.2];exact h2
 .cases h2
theorem iY:CallD X sortedS (qM X.K):=λF H ds vs rv Q ps e k=>iX F H ds vs rv Q ps (DZ e) k
end
theorem cY{N P:List Str}{sc:Scope}(a:sc.kind= .function:=by rfl)(b:sc.isCoroutine=false:=by rfl)(c:sc.isGenerator=false:=by rfl)(d:N.Nodup:=by decide+kernel)(e:N.take P.length=P:=by rfl)(f:∀x∈P,sc.names.lookup x=some .local\/sc.names.lookup x=some .cell:=by decide+kernel)(g:∀y∈sc.names,y.2≠ .free:=by decide+kernel):jz N P sc:=⟨a,b,c,d,e,f,g⟩
section
variable{X:Cx}{e a b c:Expr}{f g h:DE}{pos:Pos}
theorem Gu{prog:Program}{w:World}{A:Around}{E:Value->Shared->Prop}{z:Shared}{t b:Addr}{ws:List Value}{Q:Value->Shared->Prop}(ht:IsTup z.heap t #[])(hb:IsTup z.heap b ws.toArray)(h:Q (.ref b) z):wpAny (model prog w) A (binaryOp .Add (.ref t) (.ref b)) Q E z:=by
 obtain⟨⟨cls,dd,data,sl⟩,ho,hc,n,hd⟩:=id ht;obtain⟨⟨Rf,Qu,data2,zT⟩,za,zq,n2,hd2⟩:=id hb;simp only at hc hd zq hd2;subst hc hd zq hd2;exact concat_meets ⟨_,ho,rfl⟩ ⟨_,za,rfl⟩ noFill_tuple_add seq_tuple_add Gds Gdk (Gdc _ _)
  (tuple_addW0 t b #[] ws.toArray n n2 dd Qu sl zT (by simp)) ⟨ho,za,h⟩
def Ke(K:ak):R2:=λx y H Q=>∃a b ys,x= .ref a/\y= .ref b/\SqT K H a []/\SqT K H b ys/\Q (.ref b) H
theorem Jf:OpR X (binaryOp .Add) (Ke X.K):=by
 intro ee s Z H x y v u Q I rx ry h;obtain⟨a,b,ys,rfl,rfl,ha,hb,q⟩:=h;cases rx;cases ry;obtain⟨eI,r1,p1,_⟩:=I.tuple ha;obtain⟨eS,r2,p2,_⟩:=I.tuple hb;have e:eI=[]:=r1.cg.mpr rfl;subst e;exact Gu p1 p2 ⟨.ref b,H,I,rfl,q⟩
theorem Gv:OpD X iE (λx y H Q=>Ke X.K x y H Q\/Fp X.K x y H Q):=by
 intro F H dx dy x y rv Q ix iy e k;unfold iE at e;split at e
 .cases e;cases ix with
  |tup hx rx=>
   cases iy with
   |tup hy ry=>
    have:=rx.ne.mpr rfl;subst this;exact .inl ⟨_,_,_,rfl,rfl,SqT.of hx,SqT.of hy,k _ H bF (.tup hy ry.1 ry.2)⟩
 .exact .inr (Cd F H dx dy x y rv Q ix iy e k)
theorem Jg(ha:PEd X a f)(hb:PEd X b g):PEd X (.BinOp a .Add b pos) (opE iE f g):=qi (Jf.or Cc) Gv ha hb
end
section
variable{prog:Program}{w:World}{A:Around}{E:Value->Shared->Prop}{z:Shared}
theorem nu{t sl:Addr}{eI:Array Value}{lo st:Int}{n:Nat}{Q:Value->Shared->Prop}(ht:IsTup z.heap t eI)(hs:z.TypeIs (.ref sl) "slice")
  (ha:∀{A' :Around} {E' :Value->Shared->Prop} {P:Int×Int×Nat->Shared->Prop},P (lo,st,n) z->wpAny (model prog w) A' (Builtin.Slice.sliceApplied (.ref sl) (pure (eI.size:Int))) P E' z)
  (h1:(lo==0&&st==1&&n==eI.size)=true->Q (.ref t) z)
  (h2:(lo==0&&st==1&&n==eI.size)=false->Q (.ref z.heap.objs.size) {z with heap:=z.heap.push {cls:= .type "tuple",data:= .seq ((List.range n).filterMap λ(k:Nat)=>eI[(lo+(k:Int)*st).toNat]?).toArray}})
  (hz:((List.range n).filterMap λ(k:Nat)=>eI[(lo+(k:Int)*st).toNat]?).toArray.size<=sizeLine):wpAny (model prog w) A (getItem (.ref t) (.ref sl)) Q E z:=by
 unfold getItem
 try with_reducible refine GcA ?_
 first|refine Gab (Gao ?_)|skip
 refine Gab (wpAny_sequenceKey ht.typeIs (by decide) ?_);refine Gab (GbO (name:=Str.ofString "__getitem__") ht.typeIs Gbd
  (Gby Gbd ht.typeIs entry_tuple_getitem ?_ (args_tuple_getitem _ _)))
 show wpAny _ _ (Builtin.Tuple.tupleItemsOf (.ref t)>>=_) _ _ z;refine Gab (tupleItemsOf_ ht (Gab (GdI hs ?_)));rw[Gaf (by decide)];refine Gab (ha ?_);show wpAny _ _ (if(lo==0&&st==1&&n==eI.size)=true then _ else _) _ _ z;cases hc:(lo==0&&st==1&&n==eI.size) with
 |true=>
  have q:=h1 hc;have ty:=ht.typeIs;rw[Gaf rfl];refine Gab (Gab (GdI ty (Gao ?_)));rw[Gaf (by decide)]
  wp_walk
  exact⟨_,rfl,Gao q⟩
 |false=>
  have q:=h2 hc;rw[Gag (by simp)];refine Gab (m:=Builtin.Tuple.tupleExact _) (GaY ?_ hz)
  wp_walk
  exact⟨_,rfl,Gao q⟩
theorem Bs(xs:Array Value):((List.range xs.size).filterMap λ(m:Nat)=>xs[((0:Int)+(m:Int)*1).toNat]?).toArray=xs:=by
 have e:=HT.vD xs 0 xs.size;rw[Gbu,Gbn (by simp)] at e
 simpa using e
theorem Gw{sl:Addr}{t:Tok}{n:Nat}{A' :Around}{E' :Value->Shared->Prop}{P:Int×Int×Nat->Shared->Prop}(hs:z.heap.IsSliceOf sl .none .none (.int 2 t))(h:P (0,2,(n+1)/2) z):
  wpAny (model prog w) A' (Builtin.Slice.sliceApplied (.ref sl) (pure (n:Int))) P E' z:=by
 obtain⟨os,yi,QX,xk⟩:=id hs;unfold Builtin.Slice.sliceApplied Builtin.Slice.sliceFields;refine Gab (Gab (GcV yi xk (x:= .none) rfl (Gab (GcV yi xk (x:= .none) rfl (Gab (GcV yi xk (x:= .int 2 t) rfl (Gao ?_)))))));refine Gab (HT.gM (.int 2 t) ?_);show wpAny _ _ (if((2:Int)==0)=true then _ else _) _ _ z;rw[Gag (by decide)];refine Gab (HT.gM .none (Gab (HT.gM .none (Gab (Gao ?_)))));have e:Builtin.Slice.slicePlaces 0 (n:Int) 2=(n+1)/2:=by
  unfold Builtin.Slice.slicePlaces;rw[Gaf (by lia)];split<;>lia
 show wpAny _ _ (pure ((0:Int),(2:Int),Builtin.Slice.slicePlaces 0 (n:Int) 2)) _ _ z;rw[e];exact Gao h
end
theorem qN{α:Type}:∀(xs:List α),(List.range ((xs.length+1)/2)).filterMap (λm=>xs[2*m]?)=cD xs
 |[]=>by simp[cD]
 |[x]=>by simp[cD,GcZ]
 |x::y::xs=>by
  have e:((x::y::xs).length+1)/2=(xs.length+1)/2+1:=by simp only[Gaw];lia
  rw[e,Gdt,GcW];simp only[Nat.mul_zero,List.getElem?_cons_zero,List.filterMap_map];have q:((λm=>(x::y::xs)[2*m]?)∘Nat.succ)=λm=>xs[2*m]? :=by
   funext m
   show(x::y::xs)[2*(m+1)]? =_;rw[Nat.mul_add]
   rfl
  rw[q,qN xs]
  rfl
theorem tR{α:Type}:∀(xs:List α) (i:Nat),(cD xs)[i]? =xs[2*i]?
 |[],i=>by simp[cD]
 |[x],0=>rfl
 |[x],i+1=>by
  have:2*(i+1)=2*i+1+1:=by lia
  rw[this];simp[cD]
 |x::y::xs,0=>rfl
 |x::y::xs,i+1=>by
  have:2*(i+1)=2*i+1+1:=by lia
  rw[this];exact tR xs i
theorem jm{α:Type}:∀xs:List α,(cD xs).length=(xs.length+1)/2
 |[]=>by simp[cD]
 |[x]=>by simp[cD]
 |x::y::xs=>by
  have:=jm xs;simp only[cD,Gaw];lia
theorem qO:∀(xs:List V) (us:List Value),Vals xs us->Vals (cD xs) (cD us)
 |[],us,r=>by cases r;exact .nil
 |[x],us,r=>by
  cases r with
  |cons h t=>cases t;exact .cons h .nil
 |x::y::xs,us,r=>by
  cases r with
  |cons h t=>
   cases t with
   |cons _ t=>exact .cons h (qO xs _ t)
theorem Bt{K:ak}{F:Addr->Prop}{H:Hp}{ds:List D}{vs:List V}(r:aN K F H ds vs):aN K F H (cD ds) (cD vs):=by
 refine⟨by rw[jm,jm,r.1],λi d v h1 h2=> ?_⟩;rw[tR] at h1 h2;exact r.2 _ d v h1 h2
section
variable{X:Cx}{e c:Expr}{f:DE}{pos p2:Pos}
def Q3(K:ak):V->Option Int->Option Int->Hp->VK->Prop:=λx lo hi H Q=>∃a xs,x= .ref a/\SqT K H a xs/\
 (HT.sIx xs.length 0 lo=0/\HT.sIx xs.length xs.length hi=xs.length->Q (.ref a) H)/\(¬(HT.sIx xs.length 0 lo=0/\HT.sIx xs.length xs.length hi=xs.length)->∀p,H p=none->Q (.ref p) (upd H p (.tup (uo xs lo hi))))
theorem Jh:SlR X (Q3 X.K):=by
 intro ee s Z H x v vl vu lo hi sl Q I rx hs pl pu h;obtain⟨a,xs,rfl,hx,q1,q2⟩:=h;by_cases c:HT.sIx xs.length 0 lo=0/\HT.sIx xs.length xs.length hi=xs.length
 .cases rx;obtain⟨eI,r,ht,hz⟩:=I.tuple hx;have eO:eI.toArray.size=xs.length:=by rw[Gam];exact r.length.symm
  refine⟨"tuple",_,Gbd.lookup,ht.typeIs, ?_⟩;refine nu (lo:=0) (st:=1) (n:=xs.length) ht (let⟨o,h1,h2,_⟩:=hs;⟨o,h1,h2⟩) (λ{A' E' P} p=>HT.j8 hs pl pu (by rw[eO,c.1,c.2,GdZ];exact p)) (λ_=> ⟨.ref a,H,I,rfl,q1 c⟩) (λz=>by rw[eO] at z;simp at z) ?_;rw[<-eO,Bs,eO];exact hz
 .exact AH ee s Z H _ v vl vu lo hi sl Q I rx hs pl pu ⟨a,xs,rfl,hx,c,q2 c⟩
theorem E5{α:Type}{xs:List α}{lo hi:Option Int}(c:sIx xs.length 0 lo=0/\sIx xs.length xs.length hi=xs.length):cutD xs lo hi=xs:=by
 unfold cutD;rw[c.1,c.2,Gbu,GdZ,Gcv]
theorem E9{lo hi:Option Expr}{l u:DO}(he:PEd X e f)(hl:PO X lo (tO X l))(hu:PO X hi (tO X u)):PEd X (.Subscript e (.Slice lo hi none p2) pos) (vS f l u):=by
 refine(vF ((BY.or AH).or Jh) he hl hu).aG ?_;rintro Z H Q ⟨H0,eF,env,rv,E,hf,k⟩;obtain⟨r,hr,hf⟩:=eD hf;obtain⟨lv,zb,hf⟩:=eD hf;obtain⟨uv,zl,hf⟩:=eD hf;refine⟨H0,eF,env,r,E,hr,λv H1 s1 R=> ⟨H0,eF,env,lv,E.mono s1,zb,λH2 s2=> ⟨H0,eF,env,uv,(E.mono s1).mono s2,zl,λH3 s3=> ?_⟩⟩⟩;have i3:=(R.inn.same s2).same s3;have s13:=s1.trans (s2.trans s3);unfold vR at hf;split at hf
 .rename_i xs hd;cases hf;rw[hd] at i3;cases i3 with
  |tup hh rr=>
   refine .inr ⟨_,_,rfl,SqT.of hh,λc=> ?_,λ_ p n=>k _ _ (s13.trans (aW n)) (cK n (jf rr))⟩;rw[om,om,<-rr.1] at c;rw[E5 c] at k;exact k _ _ s13 (.tup hh rr.1 rr.2)
 .rename_i hn;unfold slD at hf;split at hf
  .rename_i xs hd;cases hf;rw[hd] at i3;cases i3 with
   |lst hh rr=>exact .inl (.inl ⟨_,_,rfl,.inl hh,λp n=>k _ _ (s13.trans (aW n)) ⟨p,rfl,s13.free n,kf,rfl,dh n (jf rr)⟩⟩)
  .rename_i xs hd;exact absurd hd (hn xs)
  .rename_i ns hd;cases hf;rw[hd] at i3;cases i3 with
   |scr hh=>exact .inl (.inl ⟨_,_,rfl,hh.sq,λp n=>k _ _ (s13.trans (aW n)) ⟨p,rfl,s13.free n,kf,rfl,dh n (jf qx)⟩⟩)
  .cases hf
def tEv(K:ak)(te:TE):TE:=λZ H Q=>te Z H λx H1=>∃a xs,x= .ref a/\SqT K H1 a xs/\∀p,H1 p=none->Q (.ref p) (upd H1 p (.tup (cD xs)))
theorem Ji{te:TE}{j:Nat}{p3:Pos}(he:PE X e te):PE X (.Subscript e (.Slice none none (some (.Constant (.int 2) j p3)) p2) pos) (tEv X.K te):=by
 intro ee s Z H Q I h;refine Subscript_ (thn (he ee s Z H _ I h) λv s1 ⟨x,H1,I1,r1,q1⟩=> ?_);refine wpAny_Slice ?_;rw[evalPart_none];refine Gao (Gao ?_);rw[evalPart_some];refine wpAny_Constant_int ?_;obtain⟨a,xs,rfl,hx,q⟩:=q1;cases r1;have I3:L2.Inv X ee Z H1 {s1 with toks:=s1.toks+1}:=I1.tok _;generalize hz3:Shared.mk _ _ _ _ _=s3 at I3⊢;have I4:L2.Inv X ee Z H1 {s3 with heap:=s3.heap.push {cls:= .type "slice",data:= .fields #[.none,.none,.int 2 s1.toks]}}:=I3.kept (t' :=s3.toks) λb ob q=>Gai _ q;have hs:=Heap.IsSliceOf.new s3.heap .none .none (.int 2 s1.toks);obtain⟨eI,r,ht,hz⟩:=I4.tuple hx;have eO:eI.toArray.size=xs.length:=by rw[Gam];exact r.length.symm
 have ep:((List.range ((eI.toArray.size+1)/2)).filterMap λ(k:Nat)=>eI.toArray[((0:Int)+(k:Int)*2).toNat]?)=cD eI:=by
  have:=qN eI;rw[Gam,<-this];refine congrArg (λf=>List.filterMap f _) (funext λm=> ?_);have:((0:Int)+(m:Int)*2).toNat=2*m:=by lia
  rw[this];simp
 have el:(cD eI).length<=sizeLine:=by rw[jm];rw[Gam] at eO;rw[eO];exact Gbh (by lia) hz
 refine tail_any (ops:=[.ref a,.ref s3.heap.objs.size]) ht.typeIs Gbd.lookup ?_ (by with_unfolding_all rfl);refine nu (lo:=0) (st:=2) (n:=(eI.toArray.size+1)/2) ht (let⟨o,h1,h2,_⟩:=hs;⟨o,h1,h2⟩) (λ{A' E' P} p=>Gw hs p) (λz=>by simp at z) (λ_=> ?_) ?_
 .rw[ep];refine⟨.ref _,_,I4.laid (t' :=s3.toks) (o:= .tup (cD xs)) (λb ob q=>Gai _ q) (Gaq _) ?_,rfl,q _ (I4.hok.fresh (Gaq _))⟩;exact⟨by rw[jm];exact Gbh (by lia) hz,_,qO _ _ r,IsTup.new _ _⟩
 .rw[ep,Gam];exact el
theorem Jj{j:Nat}{p3:Pos}(he:PEd X e f):PEd X (.Subscript e (.Slice none none (some (.Constant (.int 2) j p3)) p2) pos) (L9 f):=by
 refine(Ji he).aG ?_;rintro Z H Q ⟨H0,eF,env,rv,E,hf,k⟩;obtain⟨r,hr,hf⟩:=eD hf;refine⟨H0,eF,env,r,E,hr,λv H1 s1 R=> ?_⟩;have i3:=R.inn;split at hf
 .rename_i xs hd;cases hf;rw[hd] at i3;cases i3 with
  |tup hh rr=>exact⟨_,_,rfl,SqT.of hh,λp n=>k _ _ (s1.trans (aW n)) (cK n (Bt rr))⟩
 .cases hf
end
end DL
namespace Den
open DL PySem
noncomputable def l7:DS:=
 (ai (ifS (aC eqB (ixE (vE 0) (kE (.int 0))) (kE (.str "ever")))
  (retS (ixE (vE 0) (kE (.int 1))))
  aI)
 (ai (ifS (aC eqB (ixE (vE 0) (kE (.int 0))) (kE (.str "flat")))
  (retS (ixE (vE 0) (kE (.int 2))))
  aI)
 (ai (ifS (aC jX (vE 1) (kE .non))
  (retS (kE .non))
  aI)
 (retS (opE jR (opE cy (vE 1) (ixE (vE 0) (kE (.int 2)))) (ixE (vE 0) (kE (.int 3))))))))
noncomputable def iI:List D->Option D:=cC 2 2 l7
noncomputable def ny:DS:=
 (ai (av 2 (ixE (vE 0) (kE (.int 4))))
 (ai (ifS (aC eqB (ixE (vE 2) (kE (.int 0))) (kE (.str "asked")))
  (retS (kE .non))
  aI)
 (ai (av 3 (opE gP (vE 1) (opE gP (ixE (vE 2) (kE (.int 1))) (ixE (vE 2) (kE (.int 4))))))
 (ai (av 4 (opE jR (vE 3) (ixE (vE 2) (kE (.int 2)))))
 (ai (ifS (orT (AK (Fd leB ltB (kE (.int 0)) (vE 4) (ixE (vE 2) (kE (.int 3))))) (aC gtB (opE gP (vE 3) (opE cy (vE 4) (ixE (vE 2) (kE (.int 2))))) (opE aB (ixE (vE 2) (kE (.int 4))) (ixE (vE 2) (kE (.int 5))))))
  (retS (kE .non))
  aI)
 (retS (vE 4)))))))
noncomputable def gX:List D->Option D:=cC 5 2 ny
noncomputable def nz:DS:=
 (ai (av 2 (ixE (vE 0) (kE (.int 4))))
 (ai (ifS (aC eqB (ixE (vE 2) (kE (.int 0))) (kE (.str "asked")))
  (retS (bE (aC ltB (vE 1) (ixE (vE 2) (kE (.int 1))))))
  aI)
 (retS (bE (aC jX (aj gX (a4 (vE 0) (a4 (vE 1) a8))) (kE .non))))))
noncomputable def kq:List D->Option D:=cC 3 2 nz
noncomputable def gY:DS:=
 (ifS (fA (aC eqB (ixE (vE 4) (kE (.int 0))) (vE 1)) (aC leB (ixE (vE 4) (kE (.int 1))) (vE 2)))
  (av 3 (ixE (vE 4) (kE (.int 2))))
  aI)
noncomputable def ku:DS:=
 (ai (av 3 (kE .non))
 (ai (dP (some 0) (iA (vE 0)) (gN 4)
  gY)
 (retS (vE 3))))
noncomputable def gc:List D->Option D:=cC 5 3 ku
noncomputable def fq:DT:=
 (fA (aC gy (vE 1) (kE .non)) (aC leB (ixE (ixE (vE 2) (vE 5)) (kE (.int 0))) (opE gP (ixE (vE 7) (kE (.int 0))) (vE 1))))
noncomputable def gI:DS:=
 (ai (av 4 (opE gP (vE 4) (ixE (ixE (vE 2) (vE 5)) (kE (.int 1)))))
 (av 5 (opE aB (vE 5) (kE (.int 1)))))
noncomputable def cE:DS:=
 (ai (av 4 (opE aB (vE 4) (ixE (vE 7) (kE (.int 1)))))
 (ai (uw fq
  gI)
 (ifS (orT (aC eqB (opE aB (vE 6) (kE (.int 1))) (cz bA (a4 (vE 2) a8))) (aC gtB (ixE (ixE (vE 2) (opE aB (vE 6) (kE (.int 1)))) (kE (.int 0))) (ixE (vE 7) (kE (.int 0)))))
  (gC 3 (aQ (a4 (ixE (vE 7) (kE (.int 0))) (a4 (vE 4) a8))))
  aI)))
noncomputable def uT:DS:=
 (ai (av 2 (cz sortedS (a4 (vE 0) a8)))
 (ai (av 3 (dF a8))
 (ai (av 4 (kE (.int 0)))
 (ai (av 5 (kE (.int 0)))
 (ai (dP (some 2) (C7 (vE 2)) (gT [6,7])
  cE)
 (retS (vE 3)))))))
noncomputable def iZ:List D->Option D:=cC 8 2 uT
noncomputable def fS:DS:=
 (retS (cz anyS (a4 (jS none 1 [] (iA (ixE (vE 0) (kE (.int 2)))) (gN 0) fZ (bE (aC eqB (ixE (vE 0) (kE (.int 0))) (kE (.str "kilo"))))) a8)))
noncomputable def dH:List D->Option D:=cC 1 1 fS
noncomputable def j0:DS:=
 (ai (av 3 (ixE (vE 2) (kE (.int 0))))
 (ai (av 4 (ixE (vE 2) (kE (.int 1))))
 (ai (av 5 (ixE (vE 2) (kE (.int 2))))
 (ai (av 6 (ixE (ixE (vE 0) (kE (.int 3))) (vE 3)))
 (ai (av 7 (ixE (ixE (vE 0) (kE (.int 1))) (ixE (vE 6) (kE (.int 2)))))
 (ai (av 8 (dF a8))
 (ai (ifS (vN (aj kq (a4 (vE 6) (a4 (vE 4) a8))))
  (gC 8 (kE (.str "astray")))
  aI)
 (ai (ifS (aC gtB (vE 5) (ixE (ixE (vE 6) (kE (.int 3))) (kE (.int 3))))
  (gC 8 (kE (.str "most")))
  aI)
 (ai (ifS (orT (aC ltB (vE 5) (kE (.int 1))) (aC neB (opE pz (vE 5) (ixE (ixE (vE 7) (kE (.int 1))) (kE (.int 0)))) (kE (.int 0))))
  (gC 8 (kE (.str "part")))
  aI)
 (ai (ifS (fA (vN (aj dH (a4 (vE 7) a8))) (aC jX (aj gc (a4 (vE 1) (a4 (ixE (vE 6) (kE (.int 1))) (a4 (vE 4) a8)))) (kE .non)))
  (gC 8 (kE (.str "weight")))
  aI)
 (ai (ifS (aC ltB (vE 4) (opE aB (ixE (ixE (ixE (vE 0) (kE (.int 0))) (ixE (vE 6) (kE (.int 1)))) (kE (.int 1))) (ixE (vE 7) (kE (.int 3)))))
  (gC 8 (kE (.str "young")))
  aI)
 (retS (jS (some 8) 1 [3,4] (iA (vE 8)) (gN 0) fZ (aQ (a4 (vE 0) (a4 (vE 1) (a4 (vE 2) a8)))))))))))))))))
noncomputable def dW:List D->Option D:=cC 9 3 j0
noncomputable def bG:DM:=
 (NS (setM 4 (ixE (ixE (vE 0) (kE (.int 3))) (ixE (vE 3) (kE (.int 0)))))
 (NT (aQ (a4 (ixE (vE 4) (kE (.int 1))) (a4 (ixE (vE 4) (kE (.int 2))) a8))) (aQ (a4 (ixE (vE 3) (kE (.int 1))) (a4 (ixE (vE 3) (kE (.int 2))) a8)))))
noncomputable def fI:DS:=
 (Fj 2 (K6 3 (vE 1) bG))
noncomputable def cj:List D->Option D:=cC 5 2 fI
noncomputable def bW:DS:=
 (ai (av 11 (aj iI (a4 (vE 8) (a4 (aj gc (a4 (vE 1) (a4 (vE 6) (a4 (ixE (vE 10) (kE (.int 0))) a8)))) a8))))
 (ifS (fA (aC gy (vE 11) (kE .non)) (aC gtB (ixE (vE 10) (kE (.int 1))) (vE 11)))
  (gC 3 (aQ (a4 (kE (.str "cap")) (a4 (vE 6) (a4 (ixE (vE 4) (kE (.int 1))) (a4 (vE 7) (a4 (ixE (vE 10) (kE (.int 0))) (a4 (ixE (vE 10) (kE (.int 1))) (a4 (vE 11) a8)))))))))
  aI))
noncomputable def bX:DS:=
 (ai (av 9 (ifE (aC eqB (ixE (vE 8) (kE (.int 0))) (kE (.str "ever"))) (kE .non) (ixE (vE 8) (kE (.int 1)))))
 (dP none (iA (aj iZ (a4 (vE 5) (a4 (vE 9) a8)))) (gN 10)
  bW))
noncomputable def cO:DS:=
 (ai (av 6 (ixE (vE 4) (kE (.int 0))))
 (dP none (C7 (ixE (ixE (ixE (vE 0) (kE (.int 1))) (ixE (vE 4) (kE (.int 1)))) (kE (.int 2)))) (gT [7,8])
  bX))
noncomputable def jD:DS:=
 (ai (av 3 (dF a8))
 (ai (dP none (Fg bB (aj cj (a4 (vE 0) (a4 (vE 2) a8)))) (gT [4,5])
  cO)
 (retS (vE 3))))
noncomputable def fJ:List D->Option D:=cC 12 3 jD
noncomputable def cA:DS:=
 (ai (sr 1 (aQ (a4 (ixE (vE 2) (kE (.int 0))) (a4 (ixE (vE 2) (kE (.int 1))) a8))) (ixE (vE 2) (kE (.int 2))))
 (sr 1 (aQ (a4 (ixE (vE 2) (kE (.int 1))) (a4 (ixE (vE 2) (kE (.int 0))) a8))) (ixE (vE 2) (kE (.int 2)))))
noncomputable def fT:DS:=
 (ai (av 1 (nV))
 (ai (dP (some 0) (iA (vE 0)) (gN 2)
  cA)
 (retS (vE 1))))
noncomputable def dI:List D->Option D:=cC 3 1 fT
noncomputable def j3:DS:=
 (ai (ifS (aC neB (ixE (vE 1) (kE (.int 1))) (ixE (vE 2) (kE (.int 1))))
  (retS (kE (.int 0)))
  aI)
 (retS (Ir (vE 0) (aQ (a4 (ixE (vE 1) (kE (.int 2))) (a4 (ixE (vE 2) (kE (.int 2))) a8))) (kE (.int 0)))))
noncomputable def fX:List D->Option D:=cC 3 3 j3
noncomputable def bw:DS:=
 (ai (av 9 (opE gP (ixE (vE 8) (kE (.int 0))) (ixE (vE 7) (kE (.int 0)))))
 (ai (ifS (aC geB (vE 9) (vE 3))
  bkS
  aI)
 (ifS (aC ltB (vE 9) (aj fX (a4 (vE 2) (a4 (ixE (ixE (vE 0) (kE (.int 3))) (ixE (vE 7) (kE (.int 1)))) (a4 (ixE (ixE (vE 0) (kE (.int 3))) (ixE (vE 8) (kE (.int 1)))) a8)))))
  (gC 5 (aQ (a4 (kE (.str "gap")) (a4 (ixE (vE 7) (kE (.int 1))) (a4 (ixE (vE 7) (kE (.int 0))) (a4 (ixE (vE 8) (kE (.int 1))) (a4 (ixE (vE 8) (kE (.int 0))) a8)))))))
  aI)))
noncomputable def bY:DS:=
 (dP none (iA (slE (vE 4) (d9 (opE aB (vE 6) (kE (.int 1)))) noO)) (gN 8)
  bw)
noncomputable def jE:DS:=
 (ai (av 2 (aj dI (a4 (ixE (vE 0) (kE (.int 2))) a8)))
 (ai (av 3 (mmE pA (.int 0) (jS none 1 [] (iA (ixE (vE 0) (kE (.int 2)))) (gN 0) fZ (ixE (vE 0) (kE (.int 2))))))
 (ai (av 4 (cz sortedS (a4 (jS (some 1) 1 [] (iA (vE 1)) (gN 0) fZ (aQ (a4 (ixE (vE 0) (kE (.int 1))) (a4 (ixE (vE 0) (kE (.int 0))) a8)))) a8)))
 (ai (av 5 (dF a8))
 (ai (dP (some 4) (C7 (vE 4)) (gT [6,7])
  bY)
 (retS (vE 5)))))))
noncomputable def fK:List D->Option D:=cC 10 2 jE
noncomputable def bI:DS:=
 (ai (av 4 (aj gX (a4 (ixE (ixE (vE 0) (kE (.int 3))) (ixE (vE 3) (kE (.int 0)))) (a4 (ixE (vE 3) (kE (.int 1))) a8))))
 (ifS (aC gy (vE 4) (kE .non))
  (sr 2 (aQ (a4 (ixE (vE 3) (kE (.int 0))) (a4 (vE 4) a8))) (opE aB (Ir (vE 2) (aQ (a4 (ixE (vE 3) (kE (.int 0))) (a4 (vE 4) a8))) (kE (.int 0))) (kE (.int 1))))
  aI))
noncomputable def gZ:DS:=
 (ai (av 2 (nV))
 (ai (dP (some 1) (iA (vE 1)) (gN 3)
  bI)
 (retS (nX bB 2 2 [] (gT [0,1]) (aC gtB (vE 1) (kE (.int 1))) (aQ (a4 (kE (.str "twice")) (a4 (ixE (vE 0) (kE (.int 0))) (a4 (ixE (vE 0) (kE (.int 1))) a8))))))))
noncomputable def dz:List D->Option D:=cC 5 2 gZ
noncomputable def gf:DS:=
 (Nj 4 (aj dW (a4 (vE 0) (a4 (vE 2) (a4 (vE 5) a8)))))
noncomputable def qP:DS:=
 (ai (av 2 (ixE (vE 1) (kE (.int 0))))
 (ai (av 3 (ixE (vE 1) (kE (.int 1))))
 (ai (av 4 (opE aB (opE aB (aj fJ (a4 (vE 0) (a4 (vE 2) (a4 (vE 3) a8)))) (aj fK (a4 (vE 0) (a4 (vE 3) a8)))) (aj dz (a4 (vE 0) (a4 (vE 3) a8)))))
 (ai (dP (some 3) (iA (vE 3)) (gN 5)
  gf)
 (retS (cz fD (a4 (vE 4) a8)))))))
noncomputable def kz:List D->Option D:=cC 6 2 qP
noncomputable def mf:DS:=
 (ai (av 3 (kE (.int 0)))
 (ai (ifS (aC gtB (cz bA (a4 (vE 0) a8)) (kE (.int 0)))
  (av 3 (opE pz (ixE (vE 0) (opE pz (vE 1) (cz bA (a4 (vE 0) a8)))) (kE (.int 1000003))))
  aI)
 (retS (opE pz (opE jR (opE pz (opE cy (opE pz (opE cy (opE aB (vE 3) (kE (.int 1))) (opE aB (opE aB (opE cy (vE 1) (vE 1)) (vE 1)) (kE (.int 41)))) (kE (.int 999983))) (kE (.int 48271))) (kE (.int 2147483647))) (kE (.int 11))) (vE 2)))))
noncomputable def a5:List D->Option D:=cC 4 3 mf
noncomputable def dX:DS:=
 (ai (av 6 (opE aB (opE aB (vE 1) (kE (.int 1))) (opE cy (kE (.int 4)) (vE 5))))
 (ai (av 7 (opE cy (vE 3) (opE aB (kE (.int 1)) (aj a5 (a4 (vE 0) (a4 (vE 6) (a4 (kE (.int 30)) a8)))))))
 (ai (av 8 (aj a5 (a4 (vE 0) (a4 (opE aB (vE 6) (kE (.int 2))) (a4 (kE (.int 3)) a8)))))
 (ai (ifS (aC eqB (vE 8) (kE (.int 0)))
  (gC 4 (aQ (a4 (kE (.str "flat")) (a4 (vE 7) (a4 (opE cy (vE 2) (opE aB (kE (.int 1)) (aj a5 (a4 (vE 0) (a4 (opE aB (vE 6) (kE (.int 1))) (a4 (kE (.int 30)) a8)))))) a8)))))
  aI)
 (ai (ifS (aC eqB (vE 8) (kE (.int 1)))
  (ai (av 9 (opE cy (vE 2) (opE aB (kE (.int 1)) (aj a5 (a4 (vE 0) (a4 (opE aB (vE 6) (kE (.int 1))) (a4 (kE (.int 9)) a8)))))))
 (gC 4 (aQ (a4 (kE (.str "kilo")) (a4 (vE 7) (a4 (vE 9) (a4 (opE aB (kE (.int 1)) (aj a5 (a4 (vE 0) (a4 (opE aB (vE 6) (kE (.int 3))) (a4 (kE (.int 40)) a8))))) a8)))))))
  aI)
 (ifS (aC eqB (vE 8) (kE (.int 2)))
  (gC 4 (aQ (a4 (kE (.str "ever")) (a4 (opE cy (vE 2) (opE aB (kE (.int 2)) (aj a5 (a4 (vE 0) (a4 (opE aB (vE 6) (kE (.int 1))) (a4 (kE (.int 60)) a8)))))) a8))))
  aI))))))
noncomputable def mh:DS:=
 (ai (av 4 (dF a8))
 (ai (dP none (cI (ixE (dF (a4 (kE (.int 0)) (a4 (kE (.int 1)) (a4 (kE (.int 1)) (a4 (kE (.int 2)) (a4 (kE (.int 3)) (a4 (kE (.int 4)) a8))))))) (aj a5 (a4 (vE 0) (a4 (vE 1) (a4 (kE (.int 6)) a8)))))) (gN 5)
  dX)
 (retS (cz gQ (a4 (vE 4) a8)))))
noncomputable def fU:List D->Option D:=cC 10 4 mh
noncomputable def bZ:DS:=
 (ai (av 4 (opE aB (kE (.int 100)) (opE cy (kE (.int 30)) (vE 3))))
 (ai (av 5 (ixE (dF (a4 (kE (.int 1)) (a4 (kE (.int 2)) (a4 (kE (.int 5)) (a4 (kE (.int 12)) (a4 (opE nU (kE (.int 10)) (kE (.int 5))) a8)))))) (aj a5 (a4 (vE 0) (a4 (vE 4) (a4 (kE (.int 5)) a8))))))
 (ai (av 6 (ixE (dF (a4 (aQ (a4 (vE 5) a8)) (a4 (aQ (a4 (vE 5) (a4 (opE cy (kE (.int 2)) (vE 5)) a8))) (a4 (aQ (a4 (vE 5) (a4 (opE cy (kE (.int 3)) (vE 5)) (a4 (opE cy (kE (.int 7)) (vE 5)) a8)))) a8)))) (aj a5 (a4 (vE 0) (a4 (opE aB (vE 4) (kE (.int 1))) (a4 (kE (.int 3)) a8))))))
 (ai (av 7 (opE cy (ixE (dF (a4 (kE (.int 0)) (a4 (vE 1) a8))) (aj a5 (a4 (vE 0) (a4 (opE aB (vE 4) (kE (.int 2))) (a4 (kE (.int 2)) a8))))) (aj a5 (a4 (vE 0) (a4 (opE aB (vE 4) (kE (.int 3))) (a4 (kE (.int 20)) a8))))))
 (gC 2 (aQ (a4 (opE aB (kE (.str "stuff")) (ixE (kE (.str "abcdef")) (vE 3))) (a4 (vE 6) (a4 (aj fU (a4 (vE 0) (a4 (opE aB (vE 4) (kE (.int 5))) (a4 (vE 5) (a4 (vE 1) a8))))) (a4 (vE 7) a8))))))))))
noncomputable def jF:DS:=
 (ai (av 2 (dF a8))
 (ai (dP none (cI (ixE (dF (a4 (kE (.int 1)) (a4 (kE (.int 2)) (a4 (kE (.int 3)) (a4 (kE (.int 3)) (a4 (kE (.int 2)) (a4 (kE (.int 6)) a8))))))) (aj a5 (a4 (vE 0) (a4 (kE (.int 21)) (a4 (kE (.int 6)) a8)))))) (gN 3)
  bZ)
 (retS (cz gQ (a4 (vE 2) a8)))))
noncomputable def fL:List D->Option D:=cC 8 2 jF
noncomputable def dY:DS:=
 (ai (av 6 (opE aB (opE aB (kE (.int 3000)) (opE cy (kE (.int 18)) (vE 4))) (opE cy (kE (.int 3)) (vE 5))))
 (ifS (fA (aC ltB (cz bA (a4 (vE 3) a8)) (kE (.int 12))) (aC eqB (aj a5 (a4 (vE 0) (a4 (vE 6) (a4 (kE (.int 3)) a8)))) (kE (.int 0))))
  (ai (av 7 (aQ (a4 (vE 4) (a4 (vE 5) (a4 (opE cy (vE 2) (opE aB (kE (.int 1)) (aj a5 (a4 (vE 0) (a4 (opE aB (vE 6) (kE (.int 1))) (a4 (kE (.int 10)) a8)))))) a8)))))
 (NQ 3 (aj a5 (a4 (vE 0) (a4 (opE aB (vE 6) (kE (.int 2))) (a4 (opE aB (cz bA (a4 (vE 3) a8)) (kE (.int 1))) a8)))) (vE 7)))
  aI))
noncomputable def dZ:DS:=
 (dP none (C5 (vE 4) (vE 1)) (gN 5)
  dY)
noncomputable def mj:DS:=
 (ai (av 3 (dF a8))
 (ai (dP none (cI (vE 1)) (gN 4)
  dZ)
 (retS (cz gQ (a4 (vE 3) a8)))))
noncomputable def i4:List D->Option D:=cC 8 3 mj
noncomputable def jG:DS:=
 (ai (ifS (aC eqB (aj a5 (a4 (vE 0) (a4 (vE 1) (a4 (kE (.int 3)) a8)))) (kE (.int 0)))
  (retS (aQ (a4 (kE (.str "asked")) (a4 (opE cy (vE 2) (aj a5 (a4 (vE 0) (a4 (opE aB (vE 1) (kE (.int 1))) (a4 (kE (.int 20)) a8))))) a8))))
  aI)
 (ai (av 3 (opE cy (vE 2) (opE aB (kE (.int 1)) (aj a5 (a4 (vE 0) (a4 (opE aB (vE 1) (kE (.int 2))) (a4 (kE (.int 12)) a8)))))))
 (ai (av 4 (opE cy (vE 2) (aj a5 (a4 (vE 0) (a4 (opE aB (vE 1) (kE (.int 3))) (a4 (opE jR (vE 3) (vE 2)) a8))))))
 (ai (av 5 (opE cy (vE 2) (aj a5 (a4 (vE 0) (a4 (opE aB (vE 1) (kE (.int 4))) (a4 (opE jR (opE gP (vE 3) (vE 4)) (vE 2)) a8))))))
 (ai (av 6 (opE aB (vE 4) (opE cy (vE 2) (aj a5 (a4 (vE 0) (a4 (opE aB (vE 1) (kE (.int 5))) (a4 (kE (.int 10)) a8)))))))
 (retS (aQ (a4 (kE (.str "due")) (a4 (vE 6) (a4 (vE 3) (a4 (ixE (dF (a4 (kE (.int 1)) (a4 (kE (.int 2)) (a4 (kE (.int 4)) (a4 (kE (.int 6)) (a4 (kE (.int 60)) a8)))))) (aj a5 (a4 (vE 0) (a4 (opE aB (vE 1) (kE (.int 6))) (a4 (kE (.int 5)) a8))))) (a4 (vE 4) (a4 (vE 5) a8)))))))))))))
noncomputable def i5:List D->Option D:=cC 7 3 jG
noncomputable def dA:DS:=
 (gC 2 (aQ (a4 (opE aB (kE (.str "guest")) (ixE (kE (.str "abcdef")) (vE 3))) (a4 (opE cy (vE 1) (aj a5 (a4 (vE 0) (a4 (opE aB (kE (.int 30)) (vE 3)) (a4 (kE (.int 15)) a8))))) a8))))
noncomputable def cF:DS:=
 (ai (av 7 (opE aB (kE (.int 300)) (opE cy (kE (.int 20)) (vE 6))))
 (ai (av 8 (aj a5 (a4 (vE 0) (a4 (vE 7) (a4 (cz bA (a4 (vE 4) a8)) a8)))))
 (ai (av 9 (opE cy (ixE (ixE (ixE (vE 4) (vE 8)) (kE (.int 1))) (kE (.int 0))) (ixE (dF (a4 (kE (.int 4)) (a4 (kE (.int 15)) (a4 (kE (.int 2000)) a8)))) (aj a5 (a4 (vE 0) (a4 (opE aB (vE 7) (kE (.int 1))) (a4 (kE (.int 3)) a8)))))))
 (ai (av 10 (aQ (a4 (ixE (dF (a4 (kE (.str "down")) (a4 (kE (.str "up")) (a4 (kE (.str "near")) a8)))) (opE pz (vE 6) (kE (.int 3)))) (a4 (opE aB (kE (.int 1)) (aj a5 (a4 (vE 0) (a4 (opE aB (vE 7) (kE (.int 2))) (a4 (kE (.int 90)) a8))))) (a4 (aj a5 (a4 (vE 0) (a4 (opE aB (vE 7) (kE (.int 3))) (a4 (kE (.int 9)) a8)))) (a4 (vE 9) a8))))))
 (ai (av 11 (aj i5 (a4 (vE 0) (a4 (opE aB (vE 7) (kE (.int 4))) (a4 (vE 1) a8)))))
 (ai (av 12 (aQ a8))
 (ai (ifS (fA (aC eqB (ixE (vE 11) (kE (.int 0))) (kE (.str "due"))) (aC gtB (ixE (vE 11) (kE (.int 3))) (kE (.int 2))))
  (av 12 (aQ (a4 (aQ (a4 (kE (.int 1)) (a4 (kE (.int 1)) (a4 (kE (.int 2)) a8)))) (a4 (aQ (a4 (kE (.int 2)) (a4 (kE (.int 1)) (a4 (kE (.int 3)) a8)))) a8))))
  aI)
 (gC 5 (aQ (a4 (opE aB (kE (.str "order")) (ixE (kE (.str "abcdefghijkl")) (vE 6))) (a4 (aj a5 (a4 (vE 0) (a4 (opE aB (vE 7) (kE (.int 12))) (a4 (cz bA (a4 (vE 2) a8)) a8)))) (a4 (vE 8) (a4 (vE 10) (a4 (vE 11) (a4 (vE 12) a8)))))))))))))))
noncomputable def kA:DS:=
 (ai (av 1 (ixE (dF (a4 (kE (.int 1)) (a4 (kE (.int 1)) (a4 (kE (.int 1)) (a4 (kE (.int 1)) (a4 (kE (.int 1)) (a4 (opE nU (kE (.int 10)) (kE (.int 6))) a8))))))) (aj a5 (a4 (vE 0) (a4 (kE (.int 1)) (a4 (kE (.int 6)) a8))))))
 (ai (av 2 (dF a8))
 (ai (dP none (cI (ixE (dF (a4 (kE (.int 1)) (a4 (kE (.int 2)) (a4 (kE (.int 3)) (a4 (kE (.int 2)) (a4 (kE (.int 3)) (a4 (kE (.int 6)) a8))))))) (aj a5 (a4 (vE 0) (a4 (kE (.int 20)) (a4 (kE (.int 6)) a8)))))) (gN 3)
  dA)
 (ai (av 4 (aj fL (a4 (vE 0) (a4 (vE 1) a8))))
 (ai (av 5 (dF a8))
 (ai (dP none (cI (ixE (dF (a4 (kE (.int 1)) (a4 (kE (.int 2)) (a4 (kE (.int 3)) (a4 (kE (.int 4)) (a4 (kE (.int 4)) (a4 (kE (.int 12)) a8))))))) (aj a5 (a4 (vE 0) (a4 (kE (.int 22)) (a4 (kE (.int 6)) a8)))))) (gN 6)
  cF)
 (retS (aQ (a4 (cz gQ (a4 (vE 2) a8)) (a4 (vE 4) (a4 (aj i4 (a4 (vE 0) (a4 (cz bA (a4 (vE 4) a8)) (a4 (vE 1) a8)))) (a4 (cz gQ (a4 (vE 5) a8)) a8))))))))))))
noncomputable def ft:List D->Option D:=cC 13 1 kA
noncomputable def mq:DS:=
 (ai (av 4 (ixE (dF (a4 (kE (.int 1)) (a4 (kE (.int 1)) (a4 (kE (.int 1)) (a4 (kE (.int 1)) (a4 (kE (.int 1)) (a4 (opE nU (kE (.int 10)) (kE (.int 6))) a8))))))) (aj a5 (a4 (vE 0) (a4 (kE (.int 1)) (a4 (kE (.int 6)) a8))))))
 (ai (av 5 (ixE (ixE (ixE (vE 1) (kE (.int 3))) (vE 2)) (kE (.int 4))))
 (ai (av 6 (opE cy (vE 4) (aj a5 (a4 (vE 0) (a4 (vE 3) (a4 (kE (.int 70)) a8))))))
 (ai (ifS (fA (aC eqB (ixE (vE 5) (kE (.int 0))) (kE (.str "due"))) (aC gtB (aj a5 (a4 (vE 0) (a4 (opE aB (vE 3) (kE (.int 3000))) (a4 (kE (.int 4)) a8)))) (kE (.int 0))))
  (ai (av 7 (opE aB (ixE (vE 5) (kE (.int 1))) (opE cy (aj a5 (a4 (vE 0) (a4 (vE 3) (a4 (cz mV (a4 (ixE (vE 5) (kE (.int 3))) (a4 (kE (.int 6)) a8))) a8)))) (ixE (vE 5) (kE (.int 2))))))
 (ai (av 8 (dF (a4 (vE 7) (a4 (opE gP (vE 7) (ixE (vE 5) (kE (.int 4)))) (a4 (opE aB (vE 7) (ixE (vE 5) (kE (.int 5)))) (a4 (opE gP (opE gP (vE 7) (ixE (vE 5) (kE (.int 4)))) (kE (.int 1))) (a4 (opE aB (opE aB (vE 7) (ixE (vE 5) (kE (.int 5)))) (kE (.int 1))) (a4 (vE 7) a8))))))))
 (av 6 (cz t8 (a4 (kE (.int 0)) (a4 (ixE (vE 8) (aj a5 (a4 (vE 0) (a4 (opE aB (vE 3) (kE (.int 4000))) (a4 (kE (.int 6)) a8))))) a8))))))
  aI)
 (ai (ifS (aC eqB (aj a5 (a4 (vE 0) (a4 (opE aB (vE 3) (kE (.int 5000))) (a4 (kE (.int 12)) a8)))) (kE (.int 0)))
  (av 6 (opE aB (vE 6) (kE (.int 1))))
  aI)
 (ai (ifS (aC eqB (aj a5 (a4 (vE 0) (a4 (opE aB (vE 3) (kE (.int 5500))) (a4 (kE (.int 25)) a8)))) (kE (.int 0)))
  (av 6 (opE nU (kE (.int 10)) (kE (.int 9))))
  aI)
 (retS (vE 6))))))))
noncomputable def i7:List D->Option D:=cC 9 4 mq
noncomputable def jH:DS:=
 (ai (av 4 (ixE (ixE (ixE (ixE (vE 1) (kE (.int 1))) (ixE (ixE (ixE (vE 1) (kE (.int 3))) (vE 2)) (kE (.int 2)))) (kE (.int 1))) (kE (.int 0))))
 (ai (av 5 (opE cy (vE 4) (opE aB (kE (.int 1)) (aj a5 (a4 (vE 0) (a4 (opE aB (vE 3) (kE (.int 6000))) (a4 (kE (.int 8)) a8)))))))
 (ai (av 6 (dF (a4 (kE (.int 0)) (a4 (unE Dn (vE 5)) (a4 (opE aB (vE 5) (kE (.int 1))) (a4 (opE nU (kE (.int 10)) (kE (.int 9))) (a4 (opE cy (vE 4) (kE (.int 2001))) (a4 (unE Dn (kE (.int 1))) a8))))))))
 (ai (ifS (aC eqB (aj a5 (a4 (vE 0) (a4 (opE aB (vE 3) (kE (.int 7000))) (a4 (kE (.int 14)) a8)))) (kE (.int 0)))
  (retS (ixE (vE 6) (aj a5 (a4 (vE 0) (a4 (opE aB (vE 3) (kE (.int 8000))) (a4 (kE (.int 6)) a8))))))
  aI)
 (retS (vE 5))))))
noncomputable def dJ:List D->Option D:=cC 7 4 jH
noncomputable def bN:DS:=
 (ai (av 6 (aQ (a4 (aj a5 (a4 (vE 0) (a4 (opE aB (kE (.int 900)) (vE 5)) (a4 (cz bA (a4 (ixE (vE 1) (kE (.int 0))) a8)) a8)))) (a4 (opE cy (vE 3) (aj a5 (a4 (vE 0) (a4 (opE aB (kE (.int 920)) (vE 5)) (a4 (kE (.int 50)) a8))))) a8))))
 (ai (ifS (fA (aC ltB (vE 5) (cz bA (a4 (ixE (vE 1) (kE (.int 0))) a8))) (aC eqB (aj a5 (a4 (vE 0) (a4 (kE (.int 980)) (a4 (kE (.int 2)) a8)))) (kE (.int 0))))
  (av 6 (aQ (a4 (vE 5) (a4 (kE (.int 0)) a8))))
  aI)
 (sr 4 (vE 6) (ixE (dF (a4 (opE aB (kE (.int 1)) (aj a5 (a4 (vE 0) (a4 (opE aB (kE (.int 940)) (vE 5)) (a4 (kE (.int 200)) a8))))) (a4 (opE nU (kE (.int 10)) (kE (.int 6))) a8))) (opE jR (aj a5 (a4 (vE 0) (a4 (opE aB (kE (.int 960)) (vE 5)) (a4 (kE (.int 8)) a8)))) (kE (.int 7)))))))
noncomputable def j4:DS:=
 (ai (av 3 (ixE (dF (a4 (kE (.int 1)) (a4 (kE (.int 1)) (a4 (kE (.int 1)) (a4 (kE (.int 1)) (a4 (kE (.int 1)) (a4 (opE nU (kE (.int 10)) (kE (.int 6))) a8))))))) (aj a5 (a4 (vE 0) (a4 (kE (.int 1)) (a4 (kE (.int 6)) a8))))))
 (ai (av 4 (nV))
 (ai (dP none (cI (vE 2)) (gN 5)
  bN)
 (retS (cz gQ (a4 (cz sortedS (a4 (nX bB 4 2 [] (gT [0,1]) fZ (aQ (a4 (ixE (vE 0) (kE (.int 0))) (a4 (ixE (vE 0) (kE (.int 1))) (a4 (vE 1) a8))))) a8)) a8))))))
noncomputable def cP:List D->Option D:=cC 7 3 j4
noncomputable def bO:DS:=
 (ai (av 5 (aj a5 (a4 (vE 0) (a4 (opE aB (kE (.int 1000)) (vE 4)) (a4 (cz bA (a4 (ixE (vE 1) (kE (.int 3))) a8)) a8)))))
 (ai (av 6 (aQ (a4 (vE 5) (a4 (aj i7 (a4 (vE 0) (a4 (vE 1) (a4 (vE 5) (a4 (opE aB (kE (.int 1100)) (vE 4)) a8))))) a8))))
 (ai (sr 3 (vE 6) (aj dJ (a4 (vE 0) (a4 (vE 1) (a4 (vE 5) (a4 (opE aB (kE (.int 1100)) (vE 4)) a8))))))
 (ifS (aC eqB (aj a5 (a4 (vE 0) (a4 (opE aB (kE (.int 1050)) (vE 4)) (a4 (kE (.int 40)) a8)))) (kE (.int 0)))
  (sr 3 (vE 6) (opE aB (opE nU (kE (.int 10)) (kE (.int 40))) (vE 4)))
  aI))))
noncomputable def j5:DS:=
 (ai (av 3 (nV))
 (ai (dP none (cI (vE 2)) (gN 4)
  bO)
 (retS (cz gQ (a4 (cz sortedS (a4 (nX bB 3 2 [] (gT [0,1]) fZ (aQ (a4 (ixE (vE 0) (kE (.int 0))) (a4 (ixE (vE 0) (kE (.int 1))) (a4 (vE 1) a8))))) a8)) a8)))))
noncomputable def cQ:List D->Option D:=cC 7 3 j5
noncomputable def gx:DS:=
 (ifS (fA (aC eqB (ixE (vE 4) (kE (.int 0))) (vE 1)) (aC leB (ixE (vE 4) (kE (.int 1))) (vE 2)))
  (av 3 (ixE (vE 4) (kE (.int 2))))
  aI)
noncomputable def jI:DS:=
 (ai (av 3 (kE .non))
 (ai (dP (some 0) (iA (vE 0)) (gN 4)
  gx)
 (retS (vE 3))))
noncomputable def fM:List D->Option D:=cC 5 3 jI
noncomputable def jJ:DS:=
 (ifS (fA (aC leB (opE gP (opE aB (ixE (vE 0) (kE (.int 1))) (opE cy (vE 2) (ixE (vE 0) (kE (.int 2))))) (ixE (vE 0) (kE (.int 4)))) (vE 1)) (aC leB (vE 1) (opE aB (opE aB (ixE (vE 0) (kE (.int 1))) (opE cy (vE 2) (ixE (vE 0) (kE (.int 2))))) (ixE (vE 0) (kE (.int 5))))))
  (retS (vE 2))
  aI)
noncomputable def l9:DS:=
 (ai (dP none (cI (ixE (vE 0) (kE (.int 3)))) (gN 2)
  jJ)
 (retS (kE .non)))
noncomputable def oz:List D->Option D:=cC 3 2 l9
noncomputable def c9:DS:=
 (ai (av 6 (ixE (ixE (vE 0) (kE (.int 3))) (vE 3)))
 (ai (av 7 (ixE (ixE (vE 0) (kE (.int 1))) (ixE (vE 6) (kE (.int 2)))))
 (ai (ifS (orT (fA (aC eqB (ixE (ixE (vE 6) (kE (.int 4))) (kE (.int 0))) (kE (.str "asked"))) (aC ltB (vE 4) (ixE (ixE (vE 6) (kE (.int 4))) (kE (.int 1))))) (fA (aC eqB (ixE (ixE (vE 6) (kE (.int 4))) (kE (.int 0))) (kE (.str "due"))) (aC jX (aj oz (a4 (ixE (vE 6) (kE (.int 4))) (a4 (vE 4) a8))) (kE .non))))
  (gC 2 (aQ (a4 (kE (.str "astray")) (a4 (vE 3) (a4 (vE 4) a8)))))
  aI)
 (ai (ifS (aC gtB (vE 5) (ixE (ixE (vE 6) (kE (.int 3))) (kE (.int 3))))
  (gC 2 (aQ (a4 (kE (.str "most")) (a4 (vE 3) (a4 (vE 4) a8)))))
  aI)
 (ai (ifS (orT (aC ltB (vE 5) (kE (.int 1))) (aC neB (opE pz (vE 5) (ixE (ixE (vE 7) (kE (.int 1))) (kE (.int 0)))) (kE (.int 0))))
  (gC 2 (aQ (a4 (kE (.str "part")) (a4 (vE 3) (a4 (vE 4) a8)))))
  aI)
 (ai (av 8 (jS none 1 [] (iA (ixE (vE 7) (kE (.int 2)))) (gN 0) (aC eqB (ixE (vE 0) (kE (.int 0))) (kE (.str "kilo"))) (vE 0)))
 (ai (ifS (fA (aC gtB (cz bA (a4 (vE 8) a8)) (kE (.int 0))) (aC jX (aj fM (a4 (ixE (vE 1) (kE (.int 0))) (a4 (ixE (vE 6) (kE (.int 1))) (a4 (vE 4) a8)))) (kE .non)))
  (gC 2 (aQ (a4 (kE (.str "weight")) (a4 (vE 3) (a4 (vE 4) a8)))))
  aI)
 (ifS (aC ltB (vE 4) (opE aB (ixE (ixE (ixE (vE 0) (kE (.int 0))) (ixE (vE 6) (kE (.int 1)))) (kE (.int 1))) (ixE (vE 7) (kE (.int 3)))))
  (gC 2 (aQ (a4 (kE (.str "young")) (a4 (vE 3) (a4 (vE 4) a8)))))
  aI))))))))
noncomputable def jK:DS:=
 (ai (av 2 (dF a8))
 (ai (dP none (iA (ixE (vE 1) (kE (.int 1)))) (gT [3,4,5])
  c9)
 (retS (vE 2))))
noncomputable def fN:List D->Option D:=cC 9 2 jK
noncomputable def fu:DS:=
 (ai (ifS (aC eqB (ixE (vE 0) (kE (.int 0))) (kE (.str "flat")))
  (retS (ixE (vE 0) (kE (.int 2))))
  aI)
 (ai (ifS (aC eqB (ixE (vE 0) (kE (.int 0))) (kE (.str "ever")))
  (retS (ixE (vE 0) (kE (.int 1))))
  aI)
 (ai (ifS (aC jX (vE 1) (kE .non))
  (retS (kE .non))
  aI)
 (retS (opE jR (opE cy (vE 1) (ixE (vE 0) (kE (.int 2)))) (ixE (vE 0) (kE (.int 3))))))))
noncomputable def cG:List D->Option D:=cC 2 2 fu
noncomputable def dB:DS:=
 (ifS (fA (aC eqB (slE (ixE (ixE (vE 0) (kE (.int 3))) (vE 6)) (d9 (kE (.int 1))) (d9 (kE (.int 3)))) (slE (vE 2) (d9 (kE (.int 1))) (d9 (kE (.int 3))))) (fA (aC leB (vE 7) (vE 4)) (orT (aC eqB (ixE (vE 3) (kE (.int 0))) (kE (.str "ever"))) (aC gtB (vE 7) (opE gP (vE 4) (ixE (vE 3) (kE (.int 1))))))))
  (av 5 (opE aB (vE 5) (vE 8)))
  aI)
noncomputable def kB:DS:=
 (ai (av 5 (kE (.int 0)))
 (ai (dP none (iA (ixE (vE 1) (kE (.int 1)))) (gT [6,7,8])
  dB)
 (retS (vE 5))))
noncomputable def gh:List D->Option D:=cC 9 5 kB
noncomputable def f7:DS:=
 (ai (av 9 (aj cG (a4 (ixE (vE 7) (vE 8)) (a4 (aj fM (a4 (ixE (vE 1) (kE (.int 0))) (a4 (ixE (vE 6) (kE (.int 1))) (a4 (vE 4) a8)))) a8))))
 (ai (av 10 (aj gh (a4 (vE 0) (a4 (vE 1) (a4 (vE 6) (a4 (ixE (vE 7) (vE 8)) (a4 (vE 4) a8)))))))
 (ifS (fA (aC gy (vE 9) (kE .non)) (aC gtB (vE 10) (vE 9)))
  (sr 2 (aQ (a4 (kE (.str "cap")) (a4 (ixE (vE 6) (kE (.int 1))) (a4 (ixE (vE 6) (kE (.int 2))) (a4 (vE 8) (a4 (vE 4) (a4 (vE 10) (a4 (vE 9) a8)))))))) (kE (.bl true)))
  aI)))
noncomputable def f9:DS:=
 (ai (av 6 (ixE (ixE (vE 0) (kE (.int 3))) (vE 3)))
 (ai (av 7 (ixE (ixE (ixE (vE 0) (kE (.int 1))) (ixE (vE 6) (kE (.int 2)))) (kE (.int 2))))
 (dP none (cI (cz bA (a4 (vE 7) a8))) (gN 8)
  f7)))
noncomputable def mw:DS:=
 (ai (av 2 (nV))
 (ai (dP none (iA (ixE (vE 1) (kE (.int 1)))) (gT [3,4,5])
  f9)
 (retS (cz C8 (a4 (vE 2) a8)))))
noncomputable def jL:List D->Option D:=cC 11 2 mw
noncomputable def fb:DS:=
 (ifS (fA (aC eqB (ixE (vE 3) (kE (.int 1))) (ixE (vE 7) (kE (.int 1)))) (aC eqB (cz sortedS (a4 (dF (a4 (ixE (vE 3) (kE (.int 2))) (a4 (ixE (vE 7) (kE (.int 2))) a8))) a8)) (dF (a4 (ixE (vE 8) (kE (.int 0))) (a4 (ixE (vE 8) (kE (.int 1))) a8)))))
  (ifS (aC ltB (opE gP (ixE (ixE (vE 2) (vE 5)) (kE (.int 0))) (ixE (ixE (vE 2) (vE 6)) (kE (.int 0)))) (ixE (vE 8) (kE (.int 2))))
  (gC 4 (aQ (a4 (kE (.str "gap")) (a4 (ixE (ixE (vE 2) (vE 6)) (kE (.int 1))) (a4 (ixE (ixE (vE 2) (vE 6)) (kE (.int 0))) (a4 (ixE (ixE (vE 2) (vE 5)) (kE (.int 1))) (a4 (ixE (ixE (vE 2) (vE 5)) (kE (.int 0))) a8)))))))
  aI)
  aI)
noncomputable def cR:DS:=
 (ai (av 3 (ixE (ixE (vE 0) (kE (.int 3))) (ixE (ixE (vE 2) (vE 6)) (kE (.int 1)))))
 (ai (av 7 (ixE (ixE (vE 0) (kE (.int 3))) (ixE (ixE (vE 2) (vE 5)) (kE (.int 1)))))
 (dP none (iA (ixE (vE 0) (kE (.int 2)))) (gN 8)
  fb)))
noncomputable def cS:DS:=
 (dP none (cI (vE 5)) (gN 6)
  cR)
noncomputable def mz:DS:=
 (ai (av 2 (cz sortedS (a4 (jS none 1 [] (iA (ixE (vE 1) (kE (.int 1)))) (gN 0) fZ (aQ (a4 (ixE (vE 0) (kE (.int 1))) (a4 (ixE (vE 0) (kE (.int 0))) a8)))) a8)))
 (ai (av 4 (dF a8))
 (ai (dP none (cI (cz bA (a4 (vE 2) a8))) (gN 5)
  cS)
 (retS (vE 4)))))
noncomputable def i8:List D->Option D:=cC 9 2 mz
noncomputable def bP:DS:=
 (ai (av 7 (opE gP (opE aB (ixE (vE 4) (kE (.int 1))) (opE cy (vE 6) (ixE (vE 4) (kE (.int 2))))) (ixE (vE 4) (kE (.int 4)))))
 (ai (av 8 (opE aB (opE aB (ixE (vE 4) (kE (.int 1))) (opE cy (vE 6) (ixE (vE 4) (kE (.int 2))))) (ixE (vE 4) (kE (.int 5)))))
 (ifS (aC gtB (cz bA (a4 (jS (some 5) 1 [7,8] (iA (vE 5)) (gN 0) (fA (aC leB (vE 1) (vE 0)) (aC leB (vE 0) (vE 2))) (vE 0)) a8)) (kE (.int 1)))
  (gC 2 (aQ (a4 (kE (.str "twice")) (a4 (vE 3) (a4 (vE 6) a8)))))
  aI)))
noncomputable def b8:DS:=
 (ai (av 4 (ixE (ixE (ixE (vE 0) (kE (.int 3))) (vE 3)) (kE (.int 4))))
 (ifS (aC eqB (ixE (vE 4) (kE (.int 0))) (kE (.str "due")))
  (ai (av 5 (jS none 1 [3] (iA (ixE (vE 1) (kE (.int 1)))) (gN 0) (aC eqB (ixE (vE 0) (kE (.int 0))) (vE 1)) (ixE (vE 0) (kE (.int 1)))))
 (dP none (cI (ixE (vE 4) (kE (.int 3)))) (gN 6)
  bP))
  aI))
noncomputable def j6:DS:=
 (ai (av 2 (dF a8))
 (ai (dP none (cI (cz bA (a4 (ixE (vE 0) (kE (.int 3))) a8))) (gN 3)
  b8)
 (retS (vE 2))))
noncomputable def fc:List D->Option D:=cC 9 2 j6
noncomputable def oA:DS:=
 (ai (av 2 (opE aB (opE aB (aj fN (a4 (vE 0) (a4 (vE 1) a8))) (aj jL (a4 (vE 0) (a4 (vE 1) a8)))) (aj i8 (a4 (vE 0) (a4 (vE 1) a8)))))
 (retS (cz fD (a4 (opE aB (vE 2) (aj fc (a4 (vE 0) (a4 (vE 1) a8)))) a8))))
noncomputable def jn:List D->Option D:=cC 3 2 oA
noncomputable def dC:DS:=
 (ai (av 6 (aQ (a4 (vE 3) (a4 (opE iE (ixE (vE 4) (kE (.int 1))) (aQ (a4 (vE 5) a8))) a8))))
 (ifS (aC eqB (aj jn (a4 (vE 1) (a4 (vE 6) a8))) (dF a8))
  (av 4 (vE 6))
  aI))
noncomputable def kC:DS:=
 (ai (av 3 (aj cP (a4 (vE 0) (a4 (vE 1) (a4 (aj a5 (a4 (vE 0) (a4 (kE (.int 11)) (a4 (kE (.int 9)) a8)))) a8)))))
 (ai (av 4 (aQ (a4 (vE 3) (a4 (aQ a8) a8))))
 (ai (dP none (iA (aj cQ (a4 (vE 0) (a4 (vE 1) (a4 (vE 2) a8))))) (gN 5)
  dC)
 (retS (vE 4)))))
noncomputable def gk:List D->Option D:=cC 7 3 kC
noncomputable def mC:DS:=
 (ai (av 2 (aj kz (a4 (vE 0) (a4 (vE 1) a8))))
 (retS (bE (fA (Nh "list" (vE 2)) (aC eqB (vE 2) (dF a8))))))
noncomputable def bJ:List D->Option D:=cC 3 2 mC
noncomputable def jo:DS:=
 (ai (ifS (orT (AK (vN (aj bJ (a4 (vE 1) (a4 (aQ (a4 (ixE (vE 2) (kE (.int 0))) (a4 (opE iE (vS (vE 3) noO (d9 (vE 4))) (vS (vE 3) (d9 (opE iE (vE 4) (kE (.int 1)))) noO)) a8))) a8))))) (AK (vN (aj bJ (a4 (vE 1) (a4 (aQ (a4 (ixE (vE 2) (kE (.int 0))) (a4 (vS (vE 3) (d9 (vE 4)) noO) a8))) a8))))))
  (retS (kE (.bl false)))
  aI)
 (ai (av 5 (ixE (ixE (ixE (ixE (vE 1) (kE (.int 1))) (ixE (ixE (ixE (vE 1) (kE (.int 3))) (ixE (ixE (vE 3) (vE 4)) (kE (.int 0)))) (kE (.int 2)))) (kE (.int 1))) (kE (.int 0))))
 (ai (av 6 (opE cy (vE 5) (opE iE (kE (.int 1)) (aj a5 (a4 (vE 0) (a4 (opE iE (kE (.int 60)) (vE 4)) (a4 (opE jR (ixE (ixE (vE 3) (vE 4)) (kE (.int 2))) (vE 5)) a8)))))))
 (ifS (AK (vN (aj bJ (a4 (vE 1) (a4 (aQ (a4 (ixE (vE 2) (kE (.int 0))) (a4 (opE iE (opE iE (vS (vE 3) noO (d9 (vE 4))) (aQ (a4 (aQ (a4 (ixE (ixE (vE 3) (vE 4)) (kE (.int 0))) (a4 (ixE (ixE (vE 3) (vE 4)) (kE (.int 1))) (a4 (vE 6) a8)))) a8))) (vS (vE 3) (d9 (opE iE (vE 4) (kE (.int 1)))) noO)) a8))) a8)))))
  (retS (kE (.bl false)))
  aI))))
noncomputable def Gx:DS:=
 (ai (av 1 (aj ft (a4 (vE 0) a8)))
 (ai (av 2 (aj gk (a4 (vE 0) (a4 (vE 1) (a4 (opE iE (cz mV (a4 (cz bA (a4 (vE 0) a8)) (a4 (kE (.int 12)) a8))) (aj a5 (a4 (vE 0) (a4 (kE (.int 12)) (a4 (kE (.int 4)) a8))))) a8)))))
 (ai (av 3 (ixE (vE 2) (kE (.int 1))))
 (ai (ifS (orT (AK (vN (aj bJ (a4 (vE 1) (a4 (vE 2) a8))))) (AK (vN (aj bJ (a4 (vE 1) (a4 (aQ (a4 (ixE (vE 2) (kE (.int 0))) (a4 (L9 (vE 3)) a8))) a8))))))
  (retS (kE (.bl false)))
  aI)
 (ai (dP none (cI (cz bA (a4 (vE 3) a8))) (gN 4)
  jo)
 (retS (kE (.bl true))))))))
noncomputable def qQ:List D->Option D:=cC 7 1 Gx
end Den
namespace Maths
open DL Den PySem
abbrev Os:=Option Slot
noncomputable def cell(ns:List Int)(k:Int):Int:=if ns.length=0 then 0 else ns[(k%ns.length).toNat]?.getD 0%1000003
noncomputable def draw(ns:List Int)(k m:Int):Int:=(cell ns k+1)*(k*k+k+41)%999983*48271%2147483647/11%m
theorem Jk(ns:List Int)(k:Int):0<=cell ns k/\cell ns k<1000003:=by
 unfold cell;split
 .lia
 .exact⟨Int.emod_nonneg _ (by lia),GdQ _ (by lia)⟩
theorem aJ(ns:List Int)(k m:Int)(hm:0<m):0<=draw ns k m/\draw ns k m<m:=⟨Int.emod_nonneg _ (by lia),GdQ _ hm⟩
theorem Jl{ns:List Int}{k:Int}(h:0<ns.length):atD ns (k%ns.length)=some (ns[(k%ns.length).toNat]?.getD 0):=by
 unfold atD;have h1:0<=k%(ns.length:Int):=Int.emod_nonneg _ (by lia);have h2:k%(ns.length:Int)<ns.length:=GdQ _ (by lia);rw[Gaf h1];have h3:(k%(ns.length:Int)).toNat<ns.length:=by lia
 simp[h3]
theorem bx{i j:Int}(h: -18446744073709551616<i)(h2:i<18446744073709551616):bC i j=true:=by
 unfold bC;rw[GaX];exact .inl (Gaz (by lia))
theorem jM{i j:Int}(h: -18446744073709551616<j)(h2:j<18446744073709551616):bC i j=true:=by
 unfold bC;rw[GaX];exact .inr (Gaz (by lia))
theorem aF{ns:List Int}{k m:Int}(hk:0<=k)(xW:k<1000000)(hm:0<m):a5 [.scr ns,.int k,.int m]=some (.int (draw ns k m)):=by
 have c:=Jk ns k;have e1:bC k k=true:=bx (by lia) (by lia);have e2:∀j,bC (cell ns k+1) j=true:=λj=>bx (by lia) (by lia);have e3:∀i,bC i 48271=true:=λi=>jM (by lia) (by lia);unfold a5 mf;by_cases h:0<ns.length
 .have hc:cell ns k=ns[(k%ns.length).toNat]?.getD 0%1000003:=by unfold cell;rw[Gag (by lia)]
  have h' :(0:Int)<ns.length:=by lia
  simp[h,h',Jl h,e1,e3,hm,<-hc];simp[e2,e3,hm,draw]
 .have hc:cell ns k=0:=by unfold cell;rw[Gaf (by lia)]
  have h' :¬(0:Int)<ns.length:=by lia
  simp[h,h',e1,e3,hm];have:=e2 (k*k+k+41);rw[hc] at this;simp at this;simp[this,e3,hm,draw,hc]
theorem tU{g:DG}{body:DS}(mk:Os->DL.Env)(r:D->Option D)(hg:∀d x,g d (mk x)=some (mk (some (.sh d)))):∀(ds:List D) (x:Os),
  (∀d∈ds,body (mk (some (.sh d)))=some (match r d with|some v=> .ret v|none=> .nx (mk (some (.sh d)))))->∃y,forL g body ds (mk x)=some (match ds.findSome? r with|some v=> .ret v|none=> .nx (mk y))
 |[],x,_=> ⟨x,rfl⟩
 |d::ds,x,h=>by
  have h1:=h d Gak;cases hr:r d with
  |some v=>
   rw[hr] at h1;exact⟨x,by simp[forL,hg,h1,List.findSome?_cons,hr]⟩
  |none=>
   rw[hr] at h1;obtain⟨y,hy⟩:=tU mk r hg ds (some (.sh d)) λd' hd=>h d' (Gae _ hd);exact⟨y,by simp[forL,hg,h1,List.findSome?_cons,hr,hy]⟩
theorem aX{i:Int}(h1: -4611686018427387904<=i)(h2:i<4611686018427387904):aZ i=true:=by
 unfold aZ;rw[Gay];exact⟨Gaz h1,Gaz h2⟩
theorem cB{g:DG}{body:DS}(I:Nat->DL.Env->Prop):∀(ds:List D) (k:Nat) (env:DL.Env),I k env->(∀(i:Nat) d e,ds[i]? =some d->I (k+i) e->∃e1 e2,g d e=some e1/\body e1=some (.nx e2)/\I (k+i+1) e2)->∃e,forL g body ds env=some (.nx e)/\I (k+ds.length) e
 |[],k,env,h,_=> ⟨env,rfl,h⟩
 |d::ds,k,env,h,st=>by
  obtain⟨e1,e2,h1,h2,h3⟩:=st 0 d env rfl h;obtain⟨e,h4,h5⟩:=cB I ds (k+1) e2 h3 λi d' e' hd hI=>by
   have:=st (i+1) d' e' (by simpa using hd) (by rw[show k+(i+1)=k+1+i by lia];exact hI);rw[show k+(i+1)+1=k+1+i+1 by lia] at this;exact this
  refine⟨e,by simp[forL,h1,h2,h4], ?_⟩;rw[show k+(d::ds).length=k+1+ds.length by simp;lia];exact h5
theorem aY{lo:Int}{n i:Nat}{d:D}(h:(aE lo n)[i]? =some d):i<n/\d= .int (lo+i):=by
 unfold aE at h;rw[Gah] at h;by_cases hi:i<n
 .rw[List.getElem?_range hi] at h;cases h;exact⟨hi,rfl⟩
 .rw[Gbt (by simp;lia)] at h;cases h
theorem cn{lo:Int}{n:Nat}:(aE lo n).length=n:=by simp[aE]
theorem gJ{α:Type}{g:DG}{t:DT}{f:DE}(zf:α->D)(C:DL.Env->Prop)(p:α->Bool)(r:α->D):∀(xs:List α) (e:DL.Env),C e->
  (∀x∈xs,∀e,C e->∃e',g (zf x) e=some e' /\C e' /\t e' =some (p x)/\(p x=true->∃k,f e' =some ⟨k,r x⟩/\RV.free ⟨k,r x⟩=true))->br g t f (xs.map zf) e=some ((xs.filter p).map r)
 |[],e,_,_=>rfl
 |d::ds,e,h,st=>by
  obtain⟨e',h1,h2,h3,h4⟩:=st d Gak e h;have ih:=gJ zf C p r ds e' h2 λd' hd=>st d' (Gae _ hd);cases q:p d with
  |false=>simp[br,h1,h3,q,ih]
  |true=>
   obtain⟨k,h5,h6⟩:=h4 q;simp[br,h1,h3,q,h5,h6,ih]
theorem gK{α:Type}{g:DG}{f:DE}(zf:α->D)(C:DL.Env->Prop)(r:α->D)(xs:List α)(e:DL.Env)(h:C e)
  (st:∀x∈xs,∀e,C e->∃e',g (zf x) e=some e' /\C e' /\∃k,f e' =some ⟨k,r x⟩/\RV.free ⟨k,r x⟩=true):br g fZ f (xs.map zf) e=some (xs.map r):=by
 have:=gJ (g:=g) (t:=fZ) (f:=f) zf C (λ_=>true) r xs e h (λx hx e he=>by
  obtain⟨e',h1,h2,h3⟩:=st x hx e he;exact⟨e',h1,h2,rfl,λ_=>h3⟩)
 rw[List.filter_eq_self.mpr λ_ _=>rfl] at this;exact this
theorem Ea(bs:List Bool):uu (bs.map D.bl)=some bs:=by
 induction bs with
 |nil=>rfl
 |cons b bs ih=>simp[ih]
theorem Eb(bs:List Int):C4 (bs.map D.int)=some bs:=by
 induction bs with
 |nil=>rfl
 |cons b bs ih=>simp[ih]
@[simp] theorem Ol(bs:List Bool):anyS [.lst (bs.map D.bl)]=some ⟨.c,.bl (bs.any id)⟩:=by
 simp[anyS,one,ka,Ea]
theorem Bu(n:Nat)(hs:List Int):(hs.map D.int).all (a9 n)=true:=by
 induction hs with
 |nil=>rfl
 |cons b bs ih=>simp[ih]
theorem qR(hs:List Int):aq (hs.map D.int)=true:=by
 induction hs with
 |nil=>rfl
 |cons b bs ih=>simp[ih]
theorem a7{f g:DS}{env e:DL.Env}(h:f env=some (.nx e)):ai f g env=g e:=by simp[ai,h]
theorem uU{f g:DS}{env:DL.Env}{d:D}(h:f env=some (.ret d)):ai f g env=some (.ret d):=by simp[ai,h]
theorem aH{n np:Nat}{body:DS}{ds:List D}{d:D}(hl:ds.length=np)(h:body (aM n ds)=some (.ret d)):cC n np body ds=some d:=by
 unfold cC;rw[Gaf hl,h];rfl
theorem Jm{t:DT}{f g:DS}{env:DL.Env}(h:t env=some true):ifS t f g env=f env:=by simp[ifS,h]
theorem LM{t:DT}{f g:DS}{env:DL.Env}(h:t env=some false):ifS t f g env=g env:=by simp[ifS,h]
inductive Cap where
 |flat (h t:Int)
 |kilo (h t p:Int)
 |ever (t:Int)
noncomputable def aK:Cap->D
 | .flat h t=> .tup [.str "flat",.int h,.int t]
 | .kilo h t p=> .tup [.str "kilo",.int h,.int t,.int p]
 | .ever t=> .tup [.str "ever",.int t]
def lH:Cap->Prop
 | .flat h t=>1<=h/\1<=t/\t<=3100000
 | .kilo h t p=>1<=h/\1<=t/\t<=3100000/\1<=p/\p<=40
 | .ever t=>1<=t/\t<=6200000
theorem wI(c:Cap):(aK c).imm=true:=by cases c<;>simp[aK]
theorem qS(cs:List Cap):aq (cs.map aK)=true:=by
 induction cs with
 |nil=>rfl
 |cons c cs ih=>
  have:=wI c;simp[this] at ih⊢;exact ih
theorem oB{a b A B:Int}(h0:0<=a)(h1:a<=A)(h2:0<=b)(h3:b<=B):a*b<=A*B:=
 Int.le_trans (Int.mul_le_mul_of_nonneg_right h1 h2) (GcK h3 (by lia))
theorem fm{a b:Int}(h0:1<=a)(h1:1<=b):1<=a*b:=by
 have:=Int.mul_le_mul h0 h1 (by lia) (by lia);lia
theorem Ec{ns:List Int}{k part eC c:Int}{cs:List Cap}{x6 x7 x8 x9:Os}(hk:0<=k)(xW:k<10000)(hp:1<=part)(xv:part<=100000)(hs:1<=eC)(eY:eC<=1000000)(hc:0<=c)(zq:c<=10)(hl:cs.length<=100):
  ∃cap y6 y7 y8 y9,lH cap/\dX [some (.sh (.scr ns)),some (.sh (.int k)),some (.sh (.int part)),some (.sh (.int eC)),some (.own (.lst (cs.map aK))),some (.sh (.int c)),x6,x7,x8,x9]=
   some (.nx [some (.sh (.scr ns)),some (.sh (.int k)),some (.sh (.int part)),some (.sh (.int eC)),some (.own (.lst ((cs++[cap]).map aK))),some (.sh (.int c)),y6,y7,y8,y9]):=by
 have m4:bC 4 c=true:=bx (by lia) (by lia);generalize yL:k+1+4*c=t;have ht:0<=t:=by lia
 have hV:t<20000:=by lia
 have d0:=aF (ns:=ns) (k:=t) (m:=30) (by lia) (by lia) (by lia);have d2:=aF (ns:=ns) (k:=t+2) (m:=3) (by lia) (by lia) (by lia);have d1:=aF (ns:=ns) (k:=t+1) (m:=30) (by lia) (by lia) (by lia);have SG:=aF (ns:=ns) (k:=t+1) (m:=9) (by lia) (by lia) (by lia);have SF:=aF (ns:=ns) (k:=t+1) (m:=60) (by lia) (by lia) (by lia);have d3:=aF (ns:=ns) (k:=t+3) (m:=40) (by lia) (by lia) (by lia);have l0:=aJ ns t 30 (by lia);have l2:=aJ ns (t+2) 3 (by lia);have l1:=aJ ns (t+1) 30 (by lia);have l1b:=aJ ns (t+1) 9 (by lia);have l1c:=aJ ns (t+1) 60 (by lia);have l3:=aJ ns (t+3) 40 (by lia);have ms:∀j,bC eC j=true:=λj=>bx (by lia) (by lia);have mp:∀j,bC part j=true:=λj=>bx (by lia) (by lia);generalize draw ns t 30=q0 at*;generalize draw ns (t+2) 3=q2 at*;generalize draw ns (t+1) 30=q1 at*;generalize draw ns (t+1) 9=yP at*;generalize draw ns (t+1) 60=q1c at*;generalize draw ns (t+3) 40=q3 at*;have hz:(cs.map aK).length<16777216:=by rw[Gac];lia
 have ih:=fm (a:=eC) (b:=1+q0) hs (by lia);have e1:∀cap,(cs++[cap]).map aK=cs.map aK++[aK cap]:=λcap=>by simp
 generalize cs.map aK=C at*;have q:q2=0\/q2=1\/q2=2:=by lia
 unfold dX;rcases q with rfl|rfl|rfl
 .refine⟨.flat (eC*(1+q0)) (part*(1+q1)),some (.sh (.int t)),some (.sh (.int (eC*(1+q0)))),some (.sh (.int 0)),x9,⟨ih,fm hp (by lia), ?_⟩, ?_⟩
  .have:=oB (a:=part) (b:=1+q1) (A:=100000) (B:=30) (by lia) xv (by lia) (by lia);lia
  .rw[e1];simp[m4,yL,d0,d2,d1,ms,mp,a6,hz,aK]
 .refine⟨.kilo (eC*(1+q0)) (part*(1+yP)) (1+q3),some (.sh (.int t)),some (.sh (.int (eC*(1+q0)))),some (.sh (.int 1)),some (.sh (.int (part*(1+yP)))),⟨ih,fm hp (by lia), ?_,by lia,by lia⟩, ?_⟩
  .have:=oB (a:=part) (b:=1+yP) (A:=100000) (B:=9) (by lia) xv (by lia) (by lia);lia
  .rw[e1];simp[m4,yL,d0,d2,SG,d3,ms,mp,a6,hz,aK]
 .refine⟨.ever (part*(2+q1c)),some (.sh (.int t)),some (.sh (.int (eC*(1+q0)))),some (.sh (.int 2)),x9,⟨fm hp (by lia), ?_⟩, ?_⟩
  .have:=oB (a:=part) (b:=2+q1c) (A:=100000) (B:=61) (by lia) xv (by lia) (by lia);lia
  .rw[e1];simp[m4,yL,d0,d2,SF,ms,mp,a6,hz,aK]
theorem at6{a b c d e f:Int}{q:Int}(h:0<=q)(h2:q<6):∃v,(v=a\/v=b\/v=c\/v=d\/v=e\/v=f)/\atD [D.int a,.int b,.int c,.int d,.int e,.int f] q=some (.int v):=by
 have:q=0\/q=1\/q=2\/q=3\/q=4\/q=5:=by lia
 rcases this with rfl|rfl|rfl|rfl|rfl|rfl
 .exact⟨a,.inl rfl,rfl⟩
 .exact⟨b,.inr (.inl rfl),rfl⟩
 .exact⟨c,.inr (.inr (.inl rfl)),rfl⟩
 .exact⟨d,.inr (.inr (.inr (.inl rfl))),rfl⟩
 .exact⟨e,.inr (.inr (.inr (.inr (.inl rfl)))),rfl⟩
 .exact⟨f,.inr (.inr (.inr (.inr (.inr rfl)))),rfl⟩
theorem Gy{ns:List Int}{k part eC q n:Int}{C:List D}{y5 y6 y7 y8 y9:Os}(d:a5 [.scr ns,.int k,.int 6]=some (.int q))(ea:atD [D.int 0,.int 1,.int 1,.int 2,.int 3,.int 4] q=some (.int n))(sm:aZ n=true)
  (h1:forL (gN 5) dX (aE 0 n.toNat) [some (.sh (.scr ns)),some (.sh (.int k)),some (.sh (.int part)),some (.sh (.int eC)),some (.own (.lst [])),none,none,none,none,none]=some (.nx [some (.sh (.scr ns)),some (.sh (.int k)),some (.sh (.int part)),some (.sh (.int eC)),some (.own (.lst C)),y5,y6,y7,y8,y9]))(im:aq C=true):
  fU [.scr ns,.int k,.int part,.int eC]=some (.tup C):=by
 refine aH rfl ?_;unfold mh;refine(a7 (by simp[aM,a6];rfl)).trans ?_;refine(a7 (by simp[-forL,d,ea,sm,h1,a6];rfl)).trans ?_;simp[im]
theorem LN{ns:List Int}{k part eC:Int}(hk:0<=k)(xW:k<10000)(hp:1<=part)(xv:part<=100000)(hs:1<=eC)(eY:eC<=1000000):∃cs:List Cap,cs.length<=4/\(∀c∈cs,lH c)/\fU [.scr ns,.int k,.int part,.int eC]=some (.tup (cs.map aK)):=by
 have d:=aF (ns:=ns) (k:=k) (m:=6) (by lia) (by lia) (by lia);have l:=aJ ns k 6 (by lia);generalize draw ns k 6=q at*;obtain⟨n,hn,ea⟩:=at6 (a:=0) (b:=1) (c:=1) (d:=2) (e:=3) (f:=4) l.1 l.2;obtain⟨e,h1,cs,y5,y6,y7,y8,y9,h2,h3,rfl⟩:=cB (g:=gN 5) (body:=dX) (λm env=>∃(cs:List Cap) (y5 y6 y7 y8 y9:Os),cs.length=m/\(∀c∈cs,lH c)/\env=[some (.sh (.scr ns)),some (.sh (.int k)),some (.sh (.int part)),some (.sh (.int eC)),some (.own (.lst (cs.map aK))),y5,y6,y7,y8,y9]) (aE 0 n.toNat) 0
  [some (.sh (.scr ns)),some (.sh (.int k)),some (.sh (.int part)),some (.sh (.int eC)),some (.own (.lst [])),none,none,none,none,none] ⟨[],none,none,none,none,none,rfl,by simp,rfl⟩ (by
   rintro i d e hd ⟨cs,y5,y6,y7,y8,y9,h2,h3,rfl⟩;obtain⟨hi,rfl⟩:=aY hd;obtain⟨cap,z6,z7,z8,z9,hc,h⟩:=Ec (ns:=ns) (k:=k) (part:=part) (eC:=eC) (c:=0+(i:Int)) (cs:=cs) (x6:=y6) (x7:=y7) (x8:=y8) (x9:=y9) hk xW hp xv hs eY (by lia) (by lia) (by lia);refine⟨_,_,rfl,h,cs++[cap],some (.sh (.int (0+(i:Int)))),z6,z7,z8,z9,by simp[h2],λx hx=> ?_,rfl⟩;rcases GaE.mp hx with hx|hx
   .exact h3 x hx
   .simp at hx;rw[hx];exact hc)
 rw[cn] at h2;exact⟨cs,by lia,h3,Gy d ea (aX (by lia) (by lia)) h1 (qS cs)⟩
theorem b9{d:D}(h:d.imm=true):iR d=⟨.c,d⟩:=by
 unfold iR;have:d.top=false:=by cases d<;>simp[D.imm] at h<;>rfl
 rw[this];rfl
structure i9 where
 name:Str
 part:Int
 more:List Int
 ar:List Cap
 young:Int
noncomputable def aA(s:i9):D:= .tup [.str s.name,.tup ((s.part::s.more).map .int),.tup (s.ar.map aK),.int s.young]
structure iJ(s:i9):Prop where
 p1:1<=s.part
 p2:s.part<=100000
 cl:s.ar.length<=4
 ok:∀c∈s.ar,lH c
 y0:0<=s.young
theorem ie(s:i9):(aA s).imm=true:=by
 have h1:=qS s.ar;have h2:=qR (s.part::s.more);simp[aA] at h2⊢;exact⟨h2,h1⟩
theorem fO{α:Type}{f:α->D}(h:∀a,(f a).imm=true):∀l:List α,aq (l.map f)=true
 |[]=>rfl
 |a::l=>by
  have h1:=h a;have h2:=fO h l;rw[GaB];simp[h1,h2]
theorem Gz{i:Nat}(h:i<6):∃c,atD (Str.ofString "abcdef").cps.toList (i:Int)=some c:=by
 match i,h with
 |0,_=>exact⟨_,rfl⟩
 |1,_=>exact⟨_,rfl⟩
 |2,_=>exact⟨_,rfl⟩
 |3,_=>exact⟨_,rfl⟩
 |4,_=>exact⟨_,rfl⟩
 |5,_=>exact⟨_,rfl⟩
theorem Ed{i:Nat}(h:i<12):∃c,atD (Str.ofString "abcdefghijkl").cps.toList (i:Int)=some c:=by
 match i,h with
 |0,_=>exact⟨_,rfl⟩
 |1,_=>exact⟨_,rfl⟩
 |2,_=>exact⟨_,rfl⟩
 |3,_=>exact⟨_,rfl⟩
 |4,_=>exact⟨_,rfl⟩
 |5,_=>exact⟨_,rfl⟩
 |6,_=>exact⟨_,rfl⟩
 |7,_=>exact⟨_,rfl⟩
 |8,_=>exact⟨_,rfl⟩
 |9,_=>exact⟨_,rfl⟩
 |10,_=>exact⟨_,rfl⟩
 |11,_=>exact⟨_,rfl⟩
theorem at5{a b c d e:Int}{q:Int}(h:0<=q)(h2:q<5):∃v,(v=a\/v=b\/v=c\/v=d\/v=e)/\atD [D.int a,.int b,.int c,.int d,.int e] q=some (.int v):=by
 have:q=0\/q=1\/q=2\/q=3\/q=4:=by lia
 rcases this with rfl|rfl|rfl|rfl|rfl
 .exact⟨a,.inl rfl,rfl⟩
 .exact⟨b,.inr (.inl rfl),rfl⟩
 .exact⟨c,.inr (.inr (.inl rfl)),rfl⟩
 .exact⟨d,.inr (.inr (.inr (.inl rfl))),rfl⟩
 .exact⟨e,.inr (.inr (.inr (.inr rfl))),rfl⟩
theorem at2{a b q:Int}(h:0<=q)(h2:q<2):∃v,(v=a\/v=b)/\atD [D.int a,.int b] q=some (.int v):=by
 have:q=0\/q=1:=by lia
 rcases this with rfl|rfl
 .exact⟨a,.inl rfl,rfl⟩
 .exact⟨b,.inr rfl,rfl⟩
theorem GA{p q:Int}(h:0<=q)(h2:q<3):∃ms:List Int,atD [D.tup [.int p],.tup [.int p,.int (2*p)],.tup [.int p,.int (3*p),.int (7*p)]] q=some (.tup ((p::ms).map .int)):=by
 have:q=0\/q=1\/q=2:=by lia
 rcases this with rfl|rfl|rfl
 .exact⟨[],rfl⟩
 .exact⟨[2*p],rfl⟩
 .exact⟨[3*p,7*p],rfl⟩
theorem GB{ns:List Int}{eC j k part qa qb qc qd young y0:Int}{S C:List D}{sz:D}{ch:Nat}{x4 x5 x6 x7:Os}(mk:bC 30 j=true)(hk:100+30*j=k)(da:a5 [.scr ns,.int k,.int 5]=some (.int qa))(pa:atD [D.int 1,.int 2,.int 5,.int 12,.int 100000] qa=some (.int part))(m2:bC 2 part=true)(m3:bC 3 part=true)(m7:bC 7 part=true)
  (db:a5 [.scr ns,.int (k+1),.int 3]=some (.int qb))(sb:atD [D.tup [.int part],.tup [.int part,.int (2*part)],.tup [.int part,.int (3*part),.int (7*part)]] qb=some sz)(Rt:sz.imm=true)(dc:a5 [.scr ns,.int (k+2),.int 2]=some (.int qc))(yc:atD [D.int 0,.int eC] qc=some (.int y0))(dd:a5 [.scr ns,.int (k+3),.int 20]=some (.int qd))(my:bC y0 qd=true)(hy:y0*qd=young)
  (xx:atD (Str.ofString "abcdef").cps.toList j=some ch)(ec:fU [.scr ns,.int (k+5),.int part,.int eC]=some (.tup C))(ic:aq C=true)(hz:S.length<1000):
  bZ [some (.sh (.scr ns)),some (.sh (.int eC)),some (.own (.lst S)),some (.sh (.int j)),x4,x5,x6,x7]=some (.nx [some (.sh (.scr ns)),some (.sh (.int eC)),some (.own (.lst (S++[.tup [.str ("stuff"++ ⟨#[ch]⟩),sz,.tup C,.int young]]))),some (.sh (.int j)),some (.sh (.int k)),some (.sh (.int part)),some (.sh sz),some (.sh (.int young))]):=by
 have z:S.length<16777216:=by lia
 unfold bZ;refine(a7 (by simp[mk,hk];rfl)).trans ?_;refine(a7 (by simp[da,pa,a6];rfl)).trans ?_;refine(a7 (by simp[m2,m3,m7,db,sb,Rt,a6];rfl)).trans ?_;refine(a7 (by simp[dc,yc,dd,my,hy,a6];rfl)).trans ?_;have rc:=b9 (d:= .tup C) (by simp[ic]);have w1:(Str.ofString "abcdef").length<=16777216:=by decide
 have w2:(Str.ofString "stuff").length+(⟨#[ch]⟩:Str).length<=16777216:=by
  have:(⟨#[ch]⟩:Str).length=1:=rfl;rw[this];decide
 simp[xx,w1,w2,ec,rc,Rt,ic,a6,z]
theorem Bv{ns:List Int}{eC q n:Int}{S:List D}{y3 y4 y5 y6 y7:Os}(d:a5 [.scr ns,.int 21,.int 6]=some (.int q))(ea:atD [D.int 1,.int 2,.int 3,.int 3,.int 2,.int 6] q=some (.int n))(sm:aZ n=true)
  (h1:forL (gN 3) bZ (aE 0 n.toNat) [some (.sh (.scr ns)),some (.sh (.int eC)),some (.own (.lst [])),none,none,none,none,none]=some (.nx [some (.sh (.scr ns)),some (.sh (.int eC)),some (.own (.lst S)),y3,y4,y5,y6,y7]))(im:aq S=true):
  fL [.scr ns,.int eC]=some (.tup S):=by
 refine aH rfl ?_;unfold jF;refine(a7 (by simp[aM,a6];rfl)).trans ?_;refine(a7 (by simp[-forL,d,ea,sm,h1,a6];rfl)).trans ?_;simp[im]
theorem Bw{ns:List Int}{eC:Int}{i:Nat}{ss:List i9}{x4 x5 x6 x7:Os}(hs:1<=eC)(eY:eC<=1000000)(hi:i<6)(hl:ss.length<=100):
  ∃s y4 y5 y6 y7,iJ s/\bZ [some (.sh (.scr ns)),some (.sh (.int eC)),some (.own (.lst (ss.map aA))),some (.sh (.int (i:Int))),x4,x5,x6,x7]=some (.nx [some (.sh (.scr ns)),some (.sh (.int eC)),some (.own (.lst ((ss++[s]).map aA))),some (.sh (.int (i:Int))),y4,y5,y6,y7]):=by
 obtain⟨ch,xx⟩:=Gz hi;have hj:(0:Int)<=(i:Int)/\(i:Int)<=5:=by lia
 have hz:(ss.map aA).length<1000:=by rw[Gac];lia
 have e1:∀s,(ss++[s]).map aA=ss.map aA++[aA s]:=λs=>by simp
 generalize (i:Int)=j at*;generalize ss.map aA=S at*;generalize hk:100+30*j=k;have da:=aF (ns:=ns) (k:=k) (m:=5) (by lia) (by lia) (by lia);have la:=aJ ns k 5 (by lia);have db:=aF (ns:=ns) (k:=k+1) (m:=3) (by lia) (by lia) (by lia);have lb:=aJ ns (k+1) 3 (by lia);have dc:=aF (ns:=ns) (k:=k+2) (m:=2) (by lia) (by lia) (by lia);have lc:=aJ ns (k+2) 2 (by lia);have dd:=aF (ns:=ns) (k:=k+3) (m:=20) (by lia) (by lia) (by lia);have ld:=aJ ns (k+3) 20 (by lia);obtain⟨part,hp,pa⟩:=at5 (a:=1) (b:=2) (c:=5) (d:=12) (e:=100000) la.1 la.2;obtain⟨ms,sb⟩:=GA (p:=part) lb.1 lb.2;obtain⟨y0,SN,yc⟩:=at2 (a:=0) (b:=eC) lc.1 lc.2;obtain⟨cs,c1,c2,ec⟩:=LN (ns:=ns) (k:=k+5) (part:=part) (eC:=eC) (by lia) (by lia) (by lia) (by lia) hs eY;have ii:=qR (part::ms);refine⟨⟨"stuff"++ ⟨#[ch]⟩,part,ms,cs,y0*draw ns (k+3) 20⟩,some (.sh (.int k)),some (.sh (.int part)),some (.sh (.tup ((part::ms).map .int))),some (.sh (.int (y0*draw ns (k+3) 20))),⟨by simp;lia,by simp;lia,c1,c2,Gdj (by lia) ld.1⟩, ?_⟩;rw[e1];exact GB (bx (by lia) (by lia)) hk da pa (bx (by lia) (by lia)) (bx (by lia) (by lia)) (bx (by lia) (by lia)) db sb (by simpa using ii) dc yc dd (bx (by lia) (by lia)) rfl xx ec (qS cs) hz
theorem GC{ns:List Int}{eC:Int}(hs:1<=eC)(eY:eC<=1000000):∃ss:List i9,1<=ss.length/\ss.length<=6/\(∀s∈ss,iJ s)/\fL [.scr ns,.int eC]=some (.tup (ss.map aA)):=by
 have d:=aF (ns:=ns) (k:=21) (m:=6) (by lia) (by lia) (by lia);have l:=aJ ns 21 6 (by lia);generalize draw ns 21 6=q at*;obtain⟨n,hn,ea⟩:=at6 (a:=1) (b:=2) (c:=3) (d:=3) (e:=2) (f:=6) l.1 l.2;obtain⟨e,h1,ss,y3,y4,y5,y6,y7,h2,h3,rfl⟩:=cB (g:=gN 3) (body:=bZ) (λm env=>∃(ss:List i9) (y3 y4 y5 y6 y7:Os),ss.length=m/\(∀s∈ss,iJ s)/\env=[some (.sh (.scr ns)),some (.sh (.int eC)),some (.own (.lst (ss.map aA))),y3,y4,y5,y6,y7]) (aE 0 n.toNat) 0
  [some (.sh (.scr ns)),some (.sh (.int eC)),some (.own (.lst [])),none,none,none,none,none] ⟨[],none,none,none,none,none,rfl,by simp,rfl⟩ (by
   rintro i d e hd ⟨ss,y3,y4,y5,y6,y7,h2,h3,rfl⟩;obtain⟨hi,rfl⟩:=aY hd;obtain⟨s,z4,z5,z6,z7,hc,h⟩:=Bw (ns:=ns) (eC:=eC) (i:=i) (ss:=ss) (x4:=y4) (x5:=y5) (x6:=y6) (x7:=y7) hs eY (by lia) (by lia);rw[show(0:Int)+(i:Int)=(i:Int) by lia];refine⟨_,_,rfl,h,ss++[s],some (.sh (.int (i:Int))),z4,z5,z6,z7,by simp[h2],λx hx=> ?_,rfl⟩;rcases GaE.mp hx with hx|hx
   .exact h3 x hx
   .simp at hx;rw[hx];exact hc)
 rw[cn] at h2;exact⟨ss,by lia,by lia,h3,Bv d ea (aX (by lia) (by lia)) h1 (fO ie ss)⟩
noncomputable def trD(t:Int×Int×Int):D:= .tup [.int t.1,.int t.2.1,.int t.2.2]
theorem pM(t:Int×Int×Int):(trD t).imm=true:=by simp[trD]
noncomputable def uV(b:Int×Int×Int):Int×Int:=(b.1,b.2.1)
def kD(n:Int)(bs:List (Int×Int×Int)):Prop:=(∀b∈bs,0<=b.1/\b.1<=b.2.1/\b.2.1<n/\1<=b.2.2)/\(bs.map uV).Nodup
def oC(i j:Int)(bs:List (Int×Int×Int)):Prop:=∀b∈bs,b.1<i\/(b.1=i/\b.2.1<j)
theorem Ee{α β:Type}(f:α->β)(xs:List α)(i:Int)(y:α):(fR xs i y).map f=fR (xs.map f) i (f y):=by
 unfold fR;simp[GaF,GdC,GcB]
theorem LP{ns:List Int}{eQ eC i j k q0 q1 q2 L g:Int}{B:List D}{x6 x7:Os}(S5:bC 18 i=true)(m3:bC 3 j=true)(hk:3000+18*i+3*j=k)(hL:bA [.lst B]=some ⟨.c,.int L⟩)(d0:a5 [.scr ns,.int k,.int 3]=some (.int q0))(d1:a5 [.scr ns,.int (k+1),.int 10]=some (.int q1))(d2:a5 [.scr ns,.int (k+2),.int (L+1)]=some (.int q2))(sm:aZ q2=true)(mg:bC eC (1+q1)=true)(hg:eC*(1+q1)=g)(hz:B.length<1000):
  dY [some (.sh (.scr ns)),some (.sh (.int eQ)),some (.sh (.int eC)),some (.own (.lst B)),some (.sh (.int i)),some (.sh (.int j)),x6,x7]=
   some (.nx (if L<12/\q0=0 then[some (.sh (.scr ns)),some (.sh (.int eQ)),some (.sh (.int eC)),some (.own (.lst (fR B q2 (.tup [.int i,.int j,.int g])))),some (.sh (.int i)),some (.sh (.int j)),some (.sh (.int k)),some (.sh (.tup [.int i,.int j,.int g]))]
    else[some (.sh (.scr ns)),some (.sh (.int eQ)),some (.sh (.int eC)),some (.own (.lst B)),some (.sh (.int i)),some (.sh (.int j)),some (.sh (.int k)),x7])):=by
 have z:B.length<16777216:=by lia
 unfold dY;refine(a7 (by simp[S5,m3,hk];rfl)).trans ?_;by_cases c1:L<12
 .by_cases c2:q0=0
  .rw[Gaf ⟨c1,c2⟩];simp[-fC,hL,c1,c2,d0,d1,d2,mg,hg,sm,z,a6]
  .rw[Gag (λh=>c2 h.2)];simp[-fC,hL,c1,c2,d0]
 .rw[Gag (λh=>c1 h.1)];simp[-fC,hL,c1]
theorem GF{ns:List Int}{n:Nat}{eC i j:Int}{bs:List (Int×Int×Int)}{x6 x7:Os}(hs:1<=eC)(eY:eC<=1000000)(hn:n<=6)(hi:0<=i)(RH:i<n)(hj:i<=j)(Sk:j<n)(hb:kD n bs)(hU:oC i j bs)(hl:bs.length<=12):
  ∃xf y6 y7,kD n xf /\oC i (j+1) xf /\xf.length<=12/\dY [some (.sh (.scr ns)),some (.sh (.int (n:Int))),some (.sh (.int eC)),some (.own (.lst (bs.map trD))),some (.sh (.int i)),some (.sh (.int j)),x6,x7]=
   some (.nx [some (.sh (.scr ns)),some (.sh (.int (n:Int))),some (.sh (.int eC)),some (.own (.lst (xf.map trD))),some (.sh (.int i)),some (.sh (.int j)),y6,y7]):=by
 generalize hk:3000+18*i+3*j=k;have d0:=aF (ns:=ns) (k:=k) (m:=3) (by lia) (by lia) (by lia);have d1:=aF (ns:=ns) (k:=k+1) (m:=10) (by lia) (by lia) (by lia);have l1:=aJ ns (k+1) 10 (by lia);have d2:=aF (ns:=ns) (k:=k+2) (m:=(bs.length:Int)+1) (by lia) (by lia) (by lia);have l2:=aJ ns (k+2) ((bs.length:Int)+1) (by lia);have hL:bA [.lst (bs.map trD)]=some ⟨.c,.int (bs.length:Int)⟩:=by simp[bA]
 have ev:=LP (eQ:=(n:Int)) (x6:=x6) (x7:=x7) (bx (by lia) (by lia)) (bx (by lia) (by lia)) hk hL d0 d1 d2 (aX (by lia) (by lia)) (bx (i:=eC) (j:=1+draw ns (k+1) 10) (by lia) (by lia)) rfl (by rw[Gac];lia);rw[ev];by_cases c:(bs.length:Int)<12/\draw ns k 3=0
 .rw[Gaf c];have pm:=AL bs (draw ns (k+2) ((bs.length:Int)+1)) (i,j,eC*(1+draw ns (k+1) 10));refine⟨fR bs (draw ns (k+2) ((bs.length:Int)+1)) (i,j,eC*(1+draw ns (k+1) 10)),some (.sh (.int k)),some (.sh (.tup [.int i,.int j,.int (eC*(1+draw ns (k+1) 10))])),⟨λb yD => ?_, ?_⟩,λb yD => ?_,by rw[t9];lia,by rw[Ee];rfl⟩
  .rcases GaC.mp (pm.mem_iff.mp yD) with h|h
   .subst h;exact⟨hi,hj,Sk,fm hs (by lia)⟩
   .exact hb.1 b h
  .rw[(pm.map uV).nodup_iff,GaB,GbY];refine⟨λh=> ?_,hb.2⟩;obtain⟨b,yD,e⟩:=GaG.mp h;have h1:=hU b yD;unfold uV at e;simp at e;lia
  .rcases GaC.mp (pm.mem_iff.mp yD) with h|h
   .subst h;exact .inr ⟨rfl,by show j<j+1;lia⟩
   .have:=hU b h;lia
 .rw[Gag c];exact⟨bs,some (.sh (.int k)),x7,hb,λb h=>by have:=hU b h;lia,hl,rfl⟩
theorem Jn{ns:List Int}{n:Nat}{eC i:Int}{bs:List (Int×Int×Int)}{x5 x6 x7:Os}(hs:1<=eC)(eY:eC<=1000000)(hn:n<=6)(hi:0<=i)(RH:i<n)(hb:kD n bs)(hU:oC i i bs)(hl:bs.length<=12):
  ∃xf y5 y6 y7,kD n xf /\oC (i+1) (i+1) xf /\xf.length<=12/\dZ [some (.sh (.scr ns)),some (.sh (.int (n:Int))),some (.sh (.int eC)),some (.own (.lst (bs.map trD))),some (.sh (.int i)),x5,x6,x7]=
   some (.nx [some (.sh (.scr ns)),some (.sh (.int (n:Int))),some (.sh (.int eC)),some (.own (.lst (xf.map trD))),some (.sh (.int i)),y5,y6,y7]):=by
 obtain⟨e,h1,xf,y5,y6,y7,h2,ze,h3,rfl⟩:=cB (g:=gN 5) (body:=dY) (λm env=>∃(xf :List (Int×Int×Int)) (y5 y6 y7:Os),kD n xf /\oC i (i+(m:Int)) xf /\xf.length<=12/\env=[some (.sh (.scr ns)),some (.sh (.int (n:Int))),some (.sh (.int eC)),some (.own (.lst (xf.map trD))),some (.sh (.int i)),y5,y6,y7]) (aE i ((n:Int)-i).toNat) 0 _ ⟨bs,x5,x6,x7,hb,by rw[show i+((0:Nat):Int)=i by lia];exact hU,hl,rfl⟩ (by
  rintro j d e hd ⟨xf,y5,y6,y7,h2,ze,h3,rfl⟩;obtain⟨hj,rfl⟩:=aY hd;obtain⟨Rh,z6,z7,q1,yP,q2,q3⟩:=GF (ns:=ns) (n:=n) (eC:=eC) (i:=i) (j:=i+(j:Int)) (bs:=xf) (x6:=y6) (x7:=y7) hs eY hn hi RH (by lia) (by lia) h2 (by rw[Gbp] at ze;exact ze) h3;exact⟨_,_,rfl,q3,Rh,some (.sh (.int (i+(j:Int)))),z6,z7,q1,by rw[show i+((0+j+1:Nat):Int)=i+(j:Int)+1 by lia];exact yP,q2,rfl⟩)
 refine⟨xf,y5,y6,y7,h2,λb h=>by have:=ze b h;lia,h3, ?_⟩;have sa:aZ i=true:=aX (by lia) (by lia);have sb:aZ (n:Int)=true:=aX (by lia) (by lia);unfold dZ;generalize (n:Int)=nn at*;simp[-forL,sa,sb,h1]
theorem GH{ns:List Int}{n eC:Int}{B:List D}{y4 y5 y6 y7:Os}(sm:aZ n=true)(h1:forL (gN 4) dZ (aE 0 n.toNat) [some (.sh (.scr ns)),some (.sh (.int n)),some (.sh (.int eC)),some (.own (.lst [])),none,none,none,none]=some (.nx [some (.sh (.scr ns)),some (.sh (.int n)),some (.sh (.int eC)),some (.own (.lst B)),y4,y5,y6,y7]))(im:aq B=true):i4 [.scr ns,.int n,.int eC]=some (.tup B):=by
 refine aH rfl ?_;unfold mj;refine(a7 (by simp[aM,a6];rfl)).trans ?_;refine(a7 (by simp[-forL,sm,h1];rfl)).trans ?_;simp[im]
theorem LQ{ns:List Int}{n:Nat}{eC:Int}(hs:1<=eC)(eY:eC<=1000000)(hn:n<=6):∃bs:List (Int×Int×Int),kD n bs/\bs.length<=12/\i4 [.scr ns,.int (n:Int),.int eC]=some (.tup (bs.map trD)):=by
 obtain⟨e,h1,xf,y4,y5,y6,y7,h2,ze,h3,rfl⟩:=cB (g:=gN 4) (body:=dZ) (λm env=>∃(xf :List (Int×Int×Int)) (y4 y5 y6 y7:Os),kD n xf /\oC (m:Int) (m:Int) xf /\xf.length<=12/\env=[some (.sh (.scr ns)),some (.sh (.int (n:Int))),some (.sh (.int eC)),some (.own (.lst (xf.map trD))),y4,y5,y6,y7]) (aE 0 (n:Int).toNat) 0 [some (.sh (.scr ns)),some (.sh (.int (n:Int))),some (.sh (.int eC)),some (.own (.lst [])),none,none,none,none] ⟨[],none,none,none,none,⟨λb hb=>by simp at hb,by simp⟩,λb hb=>by simp at hb,by simp,rfl⟩ (by
  rintro j d e hd ⟨xf,y4,y5,y6,y7,h2,ze,h3,rfl⟩;obtain⟨hj,rfl⟩:=aY hd;obtain⟨Rh,z5,z6,z7,q1,yP,q2,q3⟩:=Jn (ns:=ns) (n:=n) (eC:=eC) (i:=0+(j:Int)) (bs:=xf) (x5:=y5) (x6:=y6) (x7:=y7) hs eY hn (by lia) (by lia) h2 (λb h=>by have:=ze b h;lia) h3;exact⟨_,_,rfl,q3,Rh,some (.sh (.int (0+(j:Int)))),z5,z6,z7,q1,λb h=>by have:=yP b h;lia,q2,rfl⟩)
 exact⟨xf,h2,h3,GH (aX (by lia) (by lia)) h1 (fO pM xf)⟩
inductive sC where
 |asked (b:Int)
 |due (b e m ea la:Int)
noncomputable def bM:sC->D
 | .asked b=> .tup [.str "asked",.int b]
 | .due b e m ea la=> .tup [.str "due",.int b,.int e,.int m,.int ea,.int la]
def ij:sC->Prop
 | .asked b=>0<=b
 | .due b e m ea la=>1<=e/\e<=12000000/\(m=1\/m=2\/m=4\/m=6\/m=60)/\0<=ea/\0<=la/\ea+la<e/\ea<=b/\b<=30000000
theorem oD(u:sC):(bM u).imm=true:=by cases u<;>simp[bM]
theorem LR{ns:List Int}{k eC q0 w u v t b e ea la m qm:Int}(hs:1<=eC)(eY:eC<=1000000)(d0:a5 [.scr ns,.int k,.int 3]=some (.int q0))(c:¬q0=0)(d2:a5 [.scr ns,.int (k+2),.int 12]=some (.int (w -1)))(ms:∀j,bC eC j=true)(he:eC*w=e)(hq:e/eC=w)(d3:a5 [.scr ns,.int (k+3),.int w]=some (.int u))(Sq:eC*u=ea)(QJ:(e -ea)/eC=w -u)(d4:a5 [.scr ns,.int (k+4),.int (w -u)]=some (.int v))(Qf:eC*v=la)(d5:a5 [.scr ns,.int (k+5),.int 10]=some (.int t))(hb:ea+eC*t=b)(d6:a5 [.scr ns,.int (k+6),.int 5]=some (.int qm))(am:atD [D.int 1,.int 2,.int 4,.int 6,.int 60] qm=some (.int m)):
  i5 [.scr ns,.int k,.int eC]=some (.tup [.str "due",.int b,.int e,.int m,.int ea,.int la]):=by
 have sp:0<eC:=by lia
 have Qx:eC<1073741824:=by lia
 have w1:1+(w -1)=w:=by lia
 refine aH rfl ?_;unfold jG;refine(a7 (by simp[aM,d0,c];rfl)).trans ?_;refine(a7 (by simp[d2,ms,w1,he];rfl)).trans ?_;refine(a7 (by simp[sp,Qx,hq,d3,ms,Sq];rfl)).trans ?_;refine(a7 (by simp[sp,Qx,QJ,d4,ms,Qf];rfl)).trans ?_;refine(a7 (by simp[d5,ms,hb];rfl)).trans ?_;simp[d6,am,a6]
theorem LU{ns:List Int}{k eC:Int}(hk:0<=k)(xW:k<10000)(hs:1<=eC)(eY:eC<=1000000):∃u:sC,ij u/\i5 [.scr ns,.int k,.int eC]=some (bM u):=by
 have d0:=aF (ns:=ns) (k:=k) (m:=3) (by lia) (by lia) (by lia);have ms:∀j,bC eC j=true:=λj=>bx (by lia) (by lia);by_cases c:draw ns k 3=0
 .have d1:=aF (ns:=ns) (k:=k+1) (m:=20) (by lia) (by lia) (by lia);have l1:=aJ ns (k+1) 20 (by lia);refine⟨.asked (eC*draw ns (k+1) 20),Gdj (by lia) l1.1, ?_⟩;refine aH rfl ?_;unfold jG;refine uU ?_;simp[aM,d0,c,d1,ms,a6,bM]
 .have d2:=aF (ns:=ns) (k:=k+2) (m:=12) (by lia) (by lia) (by lia);have l2:=aJ ns (k+2) 12 (by lia);generalize hw:1+draw ns (k+2) 12=w;have QG :draw ns (k+2) 12=w -1:=by lia
  rw[QG] at d2;have d3:=aF (ns:=ns) (k:=k+3) (m:=w) (by lia) (by lia) (by lia);have l3:=aJ ns (k+3) w (by lia);generalize draw ns (k+3) w=u at*;have d4:=aF (ns:=ns) (k:=k+4) (m:=w -u) (by lia) (by lia) (by lia);have l4:=aJ ns (k+4) (w -u) (by lia);generalize draw ns (k+4) (w -u)=v at*;have d5:=aF (ns:=ns) (k:=k+5) (m:=10) (by lia) (by lia) (by lia);have l5:=aJ ns (k+5) 10 (by lia);generalize draw ns (k+5) 10=t at*;have d6:=aF (ns:=ns) (k:=k+6) (m:=5) (by lia) (by lia) (by lia);have l6:=aJ ns (k+6) 5 (by lia);obtain⟨m,hm,am⟩:=at5 (a:=1) (b:=2) (c:=4) (d:=6) (e:=60) l6.1 l6.2;have hq:eC*w/eC=w:=Int.mul_ediv_cancel_left w (by lia);have QJ:(eC*w -eC*u)/eC=w -u:=by rw[<-Int.mul_sub];exact Int.mul_ediv_cancel_left _ (by lia)
  refine⟨.due (eC*u+eC*t) (eC*w) m (eC*u) (eC*v),⟨fm hs (by lia), ?_,hm,Gdj (by lia) l3.1,Gdj (by lia) l4.1, ?_, ?_, ?_⟩,LR hs eY d0 c d2 ms rfl hq d3 rfl QJ d4 rfl d5 rfl d6 am⟩
  .have:=oB (a:=eC) (b:=w) (A:=1000000) (B:=12) (by lia) eY (by lia) (by lia);lia
  .have h1:eC*u+eC*v=eC*(u+v):=by rw[Int.mul_add]
   have h2:eC*(u+v)<eC*w:=Int.mul_lt_mul_of_pos_left (by lia) (by lia);lia
  .have:=Gdj (a:=eC) (b:=t) (by lia) l5.1;lia
  .have h1:=oB (a:=eC) (b:=u) (A:=1000000) (B:=12) (by lia) eY (by lia) (by lia);have h2:=oB (a:=eC) (b:=t) (A:=1000000) (B:=10) (by lia) eY (by lia) (by lia);lia
structure Order where
 name:Str
 aw:Int
 ax:Int
 way:Str
 top:Int
 per:Int
 most:Int
 cx:sC
 BM:List D
noncomputable def aa(o:Order):D:= .tup [.str o.name,.int o.aw,.int o.ax,.tup [.str o.way,.int o.top,.int o.per,.int o.most],bM o.cx,.tup o.BM]
structure nA(ng RY:Nat)(o:Order):Prop where
 g0:0<=o.aw
 g1:o.aw<ng
 s0:0<=o.ax
 s1:o.ax<RY
 du:ij o.cx
 ti:aq o.BM=true
theorem LV{u:sC}{env:DL.Env}(h:env[11]? =some (some (.sh (bM u))))(hl:env.length=13):∃T:List D,aq T=true/\∀(he:env[12]? =some (some (.sh (.tup [])))),ifS (fA (aC eqB (ixE (vE 11) (kE (.int 0))) (kE (.str "due"))) (aC gtB (ixE (vE 11) (kE (.int 3))) (kE (.int 2))))
  (av 12 (aQ (a4 (aQ (a4 (kE (.int 1)) (a4 (kE (.int 1)) (a4 (kE (.int 2)) a8)))) (a4 (aQ (a4 (kE (.int 2)) (a4 (kE (.int 1)) (a4 (kE (.int 3)) a8)))) a8))))
  aI env=some (.nx (env.set 12 (some (.sh (.tup T))))):=by
 have e0:∀(he:env[12]? =some (some (.sh (.tup [])))),env.set 12 (some (.sh (.tup [])))=env:=λhe=>by
  apply Gdo;intro i;by_cases q:12=i
  .subst q;rw[GaT (by lia),he]
  .rw[Gad q]
 cases u with
 |asked b=>
  refine⟨[],rfl,λhe=> ?_⟩;rw[e0 he];unfold bM at h;simp[h,eqB]
 |due b e m ea la=>
  unfold bM at h;by_cases c:m>2
  .refine⟨[.tup [.int 1,.int 1,.int 2],.tup [.int 2,.int 1,.int 3]],rfl,λhe=> ?_⟩;simp[h,eqB,c,a6,DL.stored]
  .refine⟨[],rfl,λhe=> ?_⟩;rw[e0 he];simp[h,eqB,c]
theorem LW{r:Int}(h:0<=r):∃w:Str,atD [D.str "down",.str "up",.str "near"] (r%3)=some (.str w):=by
 have:r%3=0\/r%3=1\/r%3=2:=by lia
 rcases this with q|q|q<;>rw[q]
 .exact⟨"down",rfl⟩
 .exact⟨"up",rfl⟩
 .exact⟨"near",rfl⟩
theorem at3{a b c q:Int}(h:0<=q)(h2:q<3):∃v,(v=a\/v=b\/v=c)/\atD [D.int a,.int b,.int c] q=some (.int v):=by
 have:q=0\/q=1\/q=2:=by lia
 rcases this with rfl|rfl|rfl
 .exact⟨a,.inl rfl,rfl⟩
 .exact⟨b,.inr (.inl rfl),rfl⟩
 .exact⟨c,.inr (.inr rfl),rfl⟩
theorem GI{ns:List Int}{eC r k st part f q1 most q2 q3 LS LG g:Int}{G S O M T:List D}{nm C Y:D}{u:sC}{w:Str}{ch:Nat}{x3 x7 x8 x9 eV hJ x12:Os}(S4:bC 20 r=true)(hk:300+20*r=k)(zM:bA [.tup S]=some ⟨.c,.int LS⟩)(d0:a5 [.scr ns,.int k,.int LS]=some (.int st))(hS:atD S st=some (.tup [nm,.tup (.int part::M),C,Y]))(d1:a5 [.scr ns,.int (k+1),.int 3]=some (.int q1))(hf:atD [D.int 4,.int 15,.int 2000] q1=some (.int f))(mm:bC part f=true)(hm:part*f=most)
  (hw:atD [D.str "down",.str "up",.str "near"] (r%3)=some (.str w))(d2:a5 [.scr ns,.int (k+2),.int 90]=some (.int q2))(d3:a5 [.scr ns,.int (k+3),.int 9]=some (.int q3))(du:i5 [.scr ns,.int (k+4),.int eC]=some (bM u))(xT:bA [.lst G]=some ⟨.c,.int LG⟩)(dg:a5 [.scr ns,.int (k+12),.int LG]=some (.int g))(xx:atD (Str.ofString "abcdefghijkl").cps.toList r=some ch)(hz:O.length<1000)
  (iT:aq T=true)(ht:∀env:DL.Env,env=[some (.sh (.scr ns)),some (.sh (.int eC)),some (.own (.lst G)),x3,some (.sh (.tup S)),some (.own (.lst O)),some (.sh (.int r)),some (.sh (.int k)),some (.sh (.int st)),some (.sh (.int most)),some (.sh (.tup [.str w,.int (1+q2),.int q3,.int most])),some (.sh (bM u)),some (.sh (.tup []))]->
   ifS (fA (aC eqB (ixE (vE 11) (kE (.int 0))) (kE (.str "due"))) (aC gtB (ixE (vE 11) (kE (.int 3))) (kE (.int 2)))) (av 12 (aQ (a4 (aQ (a4 (kE (.int 1)) (a4 (kE (.int 1)) (a4 (kE (.int 2)) a8)))) (a4 (aQ (a4 (kE (.int 2)) (a4 (kE (.int 1)) (a4 (kE (.int 3)) a8)))) a8)))) aI env=some (.nx (env.set 12 (some (.sh (.tup T)))))):
  cF [some (.sh (.scr ns)),some (.sh (.int eC)),some (.own (.lst G)),x3,some (.sh (.tup S)),some (.own (.lst O)),some (.sh (.int r)),x7,x8,x9,eV,hJ,x12]=
   some (.nx [some (.sh (.scr ns)),some (.sh (.int eC)),some (.own (.lst G)),x3,some (.sh (.tup S)),some (.own (.lst (O++[.tup [.str ("order"++ ⟨#[ch]⟩),.int g,.int st,.tup [.str w,.int (1+q2),.int q3,.int most],bM u,.tup T]]))),some (.sh (.int r)),some (.sh (.int k)),some (.sh (.int st)),some (.sh (.int most)),some (.sh (.tup [.str w,.int (1+q2),.int q3,.int most])),some (.sh (bM u)),some (.sh (.tup T))]):=by
 have z:O.length<16777216:=by lia
 have iu:=oD u;have ru:=b9 iu;generalize bM u=U at*;have w1:(Str.ofString "abcdefghijkl").length<=16777216:=by decide
 have w2:(Str.ofString "order").length+(⟨#[ch]⟩:Str).length<=16777216:=by
  have:(⟨#[ch]⟩:Str).length=1:=rfl;rw[this];decide
 unfold cF;refine(a7 (by simp[S4,hk];rfl)).trans ?_;refine(a7 (by simp[-df,zM,d0];rfl)).trans ?_;refine(a7 (by simp[hS,d1,hf,mm,hm,a6];rfl)).trans ?_;refine(a7 (by simp[hw,d2,d3,a6];rfl)).trans ?_;refine(a7 (by simp[du,ru];rfl)).trans ?_;refine(a7 (by simp[a6];rfl)).trans ?_;refine(a7 (ht _ rfl)).trans ?_;simp[-fC,xT,dg,xx,w1,w2,iu,iT,a6,z]
theorem cH(o:Order)(h:aq o.BM=true):(aa o).imm=true:=by
 have:=oD o.cx;simp[aa,this,h]
theorem Bx{ns:List Int}{eC:Int}{i:Nat}{G:List D}{ss:List i9}{os:List Order}{x3 x7 x8 x9 eV hJ x12:Os}(hs:1<=eC)(eY:eC<=1000000)(hi:i<12)(hG:1<=G.length)(SX:G.length<=100)(hS:1<=ss.length)(SW:ss.length<=100)(hok:∀s∈ss,iJ s)(hl:os.length<=100):
  ∃o y7 y8 y9 h7 xl yF,nA G.length ss.length o/\cF [some (.sh (.scr ns)),some (.sh (.int eC)),some (.own (.lst G)),x3,some (.sh (.tup (ss.map aA))),some (.own (.lst (os.map aa))),some (.sh (.int (i:Int))),x7,x8,x9,eV,hJ,x12]=
   some (.nx [some (.sh (.scr ns)),some (.sh (.int eC)),some (.own (.lst G)),x3,some (.sh (.tup (ss.map aA))),some (.own (.lst ((os++[o]).map aa))),some (.sh (.int (i:Int))),y7,y8,y9,h7,xl,yF]):=by
 obtain⟨ch,xx⟩:=Ed hi;have hj:(0:Int)<=(i:Int)/\(i:Int)<=11:=by lia
 have hz:(os.map aa).length<1000:=by rw[Gac];lia
 have e1:∀s,(os++[s]).map aa=os.map aa++[aa s]:=λs=>by simp
 generalize (i:Int)=r at*;generalize os.map aa=O at*;generalize hk:300+20*r=k;have zM:bA [.tup (ss.map aA)]=some ⟨.c,.int (ss.length:Int)⟩:=by simp[bA]
 have xT:bA [.lst G]=some ⟨.c,.int (G.length:Int)⟩:=rfl;have d0:=aF (ns:=ns) (k:=k) (m:=(ss.length:Int)) (by lia) (by lia) (by lia);have l0:=aJ ns k (ss.length:Int) (by lia);generalize draw ns k (ss.length:Int)=st at*;obtain⟨n,rfl⟩:=Gav l0.1;have hn:n<ss.length:=by lia
 have hSat:atD (ss.map aA) (n:Int)=some (.tup [.str ss[n].name,.tup (.int ss[n].part::ss[n].more.map .int),.tup (ss[n].ar.map aK),.int ss[n].young]):=by
  rw[b4,Gah,Gaa hn];rfl
 have ok:=hok ss[n] (Gat hn);have okp1:=ok.p1;have okp2:=ok.p2;have d1:=aF (ns:=ns) (k:=k+1) (m:=3) (by lia) (by lia) (by lia);have l1:=aJ ns (k+1) 3 (by lia);obtain⟨f,SU,hf⟩:=at3 (a:=4) (b:=15) (c:=2000) l1.1 l1.2;obtain⟨w,hw⟩:=LW (r:=r) hj.1;have d2:=aF (ns:=ns) (k:=k+2) (m:=90) (by lia) (by lia) (by lia);have d3:=aF (ns:=ns) (k:=k+3) (m:=9) (by lia) (by lia) (by lia);obtain⟨u,u1,du⟩:=LU (ns:=ns) (k:=k+4) (eC:=eC) (by lia) (by lia) hs eY;have dg:=aF (ns:=ns) (k:=k+12) (m:=(G.length:Int)) (by lia) (by lia) (by lia);have lg:=aJ ns (k+12) (G.length:Int) (by lia);obtain⟨T,iT,ht⟩:=LV (u:=u) (env:=[some (.sh (.scr ns)),some (.sh (.int eC)),some (.own (.lst G)),x3,some (.sh (.tup (ss.map aA))),some (.own (.lst O)),some (.sh (.int r)),some (.sh (.int k)),some (.sh (.int (n:Int))),some (.sh (.int (ss[n].part*f))),some (.sh (.tup [.str w,.int (1+draw ns (k+2) 90),.int (draw ns (k+3) 9),.int (ss[n].part*f)])),some (.sh (bM u)),some (.sh (.tup []))]) rfl rfl;refine⟨⟨"order"++ ⟨#[ch]⟩,draw ns (k+12) (G.length:Int),(n:Int),w,1+draw ns (k+2) 90,draw ns (k+3) 9,ss[n].part*f,u,T⟩,some (.sh (.int k)),some (.sh (.int (n:Int))),some (.sh (.int (ss[n].part*f))),some (.sh (.tup [.str w,.int (1+draw ns (k+2) 90),.int (draw ns (k+3) 9),.int (ss[n].part*f)])),some (.sh (bM u)),some (.sh (.tup T)),⟨lg.1,lg.2,by simp,by simp;lia,u1,iT⟩, ?_⟩;rw[e1];exact GI (bx (by lia) (by lia)) hk zM d0 hSat d1 hf (bx (by lia) (by lia)) rfl hw d2 d3 du xT dg xx hz iT λenv he=>by subst he;exact ht rfl
theorem By{ns:List Int}{eC:Int}{i:Nat}{gs:List (Str×Int)}{x4 x5 x6 x7 x8 x9 eV hJ x12:Os}(hs:1<=eC)(eY:eC<=1000000)(hi:i<6)(hl:gs.length<=100):
  ∃g:Str×Int,dA [some (.sh (.scr ns)),some (.sh (.int eC)),some (.own (.lst (gs.map λg=> .tup [.str g.1,.int g.2]))),some (.sh (.int (i:Int))),x4,x5,x6,x7,x8,x9,eV,hJ,x12]=
   some (.nx [some (.sh (.scr ns)),some (.sh (.int eC)),some (.own (.lst ((gs++[g]).map λg=> .tup [.str g.1,.int g.2]))),some (.sh (.int (i:Int))),x4,x5,x6,x7,x8,x9,eV,hJ,x12]):=by
 obtain⟨ch,xx⟩:=Gz hi;have hj:(0:Int)<=(i:Int)/\(i:Int)<=5:=by lia
 have hz:(gs.map λg=>D.tup [.str g.1,.int g.2]).length<16777216:=by rw[Gac];lia
 have e1:∀s:Str×Int,((gs++[s]).map λg=>D.tup [.str g.1,.int g.2])=(gs.map λg=>D.tup [.str g.1,.int g.2])++[.tup [.str s.1,.int s.2]]:=λs=>by simp
 generalize (i:Int)=j at*;generalize (gs.map λg=>D.tup [.str g.1,.int g.2])=G at*;have d:=aF (ns:=ns) (k:=30+j) (m:=15) (by lia) (by lia) (by lia);have ms:∀j,bC eC j=true:=λj=>bx (by lia) (by lia);have w1:(Str.ofString "abcdef").length<=16777216:=by decide
 have w2:(Str.ofString "guest").length+(⟨#[ch]⟩:Str).length<=16777216:=by
  have:(⟨#[ch]⟩:Str).length=1:=rfl;rw[this];decide
 refine⟨("guest"++ ⟨#[ch]⟩,eC*draw ns (30+j) 15), ?_⟩;rw[e1];unfold dA;simp[xx,w1,w2,d,ms,a6,hz]
structure World where
 aT:List (Str×Int)
 af:List i9
 aU:List (Int×Int×Int)
 orders:List Order
noncomputable def bc(g:Str×Int):D:= .tup [.str g.1,.int g.2]
noncomputable def au(w:World):D:= .tup [.tup (w.aT.map bc),.tup (w.af.map aA),.tup (w.aU.map trD),.tup (w.orders.map aa)]
structure aD(w:World):Prop where
 g1:1<=w.aT.length
 g6:w.aT.length<=6
 s1:1<=w.af.length
 s6:w.af.length<=6
 so:∀s∈w.af,iJ s
 b12:w.aU.length<=12
 bo:kD w.af.length w.aU
 o1:1<=w.orders.length
 o12:w.orders.length<=12
 oo:∀o∈w.orders,nA w.aT.length w.af.length o
theorem qT(g:Str×Int):(bc g).imm=true:=by simp[bc]
theorem Ef{ns:List Int}{q1 eC qg ng qo no LS:Int}{G S B O:List D}{y3 y6 y7 y8 y9 h7 xl yF:Os}(d1:a5 [.scr ns,.int 1,.int 6]=some (.int q1))(h1:atD [D.int 1,.int 1,.int 1,.int 1,.int 1,.int 1000000] q1=some (.int eC))(dg:a5 [.scr ns,.int 20,.int 6]=some (.int qg))(hg:atD [D.int 1,.int 2,.int 3,.int 2,.int 3,.int 6] qg=some (.int ng))(sg:aZ ng=true)
  (lg:forL (gN 3) dA (aE 0 ng.toNat) [some (.sh (.scr ns)),some (.sh (.int eC)),some (.own (.lst [])),none,none,none,none,none,none,none,none,none,none]=some (.nx [some (.sh (.scr ns)),some (.sh (.int eC)),some (.own (.lst G)),y3,none,none,none,none,none,none,none,none,none]))
  (es:fL [.scr ns,.int eC]=some (.tup S))(iS:aq S=true)(SA :a5 [.scr ns,.int 22,.int 6]=some (.int qo))(ho:atD [D.int 1,.int 2,.int 3,.int 4,.int 4,.int 12] qo=some (.int no))(so:aZ no=true)
  (lo:forL (gN 6) cF (aE 0 no.toNat) [some (.sh (.scr ns)),some (.sh (.int eC)),some (.own (.lst G)),y3,some (.sh (.tup S)),some (.own (.lst [])),none,none,none,none,none,none,none]=some (.nx [some (.sh (.scr ns)),some (.sh (.int eC)),some (.own (.lst G)),y3,some (.sh (.tup S)),some (.own (.lst O)),y6,y7,y8,y9,h7,xl,yF]))
  (zM:bA [.tup S]=some ⟨.c,.int LS⟩)(eb:i4 [.scr ns,.int LS,.int eC]=some (.tup B))(iB:aq B=true)(iG:aq G=true)(iO:aq O=true):ft [.scr ns]=some (.tup [.tup G,.tup S,.tup B,.tup O]):=by
 have rS:=b9 (d:= .tup S) (by simp[iS]);have rB:=b9 (d:= .tup B) (by simp[iB]);refine aH rfl ?_;unfold kA;refine(a7 (by simp[aM,d1,h1,a6];rfl)).trans ?_;refine(a7 (by simp[a6];rfl)).trans ?_;refine(a7 (by simp[-forL,dg,hg,sg,lg,a6];rfl)).trans ?_;refine(a7 (by simp[es,rS];rfl)).trans ?_;refine(a7 (by simp[a6];rfl)).trans ?_;refine(a7 (by simp[-forL,SA,ho,so,lo,a6];rfl)).trans ?_;simp[-df,zM,eb,rB,iS,iB,iG,iO,a6]
theorem uW(ns:List Int):∃eC:Int,1<=eC/\eC<=1000000/\atD [D.int 1,.int 1,.int 1,.int 1,.int 1,.int 1000000] (draw ns 1 6)=some (.int eC):=by
 have l:=aJ ns 1 6 (by lia);obtain⟨v,hv,e⟩:=at6 (a:=1) (b:=1) (c:=1) (d:=1) (e:=1) (f:=1000000) l.1 l.2;exact⟨v,by lia,by lia,e⟩
theorem Jo(ns:List Int):∃w:World,aD w/\ft [.scr ns]=some (au w):=by
 have d1:=aF (ns:=ns) (k:=1) (m:=6) (by lia) (by lia) (by lia);obtain⟨eC,c1,c2,h1⟩:=uW ns;have dg:=aF (ns:=ns) (k:=20) (m:=6) (by lia) (by lia) (by lia);have lg:=aJ ns 20 6 (by lia);obtain⟨ng,SQ,hg⟩:=at6 (a:=1) (b:=2) (c:=3) (d:=2) (e:=3) (f:=6) lg.1 lg.2;have dO:=aF (ns:=ns) (k:=22) (m:=6) (by lia) (by lia) (by lia);have lO:=aJ ns 22 6 (by lia);obtain⟨no,yI,hO⟩:=at6 (a:=1) (b:=2) (c:=3) (d:=4) (e:=4) (f:=12) lO.1 lO.2;obtain⟨e,l1,gs,y3,g2,rfl⟩:=cB (g:=gN 3) (body:=dA) (λm env=>∃(gs:List (Str×Int)) (y3:Os),gs.length=m/\env=[some (.sh (.scr ns)),some (.sh (.int eC)),some (.own (.lst (gs.map λg=> .tup [.str g.1,.int g.2]))),y3,none,none,none,none,none,none,none,none,none]) (aE 0 ng.toNat) 0 [some (.sh (.scr ns)),some (.sh (.int eC)),some (.own (.lst [])),none,none,none,none,none,none,none,none,none,none] ⟨[],none,rfl,rfl⟩ (by
  rintro i d e hd ⟨gs,y3,h2,rfl⟩;obtain⟨hi,rfl⟩:=aY hd;obtain⟨g,h⟩:=By (ns:=ns) (eC:=eC) (i:=i) (gs:=gs) (x4:=none) (x5:=none) (x6:=none) (x7:=none) (x8:=none) (x9:=none) (eV:=none) (hJ:=none) (x12:=none) c1 c2 (by lia) (by lia);rw[show(0:Int)+(i:Int)=(i:Int) by lia];exact⟨_,_,rfl,h,gs++[g],some (.sh (.int (i:Int))),by simp[h2],rfl⟩)
 rw[cn] at g2;obtain⟨ss,t1,t2,t3,t4⟩:=GC (ns:=ns) c1 c2;obtain⟨bs,b1,b2,b3⟩:=LQ (ns:=ns) (n:=ss.length) c1 c2 t2;have xT:(gs.map bc).length=gs.length:=by simp
 have eG:(gs.map λg=>D.tup [.str g.1,.int g.2])=gs.map bc:=rfl;rw[eG] at l1;obtain⟨e,l2,os,y6,y7,y8,y9,h7,xl,yF,o2,o3,rfl⟩:=cB (g:=gN 6) (body:=cF) (λm env=>∃(os:List Order) (y6 y7 y8 y9 h7 xl yF:Os),os.length=m/\(∀o∈os,nA gs.length ss.length o)/\env=[some (.sh (.scr ns)),some (.sh (.int eC)),some (.own (.lst (gs.map bc))),y3,some (.sh (.tup (ss.map aA))),some (.own (.lst (os.map aa))),y6,y7,y8,y9,h7,xl,yF]) (aE 0 no.toNat) 0 [some (.sh (.scr ns)),some (.sh (.int eC)),some (.own (.lst (gs.map bc))),y3,some (.sh (.tup (ss.map aA))),some (.own (.lst [])),none,none,none,none,none,none,none] ⟨[],none,none,none,none,none,none,none,rfl,by simp,rfl⟩ (by
  rintro i d e hd ⟨os,y6,y7,y8,y9,h7,xl,yF,h2,h3,rfl⟩;obtain⟨hi,rfl⟩:=aY hd;obtain⟨o,z7,z8,z9,yr,zw,RQ,k1,k2⟩:=Bx (ns:=ns) (eC:=eC) (i:=i) (G:=gs.map bc) (ss:=ss) (os:=os) (x3:=y3) (x7:=y7) (x8:=y8) (x9:=y9) (eV:=h7) (hJ:=xl) (x12:=yF) c1 c2 (by lia) (by lia) (by lia) t1 (by lia) t3 (by lia);rw[xT] at k1;rw[show(0:Int)+(i:Int)=(i:Int) by lia];refine⟨_,_,rfl,k2,os++[o],some (.sh (.int (i:Int))),z7,z8,z9,yr,zw,RQ,by simp[h2],λx hx=> ?_,rfl⟩;rcases GaE.mp hx with hx|hx
  .exact h3 x hx
  .simp at hx;rw[hx];exact k1)
 rw[cn] at o2;have iO:aq (os.map aa)=true:=by
  have:∀l:List Order,(∀o∈l,nA gs.length ss.length o)->aq (l.map aa)=true:=by
   intro l;induction l with
   |nil=>intro _;rfl
   |cons o l ih=>
    intro h;have h1:=cH o (h o Gak).ti;have h2:=ih λx hx=>h x (Gae _ hx);rw[GaB];simp[h1,h2]
  exact this os o3
 refine⟨⟨gs,ss,bs,os⟩,⟨by simp;lia,by simp;lia,t1,t2,t3,b2,b1,by simp;lia,by simp;lia,o3⟩, ?_⟩;exact Ef d1 h1 dg hg (aX (by lia) (by lia)) l1 t4 (fO ie ss) dO hO (aX (by lia) (by lia)) l2 (by simp[bA]) b3 (fO pM bs) (fO qT gs) iO
theorem wJ{w:World}{o:Int}(h0:0<=o)(h1:o<w.orders.length):∃x∈w.orders,atD (w.orders.map aa) o=some (aa x):=by
 obtain⟨n,rfl⟩:=Gav h0;have hn:n<w.orders.length:=by lia
 exact⟨w.orders[n],Gat hn,by rw[b4,Gah,Gaa hn];rfl⟩
theorem GJ{w:World}{o:Int}(h0:0<=o)(h1:o<w.af.length):∃x∈w.af,atD (w.af.map aA) o=some (aA x):=by
 obtain⟨n,rfl⟩:=Gav h0;have hn:n<w.af.length:=by lia
 exact⟨w.af[n],Gat hn,by rw[b4,Gah,Gaa hn];rfl⟩
theorem Eg{ns:List Int}{k q5 q6 h:Int}{x1 x2 x4 x5 x7 x8:Os}(d5:a5 [.scr ns,.int (k+5000),.int 12]=some (.int q5))(d6:a5 [.scr ns,.int (k+5500),.int 25]=some (.int q6)):∃h' :Int,
  ai (ifS (aC eqB (aj a5 (a4 (vE 0) (a4 (opE aB (vE 3) (kE (.int 5000))) (a4 (kE (.int 12)) a8)))) (kE (.int 0))) (av 6 (opE aB (vE 6) (kE (.int 1)))) aI)
   (ai (ifS (aC eqB (aj a5 (a4 (vE 0) (a4 (opE aB (vE 3) (kE (.int 5500))) (a4 (kE (.int 25)) a8)))) (kE (.int 0))) (av 6 (opE nU (kE (.int 10)) (kE (.int 9)))) aI) (retS (vE 6)))
   [some (.sh (.scr ns)),x1,x2,some (.sh (.int k)),x4,x5,some (.sh (.int h)),x7,x8]=some (.ret (.int h')):=by
 by_cases c5:q5=0
 .by_cases c6:q6=0
  .exact⟨1000000000,by simp[d5,d6,c5,c6]⟩
  .exact⟨h+1,by simp[d5,d6,c5,c6]⟩
 .by_cases c6:q6=0
  .exact⟨1000000000,by simp[d5,d6,c5,c6]⟩
  .exact⟨h,by simp[d5,d6,c5,c6]⟩
theorem Jp{ns:List Int}{k o q1 eC q0 q3 q4:Int}{A B C O:List D}{nm g st ru tp:D}{u:sC}(d1:a5 [.scr ns,.int 1,.int 6]=some (.int q1))(h1:atD [D.int 1,.int 1,.int 1,.int 1,.int 1,.int 1000000] q1=some (.int eC))(hs:1<=eC)(eY:eC<=1000000)(hO:atD O o=some (.tup [nm,g,st,ru,bM u,tp]))(du:ij u)(d0:a5 [.scr ns,.int k,.int 70]=some (.int q0))(d3:a5 [.scr ns,.int (k+3000),.int 4]=some (.int q3))(d4:a5 [.scr ns,.int (k+4000),.int 6]=some (.int q4))(l4:0<=q4)(S7 :q4<6)(hk:0<=k)(xW:k<10000):
  ∃h:Int,i7 [.scr ns,.tup [.tup A,.tup B,.tup C,.tup O],.int o,.int k]=some (.int h):=by
 have d5:=aF (ns:=ns) (k:=k+5000) (m:=12) (by lia) (by lia) (by lia);have d6:=aF (ns:=ns) (k:=k+5500) (m:=25) (by lia) (by lia) (by lia);have ms:∀j,bC eC j=true:=λj=>bx (by lia) (by lia);have iu:=oD u
 suffices hmid:∃(x7 x8:Os) (h0:Int),ifS (fA (aC eqB (ixE (vE 5) (kE (.int 0))) (kE (.str "due"))) (aC gtB (aj a5 (a4 (vE 0) (a4 (opE aB (vE 3) (kE (.int 3000))) (a4 (kE (.int 4)) a8)))) (kE (.int 0))))
  (ai (av 7 (opE aB (ixE (vE 5) (kE (.int 1))) (opE cy (aj a5 (a4 (vE 0) (a4 (vE 3) (a4 (cz mV (a4 (ixE (vE 5) (kE (.int 3))) (a4 (kE (.int 6)) a8))) a8)))) (ixE (vE 5) (kE (.int 2))))))
 (ai (av 8 (dF (a4 (vE 7) (a4 (opE gP (vE 7) (ixE (vE 5) (kE (.int 4)))) (a4 (opE aB (vE 7) (ixE (vE 5) (kE (.int 5)))) (a4 (opE gP (opE gP (vE 7) (ixE (vE 5) (kE (.int 4)))) (kE (.int 1))) (a4 (opE aB (opE aB (vE 7) (ixE (vE 5) (kE (.int 5)))) (kE (.int 1))) (a4 (vE 7) a8))))))))
 (av 6 (cz t8 (a4 (kE (.int 0)) (a4 (ixE (vE 8) (aj a5 (a4 (vE 0) (a4 (opE aB (vE 3) (kE (.int 4000))) (a4 (kE (.int 6)) a8))))) a8))))))
  aI [some (.sh (.scr ns)),some (.sh (.tup [.tup A,.tup B,.tup C,.tup O])),some (.sh (.int o)),some (.sh (.int k)),some (.sh (.int eC)),some (.sh (bM u)),some (.sh (.int (eC*q0))),none,none]=some (.nx [some (.sh (.scr ns)),some (.sh (.tup [.tup A,.tup B,.tup C,.tup O])),some (.sh (.int o)),some (.sh (.int k)),some (.sh (.int eC)),some (.sh (bM u)),some (.sh (.int h0)),x7,x8]) by
  obtain⟨x7,x8,h0,hm⟩:=hmid;obtain⟨h',ht⟩:=Eg (ns:=ns) (k:=k) (h:=h0) (x1:=some (.sh (.tup [.tup A,.tup B,.tup C,.tup O]))) (x2:=some (.sh (.int o))) (x4:=some (.sh (.int eC))) (x5:=some (.sh (bM u))) (x7:=x7) (x8:=x8) d5 d6;refine⟨h',aH rfl ?_⟩;unfold mq;generalize bM u=U at*;refine(a7 (by simp[aM,d1,h1,a6];rfl)).trans ?_;refine(a7 (by simp[hO,iu];rfl)).trans ?_;refine(a7 (by simp[d0,ms];rfl)).trans ?_;exact(a7 hm).trans ht
 cases u with
 |asked b=>
  refine⟨none,none,eC*q0, ?_⟩;simp[bM,eqB]
 |due b e m ea la=>
  obtain⟨e1,e2,hm,_⟩:=du;by_cases c:q3>0
  .have mm:∃mn:Int,0<mn/\(if(6:Int)<m then 6 else m)=mn:=⟨_,by split<;>lia,rfl⟩
   obtain⟨mn,RZ,Sz⟩:=mm;have dn:=aF (ns:=ns) (k:=k) (m:=mn) (by lia) (by lia) RZ;have me:∀j,bC j e=true:=λj=>jM (by lia) (by lia);generalize hnear:b+draw ns k mn*e=near;obtain⟨v,hv,ev⟩:=at6 (a:=near) (b:=near -ea) (c:=near+la) (d:=near -ea -1) (e:=near+la+1) (f:=near) l4 S7;refine⟨some (.sh (.int near)),some (.own (.lst [.int near,.int (near -ea),.int (near+la),.int (near -ea -1),.int (near+la+1),.int near])),(if v>0 then v else 0), ?_⟩;have mi:mV [.int m,.int 6]=some ⟨.c,.int mn⟩:=by rw[<-Sz];rfl
   have mx:t8 [.int 0,.int v]=some ⟨.c,.int (if v>0 then v else 0)⟩:=rfl;have cc:q3>0:=c;generalize (if v>0 then v else 0:Int)=vm at*;unfold bM;refine(Jm (by simp[eqB,d3,cc])).trans ?_;refine(a7 (by simp[mi,dn,me,hnear];rfl)).trans ?_;refine(a7 (by simp[a6];rfl)).trans ?_;simp[d4,ev,mx]
  .refine⟨none,none,eC*q0, ?_⟩;simp[bM,eqB,d3,c]
theorem LX{ns:List Int}{w:World}{k o:Int}(W:aD w)(h0:0<=o)(h1:o<w.orders.length)(hk:0<=k)(xW:k<10000):∃h:Int,i7 [.scr ns,au w,.int o,.int k]=some (.int h):=by
 obtain⟨x,hx,hO⟩:=wJ h0 h1;have d1:=aF (ns:=ns) (k:=1) (m:=6) (by lia) (by lia) (by lia);obtain⟨eC,c1,c2,e1⟩:=uW ns;exact Jp d1 e1 c1 c2 hO (W.oo x hx).du (aF (by lia) (by lia) (by lia)) (aF (by lia) (by lia) (by lia)) (aF (by lia) (by lia) (by lia)) (aJ ns (k+4000) 6 (by lia)).1 (aJ ns (k+4000) 6 (by lia)).2 hk xW
theorem Eh{ns:List Int}{k o st part q6 q7 q8:Int}{A B C O M:List D}{nm g ru dd tp n2 cp yg:D}(hO:atD O o=some (.tup [nm,g,.int st,ru,dd,tp]))(hS:atD B st=some (.tup [n2,.tup (.int part::M),cp,yg]))(hp:1<=part)(xv:part<=100000)(d6:a5 [.scr ns,.int (k+6000),.int 8]=some (.int q6))(d7:a5 [.scr ns,.int (k+7000),.int 14]=some (.int q7))(d8:a5 [.scr ns,.int (k+8000),.int 6]=some (.int q8))(l8:0<=q8)(S6 :q8<6):
  ∃a:Int,dJ [.scr ns,.tup [.tup A,.tup B,.tup C,.tup O],.int o,.int k]=some (.int a):=by
 have mp:∀j,bC part j=true:=λj=>bx (by lia) (by lia);generalize hmany:part*(1+q6)=eQ;obtain⟨v,hv,ev⟩:=at6 (a:=0) (b:= -eQ) (c:=eQ+1) (d:=1000000000) (e:=part*2001) (f:= -1) l8 S6;have pre:∀r,(∃a,r=some (Out.ret (.int a)))->ai (ifS (aC eqB (aj a5 (a4 (vE 0) (a4 (opE aB (vE 3) (kE (.int 7000))) (a4 (kE (.int 14)) a8)))) (kE (.int 0))) (retS (ixE (vE 6) (aj a5 (a4 (vE 0) (a4 (opE aB (vE 3) (kE (.int 8000))) (a4 (kE (.int 6)) a8)))))) aI) (retS (vE 5)) [some (.sh (.scr ns)),some (.sh (.tup [.tup A,.tup B,.tup C,.tup O])),some (.sh (.int o)),some (.sh (.int k)),some (.sh (.int part)),some (.sh (.int eQ)),some (.own (.lst [.int 0,.int (-eQ),.int (eQ+1),.int 1000000000,.int (part*2001),.int (-1)]))]=r->∃a:Int,dJ [.scr ns,.tup [.tup A,.tup B,.tup C,.tup O],.int o,.int k]=some (.int a):=by
  rintro r ⟨a,rfl⟩ h;refine⟨a,aH rfl ?_⟩;unfold jH;refine(a7 (by simp[aM,hO,hS]<;>rfl)).trans ?_;refine(a7 (by simp[d6,mp,hmany]<;>rfl)).trans ?_;exact(a7 (by simp[mp,a6]<;>rfl)).trans h
 by_cases c:q7=0
 .exact pre _ ⟨v,rfl⟩ (by simp[d7,c,d8,ev])
 .exact pre _ ⟨eQ,rfl⟩ (by simp[d7,c])
theorem GK{ns:List Int}{w:World}{k o:Int}(W:aD w)(h0:0<=o)(h1:o<w.orders.length)(hk:0<=k)(xW:k<10000):∃a:Int,dJ [.scr ns,au w,.int o,.int k]=some (.int a):=by
 obtain⟨x,hx,hO⟩:=wJ h0 h1;have ok:=W.oo x hx;obtain⟨s,hs,hS⟩:=GJ (w:=w) ok.s0 ok.s1;have so:=W.so s hs;exact Eh hO hS so.p1 so.p2 (aF (by lia) (by lia) (by lia)) (aF (by lia) (by lia) (by lia)) (aF (by lia) (by lia) (by lia)) (aJ ns (k+8000) 6 (by lia)).1 (aJ ns (k+8000) 6 (by lia)).2
abbrev Tr:=Int×Int×Int
noncomputable def kvT(ts:List Tr):List (List Key×D):=ts.map λt=>([Sum.inl t.1,Sum.inl t.2.1],D.int t.2.2)
theorem CK(ts:List Tr)(o h:Int):((kvT ts).any λkv=>decide (kv.1=[Sum.inl o,Sum.inl h]))=true↔∃v,(o,h,v)∈ts:=by
 rw[GcS];constructor
 .rintro⟨kv,hk,e⟩;obtain⟨t,ht,rfl⟩:=GaG.mp hk;have e' :=Gar e;simp at e';exact⟨t.2.2,by rw[<-e'.1,<-e'.2];exact ht⟩
 .rintro⟨v,hv⟩;exact⟨_,GaG.mpr ⟨_,hv,rfl⟩,by simp⟩
theorem pO(ts:List Tr)(o h v:Int):∃xo :List Tr,DL.put (kvT ts) [Sum.inl o,Sum.inl h] (.int v)=kvT xo /\xo.length<=ts.length+1/\(∀t∈xo,t∈ts\/t=(o,h,v))/\((∃v,(o,h,v)∈ts)->xo.length=ts.length)/\∃v,(o,h,v)∈xo :=by
 unfold DL.put;by_cases c:((kvT ts).any λkv=>decide (kv.1=[Sum.inl o,Sum.inl h]))=true
 .rw[Gaf c];refine⟨ts.map λt=>if t.1=o/\t.2.1=h then(o,h,v) else t, ?_,by simp,λt ht=> ?_,λ_=>by simp,v, ?_⟩
  .unfold kvT;rw[GaL,GaL];refine GaM λt _=> ?_;simp only[Function.comp];by_cases c:t.1=o/\t.2.1=h
   .have e:([Sum.inl t.1,Sum.inl t.2.1]:List Key)=[Sum.inl o,Sum.inl h]:=by rw[c.1,c.2]
    rw[Gaf e,Gaf c,c.1,c.2]
   .have e:¬([Sum.inl t.1,Sum.inl t.2.1]:List Key)=[Sum.inl o,Sum.inl h]:=λz=>by
     simp at z;exact c z
    rw[Gag e,Gag c]
  .obtain⟨s,hs,rfl⟩:=GaG.mp ht;split
   .exact .inr rfl
   .exact .inl hs
  .obtain⟨v',yV⟩:=(CK ts o h).mp c;exact GaG.mpr ⟨_,yV,by simp⟩
 .rw[Gag c];refine⟨ts++[(o,h,v)],by simp[kvT],by simp,λt ht=> ?_,λq=>absurd ((CK ts o h).mpr q) c,v,by simp⟩;rcases GaE.mp ht with h|h
  .exact .inl h
  .exact .inr (by simpa using h)
theorem jq(ts:List Tr):bB (kvT ts)=ts.map λt=>D.tup [.tup [.int t.1,.int t.2.1],.int t.2.2]:=by
 unfold bB kvT;rw[GaL]
 rfl
theorem wK(ts:List Tr):br (gT [0,1]) fZ (aQ (a4 (ixE (vE 0) (kE (.int 0))) (a4 (ixE (vE 0) (kE (.int 1))) (a4 (vE 1) a8)))) (bB (kvT ts)) [none,none]=some (ts.map trD):=by
 rw[jq];refine gK (g:=gT [0,1]) (λt:Tr=>D.tup [.tup [.int t.1,.int t.2.1],.int t.2.2]) (λenv=>∃y z,env=[y,z]) trD ts _ ⟨none,none,rfl⟩ ?_;rintro t ht env ⟨y,z,rfl⟩;refine⟨[some (.sh (.tup [.int t.1,.int t.2.1])),some (.sh (.int t.2.2))],by simp,⟨_,_,rfl⟩,.c, ?_,rfl⟩;simp[a6,trD]
theorem Jq(ts:List Tr):keysOk (ts.map trD)=true:=by
 have h1:(ts.map trD).all (ll 1)=true:=by
  rw[GbM,GaA];intro p _;simp[trD,ll,tyD,lj]
 have h2:((ts.map trD).all λx=>(ts.map trD).all λy=>vP x y)=true:=by
  rw[GbM,GaA];intro p _;simp only[GbD];rw[GbM,GaA];intro q _;simp[trD,vP,lC,tyD,aV]
 unfold keysOk;rw[h1,h2];simp
noncomputable def Jr:D->Tr
 | .tup [.int a,.int b,.int c]=>(a,b,c)
 |_=>(0,0,0)
theorem CL(ts:List Tr)(hl:ts.length<64):∃rs:List Tr,sortedS [.lst (ts.map trD)]=some ⟨.tn,.lst (rs.map trD)⟩/\rs.Perm ts:=by
 have hp:=fg (ts.map trD);have all:∀x∈bU (ts.map trD),∃p,x=trD p:=λx hx=>by
  obtain⟨p,_,e⟩:=GaG.mp (hp.mem_iff.mp hx);exact⟨p,e.symm⟩
 have e:bU (ts.map trD)=((bU (ts.map trD)).map Jr).map trD:=by
  rw[GaL]
  conv=>lhs;rw[<-Gcr (bU (ts.map trD))]
  apply GaM;intro x hx;obtain⟨p,rfl⟩:=all x hx
  rfl
 refine⟨(bU (ts.map trD)).map Jr, ?_, ?_⟩
 .rw[<-e];have h1:((ts.map trD).length<64):=by simpa using hl
  unfold sortedS one ka;simp only[Option.bind_some];rw[Jq,Gaz h1];rfl
 .have:=GdA Jr hp;rw[GaL] at this;have e2:ts.map (Jr∘trD)=ts:=by
   conv=>rhs;rw[<-Gcr ts]
   exact GaM λp _=>rfl
  rw[e2] at this;exact this
theorem tV{ns:List Int}{eC eQ n LG qa qb qc qd qe g h v:Int}{A B C O:List D}{ts xo :List Tr}{x6:Os}(xT:bA [.tup A]=some ⟨.c,.int LG⟩)(da:a5 [.scr ns,.int (900+n),.int LG]=some (.int qa))(db:a5 [.scr ns,.int (920+n),.int 50]=some (.int qb))(ms:∀j,bC eC j=true)(dc:a5 [.scr ns,.int 980,.int 2]=some (.int qc))(Sn:(n<LG/\qc=0/\g=n/\h=0)\/(¬(n<LG/\qc=0)/\g=qa/\h=eC*qb))(dd:a5 [.scr ns,.int (940+n),.int 200]=some (.int qd))(de:a5 [.scr ns,.int (960+n),.int 8]=some (.int qe))(hv:atD [D.int (1+qd),.int 1000000] (qe/7)=some (.int v))
  (hp:DL.put (kvT ts) [Sum.inl g,Sum.inl h] (.int v)=kvT xo)(hz:(kvT ts).length<1000):
  ∃y6,bN [some (.sh (.scr ns)),some (.sh (.tup [.tup A,B',C',O'])),some (.sh (.int eQ)),some (.sh (.int eC)),some (.own (.dT (kvT ts))),some (.sh (.int n)),x6]=
   some (.nx [some (.sh (.scr ns)),some (.sh (.tup [.tup A,B',C',O'])),some (.sh (.int eQ)),some (.sh (.int eC)),some (.own (.dT (kvT xo))),some (.sh (.int n)),y6]):=by
 have z:(kvT ts).length<16777216:=by lia
 generalize zG:kvT ts=kv at*;refine⟨some (.sh (.tup [.int g,.int h])), ?_⟩;unfold bN;refine(a7 (by simp[-df,xT,da,db,ms,a6];rfl)).trans ?_;refine(a7 (e:=[some (.sh (.scr ns)),some (.sh (.tup [.tup A,B',C',O'])),some (.sh (.int eQ)),some (.sh (.int eC)),some (.own (.dT kv)),some (.sh (.int n)),some (.sh (.tup [.int g,.int h]))]) ?_).trans ?_
 .rcases Sn with⟨c1,c2,rfl,rfl⟩| ⟨c,rfl,rfl⟩
  .simp[-df,xT,c1,c2,dc,a6]
  .by_cases c1:n<LG
   .have c2:¬qc=0:=λz=>c ⟨c1,z⟩;simp[-df,xT,c1,c2,dc]
   .simp[-df,xT,c1]
 .simp[dd,de,hv,putD,keyOf,z,a6,hp]
theorem wL{ns:List Int}{w:World}{eC eQ n:Int}{ts:List Tr}{x6:Os}(W:aD w)(hs:1<=eC)(eY:eC<=1000000)(hn:0<=n)(zD:n<100)(hl:ts.length<=100):
  ∃(xo :List Tr) (y6:Os),xo.length<=ts.length+1/\bN [some (.sh (.scr ns)),some (.sh (au w)),some (.sh (.int eQ)),some (.sh (.int eC)),some (.own (.dT (kvT ts))),some (.sh (.int n)),x6]=
   some (.nx [some (.sh (.scr ns)),some (.sh (au w)),some (.sh (.int eQ)),some (.sh (.int eC)),some (.own (.dT (kvT xo))),some (.sh (.int n)),y6]):=by
 have g1:=W.g1;have g6:=W.g6;have xT:bA [.tup (w.aT.map bc)]=some ⟨.c,.int (w.aT.length:Int)⟩:=by simp[bA]
 have da:=aF (ns:=ns) (k:=900+n) (m:=(w.aT.length:Int)) (by lia) (by lia) (by lia);have db:=aF (ns:=ns) (k:=920+n) (m:=50) (by lia) (by lia) (by lia);have dc:=aF (ns:=ns) (k:=980) (m:=2) (by lia) (by lia) (by lia);have dd:=aF (ns:=ns) (k:=940+n) (m:=200) (by lia) (by lia) (by lia);have de:=aF (ns:=ns) (k:=960+n) (m:=8) (by lia) (by lia) (by lia);have le:=aJ ns (960+n) 8 (by lia);obtain⟨v,_,hv⟩:=at2 (a:=1+draw ns (940+n) 200) (b:=1000000) (q:=draw ns (960+n) 8/7) (by lia) (by lia);have hz:(kvT ts).length<1000:=by unfold kvT;rw[Gac];lia
 by_cases c:n<(w.aT.length:Int)/\draw ns 980 2=0
 .obtain⟨xo,p1,p2,_⟩:=pO ts n 0 v;obtain⟨y6,e⟩:=tV (eC:=eC) (eQ:=eQ) (x6:=x6) (B:=[]) (C:=[]) (O:=[]) xT da db (λj=>bx (by lia) (by lia)) dc (.inl ⟨c.1,c.2,rfl,rfl⟩) dd de hv p1 hz;exact⟨xo,y6,p2,e⟩
 .obtain⟨xo,p1,p2,_⟩:=pO ts (draw ns (900+n) (w.aT.length:Int)) (eC*draw ns (920+n) 50) v;obtain⟨y6,e⟩:=tV (eQ:=eQ) (x6:=x6) (B:=[]) (C:=[]) (O:=[]) xT da db (λj=>bx (by lia) (by lia)) dc (.inr ⟨c,rfl,rfl⟩) dd de hv p1 hz;exact⟨xo,y6,p2,e⟩
theorem ck(ts:List Tr):aq (ts.map trD)=true:=fO pM ts
theorem wM{ns:List Int}{q1 eC eQ:Int}{wd:D}{kv:List (List Key×D)}{R Rs:List D}{y5 y6:Os}(d1:a5 [.scr ns,.int 1,.int 6]=some (.int q1))(h1:atD [D.int 1,.int 1,.int 1,.int 1,.int 1,.int 1000000] q1=some (.int eC))(sm:aZ eQ=true)
  (l1:forL (gN 5) bN (aE 0 eQ.toNat) [some (.sh (.scr ns)),some (.sh wd),some (.sh (.int eQ)),some (.sh (.int eC)),some (.own (.dT [])),none,none]=some (.nx [some (.sh (.scr ns)),some (.sh wd),some (.sh (.int eQ)),some (.sh (.int eC)),some (.own (.dT kv)),y5,y6]))
  (hz:(bB kv).length<=16777216)(hc:br (gT [0,1]) fZ (aQ (a4 (ixE (vE 0) (kE (.int 0))) (a4 (ixE (vE 0) (kE (.int 1))) (a4 (vE 1) a8)))) (bB kv) [none,none]=some R)(hs:sortedS [.lst R]=some ⟨.tn,.lst Rs⟩)(im:aq Rs=true):cP [.scr ns,wd,.int eQ]=some (.tup Rs):=by
 refine aH rfl ?_;unfold j4;refine(a7 (by simp[aM,d1,h1,a6];rfl)).trans ?_;refine(a7 (e:=[some (.sh (.scr ns)),some (.sh wd),some (.sh (.int eQ)),some (.sh (.int eC)),some (.own (.dT [])),none,none]) (by simp)).trans ?_;refine(a7 (by simp[-forL,sm,l1];rfl)).trans ?_;simp[-br,a6,DL.compEnv,cJ,hz,hc,hs,im]
theorem Ej{ns:List Int}{w:World}{n:Nat}(W:aD w)(hn:n<=60):∃ws:List Tr,ws.length<=60/\cP [.scr ns,au w,.int (n:Int)]=some (.tup (ws.map trD)):=by
 have d1:=aF (ns:=ns) (k:=1) (m:=6) (by lia) (by lia) (by lia);obtain⟨eC,c1,c2,h1⟩:=uW ns;obtain⟨e,l1,ts,y5,y6,t1,rfl⟩:=cB (g:=gN 5) (body:=bN) (λm env=>∃(ts:List Tr) (y5 y6:Os),ts.length<=m/\env=[some (.sh (.scr ns)),some (.sh (au w)),some (.sh (.int (n:Int))),some (.sh (.int eC)),some (.own (.dT (kvT ts))),y5,y6]) (aE 0 (n:Int).toNat) 0 [some (.sh (.scr ns)),some (.sh (au w)),some (.sh (.int (n:Int))),some (.sh (.int eC)),some (.own (.dT [])),none,none] ⟨[],none,none,by simp,rfl⟩ (by
  rintro i d e hd ⟨ts,y5,y6,t1,rfl⟩;obtain⟨hi,rfl⟩:=aY hd;obtain⟨xo,z6,p1,p2⟩:=wL (ns:=ns) (w:=w) (eC:=eC) (eQ:=(n:Int)) (n:=0+(i:Int)) (ts:=ts) (x6:=y6) W c1 c2 (by lia) (by lia) (by lia);exact⟨_,_,rfl,p2,xo,some (.sh (.int (0+(i:Int)))),z6,by lia,rfl⟩)
 rw[cn] at t1;obtain⟨rs,r1,r2⟩:=CL ts (by lia);have hz:(bB (kvT ts)).length<=16777216:=by rw[jq,Gac];lia
 exact⟨rs,by rw[r2.length_eq];lia,wM d1 h1 (aX (by lia) (by lia)) l1 hz (wK ts) r1 (ck rs)⟩
theorem Ek{ns:List Int}{eQ n LO o h a q:Int}{A B C O:List D}{ts t1 t2:List Tr}{x5 x6:Os}(R5:bA [.tup O]=some ⟨.c,.int LO⟩)(d0:a5 [.scr ns,.int (1000+n),.int LO]=some (.int o))(eh:i7 [.scr ns,.tup [.tup A,.tup B,.tup C,.tup O],.int o,.int (1100+n)]=some (.int h))(ea:dJ [.scr ns,.tup [.tup A,.tup B,.tup C,.tup O],.int o,.int (1100+n)]=some (.int a))(dq:a5 [.scr ns,.int (1050+n),.int 40]=some (.int q))(p1:DL.put (kvT ts) [Sum.inl o,Sum.inl h] (.int a)=kvT t1)(p2:DL.put (kvT t1) [Sum.inl o,Sum.inl h] (.int (10000000000000000000000000000000000000000+n))=kvT t2)(hz:(kvT ts).length<1000)(zW:(kvT t1).length<1000):
  bO [some (.sh (.scr ns)),some (.sh (.tup [.tup A,.tup B,.tup C,.tup O])),some (.sh (.int eQ)),some (.own (.dT (kvT ts))),some (.sh (.int n)),x5,x6]=
   some (.nx [some (.sh (.scr ns)),some (.sh (.tup [.tup A,.tup B,.tup C,.tup O])),some (.sh (.int eQ)),some (.own (.dT (if q=0 then kvT t2 else kvT t1))),some (.sh (.int n)),some (.sh (.int o)),some (.sh (.tup [.int o,.int h]))]):=by
 have z:(kvT ts).length<16777216:=by lia
 have z2:(kvT t1).length<16777216:=by lia
 generalize kvT ts=k0 at*;generalize kvT t1=k1 at*;generalize kvT t2=k2 at*;unfold bO;refine(a7 (by simp[-df,R5,d0];rfl)).trans ?_;refine(a7 (by simp[eh,a6];rfl)).trans ?_;refine(a7 (by simp[ea,putD,keyOf,z,a6,p1];rfl)).trans ?_;by_cases c:q=0
 .rw[Gaf c];simp[dq,c,putD,keyOf,z2,a6,p2]
 .rw[Gag c];simp[dq,c]
def bq(n:Nat)(gv:List Tr):Prop:=∀t∈gv,0<=t.1/\t.1<n
theorem wN{ns:List Int}{w:World}{eQ n:Int}{ts:List Tr}{x5 x6:Os}(W:aD w)(hn:0<=n)(zD:n<100)(hl:ts.length<=100)(hg:bq w.orders.length ts):
  ∃(xo :List Tr) (y5 y6:Os),xo.length<=ts.length+1/\bq w.orders.length xo /\bO [some (.sh (.scr ns)),some (.sh (au w)),some (.sh (.int eQ)),some (.own (.dT (kvT ts))),some (.sh (.int n)),x5,x6]=
   some (.nx [some (.sh (.scr ns)),some (.sh (au w)),some (.sh (.int eQ)),some (.own (.dT (kvT xo))),some (.sh (.int n)),y5,y6]):=by
 have o1:=W.o1;have o12:=W.o12;have R5:bA [.tup (w.orders.map aa)]=some ⟨.c,.int (w.orders.length:Int)⟩:=by simp[bA]
 have d0:=aF (ns:=ns) (k:=1000+n) (m:=(w.orders.length:Int)) (by lia) (by lia) (by lia);have l0:=aJ ns (1000+n) (w.orders.length:Int) (by lia);generalize draw ns (1000+n) (w.orders.length:Int)=o at*;obtain⟨h,eh⟩:=LX (ns:=ns) (w:=w) (k:=1100+n) (o:=o) W l0.1 l0.2 (by lia) (by lia);obtain⟨a,ea⟩:=GK (ns:=ns) (w:=w) (k:=1100+n) (o:=o) W l0.1 l0.2 (by lia) (by lia);have dq:=aF (ns:=ns) (k:=1050+n) (m:=40) (by lia) (by lia) (by lia);obtain⟨t1,p1,p2,p3,_,p4⟩:=pO ts o h a;obtain⟨t2,r1,r2,r3,r4,_⟩:=pO t1 o h (10000000000000000000000000000000000000000+n);have hz:(kvT ts).length<1000:=by unfold kvT;rw[Gac];lia
 have zW:(kvT t1).length<1000:=by unfold kvT;rw[Gac];lia
 have ev:=Ek (eQ:=eQ) (x5:=x5) (x6:=x6) R5 d0 eh ea dq p1 r1 hz zW;have g1:bq w.orders.length t1:=λt ht=>by
  rcases p3 t ht with q|q
  .exact hg t q
  .rw[q];exact l0
 have g2:bq w.orders.length t2:=λt ht=>by
  rcases r3 t ht with q|q
  .exact g1 t q
  .rw[q];exact l0
 by_cases c:draw ns (1050+n) 40=0
 .rw[Gaf c] at ev;exact⟨t2,_,_,by have:=r4 p4;lia,g2,ev⟩
 .rw[Gag c] at ev;exact⟨t1,_,_,by lia,g1,ev⟩
theorem wO{ns:List Int}{eQ:Int}{wd:D}{kv:List (List Key×D)}{R Rs:List D}{y4 y5 y6:Os}(sm:aZ eQ=true)
  (l1:forL (gN 4) bO (aE 0 eQ.toNat) [some (.sh (.scr ns)),some (.sh wd),some (.sh (.int eQ)),some (.own (.dT [])),none,none,none]=some (.nx [some (.sh (.scr ns)),some (.sh wd),some (.sh (.int eQ)),some (.own (.dT kv)),y4,y5,y6]))
  (hz:(bB kv).length<=16777216)(hc:br (gT [0,1]) fZ (aQ (a4 (ixE (vE 0) (kE (.int 0))) (a4 (ixE (vE 0) (kE (.int 1))) (a4 (vE 1) a8)))) (bB kv) [none,none]=some R)(hs:sortedS [.lst R]=some ⟨.tn,.lst Rs⟩)(im:aq Rs=true):cQ [.scr ns,wd,.int eQ]=some (.tup Rs):=by
 refine aH rfl ?_;unfold j5;refine(a7 (by simp[aM];rfl)).trans ?_;refine(a7 (by simp[-forL,sm,l1];rfl)).trans ?_;simp[-br,a6,DL.compEnv,cJ,hz,hc,hs,im]
theorem El{ns:List Int}{w:World}{n:Nat}(W:aD w)(hn:n<64):∃gv:List Tr,gv.length<64/\bq w.orders.length gv/\cQ [.scr ns,au w,.int (n:Int)]=some (.tup (gv.map trD)):=by
 obtain⟨e,l1,ts,y4,y5,y6,t1,t2,rfl⟩:=cB (g:=gN 4) (body:=bO) (λm env=>∃(ts:List Tr) (y4 y5 y6:Os),ts.length<=m/\bq w.orders.length ts/\env=[some (.sh (.scr ns)),some (.sh (au w)),some (.sh (.int (n:Int))),some (.own (.dT (kvT ts))),y4,y5,y6]) (aE 0 (n:Int).toNat) 0 [some (.sh (.scr ns)),some (.sh (au w)),some (.sh (.int (n:Int))),some (.own (.dT [])),none,none,none] ⟨[],none,none,none,by simp,λt ht=>by simp at ht,rfl⟩ (by
  rintro i d e hd ⟨ts,y4,y5,y6,t1,t2,rfl⟩;obtain⟨hi,rfl⟩:=aY hd;obtain⟨xo,z5,z6,p1,p2,p3⟩:=wN (ns:=ns) (w:=w) (eQ:=(n:Int)) (n:=0+(i:Int)) (ts:=ts) (x5:=y5) (x6:=y6) W (by lia) (by lia) (by lia) t2;exact⟨_,_,rfl,p3,xo,some (.sh (.int (0+(i:Int)))),z5,z6,by lia,p2,rfl⟩)
 rw[cn] at t1;obtain⟨rs,r1,r2⟩:=CL ts (by lia);have hz:(bB (kvT ts)).length<=16777216:=by rw[jq,Gac];lia
 exact⟨rs,by rw[r2.length_eq];lia,λt ht=>t2 t (r2.mem_iff.mp ht),wO (aX (by lia) (by lia)) l1 hz (wK ts) r1 (ck rs)⟩
noncomputable def fP:Option Int->D
 |some k=> .int k
 |none=> .non
@[simp] theorem Em{k:Int}:fP (some k)= .int k:=rfl
@[simp] theorem tW:fP none= .non:=rfl
theorem dD(o:Option Int):(fP o).imm=true:=by cases o<;>rfl
noncomputable def mD(b e m ea la h:Int):Option Int:=
 if(0<=(h -(b -ea))/e/\(h -(b -ea))/e<m)/\h -(b -ea)-(h -(b -ea))/e*e<=ea+la then some ((h -(b -ea))/e) else none
noncomputable def lI:sC->Int->Option Int
 | .asked _,_=>none
 | .due b e m ea la,h=>mD b e m ea la h
theorem p8{o:Order}{h:Int}(ok:ij o.cx):gX [aa o,.int h]=some (fP (lI o.cx h)):=by
 obtain⟨name,g,st,way,top,per,most,u,ts⟩:=o;unfold aa;cases u with
 |asked b=>
  unfold gX ny bM lI;simp
 |due b e m ea la=>
  obtain⟨e1,e2,hm,a0,l0,al,ab,b3⟩:=ok;have p1:∀i,bC i e=true:=λi=>jM (by lia) (by lia);have p2:0<e/\e<1073741824:=by lia
  unfold gX ny bM lI mD;simp[p1,p2];generalize hk:(h -(b -ea))/e=k;by_cases c1:0<=k
  .by_cases c2:k<m
   .by_cases c3:h -(b -ea)-k*e<=ea+la
    .have c4:¬ea+la<h -(b -ea)-k*e:=by lia
     simp[c1,c2,c3,c4]
    .have c4:ea+la<h -(b -ea)-k*e:=by lia
     simp[c1,c2,c3,c4]
   .simp[c1,c2]
  .simp[c1]
noncomputable def bD:sC->Int->Bool
 | .asked b,h=>decide (h<b)
 | .due b e m ea la,h=>(mD b e m ea la h).isNone
theorem wQ{o:Order}{h:Int}(ok:ij o.cx):kq [aa o,.int h]=some (.bl (bD o.cx h)):=by
 have d:=p8 (h:=h) ok;obtain⟨name,g,st,way,top,per,most,u,ts⟩:=o;unfold aa at d⊢;cases u with
 |asked b=>
  unfold kq nz bM bD;simp
 |due b e m ea la=>
  unfold lI at d;unfold kq nz bD;unfold bM at d⊢;have rv:=b9 (dD (mD b e m ea la h));simp[d,rv];cases mD b e m ea la h<;>simp[jX,bL]
noncomputable def wgt(g h:Int):List Tr->Option Int->Option Int
 |[],f=>f
 |t::ts,f=>wgt g h ts (if t.1=g/\t.2.1<=h then some t.2.2 else f)
theorem kH{body:DS}{wd:D}{g h:Int}(st:∀(t:Tr) (f:Option Int),body [some (.sh wd),some (.sh (.int g)),some (.sh (.int h)),some (.sh (fP f)),some (.sh (trD t))]=some (.nx [some (.sh wd),some (.sh (.int g)),some (.sh (.int h)),some (.sh (fP (if t.1=g/\t.2.1<=h then some t.2.2 else f))),some (.sh (trD t))])):
  ∀(ts:List Tr) (f:Option Int) (x4:Os),∃y4,forL (gN 4) body (ts.map trD) [some (.sh wd),some (.sh (.int g)),some (.sh (.int h)),some (.sh (fP f)),x4]=some (.nx [some (.sh wd),some (.sh (.int g)),some (.sh (.int h)),some (.sh (fP (wgt g h ts f))),y4])
 |[],f,x4=> ⟨x4,by simp[wgt]⟩
 |t::ts,f,x4=>by
  obtain⟨y4,e⟩:=kH st ts (if t.1=g/\t.2.1<=h then some t.2.2 else f) (some (.sh (trD t)));refine⟨y4, ?_⟩;have e1:=st t f;rw[GaB];show forL (gN 4) body (trD t::ts.map trD) _=_;generalize trD t=td at*;simp only[forL,gN,GaQ,GaR,Option.bind_some,e1];exact e
theorem kI{ws:List Tr}{g h:Int}:gc [.tup (ws.map trD),.int g,.int h]=some (fP (wgt g h ws none)):=by
 obtain⟨y4,e⟩:=kH (body:=gY) (wd:= .tup (ws.map trD)) (g:=g) (h:=h) (λt f=>by
  unfold gY trD;by_cases c1:t.1=g
  .by_cases c2:t.2.1<=h
   .simp[c1,c2,eqB]
   .simp[c1,c2,eqB]
  .simp[c1,eqB]) ws none none
 rw[tW] at e;have im:=dD (wgt g h ws none);refine aH rfl ?_;unfold ku;generalize fP (wgt g h ws none)=r at*;generalize ws.map trD=W at*;refine(a7 (by simp[aM];rfl)).trans ?_;refine(a7 (by simp[-forL,e];rfl)).trans ?_;simp[im]
noncomputable def cL:Cap->Option Int->Option Int
 | .ever t,_=>some t
 | .flat _ t,_=>some t
 | .kilo _ t p,w=>w.map λw=>w*t/p
theorem Bz{c:Cap}{w:Option Int}(ok:lH c):iI [aK c,fP w]=some (fP (cL c w)):=by
 cases c with
 |ever t=>unfold iI l7 aK cL;simp
 |flat h t=>unfold iI l7 aK cL;simp
 |kilo h t p=>
  obtain⟨h1,t1,t2,p1,p2⟩:=ok;cases w with
  |none=>unfold iI l7 aK cL;simp[jX,bL]
  |some w=>
   have mm:bC w t=true:=jM (by lia) (by lia);have pp:0<p/\p<1073741824:=by lia
   unfold iI l7 aK cL;simp[jX,bL,mm,pp]
noncomputable def b6:Cap->Bool
 | .kilo _ _ _=>true
 |_=>false
theorem En{s:i9}(hc:s.ar.length<=4):dH [aA s]=some (.bl (s.ar.any b6)):=by
 have c:=gK (g:=gN 0) (f:=bE (aC eqB (ixE (vE 0) (kE (.int 0))) (kE (.str "kilo")))) aK (λenv=>∃y,env=[y]) (λc=> .bl (b6 c)) s.ar [none] ⟨none,rfl⟩ (by
  rintro c hc env ⟨y,rfl⟩;refine⟨_,rfl,⟨_,rfl⟩,.c, ?_,rfl⟩;cases c<;>simp[aK,b6,eqB])
 have z:(s.ar.map aK).length<=16777216:=by rw[Gac];lia
 have e2:s.ar.map (λc=>D.bl (b6 c))=(s.ar.map b6).map D.bl:=by rw[GaL];rfl
 rw[e2] at c;have an:((s.ar.map b6).any id)=s.ar.any b6:=by rw[List.any_map];rfl
 unfold dH fS aA;generalize s.ar.map aK=C at*;rw[<-an];generalize s.ar.map b6=bs at*;simp[-br,a6,DL.compEnv,cJ,c,z]
theorem jU{ws:List Tr}{g h:Int}:fM [.tup (ws.map trD),.int g,.int h]=some (fP (wgt g h ws none)):=by
 obtain⟨y4,e⟩:=kH (body:=gx) (wd:= .tup (ws.map trD)) (g:=g) (h:=h) (λt f=>by
  unfold gx trD;by_cases c1:t.1=g
  .by_cases c2:t.2.1<=h
   .simp[c1,c2,eqB]
   .simp[c1,c2,eqB]
  .simp[c1,eqB]) ws none none
 rw[tW] at e;have im:=dD (wgt g h ws none);refine aH rfl ?_;unfold jI;generalize fP (wgt g h ws none)=r at*;generalize ws.map trD=W at*;refine(a7 (by simp[aM];rfl)).trans ?_;refine(a7 (by simp[-forL,e];rfl)).trans ?_;simp[im]
abbrev Flt:=Str×List Int
noncomputable def ae(f:Flt):D:= .tup (.str f.1::f.2.map .int)
noncomputable def kk(b:Bool)(x:Str):List Str:=if b then[x] else[]
theorem nB{L:List Str}{b:Bool}{x:Str}{t:DT}{e0 e1 e2 e3 e4 e5 e6 e7:Os}(ht:t [e0,e1,e2,e3,e4,e5,e6,e7,some (.own (.lst (L.map .str)))]=some b)(hl:L.length<1000):
  ifS t (gC 8 (kE (.str x))) aI [e0,e1,e2,e3,e4,e5,e6,e7,some (.own (.lst (L.map .str)))]=some (.nx [e0,e1,e2,e3,e4,e5,e6,e7,some (.own (.lst ((L++kk b x).map .str)))]):=by
 have z:(L.map D.str).length<16777216:=by rw[Gac];lia
 have e:(L++kk b x).map D.str=L.map D.str++(kk b x).map D.str:=by rw[GaF]
 rw[e];cases b with
 |true=>
  generalize L.map D.str=M at*;simp[ht,kk,a6,z]
 |false=>
  generalize L.map D.str=M at*;simp[ht,kk]
noncomputable def iK(o:Order)(s:i9)(Ri:Int)(ws:List Tr)(t:Tr):List Str:=
 kk (bD o.cx t.2.1) "astray"++kk (decide (o.most<t.2.2)) "most"++kk (decide (t.2.2<1)||decide (¬t.2.2%s.part=0)) "part"++kk (s.ar.any b6&&(wgt o.aw t.2.1 ws none).isNone) "weight"++kk (decide (t.2.1<Ri+s.young)) "young"
theorem cq(b:Bool)(x:Str):(kk b x).length<=1:=by cases b<;>simp[kk]
theorem Eo{K:List Str}{n h:Int}:br (gN 0) fZ (aQ (a4 (vE 0) (a4 (vE 1) (a4 (vE 2) a8)))) (K.map .str) [none,some (.sh (.int n)),some (.sh (.int h))]=some (K.map λk=>ae (k,[n,h])):=by
 refine gK (g:=gN 0) D.str (λenv=>∃y,env=[y,some (.sh (.int n)),some (.sh (.int h))]) (λk=>ae (k,[n,h])) K _ ⟨none,rfl⟩ ?_;rintro k hk env ⟨y,rfl⟩;refine⟨_,rfl,⟨_,rfl⟩,.c, ?_,rfl⟩;simp[a6,ae]
theorem cw(fs:List Flt):aq (fs.map ae)=true:=fO (λf=>by
 have:=qR f.2;simp[ae,this]) fs
theorem LY{A B C O:List D}{o:Order}{s:i9}{gu:Str×Int}{ws:List Tr}{t:Tr}(hO:atD O t.1=some (aa o))(du:ij o.cx)(hS:atD B o.ax=some (aA s))(so:iJ s)(hG:atD A o.aw=some (bc gu))(im:(aa o).imm=true):
  dW [.tup [.tup A,.tup B,.tup C,.tup O],.tup (ws.map trD),trD t]=some (.lst ((iK o s gu.2 ws t).map λk=>ae (k,[t.1,t.2.1]))):=by
 have ea:=wQ (h:=t.2.1) du;have eg:=En (s:=s) so.cl;have ew:=kI (ws:=ws) (g:=o.aw) (h:=t.2.1);have sp:=so.p1;have is:=ie s;obtain⟨n,h,a⟩:=t;dsimp only at*;have xy :=b9 (dD (wgt o.aw h ws none));generalize hW:ws.map trD=W at*;have p1:ixD (aa o) (.int 3)=some (.tup [.str o.way,.int o.top,.int o.per,.int o.most]):=rfl;have p2:ixD (aa o) (.int 1)=some (.int o.aw):=rfl;have p3:ixD (aa o) (.int 2)=some (.int o.ax):=rfl;have p4:ixD (aA s) (.int 1)=some (.tup (.int s.part::s.more.map .int)):=rfl;have p5:ixD (aA s) (.int 3)=some (.int s.young):=rfl;have p6:ixD (bc gu) (.int 1)=some (.int gu.2):=rfl;generalize aa o=OD at*;generalize aA s=SD at*;generalize bc gu=GD at*;have zy :0<s.part:=by lia
 refine aH rfl ?_;unfold j0 trD;refine(a7 (by simp[aM];rfl)).trans ?_;refine(a7 (e:=[some (.sh (.tup [.tup A,.tup B,.tup C,.tup O])),some (.sh (.tup W)),some (.sh (.tup [.int n,.int h,.int a])),some (.sh (.int n)),some (.sh (.int h)),none,none,none,none]) (by simp)).trans ?_;refine(a7 (e:=[some (.sh (.tup [.tup A,.tup B,.tup C,.tup O])),some (.sh (.tup W)),some (.sh (.tup [.int n,.int h,.int a])),some (.sh (.int n)),some (.sh (.int h)),some (.sh (.int a)),none,none,none]) (by simp)).trans ?_;refine(a7 (by simp[hO,im];rfl)).trans ?_;refine(a7 (by simp[p3,hS,is];rfl)).trans ?_;refine(a7 (e:=[some (.sh (.tup [.tup A,.tup B,.tup C,.tup O])),some (.sh (.tup W)),some (.sh (.tup [.int n,.int h,.int a])),some (.sh (.int n)),some (.sh (.int h)),some (.sh (.int a)),some (.sh OD),some (.sh SD),some (.own (.lst (([]:List Str).map .str)))]) (by simp[a6])).trans ?_;refine(a7 (nB (b:=bD o.cx h) (by simp[ea]) (by simp))).trans ?_;refine(a7 (nB (b:=decide (o.most<a)) (by simp[p1]) (by have:=cq (bD o.cx h) "astray";simp;lia))).trans ?_;refine(a7 (nB (b:=decide (a<1)||decide (¬a%s.part=0)) ?_ (by have:=cq (bD o.cx h) "astray";have:=cq (decide (o.most<a)) "most";simp;lia))).trans ?_
 .by_cases c:a<1
  .simp[c]
  .by_cases c2:a%s.part=0
   .simp[c,p4,zy,neB,c2]
   .simp[c,p4,zy,neB,c2]
 refine(a7 (nB (b:=s.ar.any b6&&(wgt o.aw h ws none).isNone) ?_ (by have:=cq (bD o.cx h) "astray";have:=cq (decide (o.most<a)) "most";have:=cq (decide (a<1)||decide (¬a%s.part=0)) "part";simp only[Gan,Gcj];lia))).trans ?_
 .generalize s.ar.any b6=bk at*;cases bk with
  |false=>simp[eg]
  |true=>
   simp[eg,p2,ew,xy];cases wgt o.aw h ws none<;>simp[jX,bL]
 refine(a7 (nB (b:=decide (h<gu.2+s.young)) (by simp[p2,hG,p6,p5]) (by have:=cq (bD o.cx h) "astray";have:=cq (decide (o.most<a)) "most";have:=cq (decide (a<1)||decide (¬a%s.part=0)) "part";have:=cq (s.ar.any b6&&(wgt o.aw h ws none).isNone) "weight";simp only[Gan,Gcj];lia))).trans ?_;have cm:=Eo (K:=[]++kk (bD o.cx h) "astray"++kk (decide (o.most<a)) "most"++kk (decide (a<1)||decide (¬a%s.part=0)) "part"++kk (s.ar.any b6&&(wgt o.aw h ws none).isNone) "weight"++kk (decide (h<gu.2+s.young)) "young") (n:=n) (h:=h);have hK:[]++kk (bD o.cx h) "astray"++kk (decide (o.most<a)) "most"++kk (decide (a<1)||decide (¬a%s.part=0)) "part"++kk (s.ar.any b6&&(wgt o.aw h ws none).isNone) "weight"++kk (decide (h<gu.2+s.young)) "young"=iK o s gu.2 ws (n,h,a):=by
  unfold iK;rw[GcE]
 have eO:([]++kk (bD o.cx h) "astray"++kk (decide (o.most<a)) "most"++kk (decide (a<1)||decide (¬a%s.part=0)) "part"++kk (s.ar.any b6&&(wgt o.aw h ws none).isNone) "weight"++kk (decide (h<gu.2+s.young)) "young").length<=5:=by
  have:=cq (bD o.cx h) "astray";have:=cq (decide (o.most<a)) "most";have:=cq (decide (a<1)||decide (¬a%s.part=0)) "part";have:=cq (s.ar.any b6&&(wgt o.aw h ws none).isNone) "weight";have:=cq (decide (h<gu.2+s.young)) "young"
  simp only[Gan,Gcj];lia
 rw[hK] at cm eO⊢;have fi:=cw ((iK o s gu.2 ws (n,h,a)).map λk=>(k,[n,h]));rw[GaL] at fi;have fi' :aq ((iK o s gu.2 ws (n,h,a)).map λk=>ae (k,[n,h]))=true:=fi;generalize iK o s gu.2 ws (n,h,a)=KL at*;have z:(KL.map D.str).length<=16777216:=by rw[Gac];lia
 generalize KL.map D.str=M at*;generalize (KL.map λk=>ae (k,[n,h]))=R at*;simp[-br,a6,DL.compEnv,cJ,cm,z,fi']
noncomputable def atT(o h:Int)(t:Tr):Bool:=decide (t.1=o/\t.2.1=h)
noncomputable def mE(ts:List Tr)(o h v:Int):List Tr:=if ts.any (atT o h) then ts.map (λt=>if atT o h t then(o,h,v) else t) else ts++[(o,h,v)]
noncomputable def gG(ts:List Tr)(o h:Int):Int:=((ts.find? (atT o h)).map (·.2.2)).getD 0
theorem uX(o h:Int)(t:Tr):decide (([Sum.inl t.1,Sum.inl t.2.1]:List Key)=[Sum.inl o,Sum.inl h])=atT o h t:=by
 unfold atT;rw[GcT];simp
theorem mF(ts:List Tr)(o h v:Int):DL.put (kvT ts) [Sum.inl o,Sum.inl h] (.int v)=kvT (mE ts o h v):=by
 unfold DL.put mE kvT;have e:((ts.map λt=>(([Sum.inl t.1,Sum.inl t.2.1]:List Key),D.int t.2.2)).any λkv=>decide (kv.1=[Sum.inl o,Sum.inl h]))=ts.any (atT o h):=by
  rw[List.any_map];congr 1
  funext t
  exact uX o h t
 rw[e];cases ts.any (atT o h) with
 |true=>
  simp only[Gbx];rw[GaL,GaL];refine GaM λt _=> ?_;simp only[Function.comp];have k:=uX o h t;by_cases c:t.1=o/\t.2.1=h
  .have e1:([Sum.inl t.1,Sum.inl t.2.1]:List Key)=[Sum.inl o,Sum.inl h]:=by rw[c.1,c.2]
   have e2:atT o h t=true:=Gaz c;rw[Gaf e1,Gaf e2,c.1,c.2]
  .have e1:¬([Sum.inl t.1,Sum.inl t.2.1]:List Key)=[Sum.inl o,Sum.inl h]:=λz=>by simp at z;exact c z
   have e2:¬atT o h t=true:=λz=>c (Gar z);rw[Gag e1,Gag e2]
 |false=>simp
theorem wR(ts:List Tr)(o h:Int):look (kvT ts) [Sum.inl o,Sum.inl h]=(ts.find? (atT o h)).map λt=>D.int t.2.2:=by
 unfold look kvT;rw[List.find?_map];have e:((λkv:List Key×D=>decide (kv.1=[Sum.inl o,Sum.inl h]))∘λt:Tr=>(([Sum.inl t.1,Sum.inl t.2.1]:List Key),D.int t.2.2))=atT o h:=by
  funext t
  exact uX o h t
 rw[e];cases ts.find? (atT o h)<;>rfl
theorem nC(ts:List Tr)(o h v:Int):(mE ts o h v).length<=ts.length+1:=by
 unfold mE;split<;>simp
noncomputable def twU(ts:List Tr)(n:Int):Option Int->List Tr
 |some k=>mE ts n k (gG ts n k+1)
 |none=>ts
noncomputable def bK(os:List Order)(ts:List Tr)(g:Tr):List Tr:=twU ts g.1 ((os[g.1.toNat]?).bind λo=>lI o.cx g.2.1)
theorem CM(ts:List Tr)(n:Int)(u:Option Int):(twU ts n u).length<=ts.length+1:=by
 cases u with
 |none=>exact Gdu _
 |some k=>exact nC _ _ _ _
theorem LZ{ts:List Tr}{o k:Int}{e0 e1 e3:Os}{n h a:Int}:Ir (vE 2) (aQ (a4 (ixE (vE 3) (kE (.int 0))) (a4 (vE 4) a8))) (kE (.int 0)) [e0,e1,some (.own (.dT (kvT ts))),some (.sh (.tup [.int o,.int h,.int a])),some (.sh (.int k))]=some ⟨.c,.int (gG ts o k)⟩:=by
 have l:=wR ts o k;unfold gG;generalize kvT ts=kv at*;cases hf:ts.find? (atT o k) with
 |none=>
  rw[hf] at l;simp at l;simp[l,keyOf,a6]
 |some t=>
  rw[hf] at l;simp at l;simp[l,keyOf,a6]
theorem Om{ts:List Tr}{n h a k:Int}{OD:D}{u:Option Int}{A B C O G:List D}{x4:Os}(hO:atD O n=some OD)(im:OD.imm=true)(ed:gX [OD,.int h]=some (fP u))(hz:(kvT ts).length<1000):
  bI [some (.sh (.tup [.tup A,.tup B,.tup C,.tup O])),some (.sh (.tup G)),some (.own (.dT (kvT ts))),some (.sh (.tup [.int n,.int h,.int a])),x4]=
   some (.nx [some (.sh (.tup [.tup A,.tup B,.tup C,.tup O])),some (.sh (.tup G)),some (.own (.dT (kvT (twU ts n u)))),some (.sh (.tup [.int n,.int h,.int a])),some (.sh (fP u))]):=by
 have z:(kvT ts).length<16777216:=by lia
 have ru:=b9 (dD u);unfold bI;refine(a7 (by simp[hO,ed,ru];rfl)).trans ?_;cases u with
 |none=>simp[gy,bL,twU]
 |some k=>
  have g:=LZ (ts:=ts) (o:=n) (k:=k) (e0:=some (.sh (.tup [.tup A,.tup B,.tup C,.tup O]))) (e1:=some (.sh (.tup G))) (e3:=none) (n:=0) (h:=h) (a:=a);have p:=mF ts n k (gG ts n k+1);rw[Em];refine(Jm (by simp[gy,bL])).trans ?_;unfold twU;rw[<-p];generalize gG ts n k=gv at*;generalize kvT ts=kv at*;unfold sr opE;rw[g];simp[putD,keyOf,z,a6]
theorem CN{w:World}(W:aD w){A B C G:List D}:∀(gv:List Tr) (ts:List Tr) (x3 x4:Os),bq w.orders.length gv->ts.length+gv.length<1000->∃y3 y4,forL (gN 3) bI (gv.map trD) [some (.sh (.tup [.tup A,.tup B,.tup C,.tup (w.orders.map aa)])),some (.sh (.tup G)),some (.own (.dT (kvT ts))),x3,x4]=
  some (.nx [some (.sh (.tup [.tup A,.tup B,.tup C,.tup (w.orders.map aa)])),some (.sh (.tup G)),some (.own (.dT (kvT (gv.foldl (bK w.orders) ts)))),y3,y4])
 |[],ts,x3,x4,_,_=> ⟨x3,x4,by simp⟩
 |g::gv,ts,x3,x4,hg,hl=>by
  have g0:=hg g Gak;obtain⟨n,hn⟩:=Gav g0.1;have h8 :n<w.orders.length:=by lia
  have hO:atD (w.orders.map aa) g.1=some (aa w.orders[n]):=by
   rw[hn,b4,Gah,Gaa h8];rfl
  have ok:=W.oo w.orders[n] (Gat h8);have ed:=p8 (h:=g.2.1) ok.du;have hz:(kvT ts).length<1000:=by unfold kvT;rw[Gac];simp at hl;lia
  have ev:=Om (A:=A) (B:=B) (C:=C) (G:=G) (ts:=ts) (n:=g.1) (h:=g.2.1) (a:=g.2.2) (k:=0) (x4:=x4) hO (cH _ ok.ti) ed hz;have es:twU ts g.1 (lI w.orders[n].cx g.2.1)=bK w.orders ts g:=by
   unfold bK;rw[hn,GaI,Gaa h8]
   rfl
  rw[es] at ev;have ln:(bK w.orders ts g).length<=ts.length+1:=by
   rw[<-es];exact CM _ _ _
  obtain⟨y3,y4,e⟩:=CN W (A:=A) (B:=B) (C:=C) (G:=G) gv (bK w.orders ts g) (some (.sh (trD g))) (some (.sh (fP (lI w.orders[n].cx g.2.1)))) (λt ht=>hg t (Gae _ ht)) (by simp at hl;lia);refine⟨y3,y4, ?_⟩;rw[GaB,GbG];have ev' :bI [some (.sh (.tup [.tup A,.tup B,.tup C,.tup (w.orders.map aa)])),some (.sh (.tup G)),some (.own (.dT (kvT ts))),some (.sh (trD g)),x4]=_:=ev;have td:D.tup [.int g.1,.int g.2.1,.int g.2.2]=trD g:=rfl;rw[td] at ev';generalize trD g=d at*;simp only[forL,gN,GaQ,GaR,Option.bind_some,ev'];exact e
noncomputable def twF(ts:List Tr):List Flt:=(ts.filter λt=>decide (1<t.2.2)).map λt=>("twice",[t.1,t.2.1])
theorem Js(ts:List Tr):br (gT [0,1]) (aC gtB (vE 1) (kE (.int 1))) (aQ (a4 (kE (.str "twice")) (a4 (ixE (vE 0) (kE (.int 0))) (a4 (ixE (vE 0) (kE (.int 1))) a8)))) (bB (kvT ts)) [none,none]=some ((twF ts).map ae):=by
 rw[jq];unfold twF;rw[GaL];refine gJ (g:=gT [0,1]) (λt:Tr=>D.tup [.tup [.int t.1,.int t.2.1],.int t.2.2]) (λenv=>∃y z,env=[y,z]) (λt=>decide (1<t.2.2)) (ae∘λt:Tr=>("twice",[t.1,t.2.1])) ts _ ⟨none,none,rfl⟩ ?_;rintro t ht env ⟨y,z,rfl⟩;refine⟨[some (.sh (.tup [.int t.1,.int t.2.1])),some (.sh (.int t.2.2))],by simp,⟨_,_,rfl⟩,by simp,λ_=> ⟨.c, ?_,rfl⟩⟩;simp[a6,ae]
theorem M0{wd:D}{G R:List D}{kv:List (List Key×D)}{y3 y4:Os}(h1:forL (gN 3) bI G [some (.sh wd),some (.sh (.tup G)),some (.own (.dT [])),none,none]=some (.nx [some (.sh wd),some (.sh (.tup G)),some (.own (.dT kv)),y3,y4]))(hz:(bB kv).length<=16777216)
  (hc:br (gT [0,1]) (aC gtB (vE 1) (kE (.int 1))) (aQ (a4 (kE (.str "twice")) (a4 (ixE (vE 0) (kE (.int 0))) (a4 (ixE (vE 0) (kE (.int 1))) a8)))) (bB kv) [none,none]=some R)(im:aq R=true):dz [wd,.tup G]=some (.lst R):=by
 refine aH rfl ?_;unfold gZ;refine(a7 (by simp[aM];rfl)).trans ?_;refine(a7 (by simp[-forL,h1];rfl)).trans ?_;simp[-br,a6,DL.compEnv,cJ,hz,hc,im]
theorem Jt{w:World}{gv:List Tr}(W:aD w)(hg:bq w.orders.length gv)(hl:gv.length<64):dz [au w,.tup (gv.map trD)]=some (.lst ((twF (gv.foldl (bK w.orders) [])).map ae))/\(gv.foldl (bK w.orders) []).length<64:=by
 have ln:∀(gv ts:List Tr),(gv.foldl (bK w.orders) ts).length<=ts.length+gv.length:=by
  intro gv;induction gv with
  |nil=>intro ts;simp
  |cons g gv ih=>
   intro ts;rw[GbG];have h1:=ih (bK w.orders ts g);have h2:(bK w.orders ts g).length<=ts.length+1:=by
    exact CM _ _ _
   rw[Gaw];lia
 have l2:=ln gv [];simp only[Gcj,Gbp] at l2;obtain⟨y3,y4,e⟩:=CN W (A:=w.aT.map bc) (B:=w.af.map aA) (C:=w.aU.map trD) (G:=gv.map trD) gv [] none none hg (by simp;lia);have hz:(bB (kvT (gv.foldl (bK w.orders) []))).length<=16777216:=by rw[jq,Gac];lia
 exact⟨M0 e hz (Js _) (cw _),by lia⟩
noncomputable def aO(ts:List Tr)(b:Tr):List Tr:=mE (mE ts b.1 b.2.1 b.2.2) b.2.1 b.1 b.2.2
theorem M1{ts:List Tr}{b:Tr}{B:List D}(hz:ts.length<1000):cA [some (.sh (.tup B)),some (.own (.dT (kvT ts))),some (.sh (trD b))]=some (.nx [some (.sh (.tup B)),some (.own (.dT (kvT (aO ts b)))),some (.sh (trD b))]):=by
 obtain⟨x,y,v⟩:=b;have p1:=mF ts x y v;have p2:=mF (mE ts x y v) y x v;have l1:=nC ts x y v;have z1:(kvT ts).length<16777216:=by unfold kvT;rw[Gac];lia
 have z2:(kvT (mE ts x y v)).length<16777216:=by unfold kvT;rw[Gac];lia
 unfold cA aO trD;dsimp only;rw[<-p2];generalize hk:kvT (mE ts x y v)=k1 at*;generalize kvT ts=k0 at*;refine(a7 (by simp[putD,keyOf,z1,a6,p1];rfl)).trans ?_;simp[putD,keyOf,z2,a6]
theorem wU{B:List D}:∀(bs ts:List Tr) (x2:Os),ts.length+2*bs.length<1000->∃y2,forL (gN 2) cA (bs.map trD) [some (.sh (.tup B)),some (.own (.dT (kvT ts))),x2]=some (.nx [some (.sh (.tup B)),some (.own (.dT (kvT (bs.foldl aO ts)))),y2])
 |[],ts,x2,_=> ⟨x2,by simp⟩
 |b::bs,ts,x2,hl=>by
  rw[Gaw] at hl;have ev:=M1 (ts:=ts) (b:=b) (B:=B) (by lia);have l1:(aO ts b).length<=ts.length+2:=by
   unfold aO;have:=nC ts b.1 b.2.1 b.2.2;have:=nC (mE ts b.1 b.2.1 b.2.2) b.2.1 b.1 b.2.2;lia
  obtain⟨y2,e⟩:=wU (B:=B) bs (aO ts b) (some (.sh (trD b))) (by lia);refine⟨y2, ?_⟩;rw[GaB,GbG];generalize trD b=d at*;simp only[forL,gN,GaQ,GaR,Option.bind_some,ev];exact e
theorem Ju(ts:List Tr):aq ((kvT ts).map λx=>x.snd)=true:=by
 unfold kvT;rw[GaL];exact fO (λ_=>rfl) ts
theorem M3{bs:List Tr}(hl:bs.length<=12):dI [.tup (bs.map trD)]=some (.dT (kvT (bs.foldl aO []))):=by
 obtain⟨y2,e⟩:=wU (B:=bs.map trD) bs [] none (by simp;lia);refine aH rfl ?_;unfold fT;refine(a7 (e:=[some (.sh (.tup (bs.map trD))),some (.own (.dT (kvT []))),none]) (by simp[aM,kvT])).trans ?_;have im:=Ju (bs.foldl aO []);generalize bs.map trD=B at*;generalize kvT (bs.foldl aO [])=kv at*;refine(a7 (e:=[some (.sh (.tup B)),some (.own (.dT kv)),y2]) (by simp[-forL,e])).trans ?_;simp[im]
noncomputable def mG(gs:List Tr)(a b:Order):Int:=if a.aw=b.aw then gG gs a.ax b.ax else 0
theorem oE{gs:List Tr}{a b:Order}:fX [.dT (kvT gs),aa a,aa b]=some (.int (mG gs a b)):=by
 have l:=wR gs a.ax b.ax;refine aH rfl ?_;unfold j3 mG gG;have a1:ixD (aa a) (.int 1)=some (.int a.aw):=rfl;have a2:ixD (aa a) (.int 2)=some (.int a.ax):=rfl;have b1:ixD (aa b) (.int 1)=some (.int b.aw):=rfl;have b2:ixD (aa b) (.int 2)=some (.int b.ax):=rfl;generalize aa a=A at*;generalize aa b=B at*;generalize kvT gs=kv at*;by_cases c:a.aw=b.aw
 .rw[Gaf c];refine(a7 (by simp[aM,a1,b1,c,neB];rfl)).trans ?_;cases hf:gs.find? (atT a.ax b.ax) with
  |none=>rw[hf] at l;simp at l;simp[a2,b2,l,keyOf,a6]
  |some t=>rw[hf] at l;simp at l;simp[a2,b2,l,keyOf,a6]
 .rw[Gag c];refine uU ?_;simp[aM,a1,b1,c,neB]
noncomputable def mk2(p:Int×Int):D:= .tup [.int p.1,.int p.2]
noncomputable def un2:D->Int×Int
 | .tup [.int a,.int b]=>(a,b)
 |_=>(0,0)
theorem Oo(p:Int×Int):un2 (mk2 p)=p:=rfl
theorem CO(l:List (Int×Int)):aq (l.map mk2)=true:=by
 induction l with
 |nil=>rfl
 |cons a l ih=>simp[mk2] at ih⊢;exact ih
theorem GL(l:List (Int×Int)):keysOk (l.map mk2)=true:=by
 have h1:(l.map mk2).all (ll 1)=true:=by
  rw[GbM,GaA];intro p _;simp[mk2,ll,tyD,lj]
 have h2:((l.map mk2).all λx=>(l.map mk2).all λy=>vP x y)=true:=by
  rw[GbM,GaA];intro p _;simp only[GbD];rw[GbM,GaA];intro q _;simp[mk2,vP,lC,tyD,aV]
 unfold keysOk;rw[h1,h2];simp
theorem M4{p q:Int×Int}(h:p.1<q.1):ltC (DL.code (mk2 p)) (DL.code (mk2 q))=true:=by
 have e:¬p.1=q.1:=by lia
 simp[mk2,DL.code,aV,ltC,dQ,ltI,e,h]
theorem qU(ms:List (Int×Int)):∃eA:List (Int×Int),bU (ms.map mk2)=eA.map mk2/\eA.Perm ms/\eA.Pairwise λa b=>a.1<=b.1:=by
 have hp:=fg (ms.map mk2);have hs:=gD (ms.map mk2);have all:∀x∈bU (ms.map mk2),∃p,x=mk2 p:=λx hx=>by
  obtain⟨p,_,e⟩:=GaG.mp (hp.mem_iff.mp hx);exact⟨p,e.symm⟩
 have e:bU (ms.map mk2)=((bU (ms.map mk2)).map un2).map mk2:=by
  rw[GaL]
  conv=>lhs;rw[<-Gcr (bU (ms.map mk2))]
  apply GaM;intro x hx;obtain⟨p,rfl⟩:=all x hx
  rfl
 refine⟨(bU (ms.map mk2)).map un2,e, ?_, ?_⟩
 .have:=GdA un2 hp;rw[GaL] at this;have e2:ms.map (un2∘mk2)=ms:=by
   conv=>rhs;rw[<-Gcr ms]
   exact GaM λp _=>Oo p
  rw[e2] at this;exact this
 .rw[e] at hs;unfold iD at hs;rw[GdW] at hs;refine hs.imp λ{a b} h=> ?_;by_cases c:b.1<a.1
  .rw[M4 c] at h;cases h
  .lia
noncomputable def sm(f:Nat->Int):Nat->Int
 |0=>0
 |n+1=>sm f n+f n
theorem CP{α:Type}(w:α->Int)(d:α)(l:List α):∀k,k<=l.length->sm (λi=>w (l[i]?.getD d)) k=((l.take k).map w).sum
 |0,_=>by simp[sm]
 |k+1,h=>by
  rw[sm,CP w d l k (by lia),GbT (by lia),GaF,List.sum_append];simp[show k<l.length by lia]
theorem GN{f a:Nat->Int}{g k:Nat}(RI:g<=k+1)(h1:∀i,i<g->f i=0)(h2:∀i,g<=i->i<=k->f i=a i)(h3:∀i,k<i->f i=0):∀n,sm f n=if n<=g then 0 else if n<=k+1 then sm a n -sm a g else sm a (k+1)-sm a g
 |0=>by simp[sm]
 |n+1=>by
  rw[sm,GN RI h1 h2 h3 n];by_cases c1:n+1<=g
  .rw[Gaf (by lia),Gaf c1,h1 n (by lia)];rfl
  .rw[Gag c1];by_cases c2:n+1<=k+1
   .rw[Gaf c2,h2 n (by lia) (by lia)];by_cases c3:n<=g
    .have e:n=g:=by lia
     subst e;rw[Gaf c3,sm];lia
    .rw[Gag c3,Gaf (by lia),sm];lia
   .rw[Gag c2,h3 n (by lia)];by_cases c3:n<=g
    .have e:n=k+1:=by lia
     have e2:g=k+1:=by lia
     rw[Gaf c3,e2];lia
    .rw[Gag c3];by_cases c4:n<=k+1
     .have e:n=k+1:=by lia
      rw[Gaf c4,e];lia
     .rw[Gag c4];lia
section
variable(eA:List (Int×Int))(H:Int)
noncomputable def hr(i:Nat):Int:=(eA[i]?.getD (0,0)).1
noncomputable def am(i:Nat):Int:=(eA[i]?.getD (0,0)).2
noncomputable def wt(H h:Int)(p:Int×Int):Int:=if h -H<p.1/\p.1<=h then p.2 else 0
noncomputable def W(h:Int):Int:=(eA.map (wt H h)).sum
end
variable{eA:List (Int×Int)}{H:Int}
theorem tX(hs:eA.Pairwise λa b=>a.1<=b.1){i j:Nat}(h:i<=j)(hj:j<eA.length):hr eA i<=hr eA j:=by
 unfold hr;have hi:i<eA.length:=by lia
 simp only[Gaa hi,Gaa hj,Option.getD_some];rcases Nat.eq_or_lt_of_le h with e|e
 .subst e;exact GbC _
 .exact Gcp.mp hs i j hi hj e
theorem Oq(hs:eA.Pairwise λa b=>a.1<=b.1){g k:Nat}(hk:k<eA.length)(RI:g<=k)(h1:∀i,i<g->hr eA i<=hr eA k -H)(h2:hr eA k -H<hr eA g)(h3:k+1=eA.length\/hr eA k<hr eA (k+1)):
  W eA H (hr eA k)=sm (am eA) (k+1)-sm (am eA) g:=by
 have e:=CP (wt H (hr eA k)) (0,0) eA eA.length (Gaq _);rw[Gcv] at e;unfold W;rw[<-e];have cut:=GN (f:=λi=>if i<eA.length then wt H (hr eA k) (eA[i]?.getD (0,0)) else 0) (a:=am eA) (g:=g) (k:=k) (by lia)
  (λi hi=>by
   show(if i<eA.length then wt H (hr eA k) (eA[i]?.getD (0,0)) else 0)=_;rw[Gaf (by lia)];unfold wt;have:=h1 i hi;unfold hr at this⊢;rw[Gag (by lia)])
  (λi i1 i2=>by
   show(if i<eA.length then wt H (hr eA k) (eA[i]?.getD (0,0)) else 0)=_;rw[Gaf (by lia)];unfold wt;have a1:=tX hs i1 (by lia);have a2:=tX hs i2 hk;unfold hr at a1 a2 h2⊢;rw[Gaf ⟨by lia,a2⟩];rfl)
  (λi hi=>by
   show(if i<eA.length then wt H (hr eA k) (eA[i]?.getD (0,0)) else 0)=_;split
   .rename_i hl;have a1:hr eA (k+1)<=hr eA i:=tX hs (by lia) hl;rcases h3 with h3|h3
    .lia
    .unfold wt;unfold hr at a1 h3⊢;rw[Gag (by lia)]
   .rfl) eA.length
 rw[Gag (by lia)] at cut;have same:∀n,n<=eA.length->sm (λi=>if i<eA.length then wt H (hr eA k) (eA[i]?.getD (0,0)) else 0) n=sm (λi=>wt H (hr eA k) (eA[i]?.getD (0,0))) n:=by
  intro n;induction n with
  |zero=>intro _;rfl
  |succ n ih=>intro hn;rw[sm,sm,ih (by lia),Gaf (by lia)]
 rw[<-same _ (Gaq _),cut];split
 .have e2:eA.length=k+1:=by lia
  rw[e2]
 .rfl
noncomputable def oF(ms:D)(H:Int)(R:List D)(F:List D)(eK gone k:Int)(row:D):DL.Env:=[some (.sh ms),some (.sh (.int H)),some (.lok (.lst R)),some (.own (.lst F)),some (.sh (.int eK)),some (.sh (.int gone)),some (.sh (.int k)),some (.sh row)]
theorem qV{g:Nat}(hg:g<eA.length):atD (eA.map mk2) (g:Int)=some (.tup [.int (hr eA g),.int (am eA g)]):=by
 rw[b4,Gah,Gaa hg];unfold hr am;simp[mk2,hg]
theorem CQ{ms:D}{R F:List D}{eK gone k h a h' a' :Int}(e:atD R gone=some (.tup [.int h',.int a'])):fq (oF ms H R F eK gone k (.tup [.int h,.int a]))=some (decide (h' <=h -H)):=by
 unfold fq oF;simp[e]
theorem Jv{ms:D}{R F:List D}{eK gone k h a h' a' :Int}(e:atD R gone=some (.tup [.int h',.int a'])):gI (oF ms H R F eK gone k (.tup [.int h,.int a]))=some (.nx (oF ms H R F (eK -a') (gone+1) k (.tup [.int h,.int a]))):=by
 unfold gI oF;simp[e]
theorem GO{ms:D}{F:List D}{k:Nat}{kk a:Int}(hH:1<=H)(hk:k<eA.length):∀(m gone fuel:Nat) (eK:Int),k -gone=m->gone<=k->m<fuel->∃g,gone<=g/\g<=k/\(∀i,gone<=i->i<g->hr eA i<=hr eA k -H)/\hr eA k -H<hr eA g/\
  gq fq gI fuel (oF ms H (eA.map mk2) F eK gone kk (.tup [.int (hr eA k),.int a]))=some (.nx (oF ms H (eA.map mk2) F (eK -(sm (am eA) g -sm (am eA) gone)) g kk (.tup [.int (hr eA k),.int a]))):=by
 intro m;induction m with
 |zero=>
  intro gone fuel eK hm hg hf;have e:gone=k:=by lia
  subst e;obtain⟨f,rfl⟩:∃f,fuel=f+1:=⟨fuel -1,by lia⟩
  refine⟨gone,Gaq _,Gaq _,λi h1 h2=>by lia,by lia, ?_⟩;unfold gq;rw[CQ (qV hk)];have c:¬hr eA gone<=hr eA gone -H:=by lia
  simp[c]
 |succ m ih=>
  intro gone fuel eK hm hg hf;obtain⟨f,rfl⟩:∃f,fuel=f+1:=⟨fuel -1,by lia⟩
  have hgl:gone<eA.length:=by lia
  unfold gq;rw[CQ (qV hgl)];by_cases c:hr eA gone<=hr eA k -H
  .obtain⟨g,q1,q2,q3,q4,q5⟩:=ih (gone+1) f (eK -am eA gone) (by lia) (by lia) (by lia);refine⟨g,by lia,q2,λi h1 h2=> ?_,q4, ?_⟩
   .rcases Nat.eq_or_lt_of_le h1 with e|e
    .subst e;exact c
    .exact q3 i e h2
   .simp only[c,decide_true,Option.bind_some,Gbx];rw[Jv (qV hgl)];simp only[Option.bind_some];have e1:((gone:Int)+1)=((gone+1:Nat):Int):=by lia
    rw[e1,q5,sm];have e2:eK -am eA gone -(sm (am eA) g -(sm (am eA) gone+am eA gone))=eK -(sm (am eA) g -sm (am eA) gone):=by lia
    rw[e2]
  .refine⟨gone,Gaq _,hg,λi h1 h2=>by lia,by lia, ?_⟩;simp[c]
noncomputable def fQ(eA:List (Int×Int))(j:Nat):Bool:=decide (j+1=eA.length)||decide (hr eA j<hr eA (j+1))
noncomputable def fnd(eA:List (Int×Int))(H:Int)(m:Nat):List (Int×Int):=((List.range m).filter (fQ eA)).map λj=>(hr eA j,W eA H (hr eA j))
theorem wV{m:Nat}:fnd eA H (m+1)=fnd eA H m++(if fQ eA m then[(hr eA m,W eA H (hr eA m))] else[]):=by
 unfold fnd;rw[GcZ,Gdg,GaF];congr 1;cases h:fQ eA m<;>simp[h]
theorem CT{m:Nat}:(fnd eA H m).length<=m:=by
 unfold fnd;rw[Gac];exact Gbh (Gcl _ _) (by simp)
theorem Jw{ms:D}{R F:List D}{eK gone kk h a xH g' n:Int}{last:Bool}(hw:gq fq gI 100000 (oF ms H R F (eK+a) gone kk (.tup [.int h,.int a]))=some (.nx (oF ms H R F xH g' kk (.tup [.int h,.int a]))))(hz:F.length<1000)(hn:(R.length:Int)=n)
  (hc:(kk+1=n/\last=true)\/(kk+1≠n/\∃h2 a2,atD R (kk+1)=some (.tup [.int h2,.int a2])/\last=decide (h<h2))):
  cE (oF ms H R F eK gone kk (.tup [.int h,.int a]))=some (.nx (oF ms H R (if last then F++[.tup [.int h,.int xH]] else F) xH g' kk (.tup [.int h,.int a]))):=by
 have z:F.length<16777216:=by lia
 unfold oF at*;unfold cE uw;rcases hc with⟨c,rfl⟩| ⟨c,h2,a2,e,rfl⟩
 .simp[hw,hn,c,a6,z]
 .by_cases c2:h<h2
  .simp[hw,hn,c,e,c2,a6,z]
  .simp[hw,hn,c,e,c2]
theorem GP{ms:D}(hH:1<=H)(hs:eA.Pairwise λa b=>a.1<=b.1)(hl:eA.length<64):∃(y4 y5 y6 y7:Os),forL (gT [6,7]) cE (dS 0 (eA.map mk2)) [some (.sh ms),some (.sh (.int H)),some (.lok (.lst (eA.map mk2))),some (.own (.lst [])),some (.sh (.int 0)),some (.sh (.int 0)),none,none]=
  some (.nx [some (.sh ms),some (.sh (.int H)),some (.lok (.lst (eA.map mk2))),some (.own (.lst ((fnd eA H eA.length).map mk2))),y4,y5,y6,y7]):=by
 obtain⟨e,h1,gone,eK,y6,y7,h2,h3,h4,rfl⟩:=cB (g:=gT [6,7]) (body:=cE) (λm env=>∃(gone:Nat) (eK:Int) (y6 y7:Os),gone<=m/\eK=sm (am eA) m -sm (am eA) gone/\(∀i,i<gone->∀j,m<=j+1->j<eA.length->hr eA i<=hr eA j -H)/\
   env=[some (.sh ms),some (.sh (.int H)),some (.lok (.lst (eA.map mk2))),some (.own (.lst ((fnd eA H m).map mk2))),some (.sh (.int eK)),some (.sh (.int gone)),y6,y7]) (dS 0 (eA.map mk2)) 0
  [some (.sh ms),some (.sh (.int H)),some (.lok (.lst (eA.map mk2))),some (.own (.lst [])),some (.sh (.int 0)),some (.sh (.int 0)),none,none] ⟨0,0,none,none,Gaq _,by simp[sm],λi hi=>by lia,rfl⟩ (by
   rintro k d e hd ⟨gone,eK,y6,y7,h2,h3,h4,rfl⟩;rw[jc,Gah] at hd;cases hk:eA[k]? with
   |none=>rw[hk] at hd;cases hd
   |some p=>
    rw[hk] at hd;have hkl:k<eA.length:=(Gaj.mp hk).1;simp only[GbZ,Gcn] at hd;subst hd;rw[Gbp] at h2 h3 h4⊢;have ep:mk2 p= .tup [.int (hr eA k),.int (am eA k)]:=by
     unfold mk2 hr am;rw[hk];rfl
    obtain⟨g,q1,q2,q3,q4,q5⟩:=GO (eA:=eA) (ms:=ms) (F:=(fnd eA H k).map mk2) (kk:=(k:Int)) (a:=am eA k) hH hkl (k -gone) gone 100000 (eK+am eA k) rfl h2 (by lia);have allg:∀i,i<g->hr eA i<=hr eA k -H:=λi hi=>by
     by_cases c:i<gone
     .exact h4 i c k (by lia) hkl
     .exact q3 i (by lia) hi
    have tot:eK+am eA k -(sm (am eA) g -sm (am eA) gone)=sm (am eA) (k+1)-sm (am eA) g:=by
     rw[h3,sm];lia
    rw[tot] at q5;have eO:((eA.map mk2).length:Int)=(eA.length:Int):=by simp
    have ev:=Jw (last:=fQ eA k) q5 (GbK (by rw[Gac];exact CT) (by lia)) eO (by
     by_cases c:k+1=eA.length
     .exact .inl ⟨by lia,by unfold fQ;simp[c]⟩
     .refine .inr ⟨by lia,hr eA (k+1),am eA (k+1), ?_,by unfold fQ;simp[c]⟩;have:=qV (eA:=eA) (g:=k+1) (by lia);rw[show((k:Int)+1)=((k+1:Nat):Int) by lia];exact this)
    refine⟨_,_, ?_,ev,g,_,some (.sh (.int (k:Int))),some (.sh (.tup [.int (hr eA k),.int (am eA k)])),by lia,rfl,λi hi j hj Qi=> ?_, ?_⟩
    .rw[ep];rfl
    .have:=allg i hi;have:=tX hs (i:=k) (j:=j) (by lia) Qi;lia
    .rw[wV];unfold oF;cases hL:fQ eA k with
     |false=>simp
     |true=>
      have hw:=Oq (H:=H) hs hkl q2 allg q4 (by
       unfold fQ at hL;rw[GaX] at hL;exact hL.imp Gar Gar)
      simp[mk2,hw])
 rw[jb,Gac,Gbp] at h1;exact⟨_,_,_,_,h1⟩
theorem mH{ms:List (Int×Int)}(hl:ms.length<64):sortedS [.lst (ms.map mk2)]=some ⟨.tn,.lst (bU (ms.map mk2))⟩:=by
 have h1:((ms.map mk2).length<64):=by simpa using hl
 unfold sortedS one ka;simp only[Option.bind_some];rw[GL,Gaz h1];rfl
theorem GQ{M R F:List D}{y4 y5 y6 y7:Os}(es:sortedS [.lst M]=some ⟨.tn,.lst R⟩)(h1:forL (gT [6,7]) cE (dS 0 R) [some (.sh (.lst M)),some (.sh (.int H)),some (.lok (.lst R)),some (.own (.lst [])),some (.sh (.int 0)),some (.sh (.int 0)),none,none]=
  some (.nx [some (.sh (.lst M)),some (.sh (.int H)),some (.lok (.lst R)),some (.own (.lst F)),y4,y5,y6,y7]))(im:aq F=true):iZ [.lst M,.int H]=some (.lst F):=by
 unfold iZ uT;simp[-forL,-dS,es,h1,a6,im]
theorem lJ:∀(a b:List Int),a.Pairwise (λx y=>x<y)->b.Pairwise (λx y=>x<y)->(∀x,x∈a↔x∈b)->a=b
 |[],[],_,_,_=>rfl
 |[],y::b,_,_,h=>absurd ((h y).mpr Gak) (by simp)
 |x::a,[],_,_,h=>absurd ((h x).mp Gak) (by simp)
 |x::a,y::b,ha,hb,h=>by
  have ha' :=Gbl.mp ha;have yD :=Gbl.mp hb;have exy:x=y:=by
   rcases GaC.mp ((h x).mp Gak) with e|e
   .exact e
   .rcases GaC.mp ((h y).mpr Gak) with e2|e2
    .exact e2.symm
    .have h3:=yD.1 x e;have h4:=ha'.1 y e2;lia
  subst exy;congr 1;refine lJ a b ha'.2 yD.2 λz=> ⟨λhz=> ?_,λhz=> ?_⟩
  .rcases GaC.mp ((h z).mp (Gae _ hz)) with e|e
   .have:=ha'.1 z hz;lia
   .exact e
  .rcases GaC.mp ((h z).mpr (Gae _ hz)) with e|e
   .have:=yD.1 z hz;lia
   .exact e
theorem GR:∀(ns ks:List Int) (x:Int),x∈ns.foldl dd1 ks↔x∈ks\/x∈ns
 |[],ks,x=>by simp
 |n::ns,ks,x=>by
  rw[GbG,GR ns (dd1 ks n) x];unfold dd1;split
  .rename_i c;constructor
   .rintro(h|h)
    .exact .inl h
    .exact .inr (Gae _ h)
   .rintro(h|h)
    .exact .inl h
    .rcases GaC.mp h with rfl|h
     .exact .inl c
     .exact .inr h
  .simp only[GaE,GaC,List.not_mem_nil,or_false];constructor
   .rintro((h|h)|h)
    .exact .inl h
    .exact .inr (.inl h)
    .exact .inr (.inr h)
   .rintro(h|h|h)
    .exact .inl (.inl h)
    .exact .inl (.inr h)
    .exact .inr h
theorem wW:∀(ns ks:List Int),ks.Nodup->(ns.foldl dd1 ks).Nodup
 |[],ks,h=>h
 |n::ns,ks,h=>by
  rw[GbG];refine wW ns _ ?_;unfold dd1;split
  .exact h
  .rename_i c;rw[GcL];refine⟨h,by simp,λa ha b hb=> ?_⟩;rw[Gbw] at hb;subst hb
   exactλe=>c (e▸ha)
theorem GU:∀(ns ks:List Int),(ns.foldl dd1 ks).length<=ks.length+ns.length
 |[],ks=>by simp
 |n::ns,ks=>by
  rw[GbG];have h:=GU ns (dd1 ks n);have h2:(dd1 ks n).length<=ks.length+1:=by unfold dd1;split<;>simp
  rw[Gaw];lia
theorem wX{a b:Int}(h:a<b):ltC (DL.code (.int a)) (DL.code (.int b))=true:=by
 have e:¬a=b:=by lia
 simp[DL.code,aV,ltC,dQ,ltI,e,h]
theorem Ep(l:List Int):∃s:List Int,s.Perm l/\s.Pairwise (λa b=>a<=b)/\bU (l.map D.int)=s.map D.int:=by
 have hp:=fg (l.map D.int);have hs:=gD (l.map D.int);have all:∀{ds:List D},(∀d∈ds,∃i:Int,d= .int i)->∃s:List Int,ds=s.map D.int:=by
  intro ds;induction ds with
  |nil=>exactλ_=> ⟨[],rfl⟩
  |cons d ds ih=>
   intro h;obtain⟨i,rfl⟩:=h d Gak;obtain⟨s,rfl⟩:=ih λx hx=>h x (Gae _ hx);exact⟨i::s,rfl⟩
 obtain⟨s,e⟩:=all (ds:=bU (l.map D.int)) λd hd=>by
  obtain⟨i,_,rfl⟩:=GaG.mp (hp.mem_iff.mp hd);exact⟨i,rfl⟩
 rw[e] at hp hs;refine⟨s, ?_, ?_,e⟩
 .have un:∀x:List Int,(x.map D.int).map (λd=>match d with| .int i=>i|_=>0)=x:=by
   intro x;rw[GaL];exact(GaM λ_ _=>rfl).trans (Gcr x)
  have:=GdA (λd=>match d with|D.int i=>i|_=>0) hp;rw[un,un] at this;exact this
 .unfold iD at hs;rw[GdW] at hs;refine hs.imp λ{a b} h=> ?_;by_cases c:b<a
  .rw[wX c] at h;cases h
  .lia
theorem GV(ns:List Int):∃S:List Int,bU ((ddF ns).map D.int)=S.map D.int/\S.Pairwise (λa b=>a<b)/\(∀x,x∈S↔x∈ns)/\S.length<=ns.length:=by
 obtain⟨s,h1,h2,h3⟩:=Ep (ddF ns);have nd:s.Nodup:=h1.nodup_iff.mpr (wW ns [] List.nodup_nil);have mem:∀x,x∈s↔x∈ns:=λx=>by rw[h1.mem_iff];unfold ddF;rw[GR];simp
 refine⟨s,h3, ?_,mem, ?_⟩
 .have:=h2.and nd;exact this.imp λ{a b} h=>by
   have h1:=h.1;have h2:a≠b:=h.2;lia
 .rw[h1.length_eq];have:=GU ns []
  simpa[ddF] using this
noncomputable def GW(ms:List (Int×Int))(H:Int)(S:List Int):List (Int×Int):=S.map λh=>(h,W ms H h)
theorem GX{l l' :List Int}(h:l.Perm l'):l.sum=l'.sum:=by
 induction h with
 |nil=>rfl
 |cons x _ ih=>simp[ih]
 |swap x y l=>simp;lia
 |trans _ _ h1 h2=>exact h1.trans h2
theorem M5{ms:List (Int×Int)}(hp:eA.Perm ms)(h:Int):W eA H h=W ms H h:=by
 unfold W;exact GX (GdA _ hp)
theorem qW(hs:eA.Pairwise λa b=>a.1<=b.1):∀(m i:Nat),eA.length -i=m->i<eA.length->∃j,j<eA.length/\hr eA j=hr eA i/\fQ eA j=true
 |0,i,hm,hi=>by lia
 |m+1,i,hm,hi=>by
  by_cases c:i+1=eA.length
  .exact⟨i,hi,rfl,by unfold fQ;simp[c]⟩
  .by_cases c2:hr eA i<hr eA (i+1)
   .exact⟨i,hi,rfl,by unfold fQ;simp[c2]⟩
   .obtain⟨j,h1,h2,h3⟩:=qW hs m (i+1) (by lia) (by lia);have:=tX hs (i:=i) (j:=i+1) (by lia) (by lia);exact⟨j,h1,by rw[h2];lia,h3⟩
theorem Jx{ms:List (Int×Int)}{S:List Int}(hs:eA.Pairwise λa b=>a.1<=b.1)(hp:eA.Perm ms)(hS:S.Pairwise λa b=>a<b)(hm:∀x,x∈S↔x∈ms.map (·.1)):fnd eA H eA.length=GW ms H S:=by
 have eT:((List.range eA.length).filter (fQ eA)).map (hr eA)=S:=by
  refine lJ _ _ ?_ hS λx=> ?_
  .rw[GdW];have pr:((List.range eA.length).filter (fQ eA)).Pairwise λi j=>i<j:=List.Pairwise.filter _ List.pairwise_lt_range;refine(List.Pairwise.and_mem.mp pr).imp λ{i j} h=> ?_;obtain⟨hi,hj,yp⟩:=h;obtain⟨i1,i2⟩:=Gbo.mp hi;obtain⟨j1,_⟩:=Gbo.mp hj;have jl:=GaZ.mp j1;unfold fQ at i2;rw[GaX] at i2;rcases i2 with i2|i2
   .have:=Gar i2;lia
   .have a1:=Gar i2;have a2:=tX hs (i:=i+1) (j:=j) (by lia) jl;lia
  .rw[hm,GaG,GaG];constructor
   .rintro⟨j,hj,rfl⟩;have jl:=GaZ.mp (Gbo.mp hj).1;exact⟨eA[j],hp.mem_iff.mp (Gat _),by unfold hr;simp[jl]⟩
   .rintro⟨p,zC,rfl⟩;obtain⟨i,hi,rfl⟩:=GdP (hp.mem_iff.mpr zC);obtain⟨j,h1,h2,h3⟩:=qW hs (eA.length -i) i rfl hi;refine⟨j,Gbo.mpr ⟨GaZ.mpr h1,h3⟩, ?_⟩;rw[h2];unfold hr;simp[hi]
 unfold fnd GW;rw[<-eT,GaL];exact GaM λj _=>by simp only[Function.comp];rw[M5 hp]
theorem GY{ms:D}{R F:List D}{eK kk h a n:Int}{last:Bool}(hz:F.length<1000)(hn:(R.length:Int)=n)
  (hc:(kk+1=n/\last=true)\/(kk+1≠n/\∃h2 a2,atD R (kk+1)=some (.tup [.int h2,.int a2])/\last=decide (h<h2))):
  cE [some (.sh ms),some (.sh .non),some (.lok (.lst R)),some (.own (.lst F)),some (.sh (.int eK)),some (.sh (.int 0)),some (.sh (.int kk)),some (.sh (.tup [.int h,.int a]))]=
   some (.nx [some (.sh ms),some (.sh .non),some (.lok (.lst R)),some (.own (.lst (if last then F++[.tup [.int h,.int (eK+a)]] else F))),some (.sh (.int (eK+a))),some (.sh (.int 0)),some (.sh (.int kk)),some (.sh (.tup [.int h,.int a]))]):=by
 have z:F.length<16777216:=by lia
 have hw:gq fq gI 100000 [some (.sh ms),some (.sh .non),some (.lok (.lst R)),some (.own (.lst F)),some (.sh (.int (eK+a))),some (.sh (.int 0)),some (.sh (.int kk)),some (.sh (.tup [.int h,.int a]))]=some (.nx [some (.sh ms),some (.sh .non),some (.lok (.lst R)),some (.own (.lst F)),some (.sh (.int (eK+a))),some (.sh (.int 0)),some (.sh (.int kk)),some (.sh (.tup [.int h,.int a]))]):=by
  have t:fq [some (.sh ms),some (.sh .non),some (.lok (.lst R)),some (.own (.lst F)),some (.sh (.int (eK+a))),some (.sh (.int 0)),some (.sh (.int kk)),some (.sh (.tup [.int h,.int a]))]=some false:=by
   unfold fq;simp
  unfold gq;rw[t];simp
 unfold cE uw;rcases hc with⟨c,rfl⟩| ⟨c,h2,a2,e,rfl⟩
 .simp[hw,hn,c,a6,z]
 .by_cases c2:h<h2
  .simp[hw,hn,c,e,c2,a6,z]
  .simp[hw,hn,c,e,c2]
theorem Er{ms:D}(hH:∀p∈eA,∀q∈eA,q.1 -H<p.1)(hs:eA.Pairwise λa b=>a.1<=b.1)(hl:eA.length<64):∃(y4 y5 y6 y7:Os),forL (gT [6,7]) cE (dS 0 (eA.map mk2)) [some (.sh ms),some (.sh .non),some (.lok (.lst (eA.map mk2))),some (.own (.lst [])),some (.sh (.int 0)),some (.sh (.int 0)),none,none]=
  some (.nx [some (.sh ms),some (.sh .non),some (.lok (.lst (eA.map mk2))),some (.own (.lst ((fnd eA H eA.length).map mk2))),y4,y5,y6,y7]):=by
 obtain⟨e,h1,eK,y6,y7,h3,rfl⟩:=cB (g:=gT [6,7]) (body:=cE) (λm env=>∃(eK:Int) (y6 y7:Os),eK=sm (am eA) m/\
   env=[some (.sh ms),some (.sh .non),some (.lok (.lst (eA.map mk2))),some (.own (.lst ((fnd eA H m).map mk2))),some (.sh (.int eK)),some (.sh (.int 0)),y6,y7]) (dS 0 (eA.map mk2)) 0
  [some (.sh ms),some (.sh .non),some (.lok (.lst (eA.map mk2))),some (.own (.lst [])),some (.sh (.int 0)),some (.sh (.int 0)),none,none] ⟨0,none,none,by simp[sm],rfl⟩ (by
   rintro k d e hd ⟨eK,y6,y7,h3,rfl⟩;rw[jc,Gah] at hd;cases hk:eA[k]? with
   |none=>rw[hk] at hd;cases hd
   |some p=>
    rw[hk] at hd;have hkl:k<eA.length:=(Gaj.mp hk).1;simp only[GbZ,Gcn] at hd;subst hd;rw[Gbp] at h3⊢;have ep:mk2 p= .tup [.int (hr eA k),.int (am eA k)]:=by
     unfold mk2 hr am;rw[hk];rfl
    have eO:((eA.map mk2).length:Int)=(eA.length:Int):=by simp
    have ev:=GY (ms:=ms) (R:=eA.map mk2) (F:=(fnd eA H k).map mk2) (eK:=eK) (kk:=(k:Int)) (h:=hr eA k) (a:=am eA k) (last:=fQ eA k) (GbK (by rw[Gac];exact CT) (by lia)) eO (by
     by_cases c:k+1=eA.length
     .exact .inl ⟨by lia,by unfold fQ;simp[c]⟩
     .refine .inr ⟨by lia,hr eA (k+1),am eA (k+1), ?_,by unfold fQ;simp[c]⟩;have:=qV (eA:=eA) (g:=k+1) (by lia);rw[show((k:Int)+1)=((k+1:Nat):Int) by lia];exact this)
    refine⟨_,_, ?_,ev,eK+am eA k,some (.sh (.int (k:Int))),some (.sh (.tup [.int (hr eA k),.int (am eA k)])),by rw[h3];rfl, ?_⟩
    .rw[ep];rfl
    .rw[wV];cases hL:fQ eA k with
     |false=>simp
     |true=>
      have hr_in:∀i,i<eA.length->∃p∈eA,p.1=hr eA i:=λi hi=> ⟨eA[i],Gat _,by unfold hr;simp[hi]⟩;have hw:=Oq (H:=H) hs hkl (GbB k) (λi hi=>by lia) (by
       obtain⟨p,hp,e1⟩:=hr_in 0 (by lia);obtain⟨q,hq,e2⟩:=hr_in k hkl;have:=hH p hp q hq;lia) (by
       unfold fQ at hL;rw[GaX] at hL;exact hL.imp Gar Gar)
      have tot:eK+am eA k=W eA H (hr eA k):=by
       rw[hw,h3];show sm (am eA) k+am eA k=sm (am eA) (k+1)-sm (am eA) 0;simp[sm]
      simp[mk2,tot])
 rw[jb,Gac,Gbp] at h1;exact⟨_,_,_,_,h1⟩
theorem Es{M R F:List D}{y4 y5 y6 y7:Os}(es:sortedS [.lst M]=some ⟨.tn,.lst R⟩)(h1:forL (gT [6,7]) cE (dS 0 R) [some (.sh (.lst M)),some (.sh .non),some (.lok (.lst R)),some (.own (.lst [])),some (.sh (.int 0)),some (.sh (.int 0)),none,none]=
  some (.nx [some (.sh (.lst M)),some (.sh .non),some (.lok (.lst R)),some (.own (.lst F)),y4,y5,y6,y7]))(im:aq F=true):iZ [.lst M,.non]=some (.lst F):=by
 unfold iZ uT;simp[-forL,-dS,es,h1,a6,im]
def HD(hd:D)(H:Int)(ms:List (Int×Int)):Prop:=(hd= .int H/\1<=H)\/(hd= .non/\∀p∈ms,∀q∈ms,q.1 -H<p.1)
theorem HD.perm{hd:D}{ms yw :List (Int×Int)}(h:HD hd H ms)(hp:ms.Perm yw):HD hd H yw :=by
 rcases h with h| ⟨h1,h2⟩
 .exact .inl h
 .exact .inr ⟨h1,λp zC q hq=>h2 p (hp.mem_iff.mpr zC) q (hp.mem_iff.mpr hq)⟩
theorem qX{hd:D}{ms yw :List (Int×Int)}{S:List Int}(h:HD hd H ms)(hp:yw.Perm ms)(hl:ms.length<64)(hS:S.Pairwise λa b=>a<b)(hm:∀x,x∈S↔x∈ms.map (·.1)):iZ [.lst (yw.map mk2),hd]=some (.lst ((GW ms H S).map mk2)):=by
 obtain⟨eA,e,xv,hs⟩:=qU yw;have yA:eA.Perm ms:=xv.trans hp;have Qg:eA.length<64:=by rw[yA.length_eq];exact hl
 have es:=mH (ms:=yw) (by rw[hp.length_eq];exact hl);rw[e] at es;rw[<-Jx hs yA hS hm];rcases h.perm yA.symm with⟨rfl,hH⟩| ⟨rfl,hH⟩
 .obtain⟨y4,y5,y6,y7,h⟩:=GP (eA:=eA) (ms:= .lst (yw.map mk2)) hH hs Qg;exact GQ es h (CO _)
 .obtain⟨y4,y5,y6,y7,h⟩:=Er (eA:=eA) (ms:= .lst (yw.map mk2)) hH hs Qg;exact Es es h (CO _)
noncomputable def gpF(os:List Order)(gs:List Tr)(r l:Int×Int):List Flt:=match os[r.2.toNat]?,os[l.2.toNat]? with
 |some a,some b=>if l.1 -r.1<mG gs a b then[("gap",[r.2,r.1,l.2,l.1])] else[]
 |_,_=>[]
noncomputable def jV(os:List Order)(gs:List Tr)(w:Int)(r:Int×Int):List (Int×Int)->List Flt
 |[]=>[]
 |l::ls=>if l.1 -r.1>=w then[] else gpF os gs r l++jV os gs w r ls
noncomputable def dR(os:List Order)(gs:List Tr)(w:Int):List (Int×Int)->List Flt
 |[]=>[]
 |r::rs=>jV os gs w r rs++dR os gs w rs
theorem CU(os:List Order)(gs:List Tr)(r l:Int×Int):(gpF os gs r l).length<=1:=by
 unfold gpF;split
 .split<;>simp
 .simp
theorem oG(os:List Order)(gs:List Tr)(w:Int)(r:Int×Int):∀ls,(jV os gs w r ls).length<=ls.length
 |[]=>by simp[jV]
 |l::ls=>by
  unfold jV;have h1:=oG os gs w r ls;have h2:=CU os gs r l;split
  .simp
  .simp;lia
theorem M6{wd:D}{G R F:List D}{kv:List (List Key×D)}{w k r1 r2 l1 l2:Int}{x9:Os}(c:l1 -r1>=w):
  bw [some (.sh wd),some (.sh (.tup G)),some (.own (.dT kv)),some (.sh (.int w)),some (.lok (.lst R)),some (.own (.lst F)),some (.sh (.int k)),some (.sh (.tup [.int r1,.int r2])),some (.sh (.tup [.int l1,.int l2])),x9]=
   some (.bk [some (.sh wd),some (.sh (.tup G)),some (.own (.dT kv)),some (.sh (.int w)),some (.lok (.lst R)),some (.own (.lst F)),some (.sh (.int k)),some (.sh (.tup [.int r1,.int r2])),some (.sh (.tup [.int l1,.int l2])),some (.sh (.int (l1 -r1)))]):=by
 unfold bw;simp[c]
theorem M7{A B C O G R F:List D}{kv:List (List Key×D)}{w k r1 r2 l1 l2 gb:Int}{o1 o2:D}{x9:Os}(c:¬l1 -r1>=w)(h1:atD O r2=some o1)(h2:atD O l2=some o2)(eb:fX [.dT kv,o1,o2]=some (.int gb))(hz:F.length<100000):
  bw [some (.sh (.tup [.tup A,.tup B,.tup C,.tup O])),some (.sh (.tup G)),some (.own (.dT kv)),some (.sh (.int w)),some (.lok (.lst R)),some (.own (.lst F)),some (.sh (.int k)),some (.sh (.tup [.int r1,.int r2])),some (.sh (.tup [.int l1,.int l2])),x9]=
   some (.nx [some (.sh (.tup [.tup A,.tup B,.tup C,.tup O])),some (.sh (.tup G)),some (.own (.dT kv)),some (.sh (.int w)),some (.lok (.lst R)),some (.own (.lst (F++(if l1 -r1<gb then[D.tup [.str "gap",.int r2,.int r1,.int l2,.int l1]] else[])))),some (.sh (.int k)),some (.sh (.tup [.int r1,.int r2])),some (.sh (.tup [.int l1,.int l2])),some (.sh (.int (l1 -r1)))]):=by
 have z:F.length<16777216:=by lia
 unfold bw;refine(a7 (e:=[some (.sh (.tup [.tup A,.tup B,.tup C,.tup O])),some (.sh (.tup G)),some (.own (.dT kv)),some (.sh (.int w)),some (.lok (.lst R)),some (.own (.lst F)),some (.sh (.int k)),some (.sh (.tup [.int r1,.int r2])),some (.sh (.tup [.int l1,.int l2])),some (.sh (.int (l1 -r1)))]) (by simp)).trans ?_;have c' :l1 -r1<w:=by lia
 refine(a7 (e:=[some (.sh (.tup [.tup A,.tup B,.tup C,.tup O])),some (.sh (.tup G)),some (.own (.dT kv)),some (.sh (.int w)),some (.lok (.lst R)),some (.own (.lst F)),some (.sh (.int k)),some (.sh (.tup [.int r1,.int r2])),some (.sh (.tup [.int l1,.int l2])),some (.sh (.int (l1 -r1)))]) (by simp[c'])).trans ?_;by_cases q:l1 -r1<gb
 .simp[q,h1,h2,eb,z,a6]
 .simp[q,h1,h2,eb]
theorem qY{w:World}{gs:List Tr}{wid k:Int}{A B C G R:List D}{r:Int×Int}(RD:0<=r.2)(QI:r.2<w.orders.length):∀(ls:List (Int×Int)) (fs:List Flt) (x8 x9:Os),(∀l∈ls,0<=l.2/\l.2<w.orders.length)->fs.length+ls.length<100000->∃y8 y9,
  forL (gN 8) bw (ls.map mk2) [some (.sh (.tup [.tup A,.tup B,.tup C,.tup (w.orders.map aa)])),some (.sh (.tup G)),some (.own (.dT (kvT gs))),some (.sh (.int wid)),some (.lok (.lst R)),some (.own (.lst (fs.map ae))),some (.sh (.int k)),some (.sh (mk2 r)),x8,x9]=
   some (.nx [some (.sh (.tup [.tup A,.tup B,.tup C,.tup (w.orders.map aa)])),some (.sh (.tup G)),some (.own (.dT (kvT gs))),some (.sh (.int wid)),some (.lok (.lst R)),some (.own (.lst ((fs++jV w.orders gs wid r ls).map ae))),some (.sh (.int k)),some (.sh (mk2 r)),y8,y9])
 |[],fs,x8,x9,_,_=> ⟨x8,x9,by simp[jV]⟩
 |l::ls,fs,x8,x9,hl,hz=>by
  rw[Gaw] at hz;by_cases c:l.1 -r.1>=wid
  .have ev:=M6 (wd:= .tup [.tup A,.tup B,.tup C,.tup (w.orders.map aa)]) (G:=G) (R:=R) (F:=fs.map ae) (kv:=kvT gs) (w:=wid) (k:=k) (r1:=r.1) (r2:=r.2) (l1:=l.1) (l2:=l.2) (x9:=x9) c;refine⟨some (.sh (mk2 l)),some (.sh (.int (l.1 -r.1))), ?_⟩;unfold jV;rw[Gaf c,GaW,GaB];have e1:D.tup [.int r.1,.int r.2]=mk2 r:=rfl;have e2:D.tup [.int l.1,.int l.2]=mk2 l:=rfl;rw[e1,e2] at ev;generalize mk2 l=ld at*;simp only[forL,gN,GaQ,GaR,Option.bind_some,ev]
  .have l0:=hl l Gak;obtain⟨n,hn⟩:=Gav RD;obtain⟨m,hm⟩:=Gav l0.1;have h8 :n<w.orders.length:=by lia
   have hm' :m<w.orders.length:=by lia
   have h1:atD (w.orders.map aa) r.2=some (aa w.orders[n]):=by rw[hn,b4,Gah,Gaa h8];rfl
   have h2:atD (w.orders.map aa) l.2=some (aa w.orders[m]):=by rw[hm,b4,Gah,Gaa hm'];rfl
   have eb:=oE (gs:=gs) (a:=w.orders[n]) (b:=w.orders[m]);have ev:=M7 (A:=A) (B:=B) (C:=C) (G:=G) (R:=R) (F:=fs.map ae) (k:=k) (x9:=x9) c h1 h2 eb (by rw[Gac];lia);have eg:(if l.1 -r.1<mG gs w.orders[n] w.orders[m] then[D.tup [.str "gap",.int r.2,.int r.1,.int l.2,.int l.1]] else[])=(gpF w.orders gs r l).map ae:=by
    unfold gpF;rw[hn,hm,GaI,GaI,Gaa h8,Gaa hm'];dsimp only;split<;>rfl
   rw[eg,<-GaF] at ev;have g1:=CU w.orders gs r l;obtain⟨y8,y9,e⟩:=qY (A:=A) (B:=B) (C:=C) (G:=G) (R:=R) (gs:=gs) (wid:=wid) (k:=k) RD QI ls (fs++gpF w.orders gs r l) (some (.sh (mk2 l))) (some (.sh (.int (l.1 -r.1)))) (λx hx=>hl x (Gae _ hx)) (by rw[Gan];lia);refine⟨y8,y9, ?_⟩
   conv=>rhs;unfold jV
   rw[Gag c,GaB,<-Gas];have e1:D.tup [.int r.1,.int r.2]=mk2 r:=rfl;have e2:D.tup [.int l.1,.int l.2]=mk2 l:=rfl;rw[e1,e2] at ev;generalize mk2 l=ld at*;simp only[forL,gN,GaQ,GaR,Option.bind_some,ev];exact e
theorem Jy{e0 e1 e2 e3 e5 e7 x8 x9:Os}{R L:List D}{k:Int}{e' :DL.Env}(hs:slD (some (k+1)) none (.lst R)=some ⟨.tn,.lst L⟩)(h:forL (gN 8) bw L [e0,e1,e2,e3,some (.lok (.lst R)),e5,some (.sh (.int k)),e7,x8,x9]=some (.nx e')):
  bY [e0,e1,e2,e3,some (.lok (.lst R)),e5,some (.sh (.int k)),e7,x8,x9]=some (.nx e'):=by
 unfold bY;simp[-forL,hs,h,freed]
theorem GZ(R:List D)(j:Nat):slD (some ((j:Int)+1)) none (.lst R)=some ⟨.tn,.lst (R.drop (j+1))⟩:=by
 show some (⟨.tn,.lst (cutD R (some ((j:Int)+1)) none)⟩:RV)=_;have e:sIx R.length 0 (some ((j:Int)+1))=min (j+1) R.length:=by
  show(if(j:Int)+1<0 then((j:Int)+1+(R.length:Int)).toNat else min ((j:Int)+1).toNat R.length)=_;rw[Gag (by lia)];congr 1
 unfold cutD;have e2:sIx R.length R.length none=R.length:=rfl;rw[e,e2];congr 3;rw[Gbn (by rw[GbJ];lia)];by_cases c:j+1<=R.length
 .rw[GbP c]
 .rw[Nat.min_eq_right (by lia),GbL,Gdw (by lia)]
theorem p9{w:World}{gs:List Tr}{wid:Int}{A B C G:List D}{eA:List (Int×Int)}(hr:∀l∈eA,0<=l.2/\l.2<w.orders.length)(hn:eA.length<64):∀(m j:Nat) (fs:List Flt) (x6 x7 x8 x9:Os),eA.length -j=m->fs.length<=64*j->∃y6 y7 y8 y9,
  forL (gT [6,7]) bY (dS j ((eA.drop j).map mk2)) [some (.sh (.tup [.tup A,.tup B,.tup C,.tup (w.orders.map aa)])),some (.sh (.tup G)),some (.own (.dT (kvT gs))),some (.sh (.int wid)),some (.lok (.lst (eA.map mk2))),some (.own (.lst (fs.map ae))),x6,x7,x8,x9]=
   some (.nx [some (.sh (.tup [.tup A,.tup B,.tup C,.tup (w.orders.map aa)])),some (.sh (.tup G)),some (.own (.dT (kvT gs))),some (.sh (.int wid)),some (.lok (.lst (eA.map mk2))),some (.own (.lst ((fs++dR w.orders gs wid (eA.drop j)).map ae))),y6,y7,y8,y9])
 |0,j,fs,x6,x7,x8,x9,hm,hf=>by
  rw[Gdw (by lia)];exact⟨x6,x7,x8,x9,by simp[dR]⟩
 |m+1,j,fs,x6,x7,x8,x9,hm,hf=>by
  have hj:j<eA.length:=by lia
  have ed:eA.drop j=eA[j]::eA.drop (j+1):=GbF hj;have r0:=hr eA[j] (Gat hj);obtain⟨y8,y9,e⟩:=qY (w:=w) (gs:=gs) (wid:=wid) (k:=(j:Int)) (A:=A) (B:=B) (C:=C) (G:=G) (R:=eA.map mk2) (r:=eA[j]) r0.1 r0.2 (eA.drop (j+1)) fs x8 x9 (λl hl=>hr l (Gbr hl)) (by rw[GbJ];lia);have lz:=oG w.orders gs wid eA[j] (eA.drop (j+1));rw[GbJ] at lz;obtain⟨z6,z7,z8,z9,e2⟩:=p9 (w:=w) (gs:=gs) (wid:=wid) (A:=A) (B:=B) (C:=C) (G:=G) (eA:=eA) hr hn m (j+1) (fs++jV w.orders gs wid eA[j] (eA.drop (j+1))) (some (.sh (.int (j:Int)))) (some (.sh (mk2 eA[j]))) y8 y9 (by lia) (by rw[Gan];lia);refine⟨z6,z7,z8,z9, ?_⟩;have ev:=Jy (GZ (eA.map mk2) j) ((by rw[<-GcB];exact e):forL (gN 8) bw ((eA.map mk2).drop (j+1)) _=_);rw[ed,GaB]
  conv=>rhs;unfold dR
  rw[<-Gas];show forL (gT [6,7]) bY (D.tup [.int (j:Int),mk2 eA[j]]::dS (j+1) ((eA.drop (j+1)).map mk2)) _=_;generalize eA[j]=rj at*;generalize (j:Int)=ji at*;generalize mk2 rj=rd at*;simp only[forL,gT,gNs,GaQ,GaR,Option.bind_some,ev];exact e2
noncomputable def wide(bs:List Tr):Int:=match bs.map (·.2.2) with
 |[]=>0
 |n::ns=>pA n ns
theorem Jz{A B C O G B' R R' F:List D}{kv:List (List Key×D)}{wid:Int}{y6 y7 y8 y9:Os}(hg:dI [.tup C]=some (.dT kv))(zc:C.length<1000)(hw:br (gN 0) fZ (ixE (vE 0) (kE (.int 2))) C [none]=some B')(hm:mmD pA (.int 0) (.lst B')=some ⟨.c,.int wid⟩)(zg:G.length<1000)(hc:br (gN 0) fZ (aQ (a4 (ixE (vE 0) (kE (.int 1))) (a4 (ixE (vE 0) (kE (.int 0))) a8))) G [none]=some R)(hs:sortedS [.lst R]=some ⟨.tn,.lst R'⟩)
  (hl:forL (gT [6,7]) bY (dS 0 R') [some (.sh (.tup [.tup A,.tup B,.tup C,.tup O])),some (.sh (.tup G)),some (.own (.dT kv)),some (.sh (.int wid)),some (.lok (.lst R')),some (.own (.lst [])),none,none,none,none]=some (.nx [some (.sh (.tup [.tup A,.tup B,.tup C,.tup O])),some (.sh (.tup G)),some (.own (.dT kv)),some (.sh (.int wid)),some (.lok (.lst R')),some (.own (.lst F)),y6,y7,y8,y9]))(im:aq F=true):
  fK [.tup [.tup A,.tup B,.tup C,.tup O],.tup G]=some (.lst F):=by
 have z1:C.length<=16777216:=by lia
 have z2:G.length<=16777216:=by lia
 have rk:iR (.dT kv)=⟨.tn,.dT kv⟩:=rfl;refine aH rfl ?_;unfold jE;refine(a7 (by simp[aM,hg,rk];rfl)).trans ?_;refine(a7 (by simp[-br,a6,DL.compEnv,cJ,hw,hm,z1];rfl)).trans ?_;refine(a7 (by simp[-br,a6,DL.compEnv,cJ,hc,hs,z2];rfl)).trans ?_;refine(a7 (by simp[a6];rfl)).trans ?_;refine(a7 (by simp[-forL,hl,freed];rfl)).trans ?_;simp[im]
noncomputable def gvR(gv:List Tr):List (Int×Int):=gv.map λt=>(t.2.1,t.1)
theorem Ot{w:World}{gv:List Tr}(W:aD w)(hg:bq w.orders.length gv)(hl:gv.length<64):∃eA:List (Int×Int),bU ((gvR gv).map mk2)=eA.map mk2/\eA.Perm (gvR gv)/\(eA.Pairwise λa b=>a.1<=b.1)/\fK [au w,.tup (gv.map trD)]=some (.lst ((dR w.orders (w.aU.foldl aO []) (wide w.aU) eA).map ae)):=by
 obtain⟨eA,r1,r2,r3⟩:=qU (gvR gv);refine⟨eA,r1,r2,r3, ?_⟩;have lr:eA.length=gv.length:=by rw[r2.length_eq];simp[gvR]
 have hr:∀l∈eA,0<=l.2/\l.2<w.orders.length:=λl hl=>by
  obtain⟨t,ht,rfl⟩:=GaG.mp (r2.mem_iff.mp hl);exact hg t ht
 have b12:=W.b12;have hw:=gK (g:=gN 0) (f:=ixE (vE 0) (kE (.int 2))) trD (λenv=>∃y,env=[y]) (λt=>D.int t.2.2) w.aU [none] ⟨none,rfl⟩ (by
  rintro t ht env ⟨y,rfl⟩;exact⟨_,rfl,⟨_,rfl⟩,.c,by simp[trD],rfl⟩)
 have hc:=gK (g:=gN 0) (f:=aQ (a4 (ixE (vE 0) (kE (.int 1))) (a4 (ixE (vE 0) (kE (.int 0))) a8))) trD (λenv=>∃y,env=[y]) (λt=>mk2 (t.2.1,t.1)) gv [none] ⟨none,rfl⟩ (by
  rintro t ht env ⟨y,rfl⟩;exact⟨_,rfl,⟨_,rfl⟩,.c,by simp[trD,mk2,a6],rfl⟩)
 have e1:gv.map (λt=>mk2 (t.2.1,t.1))=(gvR gv).map mk2:=by unfold gvR;rw[GaL];rfl
 have e2:w.aU.map (λt=>D.int t.2.2)=(w.aU.map (·.2.2)).map D.int:=by rw[GaL];rfl
 rw[e1] at hc;rw[e2] at hw;have hm:mmD pA (.int 0) (.lst ((w.aU.map (·.2.2)).map D.int))=some ⟨.c,.int (wide w.aU)⟩:=by
  unfold mmD ka wide;simp only[Option.bind_some,Eb];cases w.aU.map (·.2.2)<;>rfl
 have hs:=mH (ms:=gvR gv) (by simp[gvR];exact hl);rw[r1] at hs;obtain⟨y6,y7,y8,y9,e⟩:=p9 (w:=w) (gs:=w.aU.foldl aO []) (wid:=wide w.aU) (A:=w.aT.map bc) (B:=w.af.map aA) (C:=w.aU.map trD) (G:=gv.map trD) (eA:=eA) hr (by lia) _ 0 [] none none none none rfl (by simp);rw[Gbu,GcE] at e;exact Jz (M3 b12) (by rw[Gac];lia) hw hm (by rw[Gac];lia) hc hs e (cw _)
abbrev Tg:=(Int×Int)×List (Int×Int)
noncomputable def kJ(st:List Tg):Rws:=st.map λe=>([Sum.inl e.1.1,Sum.inl e.1.2],D.lst (e.2.map mk2))
noncomputable def tk(os:List Order)(t:Tr):Int×Int:=match os[t.1.toNat]? with
 |some o=>(o.aw,o.ax)
 |none=>(0,0)
noncomputable def CV(st:List Tg)(k m:Int×Int):List Tg:=match st.findIdx? (λe=>decide (e.1=k)) with
 |some j=>st.set j (k,((st[j]?.map (·.2)).getD [])++[m])
 |none=>st++[(k,[m])]
theorem H0(k:Int×Int)(e:Tg):decide (([Sum.inl e.1.1,Sum.inl e.1.2]:List Key)=[Sum.inl k.1,Sum.inl k.2])=decide (e.1=k):=by
 rw[GcT];obtain⟨⟨a,b⟩,l⟩:=e;obtain⟨c,d⟩:=k;simp
theorem Ha{st:List Tg}{k m:Int×Int}(hz:st.length<1000)(hm:∀e∈st,e.2.length<1000):Fh (kJ st) [Sum.inl k.1,Sum.inl k.2] (mk2 m)=some (kJ (CV st k m)):=by
 unfold Fh CV;have z:(kJ st).length<a6:=by unfold kJ a6;rw[Gac];lia
 rw[Gaf z];have ef:(kJ st).findIdx? (λp=>decide (p.1=[Sum.inl k.1,Sum.inl k.2]))=st.findIdx? (λe=>decide (e.1=k)):=by
  unfold kJ;rw[GdV];congr 1
  funext e
  exact H0 k e
 rw[ef];cases h:st.findIdx? (λe=>decide (e.1=k)) with
 |none=>
  dsimp only;unfold kJ;rw[GaF]
  rfl
 |some j=>
  obtain⟨hj,_⟩:=Gdx.mp h;have e1:(kJ st)[j]? =some ([Sum.inl st[j].1.1,Sum.inl st[j].1.2],D.lst (st[j].2.map mk2)):=by
   unfold kJ;rw[Gah,Gaa hj]
   rfl
  have z2:(st[j].2.map mk2).length<a6:=by
   have:=hm st[j] (Gat hj);rw[Gac];unfold a6;lia
  simp only[e1];rw[Gaf z2];rw[Gaa hj];unfold kJ;rw[List.map_set];simp
structure qZ(os:List Order)(pre:List Tr)(st:List Tg):Prop where
 nd:(st.map (·.1)).Nodup
 ms:∀e∈st,e.2=(pre.filter λt=>decide (tk os t=e.1)).map λt=>(t.2.1,t.2.2)
 cov:∀t∈pre,tk os t∈st.map (·.1)
 back:∀e∈st,∃t∈pre,tk os t=e.1
 ln:st.length<=pre.length
theorem qZ.step{os:List Order}{pre:List Tr}{st:List Tg}(I:qZ os pre st)(t:Tr):qZ os (pre++[t]) (CV st (tk os t) (t.2.1,t.2.2)):=by
 obtain⟨nd,ms,cov,back,ln⟩:=I;generalize hk:tk os t=k;have flt:∀q:Int×Int,((pre++[t]).filter λt=>decide (tk os t=q))=(pre.filter λt=>decide (tk os t=q))++(if k=q then[t] else[]):=λq=>by
  rw[Gdg];congr 1;by_cases c:k=q
  .rw[Gaf c];simp[hk,c]
  .rw[Gag c];simp[hk,c]
 unfold CV;cases h:st.findIdx? (λe=>decide (e.1=k)) with
 |none=>
  have no:=List.findIdx?_eq_none_iff.mp h;have nk:k∉st.map (·.1):=λhm=>by
   obtain⟨e,he,ek⟩:=GaG.mp hm;have:=no e he;simp[ek] at this
  have pre0:(pre.filter λt=>decide (tk os t=k))=[]:=by
   rw[List.filter_eq_nil_iff];intro x hx;have:=cov x hx;simp;intro q;rw[q] at this;exact nk this
  dsimp only;refine⟨?_, ?_, ?_, ?_,by simp;lia⟩
  .rw[GaF,GcL];refine⟨nd,by simp, ?_⟩;intro a ha b hb;simp at hb;rw[hb]
   exactλq=>nk (q▸ha)
  .intro e he;rcases GaE.mp he with he|he
   .rw[flt,Gag (λq=>nk (GaG.mpr ⟨e,he,q.symm⟩)),GaW];exact ms e he
   .simp at he;rw[he,flt,pre0];simp
  .intro x hx;rw[GaF];rcases GaE.mp hx with hx|hx
   .exact GbW _ (cov x hx)
   .simp at hx;rw[hx,hk];simp
  .intro e he;rcases GaE.mp he with he|he
   .obtain⟨x,hx,q⟩:=back e he;exact⟨x,GbW _ hx,q⟩
   .simp at he;rw[he];exact⟨t,by simp,hk⟩
 |some j=>
  obtain⟨hj,hp,_⟩:=Gdx.mp h;have ek:st[j].1=k:=Gar hp;dsimp only;rw[Gaa hj];have keys:(st.set j (k,(((some st[j]).map (·.2)).getD [])++[(t.2.1,t.2.2)])).map (·.1)=st.map (·.1):=by
   rw[List.map_set];have:k=(st.map (·.1))[j]'(by simpa using hj):=by rw[Gcf,ek]
   simp only
   conv=>lhs;arg 3;rw[this]
   exact List.set_getElem_self _
  have mem:∀e∈st.set j (k,(((some st[j]).map (·.2)).getD [])++[(t.2.1,t.2.2)]),e=(k,st[j].2++[(t.2.1,t.2.2)])\/(e∈st/\e.1≠k):=by
   intro e he;obtain⟨i,hi,rfl⟩:=GdP he;have hi' :i<st.length:=by simpa using hi
   by_cases c:j=i
   .subst c
    left
    simp
   .right
    rw[List.getElem_set_ne c];refine⟨Gat hi',λq=>c ?_⟩;have e1:(st.map (·.1))[j]'(by simpa using hj)=(st.map (·.1))[i]'(by simpa using hi'):=by rw[Gcf,Gcf,ek,q]
    exact(List.getElem_inj nd).mp e1
  refine⟨by rw[keys];exact nd, ?_, ?_, ?_,by simp;lia⟩
  .intro e he;rcases mem e he with q| ⟨q1,q2⟩
   .rw[q];have:=ms st[j] (Gat hj);rw[ek] at this;rw[flt,Gaf rfl,GaF,<-this]
    rfl
   .rw[flt,Gag (λz=>q2 z.symm),GaW];exact ms e q1
  .intro x hx;rw[keys];rcases GaE.mp hx with hx|hx
   .exact cov x hx
   .simp at hx;rw[hx,hk,<-ek];exact GaG.mpr ⟨_,Gat hj,rfl⟩
  .intro e he;rcases mem e he with q| ⟨q1,q2⟩
   .rw[q];exact⟨t,by simp,hk⟩
   .obtain⟨x,hx,q⟩:=back e q1;exact⟨x,GbW _ hx,q⟩
theorem qZ.Ou{os:List Order}{pre:List Tr}{st:List Tg}(I:qZ os pre st){e:Tg}(he:e∈st):e.2.length<=pre.length:=by
 rw[I.ms e he,Gac];exact Gcl _ _
theorem JA{A B C O G:List D}{eA xK :Rws}{OD:D}{n h a g s:Int}{x4:Os}(hO:atD O n=some OD)(im:OD.imm=true)(h1:ixD OD (.int 1)=some (.int g))(h2:ixD OD (.int 2)=some (.int s))(hs:Fh eA [Sum.inl g,Sum.inl s] (.tup [.int h,.int a])=some xK):
  bG [some (.sh (.tup [.tup A,.tup B,.tup C,.tup O])),some (.sh (.tup G)),none,some (.sh (.tup [.int n,.int h,.int a])),x4] eA=some ([some (.sh (.tup [.tup A,.tup B,.tup C,.tup O])),some (.sh (.tup G)),none,some (.sh (.tup [.int n,.int h,.int a])),some (.sh OD)],xK):=by
 unfold bG;simp[hO,im,h1,h2,hs,a6,keysOf,keyOf,C9]
theorem tY{w:World}(W:aD w){A B C G:List D}:∀(gv pre:List Tr) (st:List Tg) (x3 x4:Os),bq w.orders.length gv->qZ w.orders pre st->pre.length+gv.length<64->∃y3 y4 xI,qZ w.orders (pre++gv) xI /\
  mX 3 bG (gv.map trD) [some (.sh (.tup [.tup A,.tup B,.tup C,.tup (w.orders.map aa)])),some (.sh (.tup G)),none,x3,x4] (kJ st)=some ([some (.sh (.tup [.tup A,.tup B,.tup C,.tup (w.orders.map aa)])),some (.sh (.tup G)),none,y3,y4],kJ xI)
 |[],pre,st,x3,x4,_,I,_=> ⟨x3,x4,st,by rw[GaW];exact I,by simp⟩
 |t::gv,pre,st,x3,x4,hg,I,hl=>by
  rw[Gaw] at hl;have g0:=hg t Gak;obtain⟨n,hn⟩:=Gav g0.1;have h8 :n<w.orders.length:=by lia
  have hO:atD (w.orders.map aa) t.1=some (aa w.orders[n]):=by
   rw[hn,b4,Gah,Gaa h8];rfl
  have ok:=W.oo w.orders[n] (Gat h8);have ek:tk w.orders t=(w.orders[n].aw,w.orders[n].ax):=by
   unfold tk;rw[hn,GaI,Gaa h8]
  have ln:=I.ln;have sd:=Ha (st:=st) (k:=tk w.orders t) (m:=(t.2.1,t.2.2)) (by lia) (λe he=>by have:=I.Ou he;lia);have ev:=JA (A:=A) (B:=B) (C:=C) (G:=G) (n:=t.1) (h:=t.2.1) (a:=t.2.2) (g:=w.orders[n].aw) (s:=w.orders[n].ax) (x4:=x4) hO (cH _ ok.ti) rfl rfl (by rw[ek] at sd;exact sd);obtain⟨y3,y4,xI,I',e⟩:=tY W (A:=A) (B:=B) (C:=C) (G:=G) gv (pre++[t]) _ (some (.sh (trD t))) (some (.sh (aa w.orders[n]))) (λx hx=>hg x (Gae _ hx)) (I.step t) (by simp;lia);refine⟨y3,y4,xI,by rw[Gas] at I';exact I', ?_⟩;rw[GaB];have td:D.tup [.int t.1,.int t.2.1,.int t.2.2]=trD t:=rfl;rw[td] at ev;rw[ek] at e;generalize trD t=d at*;simp only[mX,GaQ,GaR,ev,Option.bind_some];exact e
theorem Et{A B C O G:List D}{kv:Rws}{y3 y4:Os}(ig:aq G=true)(h:mX 3 bG G [some (.sh (.tup [.tup A,.tup B,.tup C,.tup O])),some (.sh (.tup G)),none,none,none] []=some ([some (.sh (.tup [.tup A,.tup B,.tup C,.tup O])),some (.sh (.tup G)),none,y3,y4],kv)):cj [.tup [.tup A,.tup B,.tup C,.tup O],.tup G]=some (.dT kv):=by
 refine aH rfl ?_;unfold fI;simp[-mX,aM,ig,h]
theorem JB{w:World}{gv:List Tr}(W:aD w)(hg:bq w.orders.length gv)(hl:gv.length<64):∃st,qZ w.orders gv st/\cj [au w,.tup (gv.map trD)]=some (.dT (kJ st)):=by
 obtain⟨y3,y4,st,I,e⟩:=tY W (A:=w.aT.map bc) (B:=w.af.map aA) (C:=w.aU.map trD) (G:=gv.map trD) gv [] [] none none hg ⟨by simp,by simp,by simp,by simp,by simp⟩ (by simpa using hl);exact⟨st,by simpa using I,Et (ck gv) e⟩
noncomputable def kK(ns:List Int):List Int:=(bU ((ddF ns).map D.int)).map unI
theorem kL(ns:List Int):(kK ns).Pairwise (λa b=>a<b)/\(∀x,x∈kK ns↔x∈ns)/\(kK ns).length<=ns.length:=by
 obtain⟨S,h1,h2,h3,h4⟩:=GV ns;have e:kK ns=S:=by
  unfold kK;rw[h1,GaL]
  conv=>rhs;rw[<-Gcr S]
  exact GaM λ_ _=>rfl
 rw[e];exact⟨h2,h3,h4⟩
noncomputable def iL:Cap->Int->Int->Bool
 | .flat H _,h,a=>decide (h -H<a)&&decide (a<=h)
 | .kilo H _ _,h,a=>decide (h -H<a)&&decide (a<=h)
 | .ever _,h,a=>decide (a<=h)
noncomputable def j7(c:Cap)(ms:List (Int×Int))(h:Int):Int:=(ms.map λp=>if iL c h p.1 then p.2 else 0).sum
noncomputable def kM:Cap->D
 | .flat H _=> .int H
 | .kilo H _ _=> .int H
 | .ever _=> .non
theorem Ov(ms:List (Int×Int)):∃H:Int,∀p∈ms,∀q∈ms,q.1 -H<p.1:=by
 have:∃B:Int,∀p∈ms,-B<p.1/\p.1<B:=by
  induction ms with
  |nil=>exact⟨0,by simp⟩
  |cons p ms ih=>
   obtain⟨B,hB⟩:=ih;refine⟨(if B<0 then -B else B)+(if p.1<0 then -p.1 else p.1)+1, ?_⟩;intro q hq;rcases GaC.mp hq with rfl|hq
   .split<;>split<;>lia
   .have:=hB q hq;split<;>split<;>lia
 obtain⟨B,hB⟩:=this;refine⟨2*B,λp hp q hq=> ?_⟩;have:=hB p hp;have:=hB q hq;lia
theorem Hb{c:Cap}{ms:List (Int×Int)}(ok:lH c)(hl:ms.length<64):iZ [.lst (ms.map mk2),kM c]=some (.lst (((kK (ms.map (·.1))).map λh=>(h,j7 c ms h)).map mk2)):=by
 obtain⟨h1,h2,h3⟩:=kL (ms.map (·.1));have fin:∀(H:Int),(∀h,h∈ms.map (·.1)->∀p∈ms,wt H h p=if iL c h p.1 then p.2 else 0)->GW ms H (kK (ms.map (·.1)))=(kK (ms.map (·.1))).map λh=>(h,j7 c ms h):=λH e=>by
  unfold GW;refine GaM λh hh=> ?_;unfold W j7;rw[GaM λp hp=>e h ((h2 h).mp hh) p hp]
 have lim:∀(H h:Int) (p:Int×Int),wt H h p=if(decide (h -H<p.1)&&decide (p.1<=h)) then p.2 else 0:=λH h p=>by
  unfold wt;by_cases c1:h -H<p.1<;>by_cases c2:p.1<=h<;>simp[c1,c2]
 cases c with
 |flat H t=>
  rw[<-fin H (λh _ p _=>lim H h p)];exact qX (.inl ⟨rfl,ok.1⟩) (List.Perm.refl _) hl h1 h2
 |kilo H t p=>
  rw[<-fin H (λh _ p _=>lim H h p)];exact qX (.inl ⟨rfl,ok.1⟩) (List.Perm.refl _) hl h1 h2
 |ever t=>
  obtain⟨H,hH⟩:=Ov ms;rw[<-fin H (λh hh p hp=>by
   obtain⟨q,hq,rfl⟩:=GaG.mp hh;rw[lim];have:=hH p hp q hq;simp[iL,this])]
  exact qX (.inr ⟨rfl,hH⟩) (List.Perm.refl _) hl h1 h2
noncomputable def dE(ws:List Tr)(c:Cap)(g s k:Int)(r:Int×Int):List Flt:=match cL c (wgt g r.1 ws none) with
 |some top=>if r.2>top then[("cap",[g,s,k,r.1,r.2,top])] else[]
 |none=>[]
noncomputable def kN(ws:List Tr)(g s k:Int)(c:Cap)(ms:List (Int×Int)):List Flt:=((kK (ms.map (·.1))).map λh=>(h,j7 c ms h)).flatMap (dE ws c g s k)
noncomputable def jW(ws:List Tr)(g s:Int)(ms:List (Int×Int)):Nat->List Cap->List Flt
 |_,[]=>[]
 |k,c::cs=>kN ws g s (k:Int) c ms++jW ws g s ms (k+1) cs
theorem jN(ws:List Tr)(c:Cap)(g s k:Int)(r:Int×Int):(dE ws c g s k r).length<=1:=by
 unfold dE;split
 .split<;>simp
 .simp
theorem r6{α β:Type}(f:α->List β)(h:∀a,(f a).length<=1):∀l:List α,(l.flatMap f).length<=l.length
 |[]=>by simp
 |a::l=>by
  have h1:=h a;have h2:=r6 f h l;simp;simp at h2;lia
theorem r9(ws:List Tr)(g s k:Int)(c:Cap)(ms:List (Int×Int)):(kN ws g s k c ms).length<=ms.length:=by
 unfold kN;have h1:=r6 _ (jN ws c g s k) ((kK (ms.map (·.1))).map λh=>(h,j7 c ms h));have h2:=(kL (ms.map (·.1))).2.2;rw[Gac] at h1 h2;lia
theorem oH(ws:List Tr)(g s:Int)(ms:List (Int×Int)):∀(k:Nat) (cs:List Cap),(jW ws g s ms k cs).length<=cs.length*ms.length
 |_,[]=>by simp[jW]
 |k,c::cs=>by
  have h1:=r9 ws g s (k:Int) c ms;have h2:=oH ws g s ms (k+1) cs;unfold jW;rw[Gan,Gaw,Gea];lia
noncomputable def Eu(to:Option Int)(g s k r1 r2:Int):List D:=match to with
 |some top=>if r2>top then[D.tup [.str "cap",.int g,.int s,.int k,.int r1,.int r2,.int top]] else[]
 |none=>[]
theorem M8{e0 e2 e5 e9 hJ:Os}{W F:List D}{T0:D}{g s k r1 r2:Int}{cd:D}{wo to:Option Int}(ew:gc [.tup W,.int g,.int r1]=some (fP wo))(eb:iI [cd,fP wo]=some (fP to))(hz:F.length<100000):
  bW [e0,some (.sh (.tup W)),e2,some (.own (.lst F)),some (.sh (.tup [.int g,.int s])),e5,some (.sh (.int g)),some (.sh (.int k)),some (.sh cd),e9,some (.sh (.tup [.int r1,.int r2])),hJ]=
   some (.nx [e0,some (.sh (.tup W)),e2,some (.own (.lst (F++Eu to g s k r1 r2))),some (.sh (.tup [.int g,.int s])),e5,some (.sh (.int g)),some (.sh (.int k)),some (.sh cd),e9,some (.sh (.tup [.int r1,.int r2])),some (.sh (fP to))]):=by
 have z:F.length<16777216:=by lia
 have xy :=b9 (dD wo);have rt:=b9 (dD to);unfold bW;refine(a7 (by simp[ew,xy,eb,rt];rfl)).trans ?_;cases to with
 |none=>simp[gy,bL,Eu]
 |some top=>
  by_cases c:r2>top
  .have c' :top<r2:=c;simp[gy,bL,c',z,a6,Eu]
  .have c' :¬top<r2:=c;simp[gy,bL,c',Eu]
theorem wY{ws:List Tr}{c:Cap}{g s k:Int}{e0 e2 e5 e9:Os}(ok:lH c):∀(rs:List (Int×Int)) (fs:List Flt) (eV hJ:Os),fs.length+rs.length<100000->∃h7 xl,
  forL (gN 10) bW (rs.map mk2) [e0,some (.sh (.tup (ws.map trD))),e2,some (.own (.lst (fs.map ae))),some (.sh (.tup [.int g,.int s])),e5,some (.sh (.int g)),some (.sh (.int k)),some (.sh (aK c)),e9,eV,hJ]=
   some (.nx [e0,some (.sh (.tup (ws.map trD))),e2,some (.own (.lst ((fs++rs.flatMap (dE ws c g s k)).map ae))),some (.sh (.tup [.int g,.int s])),e5,some (.sh (.int g)),some (.sh (.int k)),some (.sh (aK c)),e9,h7,xl])
 |[],fs,eV,hJ,_=> ⟨eV,hJ,by simp⟩
 |r::rs,fs,eV,hJ,hz=>by
  rw[Gaw] at hz;have ew:=kI (ws:=ws) (g:=g) (h:=r.1);have eb:=Bz (c:=c) (w:=wgt g r.1 ws none) ok;have ev:=M8 (e0:=e0) (e2:=e2) (e5:=e5) (e9:=e9) (hJ:=hJ) (F:=fs.map ae) (T0:= .non) (s:=s) (k:=k) (r2:=r.2) ew eb (by rw[Gac];lia);have eg:Eu (cL c (wgt g r.1 ws none)) g s k r.1 r.2=(dE ws c g s k r).map ae:=by
   unfold dE Eu;cases cL c (wgt g r.1 ws none) with
   |none=>rfl
   |some top=>
    dsimp only;split<;>rfl
  rw[eg,<-GaF] at ev;have l1:=jN ws c g s k r;obtain⟨h7,xl,e⟩:=wY (ws:=ws) (c:=c) (g:=g) (s:=s) (k:=k) (e0:=e0) (e2:=e2) (e5:=e5) (e9:=e9) ok rs (fs++dE ws c g s k r) (some (.sh (mk2 r))) (some (.sh (fP (cL c (wgt g r.1 ws none))))) (by rw[Gan];lia);refine⟨h7,xl, ?_⟩;rw[GaB,Gbb,<-Gas];have e2:D.tup [.int r.1,.int r.2]=mk2 r:=rfl;rw[e2] at ev;generalize mk2 r=rd at*;generalize aK c=cd at*;simp only[forL,gN,GaQ,GaR,Option.bind_some,ev];exact e
theorem M9{e0 e1 e2 e3 e4 e6 e7 x9 eV hJ:Os}{M R:List D}{c:Cap}{e' :DL.Env}(hs:iZ [.lst M,kM c]=some (.lst R))(h:forL (gN 10) bW R [e0,e1,e2,e3,e4,some (.sh (.lst M)),e6,e7,some (.sh (aK c)),some (.sh (kM c)),eV,hJ]=some (.nx e')):
  bX [e0,e1,e2,e3,e4,some (.sh (.lst M)),e6,e7,some (.sh (aK c)),x9,eV,hJ]=some (.nx e'):=by
 have rl:iR (.lst R)=⟨.tn,.lst R⟩:=rfl;unfold bX;refine(a7 (e:=[e0,e1,e2,e3,e4,some (.sh (.lst M)),e6,e7,some (.sh (aK c)),some (.sh (kM c)),eV,hJ]) ?_).trans ?_
 .cases c<;>simp[aK,kM,eqB]
 .have xU :∀d:D,d=kM c->dP none (iA (aj iZ (a4 (vE 5) (a4 (vE 9) a8)))) (gN 10) bW [e0,e1,e2,e3,e4,some (.sh (.lst M)),e6,e7,some (.sh (aK c)),some (.sh d),eV,hJ]=some (.nx e'):=λd hd=>by
   rw[<-hd] at hs h;generalize aK c=cd at*;simp[-forL,hs,h,freed]
  exact xU _ rfl
theorem tZ{ws:List Tr}{g s:Int}{ms:List (Int×Int)}{e0 e2:Os}(hm:ms.length<64):∀(cs:List Cap) (k:Nat) (fs:List Flt) (x7 x8 x9 eV hJ:Os),(∀c∈cs,lH c)->fs.length+cs.length*ms.length<50000->∃y7 y8 y9 h7 xl,
  forL (gT [7,8]) bX (dS k (cs.map aK)) [e0,some (.sh (.tup (ws.map trD))),e2,some (.own (.lst (fs.map ae))),some (.sh (.tup [.int g,.int s])),some (.sh (.lst (ms.map mk2))),some (.sh (.int g)),x7,x8,x9,eV,hJ]=
   some (.nx [e0,some (.sh (.tup (ws.map trD))),e2,some (.own (.lst ((fs++jW ws g s ms k cs).map ae))),some (.sh (.tup [.int g,.int s])),some (.sh (.lst (ms.map mk2))),some (.sh (.int g)),y7,y8,y9,h7,xl])
 |[],k,fs,x7,x8,x9,eV,hJ,_,_=> ⟨x7,x8,x9,eV,hJ,by simp[jW]⟩
 |c::cs,k,fs,x7,x8,x9,eV,hJ,ok,hz=>by
  have ok0:=ok c Gak;rw[Gaw,Gea] at hz;have es:=Hb (ms:=ms) ok0 hm;have hl:=(kL (ms.map (·.1))).2.2;rw[Gac] at hl;obtain⟨h7,xl,e⟩:=wY (ws:=ws) (c:=c) (g:=g) (s:=s) (k:=(k:Int)) (e0:=e0) (e2:=e2) (e5:=some (.sh (.lst (ms.map mk2)))) (e9:=some (.sh (kM c))) ok0 ((kK (ms.map (·.1))).map λh=>(h,j7 c ms h)) fs eV hJ (by rw[Gac];lia);have ev:=M9 (x9:=x9) es e;have lz:=r9 ws g s (k:Int) c ms;obtain⟨z7,z8,z9,yr,zw,e'⟩:=tZ (ws:=ws) (g:=g) (s:=s) (ms:=ms) (e0:=e0) (e2:=e2) hm cs (k+1) (fs++kN ws g s (k:Int) c ms) (some (.sh (.int (k:Int)))) (some (.sh (aK c))) (some (.sh (kM c))) h7 xl (λx hx=>ok x (Gae _ hx)) (by rw[Gan];lia);refine⟨z7,z8,z9,yr,zw, ?_⟩;rw[GaB]
  conv=>rhs;unfold jW
  rw[<-Gas];show forL (gT [7,8]) bX (D.tup [.int (k:Int),aK c]::dS (k+1) (cs.map aK)) _=_;unfold kN at e' ⊢;generalize (k:Int)=ki at*;generalize aK c=cd at*;simp only[forL,gT,gNs,GaQ,GaR,Option.bind_some,ev];exact e'
noncomputable def tgF(ss:List i9)(ws:List Tr)(e:Tg):List Flt:=jW ws e.1.1 e.1.2 e.2 0 ((ss[e.1.2.toNat]?.map (·.ar)).getD [])
theorem Ox{A B C O W M Cs F F' :List D}{e2 x6 x7 x8 x9 eV hJ y7 y8 y9 h7 xl:Os}{g s:Int}{nm sz yg:D}(hS:atD B s=some (.tup [nm,sz,.tup Cs,yg]))
  (h:forL (gT [7,8]) bX (dS 0 Cs) [some (.sh (.tup [.tup A,.tup B,.tup C,.tup O])),some (.sh (.tup W)),e2,some (.own (.lst F)),some (.sh (.tup [.int g,.int s])),some (.sh (.lst M)),some (.sh (.int g)),x7,x8,x9,eV,hJ]=some (.nx [some (.sh (.tup [.tup A,.tup B,.tup C,.tup O])),some (.sh (.tup W)),e2,some (.own (.lst F')),some (.sh (.tup [.int g,.int s])),some (.sh (.lst M)),some (.sh (.int g)),y7,y8,y9,h7,xl])):
  cO [some (.sh (.tup [.tup A,.tup B,.tup C,.tup O])),some (.sh (.tup W)),e2,some (.own (.lst F)),some (.sh (.tup [.int g,.int s])),some (.sh (.lst M)),x6,x7,x8,x9,eV,hJ]=some (.nx [some (.sh (.tup [.tup A,.tup B,.tup C,.tup O])),some (.sh (.tup W)),e2,some (.own (.lst F')),some (.sh (.tup [.int g,.int s])),some (.sh (.lst M)),some (.sh (.int g)),y7,y8,y9,h7,xl]):=by
 unfold cO;refine(a7 (e:=[some (.sh (.tup [.tup A,.tup B,.tup C,.tup O])),some (.sh (.tup W)),e2,some (.own (.lst F)),some (.sh (.tup [.int g,.int s])),some (.sh (.lst M)),some (.sh (.int g)),x7,x8,x9,eV,hJ]) (by simp)).trans ?_;simp[-forL,-dS,hS,h,freed]
theorem CW{w:World}(W:aD w){ws:List Tr}{A C O:List D}{e2:Os}:∀(st:List Tg) (fs:List Flt) (x4 x5 x6 x7 x8 x9 eV hJ:Os),(∀e∈st,0<=e.1.2/\e.1.2<w.af.length/\e.2.length<64)->fs.length+st.length*256<40000->∃y4 y5 y6 y7 y8 y9 h7 xl,
  forL (gT [4,5]) cO (bB (kJ st)) [some (.sh (.tup [.tup A,.tup (w.af.map aA),.tup C,.tup O])),some (.sh (.tup (ws.map trD))),e2,some (.own (.lst (fs.map ae))),x4,x5,x6,x7,x8,x9,eV,hJ]=
   some (.nx [some (.sh (.tup [.tup A,.tup (w.af.map aA),.tup C,.tup O])),some (.sh (.tup (ws.map trD))),e2,some (.own (.lst ((fs++st.flatMap (tgF w.af ws)).map ae))),y4,y5,y6,y7,y8,y9,h7,xl])
 |[],fs,x4,x5,x6,x7,x8,x9,eV,hJ,_,_=> ⟨x4,x5,x6,x7,x8,x9,eV,hJ,by simp[kJ,bB]⟩
 |e::st,fs,x4,x5,x6,x7,x8,x9,eV,hJ,he,hz=>by
  rw[Gaw,Gea] at hz;obtain⟨s0,s1,ml⟩:=he e Gak;obtain⟨n,hn⟩:=Gav s0;have h8 :n<w.af.length:=by lia
  have hS:atD (w.af.map aA) e.1.2=some (.tup [.str w.af[n].name,.tup ((w.af[n].part::w.af[n].more).map .int),.tup (w.af[n].ar.map aK),.int w.af[n].young]):=by
   rw[hn,b4,Gah,Gaa h8];rfl
  have so:=W.so w.af[n] (Gat h8);have et:tgF w.af ws e=jW ws e.1.1 e.1.2 e.2 0 w.af[n].ar:=by
   unfold tgF;rw[hn,GaI,Gaa h8]
   rfl
  have cl:=so.cl;have lz:=oH ws e.1.1 e.1.2 e.2 0 w.af[n].ar;have lz2:w.af[n].ar.length*e.2.length<=4*64:=Nat.mul_le_mul cl (by lia);obtain⟨y7,y8,y9,h7,xl,ec⟩:=tZ (ws:=ws) (g:=e.1.1) (s:=e.1.2) (ms:=e.2) (e0:=some (.sh (.tup [.tup A,.tup (w.af.map aA),.tup C,.tup O]))) (e2:=e2) ml w.af[n].ar 0 fs x7 x8 x9 eV hJ so.ok (by lia);have ev:=Ox (x6:=x6) hS ec;rw[<-et] at ev lz;obtain⟨z4,z5,z6,z7,z8,z9,yr,zw,e'⟩:=CW W (ws:=ws) (A:=A) (C:=C) (O:=O) (e2:=e2) st (fs++tgF w.af ws e) (some (.sh (.tup [.int e.1.1,.int e.1.2]))) (some (.sh (.lst (e.2.map mk2)))) (some (.sh (.int e.1.1))) y7 y8 y9 h7 xl (λx hx=>he x (Gae _ hx)) (by rw[Gan];lia);refine⟨z4,z5,z6,z7,z8,z9,yr,zw, ?_⟩;rw[Gbb,<-Gas];have ei:bB (kJ (e::st))=D.tup [.tup [.int e.1.1,.int e.1.2],.lst (e.2.map mk2)]::bB (kJ st):=rfl;rw[ei];generalize e.2.map mk2=M at*;generalize w.af.map aA=SS at*;simp only[forL,gT,gNs,GaQ,GaR,Option.bind_some,ev];exact e'
theorem JC{A B C O W G F:List D}{kv:Rws}{y4 y5 y6 y7 y8 y9 h7 xl:Os}(hm:cj [.tup [.tup A,.tup B,.tup C,.tup O],.tup G]=some (.dT kv))
  (h:forL (gT [4,5]) cO (bB kv) [some (.sh (.tup [.tup A,.tup B,.tup C,.tup O])),some (.sh (.tup W)),some (.sh (.tup G)),some (.own (.lst [])),none,none,none,none,none,none,none,none]=some (.nx [some (.sh (.tup [.tup A,.tup B,.tup C,.tup O])),some (.sh (.tup W)),some (.sh (.tup G)),some (.own (.lst F)),y4,y5,y6,y7,y8,y9,h7,xl]))(im:aq F=true):
  fJ [.tup [.tup A,.tup B,.tup C,.tup O],.tup W,.tup G]=some (.lst F):=by
 have rk:iR (.dT kv)=⟨.tn,.dT kv⟩:=rfl;refine aH rfl ?_;unfold jD;refine(a7 (by simp[aM,a6];rfl)).trans ?_;refine(a7 (by simp[-forL,hm,rk,h,freed];rfl)).trans ?_;simp[im]
theorem fV{α β:Type}(f:α->List β)(N:Nat):∀l:List α,(∀a∈l,(f a).length<=N)->(l.flatMap f).length<=l.length*N
 |[],_=>by simp
 |a::l,h=>by
  have h1:=h a Gak;have h2:=fV f N l λx hx=>h x (Gae _ hx);rw[Gbb,Gan,Gaw,Gea];lia
theorem Oy{w:World}{ws gv:List Tr}(W:aD w)(hg:bq w.orders.length gv)(hl:gv.length<64):∃st,qZ w.orders gv st/\fJ [au w,.tup (ws.map trD),.tup (gv.map trD)]=some (.lst ((st.flatMap (tgF w.af ws)).map ae))/\(st.flatMap (tgF w.af ws)).length<=20000:=by
 obtain⟨st,I,em⟩:=JB W hg hl;have ln:=I.ln;have he:∀e∈st,0<=e.1.2/\e.1.2<w.af.length/\e.2.length<64:=λe Qm=>by
  obtain⟨t,ht,ek⟩:=I.back e Qm;have g0:=hg t ht;obtain⟨n,hn⟩:=Gav g0.1;have h8 :n<w.orders.length:=by lia
  have ok:=W.oo w.orders[n] (Gat h8);have:tk w.orders t=(w.orders[n].aw,w.orders[n].ax):=by
   unfold tk;rw[hn,GaI,Gaa h8]
  rw[this] at ek;rw[<-ek];have:=I.Ou Qm;exact⟨ok.s0,ok.s1,by lia⟩
 obtain⟨y4,y5,y6,y7,y8,y9,h7,xl,e⟩:=CW W (ws:=ws) (A:=w.aT.map bc) (C:=w.aU.map trD) (O:=w.orders.map aa) (e2:=some (.sh (.tup (gv.map trD)))) st [] none none none none none none none none he (by simp;lia);refine⟨st,I,JC em e (cw _), ?_⟩;have h1:=fV (tgF w.af ws) 256 st (λe Qm=>by
  have h2:=oH ws e.1.1 e.1.2 e.2 0 ((w.af[e.1.2.toNat]?.map (·.ar)).getD []);have h3:((w.af[e.1.2.toNat]?.map (·.ar)).getD []).length<=4:=by
   cases h:w.af[e.1.2.toNat]? with
   |none=>simp
   |some s=>exact(W.so s (GaP h)).cl
  have h4:=(he e Qm).2.2;have h5:=Nat.mul_le_mul h3 (GdG h4);unfold tgF;lia)
 lia
noncomputable def cX(w:World)(ws:List Tr)(t:Tr):List Flt:=match w.orders[t.1.toNat]? with
 |some o=>match w.af[o.ax.toNat]?,w.aT[o.aw.toNat]? with
  |some s,some g=>(iK o s g.2 ws t).map λk=>(k,[t.1,t.2.1])
  |_,_=>[]
 |none=>[]
theorem nD{w:World}(W:aD w){ws:List Tr}{t:Tr}(h0:0<=t.1)(h1:t.1<w.orders.length):dW [au w,.tup (ws.map trD),trD t]=some (.lst ((cX w ws t).map ae))/\(cX w ws t).length<=5:=by
 obtain⟨n,hn⟩:=Gav h0;have h8 :n<w.orders.length:=by lia
 have ok:=W.oo w.orders[n] (Gat h8);obtain⟨m,hm⟩:=Gav ok.s0;have sl:=ok.s1;have hm' :m<w.af.length:=by lia
 obtain⟨g,hg⟩:=Gav ok.g0;have gl:=ok.g1;have hg' :g<w.aT.length:=by lia
 have hO:atD (w.orders.map aa) t.1=some (aa w.orders[n]):=by rw[hn,b4,Gah,Gaa h8];rfl
 have hS:atD (w.af.map aA) w.orders[n].ax=some (aA w.af[m]):=by rw[hm,b4,Gah,Gaa hm'];rfl
 have hG:atD (w.aT.map bc) w.orders[n].aw=some (bc w.aT[g]):=by rw[hg,b4,Gah,Gaa hg'];rfl
 have e:=LY (C:=w.aU.map trD) (ws:=ws) (t:=t) hO ok.du hS (W.so _ (Gat hm')) hG (cH _ ok.ti);have el:cX w ws t=(iK w.orders[n] w.af[m] w.aT[g].2 ws t).map λk=>(k,[t.1,t.2.1]):=by
  unfold cX;rw[hn,GaI,Gaa h8];dsimp only;rw[hm,hg,GaI,GaI,Gaa hm',Gaa hg']
 constructor
 .rw[el,GaL];exact e
 .rw[el,Gac];unfold iK;have h1:=cq (bD w.orders[n].cx t.2.1) "astray";have h2:=cq (decide (w.orders[n].most<t.2.2)) "most";have h3:=cq (decide (t.2.2<1)||decide (¬t.2.2%w.af[m].part=0)) "part";have h4:=cq (w.af[m].ar.any b6&&(wgt w.orders[n].aw t.2.1 ws none).isNone) "weight";have h5:=cq (decide (t.2.1<w.aT[g].2+w.af[m].young)) "young";simp only[Gan];lia
theorem Ma{e0 e1 e2 e3:Os}{wd Qv gd:D}{F R:List D}(h:dW [wd,Qv,gd]=some (.lst R))(hz:F.length+R.length<100000):
  gf [some (.sh wd),e1,some (.sh Qv),e3,some (.own (.lst F)),some (.sh gd)]=some (.nx [some (.sh wd),e1,some (.sh Qv),e3,some (.own (.lst (F++R))),some (.sh gd)]):=by
 have z:F.length+R.length<=16777216:=by lia
 have rl:iR (.lst R)=⟨.tn,.lst R⟩:=rfl;unfold gf;simp[h,rl,z,a6]
theorem u0{w:World}(W:aD w){ws:List Tr}{e1 e3:Os}:∀(gv:List Tr) (fs:List Flt) (x5:Os),bq w.orders.length gv->fs.length+5*gv.length<100000->∃y5,
  forL (gN 5) gf (gv.map trD) [some (.sh (au w)),e1,some (.sh (.tup (ws.map trD))),e3,some (.own (.lst (fs.map ae))),x5]=some (.nx [some (.sh (au w)),e1,some (.sh (.tup (ws.map trD))),e3,some (.own (.lst ((fs++gv.flatMap (cX w ws)).map ae))),y5])
 |[],fs,x5,_,_=> ⟨x5,by simp⟩
 |t::gv,fs,x5,hg,hz=>by
  rw[Gaw] at hz;have g0:=hg t Gak;obtain⟨e,l5⟩:=nD W (ws:=ws) g0.1 g0.2;have ev:=Ma (e0:=none) (e1:=e1) (e2:=none) (e3:=e3) (F:=fs.map ae) e (by rw[Gac,Gac];lia);rw[<-GaF] at ev;obtain⟨y5,e'⟩:=u0 W (ws:=ws) (e1:=e1) (e3:=e3) gv (fs++cX w ws t) (some (.sh (trD t))) (λx hx=>hg x (Gae _ hx)) (by rw[Gan];lia);refine⟨y5, ?_⟩;rw[GaB,Gbb,<-Gas];generalize trD t=td at*;generalize au w=wd at*;simp only[forL,gN,GaQ,GaR,Option.bind_some,ev];exact e'
theorem wZ:∀(a b:List Int),lC (a.map D.int) (b.map D.int)=true
 |[],b=>by cases b<;>rfl
 |x::a,[]=>rfl
 |x::a,y::b=>by
  rw[GaB,GaB];unfold lC;split
  .exact wZ a b
  .rfl
theorem Hc(fs:List Flt):keysOk (fs.map ae)=true:=by
 have h1:(fs.map ae).all (ll 2)=true:=by
  rw[GbM,GaA];intro p _;show((tyD (.str p.1)==2)&&(p.2.map D.int).all lj)=true;rw[GbM,Gay];exact⟨rfl,GaA.mpr λ_ _=>rfl⟩
 have h2:((fs.map ae).all λx=>(fs.map ae).all λy=>vP x y)=true:=by
  rw[GbM,GaA];intro p _;simp only[GbD];rw[GbM,GaA];intro q _;show lC (.str p.1::p.2.map .int) (.str q.1::q.2.map .int)=true;unfold lC;split
  .exact wZ _ _
  .rfl
 unfold keysOk;rw[h1,h2];simp
noncomputable def unF:D->Flt
 | .tup (.str k::ds)=>(k,ds.map unI)
 |_=>("",[])
theorem He(f:Flt):unF (ae f)=f:=by
 show(f.1,(f.2.map D.int).map unI)=f;rw[GaL];have:f.2.map (unI∘D.int)=f.2:=by
  conv=>rhs;rw[<-Gcr f.2]
  exact GaM λ_ _=>rfl
 rw[this]
noncomputable def rf(fs:List Flt):List Flt:=(bU (fs.map ae)).map unF
theorem BA(fs:List Flt):(fs.map ae).map unF=fs:=by
 rw[GaL]
 conv=>rhs;rw[<-Gcr fs]
 exact GaM λf _=>He f
theorem Hg(fs:List Flt):bU (fs.map ae)=(rf fs).map ae:=by
 unfold rf;rw[GaL]
 conv=>lhs;rw[<-Gcr (bU (fs.map ae))]
 refine GaM λx hx=> ?_;obtain⟨f,_,rfl⟩:=GaG.mp ((fg _).mem_iff.mp hx);simp only[GbD,He,id]
theorem rh(fs:List Flt):(rf fs).Perm fs:=by
 have:=(fg (fs.map ae)).map unF;rw[BA] at this;exact this
theorem rm(fs:List Flt)(hz:fs.length<1000000):fD [.lst (fs.map ae)]=some ⟨.tn,.lst ((rf fs).map ae)⟩:=by
 have z:(fs.map ae).length<1000000:=by rw[Gac];exact hz
 unfold fD one ka;simp only[Option.bind_some];rw[Hc,Gaz z,Hg]
 rfl
theorem BB{wd:D}{W G F0 F1 F2 F3 F R:List D}{y5:Os}(h0:F1++F2++F3=F0)(h1:fJ [wd,.tup W,.tup G]=some (.lst F1))(h2:fK [wd,.tup G]=some (.lst F2))(h3:dz [wd,.tup G]=some (.lst F3))(z:F1.length+F2.length+F3.length<100000)
  (hl:forL (gN 5) gf G [some (.sh wd),some (.sh (.tup [.tup W,.tup G])),some (.sh (.tup W)),some (.sh (.tup G)),some (.own (.lst F0)),none]=some (.nx [some (.sh wd),some (.sh (.tup [.tup W,.tup G])),some (.sh (.tup W)),some (.sh (.tup G)),some (.own (.lst F)),y5]))(hs:fD [.lst F]=some ⟨.tn,.lst R⟩)(iw:aq W=true)(ig:aq G=true)(ir:aq R=true):
  kz [wd,.tup [.tup W,.tup G]]=some (.lst R):=by
 have r1:∀L:List D,iR (.lst L)=⟨.tn,.lst L⟩:=λ_=>rfl;have z1:F1.length+F2.length<=16777216:=by lia
 have z2:F1.length+F2.length+F3.length<=16777216:=by lia
 refine aH rfl ?_;unfold qP;refine(a7 (by simp[aM,iw];rfl)).trans ?_;refine(a7 (by simp[ig];rfl)).trans ?_;refine(a7 (e:=[some (.sh wd),some (.sh (.tup [.tup W,.tup G])),some (.sh (.tup W)),some (.sh (.tup G)),some (.own (.lst F0)),none]) (by rw[<-h0];simp[h1,h2,h3,r1,z1,z2,a6])).trans ?_;refine(a7 (by simp[-forL,hl,freed];rfl)).trans ?_;simp[hs,ir]
theorem rn(os:List Order)(gs:List Tr)(w:Int):∀eA:List (Int×Int),eA.length<64->(dR os gs w eA).length<=64*eA.length
 |[],_=>by simp[dR]
 |r::rs,h=>by
  rw[Gaw] at h;have h1:=oG os gs w r rs;have h2:=rn os gs w rs (by lia);unfold dR;rw[Gan,Gaw];lia
theorem A0{w:World}{ws gv:List Tr}(W:aD w)(hg:bq w.orders.length gv)(hl:gv.length<64):∃(st:List Tg) (eA:List (Int×Int)),qZ w.orders gv st/\eA.Perm (gvR gv)/\bU ((gvR gv).map mk2)=eA.map mk2/\(eA.Pairwise λa b=>a.1<=b.1)/\
  kz [au w,.tup [.tup (ws.map trD),.tup (gv.map trD)]]=some (.lst ((rf (st.flatMap (tgF w.af ws)++dR w.orders (w.aU.foldl aO []) (wide w.aU) eA++twF (gv.foldl (bK w.orders) [])++gv.flatMap (cX w ws))).map ae))/\
  (st.flatMap (tgF w.af ws)++dR w.orders (w.aU.foldl aO []) (wide w.aU) eA++twF (gv.foldl (bK w.orders) [])++gv.flatMap (cX w ws)).length<100000:=by
 obtain⟨st,I,h1,z1⟩:=Oy (ws:=ws) W hg hl;obtain⟨eA,r1,r2,r3,h2⟩:=Ot W hg hl;obtain⟨h3,z3⟩:=Jt W hg hl;have lr:eA.length=gv.length:=by rw[r2.length_eq];simp[gvR]
 have z2:=rn w.orders (w.aU.foldl aO []) (wide w.aU) eA (by lia);have z3' :(twF (gv.foldl (bK w.orders) [])).length<=64:=by
  unfold twF;rw[Gac];have:=Gcl (λt:Tr=>decide (1<t.2.2)) (gv.foldl (bK w.orders) []);lia
 have z4:(gv.flatMap (cX w ws)).length<=gv.length*5:=fV _ 5 gv λt ht=>(nD W (ws:=ws) (hg t ht).1 (hg t ht).2).2;obtain⟨y5,e⟩:=u0 W (ws:=ws) (e1:=some (.sh (.tup [.tup (ws.map trD),.tup (gv.map trD)]))) (e3:=some (.sh (.tup (gv.map trD)))) gv (st.flatMap (tgF w.af ws)++dR w.orders (w.aU.foldl aO []) (wide w.aU) eA++twF (gv.foldl (bK w.orders) [])) none hg (by simp only[Gan];lia);have zz:(st.flatMap (tgF w.af ws)++dR w.orders (w.aU.foldl aO []) (wide w.aU) eA++twF (gv.foldl (bK w.orders) [])++gv.flatMap (cX w ws)).length<100000:=by
  simp only[Gan];lia
 refine⟨st,eA,I,r2,r1,r3, ?_,zz⟩;generalize st.flatMap (tgF w.af ws)=F1 at*;generalize dR w.orders (w.aU.foldl aO []) (wide w.aU) eA=F2 at*;generalize twF (gv.foldl (bK w.orders) [])=F3 at*;rw[GaF,GaF] at e;exact BB rfl h1 h2 h3 (by simp only[Gac];lia) e (rm _ (by lia)) (ck ws) (ck gv) (cw _)
theorem CY{b e ea la h k:Int}(e1:1<=e)(a0:0<=ea)(l0:0<=la)(al:ea+la<e):(b+k*e -ea<=h/\h<=b+k*e+la)↔((h -(b -ea))/e=k/\h -(b -ea)-k*e<=ea+la):=by
 constructor
 .rintro⟨h1,h2⟩;refine⟨?_,by lia⟩;have h3:k<=(h -(b -ea))/e:=(Int.le_ediv_iff_mul_le (by lia)).mpr (by lia);have h4:(h -(b -ea))/e<k+1:=(Int.ediv_lt_iff_lt_mul (by lia)).mpr (by rw[Int.add_mul];lia);lia
 .rintro⟨h1,h2⟩;have h3:(h -(b -ea))/e*e<=h -(b -ea):=Int.ediv_mul_le _ (by lia);rw[h1] at h3;lia
noncomputable def Hh(b e ea la h:Int):D->Option D
 | .int k=>if b+k*e -ea<=h/\h<=b+k*e+la then some (.int k) else none
 |_=>none
theorem nE{b e ea la h k:Int}:Hh b e ea la h (.int k)=if b+k*e -ea<=h/\h<=b+k*e+la then some (.int k) else none:=rfl
theorem Hj{b e m ea la h:Int}(e1:1<=e)(m0:0<=m)(a0:0<=ea)(l0:0<=la)(al:ea+la<e):(aE 0 m.toNat).findSome? (Hh b e ea la h)=(mD b e m ea la h).map D.int:=by
 have iff:=λk=>CY (b:=b) (e:=e) (ea:=ea) (la:=la) (h:=h) (k:=k) e1 a0 l0 al;unfold mD;generalize hq:(h -(b -ea))/e=q at*;by_cases c:(0<=q/\q<m)/\h -(b -ea)-q*e<=ea+la
 .rw[Gaf c];obtain⟨n,hn⟩:=Gav c.1.1;have hm:D.int q∈aE 0 m.toNat:=by
   unfold aE;exact GaG.mpr ⟨n,GaZ.mpr (by lia),by rw[hn];simp⟩
  have hr:Hh b e ea la h (.int q)=some (.int q):=by
   rw[nE,Gaf ((iff q).mpr ⟨rfl,c.2⟩)]
  cases hf:(aE 0 m.toNat).findSome? (Hh b e ea la h) with
  |none=>rw[List.findSome?_eq_none_iff.mp hf _ hm] at hr;cases hr
  |some v=>
   obtain⟨d,hd,hv⟩:=List.exists_of_findSome?_eq_some hf;obtain⟨i,hi⟩:=GdO hd;obtain⟨hi',rfl⟩:=aY hi;rw[nE] at hv;split at hv
   .rename_i cc;rw[<-((iff _).mp cc).1] at hv;injection hv with hv
    rw[<-hv];rfl
   .cases hv
 .rw[Gag c];rw[Option.map_none,List.findSome?_eq_none_iff];intro d hd;obtain⟨i,hi⟩:=GdO hd;obtain⟨hi',rfl⟩:=aY hi;rw[nE,Gag];intro cc;have:=(iff _).mp cc;exact c ⟨by lia,by rw[this.1];exact this.2⟩
theorem uY{b e m ea la h:Int}(ok:ij (.due b e m ea la)):oz [bM (.due b e m ea la),.int h]=some (fP (mD b e m ea la h)):=by
 obtain⟨e1,e2,hm,a0,l0,al,ab,b3⟩:=ok;have me:∀j,bC j e=true:=λj=>jM (by lia) (by lia);have sm:aZ m=true:=aX (by lia) (by lia);unfold bM;obtain⟨y,hf⟩:=tU (g:=gN 2) (body:=jJ) (λx=>[some (.sh (.tup [.str "due",.int b,.int e,.int m,.int ea,.int la])),some (.sh (.int h)),x]) (Hh b e ea la h) (λd x=>rfl) (aE 0 m.toNat) none (by
  intro d hd;obtain⟨i,hi⟩:=GdO hd;obtain⟨hi',rfl⟩:=aY hi;generalize (0:Int)+(i:Int)=k;rw[nE];unfold jJ;by_cases c1:b+k*e -ea<=h
  .by_cases c2:h<=b+k*e+la
   .simp[c1,c2,me]
   .simp[c1,c2,me]
  .simp[c1,me])
 rw[Hj e1 (by lia) a0 l0 al] at hf;cases hk:mD b e m ea la h with
 |none=>
  rw[hk] at hf;simp only[Option.map_none] at hf;refine aH rfl ?_;unfold l9;refine(a7 (by simp[-forL,aM,sm,hf,freed];rfl)).trans ?_;simp
 |some k=>
  rw[hk] at hf;simp only[GbZ] at hf;refine aH rfl ?_;unfold l9;refine uU ?_;simp[-forL,aM,sm,hf,freed]
noncomputable def kF(b:Bool)(x:Str)(n h:Int):List Flt:=(kk b x).map λk=>(k,[n,h])
theorem uZ(b:Bool)(x:Str)(n h:Int):(kF b x n h).length<=1:=by
 unfold kF;rw[Gac];exact cq b x
theorem nF{L:List Flt}{b:Bool}{x:Str}{t:DT}{n h:Int}{e0 e1 e5 e6 e7 e8:Os}(ht:t [e0,e1,some (.own (.lst (L.map ae))),some (.sh (.int n)),some (.sh (.int h)),e5,e6,e7,e8]=some b)(hl:L.length<100000):
  ifS t (gC 2 (aQ (a4 (kE (.str x)) (a4 (vE 3) (a4 (vE 4) a8))))) aI [e0,e1,some (.own (.lst (L.map ae))),some (.sh (.int n)),some (.sh (.int h)),e5,e6,e7,e8]=some (.nx [e0,e1,some (.own (.lst ((L++kF b x n h).map ae))),some (.sh (.int n)),some (.sh (.int h)),e5,e6,e7,e8]):=by
 have z:(L.map ae).length<16777216:=by rw[Gac];lia
 have e:(L++kF b x n h).map ae=L.map ae++(kF b x n h).map ae:=by rw[GaF]
 rw[e];cases b with
 |true=>
  generalize L.map ae=M at*;simp[ht,kF,kk,a6,z,ae]
 |false=>
  generalize L.map ae=M at*;simp[ht,kF,kk]
theorem JD{o:Order}{s:i9}{b:Int}{ws:List Tr}{n h a:Int}:((iK o s b ws (n,h,a)).map λk=>(k,[n,h]))=kF (bD o.cx h) "astray" n h++kF (decide (o.most<a)) "most" n h++kF (decide (a<1)||decide (¬a%s.part=0)) "part" n h++kF (s.ar.any b6&&(wgt o.aw h ws none).isNone) "weight" n h++kF (decide (h<b+s.young)) "young" n h:=by
 unfold iK kF;simp only[GaF]
theorem Ew(cs:List Cap):br (gN 0) (aC eqB (ixE (vE 0) (kE (.int 0))) (kE (.str "kilo"))) (vE 0) (cs.map aK) [none]=some ((cs.filter b6).map aK):=by
 refine gJ (g:=gN 0) aK (λenv=>∃y,env=[y]) b6 aK cs [none] ⟨none,rfl⟩ ?_;rintro c hc env ⟨y,rfl⟩;have im:=wI c;refine⟨[some (.sh (aK c))],rfl,⟨_,rfl⟩, ?_,λ_=> ⟨.c, ?_, ?_⟩⟩
 .cases c<;>simp[aK,b6,eqB]
 .generalize aK c=cd at*;simp[im]
 .generalize aK c=cd at*;simp[RV.free]
theorem JE(cs:List Cap):decide (((cs.filter b6).length:Int)>0)=cs.any b6:=by
 induction cs with
 |nil=>rfl
 |cons c cs ih=>
  cases h:b6 c with
  |true=>
   simp[h]
  |false=>
   simp only[Gba,h,GcU];exact ih
theorem Ex{A B C O W G:List D}{o:Order}{s:i9}{gu:Str×Int}{ws:List Tr}{n h a kn:Int}{L:List Flt}{x6 x7 x8:Os}(hW:ws.map trD=W)(hO:atD O n=some (aa o))(du:ij o.cx)(hS:atD B o.ax=some (aA s))(so:iJ s)(hG:atD A o.aw=some (bc gu))(im:(aa o).imm=true)(iw:aq W=true)(hl:L.length<50000)(hk:bA [.lst ((s.ar.filter b6).map aK)]=some ⟨.c,.int kn⟩)(QU:decide (kn>0)=s.ar.any b6):
  c9 [some (.sh (.tup [.tup A,.tup B,.tup C,.tup O])),some (.sh (.tup [.tup W,.tup G])),some (.own (.lst (L.map ae))),some (.sh (.int n)),some (.sh (.int h)),some (.sh (.int a)),x6,x7,x8]=
   some (.nx [some (.sh (.tup [.tup A,.tup B,.tup C,.tup O])),some (.sh (.tup [.tup W,.tup G])),some (.own (.lst ((L++(iK o s gu.2 ws (n,h,a)).map λk=>(k,[n,h])).map ae))),some (.sh (.int n)),some (.sh (.int h)),some (.sh (.int a)),some (.sh (aa o)),some (.sh (aA s)),some (.own (.lst ((s.ar.filter b6).map aK)))]):=by
 have ew:=jU (ws:=ws) (g:=o.aw) (h:=h);rw[hW] at ew;have sp:=so.p1;have zy :0<s.part:=by lia
 have cl:=so.cl;have is:=ie s;have xy :=b9 (dD (wgt o.aw h ws none));have kc:=Ew s.ar;have zc:(s.ar.map aK).length<=16777216:=by rw[Gac];lia
 have p1:ixD (aa o) (.int 3)=some (.tup [.str o.way,.int o.top,.int o.per,.int o.most]):=rfl;have p2:ixD (aa o) (.int 1)=some (.int o.aw):=rfl;have p3:ixD (aa o) (.int 2)=some (.int o.ax):=rfl;have p3' :ixD (aa o) (.int 4)=some (bM o.cx):=rfl;have p4:ixD (aA s) (.int 1)=some (.tup (.int s.part::s.more.map .int)):=rfl;have p5:ixD (aA s) (.int 3)=some (.int s.young):=rfl;have p7:ixD (aA s) (.int 2)=some (.tup (s.ar.map aK)):=rfl;have p6:ixD (bc gu) (.int 1)=some (.int gu.2):=rfl;rw[JD];generalize aa o=OD at*;generalize aA s=SD at*;generalize bc gu=GD at*;unfold c9;refine(a7 (by simp[hO,im];rfl)).trans ?_;refine(a7 (by simp[p3,hS,is];rfl)).trans ?_;refine(a7 (nF (b:=bD o.cx h) ?_ (by lia))).trans ?_
 .cases hu:o.cx with
  |asked b=>
   rw[hu] at p3';unfold bM at p3';by_cases c:h<b<;>simp[p3',eqB,bD,c]
  |due b e m ea la=>
   rw[hu] at p3' du;have ed:=uY (h:=h) du;have rd:=b9 (dD (mD b e m ea la h));unfold bM at p3' ed;have ea' :bD (.due b e m ea la) h=(mD b e m ea la h).isNone:=rfl;rw[ea'];generalize mD b e m ea la h=dk at*;simp[p3',eqB,ed,rd];cases dk<;>simp[jX,bL]
 have k1:=uZ (bD o.cx h) "astray" n h;refine(a7 (nF (b:=decide (o.most<a)) (by simp[p1]) (by simp only[Gan];lia))).trans ?_;have k2:=uZ (decide (o.most<a)) "most" n h;refine(a7 (nF (b:=decide (a<1)||decide (¬a%s.part=0)) ?_ (by simp only[Gan];lia))).trans ?_
 .by_cases c:a<1
  .simp[c]
  .by_cases c2:a%s.part=0
   .simp[c,p4,zy,neB,c2]
   .simp[c,p4,zy,neB,c2]
 have k3:=uZ (decide (a<1)||decide (¬a%s.part=0)) "part" n h;generalize hK:(s.ar.filter b6).map aK=K at*;generalize s.ar.map aK=CC at*;refine(a7 (e:=[some (.sh (.tup [.tup A,.tup B,.tup C,.tup O])),some (.sh (.tup [.tup W,.tup G])),some (.own (.lst ((L++kF (bD o.cx h) "astray" n h++kF (decide (o.most<a)) "most" n h++kF (decide (a<1)||decide (¬a%s.part=0)) "part" n h).map ae))),some (.sh (.int n)),some (.sh (.int h)),some (.sh (.int a)),some (.sh OD),some (.sh SD),some (.own (.lst K))]) (by simp[-br,p7,a6,DL.compEnv,cJ,kc,zc])).trans ?_;refine(a7 (nF (b:=s.ar.any b6&&(wgt o.aw h ws none).isNone) ?_ (by simp only[Gan];lia))).trans ?_
 .rw[<-QU];by_cases c:kn>0
  .simp[-fC,hk,c,p2,ew,xy,iw];cases wgt o.aw h ws none<;>simp[jX,bL]
  .simp[-fC,hk,c]
 have k4:=uZ (s.ar.any b6&&(wgt o.aw h ws none).isNone) "weight" n h;refine(nF (b:=decide (h<gu.2+s.young)) (by simp[p2,hG,p6,p5]) (by simp only[Gan];lia)).trans ?_;simp only[Gas]
theorem rq{c:Cap}{w:Option Int}(ok:lH c):cG [aK c,fP w]=some (fP (cL c w)):=by
 cases c with
 |ever t=>unfold cG fu aK cL;simp
 |flat h t=>unfold cG fu aK cL;simp
 |kilo h t p=>
  obtain⟨h1,t1,t2,p1,p2⟩:=ok;cases w with
  |none=>unfold cG fu aK cL;simp[jX,bL]
  |some w=>
   have mm:bC w t=true:=jM (by lia) (by lia);have pp:0<p/\p<1073741824:=by lia
   unfold cG fu aK cL;simp[jX,bL,mm,pp]
theorem Hk{c:Cap}{h a:Int}{e0 e1 e2 e5 e6 e8:Os}:fA (aC leB (vE 7) (vE 4)) (orT (aC eqB (ixE (vE 3) (kE (.int 0))) (kE (.str "ever"))) (aC gtB (vE 7) (opE gP (vE 4) (ixE (vE 3) (kE (.int 1)))))) [e0,e1,e2,some (.sh (aK c)),some (.sh (.int h)),e5,e6,some (.sh (.int a)),e8]=some (iL c h a):=by
 by_cases c1:a<=h
 .cases c with
  |ever t=>simp[aK,iL,c1]
  |flat H t=>simp[aK,iL,c1]
  |kilo H t p=>simp[aK,iL,c1]
 .have c1' :h<a:=by lia
  cases c<;>simp[aK,iL,c1,c1']
theorem Mb{A B C O:List D}{bk OD own:D}{c:Cap}{h T n a m g s g' s' :Int}(hO:atD O n=some OD)(hs:slD (some 1) (some 3) OD=some ⟨.c,.tup [.int g',.int s']⟩)(ho:slD (some 1) (some 3) own=some ⟨.c,.tup [.int g,.int s]⟩):
  dB [some (.sh (.tup [.tup A,.tup B,.tup C,.tup O])),some (.sh bk),some (.sh own),some (.sh (aK c)),some (.sh (.int h)),some (.sh (.int T)),some (.sh (.int n)),some (.sh (.int a)),some (.sh (.int m))]=
   some (.nx [some (.sh (.tup [.tup A,.tup B,.tup C,.tup O])),some (.sh bk),some (.sh own),some (.sh (aK c)),some (.sh (.int h)),some (.sh (.int (T+if decide ((g',s')=(g,s))&&iL c h a then m else 0))),some (.sh (.int n)),some (.sh (.int a)),some (.sh (.int m))]):=by
 have t2:=Hk (c:=c) (h:=h) (a:=a) (e0:=some (.sh (.tup [.tup A,.tup B,.tup C,.tup O]))) (e1:=some (.sh bk)) (e2:=some (.sh own)) (e5:=some (.sh (.int T))) (e6:=some (.sh (.int n))) (e8:=some (.sh (.int m)));have t1:aC eqB (slE (ixE (ixE (vE 0) (kE (.int 3))) (vE 6)) (d9 (kE (.int 1))) (d9 (kE (.int 3)))) (slE (vE 2) (d9 (kE (.int 1))) (d9 (kE (.int 3)))) [some (.sh (.tup [.tup A,.tup B,.tup C,.tup O])),some (.sh bk),some (.sh own),some (.sh (aK c)),some (.sh (.int h)),some (.sh (.int T)),some (.sh (.int n)),some (.sh (.int a)),some (.sh (.int m))]=some (decide ((g',s')=(g,s))):=by
  generalize aK c=cd;simp[hO,hs,ho,eqB];rw[Bool.eq_iff_iff];simp
 unfold dB;generalize iL c h a=q at*;generalize decide ((g',s')=(g,s))=r at*;generalize aK c=cd at*;unfold ifS;have t3:fA (aC eqB (slE (ixE (ixE (vE 0) (kE (.int 3))) (vE 6)) (d9 (kE (.int 1))) (d9 (kE (.int 3)))) (slE (vE 2) (d9 (kE (.int 1))) (d9 (kE (.int 3))))) (fA (aC leB (vE 7) (vE 4)) (orT (aC eqB (ixE (vE 3) (kE (.int 0))) (kE (.str "ever"))) (aC gtB (vE 7) (opE gP (vE 4) (ixE (vE 3) (kE (.int 1))))))) [some (.sh (.tup [.tup A,.tup B,.tup C,.tup O])),some (.sh bk),some (.sh own),some (.sh cd),some (.sh (.int h)),some (.sh (.int T)),some (.sh (.int n)),some (.sh (.int a)),some (.sh (.int m))]=some (r&&q):=by
  generalize aC eqB (slE (ixE (ixE (vE 0) (kE (.int 3))) (vE 6)) (d9 (kE (.int 1))) (d9 (kE (.int 3)))) (slE (vE 2) (d9 (kE (.int 1))) (d9 (kE (.int 3))))=T1 at*;generalize fA (aC leB (vE 7) (vE 4)) _=T2 at*;show(T1 _).bind _=_;rw[t1,Option.bind_some];cases r
  .rfl
  .exact t2
 rw[t3,Option.bind_some];cases r<;>cases q<;>simp
noncomputable def bV(os:List Order)(c:Cap)(k:Int×Int)(h:Int):List Tr->Int
 |[]=>0
 |t::gv=>(if decide (tk os t=k)&&iL c h t.2.1 then t.2.2 else 0)+bV os c k h gv
theorem rA(os:List Order)(c:Cap)(k:Int×Int)(h:Int):∀gv:List Tr,bV os c k h gv=j7 c ((gv.filter λt=>decide (tk os t=k)).map λt=>(t.2.1,t.2.2)) h
 |[]=>rfl
 |t::gv=>by
  have ih:=rA os c k h gv;unfold bV;rw[ih];unfold j7;by_cases e:tk os t=k
  .rw[List.filter_cons_of_pos (by simpa using e)];simp[e]
  .rw[List.filter_cons_of_neg (by simpa using e)];simp[e]
theorem A1{w:World}(W:aD w){A B C:List D}{bk own:D}{c:Cap}{h g s:Int}(ho:slD (some 1) (some 3) own=some ⟨.c,.tup [.int g,.int s]⟩):∀(gv:List Tr) (T:Int) (x6 x7 x8:Os),bq w.orders.length gv->∃y6 y7 y8,
  forL (gT [6,7,8]) dB (gv.map trD) [some (.sh (.tup [.tup A,.tup B,.tup C,.tup (w.orders.map aa)])),some (.sh bk),some (.sh own),some (.sh (aK c)),some (.sh (.int h)),some (.sh (.int T)),x6,x7,x8]=
   some (.nx [some (.sh (.tup [.tup A,.tup B,.tup C,.tup (w.orders.map aa)])),some (.sh bk),some (.sh own),some (.sh (aK c)),some (.sh (.int h)),some (.sh (.int (T+bV w.orders c (g,s) h gv))),y6,y7,y8])
 |[],T,x6,x7,x8,_=> ⟨x6,x7,x8,by simp[bV]⟩
 |t::gv,T,x6,x7,x8,hg=>by
  have g0:=hg t Gak;obtain⟨n,hn⟩:=Gav g0.1;have h8 :n<w.orders.length:=by lia
  have hO:atD (w.orders.map aa) t.1=some (aa w.orders[n]):=by rw[hn,b4,Gah,Gaa h8];rfl
  have hs:slD (some 1) (some 3) (aa w.orders[n])=some ⟨.c,.tup [.int w.orders[n].aw,.int w.orders[n].ax]⟩:=rfl;have etk:tk w.orders t=(w.orders[n].aw,w.orders[n].ax):=by
   unfold tk;rw[hn,GaI,Gaa h8]
  have ev:=Mb (A:=A) (B:=B) (C:=C) (bk:=bk) (c:=c) (h:=h) (T:=T) (a:=t.2.1) (m:=t.2.2) hO hs ho;rw[<-etk] at ev;obtain⟨y6,y7,y8,e⟩:=A1 W (A:=A) (B:=B) (C:=C) (bk:=bk) (c:=c) (h:=h) ho gv (T+if decide (tk w.orders t=(g,s))&&iL c h t.2.1 then t.2.2 else 0) (some (.sh (.int t.1))) (some (.sh (.int t.2.1))) (some (.sh (.int t.2.2))) λx hx=>hg x (Gae _ hx);refine⟨y6,y7,y8, ?_⟩;rw[GaB]
  conv=>rhs;unfold bV
  rw[<-Int.add_assoc];have ed:trD t= .tup [.int t.1,.int t.2.1,.int t.2.2]:=rfl;rw[ed];generalize aK c=cd at*;generalize w.orders.map aa=OS at*;simp only[forL,gT,gNs,GaQ,GaR,Option.bind_some,ev];exact e
theorem JF{wd bkW own cd:D}{G:List D}{h T:Int}{y6 y7 y8:Os}(e:forL (gT [6,7,8]) dB G [some (.sh wd),some (.sh (.tup [bkW,.tup G])),some (.sh own),some (.sh cd),some (.sh (.int h)),some (.sh (.int 0)),none,none,none]=some (.nx [some (.sh wd),some (.sh (.tup [bkW,.tup G])),some (.sh own),some (.sh cd),some (.sh (.int h)),some (.sh (.int T)),y6,y7,y8])):
  gh [wd,.tup [bkW,.tup G],own,cd,.int h]=some (.int T):=by
 refine aH rfl ?_;unfold kB;refine(a7 (by simp[aM];rfl)).trans ?_;refine(a7 (by simp[-forL,e,freed];rfl)).trans ?_;simp
theorem JG{w:World}(W:aD w){o:Order}{c:Cap}{h:Int}{bkW:D}{gv:List Tr}(hg:bq w.orders.length gv):gh [au w,.tup [bkW,.tup (gv.map trD)],aa o,aK c,.int h]=some (.int (bV w.orders c (o.aw,o.ax) h gv)):=by
 obtain⟨y6,y7,y8,e⟩:=A1 W (A:=w.aT.map bc) (B:=w.af.map aA) (C:=w.aU.map trD) (bk:= .tup [bkW,.tup (gv.map trD)]) (own:=aa o) (c:=c) (h:=h) (g:=o.aw) (s:=o.ax) rfl gv 0 none none none hg;rw[Int.zero_add] at e;exact JF e
noncomputable def oI(f:Flt):List Key:=Sum.inr f.1::f.2.map Sum.inl
theorem u3:∀ns:List Int,keysOf (ns.map D.int)=some (ns.map Sum.inl)
 |[]=>rfl
 |n::ns=>by
  have:=u3 ns;simp[keyOf,this]
theorem BC(f:Flt):keysOf (.str f.1::f.2.map D.int)=some (oI f):=by
 have:=u3 f.2;simp[keyOf,this,oI]
theorem Hl{f g:Flt}(h:oI f=oI g):f=g:=by
 obtain⟨a,as⟩:=f;obtain⟨b,bs⟩:=g;simp only[oI,GcY,Sum.inr.injEq] at h;obtain⟨h1,h2⟩:=h;have:∀(as bs:List Int),as.map (Sum.inl:Int->Key)=bs.map Sum.inl->as=bs:=by
  intro as;induction as with
  |nil=>intro bs h;cases bs with
   |nil=>rfl
   |cons b bs=>simp at h
  |cons a as ih=>intro bs h;cases bs with
   |nil=>simp at h
   |cons b bs=>
    simp only[GaB,GcY,Sum.inl.injEq] at h;rw[h.1,ih bs h.2]
 rw[h1,this as bs h2]
noncomputable def fB(l:List Flt):Rws:=l.map λf=>(oI f,D.bl true)
noncomputable def ff(l:List Flt)(f:Flt):List Flt:=if f∈l then l else l++[f]
theorem Ey(l:List Flt)(f:Flt):(ff l f).length<=l.length+1:=by
 unfold ff;split
 .lia
 .simp
theorem Hm{l:List Flt}{f:Flt}(hz:l.length<100000):putD (.dT (fB l)) (ae f) (.bl true)=some (.dT (fB (ff l f))):=by
 have hk:=BC f;have z:(fB l).length<a6:=by unfold fB a6;rw[Gac];lia
 unfold putD ae;dsimp only;rw[Gaf z,hk,GbZ];congr 2;unfold put;have an:((fB l).any λkv=>decide (kv.1=oI f))=decide (f∈l):=by
  rw[Bool.eq_iff_iff,GcS,decide_eq_true_iff];constructor
  .rintro⟨kv,zG,e⟩;obtain⟨g,hg,rfl⟩:=GaG.mp zG;have:=Hl (Gar e);rw[<-this];exact hg
  .intro h;exact⟨_,GaG.mpr ⟨f,h,rfl⟩,Gaz rfl⟩
 rw[an];unfold ff;by_cases c:f∈l
 .rw[Gaf (Gaz c),Gaf c];unfold fB;rw[GaL];refine GaM λg hg=> ?_;show(if oI g=oI f then(oI g,D.bl true) else(oI g,D.bl true))=_;split<;>rfl
 .rw[Gag (by simpa using c),Gag c];unfold fB;rw[GaF]
  rfl
theorem Ez(l:List Flt):tf (fB l)=l.map ae:=by
 unfold tf fB;rw[GaL];refine GaM λf _=> ?_;show D.tup ((oI f).map Ds)=ae f;unfold oI ae;rw[GaB,GaL]
 rfl
theorem Hn{wd bk OD:D}{e3 e5 e7:Os}{l:List Flt}{h k T g s top:Int}(h1:ixD OD (.int 1)=some (.int g))(h2:ixD OD (.int 2)=some (.int s))(hz:l.length<100000):
  sr 2 (aQ (a4 (kE (.str "cap")) (a4 (ixE (vE 6) (kE (.int 1))) (a4 (ixE (vE 6) (kE (.int 2))) (a4 (vE 8) (a4 (vE 4) (a4 (vE 10) (a4 (vE 9) a8)))))))) (kE (.bl true)) [some (.sh wd),some (.sh bk),some (.own (.dT (fB l))),e3,some (.sh (.int h)),e5,some (.sh OD),e7,some (.sh (.int k)),some (.sh (.int top)),some (.sh (.int T))]=
   some (.nx [some (.sh wd),some (.sh bk),some (.own (.dT (fB (ff l ("cap",[g,s,k,h,T,top]))))),e3,some (.sh (.int h)),e5,some (.sh OD),e7,some (.sh (.int k)),some (.sh (.int top)),some (.sh (.int T))]):=by
 have pd:putD (.dT (fB l)) (.tup [.str "cap",.int g,.int s,.int k,.int h,.int T,.int top]) (.bl true)=_:=Hm (f:=("cap",[g,s,k,h,T,top])) hz;generalize fB l=kv at*;generalize fB (ff l ("cap",[g,s,k,h,T,top]))=QE at*;simp[h1,h2,a6,RV.free,pd]
theorem JH{wd bkW Rj OD cd:D}{Cs:List D}{e3 e5 x9 eV:Os}{l:List Flt}{h k T g s:Int}{wo to:Option Int}(h1:ixD OD (.int 1)=some (.int g))(h2:ixD OD (.int 2)=some (.int s))(hc:atD Cs k=some cd)(ew:fM [bkW,.int g,.int h]=some (fP wo))(eb:cG [cd,fP wo]=some (fP to))(et:gh [wd,.tup [bkW,Rj],OD,cd,.int h]=some (.int T))(hz:l.length<100000):
  ∃y9 h7,f7 [some (.sh wd),some (.sh (.tup [bkW,Rj])),some (.own (.dT (fB l))),e3,some (.sh (.int h)),e5,some (.sh OD),some (.sh (.tup Cs)),some (.sh (.int k)),x9,eV]=
   some (.nx [some (.sh wd),some (.sh (.tup [bkW,Rj])),some (.own (.dT (fB ((match to with|some top=>if T>top then[(("cap",[g,s,k,h,T,top]):Flt)] else[]|none=>[]).foldl ff l)))),e3,some (.sh (.int h)),e5,some (.sh OD),some (.sh (.tup Cs)),some (.sh (.int k)),y9,h7]):=by
 have xy :=b9 (dD wo);have rt:=b9 (dD to);refine⟨some (.sh (fP to)),some (.sh (.int T)), ?_⟩;unfold f7;refine(a7 (by simp[h1,hc,ew,xy,eb,rt];rfl)).trans ?_;refine(a7 (by simp[hc,et];rfl)).trans ?_;cases to with
 |none=>exact(LM (by simp[gy,bL])).trans rfl
 |some top=>
  by_cases c:T>top
  .have c' :top<T:=c;refine(Jm (by simp[gy,bL,c'])).trans ?_;dsimp only;rw[Gaf c];exact Hn h1 h2 hz
  .have c' :¬top<T:=c;refine(LM (by simp[gy,bL,c'])).trans ?_;dsimp only;rw[Gag c]
   rfl
noncomputable def gA(os:List Order)(ws gv:List Tr)(o:Order)(h:Int):Nat->List Cap->List Flt
 |_,[]=>[]
 |k,c::cs=>dE ws c o.aw o.ax (k:Int) (h,bV os c (o.aw,o.ax) h gv)++gA os ws gv o h (k+1) cs
theorem oJ(os:List Order)(ws gv:List Tr)(o:Order)(h:Int):∀(k:Nat) (cs:List Cap),(gA os ws gv o h k cs).length<=cs.length
 |_,[]=>by simp[gA]
 |k,c::cs=>by
  have h1:=oJ os ws gv o h (k+1) cs;have h2:=jN ws c o.aw o.ax (k:Int) (h,bV os c (o.aw,o.ax) h gv);unfold gA;rw[Gan,Gaw];lia
theorem nG:∀(fs l:List Flt),(fs.foldl ff l).length<=l.length+fs.length
 |[],l=>by simp
 |f::fs,l=>by
  have h1:=nG fs (ff l f);have h2:=Ey l f;rw[GbG,Gaw];lia
theorem rC{n k:Nat}:aE (k:Int) (n+1)= .int (k:Int)::aE ((k+1:Nat):Int) n:=by
 unfold aE;rw[Gdt,GaB,GaL];refine List.cons_eq_cons.mpr ⟨by simp,GaM λj _=> ?_⟩;show D.int _=D.int _;congr 1;simp only[Nat.succ_eq_add_one];lia
theorem u4{w:World}(W:aD w){ws gv:List Tr}{o:Order}{h:Int}{Cs:List D}{e3 e5:Os}(hg:bq w.orders.length gv):∀(cs:List Cap) (k:Nat) (l:List Flt) (x8 x9 eV:Os),(∀c∈cs,lH c)->(∀j:Nat,atD Cs ((k+j:Nat):Int)=(cs[j]?).map aK)->l.length+cs.length<50000->∃y8 y9 h7,
  forL (gN 8) f7 (aE (k:Int) cs.length) [some (.sh (au w)),some (.sh (.tup [.tup (ws.map trD),.tup (gv.map trD)])),some (.own (.dT (fB l))),e3,some (.sh (.int h)),e5,some (.sh (aa o)),some (.sh (.tup Cs)),x8,x9,eV]=
   some (.nx [some (.sh (au w)),some (.sh (.tup [.tup (ws.map trD),.tup (gv.map trD)])),some (.own (.dT (fB ((gA w.orders ws gv o h k cs).foldl ff l)))),e3,some (.sh (.int h)),e5,some (.sh (aa o)),some (.sh (.tup Cs)),y8,y9,h7])
 |[],k,l,x8,x9,eV,_,_,_=> ⟨x8,x9,eV,rfl⟩
 |c::cs,k,l,x8,x9,eV,ok,yL,hz=>by
  rw[Gaw] at hz;have ok0:=ok c Gak;have hc:atD Cs (k:Int)=some (aK c):=by
   have:=yL 0
   simpa using this
  have ew:=jU (ws:=ws) (g:=o.aw) (h:=h);have eb:=rq (c:=c) (w:=wgt o.aw h ws none) ok0;have et:=JG W (o:=o) (c:=c) (h:=h) (bkW:= .tup (ws.map trD)) hg;obtain⟨z9,yr,ev⟩:=JH (wd:=au w) (OD:=aa o) (e3:=e3) (e5:=e5) (x9:=x9) (eV:=eV) (l:=l) rfl rfl hc ew eb et (by lia);have er:(match cL c (wgt o.aw h ws none) with|some top=>if bV w.orders c (o.aw,o.ax) h gv>top then[(("cap",[o.aw,o.ax,(k:Int),h,bV w.orders c (o.aw,o.ax) h gv,top]):Flt)] else[]|none=>[])=dE ws c o.aw o.ax (k:Int) (h,bV w.orders c (o.aw,o.ax) h gv):=rfl;rw[er] at ev;have l1:=jN ws c o.aw o.ax (k:Int) (h,bV w.orders c (o.aw,o.ax) h gv);have l2:=nG (dE ws c o.aw o.ax (k:Int) (h,bV w.orders c (o.aw,o.ax) h gv)) l;obtain⟨y8,y9,h7,e⟩:=u4 W (ws:=ws) (gv:=gv) (o:=o) (h:=h) (Cs:=Cs) (e3:=e3) (e5:=e5) hg cs (k+1) ((dE ws c o.aw o.ax (k:Int) (h,bV w.orders c (o.aw,o.ax) h gv)).foldl ff l) (some (.sh (.int (k:Int)))) z9 yr (λx hx=>ok x (Gae _ hx)) (λj=>by
   have:=yL (j+1);rw[show k+(j+1)=k+1+j by lia] at this
   simpa using this) (by lia)
  refine⟨y8,y9,h7, ?_⟩;rw[Gaw,rC]
  conv=>rhs;unfold gA
  rw[GdS];generalize fB l=kv at*;generalize fB (List.foldl ff l (dE ws c o.aw o.ax (k:Int) (h,bV w.orders c (o.aw,o.ax) h gv)))=kv1 at*;generalize fB (List.foldl ff _ (gA w.orders ws gv o h (k+1) cs))=kv2 at*;generalize aE _ cs.length=R at*;generalize (k:Int)=ki at*;generalize au w=wd at*;generalize aa o=od at*;generalize ws.map trD=WS at*;generalize gv.map trD=GS at*;simp only[forL,gN,GaQ,GaR,Option.bind_some,ev];exact e
theorem JI{A B C O:List D}{bk OD nm sz yg:D}{Cs:List D}{kv QE :Rws}{n h:Int}{L:Int}{e5 x6 x7 x8 x9 eV y8 y9 h7:Os}{s:Int}(hO:atD O n=some OD)(h2:ixD OD (.int 2)=some (.int s))(hS:atD B s=some (.tup [nm,sz,.tup Cs,yg]))(hL:bA [.tup Cs]=some ⟨.c,.int L⟩)(sm:aZ L=true)
  (e:forL (gN 8) f7 (aE 0 L.toNat) [some (.sh (.tup [.tup A,.tup B,.tup C,.tup O])),some (.sh bk),some (.own (.dT kv)),some (.sh (.int n)),some (.sh (.int h)),e5,some (.sh OD),some (.sh (.tup Cs)),x8,x9,eV]=some (.nx [some (.sh (.tup [.tup A,.tup B,.tup C,.tup O])),some (.sh bk),some (.own (.dT QE)),some (.sh (.int n)),some (.sh (.int h)),e5,some (.sh OD),some (.sh (.tup Cs)),y8,y9,h7])):
  f9 [some (.sh (.tup [.tup A,.tup B,.tup C,.tup O])),some (.sh bk),some (.own (.dT kv)),some (.sh (.int n)),some (.sh (.int h)),e5,x6,x7,x8,x9,eV]=some (.nx [some (.sh (.tup [.tup A,.tup B,.tup C,.tup O])),some (.sh bk),some (.own (.dT QE)),some (.sh (.int n)),some (.sh (.int h)),e5,some (.sh OD),some (.sh (.tup Cs)),y8,y9,h7]):=by
 unfold f9;refine(a7 (by simp[hO];rfl)).trans ?_;refine(a7 (by simp[h2,hS];rfl)).trans ?_;simp[-forL,-df,hL,sm,e,freed]
noncomputable def ovT(w:World)(ws gv:List Tr)(t:Tr):List Flt:=match w.orders[t.1.toNat]? with
 |some o=>gA w.orders ws gv o t.2.1 0 ((w.af[o.ax.toNat]?.map (·.ar)).getD [])
 |none=>[]
theorem u5{w:World}(W:aD w){ws gv:List Tr}(hg:bq w.orders.length gv):∀(ts:List Tr) (l:List Flt) (x3 x4 x5 x6 x7 x8 x9 eV:Os),bq w.orders.length ts->l.length+4*ts.length<40000->∃y3 y4 y5 y6 y7 y8 y9 h7,
  forL (gT [3,4,5]) f9 (ts.map trD) [some (.sh (au w)),some (.sh (.tup [.tup (ws.map trD),.tup (gv.map trD)])),some (.own (.dT (fB l))),x3,x4,x5,x6,x7,x8,x9,eV]=
   some (.nx [some (.sh (au w)),some (.sh (.tup [.tup (ws.map trD),.tup (gv.map trD)])),some (.own (.dT (fB ((ts.flatMap (ovT w ws gv)).foldl ff l)))),y3,y4,y5,y6,y7,y8,y9,h7])
 |[],l,x3,x4,x5,x6,x7,x8,x9,eV,_,_=> ⟨x3,x4,x5,x6,x7,x8,x9,eV,rfl⟩
 |t::ts,l,x3,x4,x5,x6,x7,x8,x9,eV,ht,hz=>by
  rw[Gaw] at hz;have g0:=ht t Gak;obtain⟨n,hn⟩:=Gav g0.1;have h8 :n<w.orders.length:=by lia
  have oo:=W.oo w.orders[n] (Gat h8);obtain⟨m,hm⟩:=Gav oo.s0;have hm' :m<w.af.length:=by have:=oo.s1;lia
  have so:=W.so w.af[m] (Gat hm');have hO:atD (w.orders.map aa) t.1=some (aa w.orders[n]):=by rw[hn,b4,Gah,Gaa h8];rfl
  have hS:atD (w.af.map aA) w.orders[n].ax=some (.tup [.str w.af[m].name,.tup ((w.af[m].part::w.af[m].more).map .int),.tup (w.af[m].ar.map aK),.int w.af[m].young]):=by
   rw[hm,b4,Gah,Gaa hm'];rfl
  have eo:ovT w ws gv t=gA w.orders ws gv w.orders[n] t.2.1 0 w.af[m].ar:=by
   unfold ovT;rw[hn,GaI,Gaa h8];dsimp only;rw[hm,GaI,Gaa hm']
   rfl
  have cl:=so.cl;obtain⟨z8,z9,yr,ec⟩:=u4 W (ws:=ws) (gv:=gv) (o:=w.orders[n]) (h:=t.2.1) (Cs:=w.af[m].ar.map aK) (e3:=some (.sh (.int t.1))) (e5:=some (.sh (.int t.2.2))) hg w.af[m].ar 0 l x8 x9 eV so.ok (λj=>by rw[Gbp,b4,Gah]) (by lia);have l1:=oJ w.orders ws gv w.orders[n] t.2.1 0 w.af[m].ar;have l2:=nG (gA w.orders ws gv w.orders[n] t.2.1 0 w.af[m].ar) l;have hL:bA [.tup (w.af[m].ar.map aK)]=some ⟨.c,.int ((w.af[m].ar.map aK).length:Int)⟩:=df;have sm:aZ ((w.af[m].ar.map aK).length:Int)=true:=aX (by lia) (by rw[Gac];lia);have er:aE 0 ((w.af[m].ar.map aK).length:Int).toNat=aE ((0:Nat):Int) w.af[m].ar.length:=by simp
  rw[<-er] at ec;have ev:=JI (A:=w.aT.map bc) (C:=w.aU.map trD) (x6:=x6) (x7:=x7) hO rfl hS hL sm ec;rw[<-eo] at ev l1 l2;obtain⟨y3,y4,y5,y6,y7,y8,y9,h7,e⟩:=u5 W (ws:=ws) hg ts ((ovT w ws gv t).foldl ff l) (some (.sh (.int t.1))) (some (.sh (.int t.2.1))) (some (.sh (.int t.2.2))) (some (.sh (aa w.orders[n]))) (some (.sh (.tup (w.af[m].ar.map aK)))) z8 z9 yr (λx hx=>ht x (Gae _ hx)) (by lia);refine⟨y3,y4,y5,y6,y7,y8,y9,h7, ?_⟩;rw[Gbb,GdS,GaB];have ed:trD t= .tup [.int t.1,.int t.2.1,.int t.2.2]:=rfl;rw[ed];have ew:au w= .tup [.tup (w.aT.map bc),.tup (w.af.map aA),.tup (w.aU.map trD),.tup (w.orders.map aa)]:=rfl;rw[<-ew] at ev;generalize au w=wd at*;generalize fB l=kv at*;generalize fB (List.foldl ff l (ovT w ws gv t))=kv1 at*;generalize fB _=kv2 at*;generalize aa w.orders[n]=od at*;generalize w.af[m].ar.map aK=CS at*;generalize ws.map trD=WS at*;generalize gv.map trD=GS at*;simp only[forL,gT,gNs,GaQ,GaR,Option.bind_some,ev];exact e
theorem u6(ts:List Tr)(o h v x y:Int):gG (mE ts o h v) x y=if o=x/\h=y then v else gG ts x y:=by
 unfold mE;cases ha:ts.any (atT o h) with
 |true=>
  rw[Gaf rfl];unfold gG;rw[List.find?_map];by_cases c:o=x/\h=y
  .rw[Gaf c];obtain⟨rfl,rfl⟩:=c;have e:(atT o h∘λt:Tr=>if atT o h t=true then(o,h,v) else t)=atT o h:=by
    funext t
    simp only[GbD];split
    .rename_i c;rw[c];exact Gaz ⟨rfl,rfl⟩
    .rfl
   rw[e];cases hf:ts.find? (atT o h) with
   |none=>
    obtain⟨t,ht,q⟩:=GcS.mp ha;exact absurd q (GcF.mp hf t ht)
   |some t=>
    have:=List.find?_some hf;simp[this]
  .rw[Gag c];have e:(atT x y∘λt:Tr=>if atT o h t=true then(o,h,v) else t)=atT x y:=by
    funext t
    simp only[GbD];split
    .rename_i q;have q' :=Gar q;have n1:atT x y (o,h,v)=false:=GaD c;have n2:atT x y t=false:=GaD (by rw[q'.1,q'.2];exact c);rw[n1,n2]
    .rfl
   rw[e];cases hf:ts.find? (atT x y) with
   |none=>rfl
   |some t=>
    have q0:atT x y t=true:=List.find?_some hf;have q:=Gar q0;have n2:¬atT o h t=true:=λz=>by
     have z' :=Gar z;exact c ⟨by lia,by lia⟩
    simp[n2]
 |false=>
  rw[Gag (by simp)];unfold gG;rw[List.find?_append];by_cases c:o=x/\h=y
  .obtain⟨rfl,rfl⟩:=c;have hf:ts.find? (atT o h)=none:=by
    rw[GcF];intro t ht q;rw[Gdn] at ha;exact ha t ht q
   rw[hf];have:atT o h (o,h,v)=true:=Gaz ⟨rfl,rfl⟩;simp[this]
  .rw[Gag c];have:atT x y (o,h,v)=false:=GaD c;cases hf:ts.find? (atT x y)<;>simp[this]
noncomputable def mt(x y:Int)(b:Tr):Bool:=decide ((b.1=x/\b.2.1=y)\/(b.1=y/\b.2.1=x))
theorem EA(ts:List Tr)(b:Tr)(x y:Int):gG (aO ts b) x y=if mt x y b then b.2.2 else gG ts x y:=by
 unfold aO;rw[u6,u6];unfold mt;by_cases c1:b.2.1=x/\b.1=y
 .rw[Gaf c1,Gaf (Gaz (.inr ⟨c1.2,c1.1⟩))]
 .rw[Gag c1];by_cases c2:b.1=x/\b.2.1=y
  .rw[Gaf c2,Gaf (Gaz (.inl c2))]
  .rw[Gag c2,Gag];intro z;rcases Gar z with z|z
   .exact c2 z
   .exact c1 ⟨z.2,z.1⟩
theorem jr(x y:Int):∀(bs ts:List Tr),(∀b∈bs,b.1<=b.2.1)->(bs.map uV).Nodup->gG (bs.foldl aO ts) x y=match bs.find? (mt x y) with|some b=>b.2.2|none=>gG ts x y
 |[],ts,_,_=>rfl
 |b::bs,ts,le,nd=>by
  rw[GaB,GbY] at nd;rw[GbG,jr x y bs (aO ts b) (λc hc=>le c (Gae _ hc)) nd.2,EA];by_cases c:mt x y b=true
  .rw[Gdy c];have hf:bs.find? (mt x y)=none:=by
    rw[GcF];intro d hd q;apply nd.1;refine GaG.mpr ⟨d,hd, ?_⟩;have c' :=Gar c;have q' :=Gar q;have l1:=le b Gak;have l2:=le d (Gae _ hd);unfold uV;exact Prod.ext (by show d.1=b.1;lia) (by show d.2.1=b.2.1;lia)
   rw[hf];simp only[c,Gbx]
  .rw[Gdz c];have c' :mt x y b=false:=by simpa using c
   rw[c'];simp
theorem Ho:∀(ns:List Int) (n:Int),n<=pA n ns/\∀m∈ns,m<=pA n ns
 |[],n=> ⟨GbC _,by simp⟩
 |k::ns,n=>by
  have h:=Ho ns (if k>n then k else n);have e:pA n (k::ns)=pA (if k>n then k else n) ns:=rfl;rw[e];refine⟨?_,λm hm=> ?_⟩
  .have:=h.1;split at this<;>split<;>lia
  .rcases GaC.mp hm with rfl|hm
   .have:=h.1;split at this<;>split<;>lia
   .exact h.2 m hm
theorem JJ{bs:List Tr}(pos:∀b∈bs,1<=b.2.2):0<=wide bs/\∀b∈bs,b.2.2<=wide bs:=by
 cases bs with
 |nil=>exact⟨by decide,by simp⟩
 |cons b bs=>
  have e:wide (b::bs)=pA b.2.2 (bs.map (·.2.2)):=rfl;have h:=Ho (bs.map (·.2.2)) b.2.2;rw[e];have:=pos b Gak;refine⟨by lia,λc hc=> ?_⟩;rcases GaC.mp hc with rfl|hc
  .exact h.1
  .exact h.2 _ (GaG.mpr ⟨c,hc,rfl⟩)
theorem Mc{bs:List Tr}(le:∀b∈bs,b.1<=b.2.1)(pos:∀b∈bs,1<=b.2.2)(nd:(bs.map uV).Nodup)(a b:Order):mG (bs.foldl aO []) a b<=wide bs:=by
 have w:=JJ pos;unfold mG;split
 .rw[jr _ _ bs [] le nd];cases h:bs.find? (mt a.ax b.ax) with
  |none=>exact w.1
  |some c=>exact w.2 c (List.mem_of_find?_eq_some h)
 .exact w.1
theorem A2{os:List Order}{gs:List Tr}{w:Int}(le:∀a b,mG gs a b<=w){r l:Int×Int}(h:l.1 -r.1>=w):gpF os gs r l=[]:=by
 unfold gpF;split
 .rename_i a b _ _;rw[Gag];have:=le a b;lia
 .rfl
theorem u7{os:List Order}{gs:List Tr}{w:Int}(le:∀a b,mG gs a b<=w){r:Int×Int}:∀ls:List (Int×Int),(ls.Pairwise λa b=>a.1<=b.1)->jV os gs w r ls=ls.flatMap (gpF os gs r)
 |[],_=>rfl
 |l::ls,h=>by
  rw[Gbl] at h;unfold jV;rw[Gbb];by_cases c:l.1 -r.1>=w
  .rw[Gaf c,A2 le c]
   symm
   rw[GcE,Gcz];intro x hx;have:=h.1 x hx;exact A2 le (by lia)
  .rw[Gag c,u7 le ls h.2]
noncomputable def prs(F:Int×Int->Int×Int->List Flt):List (Int×Int)->List Flt
 |[]=>[]
 |r::rs=>rs.flatMap (F r)++prs F rs
theorem rD{os:List Order}{gs:List Tr}{w:Int}(le:∀a b,mG gs a b<=w):∀ls:List (Int×Int),(ls.Pairwise λa b=>a.1<=b.1)->dR os gs w ls=prs (gpF os gs) ls
 |[],_=>rfl
 |l::ls,h=>by
  rw[Gbl] at h;unfold dR prs;rw[u7 le ls h.2,rD le ls h.2]
theorem A3(F:Int×Int->Int×Int->List Flt)(l:Int×Int):∀rs:List (Int×Int),(prs F (rs++[l])).Perm (prs F rs++rs.flatMap λr=>F r l)
 |[]=>by simp[prs]
 |r::rs=>by
  have ih:=A3 F l rs;rw[List.cons_append];unfold prs;rw[GcX,Gbb];simp only[Gbb,List.flatMap_nil,GaW,Gas];refine GbI _ ?_;refine((GbI _ ih)).trans ?_;rw[<-Gas,<-Gas];exact Gbc _ Gbq
theorem A4{α β:Type}{f g:α->List β}:∀l:List α,(∀x∈l,f x=g x)->l.flatMap f=l.flatMap g
 |[],_=>rfl
 |x::l,h=>by rw[Gbb,Gbb,h x Gak,A4 l λy hy=>h y (Gae _ hy)]
theorem u9{F G:Int×Int->Int×Int->List Flt}:∀rs:List (Int×Int),(rs.Pairwise λa b=>F a b=G a b)->prs F rs=prs G rs
 |[],_=>rfl
 |r::rs,h=>by
  rw[Gbl] at h;unfold prs;rw[u9 rs h.2];congr 1;exact A4 rs h.1
noncomputable def il(a b:Order)(r l:Int×Int)(c:Tr):List Flt:=if(a.aw=b.aw/\mt a.ax b.ax c=true)/\l.1 -r.1<c.2.2 then[("gap",[r.2,r.1,l.2,l.1])] else[]
noncomputable def kO(os:List Order)(bs:List Tr)(r l:Int×Int):List Flt:=match os[r.2.toNat]?,os[l.2.toNat]? with
 |some a,some b=>bs.flatMap (il a b r l)
 |_,_=>[]
theorem A5{a b:Order}{r l:Int×Int}(hl:r.1<=l.1):∀bs:List Tr,(∀b∈bs,b.1<=b.2.1)->(bs.map uV).Nodup->bs.flatMap (il a b r l)=if l.1 -r.1<(if a.aw=b.aw then(match bs.find? (mt a.ax b.ax) with|some c=>c.2.2|none=>0) else 0) then([("gap",[r.2,r.1,l.2,l.1])]:List Flt) else[]
 |[],_,_=>by
  rw[List.flatMap_nil,Gag];split
  .show¬l.1 -r.1<0;lia
  .lia
 |c::bs,le,nd=>by
  rw[GaB,GbY] at nd;rw[Gbb,A5 hl bs (λd hd=>le d (Gae _ hd)) nd.2];by_cases g:a.aw=b.aw
  .simp only[Gaf g];by_cases m:mt a.ax b.ax c=true
   .rw[Gdy m];have hf:bs.find? (mt a.ax b.ax)=none:=by
     rw[GcF];intro d hd q;apply nd.1;refine GaG.mpr ⟨d,hd, ?_⟩;have c' :=Gar m;have q' :=Gar q;have l1:=le c Gak;have l2:=le d (Gae _ hd);unfold uV;exact Prod.ext (by show d.1=c.1;lia) (by show d.2.1=c.2.1;lia)
    rw[hf];dsimp only;rw[Gag (by lia:¬l.1 -r.1<0),GaW];unfold il;by_cases q:l.1 -r.1<c.2.2
    .rw[Gaf ⟨⟨g,m⟩,q⟩,Gaf q]
    .rw[Gag (λz=>q z.2),Gag q]
   .rw[Gdz m];have:il a b r l c=[]:=by
     unfold il;rw[Gag (λz=>m z.1.2)]
    rw[this,GcE]
  .simp only[Gag g];have:il a b r l c=[]:=by
    unfold il;rw[Gag (λz=>g z.1.1)]
   rw[this,GcE]
theorem JK{os:List Order}{bs:List Tr}(le:∀b∈bs,b.1<=b.2.1)(nd:(bs.map uV).Nodup){r l:Int×Int}(hl:r.1<=l.1):kO os bs r l=gpF os (bs.foldl aO []) r l:=by
 unfold kO gpF;cases os[r.2.toNat]? with
 |none=>rfl
 |some a=>
  cases os[l.2.toNat]? with
  |none=>rfl
  |some b=>
   dsimp only;rw[A5 hl bs le nd];unfold mG;rw[jr _ _ bs [] le nd]
   rfl
theorem Hq(a b:Int):sortedS [.lst [.int a,.int b]]=some ⟨.tn,.lst (if a<b then[.int a,.int b] else[.int b,.int a])⟩:=by
 have k:keysOk [.int a,.int b]=true:=rfl;have e:bU [.int a,.int b]=if a<b then[.int a,.int b] else[.int b,.int a]:=by
  show(if ltC (DL.code (.int a)) (DL.code (.int b)) then[D.int a,.int b] else[D.int b,.int a])=_;have l:ltC (DL.code (.int a)) (DL.code (.int b))=decide (a<b):=by
   show dQ (dQ ltI) [[1,a]] [[1,b]]=_;by_cases c:a=b
   .subst c;simp[dQ]
   .by_cases c2:a<b<;>simp[dQ,ltI,c,c2]
  rw[l];by_cases c:a<b
  .rw[Gaz c,Gaf rfl,Gaf c]
  .rw[GaD c,Gag (by simp),Gag c]
 unfold sortedS one ka;simp only[Option.bind_some];rw[k,e]
 rfl
theorem Hr(u v x y:Int):eqB (.lst [.int u,.int v]) (.lst [.int x,.int y])=some (decide (u=x/\v=y)):=by
 unfold eqB;by_cases c1:u=x<;>by_cases c2:v=y<;>simp[c1,c2]
theorem JL{a b x y:Int}(le:x<=y){L:List D}(h:(if a<b then[D.int a,.int b] else[D.int b,.int a])=L):eqB (.lst L) (.lst [.int x,.int y])=some (mt a b (x,y,0)):=by
 subst h;unfold mt;split
 .rename_i c;rw[Hr];congr 1;rw[GcT];show _↔(x=a/\y=b)\/(x=b/\y=a);lia
 .rename_i c;rw[Hr];congr 1;rw[GcT];show _↔(x=a/\y=b)\/(x=b/\y=a);lia
theorem JM{e0 e1:Os}{R F L:List D}{OA OB:D}{g1 g2 s1 s2 i j r1 r2 l1 l2 c1 c2 c3:Int}{m:Bool}(hi:atD R i=some (.tup [.int r1,.int r2]))(hj:atD R j=some (.tup [.int l1,.int l2]))(a1:ixD OA (.int 1)=some (.int g1))(a2:ixD OA (.int 2)=some (.int s1))(b1:ixD OB (.int 1)=some (.int g2))(b2:ixD OB (.int 2)=some (.int s2))(hs:sortedS [.lst [.int s1,.int s2]]=some ⟨.tn,.lst L⟩)(he:eqB (.lst L) (.lst [.int c1,.int c2])=some m)(hz:F.length<100000):
  fb [e0,e1,some (.own (.lst R)),some (.sh OA),some (.own (.lst F)),some (.sh (.int j)),some (.sh (.int i)),some (.sh OB),some (.sh (.tup [.int c1,.int c2,.int c3]))]=
   some (.nx [e0,e1,some (.own (.lst R)),some (.sh OA),some (.own (.lst (F++if(g1=g2/\m=true)/\l1 -r1<c3 then[D.tup [.str "gap",.int r2,.int r1,.int l2,.int l1]] else[]))),some (.sh (.int j)),some (.sh (.int i)),some (.sh OB),some (.sh (.tup [.int c1,.int c2,.int c3]))]):=by
 have z:F.length<16777216:=by lia
 unfold fb;by_cases g:g1=g2
 .have ge:eqB (.int g1) (.int g2)=some true:=by unfold eqB;simp[g]
  cases m with
  |false=>
   rw[Gag (by simp)];simp[a1,b1,ge,a2,b2,hs,he,a6]
  |true=>
   by_cases q:l1 -r1<c3
   .rw[Gaf ⟨⟨g,rfl⟩,q⟩];simp[a1,b1,ge,a2,b2,hs,he,hi,hj,q,z,a6]
   .rw[Gag (λw=>q w.2)];simp[a1,b1,ge,a2,b2,hs,he,hi,hj,q,a6]
 .have ge:eqB (.int g1) (.int g2)=some false:=by unfold eqB;simp[g]
  rw[Gag (λw=>g w.1.1)];simp[a1,b1,ge]
theorem uc{e0 e1:Os}{R:List D}{a b:Order}{i j:Int}{r l:Int×Int}(hi:atD R i=some (mk2 r))(hj:atD R j=some (mk2 l)):∀(bs:List Tr) (fs:List Flt) (x8:Os),(∀b∈bs,b.1<=b.2.1)->fs.length+bs.length<90000->∃y8,
  forL (gN 8) fb (bs.map trD) [e0,e1,some (.own (.lst R)),some (.sh (aa a)),some (.own (.lst (fs.map ae))),some (.sh (.int j)),some (.sh (.int i)),some (.sh (aa b)),x8]=
   some (.nx [e0,e1,some (.own (.lst R)),some (.sh (aa a)),some (.own (.lst ((fs++bs.flatMap (il a b r l)).map ae))),some (.sh (.int j)),some (.sh (.int i)),some (.sh (aa b)),y8])
 |[],fs,x8,_,_=> ⟨x8,by simp⟩
 |c::bs,fs,x8,le,hz=>by
  rw[Gaw] at hz;have he:=JL (a:=a.ax) (b:=b.ax) (le c Gak) rfl;have ev:=JM (e0:=e0) (e1:=e1) (F:=fs.map ae) (OA:=aa a) (OB:=aa b) (c3:=c.2.2) hi hj rfl rfl rfl rfl (Hq a.ax b.ax) he (by rw[Gac];lia);have em:mt a.ax b.ax (c.1,c.2.1,0)=mt a.ax b.ax c:=rfl;rw[em] at ev;have eg:(if(a.aw=b.aw/\mt a.ax b.ax c=true)/\l.1 -r.1<c.2.2 then[D.tup [.str "gap",.int r.2,.int r.1,.int l.2,.int l.1]] else[])=(il a b r l c).map ae:=by
   unfold il;split<;>rfl
  rw[eg,<-GaF] at ev;have n1:(il a b r l c).length<=1:=by unfold il;split<;>simp
  obtain⟨y8,e⟩:=uc (e0:=e0) (e1:=e1) hi hj bs (fs++il a b r l c) (some (.sh (trD c))) (λd hd=>le d (Gae _ hd)) (by rw[Gan];lia);refine⟨y8, ?_⟩;rw[GaB,Gbb,<-Gas];have td:D.tup [.int c.1,.int c.2.1,.int c.2.2]=trD c:=rfl;rw[td] at ev;generalize trD c=cd at*;simp only[forL,gN,GaQ,GaR,Option.bind_some,ev];exact e
theorem JN{A B C O R:List D}{e1 e4 x3 x7 x8:Os}{OA OB:D}{i j r1 r2 l1 l2:Int}{e' :DL.Env}(hi:atD R i=some (.tup [.int r1,.int r2]))(hj:atD R j=some (.tup [.int l1,.int l2]))(ha:atD O r2=some OA)(hb:atD O l2=some OB)(ia:OA.imm=true)(ib:OB.imm=true)
  (h:forL (gN 8) fb C [some (.sh (.tup [.tup A,.tup B,.tup C,.tup O])),e1,some (.own (.lst R)),some (.sh OA),e4,some (.sh (.int j)),some (.sh (.int i)),some (.sh OB),x8]=some (.nx e')):
  cR [some (.sh (.tup [.tup A,.tup B,.tup C,.tup O])),e1,some (.own (.lst R)),x3,e4,some (.sh (.int j)),some (.sh (.int i)),x7,x8]=some (.nx e'):=by
 unfold cR;refine(a7 (by simp[hi,ha,ia];rfl)).trans ?_;refine(a7 (by simp[hj,hb,ib];rfl)).trans ?_;simp[-forL,h,freed]
noncomputable def js(os:List Order)(bs:List Tr)(eA:List (Int×Int))(l:Int×Int)(i:Nat):List Flt:=(eA.take i).flatMap λr=>kO os bs r l
noncomputable def gm(os:List Order)(bs:List Tr)(eA:List (Int×Int))(j:Nat):List Flt:=(List.range j).flatMap λj=>js os bs eA (eA[j]?.getD (0,0)) j
theorem BD{os:List Order}{bs:List Tr}{eA:List (Int×Int)}{l:Int×Int}{i:Nat}(hi:i<eA.length):js os bs eA l (i+1)=js os bs eA l i++kO os bs eA[i] l:=by
 unfold js;rw[GbT hi,GcX];simp
theorem rE{os:List Order}{bs:List Tr}{eA:List (Int×Int)}{j:Nat}(hj:j<eA.length):gm os bs eA (j+1)=gm os bs eA j++js os bs eA eA[j] j:=by
 unfold gm;rw[GcZ,GcX];simp[Gaa hj]
theorem ud{os:List Order}{bs:List Tr}{eA:List (Int×Int)}:∀j,j<=eA.length->(gm os bs eA j).Perm (prs (kO os bs) (eA.take j))
 |0,_=>by simp[gm,prs]
 |j+1,h=>by
  rw[rE (by lia),GbT (by lia:j<eA.length)];exact(Gbc _ (ud j (by lia))).trans (A3 (kO os bs) eA[j] (eA.take j)).symm
theorem ue{os:List Order}{bs:List Tr}{r l:Int×Int}:(kO os bs r l).length<=bs.length:=by
 unfold kO;split
 .rename_i a b _ _;exact r6 _ (λc=>by unfold il;split<;>simp) bs
 .simp
theorem v5{eA:List (Int×Int)}{i:Nat}(hi:i<eA.length):atD (eA.map mk2) (i:Int)=some (mk2 eA[i]):=by
 rw[b4,Gah,Gaa hi];rfl
theorem JO{w:World}(W:aD w){eA:List (Int×Int)}{e1 x3 x6 x7 x8:Os}{fs:List Flt}(hr:∀l∈eA,0<=l.2/\l.2<w.orders.length)(hn:eA.length<64){j:Nat}(hj:j<eA.length)(hf:fs.length<=64*64*12):∃y3 y6 y7 y8,
  forL (gN 6) cR (aE 0 j) [some (.sh (au w)),e1,some (.own (.lst (eA.map mk2))),x3,some (.own (.lst (fs.map ae))),some (.sh (.int (j:Int))),x6,x7,x8]=
   some (.nx [some (.sh (au w)),e1,some (.own (.lst (eA.map mk2))),y3,some (.own (.lst ((fs++js w.orders w.aU eA eA[j] j).map ae))),some (.sh (.int (j:Int))),y6,y7,y8]):=by
 have b12:=W.b12;obtain⟨en,h1,y3,y6,y7,y8,_,rfl⟩:=cB (g:=gN 6) (body:=cR) (λi env=>∃y3 y6 y7 y8,(js w.orders w.aU eA eA[j] i).length<=12*i/\env=[some (.sh (au w)),e1,some (.own (.lst (eA.map mk2))),y3,some (.own (.lst ((fs++js w.orders w.aU eA eA[j] i).map ae))),some (.sh (.int (j:Int))),y6,y7,y8]) (aE 0 j) 0 [some (.sh (au w)),e1,some (.own (.lst (eA.map mk2))),x3,some (.own (.lst (fs.map ae))),some (.sh (.int (j:Int))),x6,x7,x8] ⟨x3,x6,x7,x8,by simp[js],by simp[js]⟩ (by
  rintro i d en hd ⟨y3,y6,y7,y8,hl,rfl⟩;obtain⟨hi,rfl⟩:=aY hd;rw[Gbp] at hl⊢;have e0' :(0:Int)+(i:Int)=(i:Int):=by lia
  rw[e0',BD (by lia:i<eA.length)];have hri:=hr eA[i] (Gat (by lia));have hrj:=hr eA[j] (Gat hj);obtain⟨n,RG⟩:=Gav hri.1;obtain⟨m,Qe⟩:=Gav hrj.1;have h8 :n<w.orders.length:=by lia
  have hm' :m<w.orders.length:=by lia
  have ha:atD (w.orders.map aa) eA[i].2=some (aa w.orders[n]):=by rw[RG,b4,Gah,Gaa h8];rfl
  have hb:atD (w.orders.map aa) eA[j].2=some (aa w.orders[m]):=by rw[Qe,b4,Gah,Gaa hm'];rfl
  have oa:=W.oo w.orders[n] (Gat h8);have ob:=W.oo w.orders[m] (Gat hm');have ep:kO w.orders w.aU eA[i] eA[j]=w.aU.flatMap (il w.orders[n] w.orders[m] eA[i] eA[j]):=by
   unfold kO;rw[RG,Qe,GaI,GaI,Gaa h8,Gaa hm']
  have pl:=ue (os:=w.orders) (bs:=w.aU) (r:=eA[i]) (l:=eA[j]);obtain⟨z8,eb⟩:=uc (e0:=some (.sh (au w))) (e1:=e1) (a:=w.orders[n]) (b:=w.orders[m]) (v5 (by lia:i<eA.length)) (v5 hj) w.aU (fs++js w.orders w.aU eA eA[j] i) y8 (λb hb=>(W.bo.1 b hb).2.1) (by rw[Gan];lia);have ev:=JN (x3:=y3) (x7:=y7) (A:=w.aT.map bc) (B:=w.af.map aA) (v5 (by lia:i<eA.length)) (v5 hj) ha hb (cH _ oa.ti) (cH _ ob.ti) eb;rw[<-ep,Gas] at ev;exact⟨_,_,rfl,ev,_,some (.sh (.int (i:Int))),_,_,by rw[Gan];lia,rfl⟩)
 rw[cn,Gbp] at h1;exact⟨y3,y6,y7,y8,h1⟩
theorem JP{e0 e1 e2 x3 e4 x6 x7 x8:Os}{j:Int}{e' :DL.Env}(sm:aZ j=true)(h:forL (gN 6) cR (aE 0 j.toNat) [e0,e1,e2,x3,e4,some (.sh (.int j)),x6,x7,x8]=some (.nx e')):cS [e0,e1,e2,x3,e4,some (.sh (.int j)),x6,x7,x8]=some (.nx e'):=by
 unfold cS;simp[-forL,sm,h,freed]
theorem EB{w:World}(W:aD w){eA:List (Int×Int)}{e1:Os}(hr:∀l∈eA,0<=l.2/\l.2<w.orders.length)(hn:eA.length<64):∃y3 y5 y6 y7 y8,(gm w.orders w.aU eA eA.length).length<=64*64*12/\
  forL (gN 5) cS (aE 0 eA.length) [some (.sh (au w)),e1,some (.own (.lst (eA.map mk2))),none,some (.own (.lst [])),none,none,none,none]=
   some (.nx [some (.sh (au w)),e1,some (.own (.lst (eA.map mk2))),y3,some (.own (.lst ((gm w.orders w.aU eA eA.length).map ae))),y5,y6,y7,y8]):=by
 have b12:=W.b12;have rl:∀l i,i<=eA.length->(js w.orders w.aU eA l i).length<=i*12:=λl i hi=>by
  unfold js;have:=fV (λr=>kO w.orders w.aU r l) 12 (eA.take i) (λr _=>by have:=ue (os:=w.orders) (bs:=w.aU) (r:=r) (l:=l);lia);rw[Gce,GbP hi] at this;exact this
 obtain⟨en,h1,y3,y5,y6,y7,y8,hl,rfl⟩:=cB (g:=gN 5) (body:=cS) (λj env=>∃y3 y5 y6 y7 y8,(gm w.orders w.aU eA j).length<=64*12*j/\env=[some (.sh (au w)),e1,some (.own (.lst (eA.map mk2))),y3,some (.own (.lst ((gm w.orders w.aU eA j).map ae))),y5,y6,y7,y8]) (aE 0 eA.length) 0 [some (.sh (au w)),e1,some (.own (.lst (eA.map mk2))),none,some (.own (.lst [])),none,none,none,none] ⟨none,none,none,none,none,by simp[gm],by simp[gm]⟩ (by
  rintro j d en hd ⟨y3,y5,y6,y7,y8,hl,rfl⟩;obtain⟨hj,rfl⟩:=aY hd;rw[Gbp] at hl⊢;have e0' :(0:Int)+(j:Int)=(j:Int):=by lia
  rw[e0',rE hj];have r12:=rl eA[j] j (by lia);obtain⟨z3,z6,z7,z8,e⟩:=JO W (e1:=e1) (x3:=y3) (x6:=y6) (x7:=y7) (x8:=y8) (fs:=gm w.orders w.aU eA j) hr hn hj (by lia);have ev:=JP (j:=(j:Int)) (aX (by lia) (by lia)) (by rw[GaI];exact e);exact⟨_,_,rfl,ev,_,some (.sh (.int (j:Int))),_,_,_,by rw[Gan];lia,rfl⟩)
 rw[cn,Gbp] at h1 hl;exact⟨y3,y5,y6,y7,y8,by lia,h1⟩
theorem Ht{wd:D}{W G R R' F:List D}{n:Int}{y3 y5 y6 y7 y8:Os}(zg:G.length<1000)(hc:br (gN 0) fZ (aQ (a4 (ixE (vE 0) (kE (.int 1))) (a4 (ixE (vE 0) (kE (.int 0))) a8))) G [none]=some R)(hs:sortedS [.lst R]=some ⟨.tn,.lst R'⟩)(hn:bA [.lst R']=some ⟨.c,.int n⟩)(sm:aZ n=true)
  (h:forL (gN 5) cS (aE 0 n.toNat) [some (.sh wd),some (.sh (.tup [.tup W,.tup G])),some (.own (.lst R')),none,some (.own (.lst [])),none,none,none,none]=some (.nx [some (.sh wd),some (.sh (.tup [.tup W,.tup G])),some (.own (.lst R')),y3,some (.own (.lst F)),y5,y6,y7,y8]))(im:aq F=true):i8 [wd,.tup [.tup W,.tup G]]=some (.lst F):=by
 have z:G.length<=16777216:=by lia
 refine aH rfl ?_;unfold mz;refine(a7 (by simp[-br,aM,a6,DL.compEnv,cJ,z,hc,hs];rfl)).trans ?_;refine(a7 (by simp[a6];rfl)).trans ?_;refine(a7 (by simp[-forL,-fC,hn,sm,h,freed];rfl)).trans ?_;simp[im]
theorem Md{w:World}{ws gv:List Tr}{eA:List (Int×Int)}(W:aD w)(hg:bq w.orders.length gv)(hl:gv.length<64)(r1:bU ((gvR gv).map mk2)=eA.map mk2)(r2:eA.Perm (gvR gv)):i8 [au w,.tup [.tup (ws.map trD),.tup (gv.map trD)]]=some (.lst ((gm w.orders w.aU eA eA.length).map ae))/\(gm w.orders w.aU eA eA.length).length<=64*64*12:=by
 have lr:eA.length=gv.length:=by rw[r2.length_eq];simp[gvR]
 have hr:∀l∈eA,0<=l.2/\l.2<w.orders.length:=λl hl=>by
  obtain⟨t,ht,rfl⟩:=GaG.mp (r2.mem_iff.mp hl);exact hg t ht
 have hc:=gK (g:=gN 0) (f:=aQ (a4 (ixE (vE 0) (kE (.int 1))) (a4 (ixE (vE 0) (kE (.int 0))) a8))) trD (λenv=>∃y,env=[y]) (λt=>mk2 (t.2.1,t.1)) gv [none] ⟨none,rfl⟩ (by
  rintro t ht env ⟨y,rfl⟩;exact⟨_,rfl,⟨_,rfl⟩,.c,by simp[trD,mk2,a6],rfl⟩)
 have e1:gv.map (λt=>mk2 (t.2.1,t.1))=(gvR gv).map mk2:=by unfold gvR;rw[GaL];rfl
 rw[e1] at hc;have hs:=mH (ms:=gvR gv) (by simp[gvR];exact hl);rw[r1] at hs;obtain⟨y3,y5,y6,y7,y8,z,e⟩:=EB W (e1:=some (.sh (.tup [.tup (ws.map trD),.tup (gv.map trD)]))) hr (by lia);exact⟨Ht (n:=(eA.length:Int)) (by rw[Gac];lia) hc hs (by simp[bA]) (aX (by lia) (by lia)) (by rw[GaI];exact e) (cw _),z⟩
noncomputable def A6(os:List Order)(g:Tr):Option Int:=(os[g.1.toNat]?).bind λo=>lI o.cx g.2.1
noncomputable def pD(os:List Order)(o k:Int)(g:Tr):Bool:=decide (g.1=o)&&decide (A6 os g=some k)
noncomputable def jO(os:List Order)(pre:List Tr)(o k:Int):Nat:=(pre.filter (pD os o k)).length
structure sD(os:List Order)(pre ts:List Tr):Prop where
 nd:(ts.map λt=>(t.1,t.2.1)).Nodup
 ct:∀t∈ts,t.2.2=(jO os pre t.1 t.2.1:Int)
 cv:∀o k,0<jO os pre o k->∃t∈ts,t.1=o/\t.2.1=k
theorem jt(os:List Order)(pre:List Tr)(g:Tr)(o k:Int):jO os (pre++[g]) o k=jO os pre o k+(if pD os o k g then 1 else 0):=by
 unfold jO;rw[Gdg,Gan];congr 1;cases h:pD os o k g<;>simp[h]
theorem JQ{ts:List Tr}(nd:(ts.map λt=>(t.1,t.2.1)).Nodup){t:Tr}(ht:t∈ts):gG ts t.1 t.2.1=t.2.2:=by
 unfold gG;induction ts with
 |nil=>cases ht
 |cons s ts ih=>
  rw[GaB,GbY] at nd;by_cases c:atT t.1 t.2.1 s=true
  .rw[Gdy c];rcases GaC.mp ht with rfl|ht
   .rfl
   .exfalso;have c' :=Gar c;exact nd.1 (GaG.mpr ⟨t,ht,by rw[c'.1,c'.2]⟩)
  .rw[Gdz c];rcases GaC.mp ht with rfl|ht
   .exact absurd (Gaz ⟨rfl,rfl⟩) c
   .exact ih nd.2 ht
theorem JR{ts:List Tr}{o k:Int}(h:ts.any (atT o k)=false):gG ts o k=0:=by
 unfold gG;have:ts.find? (atT o k)=none:=by
  rw[GcF];intro x hx q;rw[Gdn] at h;exact h x hx q
 rw[this]
 rfl
theorem sD.step{os:List Order}{pre ts:List Tr}(I:sD os pre ts)(g:Tr):sD os (pre++[g]) (bK os ts g):=by
 obtain⟨nd,ct,cv⟩:=I;have e:bK os ts g=twU ts g.1 (A6 os g):=rfl;rw[e];cases hu:A6 os g with
 |none=>
  have no:∀o k,pD os o k g=false:=λo k=>by unfold pD;rw[hu];simp
  refine⟨nd,λt ht=> ?_,λo k h=> ?_⟩
  .rw[jt,no]
   simpa using ct t ht
  .rw[jt,no] at h;exact cv o k (by simpa using h)
 |some k=>
  have has:∀o q,pD os o q g=decide (g.1=o/\k=q):=λo q=>by
   unfold pD;rw[hu]
   by_cases c1:g.1=o<;>by_cases c2:k=q<;>simp[c1,c2]
  show sD os (pre++[g]) (mE ts g.1 k (gG ts g.1 k+1));unfold mE;cases ha:ts.any (atT g.1 k) with
  |true=>
   rw[Gaf rfl];obtain⟨s,hs,RB⟩:=GcS.mp ha;have hsa' :=Gar RB;have gv:gG ts g.1 k=s.2.2:=by rw[<-hsa'.1,<-hsa'.2];exact JQ nd hs
   have keys:(ts.map λt=>if atT g.1 k t=true then(g.1,k,gG ts g.1 k+1) else t).map (λt=>(t.1,t.2.1))=ts.map λt=>(t.1,t.2.1):=by
    rw[GaL];refine GaM λt _=> ?_;simp only[GbD];split
    .rename_i c;have c' :=Gar c;rw[c'.1,c'.2]
    .rfl
   refine⟨by rw[keys];exact nd,λt ht=> ?_,λo q h=> ?_⟩
   .obtain⟨x,hx,rfl⟩:=GaG.mp ht;rw[jt];by_cases c:atT g.1 k x=true
    .rw[Gaf c];dsimp only;have h1:=ct s hs;rw[hsa'.1,hsa'.2] at h1;rw[has,gv,h1];simp
    .rw[Gag c];have nc:¬(g.1=x.1/\k=x.2.1):=λz=>c (Gaz ⟨z.1.symm,z.2.symm⟩);rw[has,GaD nc]
     simpa using ct x hx
   .by_cases c:g.1=o/\k=q
    .refine⟨(g.1,k,gG ts g.1 k+1),GaG.mpr ⟨s,hs,by rw[Gaf RB]⟩,c.1,c.2⟩
    .rw[jt,has,GaD c] at h;obtain⟨t,ht,t1,t2⟩:=cv o q (by simpa using h);refine⟨t,GaG.mpr ⟨t,ht, ?_⟩,t1,t2⟩;rw[Gag];intro z;have z' :=Gar z;exact c ⟨by rw[<-z'.1,t1],by rw[<-z'.2,t2]⟩
  |false=>
   rw[Gag (by simp)];have g0:=JR ha;have noK:∀t∈ts,¬(t.1=g.1/\t.2.1=k):=λt ht z=>by
    rw[Gdn] at ha;exact ha t ht (Gaz z)
   have c0:jO os pre g.1 k=0:=by
    rcases Nat.eq_zero_or_pos (jO os pre g.1 k) with z|z
    .exact z
    .obtain⟨t,ht,z⟩:=cv g.1 k z;exact absurd z (noK t ht)
   refine⟨?_,λt ht=> ?_,λo q h=> ?_⟩
   .rw[GaF,GcL];refine⟨nd,by simp, ?_⟩;intro a ha' b hb;simp at hb;obtain⟨t,ht,rfl⟩:=GaG.mp ha';rw[hb];intro z;simp at z;exact noK t ht z
   .rw[jt];rcases GaE.mp ht with ht|ht
    .have nc:¬(g.1=t.1/\k=t.2.1):=λz=>noK t ht ⟨z.1.symm,z.2.symm⟩;rw[has,GaD nc]
     simpa using ct t ht
    .simp at ht;rw[ht];dsimp only;rw[has,c0,g0];simp
   .by_cases c:g.1=o/\k=q
    .exact⟨(g.1,k,gG ts g.1 k+1),by simp,c.1,c.2⟩
    .rw[jt,has,GaD c] at h;obtain⟨t,ht,z⟩:=cv o q (by simpa using h);exact⟨t,GbW _ ht,z⟩
theorem sD.all{os:List Order}:∀(gv pre ts:List Tr),sD os pre ts->sD os (pre++gv) (gv.foldl (bK os) ts)
 |[],pre,ts,I=>by rw[GaW];exact I
 |g::gv,pre,ts,I=>by
  have:=sD.all gv (pre++[g]) _ (I.step g);rw[Gas] at this;exact this
theorem Me(os:List Order)(gv:List Tr):sD os gv (gv.foldl (bK os) []):=by
 have:=sD.all (os:=os) gv [] [] ⟨by simp,by simp,λo k h=>by simp[jO] at h⟩;exact this
theorem Mf{os:List Order}{gv:List Tr}{f:Flt}:f∈twF (gv.foldl (bK os) [])↔∃o k,f=(("twice",[o,k]):Flt)/\1<jO os gv o k:=by
 have I:=Me os gv;unfold twF;rw[GaG];constructor
 .rintro⟨t,ht,rfl⟩;have h:=Gbo.mp ht;have h2:=Gar h.2;rw[I.ct t h.1] at h2;exact⟨t.1,t.2.1,rfl,by lia⟩
 .rintro⟨o,k,rfl,h⟩;obtain⟨t,ht,rfl,rfl⟩:=I.cv o k (by lia);refine⟨t,Gbo.mpr ⟨ht,Gaz ?_⟩,rfl⟩;rw[I.ct t ht];lia
noncomputable def wIn(f l h:Int):Bool:=decide (f<=h)&&decide (h<=l)
theorem Hu(hs:List Int)(f l:Int):br (gN 0) (fA (aC leB (vE 1) (vE 0)) (aC leB (vE 0) (vE 2))) (vE 0) (hs.map D.int) [none,some (.sh (.int f)),some (.sh (.int l))]=some ((hs.filter (wIn f l)).map D.int):=by
 refine gJ (g:=gN 0) D.int (λenv=>∃y,env=[y,some (.sh (.int f)),some (.sh (.int l))]) (wIn f l) D.int hs _ ⟨none,rfl⟩ ?_;rintro h hh env ⟨y,rfl⟩;refine⟨[some (.sh (.int h)),some (.sh (.int f)),some (.sh (.int l))],rfl,⟨_,rfl⟩, ?_,λ_=> ⟨.c,by simp,rfl⟩⟩;unfold wIn;by_cases c1:f<=h<;>by_cases c2:h<=l<;>simp[c1,c2]
theorem Oz{e0 e1 x7 x8:Os}{F Hs R:List D}{o k b e m ea la n:Int}(me:bC k e=true)(zh:Hs.length<100000)(hc:br (gN 0) (fA (aC leB (vE 1) (vE 0)) (aC leB (vE 0) (vE 2))) (vE 0) Hs [none,some (.sh (.int (b+k*e -ea))),some (.sh (.int (b+k*e+la)))]=some R)(hn:bA [.lst R]=some ⟨.c,.int n⟩)(hz:F.length<100000):
  bP [e0,e1,some (.own (.lst F)),some (.sh (.int o)),some (.sh (.tup [.str "due",.int b,.int e,.int m,.int ea,.int la])),some (.own (.lst Hs)),some (.sh (.int k)),x7,x8]=
   some (.nx [e0,e1,some (.own (.lst (F++if n>1 then[D.tup [.str "twice",.int o,.int k]] else[]))),some (.sh (.int o)),some (.sh (.tup [.str "due",.int b,.int e,.int m,.int ea,.int la])),some (.own (.lst Hs)),some (.sh (.int k)),some (.sh (.int (b+k*e -ea))),some (.sh (.int (b+k*e+la)))]):=by
 have z:F.length<16777216:=by lia
 have z2:Hs.length<=16777216:=by lia
 unfold bP;refine(a7 (by simp[me];rfl)).trans ?_;refine(a7 (by simp[me];rfl)).trans ?_;by_cases c:n>1
 .have c' :1<n:=c;simp[-br,-fC,a6,DL.compEnv,cJ,z2,hc,hn,c',z]
 .have c' :¬1<n:=c;simp[-br,-fC,a6,DL.compEnv,cJ,z2,hc,hn,c']
noncomputable def cM(gv:List Tr)(o:Int):List Int:=(gv.filter λt=>decide (t.1=o)).map (·.2.1)
noncomputable def dbW(gv:List Tr)(o b e ea la:Int)(k:Nat):Bool:=decide (1<((cM gv o).filter (wIn (b+(k:Int)*e -ea) (b+(k:Int)*e+la))).length)
noncomputable def dbD(gv:List Tr)(o:Int)(b e ea la:Int)(m:Nat):List Flt:=((List.range m).filter (dbW gv o b e ea la)).map λ(k:Nat)=>(("twice",[o,(k:Int)]):Flt)
theorem Hv(gv:List Tr)(o:Int)(b e ea la:Int)(m:Nat):dbD gv o b e ea la (m+1)=dbD gv o b e ea la m++(if dbW gv o b e ea la m then([("twice",[o,(m:Int)])]:List Flt) else[]):=by
 unfold dbD;rw[GcZ,Gdg,GaF];congr 1;cases h:dbW gv o b e ea la m<;>simp[h]
theorem v7(gv:List Tr)(o:Int)(b e ea la:Int)(m:Nat):(dbD gv o b e ea la m).length<=m:=by
 unfold dbD;rw[Gac];have:=Gcl (dbW gv o b e ea la) (List.range m);rw[List.length_range] at this;exact this
theorem OC{e0 e1 x6 x7 x8:Os}{gv:List Tr}{fs:List Flt}{o b e m ea la:Int}(he:1<=e)(zo:e<=12000000)(SR:0<=m)(hm:m<=60)(hg:gv.length<64)(hf:fs.length<=10000):∃y6 y7 y8,
  forL (gN 6) bP (aE 0 m.toNat) [e0,e1,some (.own (.lst (fs.map ae))),some (.sh (.int o)),some (.sh (.tup [.str "due",.int b,.int e,.int m,.int ea,.int la])),some (.own (.lst ((cM gv o).map D.int))),x6,x7,x8]=
   some (.nx [e0,e1,some (.own (.lst ((fs++dbD gv o b e ea la m.toNat).map ae))),some (.sh (.int o)),some (.sh (.tup [.str "due",.int b,.int e,.int m,.int ea,.int la])),some (.own (.lst ((cM gv o).map D.int))),y6,y7,y8]):=by
 have hh:(cM gv o).length<64:=by
  unfold cM;rw[Gac];have:=Gcl (λt:Tr=>decide (t.1=o)) gv;lia
 obtain⟨en,h1,y6,y7,y8,rfl⟩:=cB (g:=gN 6) (body:=bP) (λj env=>∃y6 y7 y8,env=[e0,e1,some (.own (.lst ((fs++dbD gv o b e ea la j).map ae))),some (.sh (.int o)),some (.sh (.tup [.str "due",.int b,.int e,.int m,.int ea,.int la])),some (.own (.lst ((cM gv o).map D.int))),y6,y7,y8]) (aE 0 m.toNat) 0 [e0,e1,some (.own (.lst (fs.map ae))),some (.sh (.int o)),some (.sh (.tup [.str "due",.int b,.int e,.int m,.int ea,.int la])),some (.own (.lst ((cM gv o).map D.int))),x6,x7,x8] ⟨x6,x7,x8,by simp[dbD]⟩ (by
  rintro i d en hd ⟨y6,y7,y8,rfl⟩;obtain⟨hi,rfl⟩:=aY hd;have dl:=v7 gv o b e ea la i;rw[Gbp];have e0' :(0:Int)+(i:Int)=(i:Int):=by lia
  rw[e0'];have hc:=Hu (cM gv o) (b+(i:Int)*e -ea) (b+(i:Int)*e+la);have ev:=Oz (e0:=e0) (e1:=e1) (x7:=y7) (x8:=y8) (F:=(fs++dbD gv o b e ea la i).map ae) (o:=o) (k:=(i:Int)) (b:=b) (e:=e) (m:=m) (ea:=ea) (la:=la) (n:=(((cM gv o).filter (wIn (b+(i:Int)*e -ea) (b+(i:Int)*e+la))).length:Int)) (jM (by lia) (by lia)) (by rw[Gac];lia) hc (by simp[bA]) (by rw[Gac,Gan];lia);have eg:(if((((cM gv o).filter (wIn (b+(i:Int)*e -ea) (b+(i:Int)*e+la))).length:Int))>1 then[D.tup [.str "twice",.int o,.int (i:Int)]] else[])=(if dbW gv o b e ea la i then([("twice",[o,(i:Int)])]:List Flt) else[]).map ae:=by
   unfold dbW;by_cases c:1<((cM gv o).filter (wIn (b+(i:Int)*e -ea) (b+(i:Int)*e+la))).length
   .rw[Gaf (by lia),Gaz c,Gaf rfl];rfl
   .rw[Gag (by lia),GaD c,Gag (by simp)];rfl
  rw[eg,<-GaF,Gas,<-Hv] at ev;exact⟨_,_,rfl,ev,some (.sh (.int (i:Int))),_,_,rfl⟩)
 rw[cn,Gbp] at h1;exact⟨y6,y7,y8,h1⟩
noncomputable def dbO(os:List Order)(gv:List Tr)(o:Nat):List Flt:=match os[o]? with
 |some x=>match x.cx with
  | .due b e m ea la=>dbD gv (o:Int) b e ea la m.toNat
  | .asked _=>[]
 |none=>[]
theorem BE(gv:List Tr)(o:Int):br (gN 0) (aC eqB (ixE (vE 0) (kE (.int 0))) (vE 1)) (ixE (vE 0) (kE (.int 1))) (gv.map trD) [none,some (.sh (.int o))]=some ((cM gv o).map D.int):=by
 unfold cM;rw[GaL];refine gJ (g:=gN 0) trD (λenv=>∃y,env=[y,some (.sh (.int o))]) (λt=>decide (t.1=o)) (D.int∘λt:Tr=>t.2.1) gv _ ⟨none,rfl⟩ ?_;rintro t ht env ⟨y,rfl⟩;refine⟨[some (.sh (trD t)),some (.sh (.int o))],rfl,⟨_,rfl⟩, ?_,λ_=> ⟨.c, ?_,rfl⟩⟩
 .by_cases c:t.1=o<;>simp[trD,eqB,c]
 .simp[trD]
theorem Mg{A B C O W G F F' Hs:List D}{x4 x5 x6 x7 x8 y6 y7 y8:Os}{o b e m ea la:Int}{nm g st ru tp:D}(hO:atD O o=some (.tup [nm,g,st,ru,.tup [.str "due",.int b,.int e,.int m,.int ea,.int la],tp]))(zg:G.length<1000)(hc:br (gN 0) (aC eqB (ixE (vE 0) (kE (.int 0))) (vE 1)) (ixE (vE 0) (kE (.int 1))) G [none,some (.sh (.int o))]=some Hs)(sm:aZ m=true)
  (h:forL (gN 6) bP (aE 0 m.toNat) [some (.sh (.tup [.tup A,.tup B,.tup C,.tup O])),some (.sh (.tup [.tup W,.tup G])),some (.own (.lst F)),some (.sh (.int o)),some (.sh (.tup [.str "due",.int b,.int e,.int m,.int ea,.int la])),some (.own (.lst Hs)),x6,x7,x8]=some (.nx [some (.sh (.tup [.tup A,.tup B,.tup C,.tup O])),some (.sh (.tup [.tup W,.tup G])),some (.own (.lst F')),some (.sh (.int o)),some (.sh (.tup [.str "due",.int b,.int e,.int m,.int ea,.int la])),some (.own (.lst Hs)),y6,y7,y8])):
  b8 [some (.sh (.tup [.tup A,.tup B,.tup C,.tup O])),some (.sh (.tup [.tup W,.tup G])),some (.own (.lst F)),some (.sh (.int o)),x4,x5,x6,x7,x8]=some (.nx [some (.sh (.tup [.tup A,.tup B,.tup C,.tup O])),some (.sh (.tup [.tup W,.tup G])),some (.own (.lst F')),some (.sh (.int o)),some (.sh (.tup [.str "due",.int b,.int e,.int m,.int ea,.int la])),some (.own (.lst Hs)),y6,y7,y8]):=by
 have z:G.length<=16777216:=by lia
 unfold b8;refine(a7 (by simp[hO];rfl)).trans ?_;refine(Jm (by simp[eqB])).trans ?_;refine(a7 (by simp[-br,a6,DL.compEnv,cJ,z,hc];rfl)).trans ?_;simp[-forL,sm,h,freed]
theorem Hw{A B C O W G F:List D}{x4 x5 x6 x7 x8:Os}{o b:Int}{nm g st ru tp:D}(hO:atD O o=some (.tup [nm,g,st,ru,.tup [.str "asked",.int b],tp])):
  b8 [some (.sh (.tup [.tup A,.tup B,.tup C,.tup O])),some (.sh (.tup [.tup W,.tup G])),some (.own (.lst F)),some (.sh (.int o)),x4,x5,x6,x7,x8]=some (.nx [some (.sh (.tup [.tup A,.tup B,.tup C,.tup O])),some (.sh (.tup [.tup W,.tup G])),some (.own (.lst F)),some (.sh (.int o)),some (.sh (.tup [.str "asked",.int b])),x5,x6,x7,x8]):=by
 unfold b8;refine(a7 (by simp[hO];rfl)).trans ?_;refine(LM (by simp[eqB])).trans ?_
 rfl
noncomputable def gn(os:List Order)(gv:List Tr)(n:Nat):List Flt:=(List.range n).flatMap (dbO os gv)
theorem BF(os:List Order)(gv:List Tr)(n:Nat):gn os gv (n+1)=gn os gv n++dbO os gv n:=by
 unfold gn;rw[GcZ,GcX];simp
theorem JS{w:World}(W:aD w){gv:List Tr}{Ws:List D}(hg:gv.length<64):∃y3 y4 y5 y6 y7 y8,forL (gN 3) b8 (aE 0 w.orders.length) [some (.sh (au w)),some (.sh (.tup [.tup Ws,.tup (gv.map trD)])),some (.own (.lst [])),none,none,none,none,none,none]=
  some (.nx [some (.sh (au w)),some (.sh (.tup [.tup Ws,.tup (gv.map trD)])),some (.own (.lst ((gn w.orders gv w.orders.length).map ae))),y3,y4,y5,y6,y7,y8]):=by
 have o12:=W.o12;obtain⟨en,h1,y3,y4,y5,y6,y7,y8,_,rfl⟩:=cB (g:=gN 3) (body:=b8) (λj env=>∃y3 y4 y5 y6 y7 y8,(gn w.orders gv j).length<=60*j/\env=[some (.sh (au w)),some (.sh (.tup [.tup Ws,.tup (gv.map trD)])),some (.own (.lst ((gn w.orders gv j).map ae))),y3,y4,y5,y6,y7,y8]) (aE 0 w.orders.length) 0 [some (.sh (au w)),some (.sh (.tup [.tup Ws,.tup (gv.map trD)])),some (.own (.lst [])),none,none,none,none,none,none] ⟨none,none,none,none,none,none,by simp[gn],by simp[gn]⟩ (by
  rintro i d en hd ⟨y3,y4,y5,y6,y7,y8,hl,rfl⟩;obtain⟨hi,rfl⟩:=aY hd;rw[Gbp] at hl⊢;have e0' :(0:Int)+(i:Int)=(i:Int):=by lia
  rw[e0',BF];have ok:=W.oo w.orders[i] (Gat hi);have hO:atD (w.orders.map aa) (i:Int)=some (aa w.orders[i]):=by rw[b4,Gah,Gaa hi];rfl
  have xG:∀u,w.orders[i].cx=u->dbO w.orders gv i=(match u with| .due b e m ea la=>dbD gv (i:Int) b e ea la m.toNat| .asked _=>[]):=λu hu=>by
   unfold dbO;rw[Gaa hi];dsimp only;rw[hu]
  have du:=ok.du;unfold aa at hO;cases hu:w.orders[i].cx with
  |asked b=>
   rw[hu] at hO du;rw[xG _ hu];dsimp only;rw[GaW];have ev:=Hw (A:=w.aT.map bc) (B:=w.af.map aA) (C:=w.aU.map trD) (W:=Ws) (G:=gv.map trD) (F:=(gn w.orders gv i).map ae) (x4:=y4) (x5:=y5) (x6:=y6) (x7:=y7) (x8:=y8) hO;exact⟨_,_,rfl,ev,some (.sh (.int (i:Int))),_,_,_,_,_,by lia,rfl⟩
  |due b e m ea la=>
   rw[hu] at hO du;rw[xG _ hu];dsimp only;obtain⟨e1,e2,hm,_⟩:=du;have dl:=v7 gv (i:Int) b e ea la m.toNat;obtain⟨z6,z7,z8,h⟩:=OC (e0:=some (.sh (au w))) (e1:=some (.sh (.tup [.tup Ws,.tup (gv.map trD)]))) (x6:=y6) (x7:=y7) (x8:=y8) (gv:=gv) (fs:=gn w.orders gv i) (o:=(i:Int)) (b:=b) (e:=e) (m:=m) (ea:=ea) (la:=la) e1 e2 (by lia) (by lia) hg (by lia);have ev:=Mg (A:=w.aT.map bc) (B:=w.af.map aA) (C:=w.aU.map trD) (W:=Ws) (x4:=y4) (x5:=y5) hO (by rw[Gac];lia) (BE gv (i:Int)) (aX (by lia) (by lia)) h;exact⟨_,_,rfl,ev,some (.sh (.int (i:Int))),_,_,_,_,_,by rw[Gan];lia,rfl⟩)
 rw[cn,Gbp] at h1;exact⟨y3,y4,y5,y6,y7,y8,h1⟩
theorem Mh{A B C O W G F:List D}{n:Int}{y3 y4 y5 y6 y7 y8:Os}(hn:bA [.tup O]=some ⟨.c,.int n⟩)(sm:aZ n=true)(h:forL (gN 3) b8 (aE 0 n.toNat) [some (.sh (.tup [.tup A,.tup B,.tup C,.tup O])),some (.sh (.tup [.tup W,.tup G])),some (.own (.lst [])),none,none,none,none,none,none]=some (.nx [some (.sh (.tup [.tup A,.tup B,.tup C,.tup O])),some (.sh (.tup [.tup W,.tup G])),some (.own (.lst F)),y3,y4,y5,y6,y7,y8]))(im:aq F=true):
  fc [.tup [.tup A,.tup B,.tup C,.tup O],.tup [.tup W,.tup G]]=some (.lst F):=by
 refine aH rfl ?_;unfold j6;refine(a7 (by simp[aM,a6];rfl)).trans ?_;refine(a7 (by simp[-forL,-df,hn,sm,h,freed];rfl)).trans ?_;simp[im]
theorem EC{w:World}{ws gv:List Tr}(W:aD w)(hl:gv.length<64):fc [au w,.tup [.tup (ws.map trD),.tup (gv.map trD)]]=some (.lst ((gn w.orders gv w.orders.length).map ae)):=by
 have o12:=W.o12;obtain⟨y3,y4,y5,y6,y7,y8,e⟩:=JS W (Ws:=ws.map trD) hl;exact Mh (n:=(w.orders.length:Int)) (by simp[bA]) (aX (by lia) (by lia)) (by rw[GaI];exact e) (cw _)
theorem BG{w:World}(W:aD w):(au w).imm=true:=by
 have h1:=fO qT w.aT;have h2:=fO ie w.af;have h3:=ck w.aU;have h4:aq (w.orders.map aa)=true:=by
  have:∀l:List Order,(∀o∈l,nA w.aT.length w.af.length o)->aq (l.map aa)=true:=by
   intro l;induction l with
   |nil=>intro _;rfl
   |cons o l ih=>
    intro h;have h1:=cH o (h o Gak).ti;have h2:=ih λx hx=>h x (Gae _ hx);rw[GaB];simp[h1,h2]
  exact this w.orders W.oo
 unfold au;simp[h1,h2,h3,h4]
theorem Hx{ns:List Int}(hl:ns.length<=63):∃(n:Nat) (len mn:Int),n<16/\bA [.scr ns]=some ⟨.c,.int len⟩/\mV [.int len,.int 12]=some ⟨.c,.int mn⟩/\mn+draw ns 12 4=(n:Int):=by
 have l:=aJ ns 12 4 (by lia);refine⟨((if(12:Int)<ns.length then 12 else ns.length)+draw ns 12 4).toNat,ns.length,if(12:Int)<ns.length then 12 else ns.length, ?_,by simp[bA],rfl, ?_⟩
 .split<;>lia
 .split<;>lia
theorem pb{w:World}(W:aD w){ws:List Tr}{G:List D}:∀(gv:List Tr) (L:List Flt) (x3 x4 x5 x6 x7 x8:Os),bq w.orders.length gv->L.length+5*gv.length<40000->∃y3 y4 y5 y6 y7 y8,
  forL (gT [3,4,5]) c9 (gv.map trD) [some (.sh (au w)),some (.sh (.tup [.tup (ws.map trD),.tup G])),some (.own (.lst (L.map ae))),x3,x4,x5,x6,x7,x8]=
   some (.nx [some (.sh (au w)),some (.sh (.tup [.tup (ws.map trD),.tup G])),some (.own (.lst ((L++gv.flatMap (cX w ws)).map ae))),y3,y4,y5,y6,y7,y8])
 |[],L,x3,x4,x5,x6,x7,x8,_,_=> ⟨x3,x4,x5,x6,x7,x8,by simp⟩
 |t::gv,L,x3,x4,x5,x6,x7,x8,hg,hz=>by
  rw[Gaw] at hz;have g0:=hg t Gak;have l5:=(nD W (ws:=ws) g0.1 g0.2).2;obtain⟨n,hn⟩:=Gav g0.1;have h8 :n<w.orders.length:=by lia
  have ok:=W.oo w.orders[n] (Gat h8);obtain⟨m,hm⟩:=Gav ok.s0;have sl:=ok.s1;have hm' :m<w.af.length:=by lia
  obtain⟨g,xX⟩:=Gav ok.g0;have gl:=ok.g1;have hg' :g<w.aT.length:=by lia
  have hO:atD (w.orders.map aa) t.1=some (aa w.orders[n]):=by rw[hn,b4,Gah,Gaa h8];rfl
  have hS:atD (w.af.map aA) w.orders[n].ax=some (aA w.af[m]):=by rw[hm,b4,Gah,Gaa hm'];rfl
  have hG:atD (w.aT.map bc) w.orders[n].aw=some (bc w.aT[g]):=by rw[xX,b4,Gah,Gaa hg'];rfl
  have el:cX w ws t=(iK w.orders[n] w.af[m] w.aT[g].2 ws t).map λk=>(k,[t.1,t.2.1]):=by
   unfold cX;rw[hn,GaI,Gaa h8];dsimp only;rw[hm,xX,GaI,GaI,Gaa hm',Gaa hg']
  have ev:=Ex (C:=w.aU.map trD) (G:=G) (ws:=ws) (n:=t.1) (h:=t.2.1) (a:=t.2.2) (L:=L) (x6:=x6) (x7:=x7) (x8:=x8) rfl hO ok.du hS (W.so _ (Gat hm')) hG (cH _ ok.ti) (ck ws) (by lia) (by simp[bA]) (JE w.af[m].ar);have et:((t.1,t.2.1,t.2.2):Tr)=t:=rfl;rw[et,<-el] at ev;obtain⟨y3,y4,y5,y6,y7,y8,e⟩:=pb W (ws:=ws) (G:=G) gv (L++cX w ws t) (some (.sh (.int t.1))) (some (.sh (.int t.2.1))) (some (.sh (.int t.2.2))) (some (.sh (aa w.orders[n]))) (some (.sh (aA w.af[m]))) (some (.own (.lst ((w.af[m].ar.filter b6).map aK)))) (λx hx=>hg x (Gae _ hx)) (by rw[Gan];lia);refine⟨y3,y4,y5,y6,y7,y8, ?_⟩;rw[GaB,Gbb,<-Gas];unfold au at e⊢;generalize w.orders.map aa=OO at*;generalize w.af.map aA=SS at*;generalize w.aT.map bc=GG at*;show forL (gT [3,4,5]) c9 (D.tup [.int t.1,.int t.2.1,.int t.2.2]::gv.map trD) _=_;simp only[forL,gT,gNs,GaQ,GaR,Option.bind_some,ev];exact e
theorem BH{wd:D}{W G F:List D}{y3 y4 y5 y6 y7 y8:Os}(h:forL (gT [3,4,5]) c9 G [some (.sh wd),some (.sh (.tup [.tup W,.tup G])),some (.own (.lst [])),none,none,none,none,none,none]=some (.nx [some (.sh wd),some (.sh (.tup [.tup W,.tup G])),some (.own (.lst F)),y3,y4,y5,y6,y7,y8]))(im:aq F=true):fN [wd,.tup [.tup W,.tup G]]=some (.lst F):=by
 refine aH rfl ?_;unfold jK;refine(a7 (by simp[aM,a6];rfl)).trans ?_;refine(a7 (by simp[-forL,h,freed];rfl)).trans ?_;simp[im]
theorem Hy{w:World}{ws gv:List Tr}(W:aD w)(hg:bq w.orders.length gv)(hl:gv.length<64):fN [au w,.tup [.tup (ws.map trD),.tup (gv.map trD)]]=some (.lst ((gv.flatMap (cX w ws)).map ae)):=by
 obtain⟨y3,y4,y5,y6,y7,y8,e⟩:=pb W (ws:=ws) (G:=gv.map trD) gv [] none none none none none none hg (by simp;lia);exact BH e (cw _)
theorem oK:∀(fs l:List Flt),l.Nodup->(fs.foldl ff l).Nodup/\∀f,f∈fs.foldl ff l↔f∈l\/f∈fs
 |[],l,h=> ⟨h,λf=>by simp⟩
 |x::fs,l,h=>by
  rw[GbG];have e0:ff l x=if x∈l then l else l++[x]:=rfl
  rw[e0];split
  .rename_i c;obtain⟨h1,h2⟩:=oK fs l h;refine⟨h1,λf=> ?_⟩;rw[h2,GaC];constructor
   .rintro(q|q)
    .exact .inl q
    .exact .inr (.inr q)
   .rintro(q|rfl|q)
    .exact .inl q
    .exact .inl c
    .exact .inr q
  .rename_i c;obtain⟨h1,h2⟩:=oK fs (l++[x]) (by
    rw[GcL];exact⟨h,by simp,λa ha b hb=>by rw[Gbw.mp hb];exactλe=>c (e▸ha)⟩)
   refine⟨h1,λf=> ?_⟩;rw[h2,GaE,Gbw,GaC,or_assoc]
theorem rF{ws:List Tr}{g s k:Int}{c:Cap}{ms:List (Int×Int)}{f:Flt}:f∈kN ws g s k c ms↔∃h∈ms.map (·.1),f∈dE ws c g s k (h,j7 c ms h):=by
 unfold kN;rw[Gcw];constructor
 .rintro⟨r,hr,hf⟩;obtain⟨h,hh,rfl⟩:=GaG.mp hr;exact⟨h,((kL (ms.map (·.1))).2.1 h).mp hh,hf⟩
 .rintro⟨h,hh,hf⟩;exact⟨_,GaG.mpr ⟨h,((kL (ms.map (·.1))).2.1 h).mpr hh,rfl⟩,hf⟩
theorem oM{ws:List Tr}{g s:Int}{ms:List (Int×Int)}{f:Flt}:∀(cs:List Cap) (k:Nat),f∈jW ws g s ms k cs↔∃(j:Nat) (c:Cap),cs[j]? =some c/\f∈kN ws g s ((k+j:Nat):Int) c ms
 |[],k=>by simp[jW]
 |c::cs,k=>by
  unfold jW;rw[GaE,oM cs (k+1)];constructor
  .rintro(h| ⟨j,c',h1,h2⟩)
   .exact⟨0,c,rfl,h⟩
   .exact⟨j+1,c',by simpa using h1,by rw[show k+(j+1)=k+1+j by lia];exact h2⟩
  .rintro⟨j,c',h1,h2⟩;cases j with
   |zero=>simp at h1;subst h1;exact .inl h2
   |succ j=>exact .inr ⟨j,c',by simpa using h1,by rw[show k+1+j=k+(j+1) by lia];exact h2⟩
theorem oN{os:List Order}{ws gv:List Tr}{o:Order}{h:Int}{f:Flt}:∀(cs:List Cap) (k:Nat),f∈gA os ws gv o h k cs↔∃(j:Nat) (c:Cap),cs[j]? =some c/\f∈dE ws c o.aw o.ax ((k+j:Nat):Int) (h,bV os c (o.aw,o.ax) h gv)
 |[],k=>by simp[gA]
 |c::cs,k=>by
  unfold gA;rw[GaE,oN cs (k+1)];constructor
  .rintro(h| ⟨j,c',h1,h2⟩)
   .exact⟨0,c,rfl,h⟩
   .exact⟨j+1,c',by simpa using h1,by rw[show k+(j+1)=k+1+j by lia];exact h2⟩
  .rintro⟨j,c',h1,h2⟩;cases j with
   |zero=>simp at h1;subst h1;exact .inl h2
   |succ j=>exact .inr ⟨j,c',by simpa using h1,by rw[show k+1+j=k+(j+1) by lia];exact h2⟩
theorem Hz{w:World}(W:aD w){ws gv:List Tr}{st:List Tg}(I:qZ w.orders gv st)(hg:bq w.orders.length gv)(f:Flt):f∈gv.flatMap (ovT w ws gv)↔f∈st.flatMap (tgF w.af ws):=by
 have at_:∀t∈gv,∃o,w.orders[t.1.toNat]? =some o/\tk w.orders t=(o.aw,o.ax):=λt ht=>by
  have g0:=hg t ht;obtain⟨n,hn⟩:=Gav g0.1;have h8 :n<w.orders.length:=by lia
  have e:w.orders[t.1.toNat]? =some w.orders[n]:=by rw[hn,GaI,Gaa h8]
  exact⟨_,e,by unfold tk;rw[e]⟩
 have key:∀e∈st,∀c h,j7 c e.2 h=bV w.orders c e.1 h gv:=λe he c h=>by rw[rA,<-I.ms e he]
 rw[Gcw,Gcw];constructor
 .rintro⟨t,ht,hf⟩;obtain⟨o,ho,hk⟩:=at_ t ht;obtain⟨e,he,ek⟩:=GaG.mp (I.cov t ht);refine⟨e,he, ?_⟩;unfold ovT at hf;rw[ho] at hf;dsimp only at hf;obtain⟨j,c,h1,h2⟩:=(oN _ 0).mp hf;have e1:e.1=(o.aw,o.ax):=ek.trans hk;unfold tgF;rw[oM];rw[e1];refine⟨j,c,h1,rF.mpr ⟨t.2.1, ?_, ?_⟩⟩
  .rw[I.ms e he,GaL];exact GaG.mpr ⟨t,Gbo.mpr ⟨ht,Gaz ek.symm⟩,rfl⟩
  .rw[key e he,e1];exact h2
 .rintro⟨e,he,hf⟩;unfold tgF at hf;obtain⟨j,c,h1,h2⟩:=(oM _ 0).mp hf;obtain⟨h,hh,h3⟩:=rF.mp h2;rw[I.ms e he,GaL] at hh;obtain⟨t,ht,rfl⟩:=GaG.mp hh;obtain⟨RA,hV⟩:=Gbo.mp ht;have hV:=Gar hV;obtain⟨o,ho,hk⟩:=at_ t RA;have e1:e.1=(o.aw,o.ax):=hV.symm.trans hk;refine⟨t,RA, ?_⟩;unfold ovT;rw[ho];dsimp only;rw[oN];rw[key e he,e1] at h3;rw[e1] at h1;exact⟨j,c,h1,h3⟩
theorem HA{wd:D}{W G:List D}{l:List Flt}{y3 y4 y5 y6 y7 y8 y9 h7:Os}(e:forL (gT [3,4,5]) f9 G [some (.sh wd),some (.sh (.tup [.tup W,.tup G])),some (.own (.dT (fB []))),none,none,none,none,none,none,none,none]=some (.nx [some (.sh wd),some (.sh (.tup [.tup W,.tup G])),some (.own (.dT (fB l))),y3,y4,y5,y6,y7,y8,y9,h7]))(im:aq (l.map ae)=true):
  jL [wd,.tup [.tup W,.tup G]]=some (.lst (l.map ae)):=by
 have hk:=Ez l;have e0:fB []=[]:=rfl;rw[e0] at e;refine aH rfl ?_;unfold mw;refine(a7 (by simp[aM,DL.stored];rfl)).trans ?_;refine(a7 (by simp[-forL,e,freed];rfl)).trans ?_;generalize fB l=kv at*;generalize l.map ae=R at*;simp[C8,hk,vO,D.mT,im]
theorem A7{b e m ea la h k:Int}(e1:1<=e)(a0:0<=ea)(l0:0<=la)(al:ea+la<e):mD b e m ea la h=some k↔(0<=k/\k<m)/\(b+k*e -ea<=h/\h<=b+k*e+la):=by
 rw[CY e1 a0 l0 al];unfold mD;constructor
 .intro q;split at q
  .rename_i c;injection q with q
   rw[q] at c;exact⟨c.1,q,c.2⟩
  .cases q
 .rintro⟨h1,h2,h3⟩;rw[h2,Gaf ⟨h1,h3⟩]
theorem CZ{os:List Order}{gv:List Tr}{i:Nat}(hi:i<os.length){b e m ea la:Int}(hd:os[i].cx= .due b e m ea la)(ok:ij os[i].cx){k:Nat}(hk:(k:Int)<m):((cM gv (i:Int)).filter (wIn (b+(k:Int)*e -ea) (b+(k:Int)*e+la))).length=jO os gv (i:Int) (k:Int):=by
 rw[hd] at ok;obtain⟨e1,e2,hm,a0,l0,al,ab,b3⟩:=ok;unfold cM jO;rw[List.filter_map,Gac,List.filter_filter];congr 1;apply List.filter_congr;intro t _;unfold pD wIn;simp only[GbD];by_cases c:t.1=(i:Int)
 .have dg:A6 os t=mD b e m ea la t.2.1:=by
   unfold A6;rw[c,GaI,Gaa hi];show lI os[i].cx t.2.1=_;rw[hd]
   rfl
  rw[dg,Gaz c,Bool.and_true,Bool.true_and];have iff:=A7 (b:=b) (m:=m) (h:=t.2.1) (k:=(k:Int)) e1 a0 l0 al;by_cases c1:b+(k:Int)*e -ea<=t.2.1
  .by_cases c2:t.2.1<=b+(k:Int)*e+la
   .rw[Gaz c1,Gaz c2,Gaz (iff.mpr ⟨⟨by lia,hk⟩,c1,c2⟩)];rfl
   .rw[GaD c2,GaD (λz=>c2 (iff.mp z).2.2),GcM]
  .rw[GaD c1,GaD (λz=>c1 (iff.mp z).2.1),Bool.false_and]
 .rw[GaD c,GcM,Bool.false_and]
theorem JT{os:List Order}{gv:List Tr}(hg:bq os.length gv)(ok:∀o∈os,ij o.cx){o k:Int}(h:0<jO os gv o k):∃(i:Nat) (hi:i<os.length) (q:Nat) (b e m ea la:Int),o=(i:Int)/\k=(q:Int)/\os[i].cx= .due b e m ea la/\(q:Int)<m:=by
 obtain⟨t,ht⟩:=List.exists_mem_of_length_pos h;have h1:=Gbo.mp ht;have g0:=hg t h1.1;have h2:=h1.2;unfold pD at h2;rw[Gay] at h2;have e1:=Gar h2.1;have e2:=Gar h2.2;obtain⟨i,hi⟩:=Gav g0.1;have hi' :i<os.length:=by lia
 have dg:A6 os t=lI os[i].cx t.2.1:=by
  unfold A6;rw[hi,GaI,Gaa hi']
  rfl
 have od:=ok os[i] (Gat hi');rw[dg] at e2;cases hd:os[i].cx with
 |asked b=>rw[hd] at e2;cases e2
 |due b e m ea la=>
  rw[hd] at e2 od;obtain⟨xU,_,hm,a0,l0,al,_⟩:=od;have:=(A7 xU a0 l0 al).mp e2;obtain⟨q,hq⟩:=Gav this.1.1;exact⟨i,hi',q,b,e,m,ea,la,by lia,hq,hd,by lia⟩
theorem Mi{os:List Order}{gv:List Tr}(hg:bq os.length gv)(ok:∀o∈os,ij o.cx){f:Flt}:f∈gn os gv os.length↔∃o k,f=(("twice",[o,k]):Flt)/\1<jO os gv o k:=by
 unfold gn;rw[Gcw];constructor
 .rintro⟨i,hi,hf⟩;have hi' :=GaZ.mp hi;unfold dbO at hf;rw[Gaa hi'] at hf;dsimp only at hf;cases hd:os[i].cx with
  |asked b=>rw[hd] at hf;cases hf
  |due b e m ea la=>
   rw[hd] at hf;dsimp only at hf;unfold dbD at hf;obtain⟨k,hk,rfl⟩:=GaG.mp hf;have h1:=Gbo.mp hk;have h2:=GaZ.mp h1.1;have h3:=Gar h1.2;rw[CZ hi' hd (ok _ (Gat hi')) (by lia)] at h3;exact⟨(i:Int),(k:Int),rfl,h3⟩
 .rintro⟨o,k,rfl,h⟩;obtain⟨i,hi,q,b,e,m,ea,la,rfl,rfl,hd,hq⟩:=JT hg ok (by lia:0<jO os gv o k);refine⟨i,GaZ.mpr hi, ?_⟩;unfold dbO;rw[Gaa hi];dsimp only;rw[hd];dsimp only;unfold dbD;refine GaG.mpr ⟨q,Gbo.mpr ⟨GaZ.mpr (by lia), ?_⟩,rfl⟩;unfold dbW;rw[CZ hi hd (ok _ (Gat hi)) hq];exact Gaz h
def Apart(w:World)(r l:Int×Int):Prop:=∀a b,w.orders[r.2.toNat]? =some a->w.orders[l.2.toNat]? =some b->mG (w.aU.foldl aO []) a b<=l.1 -r.1\/mG (w.aU.foldl aO []) a b<=r.1 -l.1
structure Snd(w:World)(ws gv:List Tr):Prop where
 vQ:∀t∈gv,cX w ws t=[]
 over:∀t∈gv,ovT w ws gv t=[]
 gap:(gvR gv).Pairwise (Apart w)
 cnt:∀o k,jO w.orders gv o k<=1
theorem HB{w:World}(W:aD w)(a b:Order):mG (w.aU.foldl aO []) a b=mG (w.aU.foldl aO []) b a:=by
 have le:∀b∈w.aU,b.1<=b.2.1:=λb hb=>(W.bo.1 b hb).2.1;have m:∀x y,mt x y=mt y x:=λx y=>by
  funext c
  unfold mt;rw[GcT];exact or_comm
 unfold mG;by_cases c:a.aw=b.aw
 .rw[Gaf c,Gaf c.symm,jr _ _ _ _ le W.bo.2,jr _ _ _ _ le W.bo.2,m]
  rfl
 .rw[Gag c,Gag λz=>c z.symm]
theorem Apart.symm{w:World}(W:aD w){r l:Int×Int}(h:Apart w r l):Apart w l r:=λa b ha hb=>by
 rw[HB W];exact(h b a hb ha).symm
theorem A8{w:World}{r l:Int×Int}(hl:r.1<=l.1):gpF w.orders (w.aU.foldl aO []) r l=[]↔Apart w r l:=by
 unfold gpF Apart;constructor
 .intro h a b ha hb;rw[ha,hb] at h;dsimp only at h;split at h
  .cases h
  .lia
 .intro h;split
  .rename_i a b ha hb;rw[Gag];have:=h a b ha hb;lia
  .rfl
theorem D0(F:Int×Int->Int×Int->List Flt):∀rs:List (Int×Int),prs F rs=[]↔rs.Pairwise λr l=>F r l=[]
 |[]=>by simp[prs]
 |r::rs=>by
  unfold prs;rw[GcH,Gbl,D0 F rs,Gcz]
theorem A9{w:World}(W:aD w){gv:List Tr}{eA:List (Int×Int)}(r2:eA.Perm (gvR gv))(r3:eA.Pairwise λa b=>a.1<=b.1):prs (gpF w.orders (w.aU.foldl aO [])) eA=[]↔(gvR gv).Pairwise (Apart w):=by
 rw[D0,<-r2.pairwise_iff (λ{a b} h=>Apart.symm W h)];constructor
 .intro h;exact(h.and r3).imp λ{a b} q=>(A8 q.2).mp q.1
 .intro h;exact(h.and r3).imp λ{a b} q=>(A8 q.2).mpr q.1
theorem nil_of{α:Type}{l:List α}(h:∀x,¬x∈l):l=[]:=List.eq_nil_iff_forall_not_mem.mpr h
theorem rG{w:World}{ws gv:List Tr}(W:aD w)(hg:bq w.orders.length gv)(hl:gv.length<64)(S:Snd w ws gv):bJ [au w,.tup [.tup (ws.map trD),.tup (gv.map trD)]]=some (.bl true):=by
 obtain⟨st,eA,I,r2,r1,r3,e,z⟩:=A0 (ws:=ws) W hg hl;have le:∀b∈w.aU,b.1<=b.2.1:=λb hb=>(W.bo.1 b hb).2.1;have pos:∀b∈w.aU,1<=b.2.2:=λb hb=>(W.bo.1 b hb).2.2.2;have h1:st.flatMap (tgF w.af ws)=[]:=nil_of λf hf=>by
  rw[<-Hz W I hg] at hf;obtain⟨t,ht,q⟩:=Gcw.mp hf;rw[S.over t ht] at q;cases q
 have h2:dR w.orders (w.aU.foldl aO []) (wide w.aU) eA=[]:=by
  rw[rD (Mc le pos W.bo.2) eA r3];exact(A9 W r2 r3).mpr S.gap
 have h3:twF (gv.foldl (bK w.orders) [])=[]:=nil_of λf hf=>by
  obtain⟨o,k,_,q⟩:=Mf.mp hf;have:=S.cnt o k;lia
 have h4:gv.flatMap (cX w ws)=[]:=Gcz.mpr S.vQ;rw[h1,h2,h3,h4] at e;have e0:rf ([]++[]++[]++[])=[]:=(rh []).eq_nil;rw[e0] at e;have rl:iR (.lst [])=⟨.tn,.lst []⟩:=rfl;refine aH rfl ?_;unfold mC;generalize au w=wd at*;generalize D.tup [.tup (ws.map trD),.tup (gv.map trD)]=bk at*;refine(a7 (by simp[aM,e,rl];rfl)).trans ?_;simp[kb,mW,eqB,a6]
theorem JU{wd bk:D}{F1 F2 F3 F4 R:List D}(h1:fN [wd,bk]=some (.lst F1))(h2:jL [wd,bk]=some (.lst F2))(h3:i8 [wd,bk]=some (.lst F3))(h4:fc [wd,bk]=some (.lst F4))(z:F1.length+F2.length+F3.length+F4.length<1000000)(hs:fD [.lst (F1++F2++F3++F4)]=some ⟨.tn,.lst R⟩)(ir:aq R=true):jn [wd,bk]=some (.lst R):=by
 have rl:∀L:List D,iR (.lst L)=⟨.tn,.lst L⟩:=λ_=>rfl;have z1:F1.length+F2.length<=16777216:=by lia
 have z2:F1.length+F2.length+F3.length<=16777216:=by lia
 have z3:F1.length+F2.length+F3.length+F4.length<=16777216:=by lia
 refine aH rfl ?_;unfold oA;refine(a7 (e:=[some (.sh wd),some (.sh bk),some (.own (.lst (F1++F2++F3)))]) (by simp[aM,h1,h2,h3,rl,z1,z2,a6])).trans ?_;generalize hF:F1++F2++F3=F at*;have zF:F.length+F4.length<=16777216:=by rw[<-hF,Gan,Gan];lia
 simp[h4,rl,a6,hs,ir,zF]
theorem JV{w:World}(W:aD w){ws gv:List Tr}{t:Tr}(h0:0<=t.1)(h1:t.1<w.orders.length):(ovT w ws gv t).length<=4:=by
 unfold ovT;split
 .rename_i o ho;refine Gbh (oJ ..) ?_;cases h:w.af[o.ax.toNat]? with
  |none=>simp
  |some s=>exact(W.so s (GaP h)).cl
 .simp
theorem Mj{w:World}(W:aD w){gv:List Tr}:(gn w.orders gv w.orders.length).length<=720:=by
 have o12:=W.o12;have:=fV (dbO w.orders gv) 60 (List.range w.orders.length) λi hi=>by
  unfold dbO;rw[Gaa (GaZ.mp hi)];dsimp only;have du:=(W.oo _ (Gat (GaZ.mp hi))).du;split
  .rename_i b e m ea la hd;rw[hd] at du;obtain⟨_,_,hm,_⟩:=du;exact Gbh (v7 ..) (by lia)
  .simp
 rw[List.length_range] at this;unfold gn;lia
theorem OE{w:World}{ws gv:List Tr}(W:aD w)(hg:bq w.orders.length gv)(hl:gv.length<64):∃fs:List Flt,jn [au w,.tup [.tup (ws.map trD),.tup (gv.map trD)]]=some (.lst (fs.map ae))/\(fs=[]->Snd w ws gv):=by
 have h1:=Hy (ws:=ws) W hg hl;obtain⟨y3,y4,y5,y6,y7,y8,y9,h7,eo⟩:=u5 W (ws:=ws) (gv:=gv) hg gv [] none none none none none none none none hg (by simp;lia);have h2:=HA (W:=ws.map trD) (G:=gv.map trD) eo (cw _);obtain⟨_,a2⟩:=oK (gv.flatMap (ovT w ws gv)) [] List.nodup_nil;obtain⟨eA,r1,r2,r3⟩:=qU (gvR gv);obtain⟨h3,z3⟩:=Md (ws:=ws) W hg hl r1 r2;have h4:=EC (ws:=ws) (gv:=gv) W hl;have le:∀b∈w.aU,b.1<=b.2.1:=λb hb=>(W.bo.1 b hb).2.1;have pm:(gm w.orders w.aU eA eA.length).Perm (prs (gpF w.orders (w.aU.foldl aO [])) eA):=by
  have h:=ud (os:=w.orders) (bs:=w.aU) (eA:=eA) eA.length (Gaq _);rw[Gcv,u9 eA (r3.imp λ{a b} hab=>JK le W.bo.2 hab)] at h;exact h
 have z1:(gv.flatMap (cX w ws)).length<=gv.length*5:=fV _ 5 gv λt ht=>(nD W (ws:=ws) (hg t ht).1 (hg t ht).2).2;have z2:=nG (gv.flatMap (ovT w ws gv)) [];have z2' :(gv.flatMap (ovT w ws gv)).length<=gv.length*4:=fV _ 4 gv λt ht=>JV W (hg t ht).1 (hg t ht).2;have z4:=Mj (gv:=gv) W;rw[Gcj] at z2;refine⟨rf (gv.flatMap (cX w ws)++(gv.flatMap (ovT w ws gv)).foldl ff []++gm w.orders w.aU eA eA.length++gn w.orders gv w.orders.length),JU h1 h2 h3 h4 (by simp only[Gac];lia) ?_ (cw _),λq=> ?_⟩
 .rw[<-GaF,<-GaF,<-GaF];exact rm _ (by simp only[Gan];lia)
 .have q2:=(rh (gv.flatMap (cX w ws)++(gv.flatMap (ovT w ws gv)).foldl ff []++gm w.orders w.aU eA eA.length++gn w.orders gv w.orders.length)).symm;rw[q] at q2;have q3:=q2.eq_nil;simp only[GcH] at q3;obtain⟨⟨⟨p1,p2⟩,p3⟩,p4⟩:=q3;refine⟨Gcz.mp p1,λt ht=>nil_of λf hf=> ?_, ?_,λo k=> ?_⟩
  .have:=(a2 f).mpr (.inr (Gcw.mpr ⟨t,ht,hf⟩));rw[p2] at this;cases this
  .rw[p3] at pm;exact(A9 W r2 r3).mp pm.symm.eq_nil
  .by_cases c:jO w.orders gv o k<=1
   .exact c
   .have:=(Mi hg (λo ho=>(W.oo o ho).du)).mpr ⟨o,k,rfl,by lia⟩;rw[p4] at this;cases this
inductive Les:List Tr->List Tr->Prop
 |nil:Les [] []
 |drop {a b:List Tr} (u:Tr) (h:Les a b):Les a (u::b)
 |keep {a b:List Tr} {t u:Tr} (h1:t.1=u.1) (h2:t.2.1=u.2.1) (h3:t.2.2<=u.2.2) (h:Les a b):Les (t::a) (u::b)
theorem Les.oO{a b:List Tr}(h:a.Sublist b):Les a b:=by
 induction h with
 |slnil=>exact .nil
 |cons u _ ih=>exact .drop u ih
 |cons_cons u _ ih=>exact .keep rfl rfl (GbC _) ih
theorem Les.app{a b c d:List Tr}(h:Les a b)(g:Les c d):Les (a++c) (b++d):=by
 induction h with
 |nil=>exact g
 |drop u _ ih=>exact .drop u ih
 |keep h1 h2 h3 _ ih=>exact .keep h1 h2 h3 ih
theorem Les.sub{a b:List Tr}(h:Les a b):(gvR a).Sublist (gvR b):=by
 induction h with
 |nil=>exact .slnil
 |drop u _ ih=>exact ih.cons _
 | @keep a b t u h1 h2 h3 _ ih=>
  show((t.2.1,t.1)::gvR a).Sublist ((u.2.1,u.1)::gvR b);rw[h1,h2];exact ih.cons_cons _
theorem Les.mem{a b:List Tr}(h:Les a b):∀t∈a,∃u∈b,t.1=u.1/\t.2.1=u.2.1/\t.2.2<=u.2.2:=by
 induction h with
 |nil=>intro t ht;cases ht
 |drop u _ ih=>intro t ht;obtain⟨v,h1,h2⟩:=ih t ht;exact⟨v,Gae _ h1,h2⟩
 |keep h1 h2 h3 _ ih=>
  intro t ht;rcases GaC.mp ht with rfl|ht
  .exact⟨_,Gak,h1,h2,h3⟩
  .obtain⟨v,q1,q2⟩:=ih t ht;exact⟨v,Gae _ q1,q2⟩
theorem Les.len{a b:List Tr}(h:Les a b):a.length<=b.length:=by
 induction h with
 |nil=>exact Gaq _
 |drop u _ ih=>rw[Gaw];lia
 |keep h1 h2 h3 _ ih=>rw[Gaw,Gaw];lia
theorem Les.cnt{os:List Order}{o k:Int}{a b:List Tr}(h:Les a b):jO os a o k<=jO os b o k:=by
 unfold jO;induction h with
 |nil=>exact Gaq _
 |drop u _ ih=>
  rw[Gba];split
  .rw[Gaw];lia
  .exact ih
 | @keep a b t u h1 h2 h3 _ ih=>
  have e:pD os o k t=pD os o k u:=by unfold pD A6;rw[h1,h2]
  rw[Gba,Gba,e];split
  .rw[Gaw,Gaw];lia
  .exact ih
theorem Les.tot{os:List Order}{c:Cap}{k:Int×Int}{h:Int}{a b:List Tr}(l:Les a b)(p:∀u∈b,0<=u.2.2):bV os c k h a<=bV os c k h b:=by
 induction l with
 |nil=>exact GbC _
 |drop u _ ih=>
  have h0:=p u Gak;have h1:=ih λv hv=>p v (Gae _ hv);refine Int.le_trans h1 ?_;show _<=(if _ then u.2.2 else 0)+_;split<;>lia
 | @keep a b t u h1 h2 h3 _ ih=>
  have yq :=ih λv hv=>p v (Gae _ hv);have e:tk os t=tk os u:=by unfold tk;rw[h1]
  show(if decide (tk os t=k)&&iL c h t.2.1 then t.2.2 else 0)+_<=(if decide (tk os u=k)&&iL c h u.2.1 then u.2.2 else 0)+_;rw[e,h2];split<;>lia
theorem Aa{ws:List Tr}{c:Cap}{g s k h x y:Int}(l:x<=y)(e:dE ws c g s k (h,y)=[]):dE ws c g s k (h,x)=[]:=by
 unfold dE at e⊢;dsimp only at e⊢;split at e
 .split at e
  .cases e
  .rw[Gag (by lia)]
 .rfl
theorem uf{os:List Order}{ws a b:List Tr}{o:Order}{h:Int}(l:∀c,bV os c (o.aw,o.ax) h a<=bV os c (o.aw,o.ax) h b):∀(cs:List Cap) (k:Nat),gA os ws b o h k cs=[]->gA os ws a o h k cs=[]
 |[],_,_=>rfl
 |c::cs,k,e=>by
  unfold gA at e⊢;rw[GcH] at e⊢;exact⟨Aa (l c) e.1,uf l cs (k+1) e.2⟩
theorem Ab{w:World}(W:aD w){n:Int}(h0:0<=n)(h1:n<w.orders.length):∃o s g,w.orders[n.toNat]? =some o/\w.af[o.ax.toNat]? =some s/\w.aT[o.aw.toNat]? =some g/\iJ s/\atD (w.orders.map aa) n=some (aa o)/\atD (w.af.map aA) o.ax=some (aA s):=by
 obtain⟨i,hi⟩:=Gav h0;have hi' :i<w.orders.length:=by lia
 have ok:=W.oo w.orders[i] (Gat hi');obtain⟨j,hj⟩:=Gav ok.s0;obtain⟨k,hk⟩:=Gav ok.g0;have sl:=ok.s1;have gl:=ok.g1;have hj' :j<w.af.length:=by lia
 have hk' :k<w.aT.length:=by lia
 refine⟨w.orders[i],w.af[j],w.aT[k], ?_, ?_, ?_,W.so _ (Gat hj'), ?_, ?_⟩
 .rw[hi,GaI,Gaa hi']
 .rw[hj,GaI,Gaa hj']
 .rw[hk,GaI,Gaa hk']
 .rw[hi,b4,Gah,Gaa hi'];rfl
 .rw[hj,b4,Gah,Gaa hj'];rfl
theorem Mk{b:Bool}{x:Str}:kk b x=[]↔b=false:=by cases b<;>simp[kk]
theorem oP{w:World}{ws:List Tr}{n h a:Int}{o:Order}{s:i9}{g:Str×Int}(e1:w.orders[n.toNat]? =some o)(e2:w.af[o.ax.toNat]? =some s)(e3:w.aT[o.aw.toNat]? =some g):cX w ws (n,h,a)=[]↔(((bD o.cx h=false/\a<=o.most)/\(1<=a/\a%s.part=0))/\(s.ar.any b6&&(wgt o.aw h ws none).isNone)=false)/\¬h<g.2+s.young:=by
 unfold cX;dsimp only;rw[e1];dsimp only;rw[e2,e3];dsimp only;rw[List.map_eq_nil_iff];unfold iK;simp only[GcH,Mk,Bool.or_eq_false_iff,decide_eq_false_iff_not,Int.not_lt,Decidable.not_not]
theorem Snd.less{w:World}(W:aD w){ws a b:List Tr}(hb:bq w.orders.length b)(S:Snd w ws b)(l:Les a b)(hl:∀t∈a,cX w ws t=[]):Snd w ws a:=by
 have p:∀u∈b,0<=u.2.2:=λu hu=>by
  obtain⟨o,s,g,e1,e2,e3,_⟩:=Ab W (hb u hu).1 (hb u hu).2;have:=((oP (n:=u.1) (h:=u.2.1) (a:=u.2.2) e1 e2 e3).mp (S.vQ u hu)).1.1.2.1;lia
 refine⟨hl,λt ht=> ?_,S.gap.sublist l.sub,λo k=>Gbh l.cnt (S.cnt o k)⟩;obtain⟨u,hu,q1,q2,_⟩:=l.mem t ht;have e:=S.over u hu;unfold ovT at e⊢;rw[q1,q2];split
 .rename_i o ho;rw[ho] at e;exact uf (λc=>l.tot p) _ _ e
 .rfl
theorem bq.less{n:Nat}{a b:List Tr}(hb:bq n b)(l:Les a b):bq n a:=λt ht=>by
 obtain⟨u,hu,q1,_⟩:=l.mem t ht;rw[q1];exact hb u hu
theorem Snd.sub{w:World}(W:aD w){ws a b:List Tr}(hb:bq w.orders.length b)(S:Snd w ws b)(l:a.Sublist b):Snd w ws a:=S.less W hb (.oO l) λt ht=>S.vQ t (l.subset ht)
theorem nH(X Y:List D)(z:X.length+Y.length<=1000):iE (.tup X) (.tup Y)=some ⟨.c,.tup (X++Y)⟩:=by
 cases X with
 |nil=>rfl
 |cons x X=>
  have z' :(x::X).length+Y.length<=a6:=by unfold a6;lia
  show aB (.tup (x::X)) (.tup Y)=_;rw[Fe,Gaf ⟨z',by simp⟩]
theorem nI(i j:Int):iE (.int i) (.int j)=some ⟨.c,.int (i+j)⟩:=rfl
theorem eq_nil(L:List Flt):eqB (.lst (L.map ae)) (.lst [])=some (decide (L=[])):=by
 cases L with
 |nil=>rfl
 |cons f L=>
  have h1:D.plain (.lst ((f::L).map ae))=true:=by
   show((f::L).map ae).all (a9 19)=true;rw[GbM,GaA];intro f _;show((D.str f.1::f.2.map .int).all (a9 18))=true;have:=Bu 18 f.2;simp only[GbR,this,Bool.and_true]
   rfl
  have h2:eqD (.lst ((f::L).map ae)) (.lst [])=false:=rfl;unfold eqB;rw[h1,h2];rfl
theorem HC{wd td:D}{W G F:List D}{b:Bool}{e0 e2 x6:Os}(iw:aq W=true)(ig:aq G=true)(it:td.imm=true)(Ru:aq (G++[td])=true)(ha:jn [wd,.tup [.tup W,.tup (G++[td])]]=some (.lst F))(hb:eqB (.lst F) (.lst [])=some b)(z:G.length<1000):
  dC [e0,some (.sh wd),e2,some (.sh (.tup W)),some (.sh (.tup [.tup W,.tup G])),some (.sh td),x6]=some (.nx [e0,some (.sh wd),e2,some (.sh (.tup W)),some (.sh (.tup [.tup W,.tup (if b then G++[td] else G)])),some (.sh td),some (.sh (.tup [.tup W,.tup (G++[td])]))]):=by
 have ay:=nH G [td] (by simp;lia);have rl:iR (.lst F)=⟨.tn,.lst F⟩:=rfl;generalize hG:G++[td]=G' at*;unfold dC;refine(a7 (by simp[iw,ig,it,ay,a6,Ru];rfl)).trans ?_;cases b<;>simp[ha,rl,hb,a6,iw,Ru]
theorem rH{w:World}(W:aD w){ws:List Tr}{e0 e2:Os}:∀(ts gv:List Tr) (x5 x6:Os),bq w.orders.length ts->bq w.orders.length gv->ts.length+gv.length<64->Snd w ws gv->∃zt y5 y6,bq w.orders.length zt /\zt.length<64/\Snd w ws zt /\
  forL (gN 5) dC (ts.map trD) [e0,some (.sh (au w)),e2,some (.sh (.tup (ws.map trD))),some (.sh (.tup [.tup (ws.map trD),.tup (gv.map trD)])),x5,x6]=
   some (.nx [e0,some (.sh (au w)),e2,some (.sh (.tup (ws.map trD))),some (.sh (.tup [.tup (ws.map trD),.tup (zt.map trD)])),y5,y6])
 |[],gv,x5,x6,_,hg,hz,S=> ⟨gv,x5,x6,hg,by simpa using hz,S,by simp⟩
 |t::ts,gv,x5,x6,ht,hg,hz,S=>by
  rw[Gaw] at hz;have xX:bq w.orders.length (gv++[t]):=λu hu=>by
   rcases GaE.mp hu with h|h
   .exact hg u h
   .rw[Gbw.mp h];exact ht t Gak
  obtain⟨fs,ea,hs⟩:=OE (ws:=ws) W xX (by simp;lia);have em:(gv++[t]).map trD=gv.map trD++[trD t]:=by simp
  rw[em] at ea;have ev:=HC (e0:=e0) (e2:=e2) (x6:=x6) (ck ws) (ck gv) (pM t) (by rw[<-em];exact ck _) ea (eq_nil fs) (by rw[Gac];lia);rw[<-em] at ev;have key:∃g2:List Tr,bq w.orders.length g2/\g2.length<=gv.length+1/\Snd w ws g2/\(if decide (fs=[]) then(gv++[t]).map trD else gv.map trD)=g2.map trD:=by
   by_cases c:fs=[]
   .exact⟨gv++[t],xX,by simp,hs c,by rw[Gaz c];rfl⟩
   .exact⟨gv,hg,by lia,S,by rw[GaD c];rfl⟩
  obtain⟨g2,k1,k2,k3,k4⟩:=key;rw[k4] at ev;obtain⟨zt,y5,y6,q1,q2,q3,q4⟩:=rH W (ws:=ws) (e0:=e0) (e2:=e2) ts g2 (some (.sh (trD t))) (some (.sh (.tup [.tup (ws.map trD),.tup ((gv++[t]).map trD)]))) (λx hx=>ht x (Gae _ hx)) k1 (by lia) k3;refine⟨zt,y5,y6,q1,q2,q3, ?_⟩;rw[GaB];generalize trD t=td at*;generalize au w=wd at*;generalize ws.map trD=WS at*;generalize gv.map trD=GS at*;simp only[forL,gN,GaQ,GaR,Option.bind_some,ev];exact q4
theorem ED{ns:List Int}{wd:D}{QA n:Int}{W G R:List D}{y5 y6:Os}(Rc:a5 [.scr ns,.int 11,.int 9]=some (.int QA))(e2:cP [.scr ns,wd,.int QA]=some (.tup W))(iw:aq W=true)(e3:cQ [.scr ns,wd,.int n]=some (.tup G))(ig:aq G=true)(ir:aq R=true)
  (h:forL (gN 5) dC G [some (.sh (.scr ns)),some (.sh wd),some (.sh (.int n)),some (.sh (.tup W)),some (.sh (.tup [.tup W,.tup []])),none,none]=some (.nx [some (.sh (.scr ns)),some (.sh wd),some (.sh (.int n)),some (.sh (.tup W)),some (.sh (.tup [.tup W,.tup R])),y5,y6])):gk [.scr ns,wd,.int n]=some (.tup [.tup W,.tup R]):=by
 have rt:=b9 (d:= .tup W) (by simp[iw]);have rg:=b9 (d:= .tup G) (by simp[ig]);refine aH rfl ?_;unfold kC;refine(a7 (by simp[aM,Rc,e2,rt];rfl)).trans ?_;refine(a7 (by simp[iw,a6];rfl)).trans ?_;refine(a7 (by simp[-forL,e3,rg,h,freed];rfl)).trans ?_;simp[iw,ir]
theorem JW{ns:List Int}{w:World}(W:aD w){n:Nat}(hn:n<64):∃ws gv:List Tr,bq w.orders.length gv/\gv.length<64/\Snd w ws gv/\gk [.scr ns,au w,.int (n:Int)]=some (.tup [.tup (ws.map trD),.tup (gv.map trD)]):=by
 have Rc:=aF (ns:=ns) (k:=11) (m:=9) (by lia) (by lia) (by lia);have l11:=aJ ns 11 9 (by lia);generalize draw ns 11 9=QA at*;obtain⟨q,rfl⟩:=Gav l11.1;obtain⟨ws,_,e2⟩:=Ej (ns:=ns) (n:=q) W (by lia);obtain⟨ts,t1,t2,e3⟩:=El (ns:=ns) (n:=n) W (by lia);obtain⟨gv,y5,y6,g1,g2,S,e⟩:=rH W (ws:=ws) (e0:=some (.sh (.scr ns))) (e2:=some (.sh (.int (n:Int)))) ts [] none none t2 (λt ht=>absurd ht (by simp)) (by simpa using t1) {vQ:=λt ht=>absurd ht (by simp),over:=λt ht=>absurd ht (by simp),gap:=List.Pairwise.nil,cnt:=λo k=>GbB _};exact⟨ws,gv,g1,g2,S,ED Rc e2 (ck ws) e3 (ck ts) (ck gv) e⟩
theorem ug{α β:Type}(f:α->β):∀l:List α,(cD l).map f=cD (l.map f)
 |[]=>by simp[cD]
 |[x]=>by simp[cD]
 |x::y::l=>by
  have:=ug f l;simp[cD,this]
theorem lh{α:Type}:∀l:List α,(cD l).Sublist l
 |[]=> .slnil
 |[x]=>List.Sublist.refl _
 |x::y::l=> .cons_cons x (.cons y (lh l))
theorem HE(R:List D)(k:Nat):vR none (some (k:Int)) (.tup R)=some ⟨.c,.tup (R.take k)⟩:=by
 show some (⟨.c,.tup (cutD R none (some (k:Int)))⟩:RV)=_;have e:sIx R.length R.length (some (k:Int))=min k R.length:=by
  show(if(k:Int)<0 then((k:Int)+(R.length:Int)).toNat else min (k:Int).toNat R.length)=_;rw[Gag (by lia)];rfl
 have e0:sIx R.length 0 none=0:=rfl;unfold cutD;rw[e,e0,Gbu,GdZ];congr 3;by_cases c:k<=R.length
 .rw[GbP c]
 .rw[Nat.min_eq_right (by lia),Gcv,Gbn (by lia)]
theorem Ac(R:List D)(k:Nat):vR (some (k:Int)) none (.tup R)=some ⟨.c,.tup (R.drop k)⟩:=by
 show some (⟨.c,.tup (cutD R (some (k:Int)) none)⟩:RV)=_;have e:sIx R.length 0 (some (k:Int))=min k R.length:=by
  show(if(k:Int)<0 then((k:Int)+(R.length:Int)).toNat else min (k:Int).toNat R.length)=_;rw[Gag (by lia)];rfl
 have e0:sIx R.length R.length none=R.length:=rfl;unfold cutD;rw[e,e0,Gbn (by rw[GbJ];lia)];congr 3;by_cases c:k<=R.length
 .rw[GbP c]
 .rw[Nat.min_eq_right (by lia),GbL,Gdw (by lia)]
theorem Ml{ns:List Int}{A B C O W R X1 X2 X3 M:List D}{OD SD:D}{k o h a st part q:Int}{x5 x6:Os}(iw:aq W=true)(ir:aq R=true)(h1:vR none (some k) (.tup R)=some ⟨.c,.tup X1⟩)(h2:vR (some (k+1)) none (.tup R)=some ⟨.c,.tup X2⟩)(h3:vR (some k) none (.tup R)=some ⟨.c,.tup X3⟩)(z:X1.length+X2.length+1<=1000)
  (hk:atD R k=some (.tup [.int o,.int h,.int a]))(hO:atD O o=some OD)(ho:ixD OD (.int 2)=some (.int st))(hS:atD B st=some SD)(hp:ixD SD (.int 1)=some (.tup (.int part::M)))(p1:0<part)(p2:part<1073741824)(d:a5 [.scr ns,.int (60+k),.int (a/part)]=some (.int q))(mo:bC part (1+q)=true)
  (n1:bJ [.tup [.tup A,.tup B,.tup C,.tup O],.tup [.tup W,.tup (X1++X2)]]=some (.bl true))(n2:bJ [.tup [.tup A,.tup B,.tup C,.tup O],.tup [.tup W,.tup X3]]=some (.bl true))(n3:bJ [.tup [.tup A,.tup B,.tup C,.tup O],.tup [.tup W,.tup (X1++[.tup [.int o,.int h,.int (part*(1+q))]]++X2)]]=some (.bl true)):
  jo [some (.sh (.scr ns)),some (.sh (.tup [.tup A,.tup B,.tup C,.tup O])),some (.sh (.tup [.tup W,.tup R])),some (.sh (.tup R)),some (.sh (.int k)),x5,x6]=some (.nx [some (.sh (.scr ns)),some (.sh (.tup [.tup A,.tup B,.tup C,.tup O])),some (.sh (.tup [.tup W,.tup R])),some (.sh (.tup R)),some (.sh (.int k)),some (.sh (.int part)),some (.sh (.int (part*(1+q))))]):=by
 have y1:=nH X1 X2 (by lia);have y2:=nH X1 [.tup [.int o,.int h,.int (part*(1+q))]] (by simp;lia);have y3:=nH (X1++[.tup [.int o,.int h,.int (part*(1+q))]]) X2 (by simp;lia);generalize X1++[.tup [.int o,.int h,.int (part*(1+q))]]++X2=Y3 at*;generalize X1++[.tup [.int o,.int h,.int (part*(1+q))]]=Y2 at*;generalize X1++X2=Y1 at*;unfold jo;refine(a7 (by simp[vS,iw,ir,h1,h2,h3,y1,nI,n1,n2,a6];rfl)).trans ?_;refine(a7 (by simp[hk,hO,ho,hS,hp];rfl)).trans ?_;refine(a7 (by simp[hk,nI,p1,p2,d,mo];rfl)).trans ?_;simp[vS,iw,ir,h1,h2,hk,y2,y3,nI,n3,a6]
theorem JX{ns:List Int}{wd:D}{Rq len mn nv n:Int}{W R:List D}{y4 y5 y6:Os}(e1:ft [.scr ns]=some wd)(S9:wd.imm=true)(hl:bA [.scr ns]=some ⟨.c,.int len⟩)(hm:mV [.int len,.int 12]=some ⟨.c,.int mn⟩)(R9:a5 [.scr ns,.int 12,.int 4]=some (.int Rq))(hn:mn+Rq=nv)(e2:gk [.scr ns,wd,.int nv]=some (.tup [.tup W,.tup R]))(iw:aq W=true)(ir:aq R=true)(n1:bJ [wd,.tup [.tup W,.tup R]]=some (.bl true))(n2:bJ [wd,.tup [.tup W,.tup (cD R)]]=some (.bl true))(hr:bA [.tup R]=some ⟨.c,.int n⟩)(sm:aZ n=true)
  (h:forL (gN 4) jo (aE 0 n.toNat) [some (.sh (.scr ns)),some (.sh wd),some (.sh (.tup [.tup W,.tup R])),some (.sh (.tup R)),none,none,none]=some (.nx [some (.sh (.scr ns)),some (.sh wd),some (.sh (.tup [.tup W,.tup R])),some (.sh (.tup R)),y4,y5,y6])):qQ [.scr ns]=some (.bl true):=by
 have rwd:=b9 S9;have rb:=b9 (d:= .tup [.tup W,.tup R]) (by simp[iw,ir]);refine aH rfl ?_;unfold Gx;refine(a7 (by simp[aM,e1,rwd];rfl)).trans ?_;refine(a7 (by simp[-Ff,hl,hm,R9,nI,hn,e2,rb];rfl)).trans ?_;refine(a7 (by simp[ir];rfl)).trans ?_;refine(a7 (by simp[L9,n1,n2,iw,ir,a6];rfl)).trans ?_;refine(a7 (by simp[-forL,-df,hr,sm,h,freed];rfl)).trans ?_;simp
theorem JY{ns:List Int}{w:World}(W:aD w){ws gv:List Tr}(hg:bq w.orders.length gv)(hl:gv.length<64)(S:Snd w ws gv){i:Nat}(hi:i<gv.length){x5 x6:Os}:∃y5 y6,
  jo [some (.sh (.scr ns)),some (.sh (au w)),some (.sh (.tup [.tup (ws.map trD),.tup (gv.map trD)])),some (.sh (.tup (gv.map trD))),some (.sh (.int (i:Int))),x5,x6]=some (.nx [some (.sh (.scr ns)),some (.sh (au w)),some (.sh (.tup [.tup (ws.map trD),.tup (gv.map trD)])),some (.sh (.tup (gv.map trD))),some (.sh (.int (i:Int))),y5,y6]):=by
 generalize ht:gv[i]=t;have hm:t∈gv:=by rw[<-ht];exact Gat hi
 obtain⟨o,s,g,e1,e2,e3,so,hO,hS⟩:=Ab W (hg t hm).1 (hg t hm).2;have nl:=(oP (n:=t.1) (h:=t.2.1) (a:=t.2.2) e1 e2 e3).mp (S.vQ t hm);have sp:=so.p1;have Qx:=so.p2;obtain⟨a1,a2⟩:=nl.1.1.2;have qd:1<=t.2.2/s.part:=by
  by_cases c:t.2.2/s.part<1
  .have:s.part*(t.2.2/s.part)<=s.part*0:=GcK (by lia) (by lia);have h2:=Int.mul_ediv_add_emod t.2.2 s.part;lia
  .lia
 have d:=aF (ns:=ns) (k:=60+(i:Int)) (m:=t.2.2/s.part) (by lia) (by lia) (by lia);have dl:=aJ ns (60+(i:Int)) (t.2.2/s.part) (by lia);generalize draw ns (60+(i:Int)) (t.2.2/s.part)=q at*;have l1:1<=s.part*(1+q):=fm sp (by lia);have l2:s.part*(1+q)<=t.2.2:=by
  have h1:s.part*(1+q)<=s.part*(t.2.2/s.part):=GcK (by lia) (by lia);have h2:=Int.mul_ediv_add_emod t.2.2 s.part;lia
 have ln:cX w ws (t.1,t.2.1,s.part*(1+q))=[]:=(oP e1 e2 e3).mpr ⟨⟨⟨⟨nl.1.1.1.1,by have:=nl.1.1.1.2;lia⟩,l1,by simp⟩,nl.1.2⟩,nl.2⟩;have eg:gv=gv.take i++[t]++gv.drop (i+1):=by
  rw[Gas,<-ht];simp
 have sub1:(gv.take i++gv.drop (i+1)).Sublist gv:=by
  conv=>rhs;rw[eg,Gas]
  exact(List.Sublist.refl _).append (List.sublist_cons_self ..)
 have L3:Les (gv.take i++[(t.1,t.2.1,s.part*(1+q))]++gv.drop (i+1)) gv:=by
  conv=>rhs;rw[eg]
  exact((Les.oO (List.Sublist.refl _)).app (Les.keep (t:=(t.1,t.2.1,s.part*(1+q))) (u:=t) rfl rfl l2 .nil)).app (Les.oO (List.Sublist.refl _))
 have n1:=rG (ws:=ws) W (hg.less (.oO sub1)) (GbK sub1.length_le hl) (S.sub W hg sub1);have n2:=rG (ws:=ws) W (hg.less (.oO (Gdr i gv))) (GbK (Gdr i gv).length_le hl) (S.sub W hg (Gdr i gv));have n3:=rG (ws:=ws) W (hg.less L3) (GbK L3.len hl) (S.less W hg L3 λu hu=>by
  rcases GaE.mp hu with hu|hu
  .rcases GaE.mp hu with hu|hu
   .exact S.vQ u (Gbk hu)
   .rw[Gbw.mp hu];exact ln
  .exact S.vQ u (Gbr hu))
 have hk:atD (gv.map trD) (i:Int)=some (.tup [.int t.1,.int t.2.1,.int t.2.2]):=by rw[b4,Gah,Gaa hi,ht];rfl
 have s2:vR (some ((i:Int)+1)) none (.tup (gv.map trD))=some ⟨.c,.tup ((gv.map trD).drop (i+1))⟩:=Ac (gv.map trD) (i+1);rw[GaF,GdC,GcB] at n1;rw[GcB] at n2;rw[GaF,GaF,GdC,GcB] at n3;refine⟨_,_,Ml (M:=s.more.map .int) (ck ws) (ck gv) (HE _ i) s2 (Ac _ i) ?_ hk hO rfl hS rfl (by lia) (by lia) d (bx (by lia) (by lia)) n1 n2 n3⟩;rw[Gce,GbJ,Gac];lia
theorem HF(ns:List Int)(hl:ns.length<=63):qQ [.scr ns]=some (.bl true):=by
 obtain⟨w,W,e1⟩:=Jo ns;have R9:=aF (ns:=ns) (k:=12) (m:=4) (by lia) (by lia) (by lia);obtain⟨n,len,mn,hn,eO,Si,QH⟩:=Hx hl;obtain⟨ws,gv,g1,g2,S,e2⟩:=JW (ns:=ns) W (n:=n) (by lia);have n1:=rG W g1 g2 S;have n2:=rG W (g1.less (.oO (lh gv))) (GbK (lh gv).length_le g2) (S.sub W g1 (lh gv));rw[ug] at n2;obtain⟨e,h1,y4,y5,y6,rfl⟩:=cB (g:=gN 4) (body:=jo) (λ_ env=>∃y4 y5 y6,env=[some (.sh (.scr ns)),some (.sh (au w)),some (.sh (.tup [.tup (ws.map trD),.tup (gv.map trD)])),some (.sh (.tup (gv.map trD))),y4,y5,y6]) (aE 0 gv.length) 0 _ ⟨none,none,none,rfl⟩ (by
  rintro i d env hd ⟨y4,y5,y6,rfl⟩;obtain⟨hi,rfl⟩:=aY hd;obtain⟨z5,z6,ev⟩:=JY (ns:=ns) W g1 g2 S hi (x5:=y5) (x6:=y6);have e0:(0:Int)+(i:Int)=(i:Int):=by lia
  rw[e0];exact⟨_,_,rfl,ev,_,_,_,rfl⟩)
 exact JX (n:=(gv.length:Int)) e1 (BG W) eO Si R9 QH e2 (ck ws) (ck gv) n1 n2 (by simp[bA]) (aX (by lia) (by lia)) (by rw[GaI];exact h1)
end Maths
seal L2.PE L2.PT L2.PW L2.PA L2.PS L2.PSs L2.PG L2.PGs L2.PI
namespace Der
open PySem PySem.Spec PyProof.Rows L2 DL Den
noncomputable abbrev top:=Hd.top
theorem ip{us:List Value}{n:Nat}(h:us.length=n+1):∃a t,us=a::t/\t.length=n:=by
 cases us with
 |nil=>cases h
 |cons a t=>exact⟨a,t,rfl,Nat.succ.inj h⟩
theorem all1{K:PySem.W.Frag}{fd:FuncData}{p0:Str}(h:∀v0:Value,bindArgs fd ⟨[v0],[]⟩=pure ([p0].zip [v0])):Binds K fd [p0] []:= .all λus hl=>by
 obtain⟨v0,t0,rfl,hZ⟩:=ip hl;cases Gcc.mp hZ;exact h v0
theorem all2{K:PySem.W.Frag}{fd:FuncData}{p0 p1:Str}(h:∀v0 v1:Value,bindArgs fd ⟨[v0,v1],[]⟩=pure ([p0,p1].zip [v0,v1])):Binds K fd [p0,p1] []:= .all λus hl=>by
 obtain⟨v0,t0,rfl,h0⟩:=ip hl;obtain⟨v1,t1,rfl,hZ⟩:=ip h0;cases Gcc.mp hZ;exact h v0 v1
theorem Mm{K:PySem.W.Frag}{fd:FuncData}{p0 p1 p2:Str}(h:∀v0 v1 v2:Value,bindArgs fd ⟨[v0,v1,v2],[]⟩=pure ([p0,p1,p2].zip [v0,v1,v2])):Binds K fd [p0,p1,p2] []:= .all λus hl=>by
 obtain⟨v0,t0,rfl,h0⟩:=ip hl;obtain⟨v1,t1,rfl,h1⟩:=ip h0;obtain⟨v2,t2,rfl,hZ⟩:=ip h1;cases Gcc.mp hZ;exact h v0 v1 v2
theorem Q4{K:PySem.W.Frag}{fd:FuncData}{p0 p1 p2 p3:Str}(h:∀v0 v1 v2 v3:Value,bindArgs fd ⟨[v0,v1,v2,v3],[]⟩=pure ([p0,p1,p2,p3].zip [v0,v1,v2,v3])):Binds K fd [p0,p1,p2,p3] []:= .all λus hl=>by
 obtain⟨v0,t0,rfl,h0⟩:=ip hl;obtain⟨v1,t1,rfl,h1⟩:=ip h0;obtain⟨v2,t2,rfl,h2⟩:=ip h1;obtain⟨v3,t3,rfl,hZ⟩:=ip h2;cases Gcc.mp hZ;exact h v0 v1 v2 v3
theorem Q5{K:PySem.W.Frag}{fd:FuncData}{p0 p1 p2 p3 p4:Str}(h:∀v0 v1 v2 v3 v4:Value,bindArgs fd ⟨[v0,v1,v2,v3,v4],[]⟩=pure ([p0,p1,p2,p3,p4].zip [v0,v1,v2,v3,v4])):Binds K fd [p0,p1,p2,p3,p4] []:= .all λus hl=>by
 obtain⟨v0,t0,rfl,h0⟩:=ip hl;obtain⟨v1,t1,rfl,h1⟩:=ip h0;obtain⟨v2,t2,rfl,h2⟩:=ip h1;obtain⟨v3,t3,rfl,h3⟩:=ip h2;obtain⟨v4,t4,rfl,hZ⟩:=ip h3;cases Gcc.mp hZ;exact h v0 v1 v2 v3 v4
section
variable{Pm:Params}{mg:Str->Option Value}
def Txt(Pm:Params)(mg:Str->Option Value):Prop:=∃h:Heap,(Hd.K Pm).In h/\h.Ns mainGlobals mg
theorem Txt.at{n:Str}{v:Value}(T:Txt Pm mg)(e:PySem.W.nsIn (Hd.K Pm) mainGlobals n=some (some v):=by kernel_rfl):mg n=some v:=let⟨_,X,G⟩:=T;PySem.W.mg_of X G e
theorem Txt.no{n:Str}(T:Txt Pm mg)(e:PySem.W.nsIn (Hd.K Pm) mainGlobals n=some none:=by kernel_rfl):mg n=none:=let⟨_,X,G⟩:=T;PySem.W.mg_none_of X G e
theorem mkF{x:Str}{st:Stmt}{f:Addr}{pm cd:Value}(l:(Hd.K Pm).lookup f=some (Hd.fo (PySem.W.fnOf x x (kR st) (gB st) (bz st) .none .none .none pm none cd .none)):=by kernel_rfl)(c:PySem.W.codeIn (Hd.K Pm) cd x=true:=by kernel_rfl)(k:PySem.W.keepIn (Hd.K Pm) (.ref f)=true:=by kernel_rfl):Fun (Hd.K Pm) x x st f (PySem.W.fnOf x x (kR st) (gB st) (bz st) .none .none .none pm none cd .none):=L5 l c k
abbrev Fn(Pm:Params)(x:Str)(st:Stmt)(f:Addr)(d:FuncData):Prop:=Fun (Hd.K Pm) x x st f d
theorem D1:Fn Pm "bound" (top 1) 21 Hd.C3:=mkF
theorem Ad:Fn Pm "due_of" (top 3) 28 Hd.vL:=mkF
theorem Ae:Fn Pm "astray" (top 4) 35 Hd.vM:=mkF
theorem pf:Fn Pm "weight_at" (top 6) 42 Hd.oR:=mkF
theorem HG:Fn Pm "sums" (top 8) 49 Hd.Fb:=mkF
theorem ju:Fn Pm "goes_by_weight" (top 10) 54 Hd.j9:=mkF
theorem lK:Fn Pm "lone_faults" (top 11) 59 Hd.lu:=mkF
theorem iM:Fn Pm "marks_by_target" (top 12) 66 Hd.iC:=mkF
theorem nJ:Fn Pm "cap_faults" (top 13) 73 Hd.mN:=mkF
theorem jv:Fn Pm "gaps_by_stuffs" (top 14) 80 Hd.ja:=mkF
theorem lL:Fn Pm "gap_between" (top 15) 87 Hd.lA:=mkF
theorem nK:Fn Pm "gap_faults" (top 16) 92 Hd.mO:=mkF
theorem kP:Fn Pm "twice_faults" (top 17) 97 Hd.k8:=mkF
theorem Af:Fn Pm "faults" (top 18) 104 Hd.pU:=mkF
theorem jP:Fn Pm "_law_draw" (top 20) 111 Hd.lX:=mkF
theorem rJ:Fn Pm "_law_caps" (top 21) 118 Hd.lY:=mkF
theorem nL:Fn Pm "_law_stuffs" (top 22) 125 Hd.mP:=mkF
theorem rK:Fn Pm "_law_bars" (top 23) 132 Hd.pV:=mkF
theorem rL:Fn Pm "_law_dues" (top 24) 139 Hd.pW:=mkF
theorem ph:Fn Pm "_law_world" (top 25) 146 Hd.k9:=mkF
theorem rM:Fn Pm "_law_hour" (top 26) 153 Hd.pX:=mkF
theorem nM:Fn Pm "_law_amount" (top 27) 160 Hd.mQ:=mkF
theorem lM:Fn Pm "_law_weights" (top 28) 165 Hd.iP:=mkF
theorem lN:Fn Pm "_law_givings" (top 29) 170 Hd.iQ:=mkF
theorem nN:Fn Pm "_law_weight" (top 30) 177 Hd.mR:=mkF
theorem uh:Fn Pm "_law_due" (top 31) 184 Hd.t6:=mkF
theorem nO:Fn Pm "_law_single" (top 32) 189 Hd.mS:=mkF
theorem pj:Fn Pm "_law_bound" (top 33) 196 Hd.oS:=mkF
theorem pk:Fn Pm "_law_total" (top 34) 203 Hd.oT:=mkF
theorem rN:Fn Pm "_law_over" (top 35) 210 Hd.pY:=mkF
theorem rO:Fn Pm "_law_near" (top 36) 215 Hd.pZ:=mkF
theorem lP:Fn Pm "_law_doubled" (top 37) 220 Hd.lB:=mkF
theorem ui:Fn Pm "_law_all" (top 38) 227 Hd.t7:=mkF
theorem pq:Fn Pm "_law_sound" (top 39) 234 Hd.oU:=mkF
theorem rP:Fn Pm "_law_none" (top 40) 241 Hd.q9:=mkF
theorem OF:Fn Pm "law" (top 41) 248 Hd.Fc:=mkF
theorem Txt.OG(T:Txt Pm mg):mg "law"=some (.ref 248):=T.at
end
seal Hd.K
section
variable{P:Program}{w:World}{Pm:Params}{mg:Str->Option Value}{base:Heap}
abbrev Sc(N:List Str)(n:Nat)(st:Stmt):Prop:=jz N (N.take n) (bz st)
theorem HH:Sc ["cap","weight"] 2 (top 1):=cY
theorem EF:Sc ["order","hour","dues","behind","k"] 2 (top 3):=cY
theorem EG:Sc ["order","hour","dues"] 2 (top 4):=cY
theorem v8:Sc ["weights","guest","hour","found","row"] 3 (top 6):=cY
theorem JZ:Sc ["marks","hours","rows","found","total","gone","k","row"] 2 (top 8):=cY
theorem nP:Sc ["stuff"] 1 (top 10):=cY
theorem rQ:Sc ["world","weights","giving","number","hour","amount","order","stuff","kinds"] 3 (top 11):=cY
theorem mI:Sc ["world","givings","found","giving","order"] 2 (top 12):=cY
theorem sE:Sc ["world","weights","givings","found","target","marks","guest","k","cap","hours","row","top"] 3 (top 13):=cY
theorem nQ:Sc ["bars","gaps","bar"] 1 (top 14):=cY
theorem rR:Sc ["gaps","order","other"] 3 (top 15):=cY
theorem sF:Sc ["world","givings","gaps","widest","rows","found","k","row","later","apart"] 2 (top 16):=cY
theorem pE:Sc ["world","givings","counts","giving","k"] 2 (top 17):=cY
noncomputable abbrev Ah:List Str:=["world","book","weights","givings","found","giving"]
theorem EH:Sc Ah 2 (top 18):=cY
noncomputable abbrev rT:List Str:=["_law_script","_law_k","_law_many","_law_cell"]
theorem Ai:Sc rT 3 (top 20):=cY
noncomputable abbrev rV:List Str:=["_law_script","_law_k","_law_part","_law_scale","_law_caps_here","_law_c","_law_at","_law_hours","_law_kind","_law_top"]
theorem Aj:Sc rV 4 (top 21):=cY
theorem sG:Sc ["_law_script","_law_scale","_law_stuffs_here","_law_s","_law_k","_law_part","_law_sizes","_law_young"] 2 (top 22):=cY
theorem Ak:Sc ["_law_script","_law_many","_law_scale","_law_bars_here","_law_i","_law_j","_law_k","_law_one"] 3 (top 23):=cY
theorem Al:Sc ["_law_script","_law_k","_law_scale","_law_every","_law_early","_law_late","_law_begin"] 3 (top 24):=cY
noncomputable abbrev pv:List Str:=["_law_script","_law_scale","_law_guests","_law_g","_law_stuffs_here","_law_orders","_law_r","_law_k","_law_stuff","_law_most","_law_rule","_law_dues_here","_law_tapers"]
theorem v9:Sc pv 1 (top 25):=cY
theorem Am:Sc ["_law_script","_law_world_here","_law_order","_law_k","_law_scale","_law_dues_here","_law_hour_here","_law_near_here","_law_ends"] 4 (top 26):=cY
theorem sI:Sc ["_law_script","_law_world_here","_law_order","_law_k","_law_part","_law_many","_law_odd"] 4 (top 27):=cY
noncomputable abbrev lQ:List Str:=["_law_script","_law_world_here","_law_many","_law_scale","_law_kept","_law_n","_law_spot"]
theorem rW:Sc lQ 3 (top 28):=cY
noncomputable abbrev lR:List Str:=["_law_script","_law_world_here","_law_many","_law_kept","_law_n","_law_order","_law_spot"]
theorem rX:Sc lR 3 (top 29):=cY
theorem sJ:Sc ["_law_weights_here","_law_guest","_law_hour_here","_law_found","_law_one"] 3 (top 30):=cY
theorem BI:Sc ["_law_dues_here","_law_hour_here","_law_k"] 2 (top 31):=cY
theorem sL:Sc ["_law_world_here","_law_book","_law_listed","_law_order","_law_hour_here","_law_amount_here","_law_own","_law_stuff","_law_kilo"] 2 (top 32):=cY
theorem va:Sc ["_law_cap","_law_weight_here"] 2 (top 33):=cY
theorem vb:Sc ["_law_world_here","_law_book","_law_own","_law_cap","_law_hour_here","_law_total_here","_law_order","_law_at","_law_amount_here"] 5 (top 34):=cY
theorem An:Sc ["_law_world_here","_law_book","_law_kept","_law_order","_law_hour_here","_law_amount_here","_law_own","_law_caps_here","_law_k","_law_most","_law_total_here"] 2 (top 35):=cY
theorem Ao:Sc ["_law_world_here","_law_book","_law_rising","_law_one","_law_listed","_law_j","_law_i","_law_other","_law_bar"] 2 (top 36):=cY
theorem rY:Sc ["_law_world_here","_law_book","_law_listed","_law_order","_law_dues_here","_law_given_hours","_law_k","_law_first","_law_last"] 2 (top 37):=cY
theorem BJ:Sc ["_law_world_here","_law_book","_law_listed"] 2 (top 38):=cY
theorem vc:Sc ["_law_script","_law_world_here","_law_many","_law_weights_here","_law_book","_law_one","_law_other"] 3 (top 39):=cY
theorem Ap:Sc ["_law_world_here","_law_book","_law_found"] 2 (top 40):=cY
theorem Mn:Sc ["_law_script","_law_world_here","_law_book","_law_rows","_law_k","_law_part","_law_less"] 1 (top 41):=cY
theorem BK{X:Cx}{e:Expr}{t:DT}(h:PWd X e t):PTd X e t:=PW.pt h
theorem aS(P:Program)(w:World)(Pm:Params)(mg:Str->Option Value)(base:Heap)(k np:Nat)(body:DS){x qual:Str}{sd:Stmt}{fa:Addr}{fd:FuncData}{N ps:List Str}(F:Fun (Hd.K Pm) x qual sd fa fd)(S:jz N ps (bz sd))(QN:ps.length=np)(hb:∀(xb:Value) (A:Around) (outer:List PySem.Env) (s:Shared) (H:Hp) (E:XK) (hr:gL k (A.deeper (envOfC qual (bz sd) s.heap.objs.size fa xb))),N.Nodup->(A.deeper (envOfC qual (bz sd) s.heap.objs.size fa xb)).units+1<cLine->(A.deeper (envOfC qual (bz sd) s.heap.objs.size fa xb)).units+20<cLine->qh (vA CX0 P w (Hd.K Pm) mg base N qual (bz sd) fa xb A outer s H E).nox (gB sd) body):mL P w (Hd.K Pm) mg base CX0 (k+1) fa fd ps (spD (Hd.K Pm) np (cC N.length np body)):=O0 F S QN λa b c d e f hr=>hb a b c d e f hr S.nd (Ng hr) (IH hr)
theorem cU(sp:List D->Option D){X:Cx}{e:Expr}{pos p:Pos}{k m np:Nat}{fa:Addr}{fd:FuncData}{ps:List Str}{x:Str}{st:Stmt}{es:List Expr}{r:DA}(F:mL X.prog X.w X.K X.mg X.base CX0 k fa fd ps (spD X.K np sp))(hF:Fun X.K x x st fa fd)(hb:Binds X.K fd ps [])(hr:gL m X.A)(hg:Gl X x)(hm:X.mg x=some (.ref fa))(ha:PAd X (e::es) r)(hl:∀env rs,r env=some rs->rs.length=np)(hk:k<=m)(xG:(x==("__debug__":Str))=false)(he:starEach (e::es) X.env=(false,eval e X.env)::starEach es X.env)(xF:(backTo pos (starEach es X.env)).any (·.1)=false):PEd X (.Call (.Name x p) (e::es) [] pos) (aj sp r):=ID F (hr.mono hk) hg hm hF.kp hb Nf ha hl xG he xF
abbrev Fo(P:Program)(w:World)(Pm:Params)(mg:Str->Option Value)(base:Heap)(k:Nat)(fa:Addr)(fd:FuncData)(ps:List Str)(np:Nat)(s:List D->Option D):Prop:=mL P w (Hd.K Pm) mg base CX0 k fa fd ps (spD (Hd.K Pm) np s)
theorem g0(T:Txt Pm mg):Fo P w Pm mg base 4 104 Hd.pU (Ah.take 2) 2 kz/\Fo P w Pm mg base 1 111 Hd.lX (rT.take 3) 3 a5/\Fo P w Pm mg base 2 118 Hd.lY (rV.take 4) 4 fU:=by
 have ok_bound:=aS P w Pm mg base 0 2 Den.l7 D1 HH rfl ?_;have ok_due_of:=aS P w Pm mg base 0 2 Den.ny Ad EF rfl ?_;have ok_astray:=aS P w Pm mg base 1 2 Den.nz Ae EG rfl ?_;have ok_weight_at:=aS P w Pm mg base 0 3 Den.ku pf v8 rfl ?_;have ok_sums:=aS P w Pm mg base 0 2 Den.uT HG JZ rfl ?_;have ok_goes_by_weight:=aS P w Pm mg base 0 1 Den.fS ju nP rfl ?_;have ok_lone_faults:=aS P w Pm mg base 2 3 Den.j0 lK rQ rfl ?_;have ok_marks_by_target:=aS P w Pm mg base 0 2 Den.fI iM mI rfl ?_;have ok_cap_faults:=aS P w Pm mg base 1 3 Den.jD nJ sE rfl ?_;have ok_gaps_by_stuffs:=aS P w Pm mg base 0 1 Den.fT jv nQ rfl ?_;have ok_gap_between:=aS P w Pm mg base 0 3 Den.j3 lL rR rfl ?_;have ok_gap_faults:=aS P w Pm mg base 1 2 Den.jE nK sF rfl ?_;have ok_twice_faults:=aS P w Pm mg base 1 2 Den.gZ kP pE rfl ?_;have hX:=aS P w Pm mg base 3 2 Den.qP Af EH rfl ?_;have fw:=aS P w Pm mg base 0 3 Den.mf jP Ai rfl ?_;have iN:=aS P w Pm mg base 1 4 Den.mh rJ Aj rfl ?_;exact⟨hX,fw,iN⟩
 all_goals intro xb A outer s H E hr nd hu hu20
 all_goals repeat' (first|(with_reducible apply nY)|((with_reducible apply @AM);rfl;first|exact Or.inl rfl|exact Or.inr (Or.inl rfl)|exact Or.inr (Or.inr rfl)|exact gH rfl|exact je rfl;decide;decide)|((with_reducible apply @dG);rotate_left 2;rfl)|((with_reducible apply @Fx);exact hu;rotate_left 2;exactλ_ _=>rfl)|((with_reducible first|refine cT MY Ld ?_ ?_ ?_|refine cT EX AV ?_ ?_ ?_|refine cT AB uB ?_ ?_ ?_|refine cT EW AU ?_ ?_ ?_|refine cT vt qj ?_ ?_ ?_|refine cT BU vV ?_ ?_ ?_|refine uA AB uB ?_ ?_ ?_|refine uA vt qj ?_ ?_ ?_);rotate_left 2;exact jy _)|((with_reducible first|refine cT (qr ?_) qt ?_ ?_ ?_|refine cT (FG ?_) FH ?_ ?_ ?_|refine uA (qr ?_) qt ?_ ?_ ?_);exact hu20;rotate_left 2;exact jy _)|(with_reducible first|apply qy|apply nY|apply AN|apply Fl|apply gS|apply AZ|apply uF|apply tJ|apply qq|apply AO|apply AR|apply AQ|apply uz|apply AS|apply wa|apply Fu|apply AW|apply AX|apply tK|apply Fq|apply Ft|apply IZ|apply uC|apply Fs|apply nZ|apply vW|apply Fv EW AU vt qj|apply fE|apply kT|apply FE|apply G9)|(with_reducible apply BK)|rfl|exact hu|exact hu20|exact jy _|exact gH rfl|exact je rfl|exact Or.inl rfl|exact Or.inr rfl|exact Or.inr (Or.inl rfl)|exact Or.inr (Or.inr rfl)|exactλ_=>rfl|exactλ_ _=>rfl|decide|exact og|refine oh ?_|refine gr (Dx (by rfl)) Dz rfl T.no Li ?_|refine gr (pS.or o6) o7 rfl T.no B6 ?_|refine gr fH iX rfl T.no jd ?_|refine gr fH iY rfl T.no jd ?_|refine qk lq oX rfl T.no w8 ?_|refine IY rfl rfl T.no ?_ EJ (λ_ _ _=> .int _) rfl|refine kU (N:=["bar"]) (l:=none) rfl ?_ ?_ g8 ⟨λ_ _ _ _ _=>(bH (i:=0) (dm (by decide+kernel)) rfl (b7 rfl) (dw rfl)),λ_ _ _ _ _=> ?_,λ_ _ _ _ _=> ?_⟩|refine kU (N:=["cap"]) (l:=none) rfl ?_ ?_ g8 ⟨λ_ _ _ _ _=>(bH (i:=0) (dm (by decide+kernel)) rfl (b7 rfl) (dw rfl)),λ_ _ _ _ _=> ?_,λ_ _ _ _ _=> ?_⟩|refine kU (N:=["giving"]) (l:=(some 1)) rfl ?_ ?_ g8 ⟨λ_ _ _ _ _=>(bH (i:=0) (dm (by decide+kernel)) rfl (b7 rfl) (dw rfl)),λ_ _ _ _ _=> ?_,λ_ _ _ _ _=> ?_⟩|refine kU (N:=["kind","number","hour"]) (l:=(some 8)) rfl ?_ ?_ g8 ⟨λ_ _ _ _ _=>(bH (i:=0) (dm (by decide+kernel)) rfl (b7 rfl) (dw rfl)),λ_ _ _ _ _=> ?_,λ_ _ _ _ _=> ?_⟩|refine jC (N:=["due","many"]) (i:=2) rfl ?_ rfl ?_ qv ⟨λ_ _ _ _ _=>(o9 rfl (fE (bH (i:=0) (dm (by decide+kernel)) rfl (b7 rfl) (dw rfl)) (fE (bH (i:=1) (dm (by decide+kernel)) rfl (b7 rfl) (dw rfl)) kT))),λ_ _ _ _ _=> ?_,λ_ _ _ _ _=> ?_⟩|refine bH nd rfl ?_|refine bH (dm (by decide+kernel)) rfl (b7 rfl) (dw rfl)|refine o9 rfl ?_|refine o8 rfl T.no ?_|refine IT rfl T.no ?_|refine uE ?_ ?_|refine B0 ?_|refine B3 nd rfl ?_ ?_|refine FA ?_ ?_ ?_|refine B1 ?_|refine B5 Gda rfl ?_ ?_ ?_|refine oe rfl ?_ ?_|refine Dv rfl ?_ ?_|refine Ba hu rfl ?_ ?_ ?_|refine FC Gda ?_ ?_|refine Fz|refine DY nd rfl ?_ ?_ ?_|refine LL Gda rfl ?_ nd rfl ?_ (by decide) ?_|refine Gs ?_ ?_|refine Je ?_|refine LJ nd rfl ?_ (by decide) ?_|refine LK hu rfl ?_ ?_ ?_|refine nZ ?_ ?_|refine vW ?_ ?_|((first|(with_reducible apply cU iI);exact ok_bound;exact D1|(with_reducible apply cU gX);exact ok_due_of;exact Ad|(with_reducible apply cU kq);exact ok_astray;exact Ae|(with_reducible apply cU gc);exact ok_weight_at;exact pf|(with_reducible apply cU iZ);exact ok_sums;exact HG|(with_reducible apply cU dH);exact ok_goes_by_weight;exact ju|(with_reducible apply cU dW);exact ok_lone_faults;exact lK|(with_reducible apply cU cj);exact ok_marks_by_target;exact iM|(with_reducible apply cU fJ);exact ok_cap_faults;exact nJ|(with_reducible apply cU dI);exact ok_gaps_by_stuffs;exact jv|(with_reducible apply cU fX);exact ok_gap_between;exact lL|(with_reducible apply cU fK);exact ok_gap_faults;exact nK|(with_reducible apply cU dz);exact ok_twice_faults;exact kP|(with_reducible apply cU a5);exact fw;exact jP);(first|exact all1 λ_=>rfl|exact all2 λ_ _=>rfl|exact Mm λ_ _ _=>rfl);exact hr;rfl;exact T.at;rotate_left 2;decide;decide;rfl;rfl)|exact T.no|exact⟨rfl,rfl,rfl,rfl⟩|exact⟨rfl,rfl,rfl,rfl,rfl,by decide,rfl,rfl⟩)
theorem g1(T:Txt Pm mg):Fo P w Pm mg base 4 146 Hd.k9 (pv.take 1) 1 ft/\Fo P w Pm mg base 2 165 Hd.iP (lQ.take 3) 3 cP/\Fo P w Pm mg base 3 170 Hd.iQ (lR.take 3) 3 cQ:=by
 obtain⟨hX,fw,iN⟩:=g0 (P:=P) (w:=w) (base:=base) T;have sO:=aS P w Pm mg base 2 2 Den.jF nL sG rfl ?_;have Ar:=aS P w Pm mg base 1 3 Den.mj rK Ak rfl ?_;have Aw:=aS P w Pm mg base 1 3 Den.jG rL Al rfl ?_;have jQ:=aS P w Pm mg base 3 1 Den.kA ph v9 rfl ?_;have Av:=aS P w Pm mg base 1 4 Den.mq rM Am rfl ?_;have sN:=aS P w Pm mg base 1 4 Den.jH nM sI rfl ?_;have iz:=aS P w Pm mg base 1 3 Den.j4 lM rW rfl ?_;have iq:=aS P w Pm mg base 2 3 Den.j5 lN rX rfl ?_;exact⟨jQ,iz,iq⟩
 all_goals intro xb A outer s H E hr nd hu hu20
 all_goals repeat' (first|(with_reducible apply nY)|((with_reducible apply @AM);rfl;first|exact Or.inl rfl|exact Or.inr (Or.inl rfl)|exact Or.inr (Or.inr rfl)|exact gH rfl|exact je rfl;decide;decide)|((with_reducible apply @dG);rotate_left 2;rfl)|((with_reducible apply @Fx);exact hu;rotate_left 2;exactλ_ _=>rfl)|((with_reducible first|refine cT EX AV ?_ ?_ ?_|refine cT vt qj ?_ ?_ ?_);rotate_left 2;exact jy _)|((with_reducible first|refine cT (qr ?_) qt ?_ ?_ ?_);exact hu20;rotate_left 2;exact jy _)|(with_reducible first|apply qy|apply nY|apply AN|apply gS|apply AZ|apply uF|apply qq|apply AO|apply AR|apply AQ|apply uz|apply AS|apply Lb|apply AW|apply AX|apply Lc|apply uC|apply nZ|apply fE|apply kT)|(with_reducible apply BK)|rfl|exact hu|exact hu20|exact jy _|exact gH rfl|exact je rfl|exact Or.inl rfl|exact Or.inr rfl|exact Or.inr (Or.inl rfl)|exact Or.inr (Or.inr rfl)|exactλ_=>rfl|exactλ_ _=>rfl|decide|exact og|refine oh ?_|refine gr (pS.or o6) o7 rfl T.no B6 ?_|refine gr (Dc (by rfl)) AY rfl T.no FJ ?_|refine gr (sT (by rfl)) ql rfl T.no FI ?_|refine gr fH iY rfl T.no jd ?_|refine qk lq oX rfl T.no w8 ?_|refine jC (N:=["_law_spot","_law_amount_here"]) (i:=3) rfl ?_ rfl ?_ qv ⟨λ_ _ _ _ _=>(o9 rfl (fE (bH (i:=0) (dm (by decide+kernel)) rfl (b7 rfl) (dw rfl)) (fE (bH (i:=1) (dm (by decide+kernel)) rfl (b7 rfl) (dw rfl)) kT))),λ_ _ _ _ _=> ?_,λ_ _ _ _ _=> ?_⟩|refine jC (N:=["_law_spot","_law_weight_here"]) (i:=4) rfl ?_ rfl ?_ qv ⟨λ_ _ _ _ _=>(o9 rfl (fE (bH (i:=0) (dm (by decide+kernel)) rfl (b7 rfl) (dw rfl)) (fE (bH (i:=1) (dm (by decide+kernel)) rfl (b7 rfl) (dw rfl)) kT))),λ_ _ _ _ _=> ?_,λ_ _ _ _ _=> ?_⟩|refine bH nd rfl ?_|refine bH (dm (by decide+kernel)) rfl (b7 rfl) (dw rfl)|refine o9 rfl ?_|refine o8 rfl T.no ?_|refine Du rfl T.no ?_ ?_|refine uE ?_ ?_|refine B0 ?_|refine B3 nd rfl ?_ ?_|refine FA ?_ ?_ ?_|refine B1 ?_|refine B5 Gda rfl ?_ ?_ ?_|refine oe rfl ?_ ?_|refine Ba hu rfl ?_ ?_ ?_|refine DJ rfl ?_ ?_ ?_|refine nZ ?_ ?_|refine vW ?_ ?_|((first|(with_reducible apply cU a5);exact fw;exact jP|(with_reducible apply cU fU);exact iN;exact rJ|(with_reducible apply cU fL);exact sO;exact nL|(with_reducible apply cU i4);exact Ar;exact rK|(with_reducible apply cU i5);exact Aw;exact rL|(with_reducible apply cU i7);exact Av;exact rM|(with_reducible apply cU dJ);exact sN;exact nM);(first|exact all2 λ_ _=>rfl|exact Mm λ_ _ _=>rfl|exact Q4 λ_ _ _ _=>rfl);exact hr;rfl;exact T.at;rotate_left 2;decide;decide;rfl;rfl)|exact T.no|exact⟨rfl,rfl,rfl,rfl⟩|exact⟨rfl,rfl,rfl,rfl,rfl,by decide,rfl,rfl⟩)
theorem BL(T:Txt Pm mg):mL P w (Hd.K Pm) mg base CX0 6 248 Hd.Fc ["_law_script"] (spD (Hd.K Pm) 1 qQ):=by
 obtain⟨hX,fw,iN⟩:=g0 (P:=P) (w:=w) (base:=base) T;obtain⟨jQ,iz,iq⟩:=g1 (P:=P) (w:=w) (base:=base) T;have sP:=aS P w Pm mg base 0 3 Den.jI nN sJ rfl ?_;have BN:=aS P w Pm mg base 0 2 Den.l9 uh BI rfl ?_;have sM:=aS P w Pm mg base 1 2 Den.jK nO sL rfl ?_;have vf:=aS P w Pm mg base 0 2 Den.fu pj va rfl ?_;have vg:=aS P w Pm mg base 0 5 Den.kB pk vb rfl ?_;have Aq:=aS P w Pm mg base 1 2 Den.mw rN An rfl ?_;have Au:=aS P w Pm mg base 0 2 Den.mz rO Ao rfl ?_;have se:=aS P w Pm mg base 0 2 Den.j6 lP rY rfl ?_;have BO:=aS P w Pm mg base 2 2 Den.oA ui BJ rfl ?_;have vh:=aS P w Pm mg base 3 3 Den.kC pq vc rfl ?_;have As:=aS P w Pm mg base 4 2 Den.mC rP Ap rfl ?_;have BL:=aS P w Pm mg base 5 1 Den.Gx OF Mn rfl ?_;exact BL
 all_goals intro xb A outer s H E hr nd hu hu20
 all_goals repeat' (first|(with_reducible apply nY)|((with_reducible apply @AM);rfl;first|exact Or.inl rfl|exact Or.inr (Or.inl rfl)|exact Or.inr (Or.inr rfl)|exact gH rfl|exact je rfl;decide;decide)|((with_reducible apply @dG);rotate_left 2;rfl)|((with_reducible apply @Fx);exact hu;rotate_left 2;exactλ_ _=>rfl)|((with_reducible first|refine cT EX AV ?_ ?_ ?_|refine cT AB uB ?_ ?_ ?_|refine cT EW AU ?_ ?_ ?_|refine cT vt qj ?_ ?_ ?_|refine cT BU vV ?_ ?_ ?_);rotate_left 2;exact jy _)|((with_reducible first|refine cT (qr ?_) qt ?_ ?_ ?_|refine cT (FG ?_) FH ?_ ?_ ?_|refine uA (qr ?_) qt ?_ ?_ ?_);exact hu20;rotate_left 2;exact jy _)|(with_reducible first|apply qy|apply nY|apply AN|apply NW|apply Fl|apply gS|apply AZ|apply uF|apply tJ|apply qq|apply AO|apply Jg|apply AR|apply AQ|apply uz|apply AS|apply Lf|apply E9|apply wa|apply AW|apply AX|apply Jj|apply tK|apply Le|apply Fq|apply Ft|apply uC|apply Fs|apply nZ|apply vW|apply fE|apply kT|apply FE)|(with_reducible apply BK)|rfl|exact hu|exact hu20|exact jy _|exact gH rfl|exact je rfl|exact Or.inl rfl|exact Or.inr rfl|exact Or.inr (Or.inl rfl)|exact Or.inr (Or.inr rfl)|exactλ_=>rfl|exactλ_ _=>rfl|decide|exact og|refine oh ?_|refine gr (pS.or o6) o7 rfl T.no B6 ?_|refine gr (sT (by rfl)) ql rfl T.no FI ?_|refine gr fH iX rfl T.no jd ?_|refine gr fH iY rfl T.no jd ?_|refine qk (uM (by rfl)) wz rfl T.no Cm ?_|refine Lg FK ?_ rfl T.no rfl T.no Cm|refine kU (N:=["_law_hour_here","_law_first","_law_last"]) (l:=(some 5)) rfl ?_ ?_ g8 ⟨λ_ _ _ _ _=>(bH (i:=0) (dm (by decide+kernel)) rfl (b7 rfl) (dw rfl)),λ_ _ _ _ _=> ?_,λ_ _ _ _ _=> ?_⟩|refine kU (N:=["_law_one"]) (l:=none) rfl ?_ ?_ g8 ⟨λ_ _ _ _ _=>(bH (i:=0) (dm (by decide+kernel)) rfl (b7 rfl) (dw rfl)),λ_ _ _ _ _=> ?_,λ_ _ _ _ _=> ?_⟩|refine Cp (i:=5) (N:=["_law_one","_law_order"]) nd rfl ?_ (l:=none) rfl ?_ ?_ g8 ⟨λ_ _ _ _ _=>(bH (i:=0) (dm (by decide+kernel)) rfl (b7 rfl) (dw rfl)),λ_ _ _ _ _=> ?_,λ_ _ _ _ _=> ?_⟩|refine Cp (i:=8) (N:=["_law_cap"]) nd rfl ?_ (l:=none) rfl ?_ ?_ g8 ⟨λ_ _ _ _ _=>(bH (i:=0) (dm (by decide+kernel)) rfl (b7 rfl) (dw rfl)),λ_ _ _ _ _=> ?_,λ_ _ _ _ _=> ?_⟩|refine bH nd rfl ?_|refine bH (dm (by decide+kernel)) rfl (b7 rfl) (dw rfl)|refine o9 rfl ?_|refine o8 rfl T.no ?_|refine uE ?_ ?_|refine B0 ?_|refine B3 nd rfl ?_ ?_|refine FA ?_ ?_ ?_|refine B1 ?_|refine B5 Gda rfl ?_ ?_ ?_|refine oe rfl ?_ ?_|refine Ba hu rfl ?_ ?_ ?_|refine nZ ?_ ?_|refine vW ?_ ?_|((first|(with_reducible apply cU kz);exact hX;exact Af|(with_reducible apply cU a5);exact fw;exact jP|(with_reducible apply cU ft);exact jQ;exact ph|(with_reducible apply cU cP);exact iz;exact lM|(with_reducible apply cU cQ);exact iq;exact lN|(with_reducible apply cU fM);exact sP;exact nN|(with_reducible apply cU oz);exact BN;exact uh|(with_reducible apply cU fN);exact sM;exact nO|(with_reducible apply cU cG);exact vf;exact pj|(with_reducible apply cU gh);exact vg;exact pk|(with_reducible apply cU jL);exact Aq;exact rN|(with_reducible apply cU i8);exact Au;exact rO|(with_reducible apply cU fc);exact se;exact lP|(with_reducible apply cU jn);exact BO;exact ui|(with_reducible apply cU gk);exact vh;exact pq|(with_reducible apply cU bJ);exact As;exact rP);(first|exact all1 λ_=>rfl|exact all2 λ_ _=>rfl|exact Mm λ_ _ _=>rfl|exact Q5 λ_ _ _ _ _=>rfl);exact hr;rfl;exact T.at;rotate_left 2;decide;decide;rfl;rfl)|exact T.no|exact⟨rfl,rfl,rfl,rfl⟩|exact⟨rfl,rfl,rfl,rfl,rfl,by decide,rfl,rfl⟩)
end
theorem all_mk{l:PySem.W.OpenLaw}{w:World}{h:Heap}{mg:Str->Option Value}{fa:Addr}(X:(Hd.K w.params).In h)(G:h.Ns mainGlobals mg)(So:mg "law"=some (.ref fa)):
  ∃fd:FuncData,(∀(s:Shared) (v:Value),BindsTo s fd ⟨[v],[]⟩ [("_law_script",v)])/\∀base:Heap,(Hd.K w.params).In base->base.Ns mainGlobals mg->mL l.prog w (Hd.K w.params) mg base CX0 6 fa fd ["_law_script"] (spD (Hd.K w.params) 1 qQ):=by
 have T:Txt w.params mg:=⟨h,X,G⟩
 have e:=So.symm.trans T.OG;cases e;exact⟨_,λs v=> .of_eq rfl,λbase _ _=>BL T⟩
theorem walk{l:PySem.W.OpenLaw}{q:Program}{loose:List Str}{XP:(Str->Option Value)->Heap->Prop}{YP:World->Heap->Prop}{d:DefRec}{K:Params->PySem.W.Frag}(hn:l.most=some 63)(zH:d.params.defaults=[])
  (hY:∀(w:World) (h:Heap),YP w h->(K w.params).In h)(zx:∀ns:List Int,ns.length<=63->qQ [.scr ns]=some (.bl true))
  (F:∀(w:World) (mg:Str->Option Value) (fa:Addr) (h:Heap),(K w.params).In h->h.Ns mainGlobals mg->mg d.name=some (.ref fa)->
   ∃fd:FuncData,(∀(s:Shared) (u:Value),BindsTo s fd ⟨[u],[]⟩ [("_law_script",u)])/\∀base:Heap,(K w.params).In base->base.Ns mainGlobals mg->mL l.prog w (K w.params) mg base CX0 6 fa fd ["_law_script"] (spD (K w.params) 1 qQ)):
  PySem.W.WalkO q loose XP YP l.row.toRowW d [] (λf vs=>PySem.call f vs):=
 L2.Ip (n:=63) (k:=6) (x:="_law_script") (CX:=λ_=>CX0) (sp:=λw=>spD (K w.params) 1 qQ) hn (by decide) zH ⟨rfl,by decide,by decide⟩ hY F (λ_ _ a ns hl hO hS=>Lh hO hS (zx ns hl)) λ_ _ _ _ _ z=>z
end Der
open PySem PySem.W PyProof.Rows
theorem PySem.Challenge.cw_dosehouse_k46_whole_fewer_and_lesser_sta_holds : PySem.Challenge.rw_dosehouse_k46_whole_fewer_and_lesser_sta.Holds := by
 exact Hd.close λd h1 h2=>Der.walk (l:=PySem.Challenge.rw_dosehouse_k46_whole_fewer_and_lesser_sta) (K:=Hd.K) rfl h1 (λw h Y=>PySem.W.kIn_of Y) Maths.HF λw mg fa h KX G zE=>Der.all_mk KX G (h2▸zE)
