import PyProof.Rows.All
import Wide.All
import OpenK.AllK
import PySem.Challenge.RW_dosehouse_k66_waiting
set_option Elab.async false
set_option linter.all false
set_option maxRecDepth 100000
set_option maxHeartbeats 0
set_option genSizeOf false
set_option compiler.extract_closed false
set_option genInjectivity false
theorem Za1(h:True:=by rfl):True:=h
theorem Za2(h:True:=by decide):True:=h
theorem Za3(h:True:=by first|exact .inl rfl|exact .inr rfl|assumption):True:=h
def Gaa:=@PySem.wpAny_bind
def Gab:=@List.length_map
def Gac:=@List.mem_cons_of_mem
def Gad:=@List.getElem?_eq_getElem
def Gae:=@PySem.wpAny_pure
def Gaf:=@List.mem_cons_self
def Gag:=@if_neg
def Gah:=@if_pos
def Gai:=@List.length_append
def Gaj:=@PySem.Heap.get?_push_of_some
def Gak:=@List.getElem?_set_ne
def Gal:=@Bool.false_ne_true
def Gam:=@List.getElem?_eq_some_iff
def Gan:=@Bool.and_eq_true
def Gao:=@of_decide_eq_true
def Gap:=@List.all_eq_true
def Gaq:=@Nat.le_refl
def Gar:=@List.mem_cons
def Gas:=@Option.map_eq_some_iff
def Gat:=@List.mem_map
def Gau:=@PySem.Heap.lt_size
def Gav:=@List.size_toArray
def Gaw:=@List.getElem?_map
def Gax:=@decide_eq_false
def Gay:=@List.length_cons
def Gaz:=@decide_eq_true
def GaA:=@List.map_cons
def GaB:=@Array.getElem?_eq_getElem
def GaC:=@List.map_append
def GaD:=@PySem.Heap.get?_push_size
def GaE:=@List.mem_of_getElem?
def GaF:=@List.mem_append
def GaG:=@Nat.lt_of_lt_of_le
def GaH:=@Nat.ne_of_lt
def GaI:=@List.getElem_mem
def GaJ:=@List.mem_singleton
def GaK:=@List.set_cons_succ
def GaL:=@List.set_cons_zero
def GaM:=@decide_eq_true_iff
def GaN:=@Array.length_toList
def GaO:=@List.mem_filter
def GaP:=@Bool.or_eq_true
def GaQ:=@List.mem_append_right
def GaR:=@PySem.wpAny_setState_of
def GaS:=@Nat.zero_add
def GaT:=@List.map_congr_left
def GaU:=@List.map_map
def GaV:=@List.append_nil
def GaW:=@List.length_eq_zero_iff
def GaX:=@List.mem_range
def GaY:=@List.pairwise_cons
def GaZ:=@List.getElem?_set_self
def Gba:=@List.append_assoc
def Gbb:=@Bool.false_eq_true
def Gbc:=@List.length_filter_le
def Gbd:=@Int.toNat_natCast
def Gbe:=@Int.dvd_mul_right
def Gbf:=@Nat.le_trans
def Gbg:=@Array.getD_eq_getD_getElem?
def Gbh:=@Nat.lt_or_ge
def Gbi:=@PySem.Heap.get?_update_self
def Gbj:=@Array.getElem?_toList
def Gbk:=@Nat.zero_le
def Gbl:=@List.lookup_cons
def Gbm:=@Array.getElem?_eq_some_iff
def Gbn:=@PySem.wpAny_newObj_type
def Gbo:=@PySem.wpAny_call_entry
def Gbp:=@Int.le_refl
def Gbq:=@List.getElem?_append_right
def Gbr:=@List.mem_append_left
def Gbs:=@List.all_map
def Gbt:=@PySem.Obj.data_mapFields
def Gbu:=@List.getElem?_append_left
def Gbv:=@Nat.lt_irrefl
def Gbw:=@List.getElem?_eq_none
def Gbx:=@PySem.W.kia_one
def Gby:=@List.nil_append
def Gbz:=@PySem.wpAny_callSpecial?_slot
def GbA:=@Int.eq_ofNat_of_zero_le
def GbB:=@List.filter_cons
def GbC:=@PySem.sizeLine_eq
def GbD:=@List.flatMap_cons
def GbE:=@Function.comp_apply
def GbF:=@List.find?_cons
def GbG:=@List.any_eq_true
def GbH:=@PySem.F.called_set
def GbI:=@Int.emod_lt_of_pos
def GbJ:=@PySem.wpAny_holding
def GbK:=@if_true
def GbL:=@List.getElem?_of_mem
def GbM:=@PySem.wpAny_truthy_bool
def GbN:=@PyProof.Rows.callWith_type1
def GbO:=@List.nodup_cons
def GbP:=@List.length_nil
def GbQ:=@Int.emod_nonneg
def GbR:=@PySem.PassesOwn.never
def GbS:=@List.getElem_of_mem
def GbT:=@PySem.Heap.SameBut.update
def GbU:=@Array.getElem?_eq_none
def GbV:=@List.append_eq_nil_iff
def GbW:=@if_false
def GbX:=@List.find?_eq_none
def GbY:=@Option.map_some
def GbZ:=@PySem.codeAny_builtin
def Gca:=@PySem.Around.under_plainId
def Gcb:=@PySem.wpAny_ite_false
def Gcc:=@Nat.lt_succ_of_lt
def Gce:=@List.all_cons
def Gcf:=@Bool.and_false
def Gcg:=@List.not_mem_nil
def Gch:=@List.getElem_map
def Gci:=@PySem.wpAny_mono
def Gcj:=@PySem.Heap.get?_update_other
def Gck:=@Nat.le_succ
def Gcl:=@Int.dvd_add
def Gcm:=@Nat.eq_or_lt_of_le
def Gcn:=@PyProof.Rows.F.plain_set_update_loop
def Gco:=@Int.sub_add_cancel
def Gcp:=@PySem.wpAny_passesOwn
def Gcq:=@PySem.Obj.isFreed_of_fields
def Gcr:=@List.any_eq_false
def Gcs:=@Nat.le_of_lt_succ
def Gct:=@Classical.byContradiction
def Gcu:=@PySem.Heap.size_push
def Gcv:=@PySem.wpAny_seqItems
def Gcw:=@Nat.ne_of_gt
def Gcx:=@List.getElem?_take_of_lt
def Gcy:=@Nat.lt_succ_self
def Gcz:=@Nat.succ_pos
def GcA:=@PySem.SetTable.toList_insertAt
def GcB:=@List.filterMap_cons
def GcC:=@PyProof.Rows.slot_tuple_getitem
def GcD:=@List.getElem?_replicate
def GcE:=@List.any_cons
def GcF:=@Nat.lt_of_le_of_lt
def GcG:=@List.foldl_cons
def GcH:=@List.find?_cons_of_pos
def GcI:=@List.find?_cons_of_neg
def GcJ:=@List.eq_nil_of_length_eq_zero
def GcK:=@List.ext_getElem?
def GcL:=@PySem.Obj.cls_mapFields
def GcM:=@List.length_singleton
def GcN:=@PySem.wpAny_setField
def GcO:=@PyProof.Rows.kmk_tree
def GcP:=@PySem.builtinLookup_eq_fast
def GcQ:=@Int.mul_nonneg
def GcR:=@List.length_take
def GcS:=@List.length_drop
def GcT:=@Int.not_lt
def GcU:=@beq_iff_eq
def GcV:=@List.ext_getElem
def GcW:=@Nat.mod_lt
def GcX:=@List.mem_flatMap
def GcY:=@List.getD_eq_getElem?_getD
def GcZ:=@PySem.wpAny_of_eq
def Gda:=@List.map_id
def Gdb:=@List.drop_eq_getElem_cons
def Gdc:=@PySem.wpAny_ite_split
def Gdd:=@List.pairwise_iff_getElem
def Gde:=@Nat.le_of_lt
def Gdf:=@List.mem_filterMap
def Gdg:=@PySem.wpAny_Call_Name_kw
def Gdh:=@PySem.F.args_tuple_add_2
def Gdi:=@List.map_nil
def Gdj:=@List.getElem?_drop
def Gdk:=@PySem.wpAny_pyIter_tuple
def Gdl:=@PyProof.Rows.F.entry_set_update_loop
def Gdm:=@PySem.F.entry_tuple_add
def Gdn:=@List.getElem?_cons_succ
def Gdo:=@PySem.F.plainAttrs_list
def Gdp:=@List.filter_cons_of_pos
def Gdq:=@List.filter_cons_of_neg
def Gdr:=@List.flatMap_eq_nil_iff
def Gds:=@Option.some.injEq
def Gdt:=@PySem.wpAny_pyIter_enum
def Gdu:=@PySem.F.slot_tuple_hash
def Gdv:=@List.nodup_append
def Gdw:=@PySem.F.slot_tuple_add
def Gdx:=@List.range_succ_eq_map
def Gdy:=@decide_true
def Gdz:=@PySem.plainId_quiet
def GdA:=@List.Perm.map
def GdB:=@Bool.true_and
def GdC:=@List.perm_middle
def GdD:=@List.take_succ_eq_append_getElem
def GdE:=@List.length_replicate
def GdF:=@List.contains_iff_mem
def GdG:=@Array.getElem?_setIfInBounds_ne
def GdH:=@PySem.wpAny_execs_nil
def GdI:=@Array.mem_toList_iff
def GdJ:=@PySem.wpAny_typeOf
def GdK:=@List.forIn_cons
def GdL:=@Bool.eq_iff_iff
def GdM:=@PySem.typeLookup_type
def GdN:=@PySem.wpAny_specialOf
def GdO:=@List.any_map
def GdP:=@List.getElem?_range
def GdQ:=@List.map_eq_nil_iff
def GdR:=@Bool.false_and
def GdS:=@or_false
def GdT:=@List.filter_append
def GdU:=@Int.add_sub_cancel
def GdV:=@Option.isSome_map
def GdW:=@Nat.lt_trichotomy
def GdX:=@List.pairwise_map
def GdY:=@Int.le_trans
def GdZ:=@Int.le_of_lt
namespace L2
open PySem PySem.Spec PyProof.Rows
abbrev Key:=Sum Int Str
noncomputable def tU:Key->Value->Bool
 | .inl k,v=>Value.isInt k v
 | .inr x,v=>Value.isStrOf x v
noncomputable def Q8(w:World):Key->Int
 | .inl k=>hashInt k
 | .inr x=>hashStr w x
theorem cA:∀{k:Key} {v:Value},tU k v=true->(∃i t,k=Sum.inl i/\v=Value.int i t)\/(∃x t,k=Sum.inr x/\v=Value.str x t)
 | .inl i,v,h=>by
  obtain⟨t,e⟩:=Value.isInt_shape (k:=i) (v:=v) h;exact .inl ⟨i,t,rfl,e⟩
 | .inr x,v,h=>by
  obtain⟨t,e⟩:=Value.isStrOf_shape (x:=x) (v:=v) h;exact .inr ⟨x,t,rfl,e⟩
theorem Eu(i:Int)(t:Tok):tU (.inl i) (.int i t)=true:=by simp[tU,Value.isInt]
theorem Ew(x:Str)(t:Tok):tU (.inr x) (.str x t)=true:=by simp[tU,Value.isStrOf]
theorem Lv(a b:Int):decide ((Sum.inl a:Key)=Sum.inl b)=(a==b):=by
 by_cases e:a=b
 .subst e;simp
 .have h:¬(Sum.inl a:Key)=Sum.inl b:=λq=>e (Sum.inl.inj q);rw[Gax h];exact(beq_eq_false_iff_ne.mpr e).symm
theorem Lw(a b:Str):decide ((Sum.inr a:Key)=Sum.inr b)=decide (a=b):=by
 by_cases e:a=b
 .subst e;simp
 .have h:¬(Sum.inr a:Key)=Sum.inr b:=λq=>e (Sum.inr.inj q);rw[Gax h,Gax e]
theorem Lx(a:Int)(b:Str):decide ((Sum.inl a:Key)=Sum.inr b)=false:=Gax (λq=>nomatch q)
theorem Ly(a:Str)(b:Int):decide ((Sum.inr a:Key)=Sum.inl b)=false:=Gax (λq=>nomatch q)
noncomputable def dh(prog:Program)(w:World):PySem.KeyKind prog w Key where
 is:=tU
 hash:=Q8 w
 inj:=λv a b ha hb=>by
  rcases cA ha with⟨i,t,rfl,rfl⟩| ⟨x,t,rfl,rfl⟩
  .rcases cA hb with⟨j,u,rfl,e⟩| ⟨y,u,rfl,e⟩
   .injection e with e1 _;rw[e1]
   .exact nomatch e
  .rcases cA hb with⟨j,u,rfl,e⟩| ⟨y,u,rfl,e⟩
   .exact nomatch e
   .injection e with e1 _;rw[e1]
 byValue:=λk v h=>by
  rcases cA h with⟨i,t,rfl,rfl⟩| ⟨x,t,rfl,rfl⟩<;>rfl
 pyHash:=λhv h=>by
  rcases cA hv with⟨i,t,rfl,rfl⟩| ⟨x,t,rfl,rfl⟩
  .exact wpAny_pyHash_int h
  .exact wpAny_pyHash_str h
 eqBool:=λhu hv h=>by
  rcases cA hu with⟨i,t,rfl,rfl⟩| ⟨x,t,rfl,rfl⟩
  .rcases cA hv with⟨j,u,rfl,rfl⟩| ⟨y,u,rfl,rfl⟩
   .rw[Lv] at h;exact wpAny_eqBool_int h
   .rw[Lx] at h;exact SeqAt.EqAt.int_str i t y u _ _ _ _ h
  .rcases cA hv with⟨j,u,rfl,rfl⟩| ⟨y,u,rfl,rfl⟩
   .rw[Ly] at h;exact SeqAt.EqAt.str_int x t j u _ _ _ _ h
   .rw[Lw] at h;exact wpAny_eqBool_str h
 «strs» :=λk x t v h=>by
  rcases cA h with⟨i,u,rfl,e⟩| ⟨y,u,rfl,e⟩
  .exact nomatch e
  .injection e with e1 _
   subst e1;cases v<;>rfl
theorem pJ(prog:Program)(w:World)(i:Int)(t:Tok):(dh prog w).is (.inl i) (.int i t)=true:=Eu i t
theorem pK(prog:Program)(w:World)(x:Str)(t:Tok):(dh prog w).is (.inr x) (.str x t)=true:=Ew x t
set_option genInjectivity true in
inductive V where
 |non|bl (b:Bool)|int (i:Int)|str (x:Str)|byt (b:Array UInt8)|flt (b:UInt64)|ref (a:Addr)|ty (n:String)
 deriving DecidableEq
def RelV:V->Value->Prop
 | .non,u=>u=Value.none
 | .bl b,u=>u=Value.bool b
 | .int i,u=>∃t,u=Value.int i t
 | .str x,u=>∃t,u=Value.str x t
 | .byt b,u=>∃t,u=Value.bytes b t
 | .flt b,u=>∃t,u=Value.float b t
 | .ref a,u=>u=Value.ref a
 | .ty n,u=>u=Value.type n
abbrev Vals:List V->List Value->Prop:=Paired RelV
theorem Vals.length{xs:List V}{us:List Value}(r:Vals xs us):xs.length=us.length:=Paired.length r
theorem Vals.get:∀{xs:List V} {us:List Value} {i:Nat} {x:V},Vals xs us->xs[i]? =some x->∃u,us[i]? =some u/\RelV x u
 |_,_,_,_,.nil,e=>by simp at e
 |_,_,0,_,.cons r _,e=>by simp at e;subst e;exact⟨_,rfl,r⟩
 |_,_,i+1,x,.cons _ t,e=>by
  obtain⟨u,h1,h2⟩:=Vals.get (i:=i) (x:=x) t (by simpa using e);exact⟨u,by simpa using h1,h2⟩
theorem Vals.set{x:V}{u:Value}(r:RelV x u):∀{xs:List V} {us:List Value} (i:Nat),Vals xs us->Vals (xs.set i x) (us.set i u)
 |_,_,_,.nil=> .nil
 |_,_,0,.cons _ t=> .cons r t
 |_,_,i+1,.cons q t=> .cons q (Vals.set r i t)
theorem Vals.append{xs ys:List V}{us ws:List Value}(p:Vals xs us)(s:Vals ys ws):Vals (xs++ys) (us++ws):=by
 induction p with
 |nil=>exact s
 |cons r t ih=>exact .cons r ih
theorem Vals.take:∀{xs:List V} {us:List Value} (n:Nat),Vals xs us->Vals (xs.take n) (us.take n)
 |_,_,0,_=> .nil
 |_,_,_+1,.nil=> .nil
 |_,_,n+1,.cons r t=> .cons r (Vals.take n t)
theorem Vals.drop:∀{xs:List V} {us:List Value} (n:Nat),Vals xs us->Vals (xs.drop n) (us.drop n)
 |_,_,0,r=>r
 |_,_,_+1,.nil=> .nil
 |_,_,n+1,.cons _ t=>Vals.drop n t
def oM:Option V->Option Value->Prop
 |some v,some u=>RelV v u
 |none,none=>True
 |_,_=>False
def KV{Y:Type}:List (Y×V)->List (Y×Value)->Prop:=Paired λ(p:Y×V) (q:Y×Value)=>p.1=q.1/\RelV p.2 q.2
noncomputable def kV:Key->V
 | .inl i=> .int i
 | .inr x=> .str x
inductive HO where
 |lst (xs:List V)
 |tup (xs:List V)
 |dK (eD:List (Key×V))|dT (eD:List (List Key×V))
 |set (S:Int->Bool) (n:Nat)
 |ins (C dx:Addr) (fs:List (Str×V))
 |own (x:Addr)
 |xd (fs:List (Str×V))
 |met (f x:Addr)
 |rng (lo hi:Int)
 |frz (o:Obj) (u:HO)
 |tbl (ps:Array Value)
 |ext (φ:Heap->Prop)
abbrev Hp:=Addr->Option HO
noncomputable def upd(H:Hp)(a:Addr)(o:HO):Hp:=λb=>if b=a then some o else H b
variable{o:HO}{a:Addr}{H:Hp}
theorem b9:upd H a o a=some o:=by unfold upd;rw[Gah rfl]
variable{b:Addr}
theorem aE(h:b≠a):upd H a o b=H b:=by unfold upd;rw[Gag h]
theorem ff(h:H a=some o)(h' :H b=none):a≠b:=by
 intro e;subst e;rw[h] at h';cases h'
section
variable(P:Program)(w:World)
def cS(H:Hp)(h:Heap)(a:Addr):HO->Prop
 | .lst xs=>xs.length<=sizeLine/\∃(its:List Value) (n:Nat),Vals xs its/\h.get? a=some {cls:= .type "list",data:= .seq its.toArray n}
 | .tup xs=>xs.length<=sizeLine/\∃its:List Value,Vals xs its/\IsTup h a its.toArray
 | .dK eD=>eD.length<=sizeLine/\(a==sysModules)=false/\∃vs,KV eD vs/\h.DictOf (dh P w) a vs
 | .dT eD=>eD.length<=sizeLine/\(a==sysModules)=false/\∃xs:List (List Key×Addr×Value),
   Paired (λ(p:List Key×V) (q:List Key×Addr×Value)=>p.1=q.1/\H q.2.1=some (.tup (p.1.map kV))/\RelV p.2 q.2.2) eD xs/\
   ∃o es ep,h.get? a=some o/\o.ExactDict/\o.data= .dict es ep/\es.toList=xs.map (entryOfKey (tupleKind (dh P w)))/\(xs.map (·.1)).Nodup
 | .set S n=>h.SetOf (intKind P w) a S n
 | .ins C dx fs=>H dx=some (.own a)/\fs.length<=1000/\dx≠a/\h.get? a=some (PySem.W.instObj C dx)/\
   ∃mA,h.Ns1 dx mA/\(∀f,oM (fs.lookup f) (mA f))/\PySem.Within mA (fs.map (·.1))
 | .own _=>∃o,h.get? a=some o
 | .xd fs=>∃mA,h.Ns1 a mA/\∀f,oM (fs.lookup f) (mA f)
 | .rng lo hi=>∃t u v,h.get? a=some {cls:= .type "range",data:= .fields #[.int lo t,.int hi u,.int 1 v]}
 | .frz o u=>h.get? a=some o/\cS H h a u
 | .tbl ps=>h.get? a=some {cls:= .none,data:= .fields ps}
 | .met f x=>h.get? a=some (PySem.W.methodObj (.ref f) (.ref x))
 | .ext φ=>φ h/\(∃o,h.get? a=some o)/\∀h1 h2:Heap,φ h1->(∀o,h1.get? a=some o->h2.get? a=some o)->φ h2
def HOk(H:Hp)(h:Heap):Prop:=∀a o,H a=some o->cS P w H h a o
end
section
variable{P:Program}{w:World}{H H' :Hp}{h h' :Heap}{a:Addr}{o:HO}
theorem cS.lt(x:cS P w H h a o):a<h.objs.size:=by
 cases o with
 |lst xs=>obtain⟨_,_,_,_,e⟩:=x;exact Gau e
 |tup xs=>obtain⟨_,_,_,p⟩:=x;exact p.lt
 |dK eD=>obtain⟨_,_,_,_,o,_,_,e,_⟩:=x;exact Gau e
 |dT eD=>obtain⟨_,_,_,_,o,_,_,e,_⟩:=x;exact Gau e
 |set S n=>obtain⟨o,_,_,_,e,_⟩:=x;exact Gau e
 |ins C dx fs=>obtain⟨_,_,_,e,_⟩:=x;exact Gau e
 |own y=>obtain⟨_,e⟩:=x;exact Gau e
 |xd fs=>obtain⟨_,⟨_,_,_,e,_⟩,_⟩:=x;exact Gau e
 |rng lo hi=>obtain⟨_,_,_,e⟩:=x;exact Gau e
 |frz ob u=>obtain⟨e,_⟩:=x;exact Gau e
 |tbl ps=>exact Gau (show h.get? a=some _ from x)
 |met f y=>exact Gau (show h.get? a=some _ from x)
 |ext φ=>obtain⟨_,⟨_,e⟩,_⟩:=x;exact Gau e
theorem Paired.J1{α β:Type}{F G:α->β->Prop}{l₁:List α}{l₂:List β}(p:Paired F l₁ l₂)(f:∀a b,F a b->G a b):Paired G l₁ l₂:=by
 induction p with
 |nil=>exact .nil
 |cons r t ih=>exact .cons (f _ _ r) ih
theorem cS.j6(x:cS P w H h a o)(k:∀b u,(b=a\/H b=some (.own a))->h.get? b=some u->h'.get? b=some u)
  (ho:∀b,H b=some (.own a)->H' b=some (.own a))(ht:∀b xs,H b=some (.tup xs)->H' b=some (.tup xs)):cS P w H' h' a o:=by
 induction o with
 |lst xs=>obtain⟨z,its,n,r,e⟩:=x;exact⟨z,its,n,r,k _ _ (.inl rfl) e⟩
 |tup xs=>obtain⟨z,its,r,ob,e,c⟩:=x;exact⟨z,its,r,ob,k _ _ (.inl rfl) e,c⟩
 |dK eD=>obtain⟨z,y,vs,r,ob,es,ep,e,c⟩:=x;exact⟨z,y,vs,r,ob,es,ep,k _ _ (.inl rfl) e,c⟩
 |dT eD=>
  obtain⟨z,y,xs,r,ob,es,ep,e,c⟩:=x;exact⟨z,y,xs,Paired.J1 r λp q z=> ⟨z.1,ht _ _ z.2.1,z.2.2⟩,ob,es,ep,k _ _ (.inl rfl) e,c⟩
 |set S n=>obtain⟨ob,es,ep,t,e,c⟩:=x;exact⟨ob,es,ep,t,k _ _ (.inl rfl) e,c⟩
 |ins C dx fs=>
  obtain⟨d,z,ne,e,mA,⟨od,es,ep,e2,c⟩,r⟩:=x;exact⟨ho _ d,z,ne,k _ _ (.inl rfl) e,mA,⟨od,es,ep,k _ _ (.inr d) e2,c⟩,r⟩
 |own y=>obtain⟨ob,e⟩:=x;exact⟨ob,k _ _ (.inl rfl) e⟩
 |xd fs=>obtain⟨mA,⟨od,es,ep,e,c⟩,r⟩:=x;exact⟨mA,⟨od,es,ep,k _ _ (.inl rfl) e,c⟩,r⟩
 |rng lo hi=>obtain⟨t,u,v,e⟩:=x;exact⟨t,u,v,k _ _ (.inl rfl) e⟩
 |frz ob u ih=>obtain⟨e,q⟩:=x;exact⟨k _ _ (.inl rfl) e,ih q⟩
 |tbl ps=>
  have e:h.get? a=some {cls:= .none,data:= .fields ps}:=x;show h'.get? a=some {cls:= .none,data:= .fields ps};exact k a _ (.inl rfl) e
 |met f y=>
  have e:h.get? a=some (PySem.W.methodObj (.ref f) (.ref y)):=x;show h'.get? a=some (PySem.W.methodObj (.ref f) (.ref y));exact k a _ (.inl rfl) e
 |ext φ=>obtain⟨p,⟨o,e⟩,st⟩:=x;exact⟨st _ _ p λo q=>k _ _ (.inl rfl) q,⟨o,k _ _ (.inl rfl) e⟩,st⟩
theorem HOk.lt(x:HOk P w H h)(e:H a=some o):a<h.objs.size:=(x a o e).lt
theorem HOk.fresh(x:HOk P w H h)(e:h.objs.size<=a):H a=none:=by
 cases q:H a with
 |none=>rfl
 |some u=>exact absurd (GaG (x.lt q) e) (Gbv _)
theorem HOk.kept(x:HOk P w H h)(k:∀b u,h.get? b=some u->h'.get? b=some u):HOk P w H h' :=λa o e=>
 (x a o e).j6 (λb u _ q=>k b u q) (λ_ q=>q) λ_ _ q=>q
theorem HOk.laid(x:HOk P w H h)(k:∀b u,h.get? b=some u->h'.get? b=some u)(hp:h.objs.size<=a)(new:cS P w (upd H a o) h' a o):HOk P w (upd H a o) h' :=λb u e=>by
 have hn:=x.fresh hp;by_cases hb:b=a
 .subst hb;rw[b9] at e;cases e;exact new
 .rw[aE hb] at e;exact(x b u e).j6 (λc v _ q=>k c v q) (λc q=>by rw[aE (ff q hn)];exact q) λc xs q=>by rw[aE (ff q hn)];exact q
end
def Rd(H:Hp)(a:Addr)(u:HO):Prop:=H a=some u\/∃o,H a=some (.frz o u)
variable{h:Heap}
theorem Rd.ok{P:Program}{w:World}{u:HO}(r:Rd H a u)(x:HOk P w H h):cS P w H h a u:=by
 rcases r with r| ⟨o,r⟩
 .exact x a u r
 .obtain⟨_,q⟩:=x a _ r;exact q
def Mut:Option HO->Prop
 |some (.lst _)=>True
 |some (.dK _)=>True
 |some (.dT _)=>True
 |some (.set _ _)=>True
 |some (.ins _ _ _)=>True
 |some (.ext _)=>True
 |_=>False
section
variable{P:Program}{w:World}{H:Hp}{h h' :Heap}{x e:Addr}{o' :HO}
theorem HOk.write(ok:HOk P w H h)(mu:Mut (H x))(he:e=x\/H e=some (.own x))(k:∀b u,b≠e->h.get? b=some u->h'.get? b=some u)(zB:∃u,h'.get? e=some u)
  (new:cS P w (upd H x o') h' x o'):HOk P w (upd H x o') h' :=λb u q=>by
 have nown:∀c y,H c=some (.own y)->c≠x:=λc y r z=>by subst z;rw[r] at mu;exact mu
 have ntup:∀c xs,H c=some (.tup xs)->c≠x:=λc xs r z=>by subst z;rw[r] at mu;exact mu
 by_cases hb:b=x
 .subst hb;rw[b9] at q;cases q;exact new
 .rw[aE hb] at q;by_cases hbe:b=e
  .have q' :H b=some (.own x):=by
    rcases he with z|z
    .exact absurd (hbe.trans z) hb
    .rw[hbe];exact z
   rw[q] at q';cases q'
   obtain⟨v,hv⟩:=zB;exact⟨v,by rw[hbe];exact hv⟩
  .refine(ok b u q).j6 (λc v hc r=>k c v ?_ r) (λc r=>by rw[aE (nown c b r)];exact r) λc xs r=>by rw[aE (ntup c xs r)];exact r
   rcases hc with rfl|hc
   .exact hbe
   .rintro rfl;rcases he with z|z
    .exact nown c b hc z
    .rw[hc] at z;cases z;exact hb rfl
end
structure Un(fs ex:List Addr)(H H' :Hp)(h h' :Heap):Prop where
 keep:∀b o,h.get? b=some o->H b=none->b∉fs->b∉ex->h'.get? b=some o
 slot:∀b o,h.get? b=some o->H b=none->b∈fs->b∉ex->∃sl,h'.get? b=some {o with slots:=sl}
 free:∀b o,h.get? b=some o->H b=none->b∉ex->H' b=none
 there:∀b o,h.get? b=some o->b∉ex->∃o',h'.get? b=some o'
 Bv:∀b xs,H b=some (.tup xs)->H' b=some (.tup xs)
 wI:∀b o u,H b=some (.frz o u)->H' b=some (.frz o u)
 Bw:∀b ps,H b=some (.tbl ps)->∃more,H' b=some (.tbl (ps++more))
section
variable{fs UD ex UW :List Addr}{H H1 H2:Hp}{h h1 h2 h' :Heap}{a x e:Addr}{o:HO}
theorem Un.any(u:Un fs ex H H1 h h1){b:Addr}{ob:Obj}(q:h.get? b=some ob)(n:H b=none)(hx:b∉ex):∃sl,h1.get? b=some {ob with slots:=sl}:=by
 by_cases hb:b∈fs
 .exact u.slot b ob q n hb hx
 .exact⟨ob.slots,u.keep b ob q n hb hx⟩
theorem Un.kept(k:∀b u,h.get? b=some u->h'.get? b=some u):Un fs ex H H h h' :=
 ⟨λb ob q _ _ _=>k b ob q,λb ob q _ _ _=> ⟨ob.slots,k b ob q⟩,λ_ _ _ n _=>n,λb ob q _=> ⟨ob,k b ob q⟩,λ_ _ q=>q,λ_ _ _ q=>q,λ_ ps q=> ⟨#[],by rw[q];simp⟩⟩
theorem Un.refl:Un fs ex H H h h:=Un.kept λ_ _ q=>q
theorem Un.laid(k:∀b u,h.get? b=some u->h'.get? b=some u)(hp:h.objs.size<=a)(hn:H a=none):Un fs ex H (upd H a o) h h' where
 keep:=λb u q _ _ _=>k b u q
 slot:=λb u q _ _ _=> ⟨u.slots,k b u q⟩
 free:=λb u q n _=>by rw[aE (GaH (GaG (Gau q) hp))];exact n
 there:=λb u q _=> ⟨u,k b u q⟩
 Bv:=λb xs q=>by rw[aE (ff q hn)];exact q
 wI:=λb u xs q=>by rw[aE (ff q hn)];exact q
 Bw:=λb ps q=> ⟨#[],by rw[aE (ff q hn),q];simp⟩
theorem Un.write(mu:Mut (H x))(he:e=x\/H e=some (.own x))(k:∀b u,b≠e->h.get? b=some u->h'.get? b=some u)(zB:∃u,h'.get? e=some u):Un fs ex H (upd H x o) h h' :=by
 have hx:∀b,H b=none->b≠x:=λb n z=>by subst z;rw[n] at mu;exact mu
 have hb:∀b,H b=none->b≠e:=λb n z=>by
  subst z;rcases he with r|r
  .exact hx b n r
  .rw[n] at r;cases r
 have hm:∀b u,H b=some u->¬Mut (some u)->b≠x:=λb u q nm z=>by subst z;rw[q] at mu;exact nm mu
 refine⟨λb u q n _ _=>k b u (hb b n) q,λb u q n _ _=> ⟨u.slots,k b u (hb b n) q⟩,λb u q n _=>by rw[aE (hx b n)];exact n,λb u q _=> ?_,
  λb xs q=>by rw[aE (hm b _ q λz=>z)];exact q,λb u xs q=>by rw[aE (hm b _ q λz=>z)];exact q,λb ps q=> ⟨#[],by rw[aE (hm b _ q λz=>z),q];simp⟩⟩
 by_cases hbe:b=e
 .subst hbe;exact zB
 .exact⟨u,k b u hbe q⟩
end
noncomputable def trk(h:Heap)(H:Hp):List Addr:=(List.range h.objs.size).filter λa=>(H a).isSome
noncomputable def ve(h:Heap)(H:Hp):Heap:=PySem.W.hideAll h (trk h H)
theorem Ex(h:Heap)(H:Hp):(ve h H).objs.size=h.objs.size:=PySem.W.hideAll_size _ _
theorem Gb{o:Obj}(e:h.get? b=some o)(n:H b=none):(ve h H).get? b=some o:=
 PySem.W.hideAll_get _ e λhm=>by
  have q:(H b).isSome=true:=(GaO.mp hm).2;rw[n] at q;simp at q
theorem J2{o:Obj}(e:(ve h H).get? b=some o):h.get? b=some o/\H b=none:=by
 have e' :h.get? b=some o:=PySem.W.of_hideAll (trk h H) e;refine⟨e', ?_⟩;cases q:H b with
 |none=>rfl
 |some x=>
  have hm:b∈trk h H:=GaO.mpr ⟨GaX.mpr (Gau e'),by simp[q]⟩;have z:(ve h H).get? b=none:=PySem.W.hideAll_none (trk h H) hm;rw[z] at e;cases e
structure Mod(K:PySem.W.Frag)(mg:Str->Option Value)(base:Heap):Prop where
 kin:K.In base
 glob:base.Ns mainGlobals mg
 blt:∃mb,base.Ns builtinsNs mb/\∀x:Str,x≠"__name__"->mb x=bootBuiltins x
 nolimit:base.NoLimit
structure Cx where
 prog:Program
 w:World
 K:PySem.W.Frag
 mg:Str->Option Value
 base:Heap
 A:Around
 N:List Str
 s₀:Shared
 H0:Hp
 env:Env
 outer:List Env
 stack:List Env
 ex:List Addr
 fn:Str->Bool
 calm:Bool
 pn:List (Addr×Obj)
 xe:Value->Shared->Prop
noncomputable def frs(l:List Env):List Addr:=l.filterMap (·.frame)
noncomputable abbrev Cx.fs (X:Cx):List Addr:=frs X.outer
def Vis(sc:Scope)(x:Str):Prop:=sc.names.lookup x=some .local\/sc.names.lookup x=some .cell\/sc.names.lookup x=some .free
def Loc(sc:Scope)(x:Str):Prop:=sc.names.lookup x=some .local\/sc.names.lookup x=some .cell
def Look(env:Env)(h:Heap)(m:Str->Option Value)(x:Str)(u:Value):Prop:=
 (env.kindOf x=some .local/\m x=some u)\/((env.kindOf x=some .cell\/env.kindOf x=some .free)/\∃c,env.cells.lookup x=some c/\h.IsCell c (some u))
structure Cx.Ok(X:Cx):Prop where
 mod:Mod X.K X.mg X.base
 kind:X.env.scope.kind= .function
 glob:X.env.globals=mainGlobals
 blt:X.env.builtins=builtinsNs
 above:X.s₀.heap.objs.size<=X.env.locals
 inj:∀x y c,X.env.cells.lookup x=some c->X.env.cells.lookup y=some c->x=y
 has:∀x,(X.env.kindOf x=some .cell\/X.env.kindOf x=some .free)->∃c,X.env.cells.lookup x=some c
 cab:∀x c,X.fn x=true->X.env.cells.lookup x=some c->X.s₀.heap.objs.size<=c
 hd:X.calm=true->X.A.handled=none
 frames:X.A.frames=some X.stack
 stk:X.stack=X.outer\/(X.stack=X.env::X.outer/\X.env.frame=some X.env.locals)
 exf:∀b∈X.ex,b≠X.env.locals/\∀x c,X.env.cells.lookup x=some c->c≠b
 bs:∀b o,X.base.get? b=some o->X.s₀.heap.get? b=some o/\X.H0 b=none
 bsz:X.base.objs.size<=X.s₀.heap.objs.size
 IY:∀b o,X.base.get? b=some o->b∉X.ex
 IZ:∀b∈X.ex,b∉X.fs
 qE:X.s₀.heap.FunFrames X.base X.outer
 frf:∀b∈X.fs,X.H0 b=none
structure Inv(X:Cx)(e8:List (Addr×Obj))(Z:List (Option V))(H:Hp)(s:Shared):Prop where
 ok:X.Ok
 os:s.os=X.s₀.os
 bare:AllBare s.gens
 base:Un X.fs X.ex X.H0 H X.s₀.heap s.heap
 loc:∃m,s.heap.Ns X.env.locals m/\∀(i:Nat) (x:Str) (v:V),X.N[i]? =some x->Z[i]? =some (some v)->Vis X.env.scope x->∃u,RelV v u/\Look X.env s.heap m x u
 cell:∀x c,X.env.cells.lookup x=some c->∃v,s.heap.IsCell c v
 free:H X.env.locals=none
 lO:∀x c,X.env.cells.lookup x=some c->H c=none
 pin:∀p∈X.pn++e8,s.heap.get? p.1=some p.2/\H p.1=none/\p.1≠X.env.locals/\p.1∉X.fs/\∀v,p.2.data≠ .cell v
 hok:HOk X.prog X.w H s.heap
 len:Z.length=X.N.length
section
variable{X:Cx}{e8:List (Addr×Obj)}{Z:List (Option V)}{H H' :Hp}{s:Shared}{h' :Heap}
theorem Cx.Ok.Q9(ok:X.Ok){b:Addr}{o:Obj}(e:X.base.get? b=some o):b∉X.fs:=λhb=>by
 have:=(ok.qE.mem hb).1;rw[e] at this;cases this
theorem Inv.bs(I:Inv X e8 Z H s):∀b o,X.base.get? b=some o->s.heap.get? b=some o/\H b=none:=λb o e=>
 ⟨I.base.keep b o (I.ok.bs b o e).1 (I.ok.bs b o e).2 (I.ok.Q9 e) (I.ok.IY b o e),I.base.free b o (I.ok.bs b o e).1 (I.ok.bs b o e).2 (I.ok.IY b o e)⟩
theorem Inv.bk(I:Inv X e8 Z H s):∀b o,X.base.get? b=some o->s.heap.get? b=some o:=λb o e=>(I.bs b o e).1
theorem Inv.mod(I:Inv X e8 Z H s):Mod X.K X.mg X.base:=I.ok.mod
theorem Inv.kIn(I:Inv X e8 Z H s):X.K.In s.heap:=I.ok.mod.kin.keeps I.bk
theorem Inv.lt(I:Inv X e8 Z H s):X.env.locals<s.heap.objs.size:=let⟨_,hn,_⟩:=I.loc;hn.lt
theorem Inv.sz(I:Inv X e8 Z H s):X.s₀.heap.objs.size<=s.heap.objs.size:=Gbf I.ok.above (Gde I.lt)
theorem Inv.Qa(I:Inv X e8 Z H s){a:Addr}(h:s.heap.objs.size<=a):a∉X.fs:=λhb=>by
 obtain⟨_,o,ho,_⟩:=I.ok.qE.mem hb;exact absurd (GaG (Gau ho) (Gbf I.sz h)) (Gbv _)
theorem Inv.cne(I:Inv X e8 Z H s):∀x c,X.env.cells.lookup x=some c->c≠X.env.locals:=λx c e z=>by
 obtain⟨v,o,ho,hd⟩:=I.cell x c e;obtain⟨m,⟨o',es,ep,xo,xx,_⟩,_⟩:=I.loc;rw[z,xo] at ho;cases ho;rw[xx] at hd;cases hd
theorem Inv.qE(I:Inv X e8 Z H s):s.heap.FunFrames X.base X.outer:=by
 have all:∀(l:List Env),(∀b∈frs l,b∈X.fs)->X.s₀.heap.FunFrames X.base l->s.heap.FunFrames X.base l:=by
  intro l;induction l with
  |nil=>intro _ _;trivial
  |cons env r ih=>
   intro hs hl;obtain⟨hk,⟨L,o,hf,hn,ho,hd⟩,hr⟩:=hl;have hL:L∈X.fs:=hs L (by unfold frs;rw[GcB,hf];exact Gaf);obtain⟨sl,e⟩:=I.base.slot L o ho (I.ok.frf L hL) hL λz=>I.ok.IZ L z hL;exact⟨hk,⟨L,_,hf,hn,e,hd⟩,ih (λb hb=>hs b (by unfold frs;rw[GcB,hf];exact Gac _ hb)) hr⟩
 exact all X.outer (λ_ hb=>hb) I.ok.qE
theorem Inv.stack(I:Inv X e8 Z H s):s.heap.FunFrames X.base X.stack:=by
 rcases I.ok.stk with e| ⟨e,hf⟩
 .rw[e];exact I.qE
 .rw[e];obtain⟨m,hn,_⟩:=I.loc;refine .cons (by rw[I.ok.kind];decide) hf hn ?_ I.qE;exact Heap.get?_none_of_le (Gbf I.ok.bsz I.ok.above)
theorem Inv.BA(I:Inv X e8 Z H s):∀b∈frs X.stack,b∈X.env.locals::X.fs:=λb hb=>by
 rcases I.ok.stk with e| ⟨e,hf⟩
 .rw[e] at hb;exact Gac _ hb
 .rw[e] at hb;unfold frs at hb;rw[GcB,hf] at hb;exact hb
theorem Inv.CU(I:Inv X e8 Z H s):∀b∈frs X.stack,H b=none:=λb hb=>by
 rcases Gar.mp (I.BA b hb) with e|hb
 .rw[e];exact I.free
 .obtain⟨_,o,ho,_⟩:=I.ok.qE.mem hb;exact I.base.free b o ho (I.ok.frf b hb) λz=>I.ok.IZ b z hb
variable{ch:List Addr}{t' :Nat}
theorem Inv.step{g' :Array GenState}{d' :Drawn}(I:Inv X e8 Z H s)
  (xQ:∀b∈ch,(b∈X.ex\/X.s₀.heap.objs.size<=b)/\b≠X.env.locals/\(∀x c,X.env.cells.lookup x=some c->c≠b)/\∀p∈X.pn++e8,p.1≠b)
  (keep:∀b o,b≠X.env.locals->b∉X.fs->b∉ch->s.heap.get? b=some o->H b=none->h'.get? b=some o)
  (slot:∀b o,b≠X.env.locals->b∈X.fs->b∉ch->s.heap.get? b=some o->H b=none->∃sl,h'.get? b=some {o with slots:=sl})(free:∀b o,b∉ch->s.heap.get? b=some o->H b=none->H' b=none)
  (there:∀b o,b∉ch->s.heap.get? b=some o->∃o',h'.get? b=some o')
  (Bv:∀b xs,H b=some (.tup xs)->H' b=some (.tup xs))(wI:∀b o u,H b=some (.frz o u)->H' b=some (.frz o u))(Bw:∀b ps,H b=some (.tbl ps)->∃more,H' b=some (.tbl (ps++more)))
  (ns:∀m,s.heap.Ns X.env.locals m->h'.Ns X.env.locals m)(hok:HOk X.prog X.w H' h')(hg:AllBare g'):
  Inv X e8 Z H' {s with heap:=h',gens:=g',drawn:=d',toks:=t' }:=by
 have neL:∀b o,X.s₀.heap.get? b=some o->b≠X.env.locals:=λb o e=>GaH (GaG (Gau e) I.ok.above);have neC:∀b o,X.s₀.heap.get? b=some o->b∉X.ex->b∉ch:=λb o e hx hb=>by
  rcases(xQ b hb).1 with z|z
  .exact hx z
  .exact absurd (GaG (Gau e) z) (Gbv _)
 have cellK:∀x c,X.env.cells.lookup x=some c->∀v,s.heap.IsCell c v->h'.IsCell c v:=λx c e v ⟨o,ho,hd⟩=>by
  have nch:c∉ch:=λz=>(xQ c z).2.2.1 x c e rfl;by_cases hc:c∈X.fs
  .obtain⟨sl,q⟩:=slot c o (I.cne x c e) hc nch ho (I.lO x c e);exact⟨_,q,hd⟩
  .exact⟨o,keep c o (I.cne x c e) hc nch ho (I.lO x c e),hd⟩
 refine⟨I.ok,I.os,hg,⟨λb o e n hb hx=> ?_,λb o e n hb hx=> ?_,λb o e n hx=> ?_,λb o e hx=> ?_,λb xs e=>Bv b xs (I.base.Bv b xs e),λb o xs e=>wI b o xs (I.base.wI b o xs e),λb ps e=> ?_⟩, ?_,λx c e=> ?_, ?_,λx c e=> ?_,λp hp=> ?_,hok,I.len⟩
 .exact keep b o (neL b o e) hb (neC b o e hx) (I.base.keep b o e n hb hx) (I.base.free b o e n hx)
 .obtain⟨sl,e1⟩:=I.base.slot b o e n hb hx;obtain⟨Tq,e2⟩:=slot b _ (neL b o e) hb (neC b o e hx) e1 (I.base.free b o e n hx);exact⟨Tq,e2⟩
 .obtain⟨o',e1⟩:=I.base.there b o e hx;exact free b o' (neC b o e hx) e1 (I.base.free b o e n hx)
 .obtain⟨o',e1⟩:=I.base.there b o e hx;exact there b o' (neC b o e hx) e1
 .obtain⟨m1,e1⟩:=I.base.Bw b ps e;obtain⟨m2,e2⟩:=Bw b _ e1;exact⟨m1++m2,by rw[e2,Array.append_assoc]⟩
 .obtain⟨m,hn,hl⟩:=I.loc;refine⟨m,ns m hn,λi x v e1 e2 e3=> ?_⟩;obtain⟨u,r,l⟩:=hl i x v e1 e2 e3;refine⟨u,r, ?_⟩;rcases l with l| ⟨k,c,e,z⟩
  .exact .inl l
  .exact .inr ⟨k,c,e,cellK x c e _ z⟩
 .obtain⟨v,z⟩:=I.cell x c e;exact⟨v,cellK x c e v z⟩
 .obtain⟨m,⟨o,_,_,ho,_⟩,_⟩:=I.loc;exact free _ o (λz=>(xQ _ z).2.1 rfl) ho I.free
 .obtain⟨v,o,ho,hd⟩:=I.cell x c e;exact free c o (λz=>(xQ c z).2.2.1 x c e rfl) ho (I.lO x c e)
 .obtain⟨e,n,ne,nf,d⟩:=I.pin p hp;have nch:p.1∉ch:=λz=>(xQ p.1 z).2.2.2 p hp rfl;exact⟨keep p.1 p.2 ne nf nch e n,free p.1 p.2 nch e n,ne,nf,d⟩
theorem Inv.un(I:Inv X e8 Z H s)(u:Un X.fs [] H H' s.heap h')(hok:HOk X.prog X.w H' h'):Inv X e8 Z H' {s with heap:=h',toks:=t' }:=by
 obtain⟨m,⟨o,es,ep,ho,r⟩,_⟩:=id I.loc;obtain⟨sl,hL⟩:=u.any ho I.free (by simp);exact I.step (g' :=s.gens) (d' :=s.drawn) (ch:=[]) (λ_ z=>nomatch z) (λb o _ hb _ e n=>u.keep b o e n hb (by simp)) (λb o _ hb _ e n=>u.slot b o e n hb (by simp)) (λb o _ e n=>u.free b o e n (by simp)) (λb o _ e=>u.there b o e (by simp)) u.Bv u.wI u.Bw (λm' hm=>by
  obtain⟨o',Sh,Si,xo,r'⟩:=hm;rw[ho] at xo;cases xo
  exact⟨_,Sh,Si,hL,r'⟩) hok I.bare
theorem Inv.call{g' :Array GenState}{d' :Drawn}(I:Inv X e8 Z H s)(u:Un (frs X.stack) ch H H' s.heap h')(hok:HOk X.prog X.w H' h')(hg:AllBare g')
  (xQ:∀b∈ch,(b∈X.ex\/X.s₀.heap.objs.size<=b)/\b≠X.env.locals/\(∀x c,X.env.cells.lookup x=some c->c≠b)/\∀p∈X.pn++e8,p.1≠b):
  Inv X e8 Z H' {s with heap:=h',gens:=g',drawn:=d',toks:=t' }:=by
 obtain⟨m,⟨o,es,ep,ho,r⟩,_⟩:=id I.loc;obtain⟨sl,hL⟩:=u.any ho I.free λz=>(xQ _ z).2.1 rfl;exact I.step (ch:=ch) xQ (λb o hL hb hc e n=>u.keep b o e n (λz=>(Gar.mp (I.BA b z)).elim hL hb) hc) (λb o _ _ hc e n=>u.any e n hc) (λb o hc e n=>u.free b o e n hc) (λb o hc e=>u.there b o e hc) u.Bv u.wI u.Bw (λm' hm=>by
  obtain⟨o',Sh,Si,xo,r'⟩:=hm;rw[ho] at xo;cases xo
  exact⟨_,Sh,Si,hL,r'⟩) hok hg
theorem Inv.turned{it:Addr}(I:Inv X e8 Z H s)(k:∀b o,b≠it->s.heap.get? b=some o->h'.get? b=some o)(hn:H it=none)(hL:it≠X.env.locals)
  (h1:it∈X.ex\/X.s₀.heap.objs.size<=it)(h2:∀x c,X.env.cells.lookup x=some c->c≠it)(h3:∀p∈X.pn++e8,p.1≠it):Inv X e8 Z H {s with heap:=h',toks:=t' }:=by
 have nit:∀b u,H b=some u->b≠it:=λb u e z=>by rw[z,hn] at e;cases e
 refine I.step (g' :=s.gens) (d' :=s.drawn) (ch:=[it]) (λb hb=> ?_) (λb o _ _ hc e _=>k b o (λz=>hc (by simp[z])) e) (λb o _ _ hc e _=> ⟨o.slots,k b o (λz=>hc (by simp[z])) e⟩) (λ_ _ _ _ n=>n)
  (λb o hc e=> ⟨o,k b o (λz=>hc (by simp[z])) e⟩) (λ_ _ e=>e) (λ_ _ _ e=>e) (λb ps e=> ⟨#[],by rw[e];simp⟩) (λm hm=> ?_) (λb u e=> ?_) I.bare
 .have e:b=it:=by simpa using hb
  subst e;exact⟨h1,hL,h2,h3⟩
 .obtain⟨o,es,ep,ho,r⟩:=hm;exact⟨o,es,ep,k _ o (Ne.symm hL) ho,r⟩
 .refine(I.hok b u e).j6 (λc v hc q=>k c v ?_ q) (λ_ q=>q) λ_ _ q=>q;rcases hc with z|z
  .rw[z];exact nit b u e
  .exact nit c _ z
theorem Inv.tok(I:Inv X e8 Z H s)(t:Nat):Inv X e8 Z H {s with toks:=t}:=I.un (h' :=s.heap) (t' :=t) Un.refl I.hok
theorem Inv.kept{t' :Nat}(I:Inv X e8 Z H s)(k:∀b u,s.heap.get? b=some u->h'.get? b=some u):Inv X e8 Z H {s with heap:=h',toks:=t' }:=I.un (Un.kept k) (I.hok.kept k)
theorem Inv.laid{a:Addr}{o:HO}{t' :Nat}(I:Inv X e8 Z H s)(k:∀b u,s.heap.get? b=some u->h'.get? b=some u)(hp:s.heap.objs.size<=a)(new:cS X.prog X.w (upd H a o) h' a o):
  Inv X e8 Z (upd H a o) {s with heap:=h',toks:=t' }:=I.un (Un.laid k hp (I.hok.fresh hp)) (I.hok.laid k hp new)
theorem Inv.write{x e:Addr}{o:HO}{t' :Nat}(I:Inv X e8 Z H s)(mu:Mut (H x))(he:e=x\/H e=some (.own x))(k:∀b u,b≠e->s.heap.get? b=some u->h'.get? b=some u)(zB:∃u,h'.get? e=some u)
  (new:cS X.prog X.w (upd H x o) h' x o):Inv X e8 Z (upd H x o) {s with heap:=h',toks:=t' }:=I.un (Un.write mu he k zB) (I.hok.write mu he k zB new)
theorem Inv.CV{yo :List (Addr×Obj)}(I:Inv X e8 Z H s)(h:∀p∈yo,s.heap.get? p.1=some p.2/\H p.1=none/\p.1≠X.env.locals/\p.1∉X.fs/\∀v,p.2.data≠ .cell v):Inv X yo Z H s:=
 ⟨I.ok,I.os,I.bare,I.base,I.loc,I.cell,I.free,I.lO,λp hp=>(GaF.mp hp).elim (λz=>I.pin p (Gbr _ z)) (h p),I.hok,I.len⟩
variable{x:Str}{i:Nat}
theorem wK{N:List Str}(hN:N.Nodup){j:Nat}(a:N[i]? =some x)(b:N[j]? =some x):i=j:=by
 obtain⟨h1,e1⟩:=Gam.mp a;obtain⟨h2,e2⟩:=Gam.mp b;exact(List.getElem_inj hN).mp (e1.trans e2.symm)
variable{u:Value}{v:V}{A:Around}
theorem tV{M:Model}{E:Value->Shared->Prop}{Q:Unit->Shared->Prop}(I:Inv X e8 Z H s)(hN:X.N.Nodup)(hi:X.N[i]? =some x)(hx:Loc X.env.scope x)(r:RelV v u)
  (h:∀s',Inv X e8 (Z.set i (some v)) H s' ->(∃a,Heap.SameBut a s.heap s'.heap/\(a=X.env.locals\/X.env.cells.lookup x=some a))->Q () s')(hf:autoParam (X.fn x=true\/X.env.scope.names.lookup x=some .local) Za3._auto_1):wpAny M A (storeName X.env x u) Q E s:=by
 obtain⟨m,hn,hl⟩:=id I.loc;have hcls:(X.env.scope.kind== .class||(X.env.scope.kind== .module&&X.env.locals !=X.env.globals))=false:=by rw[I.ok.kind];rfl
 have hiZ:i<Z.length:=by rw[I.len];exact(Gam.mp hi).1
 have cne:=I.cne;have tracked:∀{a:Addr} {h' :Heap},(∃o,s.heap.get? a=some o/\H a=none)->Heap.SameBut a s.heap h' ->HOk X.prog X.w H h' :=λ{a h'} ha hs b ob e=>by
  obtain⟨_,_,yq⟩:=ha;refine(I.hok b ob e).j6 (λc w' hc q=>(hs.2 c ?_).trans q) (λ_ q=>q) λ_ _ q=>q;rintro rfl;rcases hc with rfl|hc
  .rw[yq] at e;cases e
  .rw[yq] at hc;cases hc
 rcases hx with hk|hk
 .refine wpAny_storeName_local hk hn (λh' yC hs=> ?_) hcls;obtain⟨oL,_,_,yN,_⟩:=id hn;refine h _ ⟨I.ok,I.os,I.bare,⟨λb o e n hb hx=> ?_,λb o e n hb hx=> ?_,I.base.free,λb o e hx=> ?_,I.base.Bv,I.base.wI,I.base.Bw⟩,⟨_,yC,λj y v' e1 e2 e3=> ?_⟩,λy c e=> ?_,I.free,I.lO,λp hp=> ?_,tracked ⟨oL,yN,I.free⟩ hs,by simpa using I.len⟩ ⟨_,hs,.inl rfl⟩
  .exact(hs.2 b (GaH (GaG (Gau e) I.ok.above))).trans (I.base.keep b o e n hb hx)
  .obtain⟨sl,e1⟩:=I.base.slot b o e n hb hx;exact⟨sl,(hs.2 b (GaH (GaG (Gau e) I.ok.above))).trans e1⟩
  .obtain⟨o',e1⟩:=I.base.there b o e hx;exact⟨o',(hs.2 b (GaH (GaG (Gau e) I.ok.above))).trans e1⟩
  .by_cases hj:j=i
   .subst hj;rw[hi] at e1;cases e1
    rw[GaZ hiZ] at e2;cases e2;exact⟨u,r,.inl ⟨hk,by simp⟩⟩
   .rw[Gak (Ne.symm hj)] at e2;obtain⟨u',r',q⟩:=hl j y v' e1 e2 e3;refine⟨u',r', ?_⟩;rcases q with⟨k,e⟩| ⟨k,c,e,z⟩
    .refine .inl ⟨k, ?_⟩;have:y≠x:=λe=>hj (wK hN e1 (e▸hi));simp[this,e]
    .exact .inr ⟨k,c,e,z.sameBut hs (cne y c e)⟩
  .obtain⟨w',z⟩:=I.cell y c e;exact⟨w',z.sameBut hs (cne y c e)⟩
  .obtain⟨e,n,ne,nf,d⟩:=I.pin p hp;exact⟨(hs.2 p.1 ne).trans e,n,ne,nf,d⟩
 .have hfn:X.fn x=true:=by
   rcases hf with z|z
   .exact z
   .rw[z] at hk;cases hk
  obtain⟨c,hc⟩:=I.ok.has x (.inl hk);obtain⟨w',z⟩:=I.cell x c hc;refine wpAny_storeName_cell I.ok.kind hk hc z (λh' yD hs=> ?_);obtain⟨oc,SU,RY⟩:=id z;refine h {s with heap:=h' } ⟨I.ok,I.os,I.bare,⟨λb o e n hb hx=> ?_,λb o e n hb hx=> ?_,I.base.free,λb o e hx=> ?_,I.base.Bv,I.base.wI,I.base.Bw⟩,⟨m,hn.sameBut hs (Ne.symm (cne x c hc)),λj y v' e1 e2 e3=> ?_⟩,λy c' e=> ?_,I.free,I.lO,λp hp=> ?_,tracked ⟨oc,SU,I.lO x c hc⟩ hs,by simpa using I.len⟩ ⟨c,hs,.inr hc⟩
  .exact(hs.2 b (GaH (GaG (Gau e) (I.ok.cab x c hfn hc)))).trans (I.base.keep b o e n hb hx)
  .obtain⟨sl,e1⟩:=I.base.slot b o e n hb hx;exact⟨sl,(hs.2 b (GaH (GaG (Gau e) (I.ok.cab x c hfn hc)))).trans e1⟩
  .obtain⟨o',e1⟩:=I.base.there b o e hx;exact⟨o',(hs.2 b (GaH (GaG (Gau e) (I.ok.cab x c hfn hc)))).trans e1⟩
  .by_cases hj:j=i
   .subst hj;rw[hi] at e1;cases e1
    rw[GaZ hiZ] at e2;cases e2;exact⟨u,r,.inr ⟨.inl hk,c,hc,yD⟩⟩
   .rw[Gak (Ne.symm hj)] at e2;obtain⟨u',r',q⟩:=hl j y v' e1 e2 e3;refine⟨u',r', ?_⟩;rcases q with q| ⟨k,c',e,z'⟩
    .exact .inl q
    .refine .inr ⟨k,c',e,z'.sameBut hs ?_⟩;rintro rfl;exact hj (wK hN e1 (I.ok.inj _ _ _ e hc▸hi))
  .by_cases hcc:c' =c
   .subst hcc;exact⟨_,yD⟩
   .obtain⟨w2,z2⟩:=I.cell y c' e;exact⟨w2,z2.sameBut hs hcc⟩
  .obtain⟨e,n,ne,nf,d⟩:=I.pin p hp;refine⟨(hs.2 p.1 ?_).trans e,n,ne,nf,d⟩;intro q;rw[q,SU] at e;have q' :oc=p.2:=Option.some.inj e;exact d w' (by rw[<-q'];exact RY)
theorem wL{M:Model}{E:Value->Shared->Prop}{Q:Unit->Shared->Prop}(I:Inv X e8 Z H s)(hN:X.N.Nodup)(hi:X.N[i]? =some x)(hx:Loc X.env.scope x)(r:RelV v u)
  (h:∀s',Inv X e8 (Z.set i (some v)) H s' ->Q () s')(hf:autoParam (X.fn x=true\/X.env.scope.names.lookup x=some .local) Za3._auto_1):wpAny M A (storeName X.env x u) Q E s:=
 tV I hN hi hx r (λs' I' _=>h s' I') hf
theorem Inv.Gd{s' :Shared}(I:Inv X e8 Z H s)(ho:s'.os=s.os)(u:Un (frs X.stack) ch H H' s.heap s'.heap)(hok:HOk X.prog X.w H' s'.heap)(hg:AllBare s'.gens)
  (xQ:∀b∈ch,(b∈X.ex\/X.s₀.heap.objs.size<=b)/\b≠X.env.locals/\(∀x c,X.env.cells.lookup x=some c->c≠b)/\∀p∈X.pn++e8,p.1≠b):Inv X e8 Z H' s' :=by
 obtain⟨h',g',d',t',o'⟩:=s';have e:o' =s.os:=ho;subst e;exact I.call (g' :=g') (t' :=t') (d' :=d') u hok hg xQ
end
abbrev XK:=Value->Option Addr->Hp->Prop
abbrev St:=List (Option V)
abbrev VK:=V->Hp->Prop
abbrev TE:=St->Hp->VK->Prop
abbrev TT:=St->Hp->(Bool->Hp->Prop)->Prop
abbrev TA:=St->Hp->(List V->Hp->Prop)->Prop
structure Ends where
 nx:St->Hp->Prop
 rt:VK
 bk:St->Hp->Prop:=λ_ _=>False
 ct:St->Hp->Prop:=λ_ _=>False
abbrev TS:=Ends->St->Hp->Prop
def EP(X:Cx)(e8:List (Addr×Obj))(Z:St)(Q:VK)(u:Value)(s' :Shared):Prop:=∃v H',Inv X e8 Z H' s' /\RelV v u/\Q v H'
def TP(X:Cx)(e8:List (Addr×Obj))(Z:St)(Q:Bool->Hp->Prop)(b:Bool)(s' :Shared):Prop:=∃H',Inv X e8 Z H' s' /\Q b H'
def AP(X:Cx)(e8:List (Addr×Obj))(Z:St)(Q:List V->Hp->Prop)(us:List Value)(s' :Shared):Prop:=∃vs H',Inv X e8 Z H' s' /\Vals vs us/\Q vs H'
def SP(X:Cx)(e8:List (Addr×Obj))(D:Ends)(f:Flow)(s' :Shared):Prop:=
 match f with
 | .next=>∃Z' H',Inv X e8 Z' H' s' /\D.nx Z' H'
 | .brk=>∃Z' H',Inv X e8 Z' H' s' /\D.bk Z' H'
 | .cont=>∃Z' H',Inv X e8 Z' H' s' /\D.ct Z' H'
 | .ret u=>∃v Z' H',Inv X e8 Z' H' s' /\RelV v u/\D.rt v H'
def PE(X:Cx)(e:Expr)(t:TE):Prop:=
 ∀(e8:List (Addr×Obj)) (s:Shared) (Z:St) (H:Hp) (Q:VK),Inv X e8 Z H s->t Z H Q->wpAny (model X.prog X.w) X.A (eval e X.env) (EP X e8 Z Q) X.xe s
def PT(X:Cx)(e:Expr)(t:TT):Prop:=
 ∀(e8:List (Addr×Obj)) (s:Shared) (Z:St) (H:Hp) (Q:Bool->Hp->Prop),Inv X e8 Z H s->t Z H Q->wpAny (model X.prog X.w) X.A (isTrue e X.env (eval e X.env)) (TP X e8 Z Q) X.xe s
def PW(X:Cx)(e:Expr)(t:TT):Prop:=
 ∀(whole:Sem Value) (e8:List (Addr×Obj)) (s:Shared) (Z:St) (H:Hp) (Q:Bool->Hp->Prop),Inv X e8 Z H s->t Z H Q->wpAny (model X.prog X.w) X.A (isTrue e X.env whole) (TP X e8 Z Q) X.xe s
theorem PW.pt{X:Cx}{e:Expr}{t:TT}(h:PW X e t):PT X e t:=h _
def PA(X:Cx)(es:List Expr)(t:TA):Prop:=
 ∀(pos:Pos) (e8:List (Addr×Obj)) (s:Shared) (Z:St) (H:Hp) (Q:List V->Hp->Prop),Inv X e8 Z H s->t Z H Q->wpAny (model X.prog X.w) X.A (spliced (backTo pos (starEach es X.env))) (AP X e8 Z Q) X.xe s
def PS(X:Cx)(st:Stmt)(t:TS):Prop:=
 ∀(e8:List (Addr×Obj)) (s:Shared) (Z:St) (H:Hp) (D:Ends),Inv X e8 Z H s->t D Z H->wpAny (model X.prog X.w) X.A (exec st X.env) (SP X e8 D) X.xe s
def PSs(X:Cx)(st:List Stmt)(t:TS):Prop:=
 ∀(e8:List (Addr×Obj)) (s:Shared) (Z:St) (H:Hp) (D:Ends),Inv X e8 Z H s->t D Z H->wpAny (model X.prog X.w) X.A (execs st X.env) (SP X e8 D) X.xe s
theorem thn{α:Type}{t:Sem α}{Q Q' :α->Shared->Prop}{M:Model}{A:Around}{E:Value->Shared->Prop}{s:Shared}(h:wpAny M A t Q E s)(hQ:∀a s,Q a s->Q' a s):wpAny M A t Q' E s:=Gci h hQ λ_ _ x=>x
section
variable{X:Cx}
def Qb(i:Nat):TE:=λZ H Q=>∃v,Z[i]? =some (some v)/\Q v H
def tC(v:V):TE:=λ_ H Q=>Q v H
variable{pos:Pos}{x:Str}
theorem vf{i:Nat}(hN:X.N[i]? =some x)(hv:Vis X.env.scope x)(hd:autoParam ((x==("__debug__":Str))=false) Za2._auto_1)(yc:autoParam ((x==("__classdict__":Str))=false) Za2._auto_1):PE X (.Name x pos) (Qb i):=by
 intro e8 s Z H Q I h;obtain⟨v,e,h⟩:=h;obtain⟨m,hn,hl⟩:=I.loc;obtain⟨u,r,l⟩:=hl i x v hN e hv;have fin:EP X e8 Z Q u s:=⟨v,H,I,r,h⟩
 rcases l with⟨hk,hm⟩| ⟨hk,c,hc,xy⟩
 .exact wpAny_Name (wpAny_loadName_local I.ok.kind hk hn hm fin) hd
 .rcases hk with hk|hk
  .exact wpAny_Name (wpAny_loadName_cell I.ok.kind hk hc xy fin) hd
  .exact wpAny_Name (wpAny_loadName_free I.ok.kind hk hc xy fin yc) hd
theorem Lz{i j pos}:PE X (.Constant (.int i) j pos) (tC (.int i)):=λ_ _ _ H _ I h=>wpAny_Constant_int ⟨.int i,H,I.tok _,⟨_,rfl⟩,h⟩
theorem NJ{b j pos}:PE X (.Constant (.bool b) j pos) (tC (.bl b)):=λ_ _ _ H _ I h=>Constant_bool ⟨.bl b,H,I,rfl,h⟩
theorem LA{j pos}:PE X (.Constant .none j pos) (tC .non):=λ_ _ _ H _ I h=>Constant_none ⟨.non,H,I,rfl,h⟩
theorem LB{x j pos}:PE X (.Constant (.str x) j pos) (tC (.str x)):=λ_ _ _ H _ I h=>Calls.Constant_str ⟨.str x,H,I.tok _,⟨_,rfl⟩,h⟩
def Gl(X:Cx)(x:Str):Prop:=X.env.kindOf x=some .globalImplicit
variable{u:Value}{H:Hp}{Z:St}{s:Shared}{e8:List (Addr×Obj)}
theorem J3{E:Value->Shared->Prop}{Q:Value->Shared->Prop}(I:Inv X e8 Z H s)(hg:Gl X x)(hm:X.mg x=some u)(h:Q u s)
  (hd:autoParam ((x==("__debug__":Str))=false) Za2._auto_1):wpAny (model X.prog X.w) X.A (eval (.Name x pos) X.env) Q E s:=
 Calls.Name_function_global I.ok.kind hg (Calls.loadGlobal_global (by rw[I.ok.glob];exact I.mod.glob.keeps I.bk) hm h) hd
theorem kz{E:Value->Shared->Prop}{Q:Value->Shared->Prop}(I:Inv X e8 Z H s)(hg:Gl X x)(hm:X.mg x=none)(hv:bootBuiltins x=some u)(h:Q u s)
  (hn:autoParam (x≠"__name__") Za2._auto_1)(hd:autoParam ((x==("__debug__":Str))=false) Za2._auto_1):wpAny (model X.prog X.w) X.A (eval (.Name x pos) X.env) Q E s:=by
 obtain⟨mb,h1,h2⟩:=I.mod.blt;exact Calls.Name_function_global I.ok.kind hg (Calls.loadGlobal_builtin (by rw[I.ok.glob];exact I.mod.glob.keeps I.bk) hm (by rw[I.ok.blt];exact h1.keeps I.bk) ((h2 x hn).trans hv) h) hd
theorem J4{v:V}(hg:Gl X x)(hm:X.mg x=none)(hv:bootBuiltins x=some u)(r:RelV v u)(hn:autoParam (x≠"__name__") Za2._auto_1)(hd:autoParam ((x==("__debug__":Str))=false) Za2._auto_1):PE X (.Name x pos) (tC v):=
 λ_ _ _ H _ I h=>kz I hg hm hv ⟨v,H,I,r,h⟩ hn hd
variable{a b:Expr}{ta tb:TE}{pos:Pos}
def tB(t:TE):TT:=λZ H Q=>t Z H λx H1=>∃c,x= .bl c/\Q c H1
theorem LC{e:Expr}{t:TE}(h:PE X e t)(he:∀whole,isTrue e X.env whole=(do let v<-whole;standAt e.pos;holding [v] (truthy v)):=by intro _;rfl):PT X e (tB t):=by
 intro e8 s Z H Q I hw;refine isTrue_plain (thn (h e8 s Z H _ I hw) λv s1 ⟨x,H1,I1,r1,q1⟩=> ?_) (he _);obtain⟨d,rfl,q⟩:=q1;cases r1;exact GbM ⟨H1,I1,q⟩
variable{tA R8 :TT}{rest:List Expr}
def Qc(t u:TT):TT:=λZ H Q=>t Z H λc H1=>if c=true then u Z H1 Q else Q false H1
def tOr(t u:TT):TT:=λZ H Q=>t Z H λc H1=>if c=true then Q true H1 else u Z H1 Q
def Qd(t:TT):TT:=λZ H Q=>t Z H λc H1=>Q (!c) H1
theorem J5(ha:PT X a tA):PW X (.BoolOp .And [a] pos) tA:=by
 intro wh e8 s Z H Q I h;refine isTrue_and (thn (ha e8 s Z H Q I h) λc s1 e=> ?_);cases c with
 |true=>exact isTrue_and_nil e
 |false=>exact e
theorem LD(ha:PT X a tA):PW X (.BoolOp .Or [a] pos) tA:=by
 intro wh e8 s Z H Q I h;refine isTrue_or (thn (ha e8 s Z H Q I h) λc s1 e=> ?_);cases c with
 |false=>exact isTrue_or_nil e
 |true=>exact e
theorem LF(ha:PT X a tA)(hb:PW X (.BoolOp .And (b::rest) pos) R8):PW X (.BoolOp .And (a::b::rest) pos) (Qc tA R8):=by
 intro wh e8 s Z H Q I h;refine isTrue_and (thn (ha e8 s Z H _ I h) λc s1 ⟨H1,I1,q1⟩=> ?_);cases c with
 |true=>exact hb wh e8 s1 Z H1 Q I1 q1
 |false=>exact⟨H1,I1,q1⟩
theorem NK(ha:PT X a tA)(hb:PW X (.BoolOp .Or (b::rest) pos) R8):PW X (.BoolOp .Or (a::b::rest) pos) (tOr tA R8):=by
 intro wh e8 s Z H Q I h;refine isTrue_or (thn (ha e8 s Z H _ I h) λc s1 ⟨H1,I1,q1⟩=> ?_);cases c with
 |true=>exact⟨H1,I1,q1⟩
 |false=>exact hb wh e8 s1 Z H1 Q I1 q1
theorem LG(ha:PT X a tA):PT X (.UnaryOp .Not a pos) (Qd tA):=by
 intro e8 s Z H Q I h;exact isTrue_not (ha e8 s Z H (λc H1=>Q (!c) H1) I h)
def NL(ta tb:TE):TE:=λZ H Q=>ta Z H λx H1=>∃c,x= .bl c/\if c=true then tb Z H1 Q else Q (.bl false) H1
theorem LH{op}{t:TE}(h:PE X a t):PE X (.BoolOp op [a] pos) t:=λe8 s Z H Q I hw=>BoolOp_one (h e8 s Z H Q I hw)
theorem LI(ha:PE X a ta)(hb:PE X (.BoolOp .And (b::rest) pos) tb):PE X (.BoolOp .And (a::b::rest) pos) (NL ta tb):=by
 intro e8 s Z H Q I h;refine BoolOp_and (thn (ha e8 s Z H _ I h) λv s1 ⟨x,H1,I1,r1,q1⟩=> ?_);obtain⟨c,rfl,q1⟩:=q1;cases r1;refine GbM ?_;cases c with
 |true=>exact hb e8 s1 Z H1 Q I1 q1
 |false=>exact⟨.bl false,H1,I1,rfl,q1⟩
def tIf(t:TT)(ta tb:TE):TE:=λZ H Q=>t Z H λc H1=>if c=true then ta Z H1 Q else tb Z H1 Q
theorem Ge{c:Expr}(hc:PT X c tA)(ha:PE X a ta)(hb:PE X b tb):PE X (.IfExp c a b pos) (tIf tA ta tb):=by
 intro e8 s Z H Q I h;refine wpAny_IfExp (thn (hc e8 s Z H _ I h) λd s1 ⟨H1,I1,q1⟩=> ?_);cases d with
 |true=>exact ha e8 s1 Z H1 Q I1 q1
 |false=>exact hb e8 s1 Z H1 Q I1 q1
end
def SqL(K:PySem.W.Frag)(H:Hp)(a:Addr)(xs:List V):Prop:=
 Rd H a (.lst xs)\/
  ∃(o:Obj) (its:Array Value) (n:Nat),K.lookup a=some o/\o.cls= .type "list"/\o.dict=none/\o.data= .seq its n/\its.size<=sizeLine/\Vals xs its.toList
def SqT(K:PySem.W.Frag)(H:Hp)(a:Addr)(xs:List V):Prop:=
 Rd H a (.tup xs)\/
  ∃(o:Obj) (its:Array Value) (n:Nat),K.lookup a=some o/\o.cls= .type "tuple"/\o.data= .seq its n/\its.size<=sizeLine/\Vals xs its.toList
noncomputable def Qe:Value->Option V
 | .none=>some .non
 | .bool b=>some (.bl b)
 | .int i _=>some (.int i)
 | .str x _=>some (.str x)
 | .bytes b _=>some (.byt b)
 | .float b _=>some (.flt b)
 | .ref a=>some (.ref a)
 | .type n=>some (.ty n)
 |_=>none
variable{u:Value}
theorem RelV.abs{x:V}(r:RelV x u):Qe u=some x:=by
 cases x with
 |non=>cases r;rfl
 |bl _=>cases r;rfl
 |int _=>obtain⟨t,rfl⟩:=r;rfl
 |str _=>obtain⟨t,rfl⟩:=r;rfl
 |byt _=>obtain⟨t,rfl⟩:=r;rfl
 |flt _=>obtain⟨t,rfl⟩:=r;rfl
 |ref _=>cases r;rfl
 |ty _=>cases r;rfl
theorem RelV.inj{x y:V}{u:Value}(r:RelV x u)(q:RelV y u):x=y:=Option.some.inj (r.abs.symm.trans q.abs)
theorem Vals.inj{xs ys:List V}{us:List Value}(p:Vals xs us)(q:Vals ys us):xs=ys:=by
 induction p generalizing ys with
 |nil=>cases q;rfl
 |cons r t ih=>cases q with|cons r' t' =>rw[r.inj r',ih t']
section
variable{X:Cx}{e8:List (Addr×Obj)}{Z:St}{H:Hp}{s:Shared}{a:Addr}{xs ys:List V}
theorem SqT.of{K:PySem.W.Frag}(h:H a=some (.tup xs)):SqT K H a xs:= .inl (.inl h)
theorem Inv.list(I:Inv X e8 Z H s)(h:SqL X.K H a xs):∃its:List Value,Vals xs its/\PlainL s.heap a its.toArray/\xs.length<=sizeLine:=by
 rcases h with h| ⟨o,its,n,hk,hc,hd,hs,hz,r⟩
 .obtain⟨z,its,n,r,e⟩:=h.ok I.hok;exact⟨its,r,⟨_,n,e,rfl,rfl,rfl⟩,z⟩
 .refine⟨its.toList,r,⟨o,n,I.kIn a o hk,hc,hd,by simpa using hs⟩, ?_⟩;have e:=r.length;simp only[GaN] at e;lia
theorem Inv.tuple(I:Inv X e8 Z H s)(h:SqT X.K H a xs):∃its:List Value,Vals xs its/\IsTup s.heap a its.toArray/\xs.length<=sizeLine:=by
 rcases h with h| ⟨o,its,n,hk,hc,hs,hz,r⟩
 .obtain⟨z,its,r,p⟩:=h.ok I.hok;exact⟨its,r,p,z⟩
 .refine⟨its.toList,r,⟨o,I.kIn a o hk,hc,n,by simpa using hs⟩, ?_⟩;have e:=r.length;simp only[GaN] at e;lia
theorem Inv.nK(I:Inv X e8 Z H s)(h:SqL X.K H a xs)(h' :SqL X.K H a ys):xs=ys:=by
 obtain⟨its,r,⟨o,n,e,_,_,d⟩,_⟩:=I.list h;obtain⟨its',r',⟨o',n',e',_,_,d'⟩,_⟩:=I.list h';rw[e] at e';cases e'
 rw[d] at d';injection d' with d1 _
 have:its=its' :=by simpa using congrArg Array.toList d1
 subst this;exact r.inj r'
theorem Inv.tW(I:Inv X e8 Z H s)(h:SqT X.K H a xs)(h' :SqT X.K H a ys):xs=ys:=by
 obtain⟨its,r,⟨o,e,_,n,d⟩,_⟩:=I.tuple h;obtain⟨its',r',⟨o',e',_,n',d'⟩,_⟩:=I.tuple h';rw[e] at e';cases e'
 rw[d] at d';injection d' with d1 _
 have:its=its' :=by simpa using congrArg Array.toList d1
 subst this;exact r.inj r'
end
noncomputable abbrev Cx.tq (X:Cx) (E:Value->Shared->Prop):Cx:={X with xe:=E}
noncomputable abbrev Cx.nox (X:Cx):Cx:=X.tq λ_ _=>False
theorem Cx.Ok.tq{X:Cx}(ok:X.Ok)(E:Value->Shared->Prop):(X.tq E).Ok:=
 ⟨ok.mod,ok.kind,ok.glob,ok.blt,ok.above,ok.inj,ok.has,ok.cab,ok.hd,ok.frames,ok.stk,ok.exf,ok.bs,ok.bsz,ok.IY,ok.IZ,ok.qE,ok.frf⟩
variable{X:Cx}
theorem Cx.Ok.kA{E:Value->Shared->Prop}(ok:(X.tq E).Ok):X.Ok:=
 ⟨ok.mod,ok.kind,ok.glob,ok.blt,ok.above,ok.inj,ok.has,ok.cab,ok.hd,ok.frames,ok.stk,ok.exf,ok.bs,ok.bsz,ok.IY,ok.IZ,ok.qE,ok.frf⟩
section
variable{X:Cx}{e8:List (Addr×Obj)}{Z:St}{H:Hp}{s:Shared}{E:Value->Shared->Prop}
theorem Inv.tq(I:Inv X e8 Z H s)(E:Value->Shared->Prop):Inv (X.tq E) e8 Z H s:=⟨I.ok.tq E,I.os,I.bare,I.base,I.loc,I.cell,I.free,I.lO,I.pin,I.hok,I.len⟩
theorem Inv.kA(I:Inv (X.tq E) e8 Z H s):Inv X e8 Z H s:=⟨I.ok.kA,I.os,I.bare,I.base,I.loc,I.cell,I.free,I.lO,I.pin,I.hok,I.len⟩
theorem SP.kA{D:Ends}{f:Flow}{s' :Shared}(h:SP (X.tq E) e8 D f s'):SP X e8 D f s' :=by
 cases f with
 |next=>obtain⟨Z',H',I,q⟩:=h;exact⟨Z',H',I.kA,q⟩
 |brk=>obtain⟨Z',H',I,q⟩:=h;exact⟨Z',H',I.kA,q⟩
 |cont=>obtain⟨Z',H',I,q⟩:=h;exact⟨Z',H',I.kA,q⟩
 |ret u=>obtain⟨v,Z',H',I,r,q⟩:=h;exact⟨v,Z',H',I.kA,r,q⟩
theorem PSs.nox{st:List Stmt}{t:TS}(h:PSs X.nox st t):PSs X st t:=λe8 s Z H D I hw=>
 Gci (h e8 s Z H D (I.tq _) hw) (λ_ _ q=>q.kA) λ_ _ z=>False.elim z
end
section
variable{X:Cx}{st:Stmt}{rest:List Stmt}{t u:TS}{e:Expr}{te:TE}{pos:Pos}
def NM:TS:=λD Z H=>D.nx Z H
def Qf(t u:TS):TS:=λD Z H=>t {D with nx:=u D} Z H
theorem J6:PSs X [] NM:=λ_ _ Z H _ I h=>GdH ⟨Z,H,I,h⟩
theorem Gf(h1:PS X st t)(h2:PSs X rest u):PSs X (st::rest) (Qf t u):=by
 intro e8 s Z H D I h;refine wpAny_execs_cons (thn (h1 e8 s Z H {D with nx:=u D} I h) λf s1 q=> ?_);cases f with
 |next=>
  obtain⟨Z',H',I',q⟩:=q;exact h2 e8 s1 Z' H' D I' q
 |ret v=>exact q
 |brk=>exact q
 |cont=>exact q
theorem J7(h1:PS X st t):PSs X [st] t:=by
 intro e8 s Z H D I h;refine wpAny_execs_cons (thn (h1 e8 s Z H D I h) λf s1 q=> ?_);cases f with
 |next=>exact GdH q
 |ret v=>exact q
 |brk=>exact q
 |cont=>exact q
def LJ:TS:=λD Z H=>D.bk Z H
theorem Gg:PS X (.Break pos) LJ:=λ_ _ Z H _ I h=>wpAny_Break ⟨Z,H,I,h⟩
theorem Inv.quiet{e8:List (Addr×Obj)}{Z:St}{H:Hp}{s:Shared}(I:Inv X e8 Z H s):interactive X.env=false:=by simp[interactive,I.ok.kind]
def NN(te:TE):TS:=λD Z H=>te Z H λ_ H1=>D.nx Z H1
theorem vg(he:PE X e te)(hs:autoParam (swapsWith e none pos.line X.env=pure false) Za1._auto_1):PS X (.Expr e pos) (NN te):=by
 intro e8 s Z H D I h;exact wpAny_Expr_any (thn (he e8 s Z H _ I h) λv s1 ⟨x,H1,I1,r1,q1⟩=> ⟨Z,H1,I1,q1⟩) I.quiet hs
def Qg(te:TE):TS:=λD Z H=>te Z H D.rt
theorem LK(he:PE X e te):PS X (.Return (some e) pos) (Qg te):=by
 intro e8 s Z H D I h;exact wpAny_Return_some (thn (he e8 s Z H _ I h) λv s1 ⟨x,H1,I1,r1,q1⟩=> ⟨x,Z,H1,I1,r1,q1⟩)
def Qh(c:TT)(t u:TS):TS:=λD Z H=>c Z H λb H1=>if b=true then t D Z H1 else u D Z H1
theorem NO{c:Expr}{a b:List Stmt}{tc:TT}(hc:PT X c tc)(ha:PSs X a t)(hb:PSs X b u):PS X (.If c a b pos) (Qh tc t u):=by
 intro e8 s Z H D I h;refine wpAny_If (thn (hc e8 s Z H _ I h) λd s1 ⟨H1,I1,q1⟩=> ?_);cases d with
 |true=>exact ha e8 s1 Z H1 D I1 q1
 |false=>exact hb e8 s1 Z H1 D I1 q1
end
abbrev TG:=V->St->Hp->(St->Hp->Prop)->Prop
abbrev TGs:=List V->St->Hp->(St->Hp->Prop)->Prop
def PG(X:Cx)(target:Expr)(t:TG):Prop:=
 ∀(e8:List (Addr×Obj)) (s:Shared) (Z:St) (H:Hp) (v:V) (u:Value) (Q:St->Hp->Prop),Inv X e8 Z H s->RelV v u->t v Z H Q->
  wpAny (model X.prog X.w) X.A (assign target X.env u) (λ_ s' =>∃Z' H',Inv X e8 Z' H' s' /\Q Z' H') X.xe s
def PGs(X:Cx)(ts:List Expr)(t:TGs):Prop:=
 ∀(e8:List (Addr×Obj)) (s:Shared) (Z:St) (H:Hp) (vs:List V) (us:List Value) (Q:St->Hp->Prop),Inv X e8 Z H s->Vals vs us->t vs Z H Q->
  wpAny (model X.prog X.w) X.A (assignInOrder ((assignEach ts X.env).map (·.2)) us) (λ_ s' =>∃Z' H',Inv X e8 Z' H' s' /\Q Z' H') X.xe s
section
variable{X:Cx}{pos:Pos}
def L4(i:Nat):TG:=λv Z H Q=>Q (Z.set i (some v)) H
variable{x:Str}{i:Nat}
theorem J8(hN:X.N.Nodup)(hi:X.N[i]? =some x)(hx:Loc X.env.scope x)(hf:autoParam (X.fn x=true\/X.env.scope.names.lookup x=some .local) Za3._auto_1):PG X (.Name x pos) (L4 i):=by
 intro e8 s Z H v u Q I r h;exact wpAny_assign_Name (wL I hN hi hx r (λs' I' => ⟨_,H,I',h⟩) hf)
def Qi:TGs:=λvs Z H Q=>vs=[]/\Q Z H
def NP(t:TG)(u:TGs):TGs:=λvs Z H Q=>∃v r,vs=v::r/\t v Z H λZ' H' =>u r Z' H' Q
theorem J9:PGs X [] Qi:=by
 intro e8 s Z H vs us Q I r h;obtain⟨e,h⟩:=h;subst e;cases r;exact assignInOrder_nil ⟨Z,H,I,h⟩
variable{es:List Expr}
theorem Gh{e:Expr}{t:TG}{u:TGs}(h1:PG X e t)(h2:PGs X es u)
  (hs:autoParam ((assignEach (e::es) X.env).map (·.2)=assign e X.env::(assignEach es X.env).map (·.2)) Za1._auto_1):PGs X (e::es) (NP t u):=by
 intro e8 s Z H vs us Q I r h;obtain⟨v,vr,e1,h⟩:=h;subst e1;cases r with
 |cons r rr=>
  rw[hs];refine assignInOrder_cons (thn (h1 e8 s Z H _ _ _ I r h) λ_ s1 ⟨Z1,H1,I1,q1⟩=> ?_);exact h2 e8 s1 Z1 H1 _ _ Q I1 rr q1
def Qj(K:PySem.W.Frag)(n:Nat)(t:TGs):TG:=λv Z H Q=>∃a xs,v= .ref a/\SqT K H a xs/\xs.length=n/\t xs Z H Q
theorem LL{k:Nat}{t:TGs}{n:Nat}(hc:X.calm=true)(h:PGs X es t)
  (hn:autoParam ((assignEach es X.env).length=n) Za1._auto_1)(yh:autoParam ((assignEach es X.env).findIdx? (·.1)=none) Za1._auto_1):PG X (.Tuple es k pos) (Qj X.K n t):=by
 intro e8 s Z H v u Q I r hw;obtain⟨a,xs,e1,hq,hl,hw⟩:=hw;subst e1;cases r;obtain⟨its,rv,ht,hz⟩:=I.tuple hq;refine assign_Tuple_tuple (I.ok.hd hc) ht (by simp[hn,<-hl,rv.length]) yh λh' hx=> ?_;have I1:Inv X e8 Z H {s with heap:=h' }:=I.kept (t' :=s.toks) λb o e=>hx b o (GaH (Gau e)) e;exact h e8 _ Z H xs _ Q I1 (by simpa using rv) hw
def NQ(te:TE)(g:TG):TS:=λD Z H=>te Z H λx H1=>g x Z H1 D.nx
variable{te:TE}
theorem LM{tg e:Expr}{g:TG}(he:PE X e te)(hg:PG X tg g)(hs:autoParam (swapsWithSole [tg] e pos.line X.env=pure false) Za1._auto_1)(hw:autoParam (swappedStores [tg] e X.env=pure none) Za1._auto_1)
  (h1:autoParam ((assignEach [tg] X.env).map (·.2)=[assign tg X.env]) Za1._auto_1):PS X (.Assign [tg] e pos) (NQ te g):=by
 intro e8 s Z H D I h;refine wpAny_Assign_stores (thn (he e8 s Z H _ I h) λv s1 ⟨x,H1,I1,r1,q1⟩=> ?_) hs hw;rw[h1];exact thn (hg e8 s1 Z H1 x v _ I1 r1 q1) λ_ s2 q=>q
theorem LN{e:Expr}{pos' :Pos}(hN:X.N.Nodup)(hi:X.N[i]? =some x)(hx:Loc X.env.scope x)(he:PE X e te)(hs:autoParam (swapsWith e (some (.Name x pos')) pos.line X.env=pure false) Za1._auto_1)(hf:autoParam (X.fn x=true\/X.env.scope.names.lookup x=some .local) Za3._auto_1):
  PS X (.Assign [.Name x pos'] e pos) (NQ te (L4 i)):=by
 intro e8 s Z H D I h;refine wpAny_Assign_Name (thn (he e8 s Z H _ I h) λv s1 ⟨y,H1,I1,r1,q1⟩=> ?_) hs;exact wL I1 hN hi hx r1 (λs2 I2=> ⟨_,H1,I2,q1⟩) hf
end
section
variable{X:Cx}{pos:Pos}
def LO(c:TT)(tb:TS):TS:=λD Z H=>∃W:Nat->St->Hp->Prop,(∃m,W m Z H)/\∀m Z H,W m Z H->
 c Z H λb H1=>if b=true then∃N:St->Hp->Prop,(∀Z' H',N Z' H' ->∃m',m' <m/\W m' Z' H')/\tb {D with nx:=N,ct:=N,bk:=D.nx} Z H1 else D.nx Z H1
theorem Gi{c:Expr}{body:List Stmt}{tc:TT}{tb:TS}(hp:PassesOwn (model X.prog X.w) X.A X.env X.xe)(hc:PT X c tc)(hb:PSs X body tb):PS X (.While c body [] pos) (LO tc tb):=by
 intro e8 s Z H D I h;obtain⟨W,⟨m0,w0⟩,turn⟩:=h;refine wpAny_While (codeAny_whileLoop (λn s' =>∃Z' H',Inv X e8 Z' H' s' /\W n Z' H') ?_ m0 ⟨Z,H,I,w0⟩);rintro n s1 ⟨Z1,H1,I1,w1⟩;refine Gcp hp (thn (hc e8 s1 Z1 H1 _ I1 (turn n Z1 H1 w1)) λb s2 ⟨H2,I2,q2⟩=> ?_);cases b with
 |true=>
  obtain⟨N,hN,q2⟩:=q2;rw[Gah rfl];refine Gcp hp (thn (hb e8 s2 Z1 H2 _ I2 q2) λf s3 q3=> ?_);cases f with
  |next=>
   obtain⟨Z3,H3,I3,n3⟩:=q3;obtain⟨m',hm,w3⟩:=hN Z3 H3 n3;exact⟨m',hm,Z3,H3,I3,w3⟩
  |cont=>
   obtain⟨Z3,H3,I3,n3⟩:=q3;obtain⟨m',hm,w3⟩:=hN Z3 H3 n3;exact⟨m',hm,Z3,H3,I3,w3⟩
  |brk=>exact q3
  |ret v=>exact q3
 |false=>
  rw[Gag Gal];exact GdH ⟨Z1,H2,I2,q2⟩
end
structure It where
 go:Nat->Hp->Prop
 yld:Nat->Hp->V->Hp->Prop
 stop:Nat->Hp->Prop
def kB(X:Cx)(e8:List (Addr×Obj))(H:Hp)(b:Addr):Prop:=
 H b=none/\b≠X.env.locals/\b∉X.fs/\(b∈X.ex\/X.s₀.heap.objs.size<=b)/\(∀x c,X.env.cells.lookup x=some c->c≠b)/\∀p∈X.pn++e8,p.1≠b
variable{s:Shared}
theorem Inv.Ey{e8:List (Addr×Obj)}{Z:St}{H H' :Hp}{b:Addr}(I:Inv X e8 Z H s)(hb:s.heap.objs.size<=b)(hn:H' b=none):kB X e8 H' b:=by
 refine⟨hn,Gcw (GaG I.lt hb),I.Qa hb,.inr (Gbf I.sz hb),λx c e z=> ?_,λp hp z=> ?_⟩
 .obtain⟨v,q⟩:=I.cell x c e;exact absurd (GaG q.lt (by rw[z];exact hb)) (Gbv _)
 .exact absurd (GaG (Gau (I.pin p hp).1) (by rw[z];exact hb)) (Gbv _)
structure Turn(P:Program)(w:World)(K:PySem.W.Frag)(tg:Expr)(J:It)(fp:List Addr)(it:Addr)(tn:Nat->Heap->Prop):Prop where
 mem:it∈fp
 obj:∀i h,tn i h->∀b∈fp,∃o,h.get? b=some o/\∀v,o.data≠ .cell v
 keep:∀i h h',tn i h->(∀b∈fp,∀o,h.get? b=some o->h'.get? b=some o)->tn i h'
 item:∀(X:Cx),X.prog=P->X.w=w->X.K=K->X.calm=true->∀(i:Nat) (e8:List (Addr×Obj)) (s:Shared) (Z:St) (H:Hp) (E:Value->Shared->Prop),Inv X e8 Z H s->(∀b∈fp,kB X e8 H b)->tn i s.heap->J.go i H->
  wpAny (model P w) X.A (pyNext (.ref it)) (λr s1=>∃u,r=some u/\
   wpAny (model P w) X.A (letOwnedTupleGo tg (.ref it) u) (λ_ s2=>∃x H',Inv X e8 Z H' s2/\RelV x u/\J.yld i H x H' /\tn (i+1) s2.heap/\∀b∈fp,H' b=none) E s1) E s
 done:∀(X:Cx),X.prog=P->X.w=w->X.K=K->X.calm=true->∀(i:Nat) (e8:List (Addr×Obj)) (s:Shared) (Z:St) (H:Hp) (E:Value->Shared->Prop),Inv X e8 Z H s->(∀b∈fp,kB X e8 H b)->tn i s.heap->J.stop i H->
  wpAny (model P w) X.A (pyNext (.ref it)) (λr s1=>r=none/\Inv X e8 Z H s1) E s
 self:∀(A:Around) (i:Nat) (s:Shared) (Q:Value->Shared->Prop) (E:Value->Shared->Prop),tn i s.heap->Q (.ref it) s->wpAny (model P w) A (pyIter (.ref it)) Q E s
abbrev TI:=St->Hp->(It->Hp->Prop)->Prop
def PIE(X:Cx)(e8:List (Addr×Obj))(Z:St)(tg:Expr)(R:It->Hp->Prop)(Rf:Value)(s2:Shared):Prop:=
 ∃(it:Addr) (fp:List Addr) (tn:Nat->Heap->Prop) (J:It) (H' :Hp),Rf= .ref it/\Inv X e8 Z H' s2/\Turn X.prog X.w X.K tg J fp it tn/\tn 0 s2.heap/\(∀b∈fp,kB X e8 H' b)/\R J H'
def PI(X:Cx)(tg iter:Expr)(wi:TI):Prop:=
 ∀(e8:List (Addr×Obj)) (s:Shared) (Z:St) (H:Hp) (R:It->Hp->Prop),Inv X e8 Z H s->wi Z H R->
  wpAny (model X.prog X.w) X.A (eval iter X.env) (λv s1=>wpAny (model X.prog X.w) X.A (pyIter v) (PIE X e8 Z tg R) X.xe s1) X.xe s
variable{tg:Expr}
theorem Gj{M:Model}{A:Around}{E:Value->Shared->Prop}{it:Addr}{o:Obj}{n:String}{vs:Array Value}{Q:Unit->Shared->Prop}(ho:s.heap.get? it=some o)(hc:o.cls= .type n)(hd:o.data= .fields vs)
  (hn:["enumerate","zip","dict_itemiterator","dict_reverseitemiterator","odict_iterator","itertools.zip_longest","itertools.pairwise"].contains n=false)(hQ:Q () s):wpAny M A (letOwnedTupleGo tg (.ref it) u) Q E s:=by
 unfold letOwnedTupleGo;cases tg<;>first
  |exact Gae hQ
  |(cases u<;>first
    |exact Gae hQ
    |(refine Gaa (wpAny_load ho ?_)
      rw[hc,hd];show wpAny M A (if(["enumerate","zip","dict_itemiterator","dict_reverseitemiterator","odict_iterator","itertools.zip_longest","itertools.pairwise"].contains n&&vs[0]? ==some (rawInt _))=true then _ else _) Q E s;rw[Gag (by intro h;rw[hn,GdR] at h;cases h)];exact Gae hQ))
noncomputable def Itl(K:PySem.W.Frag)(a:Addr):It:=
 ⟨λi H=>∃xs x,SqL K H a xs/\xs[i]? =some x,λi H x H' =>H' =H/\∀xs,SqL K H a xs->xs[i]? =some x,λi H=>∃xs,SqL K H a xs/\xs.length<=i⟩
noncomputable def Itt(K:PySem.W.Frag)(a:Addr):It:=
 ⟨λi H=>∃xs x,SqT K H a xs/\xs[i]? =some x,λi H x H' =>H' =H/\∀xs,SqT K H a xs->xs[i]? =some x,λi H=>∃xs,SqT K H a xs/\xs.length<=i⟩
noncomputable def Itr(lo:Int)(n:Nat):It:=⟨λi _=>i<n,λi H x H' =>H' =H/\x= .int (lo+i),λi _=>n<=i⟩
variable{w:World}{P:Program}
theorem Ez{K:PySem.W.Frag}(a it:Addr):Turn P w K tg (Itl K a) [it] it (λi h=>h.IsListIter it a i) where
 mem:=by simp
 obj:=λi h st b hb=>by
  have e:b=it:=by simpa using hb
  subst e;obtain⟨o,e,c,d⟩:=st;exact⟨o,e,λv z=>by rw[d] at z;cases z⟩
 keep:=λi h h' st k=>st.at λo e=>k it (by simp) o e
 item:=by
  intro X hP hw hK hc i e8 s Z H E I hf st hg;subst hP hw hK;obtain⟨xs,x,hq,hx⟩:=hg;obtain⟨its,rv,p,hz⟩:=I.list hq;obtain⟨u,hu,ru⟩:=rv.get hx;obtain⟨f0,f1,f2,f3,f4,f5⟩:=hf it (by simp);refine wpAny_pyNext_list_item st p.isList (x:=u) (by simpa using hu) λh' yw sb=> ?_;have I1:Inv X e8 Z H {s with heap:=h' }:=I.turned (t' :=s.toks) (λb o hb e=>(sb.2 b hb).trans e) f0 f1 f3 f4 f5;obtain⟨o,e,c,d⟩:=id yw;exact⟨u,rfl,Gj (s:={s with heap:=h' }) e c d (by decide) ⟨x,H,I1,ru,⟨rfl,λys hy=>by rw[I.nK hy hq];exact hx⟩,yw,λb hb=>(hf b hb).1⟩⟩
 done:=by
  intro X hP hw hK hc i e8 s Z H E I hf st hg;subst hP hw hK;obtain⟨xs,hq,hx⟩:=hg;obtain⟨its,rv,p,hz⟩:=I.list hq;obtain⟨f0,f1,f2,f3,f4,f5⟩:=hf it (by simp);have hl:=rv.length;exact wpAny_pyNext_list_end (I.ok.hd hc) st p.isList (by simp;lia) λh' eb=> ⟨rfl,I.turned (t' :=s.toks) (λb o hb e=>eb b o hb e) f0 f1 f3 f4 f5⟩
 self:=λ_ _ _ _ _ st h=>wpAny_pyIter_listiter st h
theorem BB{K:PySem.W.Frag}(a it:Addr):Turn P w K tg (Itt K a) [it] it (λi h=>h.IsTupleIter it a i) where
 mem:=by simp
 obj:=λi h st b hb=>by
  have e:b=it:=by simpa using hb
  subst e;obtain⟨o,e,c,d⟩:=st;exact⟨o,e,λv z=>by rw[d] at z;cases z⟩
 keep:=λi h h' st k=>st.at λo e=>k it (by simp) o e
 item:=by
  intro X hP hw hK hc i e8 s Z H E I hf st hg;subst hP hw hK;obtain⟨xs,x,hq,hx⟩:=hg;obtain⟨its,rv,p,hz⟩:=I.tuple hq;obtain⟨u,hu,ru⟩:=rv.get hx;obtain⟨f0,f1,f2,f3,f4,f5⟩:=hf it (by simp);refine wpAny_pyNext_tuple_item st (show s.heap.IsTuple a its.toArray from p) (x:=u) (by simpa using hu) λh' yw sb=> ?_;have I1:Inv X e8 Z H {s with heap:=h' }:=I.turned (t' :=s.toks) (λb o hb e=>(sb.2 b hb).trans e) f0 f1 f3 f4 f5;obtain⟨o,e,c,d⟩:=id yw;exact⟨u,rfl,Gj (s:={s with heap:=h' }) e c d (by decide) ⟨x,H,I1,ru,⟨rfl,λys hy=>by rw[I.tW hy hq];exact hx⟩,yw,λb hb=>(hf b hb).1⟩⟩
 done:=by
  intro X hP hw hK hc i e8 s Z H E I hf st hg;subst hP hw hK;obtain⟨xs,hq,hx⟩:=hg;obtain⟨its,rv,p,hz⟩:=I.tuple hq;obtain⟨f0,f1,f2,f3,f4,f5⟩:=hf it (by simp);have hl:=rv.length;exact wpAny_pyNext_tuple_end (I.ok.hd hc) st (show s.heap.IsTuple a its.toArray from p) (by simp;lia) λh' eb=> ⟨rfl,I.turned (t' :=s.toks) (λb o hb e=>eb b o hb e) f0 f1 f3 f4 f5⟩
 self:=λ_ _ _ _ _ st h=>wpAny_pyIter_tupleiter st h
theorem BC{K:PySem.W.Frag}(it:Addr)(lo:Int)(n:Nat):Turn P w K tg (Itr lo n) [it] it (λi h=>IsRangeIter h it (lo+(i:Nat)*1) ((n:Int)-(i:Nat)) 1) where
 mem:=by simp
 obj:=λi h st b hb=>by
  have e:b=it:=by simpa using hb
  subst e;exact⟨_,st,λv z=>by
   have z' :Data.fields _=Data.cell v:=z;cases z'⟩
 keep:=λi h h' st k=>k it (by simp) _ st
 item:=by
  intro X hP hw hK hc i e8 s Z H E I hf st hg;subst hP hw hK;obtain⟨f0,f1,f2,f3,f4,f5⟩:=hf it (by simp);have W:=Walks.range (prog:=X.prog) (w:=X.w) (I.ok.hd hc) it lo 1 n;refine W.item i s _ _ hg st λv h' tk hv yw kk=> ?_;obtain⟨t,rfl⟩:=hv;have I1:Inv X e8 Z H {s with heap:=h',toks:=tk}:=I.turned (λb o hb e=>kk b o (by simpa using hb) e) f0 f1 f3 f4 f5;refine⟨_,rfl,Gj (s:={s with heap:=h',toks:=tk}) (n:="range_iterator") yw rfl rfl (by decide) ⟨.int (lo+i),H,I1,⟨t, ?_⟩,⟨rfl,rfl⟩,yw,λb hb=>(hf b hb).1⟩⟩;rw[Int.mul_one]
 done:=by
  intro X hP hw hK hc i e8 s Z H E I hf st hg;subst hP hw hK;obtain⟨f0,f1,f2,f3,f4,f5⟩:=hf it (by simp);exact wpAny_pyNext_range_end (I.ok.hd hc) st (by have:n<=i:=hg;lia) λh' eb=> ⟨rfl,I.turned (t' :=s.toks) (λb o hb e=>eb b o hb e) f0 f1 f3 f4 f5⟩
 self:=λ_ _ _ _ _ st h=>wpAny_pyIter_rangeiter st h
section
variable{X:Cx}{tg:Expr}
variable{s:Shared}{H:Hp}{Z:St}{e8:List (Addr×Obj)}
theorem kC{R:It->Hp->Prop}{E:Value->Shared->Prop}{lo hi:Int}{t u v:Tok}{tk:Nat}(I:Inv X e8 Z H s)(h1: -(2^62)<=lo)(h2:lo<2^62)(h3: -(2^62)<=hi)(h4:hi<2^62)
  (q:R (Itr lo (hi -lo).toNat) H):wpAny (model X.prog X.w) X.A (pyIter (.ref s.heap.objs.size)) (PIE X e8 Z tg R) E {s with heap:=s.heap.push {cls:= .type "range",data:= .fields #[.int lo t,.int hi u,.int 1 v]},toks:=tk}:=by
 refine wpAny_pyIter_range (IsRange.new ..) (small_one h1 h2 h3 h4) ?_;have I1:Inv X e8 Z H {s with heap:=s.heap.push {cls:= .type "range",data:= .fields #[.int lo t,.int hi u,.int 1 v]},toks:=tk}:=I.kept λb o e=>Gaj _ e;refine⟨(s.heap.push {cls:= .type "range",data:= .fields #[.int lo t,.int hi u,.int 1 v]}).objs.size,[(s.heap.push {cls:= .type "range",data:= .fields #[.int lo t,.int hi u,.int 1 v]}).objs.size],_,_,H,rfl,
  I1.kept (t' :=tk) λb o e=>Gaj _ e,BC _ lo (hi -lo).toNat, ?_,λb hb=> ?_,q⟩
 .have e1:lo+((0:Nat):Int)*1=lo:=by simp
  have e2:(((hi -lo).toNat:Nat):Int)-((0:Nat):Int)=Builtin.Range.rangeSize lo hi 1:=by rw[rangeSize_one];split<;>lia
  show IsRangeIter _ _ (lo+((0:Nat):Int)*1) ((((hi -lo).toNat:Nat):Int)-((0:Nat):Int)) 1;rw[e1,e2];exact GaD _ rfl
 .have e:b=(s.heap.push {cls:= .type "range",data:= .fields #[.int lo t,.int hi u,.int 1 v]}).objs.size:=by simpa using hb
  subst e;exact I1.Ey (Gaq _) (I1.hok.fresh (Gaq _))
def NR(ta:TA):TI:=λZ H R=>ta Z H λvs H1=>∃j:Int,vs=[.int j]/\-(2^62)<=j/\j<2^62/\R (Itr 0 j.toNat) H1
def NS(ta:TA):TI:=λZ H R=>ta Z H λvs H1=>∃i j:Int,vs=[.int i,.int j]/\(-(2^62)<=i/\i<2^62/\-(2^62)<=j/\j<2^62)/\R (Itr i (j -i).toNat) H1
variable{p pos:Pos}{ta:TA}{a:Expr}
theorem EA(hg:Gl X "range")(hm:X.mg "range"=none)(ha:PA X [a] ta)(hs:autoParam (starEach [a] X.env=[(false,eval a X.env)]) Za1._auto_1):PI X tg (.Call (.Name "range" p) [a] [] pos) (NR ta):=by
 intro e8 s Z H R I h;refine Call_ (kz I hg hm boot_range (GbN (thn (ha pos e8 s Z H _ I h) λus s1 ⟨vs,H1,I1,r1,q1⟩=> ?_) hs rfl));obtain⟨j,e,q1,q2,q⟩:=q1;subst e;cases r1 with
 |cons r rr=>
  cases rr;obtain⟨t,rfl⟩:=r;exact call_range_1 (kC I1 (by lia) (by lia) q1 q2 (by simpa using q))
theorem EB{b:Expr}(hg:Gl X "range")(hm:X.mg "range"=none)(ha:PA X [a,b] ta)(hs:autoParam (starEach [a,b] X.env=[(false,eval a X.env),(false,eval b X.env)]) Za1._auto_1)(xi:autoParam (starEach [b] X.env=[(false,eval b X.env)]) Za1._auto_1):
  PI X tg (.Call (.Name "range" p) [a,b] [] pos) (NS ta):=by
 intro e8 s Z H R I h;refine Call_ (kz I hg hm boot_range (GbN (thn (ha pos e8 s Z H _ I h) λus s1 ⟨vs,H1,I1,r1,q1⟩=> ?_) (by rw[hs,xi]) (by rw[xi];rfl)));obtain⟨i,j,e,⟨q1,q2,q3,q4⟩,q⟩:=q1;subst e;cases r1 with
 |cons r rr=>
  cases rr with
  |cons r' rr=>
   cases rr;obtain⟨t,rfl⟩:=r;obtain⟨t',rfl⟩:=r';exact call_range_2 (kC I1 q1 q2 q3 q4 q)
def Qk(wi:TI)(g:TG)(tb:TS):TS:=λD Z H=>wi Z H λJ H1=>∃W:Nat->Nat->St->Hp->Prop,(∃m,W 0 m Z H1)/\∀i m Z H,W i m Z H->
 (J.stop i H/\D.nx Z H)\/(J.go i H/\∃N:St->Hp->Prop,(∀Z' H',N Z' H' ->∃m',m' <m/\W (i+1) m' Z' H')/\∀x H',J.yld i H x H' ->g x Z H' λZ2 H2=>tb {D with nx:=N,ct:=N,bk:=D.nx} Z2 H2)
noncomputable def qF(fp:List Addr)(h:Heap):List (Addr×Obj):=fp.filterMap λb=>(h.get? b).map λo=>(b,o)
variable{h:Heap}{fp:List Addr}
theorem jJ{b:Addr}{o:Obj}(hb:b∈fp)(e:h.get? b=some o):(b,o)∈qF fp h:=Gdf.mpr ⟨b,hb,by rw[e];rfl⟩
theorem EC{p:Addr×Obj}(hp:p∈qF fp h):p.1∈fp/\h.get? p.1=some p.2:=by
 obtain⟨b,hb,e⟩:=Gdf.mp hp;cases q:h.get? b with
 |none=>rw[q] at e;cases e
 |some o=>
  rw[q] at e;have e' :(b,o)=p:=Option.some.inj e;subst e';exact⟨hb,q⟩
theorem Inv.pinned(I:Inv X e8 Z H s)(hf:∀b∈fp,kB X e8 H b)(ho:∀b∈fp,∃o,s.heap.get? b=some o/\∀v,o.data≠ .cell v):Inv X (e8++qF fp s.heap) Z H s:=
 I.CV λp hp=>(GaF.mp hp).elim (λz=>I.pin p (GaQ _ z)) λz=>by
  obtain⟨hb,e⟩:=EC z;obtain⟨f0,f1,f2,_⟩:=hf p.1 hb;obtain⟨o,e',d⟩:=ho p.1 hb;rw[e] at e';cases e'
  exact⟨e,f0,f1,f2,d⟩
theorem Inv.nL{pl:List (Addr×Obj)}(I:Inv X (e8++pl) Z H s):Inv X e8 Z H s:=I.CV λp hp=>I.pin p (GaQ _ (Gbr _ hp))
theorem LP{iter:Expr}{body:List Stmt}{wi:TI}{g:TG}{tb:TS}(hp:PassesOwn (model X.prog X.w) X.A X.env X.xe)(hc:X.calm=true)(hi:PI X tg iter wi)(hg:PG X tg g)(hb:PSs X body tb)
  (hs:∀x,foldedSetIterable iter X.env x=pure x:=by intro _;rfl):PS X (.For tg iter body [] pos) (Qk wi g tb):=by
 intro e8 s Z H D I h;refine wpAny_For (thn (hi e8 s Z H _ I h) λv s1 h1=>thn h1 λRf s2 h2=> ?_) hs;obtain⟨it,fp,tn,J,H2,e,I2,T,zG,f2,W,⟨m0,w0⟩,turn⟩:=h2;subst e;have stat:∀{H' :Hp},(∀b∈fp,H' b=none)->∀b∈fp,kB X e8 H' b:=λhn b hb=> ⟨hn b hb,(f2 b hb).2⟩;refine codeAny_forLoop_any (λn s' =>∃i Z' H',Inv X e8 Z' H' s' /\tn i s'.heap/\(∀b∈fp,H' b=none)/\W i n Z' H') ?_ m0 ⟨0,Z,H2,I2,zG,λb hb=>(f2 b hb).1,w0⟩;rintro n s3 ⟨i,Z3,H3,I3,Sq,Ta,w3⟩;rcases turn i n Z3 H3 w3 with⟨stop,qn⟩| ⟨go,N,hN,step⟩
 .refine Gcp hp (thn (T.done X rfl rfl rfl hc i e8 s3 Z3 H3 X.xe I3 (stat Ta) Sq stop) λr s4 ⟨hr,I4⟩=> ?_);subst hr;exact GdH ⟨Z3,H3,I4,qn⟩
 .refine Gcp hp (thn (T.item X rfl rfl rfl hc i e8 s3 Z3 H3 X.xe I3 (stat Ta) Sq go) λr s4 ⟨u,hr,h4⟩=> ?_);subst hr;refine Gcp hp (thn h4 λ_ s5 ⟨x,H5,I5,r5,y5,yV,Sg⟩=> ?_);have I5' :=I5.pinned (stat Sg) (T.obj _ _ yV);refine Gcp hp (thn (hg _ s5 Z3 H5 x u _ I5' r5 (step x H5 y5)) λ_ s6 ⟨Z6,H6,I6,q6⟩=> ?_);refine Gcp hp (thn (hb _ s6 Z6 H6 _ I6 q6) λf s7 q7=> ?_);have again:∀{Z7:St} {H7:Hp},Inv X (e8++qF fp s5.heap) Z7 H7 s7->N Z7 H7->∃m,m<n/\∃i Z' H',Inv X e8 Z' H' s7/\tn i s7.heap/\(∀b∈fp,H' b=none)/\W i m Z' H' :=λ{Z7 H7} I7 n7=>by
   obtain⟨m',hm,w7⟩:=hN Z7 H7 n7;refine⟨m',hm,i+1,Z7,H7,I7.nL,T.keep _ _ _ yV λb hb o e=>(I7.pin (b,o) (GaQ _ (GaQ _ (jJ hb e)))).1,λb hb=> ?_,w7⟩;obtain⟨o,e,d⟩:=T.obj _ _ yV b hb;exact(I7.pin (b,o) (GaQ _ (GaQ _ (jJ hb e)))).2.1
  cases f with
  |next=>obtain⟨Z7,H7,I7,n7⟩:=q7;exact again I7 n7
  |cont=>obtain⟨Z7,H7,I7,n7⟩:=q7;exact again I7 n7
  |brk=>obtain⟨Z7,H7,I7,q7⟩:=q7;exact⟨Z7,H7,I7.nL,q7⟩
  |ret v=>obtain⟨x7,Z7,H7,I7,r7,q7⟩:=q7;exact⟨x7,Z7,H7,I7.nL,r7,q7⟩
end
abbrev R2:=V->V->Hp->VK->Prop
def OpR(X:Cx)(f:Value->Value->Sem Value)(r:R2):Prop:=
 ∀(e8:List (Addr×Obj)) (s:Shared) (Z:St) (H:Hp) (x y:V) (v u:Value) (Q:VK),Inv X e8 Z H s->RelV x v->RelV y u->r x y H Q->
  wpAny (model X.prog X.w) X.A (f v u) (EP X e8 Z Q) X.xe s
def UnR(X:Cx)(f:Value->Sem Value)(r:V->Hp->VK->Prop):Prop:=
 ∀(e8:List (Addr×Obj)) (s:Shared) (Z:St) (H:Hp) (x:V) (v:Value) (Q:VK),Inv X e8 Z H s->RelV x v->r x H Q->
  wpAny (model X.prog X.w) X.A (f v) (EP X e8 Z Q) X.xe s
def fq(X:Cx)(f:Value)(r:List V->Hp->VK->Prop):Prop:=
 ∀(e8:List (Addr×Obj)) (s:Shared) (Z:St) (H:Hp) (xs:List V) (us:List Value) (Q:VK),Inv X e8 Z H s->Vals xs us->r xs H Q->
  wpAny (model X.prog X.w) X.A (call f us) (EP X e8 Z Q) X.xe s
def tOp(r:R2)(ta tb:TE):TE:=λZ H Q=>ta Z H λx H1=>tb Z H1 λy H2=>r x y H2 Q
def tUn(r:V->Hp->VK->Prop)(ta:TE):TE:=λZ H Q=>ta Z H λx H1=>r x H1 Q
def rI(C:Int->Int->Prop)(g:Int->Int->V):R2:=λx y H Q=>∃i j,x= .int i/\y= .int j/\C i j/\Q (g i j) H
def rI0(g:Int->Int->V):R2:=λx y H Q=>∃i j,x= .int i/\y= .int j/\Q (g i j) H
def rU(g:Int->V):V->Hp->VK->Prop:=λx H Q=>∃i,x= .int i/\Q (g i) H
section
variable{X:Cx}{a b c:Expr}{ta tb tc:TE}{pos:Pos}
theorem LQ(ha:PE X a ta)(hb:PE X b tb){e8:List (Addr×Obj)}{s:Shared}{Z:St}{H:Hp}{R:V->V->Hp->Prop}(I:Inv X e8 Z H s)
  (h:ta Z H λx H1=>tb Z H1 λy H2=>R x y H2){Q:Value->Shared->Prop}{f:Value->Value->Sem Value}
  (hf:∀v u s2 x y H2,Inv X e8 Z H2 s2->RelV x v->RelV y u->R x y H2->wpAny (model X.prog X.w) X.A (f v u) Q X.xe s2):
  wpAny (model X.prog X.w) X.A (eval a X.env) (λv s₁=>wpAny (model X.prog X.w) X.A (eval b X.env) (λu s₂=>wpAny (model X.prog X.w) X.A (f v u) Q X.xe s₂) X.xe s₁) X.xe s:=by
 refine thn (ha e8 s Z H _ I h) λv s1 ⟨x,H1,I1,r1,q1⟩=> ?_;refine thn (hb e8 s1 Z H1 _ I1 q1) λu s2 ⟨y,H2,I2,r2,q2⟩=> ?_;exact hf v u s2 x y H2 I2 r1 r2 q2
theorem NT{op:Operator}{r:R2}(ho:OpR X (binaryOp op) r)(ha:PE X a ta)(hb:PE X b tb):PE X (.BinOp a op b pos) (tOp r ta tb):=by
 intro e8 s Z H Q I h;exact wpAny_BinOp (LQ ha hb I h λv u s2 x y H2 I2 rx ry q=>ho e8 s2 Z H2 x y v u Q I2 rx ry q)
theorem NU{op:UnaryOp}{r:V->Hp->VK->Prop}(ho:UnR X (unaryOp op) r)(ha:PE X a ta):PE X (.UnaryOp op a pos) (tUn r ta):=by
 intro e8 s Z H Q I h;exact UnaryOp_ (thn (ha e8 s Z H _ I h) λv s1 ⟨x,H1,I1,r1,q1⟩=>ho e8 s1 Z H1 x v Q I1 r1 q1)
variable{g:Int->Int->Int}
theorem opI{f:Value->Value->Sem Value}{C:Int->Int->Prop}
  (rule:∀(i j:Int) (t u:Tok) (s:Shared) (Q:Value->Shared->Prop) (E:Value->Shared->Prop),C i j->Q (.int (g i j) s.toks) {s with toks:=s.toks+1}->wpAny (model X.prog X.w) X.A (f (.int i t) (.int j u)) Q E s):
  OpR X f (rI C λi j=> .int (g i j)):=by
 intro e8 s Z H x y v u Q I rx ry h;obtain⟨i,j,rfl,rfl,hc,q⟩:=h;obtain⟨t,rfl⟩:=rx;obtain⟨t',rfl⟩:=ry;exact rule i j t t' s _ _ hc ⟨.int (g i j),H,I.tok _,⟨_,rfl⟩,q⟩
theorem NV{f:Value->Value->Sem Value}
  (rule:∀(i j:Int) (t u:Tok) (s:Shared) (Q:Value->Shared->Prop) (E:Value->Shared->Prop),Q (.int (g i j) s.toks) {s with toks:=s.toks+1}->wpAny (model X.prog X.w) X.A (f (.int i t) (.int j u)) Q E s):
  OpR X f (rI0 λi j=> .int (g i j)):=by
 intro e8 s Z H x y v u Q I rx ry h;obtain⟨i,j,rfl,rfl,q⟩:=h;obtain⟨t,rfl⟩:=rx;obtain⟨t',rfl⟩:=ry;exact rule i j t t' s _ _ ⟨.int (g i j),H,I.tok _,⟨_,rfl⟩,q⟩
theorem Ja{f:Value->Value->Sem Value}{g:Int->Int->Bool}
  (rule:∀(i j:Int) (t u:Tok) (s:Shared) (Q:Value->Shared->Prop) (E:Value->Shared->Prop),Q (.bool (g i j)) s->wpAny (model X.prog X.w) X.A (f (.int i t) (.int j u)) Q E s):
  OpR X f (rI0 λi j=> .bl (g i j)):=by
 intro e8 s Z H x y v u Q I rx ry h;obtain⟨i,j,rfl,rfl,q⟩:=h;obtain⟨t,rfl⟩:=rx;obtain⟨t',rfl⟩:=ry;exact rule i j t t' s _ _ ⟨.bl (g i j),H,I,rfl,q⟩
def NW(i j:Int):Prop:=0<j/\j<1073741824
def NX(i j:Int):Prop:=0<=j/\j<=1000000/\i.natAbs<2^64
def Jb(i j:Int):Prop:=(-(2^64)<i/\i<2^64)\/(-(2^64)<j/\j<2^64)
theorem Jb.ok{i j:Int}(h:Jb i j):IntMulOk i j:=by
 rcases h with⟨h1,h2⟩| ⟨h1,h2⟩
 .exact .of_left (intBits_le_64 h1 h2)
 .exact .of_right (intBits_le_64 h1 h2)
theorem LR:OpR X (binaryOp .Add) (rI0 λi j=> .int (i+j)):=NV λ_ _ _ _ _ _ _ q=>add_int q
theorem LS:OpR X (binaryOp .Sub) (rI0 λi j=> .int (i -j)):=NV λ_ _ _ _ _ _ _ q=>sub_int q
theorem LU:OpR X (binaryOp .Mult) (rI Jb λi j=> .int (i*j)):=opI λ_ _ _ _ _ _ _ hc q=>mul_int q hc.ok
theorem Jc:OpR X (binaryOp .FloorDiv) (rI NW λi j=> .int (i/j)):=opI λi j _ _ _ _ _ hc q=>by
 have h1:(0:Int)<j:=hc.1;have h2:j<1073741824:=hc.2;exact floordiv_int (by lia) (by rw[Int.fdiv_eq_ediv_of_nonneg i (by lia)];exact q) (.inl (PyProof.noPylong_small (by lia)))
theorem LV:OpR X (binaryOp .Mod) (rI (λ_ j=>0<j) λi j=> .int (i%j)):=opI λi j _ _ _ _ _ hc q=>by
 have h1:(0:Int)<j:=hc;exact mod_int' (by lia) (by rw[Int.fmod_eq_emod_of_nonneg i (by lia)];exact q)
theorem LX:OpR X (binaryOp .Pow) (rI NX λi j=> .int (i^j.toNat)):=opI λ_ _ _ _ _ _ _ hc q=>pow_int_small hc.1 hc.2.1 hc.2.2 q
theorem unI{f:Value->Sem Value}{g:Int->Int}
  (rule:∀(i:Int) (t:Tok) (s:Shared) (Q:Value->Shared->Prop) (E:Value->Shared->Prop),Q (.int (g i) s.toks) {s with toks:=s.toks+1}->wpAny (model X.prog X.w) X.A (f (.int i t)) Q E s):
  UnR X f (rU λi=> .int (g i)):=by
 intro e8 s Z H x v Q I rx h;obtain⟨i,rfl,q⟩:=h;obtain⟨t,rfl⟩:=rx;exact rule i t s _ _ ⟨.int (g i),H,I.tok _,⟨_,rfl⟩,q⟩
theorem LY:UnR X (unaryOp .USub) (rU λi=> .int (-i)):=unI λ_ _ _ _ _ q=>neg_int q
end
section
variable{X:Cx}{a b c:Expr}{ta tb tc:TE}{pos:Pos}
theorem Gk{e8:List (Addr×Obj)}{Z:St}{H:Hp}{s:Shared}{Q:VK}{k k' :Bool}(I:Inv X e8 Z H s)(q:Q (.bl k) H)(e:k=k'):EP X e8 Z Q (.bool k') s:=by
 subst e;exact⟨.bl k,H,I,rfl,q⟩
theorem Gm:OpR X (compareOp .Lt) (rI0 λi j=> .bl (decide (i<j))):=Ja λ_ _ _ _ _ _ _ q=>lt_int q
theorem nM:OpR X (compareOp .LtE) (rI0 λi j=> .bl (decide (i<=j))):=Ja λ_ _ _ _ _ _ _ q=>le_int q
theorem tX:OpR X (compareOp .Gt) (rI0 λi j=> .bl (decide (j<i))):=Ja λ_ _ _ _ _ _ _ q=>gt_int q
theorem L5:OpR X (compareOp .GtE) (rI0 λi j=> .bl (decide (j<=i))):=Ja λ_ _ _ _ _ _ _ q=>ge_int q
theorem vh:OpR X (compareOp .Is) (λx y H Q=>y= .non/\Q (.bl (decide (x= .non))) H):=by
 intro e8 s Z H x y v u Q I rx ry h;obtain⟨rfl,q⟩:=h;cases ry;refine is_none_gen (Gk I q ?_);cases x<;>first
  |(cases rx;rfl)
  |(obtain⟨t,rfl⟩:=rx;rfl)
theorem qr:OpR X (compareOp .IsNot) (λx y H Q=>y= .non/\Q (.bl (!decide (x= .non))) H):=by
 intro e8 s Z H x y v u Q I rx ry h;obtain⟨rfl,q⟩:=h;cases ry;refine isnot_none_gen (Gk I q ?_);cases x<;>first
  |(cases rx;rfl)
  |(obtain⟨t,rfl⟩:=rx;rfl)
theorem OpR.or{f:Value->Value->Sem Value}{r r' :R2}(h:OpR X f r)(h' :OpR X f r'):OpR X f (λx y H Q=>r x y H Q\/r' x y H Q):=by
 intro e8 s Z H x y v u Q I rx ry q;rcases q with q|q
 .exact h e8 s Z H x y v u Q I rx ry q
 .exact h' e8 s Z H x y v u Q I rx ry q
theorem bR(b:Expr){op:CmpOp}(h:autoParam (op≠ .In) Za2._auto_1)(h2:autoParam (op≠ .NotIn) Za2._auto_1):behindInMarks op b=false:=by
 have e1:(op==CmpOp.In)=false:=by cases op<;>first|rfl|exact absurd rfl h
 have e2:(op==CmpOp.NotIn)=false:=by cases op<;>first|rfl|exact absurd rfl h2
 cases b<;>simp[behindInMarks,e1,e2]
theorem Jd{op:CmpOp}{r:R2}(ho:OpR X (compareOp op) r)(ha:PE X a ta)(hb:PE X b tb)(hm:behindInMarks op b=false):PE X (.Compare a [op] [b] pos) (tOp r ta tb):=by
 intro e8 s Z H Q I h;exact wpAny_Compare1 (LQ ha hb I h λv u s2 x y H2 I2 rx ry q=>ho e8 s2 Z H2 x y v u Q I2 rx ry q) hm
def L6(t:TE):TT:=λZ H Q=>t Z H λx H' =>∃k,x= .bl k/\Q k H'
theorem Je{op:CmpOp}{r:R2}(ho:OpR X (compareOp op) r)(ha:PE X a ta)(hb:PE X b tb)(hm:behindInMarks op b=false):PT X (.Compare a [op] [b] pos) (L6 (tOp r ta tb)):=by
 intro e8 s Z H Q I h;refine wpAny_isTrue_Compare1 (thn (ha e8 s Z H _ I h) λv s1 ⟨x,H1,I1,r1,q1⟩=>thn (hb e8 s1 Z H1 _ I1 q1) λu s2 ⟨y,H2,I2,r2,q2⟩=>
  thn (ho e8 s2 Z H2 x y v u _ I2 r1 r2 q2) λc s3 ⟨z,H3,I3,r3,k,e,q3⟩=> ?_) hm
 subst e;cases r3;exact GbM ⟨H3,I3,q3⟩
def Gn(r r' :R2)(ta tb tc:TE):TE:=λZ H Q=>ta Z H λx H1=>tb Z H1 λy H2=>r x y H2 λz H3=>∃k,z= .bl k/\
 (if k=true then tc Z H3 λw' H4=>r' y w' H4 Q else Q (.bl false) H3)
theorem Gp{op yf :CmpOp}{r r' :R2}(ho:OpR X (compareOp op) r)(xo :OpR X (compareOp yf) r')(ha:PE X a ta)(hb:PE X b tb)(hc:PE X c tc)
  (hm:lastMarks [op,yf] [b,c]=false:=by with_unfolding_all rfl):PE X (.Compare a [op,yf] [b,c] pos) (Gn r r' ta tb tc):=by
 intro e8 s Z H Q I h;refine Compare_chain (thn (ha e8 s Z H _ I h) λv s1 ⟨x,H1,I1,r1,q1⟩=>chain_link (thn (hb e8 s1 Z H1 _ I1 q1) λu s2 ⟨y,H2,I2,r2,q2⟩=>
  thn (ho e8 s2 Z H2 x y v u _ I2 r1 r2 q2) λd s3 ⟨z,H3,I3,r3,k,e,q3⟩=> ?_)) hm
 subst e;cases r3;refine GbM ?_;cases k with
 |false=>exact ite_ff ⟨.bl false,H3,I3,rfl,q3⟩
 |true=>exact ite_tt (chain_last (thn (hc e8 s3 Z H3 _ I3 q3) λw' s4 ⟨z',H4,I4,r4,q4⟩=>xo e8 s4 Z H4 y z' u w' Q I4 r2 r4 q4))
theorem Gq{op yf :CmpOp}{r r' :R2}(ho:OpR X (compareOp op) r)(xo :OpR X (compareOp yf) r')(ha:PE X a ta)(hb:PE X b tb)(hc:PE X c tc)
  (hm:lastMarks [op,yf] [b,c]=false:=by with_unfolding_all rfl):PT X (.Compare a [op,yf] [b,c] pos) (L6 (Gn r r' ta tb tc)):=by
 intro e8 s Z H Q I h;refine isTrue_chain (thn (ha e8 s Z H _ I h) λv s1 ⟨x,H1,I1,r1,q1⟩=>test_link (thn (hb e8 s1 Z H1 _ I1 q1) λu s2 ⟨y,H2,I2,r2,q2⟩=>
  thn (ho e8 s2 Z H2 x y v u _ I2 r1 r2 q2) λd s3 ⟨z,H3,I3,r3,k,e,q3⟩=> ?_)) hm
 subst e;cases r3;refine GbM ?_;cases k with
 |false=>
  obtain⟨k',e',q'⟩:=q3;cases e';exact ite_ff ⟨H3,I3,q'⟩
 |true=>
  refine ite_tt (test_last (thn (hc e8 s3 Z H3 _ I3 q3) λw' s4 ⟨z',H4,I4,r4,q4⟩=>thn (xo e8 s4 Z H4 y z' u w' _ I4 r2 r4 q4) λd' s5 ⟨z2,H5,I5,r5,k2,e2,q5⟩=> ?_));subst e2;cases r5;exact GbM ⟨H5,I5,q5⟩
theorem vk:(sizeLine:Nat)<2^63:=by rw[GbC];decide
theorem BD:OpR X (binaryOp .Add) (λx y H Q=>∃i j,x= .str i/\y= .str j/\i.length+j.length<=sizeLine/\Q (.str (i++j)) H):=by
 intro e8 s Z H x y v u Q I rx ry h;obtain⟨i,j,rfl,rfl,hz,q⟩:=h;obtain⟨t,rfl⟩:=rx;obtain⟨t',rfl⟩:=ry;exact add_str (λt' tk=> ⟨.str (i++j),H,I.tok _,⟨_,rfl⟩,q⟩) hz
variable{us:List Value}{x:V}
theorem vals1(r:Vals [x] us):∃u,us=[u]/\RelV x u:=by
 cases r with
 |cons r1 r2=>cases r2;exact⟨_,rfl,r1⟩
theorem vals2{y:V}(r:Vals [x,y] us):∃u w',us=[u,w']/\RelV x u/\RelV y w' :=by
 cases r with
 |cons r1 r2=>
  cases r2 with
  |cons r3 r4=>cases r4;exact⟨_,_,rfl,r1,r3⟩
theorem tY(hc:X.calm=true):fq X (.builtin "max") (λxs H Q=>∃i j,xs=[.int i,.int j]/\Q (.int (if j>i then j else i)) H):=by
 intro e8 s Z H xs us Q I r h;obtain⟨i,j,rfl,q⟩:=h;obtain⟨u,w',rfl,⟨t,rfl⟩,⟨t',rfl⟩⟩:=vals2 r;refine max_two_ints (I.ok.hd hc) λh' tk k=> ⟨_,H,I.kept k, ?_,q⟩;by_cases hj:j>i
 .rw[Gah hj,Gah hj];exact⟨_,rfl⟩
 .rw[Gag hj,Gag hj];exact⟨_,rfl⟩
theorem oN(hc:X.calm=true):fq X (.builtin "min") (λxs H Q=>∃i j,xs=[.int i,.int j]/\Q (.int (if j<i then j else i)) H):=by
 intro e8 s Z H xs us Q I r h;obtain⟨i,j,rfl,q⟩:=h;obtain⟨u,w',rfl,⟨t,rfl⟩,⟨t',rfl⟩⟩:=vals2 r;refine min_two_ints (I.ok.hd hc) λh' tk k=> ⟨_,H,I.kept k, ?_,q⟩;by_cases hj:j<i
 .rw[Gah hj,Gah hj];exact⟨_,rfl⟩
 .rw[Gag hj,Gag hj];exact⟨_,rfl⟩
theorem tZ:fq X (.type "int") (λxs H Q=>(∃i,xs=[.int i]/\Q (.int i) H)\/∃k,xs=[.bl k]/\Q (.int (if k then 1 else 0)) H):=by
 intro e8 s Z H xs us Q I r h;rcases h with⟨i,rfl,q⟩| ⟨k,rfl,q⟩
 .obtain⟨u,rfl,t,rfl⟩:=vals1 r;exact call_int_int ⟨.int i,H,I,⟨_,rfl⟩,q⟩
 .obtain⟨u,rfl,r1⟩:=vals1 r;cases r1;exact call_int_bool ⟨.int (if k then 1 else 0),H,I.tok _,⟨_,rfl⟩,q⟩
def NY(K:PySem.W.Frag)(x:V)(H:Hp)(n:Nat):Prop:=
 match x with
 | .str y=>y.length<=sizeLine/\n=y.length
 | .byt y=>y.size<=sizeLine/\n=y.size
 | .ref p=>(∃xs,SqL K H p xs/\n=xs.length)\/∃xs,SqT K H p xs/\n=xs.length
 |_=>False
theorem iz:fq X (.builtin "len") (λxs H Q=>∃x n,xs=[x]/\NY X.K x H n/\Q (.int n) H):=by
 intro e8 s Z H xs us Q I r h;obtain⟨x,n,rfl,e,q⟩:=h;obtain⟨u,rfl,rx⟩:=vals1 r;have hl:=vk;have hs:sizeLine=16777216:=GbC;cases x with
 |str y=>
  obtain⟨t,rfl⟩:=rx;obtain⟨hy,e'⟩:y.length<=sizeLine/\n=y.length:=e;subst e';exact len_str (by lia) ⟨.int _,H,I.tok _,⟨_,rfl⟩,q⟩
 |byt y=>
  obtain⟨t,rfl⟩:=rx;obtain⟨hy,e'⟩:y.size<=sizeLine/\n=y.size:=e;subst e';exact PySem.W.len_bytes (by lia) ⟨.int _,H,I.tok _,⟨_,rfl⟩,q⟩
 |ref p=>
  cases rx;have e' :(∃xs,SqL X.K H p xs/\n=xs.length)\/∃xs,SqT X.K H p xs/\n=xs.length:=e;rcases e' with⟨xs,hx,e'⟩| ⟨xs,hx,e'⟩
  .subst e';obtain⟨its,r',pl,hz⟩:=I.list hx;have eJ:=r'.length;exact Calls.call_len_list pl.isList (by simp only[Gav];lia) ⟨.int xs.length,H,I.tok _,⟨_,by simp only[Gav];rw[eJ]⟩,q⟩
  .subst e';obtain⟨its,r',pl,hz⟩:=I.tuple hx;have eJ:=r'.length;exact len_tuple pl (by simp only[Gav];lia) ⟨.int xs.length,H,I.tok _,⟨_,by simp only[Gav];rw[eJ]⟩,q⟩
 |_=>exact(show False from e).elim
end
structure LZ(h:Heap)(x dx C:Addr)(mA:Str->Option Value):Prop where
 obj:h.get? x=some (PySem.W.instObj C dx)
 ns:h.Ns1 dx mA
 ne:dx≠x
variable{mA:Str->Option Value}{dx:Addr}{h:Heap}
theorem ED(n:h.Ns1 dx mA):∃od,h.get? dx=some od/\∀name,PySem.W.lookIn name od=some (mA name):=by
 obtain⟨o,es,ep,ho,hd,hk,_,hm⟩:=n;refine⟨o,ho,λname=> ?_⟩;have e:=hm name;unfold nsFind findBy at e;rw[<-Array.find?_toList] at e;unfold PySem.W.lookIn;rw[hd];dsimp only;split
 .rename_i y q;rw[q] at e;exact congrArg some e
 .rename_i q;rw[q] at e;have a:es.toList.any (·.refKey)=false:=by
   rw[Gcr];intro y hy;obtain⟨z,t,S5⟩:=hk y (GdI.mp hy);simp[DictEntry.refKey,S5]
  have a' :¬es.toList.any (·.refKey)=true:=by rw[a];exact Gal
  rw[Gag a'];exact congrArg some e
variable{C:Addr}
theorem LZ.look{x:Addr}(I:LZ h x dx C mA):∃od,PySem.W.InstAt h x (PySem.W.instObj C dx) C (some od)/\∀name,PySem.W.lookIn name od=some (mA name):=
 let⟨od,ho,hl⟩:=ED I.ns
 ⟨od,⟨I.obj,rfl,rfl,ho⟩,hl⟩
theorem oM.some_of{v:V}{o:Option Value}(r:oM (some v) o):∃u,o=some u/\RelV v u:=by
 cases o with
 |none=>exact(show False from r).elim
 |some u=>exact⟨u,rfl,r⟩
section
variable{P:Program}{w:World}{H H' :Hp}{h h' :Heap}{a C dx:Addr}{fs UD :List (Str×V)}
theorem Jf(hok:HOk P w H h)(e:H a=some (.ins C dx fs)):∃mA,LZ h a dx C mA/\(∀f,oM (fs.lookup f) (mA f))/\PySem.Within mA (fs.map (·.1))/\fs.length<=1000/\H dx=some (.own a):=by
 obtain⟨d,z,ne,ob,mA,n,r,q⟩:=(show cS P w H h a (.ins C dx fs) from hok a _ e)
 exact⟨mA,⟨ob,n,ne⟩,r,q,z,d⟩
end
structure Cls(K:PySem.W.Frag)(C:Addr):Prop where
 pg:PySem.W.plainGet K C Str.empty=true
 hd:PySem.W.hasDictIn K C=true
 po:PySem.W.plainOver K C=true
 sa:PySem.W.findIn K (.ref C) "__setattr__"=some (some (.builtin "object.__setattr__"))
theorem Cls.get{K:PySem.W.Frag}(c:Cls K C)(f:Str):PySem.W.plainGet K C f=true:=c.pg
section
variable{X:Cx}{e8:List (Addr×Obj)}{Z:St}{H:Hp}{s:Shared}{A:Around}{E:Value->Shared->Prop}{Q:Value->Shared->Prop}{c:Value}{b:Bool}
inductive mQ(K:PySem.W.Frag)(H:Hp):V->Value->Prop where
 |non:mQ K H .non (.type "NoneType")
 |bl (x:Bool):mQ K H (.bl x) (.type "bool")
 |int (i:Int):mQ K H (.int i) (.type "int")
 |str (x:Str):mQ K H (.str x) (.type "str")
 |flt (x:UInt64):mQ K H (.flt x) (.type "float")
 |lst {a:Addr} {xs:List V} (e:H a=some (.lst xs)):mQ K H (.ref a) (.type "list")
 |frz {a:Addr} {o:Obj} {xs:List V} (e:H a=some (.frz o (.lst xs))):mQ K H (.ref a) (.type "list")
 |tup {a:Addr} {xs:List V} (e:H a=some (.tup xs)):mQ K H (.ref a) (.type "tuple")
 |dK {a:Addr} {eD:List (Key×V)} (e:H a=some (.dK eD)):mQ K H (.ref a) (.type "dict")
 |dT {a:Addr} {eD:List (List Key×V)} (e:H a=some (.dT eD)):mQ K H (.ref a) (.type "dict")
 |ins {a C dx:Addr} {fs:List (Str×V)} (e:H a=some (.ins C dx fs)) (cl:Cls K C) (ha:PySem.W.findIn K (.ref C) "__class__"=some (some (.builtin "object.__class__")))
   (hn:PySem.W.specialIn K (.builtin "object.__class__") "__get__"=some (some (.builtin "getset_descriptor.__get__"))) (SN:PySem.W.takesIn K (.builtin "object.__class__")=some true)
   (hm:PySem.W.mroIn K C (.type "object")=some true):mQ K H (.ref a) (.ref C)
theorem EF{x:V}{u t:Value}(I:Inv X e8 Z H s)(rx:RelV x u)(ty:mQ X.K H x t)(e:PySem.W.kitOne X.K t c=some b)(h:∀tk,Q (.bool b) {s with toks:=tk}):
  wpAny (model X.prog X.w) A (call (.builtin "isinstance") [u,c]) Q E s:=by
 cases ty with
 |non=>cases(show u=Value.none from rx);exact Gbx PySem.W.kitx_none I.kIn True.intro e (λz=>nomatch z) h
 |bl y=>cases(show u=Value.bool y from rx);exact Gbx PySem.W.kitx_bool I.kIn True.intro e (λz=>nomatch z) h
 |int i=>obtain⟨t,q⟩:=(show∃t,u=Value.int i t from rx);cases q;exact Gbx PySem.W.kitx_int I.kIn True.intro e (λz=>nomatch z) h
 |str y=>obtain⟨t,q⟩:=(show∃t,u=Value.str y t from rx);cases q;exact Gbx PySem.W.kitx_str I.kIn True.intro e (λz=>nomatch z) h
 |flt y=>obtain⟨t,q⟩:=(show∃t,u=Value.float y t from rx);cases q;exact Gbx PySem.W.kitx_float I.kIn True.intro e (λz=>nomatch z) h
 | @lst a xs ea=>
  cases(show u=Value.ref a from rx);obtain⟨_,_,n,_,h1⟩:=(show cS X.prog X.w H s.heap a (.lst xs) from I.hok a _ ea)
  exact Gbx PySem.W.kitx_list I.kIn ⟨_,h1,rfl⟩ e (λz=>nomatch z) h
 | @frz a ob xs ea=>
  cases(show u=Value.ref a from rx);obtain⟨_,_,_,n,_,h1⟩:=(show cS X.prog X.w H s.heap a (.frz ob (.lst xs)) from I.hok a _ ea)
  exact Gbx PySem.W.kitx_list I.kIn ⟨_,h1,rfl⟩ e (λz=>nomatch z) h
 | @tup a xs ea=>
  cases(show u=Value.ref a from rx);obtain⟨_,_,_,p⟩:=(show cS X.prog X.w H s.heap a (.tup xs) from I.hok a _ ea)
  obtain⟨o,h1,h2,_⟩:=p;exact Gbx PySem.W.kitx_tuple I.kIn ⟨o,h1,h2⟩ e (λz=>nomatch z) h
 | @dK a eD ea=>
  cases(show u=Value.ref a from rx);obtain⟨_,_,vs,_,p⟩:=(show cS X.prog X.w H s.heap a (.dK eD) from I.hok a _ ea)
  obtain⟨o,es,ep,h1,h2,_⟩:=p;exact Gbx PySem.W.kitx_dict I.kIn ⟨o,h1,h2.1⟩ e (λz=>nomatch z) h
 | @dT a eD ea=>
  cases(show u=Value.ref a from rx);obtain⟨_,_,xs,_,o,es,ep,h1,h2,_⟩:=(show cS X.prog X.w H s.heap a (.dT eD) from I.hok a _ ea)
  exact Gbx PySem.W.kitx_dict I.kIn ⟨o,h1,h2.1⟩ e (λz=>nomatch z) h
 | @ins a C dx fs ea cl ha hn SN hm=>
  cases(show u=Value.ref a from rx);obtain⟨mA,O,_⟩:=Jf I.hok ea;obtain⟨od,J,_⟩:=O.look;exact Gbx (PySem.W.kitx_own (cl.get _) cl.hd ha hn SN hm) I.kIn J e (λz=>nomatch z) h
end
structure iA(k:Nat)(A:Around):Prop where
 hd:A.handled=none
 dp:A.depth+3*k+5<recursionLimit
 un:A.units+16*k+200<cLine
variable{A:Around}
theorem iA.mono{j k:Nat}(r:iA k A)(h:j<=k):iA j A:=⟨r.hd,by have:=r.dp;lia,by have:=r.un;lia⟩
theorem iA.deeper{k:Nat}{A:Around}(r:iA (k+1) A)(env:Env):iA k (A.deeper env):=
 ⟨r.hd,by have:=r.dp;show A.depth+1+3*k+5<_;lia,by have:=r.un;show A.units+3+16*k+200<_;lia⟩
theorem iA.depth{k:Nat}{A:Around}(r:iA k A):A.depth<recursionLimit:=by have:=r.dp;lia
theorem iA.units{k:Nat}{A:Around}(r:iA k A):A.units+64<cLine:=by have:=r.un;lia
def Ql:TA:=λ_ H Q=>Q [] H
def NZ(ta:TE)(tr:TA):TA:=λZ H Q=>ta Z H λx H1=>tr Z H1 λxs H2=>Q (x::xs) H2
section
variable{X:Cx}{e:Expr}{es:List Expr}{te:TE}{t:TA}{pos:Pos}
theorem vm:PA X [] Ql:=λ_ _ _ _ H Q I h=>Calls.spliced_nil ⟨[],H,I,.nil,h⟩
theorem nN(ha:PE X e te)(hr:PA X es t)(hs:autoParam (starEach (e::es) X.env=(false,eval e X.env)::starEach es X.env) Za1._auto_1):PA X (e::es) (NZ te t):=by
 intro pos e8 s Z H Q I h;rw[hs];show wpAny _ _ (spliced ((false,eval e X.env)::backTo pos (starEach es X.env))) _ _ s;refine Calls.spliced_cons (thn (ha e8 s Z H _ I h) λu s1 ⟨x,H1,I1,r1,q1⟩=> ?_);exact thn (hr pos e8 s1 Z H1 _ I1 q1) λus s2 ⟨xs,H2,I2,r2,q2⟩=> ⟨x::xs,H2,I2,.cons r1 r2,q2⟩
def Qm(t:TA):TE:=λZ H Q=>t Z H λxs H1=>xs.length<=sizeLine/\∀p,H1 p=none->Q (.ref p) (upd H1 p (.tup xs))
def Qn(t:TA):TE:=λZ H Q=>t Z H λxs H1=>xs.length<=sizeLine/\∀p,H1 p=none->Q (.ref p) (upd H1 p (.lst xs))
theorem M0{x1}(h:PA X es t):PE X (.Tuple es x1 pos) (Qm t):=by
 intro e8 s Z H Q I hq;refine wpAny_Tuple_spliced (thn (h pos e8 s Z H _ I hq) λus s1 ⟨xs,H1,I1,r,z,q⟩=> ⟨by rw[<-r.length];exact z, ?_⟩);have hf:H1 s1.heap.objs.size=none:=I1.hok.fresh (Gaq _);refine⟨.ref s1.heap.objs.size,upd H1 s1.heap.objs.size (.tup xs),I1.laid (t' :=s1.toks) (λb u e=>Gaj _ e) (Gaq _) ?_,rfl,q _ hf⟩;exact⟨z,us,r,⟨_,GaD _ rfl,rfl,_,rfl⟩⟩
theorem M1(h:PA X es t):PE X (.List es pos) (Qn t):=by
 intro e8 s Z H Q I hq;refine wpAny_List_spliced (thn (h pos e8 s Z H _ I hq) λus s1 ⟨xs,H1,I1,r,z,q⟩=> ⟨by rw[<-r.length];exact z, ?_⟩);have hf:H1 s1.heap.objs.size=none:=I1.hok.fresh (Gaq _);refine⟨.ref s1.heap.objs.size,upd H1 s1.heap.objs.size (.lst xs),I1.laid (t' :=s1.toks) (λb u e=>Gaj _ e) (Gaq _) ?_,rfl,q _ hf⟩;exact⟨z,us,0,r,GaD _ rfl⟩
end
abbrev Sp:=List V->Hp->VK->XK->Prop
abbrev CXT:=List Env->Hp->Shared->XK->Value->Shared->Prop
structure Jg(P:Program)(w:World)(K:PySem.W.Frag)(mg:Str->Option Value)(base:Heap)(A:Around)(outer:List Env)(s:Shared)(H:Hp):Prop where
 frames:A.frames=some outer
 mod:Mod K mg base
 bs:∀b o,base.get? b=some o->s.heap.get? b=some o/\H b=none
 bsz:base.objs.size<=s.heap.objs.size
 qE:s.heap.FunFrames base outer
 frf:∀b∈frs outer,H b=none
 hok:HOk P w H s.heap
 bare:AllBare s.gens
def CE(outer:List Env)(P:Program)(w:World)(H:Hp)(s:Shared)(Q:VK)(u:Value)(s' :Shared):Prop:=
 ∃v H',s'.os=s.os/\AllBare s'.gens/\Un (frs outer) [] H H' s.heap s'.heap/\HOk P w H' s'.heap/\RelV v u/\Q v H'
def CR(CX:CXT)(outer:List Env)(P:Program)(w:World)(H:Hp)(s:Shared)(Q:VK)(E:XK)(r:Result)(s' :Shared):Prop:=
 match r with
 | .ok (.ret u)=>CE outer P w H s Q u s'
 | .ok _=>False
 | .error e=>CX outer H s E e s'
structure nO(P:Program)(w:World)(K:PySem.W.Frag)(mg:Str->Option Value)(base:Heap)(CX:CXT)(k:Nat)(f:Addr)(fd:FuncData)(ps:List Str)(sp:Sp):Prop where
 len:∀vs H Q E,sp vs H Q E->vs.length=ps.length
 run:∀(A:Around) (outer:List Env) (s:Shared) (H:Hp) (args:Args) (us:List Value) (vs:List V) (Q:VK) (E:XK),iA k A->Jg P w K mg base A outer s H->BindsTo s fd args (ps.zip us)->Vals vs us->sp vs H Q E->
  codeAny (model P w) A (.call (.ref f) args) (CR CX outer P w H s Q E) s
section
variable{X:Cx}{e8:List (Addr×Obj)}{Z:St}{H:Hp}{s s' :Shared}
theorem Inv.Qo(I:Inv X e8 Z H s):Jg X.prog X.w X.K X.mg X.base X.A X.stack s H:=
 ⟨I.ok.frames,I.ok.mod,I.bs,Gbf I.ok.bsz I.sz,I.stack,I.CU,I.hok,I.bare⟩
theorem Inv.after{Q:VK}{u:Value}(I:Inv X e8 Z H s)(h:CE X.stack X.prog X.w H s Q u s'):EP X e8 Z Q u s' :=by
 obtain⟨v,H',os,bare,un,hok,r,q⟩:=h;obtain⟨hh,g,d,t,TL⟩:=s';obtain rfl:TL =s.os:=os;exact⟨v,H',I.call (h' :=hh) (g' :=g) (d' :=d) (t' :=t) (ch:=[]) un hok bare (λb z=>absurd z (by simp)),r,q⟩
end
def O0(sp:Sp)(dvs:List V)(E:XK)(t:TA):TE:=λZ H Q=>t Z H λvs H1=>sp (vs++dvs) H1 Q E
def Binds(K:PySem.W.Frag)(fd:FuncData)(ps:List Str)(ds:List Value):Prop:=
 ∀(s:Shared) (us:List Value),K.In s.heap->(us++ds).length=ps.length->BindsTo s fd ⟨us,[]⟩ (ps.zip (us++ds))
variable{ps:List Str}
theorem Binds.all{K:PySem.W.Frag}{fd:FuncData}(h:∀us:List Value,us.length=ps.length->bindArgs fd ⟨us,[]⟩=pure (ps.zip us)):Binds K fd ps []:=λs us _ hl=>by
 rw[GaV] at hl⊢;exact .of_eq (h us hl)
def Passes(CX:CXT)(X:Cx)(E:XK):Prop:=∀(e8:List (Addr×Obj)) (Z:St) (H:Hp) (s:Shared) (e:Value) (s' :Shared),Inv X e8 Z H s->CX X.stack H s E e s' ->X.xe e s'
section
variable{X:Cx}{CX:CXT}{k:Nat}{f C:Addr}{fd:FuncData}{ps:List Str}{sp:Sp}{dvs:List V}{ds:List Value}{E:XK}{x m:Str}{p pos apos:Pos}{e o:Expr}{es:List Expr}{ta:TE}{t:TA}
theorem M3{e8:List (Addr×Obj)}{Z:St}{H:Hp}{s:Shared}{Q:VK}{us:List Value}{vs:List V}(F:nO X.prog X.w X.K X.mg X.base CX k f fd ps sp)(hr:iA k X.A)(hb:Binds X.K fd ps ds)(hd:Vals dvs ds)(hx:Passes CX X E)
  (I:Inv X e8 Z H s)(r:Vals vs us)(h:sp (vs++dvs) H Q E):wpAny (model X.prog X.w) X.A (call (.ref f) us) (EP X e8 Z Q) X.xe s:=by
 have r2:Vals (vs++dvs) (us++ds):=r.append hd;have hl:(us++ds).length=ps.length:=by rw[<-r2.length];exact F.len _ _ _ _ h
 refine wpAny_call (codeAny_mono (F.run X.A X.stack s H ⟨us,[]⟩ (us++ds) (vs++dvs) Q E hr I.Qo (hb s us I.kIn hl) r2 h) λr s' hq=> ?_);cases r with
 |error e=>exact hx e8 Z H s e s' I hq
 |ok fl=>
  cases fl with
  |ret u=>exact I.after hq
  |next=>exact False.elim hq
  |brk=>exact False.elim hq
  |cont=>exact False.elim hq
theorem Jh(F:nO X.prog X.w X.K X.mg X.base CX k f fd ps sp)(hr:iA k X.A)(hg:Gl X x)(hm:X.mg x=some (.ref f))(hk:PySem.W.keepIn X.K (.ref f)=true)(hb:Binds X.K fd ps ds)(hd:Vals dvs ds)(hx:Passes CX X E)
  (ha:PA X (e::es) t)(yt:autoParam ((x==("__debug__":Str))=false) Za2._auto_1)(he:autoParam (starEach (e::es) X.env=(false,eval e X.env)::starEach es X.env) Za1._auto_1)(xH:autoParam ((backTo pos (starEach es X.env)).any (·.1)=false) Za1._auto_1):
  PE X (.Call (.Name x p) (e::es) [] pos) (O0 sp dvs E t):=by
 intro e8 s Z H Q I h;refine Gdg (J3 I hg hm ?_ yt);refine PySem.W.callWith_K (h₀:=X.base) I.ok.mod.kin hk (thn (ha pos e8 s Z H _ I h) λus s1 ⟨vs,H1,I1,r,q⟩=> ⟨I1.kIn, ?_⟩) he xH;exact M3 F hr hb hd hx I1 r q
end
structure jK(N P:List Str)(sc:Scope):Prop where
 kind:sc.kind= .function
 co:sc.isCoroutine=false
 gen:sc.isGenerator=false
 nd:N.Nodup
 pre:N.take P.length=P
 par:∀x∈P,sc.names.lookup x=some .local\/sc.names.lookup x=some .cell
 Nk:∀y∈sc.names,y.2≠ .free
theorem u0{kindOf:Str->Option NameKind}{x:Str}:∀{binds:List (Str×Value)} {m:Str->Option Value},(∀v,(x,v)∉binds)->bindL kindOf binds m x=m x
 |[],_,_=>rfl
 |(n,v)::r,m,h=>by
  unfold bindL;rw[u0 λw hw=>h w (Gac _ hw)];split
  .have:x≠n:=by rintro rfl;exact h v Gaf
   simp[this]
  .rfl
theorem u3{kindOf:Str->Option NameKind}{x:Str}:∀{binds:List (Str×Value)} {m:Str->Option Value},(∀v,(x,v)∉binds)->bindC kindOf binds m x=m x
 |[],_,_=>rfl
 |(n,v)::r,m,h=>by
  unfold bindC;rw[u3 λw hw=>h w (Gac _ hw)];split
  .rfl
  .have:x≠n:=by rintro rfl;exact h v Gaf
   simp[this]
theorem u4{kindOf:Str->Option NameKind}{x:Str}{v:Value}:∀{P:List Str} {vs:List Value} {i:Nat} {m:Str->Option Value},P.Nodup->P[i]? =some x->vs[i]? =some v->kindOf x=some .local->
  bindL kindOf (P.zip vs) m x=some v
 |[],_,_,_,_,h,_,_=>by simp at h
 |_::_,[],_,_,_,_,h,_=>by simp at h
 |p::P,w::vs,0,m,nd,h1,h2,hk=>by
  simp at h1 h2;subst h1;subst h2
  show bindL kindOf ((p,w)::P.zip vs) m p=_;unfold bindL;rw[u0 λv hv=>(GbO.mp nd).1 (List.of_mem_zip hv).1,Gah hk];simp
 |p::P,w::vs,i+1,m,nd,h1,h2,hk=>by
  show bindL kindOf ((p,w)::P.zip vs) m x=_;unfold bindL;exact u4 (i:=i) (GbO.mp nd).2 (by simpa using h1) (by simpa using h2) hk
theorem u5{kindOf:Str->Option NameKind}{x:Str}{v:Value}:∀{P:List Str} {vs:List Value} {i:Nat} {m:Str->Option Value},P.Nodup->P[i]? =some x->vs[i]? =some v->kindOf x≠some .local->
  bindC kindOf (P.zip vs) m x=some v
 |[],_,_,_,_,h,_,_=>by simp at h
 |_::_,[],_,_,_,_,h,_=>by simp at h
 |p::P,w::vs,0,m,nd,h1,h2,hk=>by
  simp at h1 h2;subst h1;subst h2
  show bindC kindOf ((p,w)::P.zip vs) m p=_;unfold bindC;rw[u3 λv hv=>(GbO.mp nd).1 (List.of_mem_zip hv).1,Gag hk];simp
 |p::P,w::vs,i+1,m,nd,h1,h2,hk=>by
  show bindC kindOf ((p,w)::P.zip vs) m x=_;unfold bindC;exact u5 (i:=i) (GbO.mp nd).2 (by simpa using h1) (by simpa using h2) hk
noncomputable def start(N:List Str)(vs:List V):St:=vs.map some++List.replicate (N.length -vs.length) none
noncomputable def wM(CX:CXT)(P:Program)(w:World)(K:PySem.W.Frag)(mg:Str->Option Value)(base:Heap)(N:List Str)(qual:Str)(scope:Scope)(f:Addr)(cd:Value)(A:Around)(outer:List Env)(s:Shared)(H:Hp)(E:XK):Cx where
 prog:=P
 w:=w
 K:=K
 mg:=mg
 base:=base
 A:=A.deeper (envOfC qual scope s.heap.objs.size f cd)
 N:=N
 s₀:=s
 H0:=H
 env:=envOfC qual scope s.heap.objs.size f cd
 outer:=outer
 stack:=envOfC qual scope s.heap.objs.size f cd::outer
 ex:=[]
 calm:=true
 fn:=λ_=>true
 pn:=[]
 xe:=λe s' =>wpAny (model P w) (A.deeper (envOfC qual scope s.heap.objs.size f cd)) (leaving (envOfC qual scope s.heap.objs.size f cd) e) (λ_ R9 =>CX outer H s E e R9) (λe' R9 =>CX outer H s E e' R9) s'
theorem wN{sc:Scope}{n:Nat}{x:Str}(h:sc.names.lookup x=some .cell):∃c,(cellsFrom n sc.names []).lookup x=some c:=by
 have q:=PySem.W.cellsFrom_some sc.names n [] (.inl h);exact Option.isSome_iff_exists.mp q
variable{f:Addr}{scope:Scope}{qual:Str}{N:List Str}{base:Heap}{mg:Str->Option Value}{w:World}{P:Program}
theorem EG{CX:CXT}{K:PySem.W.Frag}{cd:Value}{outer:List Env}{s s1:Shared}{H:Hp}{E:XK}{us:List Value}{vs:List V}
  (S:jK N ps scope)(hd:A.handled=none)(e0:Jg P w K mg base A outer s H)(hl:vs.length=ps.length)(r:Vals vs us)
  (x:InCallC s s.heap.objs.size (bindL (envOfC qual scope s.heap.objs.size f cd).kindOf (ps.zip us) λ_=>none) (cellsFrom (s.heap.objs.size+1) scope.names []) (bindC (envOfC qual scope s.heap.objs.size f cd).kindOf (ps.zip us) λ_=>none) s1):
  Inv (wM CX P w K mg base N qual scope f cd A outer s H E) [] (start N vs) H s1:=by
 have xH:ps.length<=N.length:=by have:=congrArg List.length S.pre;rw[GcR] at this;lia
 obtain⟨h1,tk,rfl,hk⟩:=x.done;have noA:∀b:Addr,b∉(wM CX P w K mg base N qual scope f cd A outer s H E).ex:=λb z=>absurd (show b∈([]:List Addr) from z) (by simp);refine⟨⟨e0.mod,S.kind,rfl,rfl,Gaq _,λy z c h1 h2=> ?_,λy hy=> ?_,λy c _ h=> ?_,λ_=>hd,Around.frames_deeper e0.frames,.inr ⟨rfl,rfl⟩,λb z=>absurd z (noA b),e0.bs,e0.bsz,λb _ _=>noA b,λb z=>absurd z (noA b),e0.qE,e0.frf⟩,
  rfl,e0.bare,Un.kept hk,⟨_,x.toInCall.ns,λi y v h1 h2 h3=> ?_⟩,λy c h=> ⟨_,x.cell y c h⟩,e0.hok.fresh (Gaq _),λy c h=> ?_,λp hp=>absurd (show p∈([]:List (Addr×Obj)) from hp) (by simp),e0.hok.kept hk, ?_⟩
 .exact name_of_addr x.apart (PySem.mem_of_lookup h1) (PySem.mem_of_lookup h2)
 .have hy:scope.names.lookup y=some .cell\/scope.names.lookup y=some .free:=hy;rcases hy with hy|hy
  .exact wN hy
  .exact absurd rfl (S.Nk _ (PySem.mem_of_lookup hy))
 .exact Gde (x.above y c (PySem.mem_of_lookup h))
 .have hi:i<vs.length:=by
   unfold start at h2;by_cases hi:i<vs.length
   .exact hi
   .rw[Gbq (by simpa using hi)] at h2;rw[GcD] at h2;split at h2<;>cases h2
  have ha:vs[i]? =some v:=by
   unfold start at h2;rw[Gbu (by simpa using hi),Gaw] at h2;cases e:vs[i]? with
   |none=>rw[e] at h2;cases h2
   |some a=>rw[e] at h2;cases h2;rfl
  obtain⟨u,hu,rv⟩:=r.get ha;have hp:ps[i]? =some y:=by
   rw[<-S.pre,Gcx (by lia)];exact h1
  have ndP:ps.Nodup:=by rw[<-S.pre];exact S.nd.sublist (List.take_sublist _ _)
  refine⟨u,rv, ?_⟩;rcases S.par y (GaE hp) with k|k
  .exact .inl ⟨k,u4 ndP hp hu k⟩
  .obtain⟨c,e⟩:=wN (n:=s.heap.objs.size+1) k;refine .inr ⟨.inl k,c,e, ?_⟩;have q:=x.cell y c e;rw[u5 ndP hp hu (by show scope.names.lookup y≠_;rw[k];decide)] at q;exact q
 .exact e0.hok.fresh (Gde (x.above y c (PySem.mem_of_lookup h)))
 .unfold start;show _=N.length;rw[Gai,Gab,GdE];lia
theorem O1{CX:CXT}{K:PySem.W.Frag}{k:Nat}{name:Str}{params:Arguments}{body:List Stmt}{dV kV doc pm hJ ct oc:Value}{an od:Option Addr}
  {yW:Array (Option Value)}{sp:Sp}(lk:K.lookup f=some ⟨oc,od,.func (PySem.W.fnOf name qual params body scope dV kV doc pm an hJ ct),yW⟩)(yc:PySem.W.codeIn K hJ qual=true)(S:jK N ps scope)
  (len:∀vs H Q E,sp vs H Q E->vs.length=ps.length)
  (xZ:∀(A:Around) (outer:List Env) (s:Shared) (H:Hp) (vs:List V) (Q:VK) (E:XK),iA k (A.deeper (envOfC qual scope s.heap.objs.size f hJ))->sp vs H Q E->
   ∃t,PSs (wM CX P w K mg base N qual scope f hJ A outer s H E) body t/\t {nx:=λ_ H' =>Q .non H',rt:=Q} (start N vs) H):
  nO P w K mg base CX (k+1) f (PySem.W.fnOf name qual params body scope dV kV doc pm an hJ ct) ps sp:=by
 refine⟨len,λA outer s H args us vs Q E hr e0 hb r yL=> ?_⟩;have hl:=len _ _ _ _ yL;have KX:K.In s.heap:=e0.mod.kin.keeps λb o e=>(e0.bs b o e).1;have lim:s.heap.NoLimit:=e0.mod.nolimit.keeps λb o e=>(e0.bs b o e).1;have hkind:∀y∈ps.zip us,scope.names.lookup y.1=some .local\/(scope.names.lookup y.1=some .cell/\((cellsFrom (s.heap.objs.size+1) scope.names []).lookup y.1).isSome=true):=λ⟨n,v⟩ hy=>by
  rcases S.par n (List.of_mem_zip hy).1 with q|q
  .exact .inl q
  .exact .inr ⟨q,PySem.W.cellsFrom_some _ _ _ (.inl q)⟩
 refine codeAny_call_function hr.depth (KX _ _ lk) rfl S.co S.gen rfl (PySem.W.codeRec_of KX yc) (hb _ _ _ _ ?_);refine wpAny_newFunctionEnv_cells S.kind hkind λenv he s1 x=> ?_;subst he;refine⟨lim.keeps x.toInCall.keep,codeAny_func ?_⟩;obtain⟨t,ht,hq⟩:=xZ A outer s H vs Q E (hr.deeper _) yL;have I:Inv (wM CX P w K mg base N qual scope f hJ A outer s H E) [] (start N vs) H s1:=EG S hr.hd e0 hl r x;refine Gci (ht [] s1 (start N vs) H _ I hq) (λfl s' hs=> ?_) λe s' hs=>hs;have fin:∀{Z' :St} {H' :Hp} {v:V} {u:Value},Inv (wM CX P w K mg base N qual scope f hJ A outer s H E) [] Z' H' s' ->RelV v u->Q v H' ->CE outer P w H s Q u s' :=
  λ{Z' H' v u} J rv q=> ⟨v,H',J.os,J.bare,J.base,J.hok,rv,q⟩
 cases fl with
 |ret u=>
  obtain⟨v,Z',H',J,rv,q⟩:=hs;exact fin J rv q
 |next=>
  obtain⟨Z',H',J,q⟩:=hs;exact fin (v:=V.non) (u:=Value.none) J rfl q
 |brk=>
  obtain⟨_,_,_,q⟩:=hs;exact False.elim q
 |cont=>
  obtain⟨_,_,_,q⟩:=hs;exact False.elim q
section
variable{X:Cx}{x:Str}{p pos:Pos}{e:Expr}{es:List Expr}{t:TA}{id T:String}{r:List V->Hp->VK->Prop}
def tCB(r:List V->Hp->VK->Prop)(t:TA):TE:=λZ H Q=>t Z H λvs H1=>r vs H1 Q
theorem qG(hc:fq X (.builtin id) r)(hg:Gl X x)(hm:X.mg x=none)(hv:bootBuiltins x=some (.builtin id))(ha:PA X (e::es) t)(hn:autoParam (x≠"__name__") Za2._auto_1)(yt:autoParam ((x==("__debug__":Str))=false) Za2._auto_1)
  (he:autoParam (starEach (e::es) X.env=(false,eval e X.env)::starEach es X.env) Za1._auto_1)(xH:autoParam ((backTo pos (starEach es X.env)).any (·.1)=false) Za1._auto_1):PE X (.Call (.Name x p) (e::es) [] pos) (tCB r t):=by
 intro e8 s Z H Q I h;refine Gdg (kz I hg hm hv ?_ hn yt);exact PyProof.Rows.callWith_builtin1 (thn (ha pos e8 s Z H _ I h) λus s1 ⟨vs,H1,I1,r1,q1⟩=>hc e8 s1 Z H1 vs us Q I1 r1 q1) he xH
theorem u6(hc:fq X (.type T) r)(hg:Gl X x)(hm:X.mg x=none)(hv:bootBuiltins x=some (.type T))(ha:PA X (e::es) t)(hn:autoParam (x≠"__name__") Za2._auto_1)(yt:autoParam ((x==("__debug__":Str))=false) Za2._auto_1)
  (he:autoParam (starEach (e::es) X.env=(false,eval e X.env)::starEach es X.env) Za1._auto_1)(xH:autoParam ((backTo pos (starEach es X.env)).any (·.1)=false) Za1._auto_1):PE X (.Call (.Name x p) (e::es) [] pos) (tCB r t):=by
 intro e8 s Z H Q I h;refine Gdg (kz I hg hm hv ?_ hn yt);exact GbN (thn (ha pos e8 s Z H _ I h) λus s1 ⟨vs,H1,I1,r1,q1⟩=>hc e8 s1 Z H1 vs us Q I1 r1 q1) he xH
end
end L2
namespace HT
open PySem PyProof.Rows
noncomputable def lexLt:List Int->List Int->Bool
 |[],[]=>false
 |[],_::_=>true
 |_::_,[]=>false
 |x::xs,y::ys=>if x=y then lexLt xs ys else decide (x<y)
theorem BE(x y:Int)(xs ys:List Int):lexLt (x::xs) (y::ys)=if x=y then lexLt xs ys else decide (x<y):=rfl
theorem tv:lexLt [] []=false:=rfl
theorem qH(y:Int)(ys:List Int):lexLt [] (y::ys)=true:=rfl
theorem qI(x:Int)(xs:List Int):lexLt (x::xs) []=false:=rfl
theorem Gr(A:Around)(s:Shared)(a:Int)(t:Tok)(c:Int)(u:Tok):∃e,SeqAt.EqAt A s (.int a t) (.int c u) e/\(e=true↔a=c):=
 ⟨(a==c),SeqAt.EqAt.int_int a t c u,by simp⟩
theorem Gs(A:Around)(s:Shared)(a:Int)(t:Tok)(c:Int)(u:Tok)(prog:Program)(w:World)(E:Value->Shared->Prop)(Q:Value->Shared->Prop)(h:Q (.bool (decide (a<c))) s):
  wpAny (model prog w) A (richCompare .Lt (.int a t) (.int c u)) Q E s:=
 (PyProof.Rows.lt_int h:wpAny (model prog w) A (compareOp .Lt (.int a t) (.int c u)) Q E s)
section
open PySem.SeqAt
open PySem.AutoSeq1 (wpAny_loadPart')
open PySem.MeetsSeq PySem.MeetsSeq2 PySem.MeetsSeq3
theorem tx(l b:Addr)(items h7:Array Value)(n n2:Nat)(dd yT:Option Addr)(sl yJ:Array (Option Value))(ns ms:List Int)(hi:IntsAre items.toList ns)(hj:IntsAre h7.toList ms):
  Meets (Builtin.«tuple.__lt__» ⟨[.ref l,.ref b],[]⟩)
   (λ_ R s=>s.heap.get? l=some {cls:= .type "tuple",dict:=dd,data:= .seq items n,slots:=sl}/\s.heap.get? b=some {cls:= .type "tuple",dict:=yT,data:= .seq h7 n2,slots:=yJ}/\
    R (.ok (.ret (.bool (lexLt ns ms)))) s):=
 .of_wp λprog w A R s h=>by
  obtain⟨hp,g,d,tk,os⟩:=s;obtain⟨hl,hb,h⟩:=h
  have f2:=AutoSeq1.sub_tuple_tuple;have z1:items.size=ns.length:=by rw[<-hi.length];simp
  have z2:h7.size=ms.length:=by rw[<-hj.length];simp
  wp_walk using wpAny_loadPart' hl,wpAny_loadPart' hb,wpAny_forIn_list _ (λrest b s' =>b.1=none/\s' =⟨hp,g,d,tk,os⟩/\∃(vs ws:List Value) (zu xS :List Int),rest=vs.zip ws/\
   IntsAre vs zu /\IntsAre ws xS /\zu.length+h7.size=xS.length+items.size/\R (.ok (.ret (.bool (lexLt zu xS)))) ⟨hp,g,d,tk,os⟩) _
  case turn=>
   rintro⟨y,x⟩ rest b s' ⟨xq,rfl,vs,ws,zu,xS,hz,RM,Ri,eJ,hR⟩;cases RM with
   |nil=>rw[List.zip_nil_left] at hz;cases hz
   |cons a t RL =>
    cases Ri with
    |nil=>rw[List.zip_nil_right] at hz;cases hz
    |cons c u RJ =>
     rw[List.zip_cons_cons] at hz;injection hz with hyx zN
     injection hyx with hy hx
     subst hy hx;rw[BE] at hR;simp only[Gay] at eJ;obtain⟨e,he,zS⟩:=Gr A.in1 ⟨hp,g,d,tk,os⟩ a t c u;refine Gaa (he prog w _ _ ?_);cases e with
     |true=>
      rw[Gah (zS.mp rfl)] at hR
      wp_walk
      exact⟨rfl,rfl,_,_,_,_,zN,RL,RJ,by lia,hR⟩
     |false=>
      rw[Gag (λq=>absurd (zS.mpr q) Gal)] at hR;have hri:=Gs A.in1 ⟨hp,g,d,tk,os⟩ a t c u prog w
      wp_walk using hri
      exact⟨_,rfl,by simpa using hR⟩
  case fin=>
   rintro⟨b1,b2⟩ s' ⟨xq,rfl,vs,ws,zu,xS,hz,RM,Ri,eJ,hR⟩;simp only at xq;subst xq;have hv:lexLt zu xS =decide (items.size<h7.size):=by
    cases RM with
    |nil=>
     cases Ri with
     |nil=>
      simp only[GbP] at eJ;rw[tv];exact(Gax (by lia)).symm
     |cons c u hw=>
      simp only[GbP,Gay] at eJ;rw[qH];exact(Gaz (by lia)).symm
    |cons a t hv=>
     cases Ri with
     |nil=>
      simp only[GbP,Gay] at eJ;rw[qI];exact(Gax (by lia)).symm
     |cons c u hw=>
      rw[List.zip_cons_cons] at hz;cases hz
   rw[hv] at hR
   wp_walk
   exact⟨_,rfl,by simpa[Builtin.Tuple.tupleCompareSizes] using hR⟩
  case h=>
   exact⟨rfl,rfl,items.toList,h7.toList,ns,ms,rfl,hi,hj,by lia,h⟩
end
section
variable{prog:Program}{w:World}{A:Around}{E:Value->Shared->Prop}{s:Shared}
variable{items:Array Value}{b:Addr}
theorem BG{l:Addr}{h7:Array Value}{ns ms:List Int}{Q:Value->Shared->Prop}(hl:IsTup s.heap l items)(hb:IsTup s.heap b h7)(hi:IntsAre items.toList ns)(hj:IntsAre h7.toList ms)
  (hu:A.units<cLine)(h:Q (.bool (lexLt ns ms)) s):wpAny (model prog w) A (compareOp .Lt (.ref l) (.ref b)) Q E s:=by
 obtain⟨⟨cls,dd,data,sl⟩,ho,hc,n,hd⟩:=id hl;obtain⟨⟨R4,yT,data2,yJ⟩,ya,yF,n2,hd2⟩:=id hb;simp only at hc hd yF hd2;subst hc hd yF hd2;exact richCompare_meets_room (op:= .Lt) ⟨_,ho,rfl⟩ ⟨_,ya,rfl⟩ PySem.F.slot_tuple_lt PySem.F.entry_tuple_lt (PySem.F.args_tuple_lt_2 _ _) (tx l b items h7 n n2 dd yT sl yJ ns ms hi hj)
  ⟨ho,ya,show Value.bool (lexLt ns ms)≠Value.notImplemented/\Q (.bool (lexLt ns ms)) s from⟨(λx=>nomatch x),h⟩⟩ hu
theorem Ji{t:Addr}{vs ws:List Value}{Q:Value->Shared->Prop}(ht:IsTup s.heap t vs.toArray)(hb:IsTup s.heap b ws.toArray)(hv:vs≠[])
  (h1:ws=[]->Q (.ref t) s)(h2:ws≠[]->Q (.ref s.heap.objs.size) {s with heap:=s.heap.push {cls:= .type "tuple",data:= .seq (vs++ws).toArray}})
  (xW:vs.length+ws.length<=sizeLine):wpAny (model prog w) A (binaryOp .Add (.ref t) (.ref b)) Q E s:=by
 obtain⟨⟨cls,dd,data,sl⟩,ho,hc,n,hd⟩:=id ht;obtain⟨⟨R4,yT,data2,yJ⟩,ya,yF,n2,hd2⟩:=id hb;simp only at hc hd yF hd2;subst hc hd yF hd2;have e:vs.toArray++ws.toArray=(vs++ws).toArray:=by simp
 by_cases hw:ws=[]
 .exact concat_meets ⟨_,ho,rfl⟩ ⟨_,ya,rfl⟩ noFill_tuple_add seq_tuple_add Gdw Gdm (Gdh _ _)
   (tuple_addW1 t b vs.toArray ws.toArray n n2 dd yT sl yJ (by simpa using hv) (by simp[hw])) ⟨ho,ya,h1 hw⟩
 .refine concat_meets ⟨_,ho,rfl⟩ ⟨_,ya,rfl⟩ noFill_tuple_add seq_tuple_add Gdw Gdm (Gdh _ _)
   (tuple_addW2 t b vs.toArray ws.toArray n n2 dd yT sl yJ (by simpa using hv) (by simpa using hw) (by rw[Gav,Gav];exact xW)) ⟨ho,ya, ?_⟩
  rw[e];exact h2 hw
noncomputable def sIx(n d:Nat):Option Int->Nat
 |none=>d
 |some v=>if v<0 then(v+(n:Int)).toNat else min v.toNat n
theorem M4(n d:Nat)(hd:d<=n)(o:Option Int):sIx n d o<=n:=by
 cases o with
 |none=>exact hd
 |some v=>
  show(if v<0 then(v+(n:Int)).toNat else min v.toNat n)<=n;by_cases hv:v<0
  .rw[Gah hv];lia
  .rw[Gag hv];exact Nat.min_le_right _ _
theorem CW(v:Int)(n d:Nat):(if v<0 then max (v+(n:Int)) 0 else min v (n:Int))=((sIx n d (some v):Nat):Int):=by
 show(if v<0 then max (v+(n:Int)) 0 else min v (n:Int))=(((if v<0 then(v+(n:Int)).toNat else min v.toNat n):Nat):Int);by_cases hv:v<0
 .simp only[Gah hv];lia
 .simp only[Gag hv];lia
theorem BH(lo hi:Option Int)(n:Nat):Builtin.Slice.sliceAdjust lo hi 1 (n:Int)=(((sIx n 0 lo:Nat):Int),((sIx n n hi:Nat):Int)):=by
 have h1:¬((1:Int)<0):=by lia
 unfold Builtin.Slice.sliceAdjust;simp only[h1,GbW];refine Prod.ext ?_ ?_
 .cases lo with
  |none=>rfl
  |some v=>exact CW v n 0
 .cases hi with
  |none=>rfl
  |some v=>exact CW v n n
theorem BI(i j:Nat):Builtin.Slice.slicePlaces (i:Int) (j:Int) 1=j -i:=by
 unfold Builtin.Slice.slicePlaces;have h1:(1:Int)>0:=by lia
 simp only[h1,GbK,Int.ediv_one];split<;>lia
theorem qJ{v:Value}{o:Option Int}{Q:Option Int->Shared->Prop}(p:IsPart v o)(h:Q o s):wpAny (model prog w) A (Builtin.Slice.slicePartIndex v) Q E s:=by
 cases p with
 |none=>exact slicePart_none h
 |int i t=>exact slicePart_int h
variable{lo hi:Option Int}{vl vu:Value}{sl:Addr}
theorem oO{n:Nat}{Q:Int×Int×Nat->Shared->Prop}(hs:s.heap.IsSliceOf sl vl vu .none)(pl:IsPart vl lo)(pu:IsPart vu hi)
  (h:Q (((sIx n 0 lo:Nat):Int),1,sIx n n hi -sIx n 0 lo) s):wpAny (model prog w) A (Builtin.Slice.sliceApplied (.ref sl) (pure (n:Int))) Q E s:=by
 obtain⟨os,yr,T4,yb⟩:=id hs;unfold Builtin.Slice.sliceApplied Builtin.Slice.sliceFields;refine Gaa (Gaa (wpAny_field yr yb (x:=vl) rfl (Gaa (wpAny_field yr yb (x:=vu) rfl (Gaa (wpAny_field yr yb (x:= .none) rfl (Gae ?_)))))));refine Gaa (slicePart_none ?_);show wpAny _ _ (if((1:Int)==0)=true then _ else _) _ _ s;rw[Gag (by decide)];refine Gaa (qJ pl (Gaa (qJ pu (Gaa (Gae ?_)))));show wpAny _ _ (match Builtin.Slice.sliceAdjust lo hi 1 (n:Int) with|(lo,hi)=>pure (lo,(1:Int),Builtin.Slice.slicePlaces lo hi 1)) _ _ s;rw[BH lo hi n];show wpAny _ _ (pure (((sIx n 0 lo:Nat):Int),(1:Int),Builtin.Slice.slicePlaces ((sIx n 0 lo:Nat):Int) ((sIx n n hi:Nat):Int) 1)) _ _ s;rw[BI];exact Gae h
theorem Gu(xs:Array Value)(i k:Nat):((List.range k).filterMap λ(m:Nat)=>xs[((i:Int)+(m:Int)*1).toNat]?).toArray=((xs.toList.drop i).take k).toArray:=by
 have e:(λ(m:Nat)=>xs[((i:Int)+(m:Int)*1).toNat]?)=λm=>xs[i+m]? :=by
  funext m
  have:((i:Int)+(m:Int)*1).toNat=i+m:=by lia
  rw[this]
 rw[e];have:=pick_run xs i k;rw[List.filterMap_map] at this;have e2:((λx=>xs[x]?)∘λx=>i+x)=λm=>xs[i+m]? :=rfl;rw[e2] at this;rw[this]
theorem nP{t:Addr}{Q:Value->Shared->Prop}(ht:IsTup s.heap t items)(hs:s.heap.IsSliceOf sl vl vu .none)(pl:IsPart vl lo)(pu:IsPart vu hi)
  (hw:¬(sIx items.size 0 lo=0/\sIx items.size items.size hi=items.size))
  (h:Q (.ref s.heap.objs.size) {s with heap:=s.heap.push {cls:= .type "tuple",data:= .seq ((items.toList.drop (sIx items.size 0 lo)).take (sIx items.size items.size hi -sIx items.size 0 lo)).toArray}})
  (xW:items.size<=sizeLine):wpAny (model prog w) A (getItem (.ref t) (.ref sl)) Q E s:=by
 have htake:sizeOk (.seq ((items.toList.drop (sIx items.size 0 lo)).take (sIx items.size items.size hi -sIx items.size 0 lo)).toArray):=by
  show((items.toList.drop (sIx items.size 0 lo)).take (sIx items.size items.size hi -sIx items.size 0 lo)).toArray.size<=sizeLine;rw[Gav,GcR,GcS,GaN];lia
 have hj:sIx items.size items.size hi<=items.size:=M4 _ _ (Gaq _) hi;obtain⟨os,yr,T4,yb⟩:=id hs;have hTs:s.TypeIs (.ref sl) "slice":=⟨os,yr,T4⟩
 unfold getItem
 try with_reducible refine GbJ ?_
 first|refine Gaa (Gae ?_)|skip
 refine Gaa (wpAny_sequenceKey ht.typeIs (by decide) ?_);refine Gaa (Gbz (name:=Str.ofString "__getitem__") ht.typeIs GcC
  (Gbo GcC ht.typeIs entry_tuple_getitem ?_ (args_tuple_getitem _ _)))
 show wpAny _ _ (Builtin.Tuple.tupleItemsOf (.ref t)>>=_) _ _ s;refine Gaa (tupleItemsOf_ ht ?_);refine Gaa (GdJ hTs ?_);rw[Gah (by decide)];refine Gaa (oO hs pl pu ?_);have hno:¬((((sIx items.size 0 lo:Nat):Int)==0&&(1:Int)==1&&(sIx items.size items.size hi -sIx items.size 0 lo)==items.size)=true):=by
  intro q;rw[Gan,Gan] at q;have q1:((sIx items.size 0 lo:Nat):Int)=0:=eq_of_beq q.1.1;have q2:sIx items.size items.size hi -sIx items.size 0 lo=items.size:=eq_of_beq q.2;exact hw ⟨by lia,by lia⟩
 show wpAny _ _ (if(((sIx items.size 0 lo:Nat):Int)==0&&(1:Int)==1&&(sIx items.size items.size hi -sIx items.size 0 lo)==items.size)=true then _ else _) _ _ s;rw[Gag hno,Gu]
 first
  |exact Gaa (m:=Builtin.Tuple.tupleExact _) (Gbn (Gae ⟨_,rfl,Gae h⟩) htake)
  |exact Gaa (m:=Builtin.Tuple.tupleExact _) (Gbn (Gaa (Gae (Gae ⟨_,rfl,Gae h⟩))) htake)
  |exact Gaa (Gaa (m:=Builtin.Tuple.tupleExact _) (Gbn (Gae (Gae ⟨_,rfl,Gae h⟩)) htake))
  |exact Gaa (Gaa (m:=Builtin.Tuple.tupleExact _) (Gbn (Gae ⟨_,rfl,Gae h⟩) htake))
end
end HT
namespace L2
open PySem PySem.Spec PyProof.Rows
abbrev TO:=St->Hp->(Option Int->Hp->Prop)->Prop
def PO(X:Cx)(e:Option Expr)(t:TO):Prop:=
 ∀(e8:List (Addr×Obj)) (s:Shared) (Z:St) (H:Hp) (Q:Option Int->Hp->Prop),Inv X e8 Z H s->t Z H Q->
  wpAny (model X.prog X.w) X.A (evalPart e X.env) (λu s' =>∃o H',Inv X e8 Z H' s' /\IsPart u o/\Q o H') X.xe s
def Jj:TO:=λ_ H Q=>Q none H
def O2(t:TE):TO:=λZ H Q=>t Z H λx H1=>∃i,x= .int i/\Q (some i) H1
theorem intsAre_of{ns:List Int}:∀{us:List Value},Vals (ns.map V.int) us->IntsAre us ns:=by
 induction ns with
 |nil=>intro us r;rw[Gdi] at r;cases r;exact .nil
 |cons n ns ih=>
  intro us r;rw[GaA] at r;cases r with
  |cons r1 r2=>
   obtain⟨t,e⟩:=r1;subst e;exact .cons n t (ih r2)
section
variable{X:Cx}{e:Expr}{te:TE}{lo hi:Option Expr}{tl th:TO}{pos p2:Pos}
theorem Jk:PO X none Jj:=by
 intro e8 s Z H Q I h;rw[evalPart_none];exact Gae ⟨none,H,I,.none,h⟩
theorem Jl(h:PE X e te):PO X (some e) (O2 te):=by
 intro e8 s Z H Q I hw;rw[evalPart_some];refine thn (h e8 s Z H _ I hw) λu s1 ⟨x,H1,I1,r1,q1⟩=> ?_;obtain⟨i,rfl,q⟩:=q1;obtain⟨t,rfl⟩:=r1;exact⟨some i,H1,I1,.int i t,q⟩
def SlR(X:Cx)(r:V->Option Int->Option Int->Hp->VK->Prop):Prop:=
 ∀(e8:List (Addr×Obj)) (s:Shared) (Z:St) (H:Hp) (x:V) (v vl vu:Value) (lo hi:Option Int) (sl:Addr) (Q:VK),Inv X e8 Z H s->RelV x v->s.heap.IsSliceOf sl vl vu .none->IsPart vl lo->IsPart vu hi->r x lo hi H Q->
  ∃T id,typeLookup (.type T) "__getitem__"=pure (some (.builtin id))/\s.TypeIs v T/\wpAny (model X.prog X.w) X.A (getItem v (.ref sl)) (EP X e8 Z Q) X.xe s
theorem SlR.or{r r' :V->Option Int->Option Int->Hp->VK->Prop}(h:SlR X r)(h' :SlR X r'):SlR X (λx lo hi H Q=>r x lo hi H Q\/r' x lo hi H Q):=by
 intro e8 s Z H x v vl vu lo hi sl Q I rx hs pl pu q;rcases q with q|q
 .exact h e8 s Z H x v vl vu lo hi sl Q I rx hs pl pu q
 .exact h' e8 s Z H x v vl vu lo hi sl Q I rx hs pl pu q
def tSl(r:V->Option Int->Option Int->Hp->VK->Prop)(te:TE)(tl th:TO):TE:=λZ H Q=>te Z H λx H1=>tl Z H1 λl H2=>th Z H2 λu H3=>r x l u H3 Q
theorem Gv{r:V->Option Int->Option Int->Hp->VK->Prop}(hr:SlR X r)(he:PE X e te)(hl:PO X lo tl)(hu:PO X hi th):PE X (.Subscript e (.Slice lo hi none p2) pos) (tSl r te tl th):=by
 intro e8 s Z H Q I h;refine Subscript_ (thn (he e8 s Z H _ I h) λv s1 ⟨x,H1,I1,r1,q1⟩=> ?_);refine wpAny_Slice (thn (hl e8 s1 Z H1 _ I1 q1) λvl s2 ⟨l,H2,I2,pl,q2⟩=>thn (hu e8 s2 Z H2 _ I2 q2) λvu s3 ⟨u,H3,I3,pu,q3⟩=> ?_);rw[evalPart_none];refine Gae ?_;have I4:Inv X e8 Z H3 {s3 with heap:=s3.heap.push {cls:= .type "slice",data:= .fields #[vl,vu,.none]}}:=I3.kept (t' :=s3.toks) λb ob q=>Gaj _ q;obtain⟨T,id,hT,ht,hg⟩:=hr e8 {s3 with heap:=s3.heap.push {cls:= .type "slice",data:= .fields #[vl,vu,.none]}} Z H3 x v vl vu l u s3.heap.objs.size Q I4 r1 (Heap.IsSliceOf.new ..) pl pu q3;show wpAny (model X.prog X.w) X.A (subscriptTail e (.Slice lo hi none p2) v (.ref s3.heap.objs.size)) (EP X e8 Z Q) X.xe {s3 with heap:=s3.heap.push {cls:= .type "slice",data:= .fields #[vl,vu,.none]}};exact tail_any (ops:=[.ref s3.heap.objs.size,v]) ht hT hg (by with_unfolding_all rfl)
noncomputable def wO(xs:List V)(lo hi:Option Int):List V:=(xs.drop (HT.sIx xs.length 0 lo)).take (HT.sIx xs.length xs.length hi -HT.sIx xs.length 0 lo)
theorem pL(xs:List V)(lo hi:Option Int):(wO xs lo hi).length<=xs.length:=by
 unfold wO;rw[GcR,GcS];lia
def Qp(K:PySem.W.Frag):V->Option Int->Option Int->Hp->VK->Prop:=λx lo hi H Q=>∃a xs,x= .ref a/\SqT K H a xs/\
 ¬(HT.sIx xs.length 0 lo=0/\HT.sIx xs.length xs.length hi=xs.length)/\∀p,H p=none->Q (.ref p) (upd H p (.tup (wO xs lo hi)))
theorem M5:SlR X (Qp X.K):=by
 intro e8 s Z H x v vl vu lo hi sl Q I rx hs pl pu h;obtain⟨a,xs,rfl,hx,hw,q⟩:=h;cases rx;obtain⟨its,r,ht,hz⟩:=I.tuple hx;have eJ:its.toArray.size=xs.length:=by rw[Gav];exact r.length.symm
 refine⟨"tuple",_,GcC.lookup,ht.typeIs, ?_⟩;refine HT.nP ht hs pl pu (by rw[eJ];exact hw) ?_ (by rw[eJ];exact hz);rw[eJ];refine⟨.ref s.heap.objs.size,_,I.laid (t' :=s.toks) (o:= .tup (wO xs lo hi)) (λb ob q=>Gaj _ q) (Gaq _) ?_,rfl,q _ (I.hok.fresh (Gaq _))⟩;exact⟨Gbf (pL xs lo hi) hz,_,(r.drop (HT.sIx xs.length 0 lo)).take (HT.sIx xs.length xs.length hi -HT.sIx xs.length 0 lo),IsTup.new _ _⟩
def O3(K:PySem.W.Frag):R2:=λx y H Q=>∃a b ns ms,x= .ref a/\y= .ref b/\SqT K H a (ns.map V.int)/\SqT K H b (ms.map V.int)/\Q (.bl (HT.lexLt ns ms)) H
theorem M6(hu:X.A.units<cLine):OpR X (compareOp .Lt) (O3 X.K):=by
 intro e8 s Z H x y v u Q I rx ry h;obtain⟨a,b,ns,ms,rfl,rfl,ha,hb,q⟩:=h;cases rx;cases ry;obtain⟨its,r1,p1,_⟩:=I.tuple ha;obtain⟨eI,r2,p2,_⟩:=I.tuple hb;have i1:IntsAre its.toArray.toList ns:=intsAre_of r1;have i2:IntsAre eI.toArray.toList ms:=intsAre_of r2;exact HT.BG p1 p2 i1 i2 hu ⟨.bl (HT.lexLt ns ms),H,I,rfl,q⟩
def L7(K:PySem.W.Frag):R2:=λx y H Q=>∃a b xs ys,x= .ref a/\y= .ref b/\SqT K H a xs/\SqT K H b ys/\xs≠[]/\xs.length+ys.length<=sizeLine/\
 (ys=[]->Q (.ref a) H)/\(ys≠[]->∀p,H p=none->Q (.ref p) (upd H p (.tup (xs++ys))))
theorem Vals.cB{xs:List V}{us:List Value}(r:Vals xs us):us=[]↔xs=[]:=by
 cases r with
 |nil=>simp
 |cons _ _=>simp
theorem Jm:OpR X (binaryOp .Add) (L7 X.K):=by
 intro e8 s Z H x y v u Q I rx ry h;obtain⟨a,b,xs,ys,rfl,rfl,ha,hb,hx,hz,q1,q2⟩:=h;cases rx;cases ry;obtain⟨its,r1,p1,_⟩:=I.tuple ha;obtain⟨eI,r2,p2,_⟩:=I.tuple hb;refine HT.Ji p1 p2 (λz=>hx (r1.cB.mp z)) (λz=> ⟨.ref a,H,I,rfl,q1 (r2.cB.mp z)⟩) (λz=> ?_) (by rw[<-r1.length,<-r2.length];exact hz);refine⟨.ref s.heap.objs.size,_,I.laid (t' :=s.toks) (o:= .tup (xs++ys)) (λb ob q=>Gaj _ q) (Gaq _) ?_,rfl,q2 (λw=>z (r2.cB.mpr w)) _ (I.hok.fresh (Gaq _))⟩;exact⟨by rw[Gai];exact hz,_,r1.append r2,IsTup.new _ _⟩
end
noncomputable def ixN(n:Nat)(i:Int):Option Nat:=if 0<=i then(if i<n then some i.toNat else none) else if -(n:Int)<=i then some (i+n).toNat else none
noncomputable def atI{α:Type}(xs:List α)(i:Int):Option α:=(ixN xs.length i).bind λj=>xs[j]?
variable{i:Int}
theorem Jn{n:Nat}{j:Nat}(h:ixN n i=some j):seqIndex? i n=some j/\j<n/\-(n:Int)<=i/\i<n:=by
 unfold ixN at h;by_cases h0:0<=i
 .rw[Gah h0] at h;by_cases h1:i<n
  .rw[Gah h1] at h;have e:i.toNat=j:=Option.some.inj h;exact⟨by rw[seqIndex_of h0 h1,e],by lia,by lia,h1⟩
  .rw[Gag h1] at h;cases h
 .rw[Gag h0] at h;by_cases h1: -(n:Int)<=i
  .rw[Gah h1] at h;have e:(i+n).toNat=j:=Option.some.inj h;exact⟨by rw[seqIndex_neg (by lia) h1,e],by lia,h1,by lia⟩
  .rw[Gag h1] at h;cases h
theorem vn{α:Type}{xs:List α}{v:α}(h:atI xs i=some v):∃j,seqIndex? i xs.length=some j/\xs[j]? =some v/\j<xs.length/\-(xs.length:Int)<=i/\i<xs.length:=by
 unfold atI at h;cases e:ixN xs.length i with
 |none=>rw[e] at h;cases h
 |some j=>
  rw[e] at h;obtain⟨h1,h2,h3,h4⟩:=Jn e;exact⟨j,h1,h,h2,h3,h4⟩
def CY(b:Expr):Prop:=∀o i,subscripted b false o i=operate [o,i] (getItem o i)
def IxR(X:Cx)(r:R2):Prop:=
 ∀(value slice:Expr) (e8:List (Addr×Obj)) (s:Shared) (Z:St) (H:Hp) (x y:V) (v u:Value) (Q:VK),Inv X e8 Z H s->RelV x v->RelV y u->r x y H Q->
  subscripted slice false v u=operate [v,u] (getItem v u)->wpAny (model X.prog X.w) X.A (subscriptTail value slice v u) (EP X e8 Z Q) X.xe s
def MtR(X:Cx)(id:String)(r:V->List V->Hp->VK->Prop):Prop:=
 ∀(e8:List (Addr×Obj)) (s:Shared) (Z:St) (H:Hp) (x:V) (xs:List V) (v:Value) (us:List Value) (Q:VK),Inv X e8 Z H s->RelV x v->Vals xs us->r x xs H Q->
  wpAny (model X.prog X.w) X.A (call (.builtin id) (v::us)) (EP X e8 Z Q) X.xe s
section
variable{X:Cx}{a b:Expr}{ta tb:TE}{pos:Pos}
theorem IxR.or{r r' :R2}(h:IxR X r)(h' :IxR X r'):IxR X (λx y H Q=>r x y H Q\/r' x y H Q):=by
 intro value slice e8 s Z H x y v u Q I rx ry q hs;rcases q with q|q
 .exact h value slice e8 s Z H x y v u Q I rx ry q hs
 .exact h' value slice e8 s Z H x y v u Q I rx ry q hs
theorem O4{r:R2}(hr:IxR X r)(ha:PE X a ta)(hb:PE X b tb)(hs:CY b):PE X (.Subscript a b pos) (tOp r ta tb):=by
 intro e8 s Z H Q I h;exact Subscript_ (LQ ha hb I h λv u s2 x y H2 I2 rx ry q=>hr a b e8 s2 Z H2 x y v u Q I2 rx ry q (hs _ _))
def O5(K:PySem.W.Frag):R2:=λx y H Q=>∃p xs i v,x= .ref p/\y= .int i/\SqL K H p xs/\atI xs i=some v/\Q v H
def O6(K:PySem.W.Frag):R2:=λx y H Q=>∃p xs i v,x= .ref p/\y= .int i/\SqT K H p xs/\atI xs i=some v/\Q v H
def O7:R2:=λx y H Q=>∃z i c,x= .str z/\y= .int i/\z.length<=sizeLine/\atI z.cps.toList i=some c/\Q (.str ⟨#[c]⟩) H
theorem Jo:IxR X (O5 X.K):=by
 intro value slice e8 s Z H x y v u Q I rx ry h hs;obtain⟨p,xs,i,z,rfl,rfl,hq,he,q⟩:=h;cases rx;obtain⟨t,rfl⟩:=ry;obtain⟨its,r,pl,hz⟩:=I.list hq;obtain⟨j,h1,h2,h3,h4,h5⟩:=vn he;obtain⟨w,ew,xK⟩:=r.get h2;have hl:=r.length;have hn:=vk;have fin:EP X e8 Z Q w s:=⟨z,H,I,xK,q⟩
 by_cases h0:0<=i
 .have hj:i.toNat=j:=by
   rw[seqIndex_of h0 h5] at h1;exact Option.some.inj h1
  exact item_listR pl.isList h0 (by lia) (by rw[hj];simpa using ew) fin hs
 .have hj:(i+(its.toArray.size:Int)).toNat=j:=by
   rw[seqIndex_neg (by lia) h4] at h1;rw[Gav,<-hl];exact Option.some.inj h1
  exact subscriptTail_builtinR (x:=w) pl.isList.typeIs slot_list_getitem.lookup
   (wpAny_getItem_list_neg (Q:=λr s' =>r=w/\EP X e8 Z Q r s') pl.isList (by lia) (by rw[Gav]<;>lia) (by lia) (by rw[hj];simpa using ew) ⟨rfl,fin⟩) hs
theorem M7:IxR X (O6 X.K):=by
 intro value slice e8 s Z H x y v u Q I rx ry h hs;obtain⟨p,xs,i,z,rfl,rfl,hq,he,q⟩:=h;cases rx;obtain⟨t,rfl⟩:=ry;obtain⟨its,r,pl,hz⟩:=I.tuple hq;obtain⟨j,h1,h2,h3,h4,h5⟩:=vn he;obtain⟨w,ew,xK⟩:=r.get h2;have hl:=r.length;have hn:=vk;have fin:EP X e8 Z Q w s:=⟨z,H,I,xK,q⟩
 exact subscriptTail_builtinR (x:=w) pl.typeIs slot_tuple_getitem.lookup
  (getItem_tuple (j:=j) (Q:=λr s' =>r=w/\EP X e8 Z Q r s') pl (by lia) (by lia) (by rw[Gav,<-hl];exact h1) (by simpa using ew) ⟨rfl,fin⟩) hs
theorem M8:IxR X O7:=by
 intro value slice e8 s Z H x y v u Q I rx ry h hs;obtain⟨z,i,c,rfl,rfl,hz,he,q⟩:=h;obtain⟨t,rfl⟩:=rx;obtain⟨t',rfl⟩:=ry;obtain⟨j,h1,h2,h3,h4,h5⟩:=vn he;have hl:z.cps.toList.length=z.length:=by simp[Str.length]
 rw[hl] at h1 h4 h5;have hn:=vk;exact tail_any (typeIs_str s z t) slot_str_getitem.lookup (getItem_str (c:=c) (by
  have e1:decide (i< -(2^63:Int))=false:=Gax (by lia);have e2:decide (i>=2^63)=false:=Gax (by lia);rw[e1,e2,Bool.or_false]) (by rw[h1];simpa using h2) ⟨.str ⟨#[c]⟩,H,I.tok _,⟨_,rfl⟩,q⟩) hs
def rIx(K:PySem.W.Frag):R2:=λx y H Q=>O5 K x y H Q\/O6 K x y H Q\/O7 x y H Q
theorem M9:IxR X (rIx X.K):=Jo.or (M7.or M8)
theorem Inv.lst{e8:List (Addr×Obj)}{Z:St}{H:Hp}{s:Shared}{p:Addr}{xs:List V}(I:Inv X e8 Z H s)(h:H p=some (.lst xs)):
  ∃(its:List Value) (n:Nat),Vals xs its/\s.heap.get? p=some {cls:= .type "list",data:= .seq its.toArray n}/\xs.length<=sizeLine:=by
 obtain⟨z,its,n,r,e⟩:=I.hok p _ h;exact⟨its,n,r,e,z⟩
theorem vo(lo hi:Option Int)(n:Nat):(sliceBounds lo hi none n).1=((HT.sIx n 0 lo:Nat):Int)/\(sliceBounds lo hi none n).2.1=((HT.sIx n n hi:Nat):Int)/\(sliceBounds lo hi none n).2.2=1:=by
 refine⟨?_, ?_,rfl⟩
 .cases lo with
  |none=>simp[sliceBounds,HT.sIx]
  |some i=>
   simp only[sliceBounds,HT.sIx,Option.getD_none,show(1:Int)>0 by decide,GbK];by_cases h:i<0
   .simp only[h,GbK]<;>lia
   .simp only[h,GbW]<;>lia
 .cases hi with
  |none=>simp[sliceBounds,HT.sIx]
  |some i=>
   simp only[sliceBounds,HT.sIx,Option.getD_none,show(1:Int)>0 by decide,GbK];by_cases h:i<0
   .simp only[h,GbK]<;>lia
   .simp only[h,GbW]<;>lia
theorem tD(its:List Value)(lo hi:Option Int):slicePick its.toArray lo hi none=((its.drop (HT.sIx its.length 0 lo)).take (HT.sIx its.length its.length hi -HT.sIx its.length 0 lo)).toArray:=by
 obtain⟨h1,h2,h3⟩:=vo lo hi its.toArray.size;unfold slicePick;rw[h1,h2,h3];simp only[sliceRange_one,pick_run,Gav]<;>rfl
def Qq(K:PySem.W.Frag):V->Option Int->Option Int->Hp->VK->Prop:=λx lo hi H Q=>∃a xs,x= .ref a/\SqL K H a xs/\∀p,H p=none->Q (.ref p) (upd H p (.lst (wO xs lo hi)))
theorem Jp:SlR X (Qq X.K):=by
 intro e8 s Z H x v vl vu lo hi sl Q I rx hs pl pu h;obtain⟨a,xs,rfl,hx,q⟩:=h;cases rx;obtain⟨its,r,ht,hz⟩:=I.list hx;have eJ:=r.length;refine⟨"list",_,slot_list_getitem.lookup,ht.isList.typeIs, ?_⟩;refine wpAny_getItem_list_slice ht.isList hs pl pu .none (by simp) ?_ (by rw[Gav]<;>lia);rw[tD,<-eJ];refine⟨.ref s.heap.objs.size,_,I.laid (t' :=s.toks) (o:= .lst (wO xs lo hi)) (λb ob q=>Gaj _ q) (Gaq _) ?_,rfl,q _ (I.hok.fresh (Gaq _))⟩;exact⟨Gbf (pL xs lo hi) hz,_,0,(r.drop (HT.sIx xs.length 0 lo)).take (HT.sIx xs.length xs.length hi -HT.sIx xs.length 0 lo),GaD _ rfl⟩
noncomputable def u7:V->Bool
 | .non=>true
 | .bl _=>true
 | .int _=>true
 | .str _=>true
 |_=>false
noncomputable def eqV:V->V->Bool
 | .non,.non=>true
 | .bl a,.bl b=>a==b
 | .bl a,.int b=>(if a then 1 else 0)==b
 | .int a,.bl b=>a==(if b then 1 else 0)
 | .int a,.int b=>a==b
 | .str a,.str b=>a==b
 |_,_=>false
variable{v:Value}{x:V}{s:Shared}
theorem Gw{A:Around}{y:V}{u:Value}(ry:RelV y u)(rx:RelV x v)(fy:u7 y=true)(fx:u7 x=true):SeqAt.EqAt A s u v (eqV y x):=by
 cases y with
 |non=>
  cases ry;cases x with
  |non=>cases rx;exact SeqAt.EqAt.same _
  |bl b=>cases rx;exact SeqAt.EqAt.none_bool b
  |int b=>obtain⟨t,rfl⟩:=rx;exact SeqAt.EqAt.none_int b t
  |str b=>obtain⟨t,rfl⟩:=rx;exact SeqAt.EqAt.none_str b t
  |_=>exact absurd (show false=true from fx) Gal
 |bl a=>
  cases ry;cases x with
  |non=>cases rx;exact SeqAt.EqAt.bool_none a
  |bl b=>cases rx;exact SeqAt.EqAt.bool_bool a b
  |int b=>obtain⟨t,rfl⟩:=rx;exact SeqAt.EqAt.bool_int a b t
  |str b=>obtain⟨t,rfl⟩:=rx;exact SeqAt.EqAt.bool_str a b t
  |_=>exact absurd (show false=true from fx) Gal
 |int a=>
  obtain⟨t',rfl⟩:=ry;cases x with
  |non=>cases rx;exact SeqAt.EqAt.int_none a t'
  |bl b=>cases rx;exact SeqAt.EqAt.int_bool a t' b
  |int b=>obtain⟨t,rfl⟩:=rx;exact SeqAt.EqAt.int_int a t' b t
  |str b=>obtain⟨t,rfl⟩:=rx;exact SeqAt.EqAt.int_str a t' b t
  |_=>exact absurd (show false=true from fx) Gal
 |str a=>
  obtain⟨t',rfl⟩:=ry;cases x with
  |non=>cases rx;exact SeqAt.EqAt.str_none a t'
  |bl b=>cases rx;exact SeqAt.EqAt.str_bool a t' b
  |int b=>obtain⟨t,rfl⟩:=rx;exact SeqAt.EqAt.str_int a t' b t
  |str b=>obtain⟨t,rfl⟩:=rx;exact SeqAt.EqAt.str_str a t' b t
  |_=>exact absurd (show false=true from fx) Gal
 |_=>exact absurd (show false=true from fy) Gal
theorem fq.or{f:Value}{r r' :List V->Hp->VK->Prop}(h:fq X f r)(h' :fq X f r'):fq X f (λxs H Q=>r xs H Q\/r' xs H Q):=by
 intro e8 s Z H xs us Q I rs q;rcases q with q|q
 .exact h e8 s Z H xs us Q I rs q
 .exact h' e8 s Z H xs us Q I rs q
theorem gg:fq X (.type "tuple") (λxs H Q=>∃p ys,xs=[.ref p]/\((SqL X.K H p ys/\∀l,H l=none->Q (.ref l) (upd H l (.tup ys)))\/(SqT X.K H p ys/\Q (.ref p) H))):=by
 intro e8 s Z H xs us Q I r h;obtain⟨p,ys,rfl,h⟩:=h;obtain⟨u,rfl,rx⟩:=vals1 r;cases rx;rcases h with⟨hq,q⟩| ⟨hq,q⟩
 .obtain⟨its,r',pl,hz⟩:=I.list hq;have eJ:=r'.length;refine call_tuple_list pl.isList (λh' kp=> ?_) (by simp only[Gav]<;>lia);have I1:Inv X e8 Z H {s with heap:=h' }:=I.kept (t' :=s.toks) kp;have I2:Inv X e8 Z (upd H h'.objs.size (.tup ys)) {s with heap:=h'.push {cls:= .type "tuple",data:= .seq its.toArray}}:=
   I1.laid (t' :=s.toks) (λb o e=>Gaj _ e) (Gaq _) (show cS X.prog X.w _ _ _ (.tup ys) from⟨hz,its,r',IsTup.new _ _⟩)
  exact⟨.ref h'.objs.size,_,I2,rfl,q _ (I1.hok.fresh (Gaq _))⟩
 .obtain⟨its,r',pl,hz⟩:=I.tuple hq;exact call_tuple_same pl ⟨.ref p,H,I,rfl,q⟩
def tyV(K:PySem.W.Frag)(T:String)(x:V)(H:Hp):Prop:=match x with
 | .str _=>T="str"
 | .int _=>T="int"
 | .ref p=>(T="list"/\∃xs,SqL K H p xs)\/(T="tuple"/\∃o,K.lookup p=some o/\o.cls= .type "tuple"/\o.dict=none)\/
   (T="dict"/\((∃eD,H p=some (.dK eD))\/∃eD,H p=some (.dT eD)))\/(T="set"/\∃S n,H p=some (.set S n))
 |_=>False
theorem Ma{e8:List (Addr×Obj)}{Z:St}{H:Hp}{T:String}(I:Inv X e8 Z H s)(r:RelV x v)(ty:tyV X.K T x H):
  s.TypeIs v T/\∀a,v= .ref a->∃ob,s.heap.get? a=some ob/\ob.dict=none:=by
 cases x with
 |str z=>
  obtain⟨t,rfl⟩:=r;cases(show T="str" from ty);exact⟨typeIs_str s z t,λ_ e=>nomatch e⟩
 |int i=>
  obtain⟨t,rfl⟩:=r;cases(show T="int" from ty);exact⟨typeIs_int s i t,λ_ e=>nomatch e⟩
 |ref p=>
  cases r;rcases ty with⟨rfl,xs,hq⟩| ⟨rfl,o,hk,hc,hd⟩| ⟨rfl,hk⟩| ⟨rfl,S,n,hk⟩
  .obtain⟨its,_,pl,_⟩:=I.list hq;refine⟨pl.isList.typeIs,λa e=> ?_⟩;cases e;obtain⟨o,n,e,c,hd,_⟩:=pl;exact⟨o,e,hd⟩
  .refine⟨⟨o,I.kIn p o hk,hc⟩,λa e=> ?_⟩;cases e;exact⟨o,I.kIn _ o hk,hd⟩
  .have z:∃o,s.heap.get? p=some o/\o.ExactDict:=by
    rcases hk with⟨eD,hk⟩| ⟨eD,hk⟩
    .obtain⟨_,_,_,_,o,_,_,e,ex,_⟩:=I.hok p _ hk;exact⟨o,e,ex⟩
    .obtain⟨_,_,_,_,o,_,_,e,ex,_⟩:=I.hok p _ hk;exact⟨o,e,ex⟩
   obtain⟨o,e,ex⟩:=z;refine⟨⟨o,e,ex.1⟩,λa e2=> ?_⟩;cases e2;exact⟨o,e,ex.2.1⟩
  .obtain⟨o,_,_,_,e,ex,_⟩:=I.hok p _ hk;refine⟨⟨o,e,ex.1⟩,λa e2=> ?_⟩;cases e2;exact⟨o,e,ex.2.1⟩
 |_=>exact False.elim ty
def tBM(K:PySem.W.Frag)(T:String)(r:V->List V->Hp->VK->Prop)(to:TE)(t:TA):TE:=λZ H Q=>to Z H λx H1=>tyV K T x H1/\t Z H1 λxs H2=>r x xs H2 Q
variable{o e:Expr}{es:List Expr}{to:TE}{t:TA}{name:Str}{apos eU:Pos}{T id:String}{r:V->List V->Hp->VK->Prop}
theorem Gx(pa:PlainAttrs T)(slot:Slot T name id)(U4:typeOf (.builtin id)=pure (.type "method_descriptor"))(hm:MtR X id r)(ho:PE X o to)(ha:PA X (e::es) t)
  (xF:autoParam (attributeBase o name X.env (eval o X.env)=eval o X.env) Za1._auto_1)
  (yk:((backTo eU (starEach (e::es) X.env)).all (λx=> !x.1)&&(backToKw eU (keywordEach [] X.env)).all (λx=>x.1.isSome)
   &&decide ((e::es).length+([]:List Keyword).length+(if([]:List Keyword).isEmpty then 0 else 1)<30))=true:=by rfl)
  (xD:autoParam ((apos.endLine==eU.line)=true) Za1._auto_1)(hs:autoParam (starEach (e::es) X.env=(false,eval e X.env)::starEach es X.env) Za1._auto_1)(yZ:autoParam ((backTo eU (starEach es X.env)).any (·.1)=false) Za1._auto_1):
  PE X (.Call (.Attribute o name apos) (e::es) [] eU) (tBM X.K T r to t):=by
 intro e8 s Z H Q I h;refine wpAny_Call_method_late xF yk xD rfl (thn (ho e8 s Z H _ I h) λv s1 ⟨x,H1,I1,r1,ty,q1⟩=> ?_);obtain⟨h1,h2⟩:=Ma I1 r1 ty;refine⟨T,id,pa,slot,U4,h1,h2, ?_⟩;have hA:=ha eU e8 s1 Z H1 _ I1 q1;rw[hs] at hA⊢;refine Calls.callWith_builtin (by show(false||(backTo eU (starEach es X.env)).any (·.1))=false;rw[yZ]<;>rfl) (Calls.evalArgs_plain ?_);exact thn hA λus s2 ⟨vs,H2,I2,r2,q2⟩=>hm e8 s2 Z H2 x vs v us Q I2 r1 r2 q2
end
def MtM(X:Cx)(id:String)(r:V->List V->Hp->VK->Prop):Prop:=
 ∀(e8:List (Addr×Obj)) (s:Shared) (Z:St) (H:Hp) (x:V) (xs:List V) (v:Value) (us:List Value) (Q:VK),Inv X e8 Z H s->RelV x v->Vals xs us->r x xs H Q->
  wpAny (model X.prog X.w) X.A (call (.builtin id) (v::us)) (EP X e8 Z Q) X.xe s
theorem Vals.one{x:V}{us:List Value}(p:Vals [x] us):∃u,us=[u]/\RelV x u:=by
 cases p with
 |cons r t=>cases t;exact⟨_,rfl,r⟩
section
variable{X:Cx}{e8:List (Addr×Obj)}{Z:St}{H:Hp}{s:Shared}{l b:Addr}{xs ys zs:List V}
variable{t' n:Nat}{its:List Value}
theorem Inv.Mb{its' :List Value}{f:Array Value->Array Value}(I:Inv X e8 Z H s)(hH:H l=some (.lst xs))
  (e:s.heap.get? l=some {cls:= .type "list",data:= .seq its.toArray n})(hf:f its.toArray=its'.toArray)(hv:Vals ys its')(hz:ys.length<=sizeLine):
  Inv X e8 Z (upd H l (.lst ys)) {s with heap:=s.heap.update l (Obj.mapSeq f),toks:=t' }:=by
 have q:=PySem.IsL.update e f;rw[hf] at q;refine I.write (x:=l) (e:=l) (by rw[hH];exact trivial) (.inl rfl) (λb' u hb hu=>(Gcj s.heap (Obj.mapSeq f) (Ne.symm hb)).trans hu) ⟨_,q⟩ ?_;exact⟨hz,its',_,hv,q⟩
theorem Inv.Qr(I:Inv X e8 Z H s)(hv:Vals ys its)(hz:ys.length<=sizeLine):
  Inv X e8 Z (upd H s.heap.objs.size (.lst ys)) {s with heap:=s.heap.push {cls:= .type "list",data:= .seq its.toArray},toks:=t' }:=
 I.laid (λ_ _ q=>Gaj _ q) (Gaq _) ⟨hz,its,0,hv,GaD _ rfl⟩
theorem Inv.fresh(I:Inv X e8 Z H s):H s.heap.objs.size=none:=I.hok.fresh (Gaq _)
theorem Inv.Jq(I:Inv X e8 Z H s)(hH:H l=some (.lst xs)):xs.length<=sizeLine/\∃(its:List Value) (n:Nat),Vals xs its/\xs.length=its.length/\s.heap.get? l=some {cls:= .type "list",data:= .seq its.toArray n}:=by
 obtain⟨z,its,n,r,e⟩:=I.hok l _ hH;exact⟨z,its,n,r,r.length,e⟩
theorem Gy(h:n<=sizeLine):Builtin.List.listTooLong n=false:=by
 unfold Builtin.List.listTooLong;exact Gax (by lia)
end
section
variable{X:Cx}
def Jr:V->List V->Hp->VK->Prop:=λx vs H Q=>∃l xs y,x= .ref l/\vs=[y]/\H l=some (.lst xs)/\xs.length<sizeLine/\Q .non (upd H l (.lst (xs++[y])))
theorem u9:MtM X "list.append" Jr:=by
 intro e8 s Z H x vs v us Q I rx rv h;obtain⟨l,xs,y,rfl,rfl,hH,hz,q⟩:=h;cases rx;obtain⟨u,rfl,ru⟩:=rv.one;obtain⟨z,its,n,r,hl,e⟩:=I.Jq hH;refine call_meets F.slot_list_append ⟨_,e,rfl⟩ F.entry_list_append (F.args_list_append_2 _ _) (PySem.list_append l its.toArray n u (by rw[Gav];lia)) ⟨e, ?_⟩;refine⟨.non,_,I.Mb (its' :=its++[u]) hH e (by simp) (r.append (.cons ru .nil)) ?_,rfl,q⟩;rw[Gai,GcM];lia
def Js:V->List V->Hp->VK->Prop:=λx vs H Q=>∃l b xs zs,x= .ref l/\vs=[.ref b]/\H l=some (.lst xs)/\H b=some (.lst zs)/\xs.length+zs.length<=sizeLine/\Q .non (upd H l (.lst (xs++zs)))
theorem EH:MtM X "list.extend" Js:=by
 intro e8 s Z H x vs v us Q I rx rv h;obtain⟨l,b,xs,zs,rfl,rfl,hH,hB,hz,q⟩:=h;cases rx;obtain⟨u,rfl,ru⟩:=rv.one;cases ru;obtain⟨z,its,n,r,hl,e⟩:=I.Jq hH;obtain⟨z2,eI,n2,r2,zR,e2⟩:=I.Jq hB;have xW:its.toArray.size+eI.toArray.size<=sizeLine:=by rw[Gav,Gav];lia
 have hlong:¬(!its.toArray.isEmpty&&Builtin.List.listTooLong (its.toArray.size+eI.toArray.size))=true:=by
  rw[Gy xW,Gcf];exact Gal
 refine call_meets F.slot_list_extend ⟨_,e,rfl⟩ F.entry_list_extend (F.args_list_extend_2 _ _)
  (AutoSeq1.list_extend_list_list_0 l its.toArray n b eI.toArray n2 hlong (by rw[Gav];lia) (by lia)) ⟨e,e2, ?_⟩
 refine⟨.non,_,I.Mb (its' :=its++eI) hH e (by simp) (r.append r2) ?_,rfl,q⟩;rw[Gai];lia
end
section
variable{Y:Type} [DecidableEq Y]
noncomputable def mB(eD:List (Y×V))(k:Y):Option V:=(eD.find? λkv=>decide (kv.1=k)).map (·.2)
noncomputable def putK(eD:List (Y×V))(k:Y)(v:V):List (Y×V):=
 if(eD.any λkv=>decide (kv.1=k))=true then eD.map (λkv=>if kv.1=k then(kv.1,v) else kv) else eD++[(k,v)]
theorem nQ{p:Y×V}{r:List (Y×V)}{k:Y}(e:p.1=k):mB (p::r) k=some p.2:=by simp[mB,GbF,e]
theorem kD{p:Y×V}{r:List (Y×V)}{k:Y}(e:¬p.1=k):mB (p::r) k=mB r k:=by simp[mB,GbF,e]
theorem wQ(k:Y):∀eD:List (Y×V),(eD.any λkv=>decide (kv.1=k))=(mB eD k).isSome
 |[]=>rfl
 |p::r=>by
  rw[GcE];by_cases e:p.1=k
  .simp only[nQ e,Gaz e,Bool.true_or,Option.isSome_some]
  .rw[kD e,Gax e,Bool.false_or];exact wQ k r
theorem oM.jg{o:Option V}{u:Option Value}(r:oM o u):o.isSome=u.isSome:=by
 cases o with
 |none=>cases u with
  |none=>rfl
  |some _=>exact(show False from r).elim
 |some _=>cases u with
  |none=>exact(show False from r).elim
  |some _=>rfl
theorem oM.getD{o:Option V}{u:Option Value}{d:V}{d' :Value}(r:oM o u)(rd:RelV d d'):RelV (o.getD d) (u.getD d'):=by
 cases o with
 |none=>cases u with
  |none=>exact rd
  |some _=>exact(show False from r).elim
 |some _=>cases u with
  |none=>exact(show False from r).elim
  |some _=>exact r
theorem KV.val{eD:List (Y×V)}{vs:List (Y×Value)}(r:KV eD vs)(k:Y):oM (mB eD k) (valueAt vs k):=by
 unfold KV at r;induction r with
 |nil=>exact True.intro
 | @cons p q ps qs h t ih=>
  obtain⟨h1,h2⟩:=h;by_cases e:p.1=k
  .have e' :q.1=k:=h1.symm.trans e;have b:valueAt (q::qs) k=some q.2:=by simp[valueAt,GbF,e']
   rw[nQ e,b];exact h2
  .have e' :¬q.1=k:=λz=>e (h1.trans z);have b:valueAt (q::qs) k=valueAt qs k:=by simp[valueAt,GbF,e']
   rw[kD e,b];exact ih
theorem KV.any{eD:List (Y×V)}{vs:List (Y×Value)}(r:KV eD vs)(k:Y):(eD.any λkv=>decide (kv.1=k))=vs.any λkv=>decide (kv.1=k):=by
 unfold KV at r;induction r with
 |nil=>rfl
 |cons h t ih=>rw[GcE,GcE,ih,h.1]
variable{u:Value}{y:V}
theorem KV.Mc{eD:List (Y×V)}{vs:List (Y×Value)}(r:KV eD vs)(k:Y)(ry:RelV y u):
  KV (eD.map λkv=>if kv.1=k then(kv.1,y) else kv) (vs.map λkv=>if kv.1=k then(kv.1,u) else kv):=by
 unfold KV at r⊢;induction r with
 |nil=>exact .nil
 | @cons p q ps qs h t ih=>
  rw[GaA,GaA];refine .cons ?_ ih;obtain⟨h1,h2⟩:=h;by_cases e:p.1=k
  .rw[Gah e,Gah (h1.symm.trans e)];exact⟨h1,ry⟩
  .rw[Gag e,Gag (λz=>e (h1.trans z))];exact⟨h1,h2⟩
theorem KV.put{eD:List (Y×V)}{vs:List (Y×Value)}(r:KV eD vs)(k:Y)(ry:RelV y u):KV (putK eD k y) (stored vs k u):=by
 unfold putK stored;rw[r.any k];by_cases e:(vs.any λkv=>decide (kv.1=k))=true
 .rw[Gah e,Gah e];exact r.Mc k ry
 .rw[Gag e,Gag e];exact Paired.snoc r ⟨rfl,ry⟩
theorem KV.length{eD:List (Y×V)}{vs:List (Y×Value)}(r:KV eD vs):eD.length=vs.length:=Paired.length r
end
variable{u:Value}
theorem CZ{P:Program}{w:World}{k:Key}(r:RelV (kV k) u):(dh P w).is k u=true:=by
 cases k with
 |inl i=>obtain⟨t,e⟩:=(show∃t,u=Value.int i t from r);subst e;exact pJ P w i t
 |inr x=>obtain⟨t,e⟩:=(show∃t,u=Value.str x t from r);subst e;exact pK P w x t
theorem ub{P:Program}{w:World}:∀{ks:List Key} {us:List Value},Vals (ks.map kV) us->ItemsAre (dh P w) ks us
 |[],_,r=>by rw[Gdi] at r;cases r;exact .nil
 |k::ks,_,r=>by
  rw[GaA] at r;cases r with
  |cons h t=>exact .cons (CZ h) (ub t)
abbrev KT(H:Hp):List (List Key×V)->List (List Key×Addr×Value)->Prop:=Paired λp q=>p.1=q.1/\H q.2.1=some (.tup (p.1.map kV))/\RelV p.2 q.2.2
variable{xs:List (List Key×Addr×Value)}{eD:List (List Key×V)}{H:Hp}
theorem KT.val(r:KT H eD xs)(k:List Key):oM (mB eD k) ((atKey xs k).map (·.2)):=by
 induction r with
 |nil=>exact True.intro
 | @cons p q ps qs h t ih=>
  obtain⟨h1,_,h2⟩:=h;by_cases e:p.1=k
  .have e' :q.1=k:=h1.symm.trans e;have b:atKey (q::qs) k=some q.2:=by simp[atKey,GbF,e']
   rw[nQ e,b];exact h2
  .have e' :¬q.1=k:=λz=>e (h1.trans z);have b:atKey (q::qs) k=atKey qs k:=by simp[atKey,GbF,e']
   rw[kD e,b];exact ih
variable{y:V}
theorem KT.Mc(r:KT H eD xs)(k:List Key)(ry:RelV y u):
  KT H (eD.map λkv=>if kv.1=k then(kv.1,y) else kv) (xs.map (putAt k u)):=by
 induction r with
 |nil=>exact .nil
 | @cons p q ps qs h t ih=>
  rw[GaA,GaA];refine .cons ?_ ih;obtain⟨h1,h2,h3⟩:=h;unfold putAt;by_cases e:p.1=k
  .rw[Gah e,Gah (h1.symm.trans e)];exact⟨h1,h2,ry⟩
  .rw[Gag e,Gag (λz=>e (h1.trans z))];exact⟨h1,h2,h3⟩
variable{b:Addr}
theorem KT.put(r:KT H eD xs)(k:List Key)(hb:H b=some (.tup (k.map kV)))(ry:RelV y u):
  KT H (putK eD k y) (storedH xs k b u):=by
 have e:(eD.any λkv=>decide (kv.1=k))=(atKey xs k).isSome:=by
  rw[wQ,(r.val k).jg,GdV]
 unfold putK storedH;rw[e];by_cases q:(atKey xs k).isSome=true
 .rw[Gah q,Gah q];exact r.Mc k ry
 .rw[Gag q,Gag q];exact Paired.snoc r ⟨rfl,hb,ry⟩
theorem KT.keeps{H' :Hp}(r:KT H eD xs)(ht:∀b ys,H b=some (.tup ys)->H' b=some (.tup ys)):KT H' eD xs:=
 Paired.J1 r λ_ _ z=> ⟨z.1,ht _ _ z.2.1,z.2.2⟩
section
variable{P:Program}{w:World}{H:Hp}{h:Heap}{a:Addr}
theorem L8{u:HO}(ok:HOk P w H h)(e:Rd H a u):cS P w H h a u:=e.ok ok
theorem wR{eD:List (Key×V)}(ok:HOk P w H h)(e:Rd H a (.dK eD)):eD.length<=sizeLine/\(a==sysModules)=false/\∃vs,KV eD vs/\h.DictOf (dh P w) a vs:=
 show cS P w H h a (.dK eD) from L8 ok e
theorem oP{ks:List Key}(ok:HOk P w H h)(e:H a=some (.tup (ks.map kV))):(tupleKind (dh P w)).is h ks a:=by
 obtain⟨_,its,r,o,h1,h2,n,h3⟩:=(show cS P w H h a (.tup (ks.map kV)) from ok a _ e)
 exact⟨o,its.toArray,n,h1,h2,h3,by simpa using ub r⟩
theorem D0{eD:List (List Key×V)}(ok:HOk P w H h)(e:Rd H a (.dT eD)):eD.length<=sizeLine/\(a==sysModules)=false/\
  ∃xs,KT H eD xs/\h.DictOfH (tupleKind (dh P w)) a xs:=by
 obtain⟨z,y,xs,r,o,es,ep,h1,h2,h3,h4,h5⟩:=(show cS P w H h a (.dT eD) from L8 ok e)
 refine⟨z,y,xs,r,o,es,ep,h1,h2,h3,h4,λx hx=> ?_,h5⟩;have all:∀{l:List (List Key×V)} {m:List (List Key×Addr×Value)},KT H l m->∀x∈m,(tupleKind (dh P w)).is h x.1 x.2.1:=by
  intro l m q;induction q with
  |nil=>intro x hx;exact nomatch hx
  | @cons p q ps qs hq t ih=>
   intro x hx;rcases Gar.mp hx with e|hx
   .subst e;exact oP ok (by rw[<-hq.1];exact hq.2.1)
   .exact ih x hx
 exact all r x hx
end
def wU(H:Hp)(a:Addr)(y:V)(r:Option V):Prop:=
 (∃eD k,Rd H a (.dK eD)/\y=kV k/\r=mB eD k)\/∃eD k b,Rd H a (.dT eD)/\y= .ref b/\H b=some (.tup (k.map kV))/\r=mB eD k
def Jt(H:Hp)(a:Addr)(y v:V)(H' :Hp):Prop:=
 (∃eD k,H a=some (.dK eD)/\y=kV k/\eD.length<sizeLine/\H' =upd H a (.dK (putK eD k v)))\/
 ∃eD k b,H a=some (.dT eD)/\y= .ref b/\H b=some (.tup (k.map kV))/\eD.length<sizeLine/\H' =upd H a (.dT (putK eD k v))
theorem Jt.k{H:Hp}{a:Addr}{eD:List (Key×V)}{k:Key}{v:V}(e:H a=some (.dK eD))(hl:eD.length<sizeLine):Jt H a (kV k) v (upd H a (.dK (putK eD k v))):= .inl ⟨eD,k,e,rfl,hl,rfl⟩
variable{a:Addr}
theorem Jt.t{k:List Key}{v:V}(e:H a=some (.dT eD))(eb:H b=some (.tup (k.map kV)))(hl:eD.length<sizeLine):
  Jt H a (.ref b) v (upd H a (.dT (putK eD k v))):= .inr ⟨eD,k,b,e,rfl,eb,hl,rfl⟩
section
variable{X:Cx}{e8:List (Addr×Obj)}{Z:St}{H:Hp}{s:Shared}{a:Addr}{y v:V}{u r:Value}{o:Option V}{A:Around}{E:Value->Shared->Prop}
theorem Inv.big(I:Inv X e8 Z H s):sysModules<s.heap.objs.size:=by
 have h:mainGlobals<s.heap.objs.size:=(I.mod.glob.keeps I.bk).lt;exact Nat.lt_trans (by decide) h
theorem EI{Q:Value->Shared->Prop}(hu:A.units+1<cLine)(I:Inv X e8 Z H s)(g:wU H a y (some v))(ry:RelV y u)(h:∀w' s',Inv X e8 Z H s' ->RelV v w' ->Q w' s'):
  wpAny (model X.prog X.w) A (getItem (.ref a) u) Q E s:=by
 rcases g with⟨eD,k,e,ey,l⟩| ⟨eD,k,b,e,ey,eb,l⟩
 .subst ey;obtain⟨z,hd,vs,rel,dd⟩:=wR I.hok e;obtain⟨w',hw,xK⟩:=oM.some_of (v:=v) (o:=valueAt vs k) (by rw[l];exact rel.val k);exact wpAny_getItem_of (CZ ry) dd.mapOf hw (h w' _ (I.tok _) xK)
 .subst ey;cases(show u=Value.ref b from ry);obtain⟨z,hd,xs,rel,dd⟩:=D0 I.hok e;obtain⟨w',hw,xK⟩:=oM.some_of (v:=v) (o:=(atKey xs k).map (·.2)) (by rw[l];exact rel.val k);obtain⟨p,hp,yx⟩:=Gas.mp hw;refine wpAny_getItem_heap (tupleKind_room_in1 hu) (oP I.hok eb) dd hp ?_;rw[yx];exact h w' _ (I.tok _) xK
theorem Qs{Q:Value->Shared->Prop}(hu:A.units+1<cLine)(I:Inv X e8 Z H s)(g:wU H a y o)(ry:RelV y u)(h:∀s',Inv X e8 Z H s' ->Q (.bool o.isSome) s'):
  wpAny (model X.prog X.w) A (compareOp .In u (.ref a)) Q E s:=by
 rcases g with⟨eD,k,e,ey,l⟩| ⟨eD,k,b,e,ey,eb,l⟩
 .subst ey;obtain⟨z,hd,vs,rel,dd⟩:=wR I.hok e;refine wpAny_in_of (CZ ry) hd dd.mapOf ?_;rw[<-(rel.val k).jg,<-l];exact h _ (I.tok _)
 .subst ey;cases(show u=Value.ref b from ry);obtain⟨z,hd,xs,rel,dd⟩:=D0 I.hok e;refine wpAny_in_heap (tupleKind_room_in1 hu) (oP I.hok eb) hd dd ?_;have q:=(rel.val k).jg;rw[GdV] at q;rw[<-q,<-l];exact h _ (I.tok _)
theorem Ju{Q:Value->Shared->Prop}(hu:A.units+1<cLine)(I:Inv X e8 Z H s)(g:wU H a y o)(ry:RelV y u)(h:∀s',Inv X e8 Z H s' ->Q (.bool (!o.isSome)) s'):
  wpAny (model X.prog X.w) A (compareOp .NotIn u (.ref a)) Q E s:=by
 rcases g with⟨eD,k,e,ey,l⟩| ⟨eD,k,b,e,ey,eb,l⟩
 .subst ey;obtain⟨z,hd,vs,rel,dd⟩:=wR I.hok e;refine wpAny_notIn_of (CZ ry) hd dd.mapOf ?_;rw[<-(rel.val k).jg,<-l];exact h _ (I.tok _)
 .subst ey;cases(show u=Value.ref b from ry);obtain⟨z,hd,xs,rel,dd⟩:=D0 I.hok e;refine wpAny_notIn_heap (tupleKind_room_in1 hu) (oP I.hok eb) hd dd ?_;have q:=(rel.val k).jg;rw[GdV] at q;rw[<-q,<-l];exact h _ (I.tok _)
end
section
variable{X:Cx}{e8:List (Addr×Obj)}{Z:St}{H:Hp}{s:Shared}{a:Addr}{eD:List (Key×V)}{k:Key}{u:Value}{A:Around}{E:Value->Shared->Prop}
theorem O8{Q:Value->Shared->Prop}(I:Inv X e8 Z H s)(e:Rd H a (.dK eD))(h:∀t s',Inv X e8 Z H s' ->Q (.int eD.length t) s'):wpAny (model X.prog X.w) A (call (.builtin "len") [.ref a]) Q E s:=by
 obtain⟨z,hd,vs,rel,dd⟩:=wR I.hok e;refine call_len_dict hd dd (by rw[<-rel.length];rw[GbC] at z;lia) ?_;rw[<-rel.length];exact h _ _ (I.tok _)
end
theorem wV{X:Cx}{e8:List (Addr×Obj)}{Z:St}{s:Shared}{o:Option V}(I:Inv X e8 Z H s)(g:wU H a y o):s.TypeIs (.ref a) "dict":=by
 rcases g with⟨eD,k,e,_,_⟩| ⟨eD,k,b,e,_,_,_⟩
 .obtain⟨_,_,vs,_,dd⟩:=wR I.hok e;exact dd.typeIs
 .obtain⟨_,_,xs,_,dd⟩:=D0 I.hok e;exact dd.typeIs
end L2
namespace Att
open PySem PySem.W PySem.Calls PyProof.Rows
variable{h:Heap}{P:Params}
theorem ql:∀(ns:List Int) (vs:List Value),WellAll P h vs (ns.map WData.int)->IntsAre vs ns:=by
 intro ns;induction ns with
 |nil=>
  intro vs w;rw[Gdi] at w;cases w;exact .nil
 |cons n ns ih=>
  intro vs w;rw[GaA] at w;cases w with
  |cons a b=>
   cases a;exact .cons _ _ (ih _ b)
variable{n:Nat}
theorem EJ{l:OpenLaw}(hn:l.most=some n){args:List WData}{vals:List Value}
  (yE:l.row.toRowW.claim.pre args=true)(RI:WellAll P h vals args):
  ∃a vs ns,vals=[Value.ref a]/\args=[WData.list (ns.map WData.int)]/\h.get? a=some {cls:= .type "list",data:= .seq vs.toArray}/\IntsAre vs ns/\ns.length<=n:=by
 have hsh:WShape.hasAll [] args [.list .int]=true:=(pre_splitW yE).1;have hc:l.pre.holds [] {args:=args}=true:=(pre_splitW yE).2;obtain⟨d,r,rfl,h1,h2⟩:=hasAllW_cons hsh;obtain rfl:=hasAllW_nil h2;obtain⟨xs,rfl,h3⟩:=hasW_list h1;obtain⟨ns,rfl⟩:=items_int h3;have eJ:ns.length<=n:=by
  unfold OpenLaw.pre at hc;have h4:(WTm.not (.lt (.lit (.int (n:Int))) (.len (.arg 0)))).holds [] {args:=[.list (ns.map .int)]}=true:=by
   have h4:=(holds_andW hc).1;rw[hn] at h4;exact h4
  have h5:=condW_of h4 (w_not (w_lt w_lit (w_len_list (w_arg rfl))));rw[Gab] at h5;refine Nat.le_of_not_lt λq=> ?_;have q' :(n:Int)<((ns.length:Nat):Int):=by lia
  first
   |(rw[Gaz q'] at h5;exact absurd h5 (by decide))
   |(simp at h5;lia)
 cases RI with
 |cons w1 w2=>
  cases w2;cases w1 with
  |list ho yG=>exact⟨_,_,ns,rfl,rfl,ho,ql ns _ yG,eJ⟩
theorem EK(l:OpenLaw)(args:List WData):l.row.toRowW.claim.post args (.bool true) args=true:=
 postW_of (r:=l.row.toRowW) (X:=(true==true))
  (show WShape.has [] (.bool true) .bool=true by first|rfl|decide|simp[WShape.has,WShape.arms,WShape.armsAll])
  (show(WTm.eq .res (.lit (.bool true))).value [] {args:=args,res:=some (.bool true),after:=args}=some (.bool (true==true)) from w_eq_bool (w_res rfl) w_lit) rfl
theorem wW{l:OpenLaw}{q:Program}{loose:List Str}{XP:(Str->Option Value)->Heap->Prop}{YP:World->Heap->Prop}{d:DefRec}
  (hn:l.most=some n)(zW:d.params.defaults=[])
  (call:∀(w:World) (s₀ s₁:Shared) (mg mb:Str->Option Value) (fa:Addr) (o:Obj) (pm cd doc:Value) (a:Addr) (vs:List Value) (ns:List Int),
   Ground q loose [] XP w s₀ mg mb s₁.heap->YP w s₁.heap->
   s₁.heap.get? fa=some o->o.data= .func (docDef d.name d.params d.body d.scope pm cd doc)->s₁.heap.CodeRec cd d.name->mg d.name=some (.ref fa)->
   s₁.heap.get? a=some {cls:= .type "list",data:= .seq vs.toArray}->IntsAre vs ns->ns.length<=n->s₁.gens=#[]->
   codeAny (model l.prog w) callerA (.call (.ref fa) ⟨[.ref a],[]⟩) (λr s' =>r= .ok (.ret (.bool true))/\OldK s₁.heap s'.heap/\s'.os=s₁.os/\AllBare s'.gens) s₁):
  WalkO q loose XP YP l.row.toRowW d [] (λf vs=>PySem.call f vs):=by
 intro w s₀ s₁ mg mb G Y fa o pm cd doc dV kV ho hd yc hD zO hg args vals as yE hlay hrd RI zP;obtain rfl:dV= .none:=Dflts.none hD zW;obtain rfl:kV= .none:=Dflts.noKw hD;obtain⟨a,vs,ns,rfl,rfl,zb,hints,eJ⟩:=EJ hn yE RI;refine enter_call (codeAny_mono (call w s₀ s₁ mg mb fa o pm cd doc a vs ns G Y ho (fd_plain hd) yc zO zb hints eJ hg) λr s' hq=> ?_);obtain⟨rfl,h2,h3,h4⟩:=hq;exact⟨.inl ⟨.bool true,.bool true,[],rfl,λ_=>rfl,.bool true,EK l _,λ_=> ⟨List.Pairwise.nil,λ_ hm=>(nomatch hm)⟩⟩,h2,h3,h4⟩
end Att
namespace L2
open PySem PySem.Spec PyProof.Rows
variable{ns:List Int}{vs:List Value}
theorem oQ(p:IntsAre vs ns):Vals (ns.map V.int) vs:=by
 induction p with
 |nil=>exact .nil
 |cons n t h ih=>exact .cons ⟨t,rfl⟩ ih
def Jv(H:Hp):Prop:=∀b,H b=none\/∃o xs,H b=some (.frz o (.lst xs))
theorem Gz{P:Program}{w:World}{K:PySem.W.Frag}{mg mb:Str->Option Value}{CX:CXT}{k:Nat}{fa a:Addr}{fd:FuncData}{x:Str}{sp:Sp}{s₁:Shared}
  (KX:K.In s₁.heap)(zA:s₁.heap.Ns mainGlobals mg)(hb:s₁.heap.Ns builtinsNs mb)(Sa:∀x:Str,x≠"__name__"->mb x=bootBuiltins x)(S4:s₁.heap.NoLimit)(hg:s₁.gens=#[])
  (ha:s₁.heap.get? a=some {cls:= .type "list",data:= .seq vs.toArray})(hi:IntsAre vs ns)(hl:ns.length<=sizeLine)(hr:iA k callerA)
  (F:∀base:Heap,K.In base->base.Ns mainGlobals mg->nO P w K mg base CX k fa fd [x] sp)(zY:∀(s:Shared) (u:Value),BindsTo s fd ⟨[u],[]⟩ [(x,u)])
  (yL:∀H:Hp,Jv H->SqL K H a (ns.map V.int)->sp [.ref a] H (λv _=>v= .bl true) λ_ _ _=>False)
  (Se:∀H e s',CX [] H s₁ (λ_ _ _=>False) e s' ->False):
  codeAny (model P w) callerA (.call (.ref fa) ⟨[.ref a],[]⟩) (λr s' =>r= .ok (.ret (.bool true))/\OldK s₁.heap s'.heap/\s'.os=s₁.os/\AllBare s'.gens) s₁:=by
 have rv:=oQ hi;have lenV:=hi.length;have core:∀H:Hp,Jv H->SqL K H a (ns.map V.int)->HOk P w H s₁.heap->(∀b,H b≠none->b=a)->(H a≠none->K.lookup a=none)->
   codeAny (model P w) callerA (.call (.ref fa) ⟨[.ref a],[]⟩) (λr s' =>r= .ok (.ret (.bool true))/\OldK s₁.heap s'.heap/\s'.os=s₁.os/\AllBare s'.gens) s₁:=by
  intro H hO hS hok hA hK;have base_of:∀{b:Addr} {o:Obj},s₁.heap.get? b=some o->H b=none->(ve s₁.heap H).get? b=some o:=λe n=>Gb e n;have noA:∀{b:Addr} {o:Obj} {es:Array DictEntry} {ep:Nat},s₁.heap.get? b=some o->o.data= .dict es ep->H b=none:=λ{b o es ep} e d=>by
   cases q:H b with
   |none=>rfl
   |some u=>
    have e' :b=a:=hA b (by rw[q];simp);subst e';rw[ha] at e;cases e
    have d' :Data.seq vs.toArray _=Data.dict es ep:=d;cases d'
  have nsK:∀{b:Addr} {m:Str->Option Value},s₁.heap.Ns b m->(ve s₁.heap H).Ns b m:=λ{b m} ⟨o,es,ep,e,d,r⟩=> ⟨o,es,ep,base_of e (noA e d),d,r⟩;have T7:K.In (ve s₁.heap H):=λb o e=>base_of (KX b o e) (by
   cases q:H b with
   |none=>rfl
   |some u=>
    have e' :b=a:=hA b (by rw[q];simp);subst e';rw[hK (by rw[q];simp)] at e;cases e)
  have hM:Mod K mg (ve s₁.heap H):=⟨T7,nsK zA,⟨mb,nsK hb,Sa⟩,let⟨mc,h1,h2⟩:=S4;⟨mc,nsK h1,h2⟩⟩
  have e0:Jg P w K mg (ve s₁.heap H) callerA [] s₁ H:=⟨rfl,hM,λb o e=>J2 e,Nat.le_of_eq (Ex _ _),trivial,λb hb=>absurd (show b∈([]:List Addr) from hb) (by simp),hok,.of_eq hg⟩
  refine codeAny_mono ((F _ T7 (nsK zA)).run callerA [] s₁ H ⟨[.ref a],[]⟩ [.ref a] [.ref a] _ _ hr e0 (zY s₁ (.ref a)) (.cons rfl .nil) (yL H hO hS)) λr s' h=> ?_;cases r with
  |error e=>exact(Se H e s' h).elim
  |ok fl=>
   cases fl with
   |next=>exact False.elim h
   |brk=>exact False.elim h
   |cont=>exact False.elim h
   |ret u=>
    obtain⟨v,H',os,bare,un,xX,r',q⟩:=h;have q' :v= .bl true:=q;subst q';obtain rfl:u=Value.bool true:=r';refine⟨rfl,OldK.of_keep λb o e=> ?_,os,bare⟩;cases q:H b with
    |none=>exact un.keep b o e q (by intro z;exact absurd (show b∈([]:List Addr) from z) (by simp)) (by simp)
    |some u=>
     rcases hO b with z| ⟨ob,xs,z⟩
     .rw[q] at z;cases z
     .have z2:=un.wI b ob _ z;obtain⟨e1,_⟩:=hok b _ z;obtain⟨e2,_⟩:=xX b _ z2;rw[e] at e1;cases e1
      exact e2
 cases hk:K.lookup a with
 |some o=>
  have e:=KX a o hk;rw[ha] at e;cases e;refine core (λ_=>none) (λ_=> .inl rfl) (.inr ⟨_,vs.toArray,_,hk,rfl,rfl,rfl,by rw[Gav,lenV];exact hl,by simpa using rv⟩) (λb u z=>by have z' :(none:Option HO)=some u:=z;cases z') (λb z=>absurd rfl z) λz=>absurd rfl z
 |none=>
  refine core (λb=>if b=a then some (.frz {cls:= .type "list",data:= .seq vs.toArray} (.lst (ns.map V.int))) else none) (λb=> ?_) (.inl (.inr ⟨{cls:= .type "list",data:= .seq vs.toArray},Gah rfl⟩)) (λb u z=> ?_) (λb z=> ?_) λ_=>hk
  .by_cases hb:b=a
   .exact .inr ⟨_,_,Gah hb⟩
   .exact .inl (Gag hb)
  .by_cases hb:b=a
   .have z' :=(Gah hb).symm.trans z;cases z';subst hb;exact⟨ha,by rw[Gab];exact hl,vs,_,rv,ha⟩
   .have z' :=(Gag hb).symm.trans z;cases z'
  .by_cases hb:b=a
   .exact hb
   .exact absurd (Gag hb) z
theorem Jw{l:PySem.W.OpenLaw}{n k:Nat}{q:Program}{loose:List Str}{XP:(Str->Option Value)->Heap->Prop}{YP:World->Heap->Prop}{d:DefRec}{K:Params->PySem.W.Frag}{CX:World->CXT}{sp:World->Sp}{x:Str}
  (hn:l.most=some n)(S2:n<=sizeLine)(zW:d.params.defaults=[])(hr:iA k callerA)
  (hY:∀(w:World) (h:Heap),YP w h->(K w.params).In h)
  (F:∀(w:World) (mg:Str->Option Value) (fa:Addr) (h:Heap),(K w.params).In h->h.Ns mainGlobals mg->mg d.name=some (.ref fa)->
   ∃fd:FuncData,(∀(s:Shared) (u:Value),BindsTo s fd ⟨[u],[]⟩ [(x,u)])/\
    ∀base:Heap,(K w.params).In base->base.Ns mainGlobals mg->nO l.prog w (K w.params) mg base (CX w) k fa fd [x] (sp w))
  (yL:∀(w:World) (H:Hp) (a:Addr) (ns:List Int),ns.length<=n->Jv H->SqL (K w.params) H a (ns.map V.int)->sp w [.ref a] H (λv _=>v= .bl true) λ_ _ _=>False)
  (Se:∀(w:World) (H:Hp) (s:Shared) (e:Value) (s' :Shared),CX w [] H s (λ_ _ _=>False) e s' ->False):
  PySem.W.WalkO q loose XP YP l.row.toRowW d [] (λf vs=>PySem.call f vs):=by
 refine Att.wW hn zW λw s₀ s₁ mg mb fa o pm cd doc a vs ns G Y ho hd yc zO zb hints eJ hg=> ?_;have KX:=hY w _ Y;obtain⟨fd,hb,hF⟩:=F w mg fa _ KX G.T.g zO;exact Gz KX G.T.g G.T.b G.T.builtins G.T.nolimit hg zb hints (Gbf eJ S2) hr hF hb (λH hO hS=>yL w H a ns eJ hO hS) λH e s' =>Se w H s₁ e s'
noncomputable def lT(s:Stmt):Arguments:=match s with
 | .FunctionDef _ a _ _ _ _ _ _ _ _=>a
 |_=>{posonlyargs:=[],args:=[],vararg:=none,kwonlyargs:=[],kw_defaults:=[],kwarg:=none,defaults:=[]}
noncomputable def gW(s:Stmt):List Stmt:=match s with
 | .FunctionDef _ _ b _ _ _ _ _ _ _=>b
 |_=>[]
noncomputable def bz(s:Stmt):Scope:=match s with
 | .FunctionDef _ _ _ _ _ _ sc _ _ _=>sc
 |_=>{kind:= .function,names:=[],isGenerator:=false,isCoroutine:=false}
noncomputable abbrev CX0:CXT:=λ_ _ _ _ _ _=>False
noncomputable abbrev E0:XK:=λ_ _ _=>False
theorem O9{X:Cx}:Passes CX0 X E0:=λ_ _ _ _ _ _ _ h=>h.elim
structure Fun(K:PySem.W.Frag)(x qual:Str)(st:Stmt)(f:Addr)(fd:FuncData):Prop where
 ex:∃(oc:Value) (od:Option Addr) (kV doc pm:Value) (an:Option Addr) (hJ ct:Value) (yW:Array (Option Value)),
  fd=PySem.W.fnOf x qual (lT st) (gW st) (bz st) .none kV doc pm an hJ ct/\K.lookup f=some ⟨oc,od,.func fd,yW⟩/\PySem.W.codeIn K hJ qual=true
 kp:PySem.W.keepIn K (.ref f)=true
section
variable{P:Program}{w:World}{K:PySem.W.Frag}{mg:Str->Option Value}{base:Heap}
variable{f:Addr}{st:Stmt}{x qual:Str}
theorem Fun.ok{fd:FuncData}{N ps:List Str}{k:Nat}{sp:Sp}(F:Fun K x qual st f fd)(S:jK N ps (bz st))(len:∀vs H Q E,sp vs H Q E->vs.length=ps.length)
  (xZ:∀(hJ:Value) (A:Around) (outer:List Env) (s:Shared) (H:Hp) (vs:List V) (Q:VK) (E:XK),iA k (A.deeper (envOfC qual (bz st) s.heap.objs.size f hJ))->sp vs H Q E->
   ∃t,PSs (wM CX0 P w K mg base N qual (bz st) f hJ A outer s H E).nox (gW st) t/\t {nx:=λ_ H' =>Q .non H',rt:=Q} (start N vs) H):nO P w K mg base CX0 (k+1) f fd ps sp:=by
 obtain⟨oc,od,kV,doc,pm,an,hJ,ct,yW,rfl,lk,yc⟩:=F.ex;refine O1 lk yc S len λA outer s H vs Q E hr yL=> ?_;obtain⟨t,h,q⟩:=xZ hJ A outer s H vs Q E hr yL;exact⟨t,h.nox,q⟩
theorem Md{oc:Value}{od an:Option Addr}{yW:Array (Option Value)}{kV doc pm hJ ct:Value}(l:K.lookup f=some ⟨oc,od,.func (PySem.W.fnOf x qual (lT st) (gW st) (bz st) .none kV doc pm an hJ ct),yW⟩)
  (c:PySem.W.codeIn K hJ qual=true)(k:PySem.W.keepIn K (.ref f)=true):Fun K x qual st f (PySem.W.fnOf x qual (lT st) (gW st) (bz st) .none kV doc pm an hJ ct):=⟨⟨oc,od,kV,doc,pm,an,hJ,ct,yW,rfl,l,c⟩,k⟩
end
theorem Oa{A:Around}{k:Nat}(hr:iA k A):A.units+1<cLine:=GcF (Nat.add_le_add_left (by decide:1<=64) _) hr.units
def cF(H H' :Hp):Prop:=∀b o,H b=some o->H' b=some o
variable{H:Hp}
theorem cF.trans{H1 H2:Hp}(a:cF H H1)(b:cF H1 H2):cF H H2:=λc o h=>b c o (a c o h)
theorem cF.free{H' :Hp}(e:cF H H'){l:Addr}(h:H' l=Option.none):H l=Option.none:=by
 cases q:H l with
 |none=>rfl
 |some o=>
  rw[e l o q] at h;cases h
end L2
namespace Hd
noncomputable section
open PySem PySem.W PyProof.Rows L2
abbrev p0:=PySem.Challenge.pw_dosehouse_k66_waiting
noncomputable def top(i:Nat):Stmt:=p0.main.body.getD i (.Pass ⟨0,0,0,0⟩)
noncomputable def view:Program:={p0 with main:={p0.main with body:=[1,3,5,6,8,10,12,13,14,15,16,17,18,19,20,21,22,24,25,26,27,28,29,30,31,32,33,34,35,36,37,38,39,40,41,42,43,44].map top}}
abbrev fd(n:Str)(i:Nat)(m:Str)(t c:Nat):FuncData:=fnOf n n (lT (top i)) (gW (top i)) (bz (top i)) .none .none .none (.str m t) none (.ref c) .none
noncomputable def fo(d:FuncData):Obj:=⟨.type "function",none,.func d,#[]⟩
noncomputable def co(n:Str)(t l k a:Nat)(x y:Value)(b u:Nat):Obj:={cls:= .type "code",data:= .fields #[.str n t,.str n (t+1),.str "/claim/cut.py" (t+2),.int l 0,.int k 0,.int 0 0,.int 0 0,.int 3 0,.ref a,.bool true,.int 181 0,.ref (a+1),.none,x,y,.ref b,.int u 0,.int l 0,.str "/claim/cut.py" (u+1)]}
noncomputable def e(P:Params)(n:Str)(t:Nat)(v:Value):DictEntry:=⟨PyData.keyHash P n,.str n t,v⟩
noncomputable def r(P:Params)(n:Str)(t a:Nat):DictEntry:=e P n t (.ref a)
noncomputable abbrev m0:Str:="dosehouse.books"
noncomputable abbrev m1:Str:="dosehouse.bounds"
noncomputable abbrev m2:Str:="dosehouse.dues"
noncomputable abbrev m3:Str:="dosehouse.room"
noncomputable abbrev m4:Str:="dosehouse.weights"
noncomputable abbrev m5:Str:="dosehouse.windows"
noncomputable abbrev m6:Str:="law_dosehouse_k66_waiting"
abbrev nR:=fd "givings_of" 1 m0 187 18
abbrev vp:=fd "bound" 3 m1 195 25
abbrev GA:=fd "span" 5 m2 205 32
abbrev D4:=fd "state" 6 m2 205 37
abbrev kH:=fd "weight_at" 8 m4 223 44
abbrev BJ:=fd "sums" 10 m5 236 51
abbrev iB:=fd "giving_hours" 12 m3 252 56
abbrev j7:=fd "amount_fits" 13 m3 252 63
abbrev gE:=fd "due_stretches" 14 m3 252 70
abbrev wX:=fd "gap_of" 15 m3 252 75
abbrev gF:=fd "gap_stretches" 16 m3 252 82
abbrev gG:=fd "age_stretches" 17 m3 252 87
abbrev mR:=fd "marks_of" 18 m3 252 94
abbrev pM:=fd "cap_steps" 19 m3 252 99
abbrev gH:=fd "cap_stretches" 20 m3 252 104
abbrev jh:=fd "shut_stretches" 21 m3 252 109
abbrev BK:=fd "wait" 22 m3 252 116
abbrev kI:=fd "_law_mixed" 24 m6 356 123
abbrev oR:=fd "_law_far" 25 m6 356 130
abbrev oS:=fd "_law_cap" 26 m6 356 137
abbrev kJ:=fd "_law_stuff" 27 m6 356 144
abbrev qK:=fd "_law_dues" 28 m6 356 151
abbrev kK:=fd "_law_order" 29 m6 356 158
abbrev kL:=fd "_law_world" 30 m6 356 165
abbrev mS:=fd "_law_hour" 31 m6 356 172
abbrev kM:=fd "_law_spots" 32 m6 356 177
abbrev nS:=fd "_law_weight" 33 m6 356 184
abbrev uc:=fd "_law_due" 34 m6 356 191
abbrev qL:=fd "_law_most" 35 m6 356 198
abbrev mT:=fd "_law_caps" 36 m6 356 205
abbrev mU:=fd "_law_near" 37 m6 356 212
abbrev oT:=fd "_law_own" 38 m6 356 217
abbrev jL:=fd "_law_faults" 39 m6 356 224
abbrev mV:=fd "_law_with" 40 m6 356 231
abbrev mW:=fd "_law_book" 41 m6 356 238
abbrev qM:=fd "_law_fits" 42 m6 356 245
abbrev pO:=fd "_law_first" 43 m6 356 252
abbrev GB:=fd "law" 44 m6 356 259
def K(P:Params):Frag:=[(3,{cls:= .type "dict",data:= .dict #[e P "__name__" 165 (.str "law_dosehouse_k66_waiting" 356),e P "__doc__" 166 (.none),e P "__package__" 167 (.none),e P "__loader__" 168 (.builtin "__main__.__loader__#opaque"),e P "__spec__" 169 (.none),r P "__annotations__" 170 6,r P "__builtins__" 171 4,e P "__file__" 173 (.str "/claim/cut.py" 172),e P "__cached__" 174 (.none),r P "givings_of" 194 19,r P "bound" 204 26,r P "span" 216 33,r P "state" 222 38,r P "weight_at" 235 45,r P "sums" 251 52,r P "giving_hours" 259 57,r P "amount_fits" 269 64,r P "due_stretches" 284 71,r P "gap_of" 290 76,r P "gap_stretches" 304 83,r P "age_stretches" 310 88,r P "marks_of" 323 95,r P "cap_steps" 329 100,r P "cap_stretches" 335 105,r P "shut_stretches" 341 110,r P "wait" 355 117,r P "_law_mixed" 367 124,r P "_law_far" 374 131,r P "_law_cap" 386 138,r P "_law_stuff" 401 145,r P "_law_dues" 414 152,r P "_law_order" 437 159,r P "_law_world" 454 166,r P "_law_hour" 467 173,r P "_law_spots" 473 178,r P "_law_weight" 484 185,r P "_law_due" 494 192,r P "_law_most" 502 199,r P "_law_caps" 521 206,r P "_law_near" 538 213,r P "_law_own" 544 218,r P "_law_faults" 556 225,r P "_law_with" 566 232,r P "_law_book" 586 239,r P "_law_fits" 597 246,r P "_law_first" 614 253,r P "law" 633 260] 47}),
 (19,fo nR),(18,co "givings_of" 189 2 2 15 (.none) (.none) 17 192),
 (26,fo vp),(25,co "bound" 197 5 2 20 (.ref 22) (.ref 23) 24 202),
 (33,fo GA),(32,co "span" 207 14 2 27 (.ref 29) (.ref 30) 31 214),
 (38,fo D4),(37,co "state" 217 18 4 34 (.none) (.none) 36 220),
 (45,fo kH),(44,co "weight_at" 225 28 3 39 (.ref 41) (.ref 42) 43 233),
 (52,fo BJ),(51,co "sums" 238 35 2 46 (.ref 48) (.ref 49) 50 249),
 (57,fo iB),(56,co "giving_hours" 254 49 2 53 (.none) (.none) 55 257),
 (64,fo j7),(63,co "amount_fits" 260 51 3 58 (.ref 60) (.ref 61) 62 267),
 (71,fo gE),(70,co "due_stretches" 270 54 4 65 (.ref 67) (.ref 68) 69 282),
 (76,fo wX),(75,co "gap_of" 285 68 3 72 (.none) (.none) 74 288),
 (83,fo gF),(82,co "gap_stretches" 291 71 3 77 (.ref 79) (.ref 80) 81 302),
 (88,fo gG),(87,co "age_stretches" 305 80 5 84 (.none) (.none) 86 308),
 (95,fo mR),(94,co "marks_of" 311 88 3 89 (.ref 91) (.ref 92) 93 321),
 (100,fo pM),(99,co "cap_steps" 324 96 5 96 (.none) (.none) 98 327),
 (105,fo gH),(104,co "cap_stretches" 330 101 7 101 (.none) (.none) 103 333),
 (110,fo jh),(109,co "shut_stretches" 336 115 6 106 (.none) (.none) 108 339),
 (117,fo BK),(116,co "wait" 342 126 6 111 (.ref 113) (.ref 114) 115 353),
 (124,fo kI),(123,co "_law_mixed" 358 139 2 118 (.ref 120) (.ref 121) 122 365),
 (131,fo oR),(130,co "_law_far" 368 145 1 125 (.ref 127) (.ref 128) 129 372),
 (138,fo oS),(137,co "_law_cap" 375 147 4 132 (.ref 134) (.ref 135) 136 384),
 (145,fo kJ),(144,co "_law_stuff" 387 155 4 139 (.ref 141) (.ref 142) 143 399),
 (152,fo qK),(151,co "_law_dues" 402 165 3 146 (.ref 148) (.ref 149) 150 412),
 (159,fo kK),(158,co "_law_order" 415 173 6 153 (.ref 155) (.ref 156) 157 435),
 (166,fo kL),(165,co "_law_world" 438 189 1 160 (.ref 162) (.ref 163) 164 452),
 (173,fo mS),(172,co "_law_hour" 455 208 4 167 (.ref 169) (.ref 170) 171 465),
 (178,fo kM),(177,co "_law_spots" 468 216 1 174 (.none) (.none) 176 471),
 (185,fo nS),(184,co "_law_weight" 474 218 3 179 (.ref 181) (.ref 182) 183 482),
 (192,fo uc),(191,co "_law_due" 485 224 2 186 (.ref 188) (.ref 189) 190 492),
 (199,fo qL),(198,co "_law_most" 495 231 2 193 (.ref 195) (.ref 196) 197 500),
 (206,fo mT),(205,co "_law_caps" 503 239 5 200 (.ref 202) (.ref 203) 204 519),
 (213,fo mU),(212,co "_law_near" 522 252 4 207 (.ref 209) (.ref 210) 211 536),
 (218,fo oT),(217,co "_law_own" 539 264 5 214 (.none) (.none) 216 542),
 (225,fo jL),(224,co "_law_faults" 545 283 2 219 (.ref 221) (.ref 222) 223 554),
 (232,fo mV),(231,co "_law_with" 557 290 4 226 (.ref 228) (.ref 229) 230 564),
 (239,fo mW),(238,co "_law_book" 567 292 3 233 (.ref 235) (.ref 236) 237 584),
 (246,fo qM),(245,co "_law_fits" 587 312 5 240 (.ref 242) (.ref 243) 244 595),
 (253,fo pO),(252,co "_law_first" 598 316 4 247 (.ref 249) (.ref 250) 251 612),
 (260,fo GB),(259,co "law" 615 324 1 254 (.ref 256) (.ref 257) 258 631)]
noncomputable def as_:List Addr:=[3,19,18,26,25,33,32,38,37,45,44,52,51,57,56,64,63,71,70,76,75,83,82,88,87,95,94,100,99,105,104,110,109,117,116,124,123,131,130,138,137,145,144,152,151,159,158,166,165,173,172,178,177,185,184,192,191,199,198,206,205,213,212,218,217,225,224,232,231,239,238,246,245,253,252,260,259]
def hook:Hook:=kHook K as_ (λ_=>rfl)
def xt(s:Shared):Bool:=xlAt view [] s&&recOk (RowW.records (OpenRow.toRowW (OpenLaw.row PySem.Challenge.rw_dosehouse_k66_waiting))) s
theorem left:LeftO p0 view [] xt hook.obs hook.val 2750:=λw=>by kernel_rfl
end
end Hd
section
open PySem PySem.Spec PySem.W PyProof.Rows L2
theorem Hd.close(hc:∀d:DefRec,d.params.defaults=[]->d.name="law"->WalkO Hd.view [] (XL Hd.view []) (Hook.says Hd.hook) PySem.Challenge.rw_dosehouse_k66_waiting.row.toRowW d [] (λf vs=>PySem.call f vs)):PySem.Challenge.rw_dosehouse_k66_waiting.Holds:=by
 refine holds_law (by kernel_rfl) λRC=> ?_;refine holds_open (q:=Hd.view) (loose:=[]) (Xt:=Hd.xt) (XP:=XL Hd.view []) (Yf:=Hook.obs Hd.hook) (Ya:=Hook.val Hd.hook) (YP:=Hook.says Hd.hook) (N:=2750) Hd.left (Hook.of Hd.hook) (Hook.keeps Hd.hook) (λs e=>xl_of s (Bool.and_eq_true_iff.mp e).1) XL.keeps (by rfl) (by rfl) (by rfl) (λs e=>recFacts_of (Bool.and_eq_true_iff.mp e).2) (by rfl) RC (by decide+kernel) ⟨rfl,rfl,rfl,rfl,rfl,by decide+kernel⟩ ?hw ?hc
 case hw=>w_witness2
 case hc=>exact hc _ rfl rfl
end
namespace DL
open PySem
abbrev Key:=Sum Int Str
set_option genInjectivity true in
inductive D where
 |non
 |bl (b:Bool)
 |int (i:Int)
 |str (x:Str)
 |tup (ds:List D)
 |lst (ds:List D)
 |dK (eD:List (Key×D))
 |dT (eD:List (List Key×D))
 |scr (ns:List Int)
 |exc (C:Nat) (n:Str) (d:D)
 deriving Inhabited
mutual
@[simp] noncomputable def D.imm:D->Bool
 | .non=>true
 | .bl _=>true
 | .int _=>true
 | .str _=>true
 | .tup ds=>aC ds
 | .lst _=>false
 | .dK _=>false
 | .dT _=>false
 | .scr _=>true
 | .exc _ _ d=>d.imm
@[simp] noncomputable def aC:List D->Bool
 |[]=>true
 |d::ds=>d.imm&&aC ds
end
noncomputable def D.pP:D->Bool
 | .lst ds=>aC ds
 | .dK eD=>aC (eD.map (·.2))
 | .dT eD=>aC (eD.map (·.2))
 |d=>d.imm
noncomputable def D.top:D->Bool
 | .lst _=>true
 | .dK _=>true
 | .dT _=>true
 |_=>false
noncomputable def a9:Nat:=16777216
set_option genInjectivity true in
inductive Slot where
 |sh (d:D)
 |own (d:D)
 |lok (d:D)
 |bor (d:D)
abbrev Env:=List (Option Slot)
set_option genInjectivity true in
inductive Cls where
 |c|tn|to|tb
 deriving DecidableEq
set_option genInjectivity true in
structure RV where
 k:Cls
 d:D
abbrev DE:=Env->Option RV
abbrev DT:=Env->Option Bool
abbrev DA:=Env->Option (List RV)
abbrev DG:=D->Env->Option Env
set_option genInjectivity true in
inductive Out where
 |nx (e:Env)
 |ret (d:D)
 |bk (e:Env)
 |ct (e:Env)
abbrev DS:=Env->Option Out
noncomputable def jM(d:D):RV:=⟨if d.top then .tn else .c,d⟩
noncomputable def RV.free(r:RV):Bool:=match r.k with
 | .c=>true
 | .tn=>true
 |_=>false
@[simp] noncomputable def vE(i:Nat):DE:=λenv=>match env[i]? with
 |some (some (.sh d))=>some ⟨.c,d⟩
 |some (some (.own d))=>some ⟨.to,d⟩
 |some (some (.lok d))=>some ⟨.tb,d⟩
 |some (some (.bor d))=>some ⟨.tb,d⟩
 |_=>none
@[simp] noncomputable def kE(d:D):DE:=λ_=>some ⟨.c,d⟩
@[simp] noncomputable def opE(o:D->D->Option RV)(f g:DE):DE:=λenv=>(f env).bind λx=>(g env).bind λy=>o x.d y.d
@[simp] noncomputable def unE(o:D->Option RV)(f:DE):DE:=λenv=>(f env).bind λx=>o x.d
noncomputable def av:D->D->Option RV
 | .int i,.int j=>some ⟨.c,.int (i+j)⟩
 | .str x,.str y=>if x.length+y.length<=a9 then some ⟨.c,.str (x++y)⟩ else none
 | .tup x,.tup y=>if x.length+y.length<=a9/\0<x.length then some ⟨.c,.tup (x++y)⟩ else none
 | .lst x,.lst y=>if x.length+y.length<=a9 then some ⟨.tn,.lst (x++y)⟩ else none
 |_,_=>none
noncomputable def gI:D->D->Option RV
 | .int i,.int j=>some ⟨.c,.int (i -j)⟩
 |_,_=>none
noncomputable def aX(i j:Int):Bool:=decide (i.natAbs<18446744073709551616)||decide (j.natAbs<18446744073709551616)
noncomputable def bD:D->D->Option RV
 | .int i,.int j=>if aX i j then some ⟨.c,.int (i*j)⟩ else none
 |_,_=>none
noncomputable def dw:D->D->Option RV
 | .int i,.int j=>if 0<j/\j<1073741824 then some ⟨.c,.int (i/j)⟩ else none
 |_,_=>none
noncomputable def aR:D->D->Option RV
 | .int i,.int j=>if 0<j then some ⟨.c,.int (i%j)⟩ else none
 |_,_=>none
noncomputable def BL:D->D->Option RV
 | .int i,.int j=>if 0<=j/\j<=1000/\i.natAbs<1000000 then some ⟨.c,.int (i^j.toNat)⟩ else none
 |_,_=>none
noncomputable def GC:D->Option RV
 | .int i=>some ⟨.c,.int (-i)⟩
 |_=>none
@[simp] noncomputable def aD:Nat->D->Bool
 |_,.non=>true
 |_,.bl _=>true
 |_,.int _=>true
 |_,.str _=>true
 |n+1,.tup ds=>ds.all (aD n)
 |n+1,.lst ds=>ds.all (aD n)
 |_,_=>false
@[simp] noncomputable def D.plain(d:D):Bool:=aD 20 d
mutual
noncomputable def eqD:D->D->Bool
 | .non,.non=>true
 | .bl a,.bl b=>a==b
 | .bl a,.int b=>(if a then 1 else 0)==b
 | .int a,.bl b=>a==(if b then 1 else 0)
 | .int a,.int b=>a==b
 | .str a,.str b=>a==b
 | .tup a,.tup b=>kx a b
 | .lst a,.lst b=>kx a b
 |_,_=>false
@[simp] noncomputable def kx:List D->List D->Bool
 |[],[]=>true
 |a::as,b::bs=>eqD a b&&kx as bs
 |_,_=>false
end
@[simp] theorem PC:eqD .non .non=true:=rfl
@[simp] theorem Qt{a b:Bool}:eqD (.bl a) (.bl b)=(a==b):=rfl
@[simp] theorem Qu{a:Bool}{b:Int}:eqD (.bl a) (.int b)=((if a then 1 else 0)==b):=rfl
@[simp] theorem Qv{a:Int}{b:Bool}:eqD (.int a) (.bl b)=(a==(if b then 1 else 0)):=rfl
@[simp] theorem Qw{a b:Int}:eqD (.int a) (.int b)=(a==b):=rfl
@[simp] theorem Qx{a b:Str}:eqD (.str a) (.str b)=(a==b):=rfl
@[simp] theorem Qy{a b:List D}:eqD (.tup a) (.tup b)=kx a b:=rfl
@[simp] theorem Qz{a b:List D}:eqD (.lst a) (.lst b)=kx a b:=rfl
@[simp] theorem L9{b:Int}:eqD .non (.int b)=false:=rfl
@[simp] theorem La{a:Int}:eqD (.int a) .non=false:=rfl
@[simp] theorem Lb{a:Int}{b:Str}:eqD (.int a) (.str b)=false:=rfl
@[simp] theorem Lc{a:Str}{b:Int}:eqD (.str a) (.int b)=false:=rfl
@[simp] theorem Ld{b:Str}:eqD .non (.str b)=false:=rfl
@[simp] theorem Le{a:Str}:eqD (.str a) .non=false:=rfl
@[simp] theorem Lf{a:Int}{b:List D}:eqD (.int a) (.tup b)=false:=rfl
@[simp] theorem Lg{a:List D}{b:Int}:eqD (.tup a) (.int b)=false:=rfl
@[simp] theorem Lh{a:Str}{b:List D}:eqD (.str a) (.tup b)=false:=rfl
@[simp] theorem Li{a:List D}{b:Str}:eqD (.tup a) (.str b)=false:=rfl
@[simp] theorem Lj{b:List D}:eqD .non (.tup b)=false:=rfl
@[simp] theorem Lk{a:List D}:eqD (.tup a) .non=false:=rfl
@[simp] theorem Me{b:Bool}:eqD .non (.bl b)=false:=rfl
@[simp] theorem Mf{a:Bool}:eqD (.bl a) .non=false:=rfl
noncomputable def eqB(x y:D):Option Bool:=if x.plain&&y.plain then some (eqD x y) else none
noncomputable def neB(x y:D):Option Bool:=if x.plain&&y.plain then some (!eqD x y) else none
noncomputable def cu:D->Bool
 | .non=>true
 |_=>false
noncomputable def ky(x y:D):Option Bool:=if cu y then some (cu x) else none
noncomputable def fQ(x y:D):Option Bool:=if cu y then some (!cu x) else none
noncomputable def ltB:D->D->Option Bool
 | .int i,.int j=>some (decide (i<j))
 |_,_=>none
noncomputable def leB:D->D->Option Bool
 | .int i,.int j=>some (decide (i<=j))
 |_,_=>none
noncomputable def gtB:D->D->Option Bool
 | .int i,.int j=>some (decide (j<i))
 |_,_=>none
noncomputable def geB:D->D->Option Bool
 | .int i,.int j=>some (decide (j<=i))
 |_,_=>none
@[simp] noncomputable def az(o:D->D->Option Bool)(f g:DE):DT:=λenv=>(f env).bind λx=>(g env).bind λy=>o x.d y.d
@[simp] noncomputable def bE(t:DT):DE:=λenv=>(t env).map λb=> ⟨.c,.bl b⟩
@[simp] noncomputable def BM(f:DE):DT:=λenv=>(f env).bind λx=>match x.d with
 | .bl b=>some b
 |_=>none
@[simp] noncomputable def iS(t u:DT):DT:=λenv=>(t env).bind λb=>if b then u env else some false
@[simp] noncomputable def orT(t u:DT):DT:=λenv=>(t env).bind λb=>if b then some true else u env
@[simp] noncomputable def Mg(t:DT):DT:=λenv=>(t env).map (!·)
@[simp] noncomputable def mX(o p:D->D->Option Bool)(f g h:DE):DT:=λenv=>(f env).bind λx=>(g env).bind λy=>(o x.d y.d).bind λb=>if b then(h env).bind λz=>p y.d z.d else some false
@[simp] noncomputable def ifE(t:DT)(f g:DE):DE:=λenv=>(t env).bind λb=>if b then f env else g env
noncomputable def atD{α:Type}(xs:List α)(i:Int):Option α:=if 0<=i then xs[i.toNat]? else if -(xs.length:Int)<=i then xs[(i+xs.length).toNat]? else none
noncomputable def keyOf:D->Option Key
 | .int i=>some (.inl i)
 | .str x=>some (.inr x)
 |_=>none
@[simp] noncomputable def keysOf:List D->Option (List Key)
 |[]=>some []
 |d::ds=>(keyOf d).bind λk=>(keysOf ds).map (k:: ·)
section
variable{Y:Type} [DecidableEq Y]
noncomputable def look(eD:List (Y×D))(k:Y):Option D:=(eD.find? λkv=>decide (kv.1=k)).map (·.2)
noncomputable def put(eD:List (Y×D))(k:Y)(v:D):List (Y×D):=
 if(eD.any λkv=>decide (kv.1=k))=true then eD.map (λkv=>if kv.1=k then(kv.1,v) else kv) else eD++[(k,v)]
end
noncomputable def ixD:D->D->Option D
 | .lst xs,.int i=>atD xs i
 | .tup xs,.int i=>atD xs i
 | .str x,.int i=>if x.length<=a9 then(atD x.cps.toList i).map λc=> .str ⟨#[c]⟩ else none
 | .dK eD,k=>(keyOf k).bind λk=>look eD k
 | .dT eD,.tup ds=>(keysOf ds).bind λk=>look eD k
 | .scr ns,.int i=>(atD ns i).map .int
 |_,_=>none
@[simp] noncomputable def ixE(f g:DE):DE:=λenv=>(f env).bind λx=>(g env).bind λy=>(ixD x.d y.d).map λd=> ⟨.c,d⟩
@[simp] noncomputable def ae:DA:=λ_=>some []
@[simp] noncomputable def a7(f:DE)(r:DA):DA:=λenv=>(f env).bind λx=>(r env).bind λxs=>some (x::xs)
@[simp] noncomputable def aS(a:DA):DE:=λenv=>(a env).bind λrs=>if rs.all (·.free)&&decide (rs.length<=a9) then some ⟨.c,.tup (rs.map (·.d))⟩ else none
@[simp] noncomputable def fE(a:DA):DE:=λenv=>(a env).bind λrs=>if rs.all (·.free)&&decide (rs.length<=a9) then some ⟨.tn,.lst (rs.map (·.d))⟩ else none
@[simp] noncomputable def ao(sp:List D->Option D)(a:DA):DE:=λenv=>(a env).bind λrs=>(sp (rs.map (·.d))).map jM
@[simp] noncomputable def bZ(o:List D->Option RV)(a:DA):DE:=λenv=>(a env).bind λrs=>o (rs.map (·.d))
noncomputable def dG:List D->Option RV
 |[.lst xs]=>some ⟨.c,.int xs.length⟩
 |[.tup xs]=>some ⟨.c,.int xs.length⟩
 |[.str x]=>if x.length<=a9 then some ⟨.c,.int x.length⟩ else none
 |[.dK eD]=>some ⟨.c,.int eD.length⟩
 |[.scr ns]=>some ⟨.c,.int ns.length⟩
 |_=>none
noncomputable def qN:List D->Option RV
 |[.int i,.int j]=>some ⟨.c,.int (if j<i then j else i)⟩
 |_=>none
noncomputable def wY:List D->Option RV
 |[.int i,.int j]=>some ⟨.c,.int (if j>i then j else i)⟩
 |_=>none
noncomputable def fg:List D->Option RV
 |[.lst xs]=>some ⟨.c,.tup xs⟩
 |[.tup xs]=>some ⟨.c,.tup xs⟩
 |_=>none
@[simp] noncomputable def vt:List D->Option (List Bool)
 |[]=>some []
 | .bl b::ds=>(vt ds).map (b:: ·)
 |_=>none
@[simp] noncomputable def wZ:List D->Option (List Int)
 |[]=>some []
 | .int i::ds=>(wZ ds).map (i:: ·)
 |_=>none
noncomputable def kN:D->Option (List D)
 | .lst xs=>some xs
 | .tup xs=>some xs
 | .scr ns=>some (ns.map .int)
 |_=>none
noncomputable def one(o:List D->Option RV):List D->Option RV
 |[d]=>(kN d).bind o
 |_=>none
noncomputable def anyS:List D->Option RV:=one λds=>(vt ds).map λbs=> ⟨.c,.bl (bs.any id)⟩
noncomputable def Jx:List D->Option RV:=one λds=>(wZ ds).map λns=> ⟨.c,.int ns.sum⟩
noncomputable def kO(i:Int)(ns:List Int):Int:=ns.foldl (λa b=>if b<a then b else a) i
noncomputable def mC(T:String):D->Bool
 | .non=>T=="NoneType"
 | .bl _=>T=="bool"||T=="int"
 | .int _=>T=="int"
 | .str _=>T=="str"
 | .tup _=>T=="tuple"
 | .lst _=>T=="list"
 | .dK _=>T=="dict"
 | .dT _=>T=="dict"
 | .scr _=>T=="list"
 | .exc _ _ _=>false
noncomputable def pQ:D->Bool
 | .scr _=>true
 | .exc _ _ _=>true
 |_=>false
@[simp] noncomputable def Mh(T:String)(f:DE):DT:=λenv=>(f env).bind λx=>if pQ x.d then none else some (mC T x.d)
noncomputable def sIx(n d:Nat):Option Int->Nat
 |none=>d
 |some v=>if v<0 then(v+(n:Int)).toNat else min v.toNat n
noncomputable def cutD{α:Type}(xs:List α)(lo hi:Option Int):List α:=(xs.drop (sIx xs.length 0 lo)).take (sIx xs.length xs.length hi -sIx xs.length 0 lo)
abbrev DO:=Env->Option (Option Int)
@[simp] noncomputable def noO:DO:=λ_=>some none
@[simp] noncomputable def GF(f:DE):DO:=λenv=>(f env).bind λx=>match x.d with
 | .int i=>some (some i)
 |_=>none
noncomputable def slD(lo hi:Option Int):D->Option RV
 | .lst xs=>some ⟨.tn,.lst (cutD xs lo hi)⟩
 | .tup xs=>if sIx xs.length 0 lo=0/\sIx xs.length xs.length hi=xs.length then none else some ⟨.c,.tup (cutD xs lo hi)⟩
 | .scr ns=>some ⟨.tn,.lst (cutD (ns.map .int) lo hi)⟩
 |_=>none
@[simp] noncomputable def slE(f:DE)(lo hi:DO):DE:=λenv=>(f env).bind λx=>(lo env).bind λl=>(hi env).bind λh=>slD l h x.d
@[simp] noncomputable def gN(i:Nat):DG:=λd env=>some (env.set i (some (.sh d)))
@[simp] noncomputable def gNs:List Nat->List D->Env->Option Env
 |[],[],env=>some env
 |i::is,d::ds,env=>gNs is ds (env.set i (some (.sh d)))
 |_,_,_=>none
@[simp] noncomputable def gT(is:List Nat):DG:=λd env=>match d with
 | .tup ds=>gNs is ds env
 |_=>none
@[simp] noncomputable def aL:DS:=λenv=>some (.nx env)
@[simp] noncomputable def bkS:DS:=λenv=>some (.bk env)
@[simp] noncomputable def ai(f g:DS):DS:=λenv=>(f env).bind λo=>match o with
 | .nx e=>g e
 |o=>some o
noncomputable def stored(i:Nat)(r:RV)(env:Env):Option Env:=match r.k with
 | .c=>some (env.set i (some (.sh r.d)))
 | .tn=>some (env.set i (some (.own r.d)))
 |_=>none
@[simp] noncomputable def ar(i:Nat)(f:DE):DS:=λenv=>(f env).bind λr=>(stored i r env).map .nx
@[simp] noncomputable def Ob(g:DG)(f:DE):DS:=λenv=>(f env).bind λr=>match r.k with
 | .c=>(g r.d env).map .nx
 |_=>none
noncomputable def D5(r:RV):Bool:=match r.k with
 | .c=>r.d.imm
 | .tn=>r.d.pP
 | .to=>r.d.pP
 | .tb=>false
@[simp] noncomputable def retS(f:DE):DS:=λenv=>(f env).bind λr=>if D5 r then some (.ret r.d) else none
@[simp] noncomputable def ifS(t:DT)(f g:DS):DS:=λenv=>(t env).bind λb=>if b then f env else g env
@[simp] noncomputable def forL(g:DG)(body:DS):List D->Env->Option Out
 |[],env=>some (.nx env)
 |d::ds,env=>(g d env).bind λe=>(body e).bind λo=>match o with
  | .nx e=>forL g body ds e
  | .ct e=>forL g body ds e
  | .bk e=>some (.nx e)
  | .ret d=>some (.ret d)
abbrev DI:=Env->Option (List D)
@[simp] noncomputable def bc(l:Option Nat)(env:Env):Env:=match l with
 |none=>env
 |some i=>match env[i]? with
  |some (some (.own d))=>env.set i (some (.lok d))
  |_=>env
@[simp] noncomputable def pR(l:Option Nat)(env:Env):Bool:=match l with
 |none=>false
 |some i=>match env[i]? with
  |some (some (.own _))=>true
  |_=>false
@[simp] noncomputable def iC(l:Option Nat)(env:Env):Env:=match l with
 |none=>env
 |some i=>match env[i]? with
  |some (some (.lok d))=>env.set i (some (.own d))
  |_=>env
noncomputable def freed(l:Option Nat)(b:Bool):Out->Out
 | .nx e=> .nx (if b then iC l e else e)
 |o=>o
@[simp] noncomputable def fD(l:Option Nat)(src:DI)(g:DG)(body:DS):DS:=λenv=>(src (bc l env)).bind λds=>(forL g body ds (bc l env)).map (freed l (pR l env))
noncomputable def gJ(t:DT)(body:DS):Nat->Env->Option Out
 |0,_=>none
 |n+1,env=>(t env).bind λb=>if b then(body env).bind λo=>match o with
   | .nx e=>gJ t body n e
   | .ct e=>gJ t body n e
   | .bk e=>some (.nx e)
   | .ret d=>some (.ret d)
  else some (.nx env)
noncomputable def vv(t:DT)(body:DS):DS:=gJ t body 100000
@[simp] noncomputable def fT(f:DE):DI:=λenv=>(f env).bind λr=>if r.k= .to then none else match r.d with
 | .lst xs=>some xs
 | .tup xs=>some xs
 | .scr ns=>some (ns.map .int)
 |_=>none
noncomputable def aB(lo:Int)(n:Nat):List D:=(List.range n).map λ(k:Nat)=> .int (lo+(k:Int))
noncomputable def aP(i:Int):Bool:=decide (-4611686018427387904<=i)&&decide (i<4611686018427387904)
@[simp] noncomputable def cV(f:DE):DI:=λenv=>(f env).bind λr=>match r.d with
 | .int j=>if aP j then some (aB 0 j.toNat) else none
 |_=>none
@[simp] noncomputable def vw(f g:DE):DI:=λenv=>(f env).bind λx=>(g env).bind λy=>match x.d,y.d with
 | .int i,.int j=>if aP i&&aP j then some (aB i (j -i).toNat) else none
 |_,_=>none
@[simp] noncomputable def ownAt(i:Nat)(env:Env):Option D:=match env[i]? with
 |some (some (.own d))=>some d
 |_=>none
@[simp] noncomputable def gX(i:Nat)(f:DE):DS:=λenv=>(f env).bind λr=>(ownAt i env).bind λd=>match d with
 | .lst xs=>if r.free&&decide (xs.length<a9) then some (.nx (env.set i (some (.own (.lst (xs++[r.d])))))) else none
 |_=>none
@[simp] noncomputable def GG(i:Nat)(f:DE):DS:=λenv=>(f env).bind λr=>(ownAt i env).bind λd=>match d,r.d with
 | .lst xs,.lst ys=>if(r.k== .tn)&&decide (xs.length+ys.length<=a9) then some (.nx (env.set i (some (.own (.lst (xs++ys)))))) else none
 |_,_=>none
noncomputable def gY:Option Slot->Option Slot
 |some (.sh d)=>some (.sh d)
 |some (.own d)=>some (.bor d)
 |some (.lok d)=>some (.bor d)
 |some (.bor d)=>some (.bor d)
 |none=>none
noncomputable def compEnv(n:Nat)(ax:List Nat)(env:Env):Env:=List.replicate n none++ax.map λi=>gY (env[i]?.getD none)
@[simp] noncomputable def bF(g:DG)(t:DT)(f:DE):List D->Env->Option (List D)
 |[],_=>some []
 |d::ds,env=>(g d env).bind λe=>(t e).bind λb=>if b then(f e).bind λr=>if r.free then(bF g t f ds e).map (r.d:: ·) else none else bF g t f ds e
@[simp] noncomputable def ft(l:Option Nat)(n:Nat)(ax:List Nat)(src:DI)(g:DG)(t:DT)(f:DE):DE:=λenv=>(src (bc l env)).bind λds=>if ds.length<=a9 then(bF g t f ds (compEnv n ax env)).map λrs=> ⟨.tn,.lst rs⟩ else none
@[simp] noncomputable def cT:DT:=λ_=>some true
@[simp] noncomputable def bw(n:Nat)(ds:List D):Env:=ds.map (λd=>some (.sh d))++List.replicate (n -ds.length) none
@[simp] noncomputable def cG(n np:Nat)(body:DS):List D->Option D:=λds=>if ds.length=np then(body (bw n ds)).bind λo=>match o with
  | .ret d=>some d
  | .nx _=>some .non
  |_=>none
 else none
@[simp] theorem Jy{a b:String}:Str.ofString a=Str.ofString b↔a=b:=by
 constructor
 .intro h;rw[Str.ofString_eq_toList,Str.ofString_eq_toList] at h;have h1:a.toList.map Char.toNat=b.toList.map Char.toNat:=by
   injection h with h
   exact Array.toList_inj.mpr h|>λz=>by simpa using z
  have h2:a.toList=b.toList:=by
   have inj:∀(x y:List Char),x.map Char.toNat=y.map Char.toNat->x=y:=by
    intro x;induction x with
    |nil=>intro y e;cases y with
     |nil=>rfl
     |cons=>simp at e
    |cons c x ih=>intro y e;cases y with
     |nil=>simp at e
     |cons c' y=>
      simp only[GaA,List.cons.injEq] at e;rw[ih y e.2,Char.toNat_inj.mp e.1]
   exact inj _ _ h1
  exact String.toList_inj.mp h2
 .rintro rfl;rfl
section
variable{i j:Int}{x y:Str}{ds es:List D}{d:D}{env:Env}{n:Nat}
@[simp] theorem Oc:av (.int i) (.int j)=some ⟨.c,.int (i+j)⟩:=rfl
@[simp] theorem Od:av (.str x) (.str y)=if x.length+y.length<=a9 then some ⟨.c,.str (x++y)⟩ else none:=rfl
@[simp] theorem Oe:av (.tup ds) (.tup es)=if ds.length+es.length<=a9/\0<ds.length then some ⟨.c,.tup (ds++es)⟩ else none:=rfl
@[simp] theorem Of:av (.lst ds) (.lst es)=if ds.length+es.length<=a9 then some ⟨.tn,.lst (ds++es)⟩ else none:=rfl
@[simp] theorem Og:gI (.int i) (.int j)=some ⟨.c,.int (i -j)⟩:=rfl
@[simp] theorem Oh:bD (.int i) (.int j)=if aX i j then some ⟨.c,.int (i*j)⟩ else none:=rfl
@[simp] theorem Nm:dw (.int i) (.int j)=if 0<j/\j<1073741824 then some ⟨.c,.int (i/j)⟩ else none:=rfl
@[simp] theorem Oi:aR (.int i) (.int j)=if 0<j then some ⟨.c,.int (i%j)⟩ else none:=rfl
@[simp] theorem Oj:BL (.int i) (.int j)=if 0<=j/\j<=1000/\i.natAbs<1000000 then some ⟨.c,.int (i^j.toNat)⟩ else none:=rfl
@[simp] theorem Ol:GC (.int i)=some ⟨.c,.int (-i)⟩:=rfl
@[simp] theorem PD:ltB (.int i) (.int j)=some (decide (i<j)):=rfl
@[simp] theorem PF:leB (.int i) (.int j)=some (decide (i<=j)):=rfl
@[simp] theorem PJ:gtB (.int i) (.int j)=some (decide (j<i)):=rfl
@[simp] theorem PK:geB (.int i) (.int j)=some (decide (j<=i)):=rfl
@[simp] theorem PL:eqB (.int i) (.int j)=some (i==j):=rfl
@[simp] theorem PM:eqB (.str x) (.str y)=some (x==y):=rfl
@[simp] theorem QA:eqB .non (.int j)=some false:=rfl
@[simp] theorem QB:eqB (.int j) .non=some false:=rfl
@[simp] theorem QC:eqB .non .non=some true:=rfl
@[simp] theorem PN:neB (.int i) (.int j)=some (!(i==j)):=rfl
@[simp] theorem PQ:neB (.str x) (.str y)=some (!(x==y)):=rfl
@[simp] theorem QD:neB .non (.int j)=some true:=rfl
@[simp] theorem QE:neB (.int j) .non=some true:=rfl
@[simp] theorem QF:neB .non .non=some false:=rfl
@[simp] theorem Nn:cu .non=true:=rfl
@[simp] theorem Np:cu (.int i)=false:=rfl
@[simp] theorem Nq:cu (.str x)=false:=rfl
@[simp] theorem Om{b:Bool}:cu (.bl b)=false:=rfl
@[simp] theorem Nr:cu (.tup ds)=false:=rfl
@[simp] theorem Nt:cu (.lst ds)=false:=rfl
@[simp] theorem Oo:ky d .non=some (cu d):=rfl
@[simp] theorem Nu:fQ d .non=some (!cu d):=rfl
@[simp] theorem qO:dG [.lst ds]=some ⟨.c,.int ds.length⟩:=rfl
@[simp] theorem qP:dG [.tup ds]=some ⟨.c,.int ds.length⟩:=rfl
@[simp] theorem Oq:dG [.str x]=if x.length<=a9 then some ⟨.c,.int x.length⟩ else none:=rfl
@[simp] theorem Ot{ns:List Int}:dG [.scr ns]=some ⟨.c,.int ns.length⟩:=rfl
@[simp] theorem PR{eD:List (Key×D)}:dG [.dK eD]=some ⟨.c,.int eD.length⟩:=rfl
@[simp] theorem Nv:qN [.int i,.int j]=some ⟨.c,.int (if j<i then j else i)⟩:=rfl
@[simp] theorem Nw:wY [.int i,.int j]=some ⟨.c,.int (if j>i then j else i)⟩:=rfl
@[simp] theorem Mi:fg [.lst ds]=some ⟨.c,.tup ds⟩:=rfl
@[simp] theorem Mj:fg [.tup ds]=some ⟨.c,.tup ds⟩:=rfl
@[simp] theorem Ou{T:String}:mC T .non=(T=="NoneType"):=rfl
@[simp] theorem PU{T:String}{b:Bool}:mC T (.bl b)=(T=="bool"||T=="int"):=rfl
@[simp] theorem Ov{T:String}:mC T (.int i)=(T=="int"):=rfl
@[simp] theorem Ox{T:String}:mC T (.str x)=(T=="str"):=rfl
@[simp] theorem Oy{T:String}:mC T (.tup ds)=(T=="tuple"):=rfl
@[simp] theorem Oz{T:String}:mC T (.lst ds)=(T=="list"):=rfl
@[simp] theorem Nx:pQ .non=false:=rfl
@[simp] theorem OC{b:Bool}:pQ (.bl b)=false:=rfl
@[simp] theorem Ny:pQ (.int i)=false:=rfl
@[simp] theorem Nz:pQ (.str x)=false:=rfl
@[simp] theorem NA:pQ (.tup ds)=false:=rfl
@[simp] theorem NB:pQ (.lst ds)=false:=rfl
@[simp] theorem PV{lo hi:Option Int}:slD lo hi (.lst ds)=some ⟨.tn,.lst (cutD ds lo hi)⟩:=rfl
@[simp] theorem vA{lo hi:Option Int}:slD lo hi (.tup ds)=if sIx ds.length 0 lo=0/\sIx ds.length ds.length hi=ds.length then none else some ⟨.c,.tup (cutD ds lo hi)⟩:=rfl
@[simp] theorem PX{lo hi:Option Int}{ns:List Int}:slD lo hi (.scr ns)=some ⟨.tn,.lst (cutD (ns.map .int) lo hi)⟩:=rfl
@[simp] theorem OE:stored n ⟨.c,d⟩ env=some (env.set n (some (.sh d))):=rfl
@[simp] theorem NC:stored n ⟨.tn,d⟩ env=some (env.set n (some (.own d))):=rfl
@[simp] theorem PY:D5 ⟨.c,d⟩=d.imm:=rfl
@[simp] theorem OF:D5 ⟨.tn,d⟩=d.pP:=rfl
@[simp] theorem OG:D5 ⟨.to,d⟩=d.pP:=rfl
@[simp] theorem ND:(D.lst ds).pP=aC ds:=rfl
@[simp] theorem OH{eD:List (List Key×D)}:(D.dT eD).pP=aC (eD.map (·.2)):=rfl
@[simp] theorem OI{eD:List (Key×D)}:(D.dK eD).pP=aC (eD.map (·.2)):=rfl
@[simp] theorem OJ:jM .non=⟨.c,.non⟩:=rfl
@[simp] theorem PZ{b:Bool}:jM (.bl b)=⟨.c,.bl b⟩:=rfl
@[simp] theorem OK:jM (.int i)=⟨.c,.int i⟩:=rfl
@[simp] theorem OL:jM (.str x)=⟨.c,.str x⟩:=rfl
@[simp] theorem OM:jM (.tup ds)=⟨.c,.tup ds⟩:=rfl
@[simp] theorem ON:jM (.lst ds)=⟨.tn,.lst ds⟩:=rfl
@[simp] theorem Q0{eD:List (List Key×D)}:jM (.dT eD)=⟨.tn,.dT eD⟩:=rfl
@[simp] theorem Q1{eD:List (Key×D)}:jM (.dK eD)=⟨.tn,.dK eD⟩:=rfl
@[simp] theorem QG:RV.free ⟨.c,d⟩=true:=rfl
@[simp] theorem Q2:RV.free ⟨.tn,d⟩=true:=rfl
@[simp] theorem OO{l:Option Nat}{b:Bool}:freed l b (.nx env)= .nx (if b then iC l env else env):=rfl
@[simp] theorem NF{l:Option Nat}{b:Bool}:freed l b (.ret d)= .ret d:=rfl
@[simp] theorem NG:keyOf (.int i)=some (.inl i):=rfl
@[simp] theorem NH:keyOf (.str x)=some (.inr x):=rfl
@[simp] theorem Q3:ixD (.lst ds) (.int i)=atD ds i:=rfl
@[simp] theorem Q4:ixD (.tup ds) (.int i)=atD ds i:=rfl
@[simp] theorem Q5{ns:List Int}:ixD (.scr ns) (.int i)=(atD ns i).map .int:=rfl
@[simp] theorem Q6:ixD (.str x) (.int i)=if x.length<=a9 then(atD x.cps.toList i).map λc=> .str ⟨#[c]⟩ else none:=rfl
@[simp] theorem QH{eD:List (List Key×D)}:ixD (.dT eD) (.tup ds)=(keysOf ds).bind λk=>look eD k:=rfl
theorem gZ{α:Type}{xs:List α}{k:Nat}:atD xs (k:Int)=xs[k]? :=by
 unfold atD;rw[Gah (by lia)];simp
@[simp] theorem QT{α:Type}{xs:List α}:atD xs 0=xs[0]? :=rfl
@[simp] theorem QU{α:Type}{xs:List α}:atD xs 1=xs[1]? :=rfl
@[simp] theorem QV{α:Type}{xs:List α}:atD xs 2=xs[2]? :=rfl
@[simp] theorem QW{α:Type}{xs:List α}:atD xs 3=xs[3]? :=rfl
@[simp] theorem QX{α:Type}{xs:List α}:atD xs 4=xs[4]? :=rfl
@[simp] theorem QY{α:Type}{xs:List α}:atD xs 5=xs[5]? :=rfl
end
noncomputable def aQ:D->List Int
 | .non=>[0]
 | .int i=>[1,i]
 | .str x=>2::x.cps.toList.map Int.ofNat
 |_=>[3]
noncomputable def dM{α:Type} [DecidableEq α](lt:α->α->Bool):List α->List α->Bool
 |[],[]=>false
 |[],_::_=>true
 |_::_,[]=>false
 |a::as,b::bs=>if a=b then dM lt as bs else lt a b
noncomputable def ltI(a b:Int):Bool:=decide (a<b)
noncomputable def ltC:List (List Int)->List (List Int)->Bool:=dM (dM ltI)
noncomputable def code:D->List (List Int)
 | .tup ds=>ds.map aQ
 |d=>[aQ d]
noncomputable def EM(d:D):List D->List D
 |[]=>[d]
 |e::es=>if ltC (code d) (code e) then d::e::es else e::EM d es
noncomputable def d7:List D->List D
 |[]=>[]
 |d::ds=>EM d (d7 ds)
noncomputable def tyD:D->Nat
 | .non=>0
 | .int _=>1
 | .str _=>2
 |_=>3
noncomputable def mD(d:D):Bool:=tyD d !=3
noncomputable def mH:List D->List D->Bool
 |a::as,b::bs=>if aQ a=aQ b then mH as bs else(tyD a==tyD b&&(tyD a==1||tyD a==2))
 |_,_=>true
noncomputable def EO:D->Bool
 | .int _=>true
 |_=>false
noncomputable def mE(t:Nat):D->Bool
 | .tup (f::r)=>tyD f==t&&r.all mD
 |_=>false
noncomputable def A0:D->D->Bool
 | .tup a,.tup b=>mH a b
 |_,_=>false
noncomputable def keysOk(ds:List D):Bool:=ds.all EO||((ds.all (mE 1)||ds.all (mE 2))&&ds.all λx=>ds.all λy=>A0 x y)
noncomputable def sortedS:List D->Option RV:=one λds=>if decide (ds.length<64)&&keysOk ds then some ⟨.tn,.lst (d7 ds)⟩ else none
structure vB{α:Type}(lt:α->α->Bool):Prop where
 irr:∀a,lt a a=false
 tr:∀a b c,lt a b=true->lt b c=true->lt a c=true
 tot:∀a b,lt a b=false->lt b a=false->a=b
theorem QI:vB ltI:=⟨λa=>by simp[ltI],λa b c h1 h2=>by simp[ltI] at*;lia,λa b h1 h2=>by simp[ltI] at*;lia⟩
section
variable{α:Type} [DecidableEq α]{lt:α->α->Bool}
theorem vB.lex(L:vB lt):vB (dM lt):=by
 refine⟨λa=> ?_,λa=> ?_,λa=> ?_⟩
 .induction a with
  |nil=>rfl
  |cons x xs ih=>simp[dM,ih]
 .induction a with
  |nil=>
   intro b c h1 h2;cases c with
   |nil=>cases b<;>simp[dM] at h1 h2
   |cons z zs=>rfl
  |cons x xs ih=>
   intro b c h1 h2;cases b with
   |nil=>simp[dM] at h1
   |cons y ys=>
    cases c with
    |nil=>simp[dM] at h2
    |cons z zs=>
     unfold dM at h1 h2⊢;by_cases e1:x=y
     .subst e1;rw[Gah rfl] at h1;by_cases e2:x=z
      .subst e2;rw[Gah rfl] at h2⊢;exact ih ys zs h1 h2
      .rw[Gag e2] at h2⊢;exact h2
     .rw[Gag e1] at h1;by_cases e2:y=z
      .subst e2;rw[Gag e1];exact h1
      .rw[Gag e2] at h2;by_cases e3:x=z
       .subst e3;have:=L.tr x y x h1 h2;rw[L.irr] at this;cases this
       .rw[Gag e3];exact L.tr x y z h1 h2
 .induction a with
  |nil=>
   intro b h1 h2;cases b with
   |nil=>rfl
   |cons y ys=>simp[dM] at h1
  |cons x xs ih=>
   intro b h1 h2;cases b with
   |nil=>simp[dM] at h2
   |cons y ys=>
    unfold dM at h1 h2;by_cases e:x=y
    .subst e;rw[Gah rfl] at h1 h2;rw[ih ys h1 h2]
    .rw[Gag e] at h1;rw[Gag (Ne.symm e)] at h2;exact absurd (L.tot x y h1 h2) e
theorem vB.nt(L:vB lt){k x y:α}(h1:lt k y=true)(h2:lt x y=false):lt k x=true:=by
 cases h:lt y x with
 |true=>exact L.tr k y x h1 h
 |false=>rw[L.tot x y h2 h];exact h1
theorem vB.QJ(L:vB lt){x y:α}(h:lt x y=true):lt y x=false:=by
 cases q:lt y x with
 |false=>rfl
 |true=>have:=L.tr x y x h q;rw[L.irr] at this;cases this
end
theorem ER:vB ltC:=QI.lex.lex
noncomputable def rank(cs:List (List (List Int)))(i:Nat):Int:=((cs.filter λc=>ltC c (cs[i]?.getD [])).length:Nat)
theorem mY{α:Type}{p q:α->Bool}:∀{l:List α},(∀x∈l,p x=true->q x=true)->(l.filter p).length<=(l.filter q).length
 |[],_=>Gaq _
 |x::l,h=>by
  have ih:=mY (l:=l) λy hy=>h y (Gac _ hy);have hx:=h x Gaf;cases hp:p x with
  |false=>
   rw[GbB,hp];simp only[Gbb,GbW];refine Gbf ih ?_;rw[GbB];split
   .rw[Gay];lia
   .exact Gaq _
  |true=>rw[GbB,GbB,hp,hx hp];simp;exact ih
theorem mI{α:Type}{p q:α->Bool}:∀{l:List α} {z:α},z∈l->p z=false->q z=true->(∀x∈l,p x=true->q x=true)->(l.filter p).length<(l.filter q).length
 |[],z,hz,_,_,_=>by cases hz
 |x::l,z,hz,h1,h2,h=>by
  rcases Gar.mp hz with e|hz
  .subst e;have:=mY (l:=l) (p:=p) (q:=q) λy hy=>h y (Gac _ hy);rw[GbB,GbB,h1,h2];simp;lia
  .have ih:=mI hz h1 h2 λy hy=>h y (Gac _ hy);have hx:=h x Gaf;cases hp:p x with
   |false=>
    rw[GbB,hp];simp only[Gbb,GbW];rw[GbB];split
    .rw[Gay];lia
    .exact ih
   |true=>rw[GbB,GbB,hp,hx hp];simp;exact ih
theorem D6{cs:List (List (List Int))}{i j:Nat}(hi:i<cs.length)(hj:j<cs.length):decide (rank cs i<rank cs j)=ltC cs[i] cs[j]:=by
 unfold rank;rw[Gad hi,Gad hj];simp only[Option.getD_some];cases h:ltC cs[i] cs[j] with
 |true=>
  refine Gaz (Int.ofNat_lt.mpr ?_);exact mI (z:=cs[i]) (GaI hi) (ER.irr _) h λc _ hc=>ER.tr _ _ _ hc h
 |false=>
  refine Gax (GcT.mpr (Int.ofNat_le.mpr ?_));exact mY λc _ hc=>ER.nt hc h
def iU(ds:List D):Prop:=ds.Pairwise λa b=>ltC (code b) (code a)=false
theorem oU(d:D):∀es:List D,(EM d es).Perm (d::es)
 |[]=>List.Perm.refl _
 |e::es=>by
  unfold EM;split
  .exact List.Perm.refl _
  .exact((oU d es).cons e).trans (List.Perm.swap d e es)
theorem cW:∀ds:List D,(d7 ds).Perm ds
 |[]=>List.Perm.refl _
 |d::ds=>(oU d _).trans ((cW ds).cons d)
theorem pS(d:D):∀{es:List D},iU es->iU (EM d es)
 |[],_=>List.pairwise_singleton _ _
 |e::es,h=>by
  have h' :=GaY.mp h;unfold EM;split
  .rename_i c;refine GaY.mpr ⟨λb hb=> ?_,h⟩;rcases Gar.mp hb with q|q
   .subst q;exact ER.QJ c
   .cases z:ltC (code b) (code d) with
    |false=>rfl
    |true=>have:=ER.tr _ _ _ z c;rw[h'.1 b q] at this;cases this
  .rename_i c;refine GaY.mpr ⟨λb hb=> ?_,pS d h'.2⟩;rcases Gar.mp ((oU d es).mem_iff.mp hb) with q|q
   .subst q;simpa using c
   .exact h'.1 b q
theorem fF:∀ds:List D,iU (d7 ds)
 |[]=>List.Pairwise.nil
 |d::ds=>pS d (fF ds)
theorem j8:∀{xs ys:List D},xs.Perm ys->iU xs->iU ys->(∀a∈xs,∀b∈xs,code a=code b->a=b)->xs=ys
 |[],ys,hp,_,_,_=>(List.nil_perm.mp hp).symm
 |x::xs,ys,hp,hx,hy,hi=>by
  cases ys with
  |nil=>exact absurd (List.perm_nil.mp hp) (by simp)
  |cons y ys=>
   have px:=GaY.mp hx;have py:=GaY.mp hy;have e:x=y:=by
    have mx:x∈y::ys:=hp.mem_iff.mp Gaf;have my:y∈x::xs:=hp.mem_iff.mpr Gaf;rcases Gar.mp mx with q|q
    .exact q
    .rcases Gar.mp my with r|r
     .exact r.symm
     .exact hi x Gaf y my (ER.tot _ _ (py.1 x q) (px.1 y r)).symm.symm
   subst e;rw[j8 (List.perm_cons x|>.mp hp) px.2 py.2 λa ha b hb=>hi a (Gac _ ha) b (Gac _ hb)]
@[simp] noncomputable def iV:Nat->List D->List D
 |_,[]=>[]
 |i,x::xs=> .tup [.int i,x]::iV (i+1) xs
@[simp] noncomputable def Ll(f:DE):DI:=λenv=>(f env).bind λr=>if r.k= .to then none else match r.d with
 | .lst xs=>some (iV 0 xs)
 | .tup xs=>some (iV 0 xs)
 |_=>none
theorem ji:∀(i:Nat) (xs:List D),(iV i xs).length=xs.length
 |_,[]=>rfl
 |i,x::xs=>by simp[ji (i+1) xs]
theorem jj:∀(k:Nat) (xs:List D) (i:Nat),(iV k xs)[i]? =(xs[i]?).map λx=> .tup [.int ((k+i:Nat)),x]
 |_,[],i=>by simp
 |k,x::xs,i=>by
  cases i with
  |zero=>simp
  |succ i=>
   simp only[iV,Gdn];rw[jj (k+1) xs i,show k+1+i=k+(i+1) by lia]
noncomputable def mJ(x:D)(ds:List D):Option Bool:=if aD 10 x&&ds.all (aD 10) then some (ds.any λy=>eqD y x) else none
noncomputable def inB(x y:D):Option Bool:=match y with
 | .dK eD=>(keyOf x).map λk=>(look eD k).isSome
 | .dT eD=>match x with
  | .tup ks=>(keysOf ks).map λk=>(look eD k).isSome
  |_=>none
 | .lst ds=>mJ x ds
 | .tup ds=>mJ x ds
 |_=>none
noncomputable def BN(x y:D):Option Bool:=(inB x y).map (!·)
@[simp] theorem QK{x:D}{eD:List (Key×D)}:inB x (.dK eD)=(keyOf x).map λk=>(look eD k).isSome:=rfl
@[simp] theorem QL{ks:List D}{eD:List (List Key×D)}:inB (.tup ks) (.dT eD)=(keysOf ks).map λk=>(look eD k).isSome:=rfl
noncomputable def A4:List D->Option RV
 |[.int i]=>some ⟨.c,.int i⟩
 |[.bl b]=>some ⟨.c,.int (if b then 1 else 0)⟩
 |_=>none
@[simp] theorem OP{i:Int}:A4 [.int i]=some ⟨.c,.int i⟩:=rfl
@[simp] theorem Q7{b:Bool}:A4 [.bl b]=some ⟨.c,.int (if b then 1 else 0)⟩:=rfl
noncomputable def gn{α:Type}(xs:List α)(i:Int)(y:α):List α:=xs.take (if i<0 then(i+(xs.length:Int)).toNat else min i.toNat xs.length)++y::xs.drop (if i<0 then(i+(xs.length:Int)).toNat else min i.toNat xs.length)
theorem ue{α:Type}(xs:List α)(i:Int)(y:α):(gn xs i y).length=xs.length+1:=by
 unfold gn;rw[Gai,Gay,GcR,GcS];lia
theorem BO{α:Type}(xs:List α)(i:Int)(y:α):(gn xs i y).Perm (y::xs):=by
 unfold gn;refine GdC.trans ?_;rw[List.take_append_drop]
@[simp] noncomputable def OQ(i:Nat)(k v:DE):DS:=λenv=>(k env).bind λx=>(v env).bind λr=>(ownAt i env).bind λd=>match d,x.d with
 | .lst xs,.int j=>if r.free&&(decide (xs.length<a9)&&aP j) then some (.nx (env.set i (some (.own (.lst (gn xs j r.d)))))) else none
 |_,_=>none
noncomputable def mmD(best:Int->List Int->Int)(dv:D)(d:D):Option RV:=(kN d).bind λds=>(wZ ds).map λns=>match ns with
 |[]=> ⟨.c,dv⟩
 |n::ns=> ⟨.c,.int (best n ns)⟩
noncomputable def unI:D->Int
 | .int i=>i
 |_=>0
noncomputable def vC:D->Bool
 | .tup (_::_)=>true
 |_=>false
noncomputable def dd1(ks:List Int)(k:Int):List Int:=if k∈ks then ks else ks++[k]
noncomputable def ddF(ns:List Int):List Int:=ns.foldl dd1 []
abbrev Rws:=List (List Key×D)
abbrev DM:=Env->Rws->Option (Env×Rws)
noncomputable def gS:D->D->Option RV
 | .tup [],.tup y=>some ⟨.c,.tup y⟩
 |x,y=>av x y
noncomputable def ES(i:Nat)(env:Env):Bool:=(List.range env.length).all λj=>j==i||match env[j]? with
 |some none=>true
 |some (some (.sh d))=>d.imm
 |_=>false
noncomputable def imN:Nat->D->Bool
 |_,.int _=>true
 |_,.str _=>true
 |n+1,.tup ds=>ds.all (imN n)
 |_,_=>false
noncomputable def nT(acc:List D)(d:D):List D:=if acc.any (λe=>eqD e d) then acc else acc++[d]
noncomputable def oV(ds:List D):List D:=ds.foldl nT []
@[simp] noncomputable def ET:List Nat->Env->Env
 |[],env=>env
 |i::is,env=>ET is (match env[i]? with
  |some (some (.own d))=>env.set i (some (.sh d))
  |_=>env)
@[simp] noncomputable def OR(is:List Nat)(f:DS):DS:=λenv=>f (ET is env)
noncomputable def qQ(ds:List D):Bool:=decide (ds.length<64)&&(ds.all λd=>vC d&&imN 4 d)&&keysOk ds
noncomputable def qR(f:DE):DE:=λenv=>(f env).bind λr=>match r.d with
 | .lst ds=>if qQ ds then some ⟨.tn,.lst (d7 (oV ds))⟩ else none
 |_=>none
noncomputable def intsOf:List D->Option (List Int)
 |[]=>some []
 | .int i::ds=>(intsOf ds).map (i:: ·)
 |_=>none
noncomputable def Jz:List Int->List Int->Bool
 |[],[]=>false
 |[],_::_=>true
 |_::_,[]=>false
 |x::xs,y::ys=>if x=y then Jz xs ys else decide (x<y)
noncomputable def JA:D->D->Option Bool
 | .tup as,.tup bs=>(intsOf as).bind λx=>(intsOf bs).map λy=>Jz x y
 |_,_=>none
noncomputable def GH(xs ys:List D):List D:=List.zipWith (λx y=> .tup [x,y]) xs ys
@[simp] noncomputable def OT(f g:DE):DI:=λenv=>(f env).bind λr=>(g env).bind λq=>if r.k= .to\/q.k= .to then none else match r.d,q.d with
 | .lst xs,.lst ys=>some (GH xs ys)
 |_,_=>none
@[simp] noncomputable def mmX(best:Int->List Int->Int)(f g:DE):DE:=λenv=>(f env).bind λr=>(g env).bind λq=>match q.d with
 | .int i=>mmD best (.int i) r.d
 |_=>none
open PySem PySem.Spec PyProof.Rows L2
abbrev aq:=PySem.W.Frag
abbrev St:=L2.St
def isT:HO->Prop
 | .tup _=>True
 | .frz _ _=>True
 |_=>False
def Kl(K:aq)(a:Addr)(xs:List V):Prop:=∃(o:Obj) (its:Array Value) (n:Nat),K.lookup a=some o/\o.cls= .type "list"/\o.dict=none/\o.data= .seq its n/\its.size<=sizeLine/\Vals xs its.toList
def Scr(K:aq)(H:Hp)(a:Addr)(ns:List Int):Prop:=(∃o,H a=some (.frz o (.lst (ns.map V.int))))\/Kl K a (ns.map V.int)
def Xc(H:Hp)(a:Addr)(C:Nat)(n:Str)(v:V):Prop:=∃dx vs sl od,H a=some (.frz {cls:= .ref C,dict:=some dx,data:= .fields vs,slots:=sl} (.own a))/\H dx=some (.frz od (.xd [(n,v)]))
inductive Rep (K:aq) (F:Addr->Prop) (H:Hp):D->V->Prop where
 |non:Rep K F H .non .non
 |bl (b:Bool):Rep K F H (.bl b) (.bl b)
 |int (i:Int):Rep K F H (.int i) (.int i)
 |str (x:Str):Rep K F H (.str x) (.str x)
 |tup {a:Addr} {vs:List V} {ds:List D} (h:H a=some (.tup vs)) (l:ds.length=vs.length) (r:∀(i:Nat) d v,ds[i]? =some d->vs[i]? =some v->Rep K F H d v):Rep K F H (.tup ds) (.ref a)
 |lst {a:Addr} {vs:List V} {ds:List D} (f:F a) (h:Rd H a (.lst vs)) (l:ds.length=vs.length) (r:∀(i:Nat) d v,ds[i]? =some d->vs[i]? =some v->Rep K F H d v):Rep K F H (.lst ds) (.ref a)
 |scr {a:Addr} {ns:List Int} (h:Scr K H a ns):Rep K F H (.scr ns) (.ref a)
 |exc {a:Addr} {C:Nat} {n:Str} {v:V} {d:D} (h:Xc H a C n v) (r:Rep K F H d v):Rep K F H (.exc C n d) (.ref a)
 |dK {a:Addr} {ws:List (Key×V)} {eD:List (Key×D)} (f:F a) (h:H a=some (.dK ws)) (l:eD.map (·.1)=ws.map (·.1)) (r:∀(i:Nat) p q,eD[i]? =some p->ws[i]? =some q->Rep K F H p.2 q.2):Rep K F H (.dK eD) (.ref a)
 |dT {a:Addr} {ws:List (List Key×V)} {eD:List (List Key×D)} (f:F a) (h:H a=some (.dT ws)) (l:eD.map (·.1)=ws.map (·.1)) (r:∀(i:Nat) p q,eD[i]? =some p->ws[i]? =some q->Rep K F H p.2 q.2):Rep K F H (.dT eD) (.ref a)
def aJ(K:aq)(F:Addr->Prop)(H:Hp)(ds:List D)(vs:List V):Prop:=ds.length=vs.length/\∀(i:Nat) d v,ds[i]? =some d->vs[i]? =some v->Rep K F H d v
def b8{Y:Type}(K:aq)(F:Addr->Prop)(H:Hp)(eD:List (Y×D))(ws:List (Y×V)):Prop:=eD.map (·.1)=ws.map (·.1)/\∀(i:Nat) p q,eD[i]? =some p->ws[i]? =some q->Rep K F H p.2 q.2
inductive Inn (K:aq) (F:Addr->Prop) (H:Hp):D->V->Prop where
 |non:Inn K F H .non .non
 |bl (b:Bool):Inn K F H (.bl b) (.bl b)
 |int (i:Int):Inn K F H (.int i) (.int i)
 |str (x:Str):Inn K F H (.str x) (.str x)
 |tup {a:Addr} {vs:List V} {ds:List D} (h:H a=some (.tup vs)) (r:aJ K F H ds vs):Inn K F H (.tup ds) (.ref a)
 |lst {a:Addr} {vs:List V} {ds:List D} (h:Rd H a (.lst vs)) (r:aJ K F H ds vs):Inn K F H (.lst ds) (.ref a)
 |scr {a:Addr} {ns:List Int} (h:Scr K H a ns):Inn K F H (.scr ns) (.ref a)
 |exc {a:Addr} {C:Nat} {n:Str} {v:V} {d:D} (h:Xc H a C n v) (r:Rep K F H d v):Inn K F H (.exc C n d) (.ref a)
 |dK {a:Addr} {ws:List (Key×V)} {eD:List (Key×D)} (h:H a=some (.dK ws)) (r:b8 K F H eD ws):Inn K F H (.dK eD) (.ref a)
 |dT {a:Addr} {ws:List (List Key×V)} {eD:List (List Key×D)} (h:H a=some (.dT ws)) (r:b8 K F H eD ws):Inn K F H (.dT eD) (.ref a)
section
variable{K:aq}{F F' :Addr->Prop}{H H' :Hp}{d:D}{v:V}{ds:List D}{vs:List V}
theorem Rep.inn(h:Rep K F H d v):Inn K F H d v:=by
 cases h with
 |non=>exact .non
 |bl b=>exact .bl b
 |int i=>exact .int i
 |str x=>exact .str x
 |tup h l r=>exact .tup h ⟨l,r⟩
 |lst f h l r=>exact .lst h ⟨l,r⟩
 |scr h=>exact .scr h
 |exc h r=>exact .exc h r
 |dK f h l r=>exact .dK h ⟨l,r⟩
 |dT f h l r=>exact .dT h ⟨l,r⟩
theorem Inn.rep(h:Inn K F H d v)(hf:∀a,v= .ref a->d.top=true->F a):Rep K F H d v:=by
 cases h with
 |non=>exact .non
 |bl b=>exact .bl b
 |int i=>exact .int i
 |str x=>exact .str x
 |tup h r=>exact .tup h r.1 r.2
 |lst h r=>exact .lst (hf _ rfl rfl) h r.1 r.2
 |scr h=>exact .scr h
 |exc h r=>exact .exc h r
 |dK h r=>exact .dK (hf _ rfl rfl) h r.1 r.2
 |dT h r=>exact .dT (hf _ rfl rfl) h r.1 r.2
def jN(F:Addr->Prop)(H H' :Hp):Prop:=∀b o,H b=some o->(F b\/isT o)->H' b=some o
theorem jN.of_same(h:cF H H'):jN F H H' :=λb o e _=>h b o e
theorem jN.tup{a:Addr}(s:jN F H H')(h:H a=some (.tup vs)):H' a=some (.tup vs):=s _ _ h (.inr trivial)
theorem jN.scr{a:Addr}{ns:List Int}(s:jN F H H')(h:Scr K H a ns):Scr K H' a ns:=by
 rcases h with⟨o,h⟩|h
 .exact .inl ⟨o,s _ _ h (.inr trivial)⟩
 .exact .inr h
variable{a:Addr}
theorem jN.xc{C:Nat}{n:Str}(s:jN F H H')(h:Xc H a C n v):Xc H' a C n v:=let⟨dx,vs,sl,od,h1,h2⟩:=h;⟨dx,vs,sl,od,s _ _ h1 (.inr trivial),s _ _ h2 (.inr trivial)⟩
variable{u:HO}
theorem jN.rd(s:jN F H H')(f:F a)(h:Rd H a u):Rd H' a u:=by
 rcases h with h| ⟨o,h⟩
 .exact .inl (s _ _ h (.inl f))
 .exact .inr ⟨o,s _ _ h (.inl f)⟩
theorem Rd.there(h:Rd H a u):H a≠none:=by
 rcases h with h| ⟨o,h⟩<;>rw[h]<;>simp
theorem Rep.gen(s:jN F H H')(hF:∀b,F b->H b≠none->F' b)(h:Rep K F H d v):Rep K F' H' d v:=by
 induction h with
 |non=>exact .non
 |bl b=>exact .bl b
 |int i=>exact .int i
 |str x=>exact .str x
 |tup h l r ih=>exact .tup (s.tup h) l ih
 |lst f h l r ih=>exact .lst (hF _ f (Rd.there h)) (s.rd f h) l ih
 |scr h=>exact .scr (s.scr h)
 |exc h r ih=>exact .exc (s.xc h) ih
 |dK f h l r ih=>exact .dK (hF _ f (by rw[h];simp)) (s _ _ h (.inl f)) l ih
 |dT f h l r ih=>exact .dT (hF _ f (by rw[h];simp)) (s _ _ h (.inl f)) l ih
theorem Rep.same(s:cF H H')(h:Rep K F H d v):Rep K F H' d v:=h.gen (.of_same s) λ_ f _=>f
theorem Rep.imp(hF:∀b,F b->F' b)(h:Rep K F H d v):Rep K F' H d v:=h.gen (.of_same λ_ _ e=>e) λb f _=>hF b f
theorem aJ.gen(s:jN F H H')(hF:∀b,F b->H b≠none->F' b)(h:aJ K F H ds vs):aJ K F' H' ds vs:=⟨h.1,λi d v e1 e2=>(h.2 i d v e1 e2).gen s hF⟩
theorem b8.gen{Y:Type}{eD:List (Y×D)}{ws:List (Y×V)}(s:jN F H H')(hF:∀b,F b->H b≠none->F' b)(h:b8 K F H eD ws):b8 K F' H' eD ws:=⟨h.1,λi p q e1 e2=>(h.2 i p q e1 e2).gen s hF⟩
theorem Inn.gen(s:jN F H H')(hF:∀b,F b->H b≠none->F' b)(ht:∀a,v= .ref a->d.top=true->∀o,H a=some o->H' a=some o)(h:Inn K F H d v):Inn K F' H' d v:=by
 have rd:∀{a:Addr} {u:HO},(∀o,H a=some o->H' a=some o)->Rd H a u->Rd H' a u:=λk h=>by
  rcases h with h| ⟨o,h⟩
  .exact .inl (k _ h)
  .exact .inr ⟨o,k _ h⟩
 cases h with
 |non=>exact .non
 |bl b=>exact .bl b
 |int i=>exact .int i
 |str x=>exact .str x
 |tup h r=>exact .tup (s.tup h) (r.gen s hF)
 |lst h r=>exact .lst (rd (ht _ rfl rfl) h) (r.gen s hF)
 |scr h=>exact .scr (s.scr h)
 |exc h r=>exact .exc (s.xc h) (r.gen s hF)
 |dK h r=>exact .dK (ht _ rfl rfl _ h) (r.gen s hF)
 |dT h r=>exact .dT (ht _ rfl rfl _ h) (r.gen s hF)
theorem Inn.same(s:cF H H')(h:Inn K F H d v):Inn K F H' d v:=h.gen (.of_same s) (λ_ f _=>f) λ_ _ _ o e=>s _ o e
theorem Inn.imp(hF:∀b,F b->F' b)(h:Inn K F H d v):Inn K F' H d v:=h.gen (.of_same λ_ _ e=>e) (λb f _=>hF b f) λ_ _ _ _ e=>e
theorem Inn.any(h:Inn K F H d v):Rep K (λ_=>True) H d v:=(h.imp (F' :=λ_=>True) λ_ _=>trivial).rep λ_ _ _=>trivial
theorem vD{ds:List D}(h:aC ds=true):∀(i:Nat) d,ds[i]? =some d->d.imm=true:=by
 induction ds with
 |nil=>intro i d e;simp at e
 |cons x xs ih=>
  unfold aC at h;rw[Gan] at h;intro i d e;cases i with
  |zero=>simp at e;subst e;exact h.1
  |succ i=>exact ih h.2 i d (by simpa using e)
theorem Rep.imm(h:Rep K F H d v)(hd:d.imm=true):Rep K F' H d v:=by
 induction h with
 |non=>exact .non
 |bl b=>exact .bl b
 |int i=>exact .int i
 |str x=>exact .str x
 |tup h l r ih=>
  unfold D.imm at hd;exact .tup h l λi d v e1 e2=>ih i d v e1 e2 (vD hd i d e1)
 |lst f h l r ih=>simp[D.imm] at hd
 |scr h=>exact .scr h
 |exc h r ih=>
  unfold D.imm at hd;exact .exc h (ih hd)
 |dK f h l r ih=>simp[D.imm] at hd
 |dT f h l r ih=>simp[D.imm] at hd
theorem Inn.imm(h:Inn K F H d v)(hd:d.imm=true):Rep K F' H d v:=by
 refine Rep.imm (h.rep λa _ ht=> ?_) hd;cases d<;>simp[D.top] at ht<;>simp[D.imm] at hd
theorem aJ.nil:aJ K F H [] []:=⟨rfl,λi d v e=>by simp at e⟩
theorem aJ.cB(h:aJ K F H [] vs):vs=[]:=GcJ h.1.symm
theorem aJ.cons(h:Rep K F H d v)(r:aJ K F H ds vs):aJ K F H (d::ds) (v::vs):=by
 refine⟨by simp[r.1],λi x u e1 e2=> ?_⟩;cases i with
 |zero=>simp at e1 e2;subst e1;subst e2;exact h
 |succ i=>exact r.2 i x u (by simpa using e1) (by simpa using e2)
theorem aJ.cons_inv(h:aJ K F H (d::ds) vs):∃v r,vs=v::r/\Rep K F H d v/\aJ K F H ds r:=by
 cases vs with
 |nil=>exact absurd h.1 (by simp)
 |cons v r=>exact⟨v,r,rfl,h.2 0 d v rfl rfl,by simpa using h.1,λi x u e1 e2=>h.2 (i+1) x u (by simpa using e1) (by simpa using e2)⟩
theorem aJ.append:∀{ds es:List D} {vs us:List V},aJ K F H ds vs->aJ K F H es us->aJ K F H (ds++es) (vs++us)
 |[],es,vs,us,h,r=>by rw[h.cB];exact r
 |d::ds,es,vs,us,h,r=>by
  obtain⟨v,w,rfl,h1,h2⟩:=h.cons_inv;exact .cons h1 (h2.append r)
theorem aJ.take(n:Nat)(h:aJ K F H ds vs):aJ K F H (ds.take n) (vs.take n):=by
 refine⟨by simp[h.1],λi x u e1 e2=> ?_⟩;by_cases hi:i<n
 .rw[Gcx hi] at e1 e2;exact h.2 i x u e1 e2
 .rw[Gbw (by simp;lia)] at e1;cases e1
theorem aJ.drop(n:Nat)(h:aJ K F H ds vs):aJ K F H (ds.drop n) (vs.drop n):=by
 refine⟨by simp[h.1],λi x u e1 e2=> ?_⟩;rw[Gdj] at e1 e2;exact h.2 _ x u e1 e2
theorem aJ.set(h:aJ K F H ds vs)(r:Rep K F H d v)(i:Nat):aJ K F H (ds.set i d) (vs.set i v):=by
 refine⟨by simp[h.1],λj x u e1 e2=> ?_⟩;by_cases hj:i=j
 .subst hj;have hi:i<ds.length:=by have:=(Gam.mp e1).1;simpa using this
  rw[GaZ hi] at e1;rw[GaZ (by rw[<-h.1];exact hi)] at e2;cases e1;cases e2;exact r
 .rw[Gak hj] at e1 e2;exact h.2 j x u e1 e2
theorem aJ.get{i:Nat}(h:aJ K F H ds vs)(e:ds[i]? =some d):∃v,vs[i]? =some v/\Rep K F H d v:=by
 have hi:=(Gam.mp e).1;have xa :i<vs.length:=by rw[<-h.1];exact hi
 exact⟨vs[i],by simp[xa],h.2 i d _ e (by simp[xa])⟩
theorem aJ.imm(h:aJ K F H ds vs)(hd:aC ds=true):aJ K F' H ds vs:=⟨h.1,λi d v e1 e2=>(h.2 i d v e1 e2).imm (vD hd i d e1)⟩
end
def bH:Option (Option Slot)->Prop
 |some (some (.own _))=>True
 |some (some (.lok _))=>True
 |some (some (.bor _))=>True
 |_=>False
def EU:Option (Option Slot)->Prop
 |some (some (.own _))=>True
 |some (some (.lok _))=>True
 |_=>False
def isO:Option (Option Slot)->Prop
 |some (some (.own _))=>True
 |_=>False
def A5:Option (Option Slot)->Prop
 |some (some (.lok _))=>True
 |some (some (.bor _))=>True
 |_=>False
variable{x:Option (Option Slot)}
theorem uf(h:bH x):isO x\/A5 x:=by
 match x,h with
 |some (some (.own _)),_=>exact .inl trivial
 |some (some (.lok _)),_=>exact .inr trivial
 |some (some (.bor _)),_=>exact .inr trivial
theorem A5.top(h:A5 x):bH x:=by
 match x,h with
 |some (some (.lok _)),_=>trivial
 |some (some (.bor _)),_=>trivial
theorem isO.ol(h:isO x):EU x:=by
 match x,h with
 |some (some (.own _)),_=>trivial
theorem EU.top(h:EU x):bH x:=by
 match x,h with
 |some (some (.own _)),_=>trivial
 |some (some (.lok _)),_=>trivial
def Cln(eC:Addr->Prop)(env:Env)(Z:St)(a:Addr):Prop:=¬eC a/\∀i:Nat,bH env[i]? ->Z[i]? ≠some (some (V.ref a))
def isW:HO->Prop
 | .lst _=>True
 | .dK _=>True
 | .dT _=>True
 |_=>False
def Wr(H:Hp)(a:Addr):Prop:=∃o,H a=some o/\isW o
def Ow(env:Env)(Z:St)(a:Addr):Prop:=∃i:Nat,isO env[i]? /\Z[i]? =some (some (.ref a))
structure ay(K:aq)(H0:Hp)(eC:Addr->Prop)(env:Env)(Z:St)(H:Hp):Prop where
 same:cF H0 H
 len:env.length=Z.length
 bad:∀a,eC a->H a≠none
 sh:∀(i:Nat) d,env[i]? =some (some (.sh d))->∃v,Z[i]? =some (some v)/\Rep K (Cln eC env Z) H d v
 ow:∀(i:Nat) d,(env[i]? =some (some (.own d))\/env[i]? =some (some (.lok d)))->∃a,Z[i]? =some (some (.ref a))/\H0 a=none/\¬eC a/\Wr H a/\d.top=true/\Inn K (Cln eC env Z) H d (.ref a)
 bo:∀(i:Nat) d,env[i]? =some (some (.bor d))->∃a,Z[i]? =some (some (.ref a))/\Wr H a/\d.top=true/\Inn K (Cln eC env Z) H d (.ref a)
 dj:∀(i j:Nat) a,EU env[i]? ->bH env[j]? ->Z[i]? =some (some (.ref a))->Z[j]? =some (some (.ref a))->i=j
structure Stp(env:Env)(Z:St)(H:Hp)(eR :Env)(Z' :St)(H' :Hp):Prop where
 keep:∀b o,H b=some o->¬Ow env Z b->H' b=some o
 ow:∀b,Ow eR Z' b->Ow env Z b\/H b=none
 lk:∀i:Nat,A5 eR[i]? ->eR[i]? =env[i]? /\Z'[i]? =Z[i]?
variable{H:Hp}{Z:St}{env:Env}
theorem Stp.refl:Stp env Z H env Z H:=⟨λ_ _ e _=>e,λ_ h=> .inl h,λ_ _=> ⟨rfl,rfl⟩⟩
theorem Stp.of_same{H' :Hp}(s:cF H H'):Stp env Z H env Z H' :=⟨λb o e _=>s b o e,λ_ h=> .inl h,λ_ _=> ⟨rfl,rfl⟩⟩
theorem Stp.trans{e1 e2 e3:Env}{s1 s2 s3:St}{H1 H2 H3:Hp}(a:Stp e1 s1 H1 e2 s2 H2)(b:Stp e2 s2 H2 e3 s3 H3):Stp e1 s1 H1 e3 s3 H3:=by
 refine⟨λc o e n=>b.keep c o (a.keep c o e n) λh=> ?_,λc h=> ?_,λi h=> ?_⟩
 .rcases a.ow c h with q|q
  .exact n q
  .rw[e] at q;cases q
 .rcases b.ow c h with q|q
  .exact a.ow c q
  .by_cases z:Ow e1 s1 c
   .exact .inl z
   .right
    cases e:H1 c with
    |none=>rfl
    |some o=>rw[a.keep c o e z] at q;cases q
 .obtain⟨h1,h2⟩:=b.lk i h;rw[h1] at h;obtain⟨h3,h4⟩:=a.lk i h;exact⟨h1.trans h3,h2.trans h4⟩
section
variable{K:aq}{H0 H H' H1:Hp}{eC:Addr->Prop}{env eR :Env}{Z Z' :St}{d:D}{v:V}{a:Addr}{i:Nat}
theorem Wr.same(s:cF H H')(w:Wr H a):Wr H' a:=let⟨o,h1,h2⟩:=w;⟨o,s a o h1,h2⟩
theorem Wr.there(w:Wr H a):H a≠none:=let⟨o,h1,_⟩:=w;by rw[h1];simp
theorem ay.mono(E:ay K H0 eC env Z H)(s:cF H H'):ay K H0 eC env Z H' where
 same:=E.same.trans s
 len:=E.len
 bad:=λa h e=>E.bad a h (s.free e)
 sh:=λi d e=>let⟨v,h1,h2⟩:=E.sh i d e;⟨v,h1,h2.same s⟩
 ow:=λi d e=>let⟨a,h1,h2,h3,h4,h5,h6⟩:=E.ow i d e;⟨a,h1,h2,h3,h4.same s,h5,h6.same s⟩
 bo:=λi d e=>let⟨a,h1,h2,h3,h4⟩:=E.bo i d e;⟨a,h1,h2.same s,h3,h4.same s⟩
 dj:=E.dj
theorem ay.OU(E:ay K H0 eC env Z H)(h:bH env[i]?):∃d a,d.top=true/\Z[i]? =some (some (.ref a))/\Wr H a/\Inn K (Cln eC env Z) H d (.ref a):=by
 match e:env[i]?,h with
 |some (some (.own d)),_=>obtain⟨a,h1,_,_,h4,h5,h6⟩:=E.ow i d (.inl e);exact⟨d,a,h5,h1,h4,h6⟩
 |some (some (.lok d)),_=>obtain⟨a,h1,_,_,h4,h5,h6⟩:=E.ow i d (.inr e);exact⟨d,a,h5,h1,h4,h6⟩
 |some (some (.bor d)),_=>obtain⟨a,h1,h4,h5,h6⟩:=E.bo i d e;exact⟨d,a,h5,h1,h4,h6⟩
theorem ay.Lm(E:ay K H0 eC env Z H)(h:bH env[i]?)(e:Z[i]? =some (some (.ref a))):Wr H a:=by
 obtain⟨d,b,h1,h2,h3,h4⟩:=E.OU h;rw[e] at h2;cases h2
 exact h3
theorem ay.nU(E:ay K H0 eC env Z H)(h:bH env[i]?)(e:Z[i]? =some (some (.ref a))):H a≠none:=(E.Lm h e).there
theorem ay.vF(E:ay K H0 eC env Z H)(h:H a=none):Cln eC env Z a:=⟨λb=>E.bad a b h,λi t e=>E.nU t e h⟩
def j9(K:aq)(H0:Hp)(eC:Addr->Prop)(env:Env)(Z:St)(H H' :Hp)(r:RV)(v:V):Prop:=
 match r.k with
 | .c=>Rep K (Cln eC env Z) H' r.d v
 | .tn=>∃a,v= .ref a/\H a=none/\Wr H' a/\r.d.top=true/\Inn K (λb=>Cln eC env Z b/\b≠a) H' r.d v
 | .to=>∃a,v= .ref a/\H0 a=none/\Wr H' a/\r.d.top=true/\Inn K (Cln eC env Z) H' r.d v
 | .tb=>Inn K (Cln eC env Z) H' r.d v/\∀a,v= .ref a->r.d.top=true->¬Ow env Z a
theorem j9.inn{r:RV}(h:j9 K H0 eC env Z H H' r v):Inn K (Cln eC env Z) H' r.d v:=by
 obtain⟨k,d⟩:=r;cases k with
 |c=>exact Rep.inn h
 |tn=>obtain⟨_,_,_,_,_,h⟩:=h;exact h.imp λ_ z=>z.1
 |to=>obtain⟨_,_,_,_,_,h⟩:=h;exact h
 |tb=>exact h.1
theorem j9.rep{r:RV}(h:j9 K H0 eC env Z H H' r v)(E:ay K H0 eC env Z H)(hf:r.free=true):Rep K (Cln eC env Z) H' r.d v:=by
 obtain⟨k,d⟩:=r;cases k with
 |c=>exact h
 |tn=>
  obtain⟨a,e,h1,_,_,h2⟩:=h;exact(h2.imp λ_ z=>z.1).rep λb eb _=>by rw[e] at eb;cases eb;exact E.vF h1
 |to=>simp[RV.free] at hf
 |tb=>simp[RV.free] at hf
theorem j9.same{r:RV}{H2:Hp}(h:j9 K H0 eC env Z H H' r v)(s:cF H' H2):j9 K H0 eC env Z H H2 r v:=by
 obtain⟨k,d⟩:=r;cases k with
 |c=>exact Rep.same s h
 |tn=>obtain⟨a,e,h1,w,t,h2⟩:=h;subst e;exact⟨a,rfl,h1,w.same s,t,h2.same s⟩
 |to=>obtain⟨a,e,h1,w,t,h2⟩:=h;subst e;exact⟨a,rfl,h1,w.same s,t,h2.same s⟩
 |tb=>exact⟨h.1.same s,h.2⟩
theorem j9.from{r:RV}(s:cF H H1)(h:j9 K H0 eC env Z H1 H' r v):j9 K H0 eC env Z H H' r v:=by
 obtain⟨k,d⟩:=r;cases k with
 |c=>exact h
 |tn=>obtain⟨a,e,h1,w,t,h2⟩:=h;exact⟨a,e,s.free h1,w,t,h2⟩
 |to=>exact h
 |tb=>exact h
def ug(K:aq)(H0 H' :Hp)(d:D)(v:V):Prop:=
 (d.top=true->∃a,v= .ref a/\H0 a=none/\Wr H' a)/\Inn K (λb=>H0 b=none/\v≠ .ref b) H' d v
theorem ug.rv(E:ay K H0 eC env Z H)(h:ug K H H' d v):j9 K H0 eC env Z H H' (jM d) v:=by
 obtain⟨h1,h2⟩:=h;unfold jM;by_cases t:d.top=true
 .rw[Gah t];obtain⟨a,e,n,w⟩:=h1 t;subst e;exact⟨a,rfl,n,w,t,h2.imp λb z=> ⟨E.vF z.1,λq=>z.2 (by rw[q])⟩⟩
 .rw[Gag t];exact(h2.imp λb z=>E.vF z.1).rep λ_ _ z=>absurd z t
end
def tE(X:Cx)(f:DE):TE:=λZ H Q=>∃H0 eC env r,ay X.K H0 eC env Z H/\f env=some r/\∀v H',cF H H' ->j9 X.K H0 eC env Z H H' r v->Q v H'
def tT(X:Cx)(t:DT):TT:=λZ H Q=>∃H0 eC env b,ay X.K H0 eC env Z H/\t env=some b/\∀H',cF H H' ->Q b H'
def tA(X:Cx)(a:DA):TA:=λZ H Q=>∃H0 eC env rs,ay X.K H0 eC env Z H/\a env=some rs/\∀vs H',cF H H' ->Paired (j9 X.K H0 eC env Z H H') rs vs->Q vs H'
def OV(X:Cx)(H0:Hp)(eC:Addr->Prop)(env:Env)(Z:St)(H:Hp)(E:Ends):Out->Prop
 | .nx e=>∀Z' H',ay X.K H0 eC e Z' H' ->Stp env Z H e Z' H' ->E.nx Z' H'
 | .bk e=>∀Z' H',ay X.K H0 eC e Z' H' ->Stp env Z H e Z' H' ->E.bk Z' H'
 | .ct e=>∀Z' H',ay X.K H0 eC e Z' H' ->Stp env Z H e Z' H' ->E.ct Z' H'
 | .ret d=>∀v H',cF H0 H' ->ug X.K H0 H' d v->E.rt v H'
def tS(X:Cx)(f:DS):TS:=λE Z H=>∃H0 eC env o,ay X.K H0 eC env Z H/\f env=some o/\OV X H0 eC env Z H E o
def tG(X:Cx)(g:DG):TG:=λv Z H Q=>∃H0 eC env d eR,ay X.K H0 eC env Z H/\g d env=some eR /\Rep X.K (Cln eC env Z) H d v/\∀Z' H',ay X.K H0 eC eR Z' H' ->Stp env Z H eR Z' H' ->Q Z' H'
abbrev PEd(X:Cx)(e:Expr)(f:DE):Prop:=PE X e (tE X f)
abbrev PTd(X:Cx)(e:Expr)(t:DT):Prop:=PT X e (tT X t)
abbrev PWd(X:Cx)(e:Expr)(t:DT):Prop:=PW X e (tT X t)
abbrev PAd(X:Cx)(es:List Expr)(a:DA):Prop:=PA X es (tA X a)
abbrev PSd(X:Cx)(st:Stmt)(f:DS):Prop:=PS X st (tS X f)
abbrev tF(X:Cx)(st:List Stmt)(f:DS):Prop:=PSs X st (tS X f)
abbrev PGd(X:Cx)(e:Expr)(g:DG):Prop:=PG X e (tG X g)
section
variable{X:Cx}{e a b c:Expr}{f g h:DE}{t u:DT}{pos:Pos}
theorem _root_.L2.PE.aF{t t' :TE}(h:PE X e t')(i:∀Z H Q,t Z H Q->t' Z H Q):PE X e t:=λe8 s Z H Q I q=>h e8 s Z H Q I (i Z H Q q)
variable{t' :TT}
theorem _root_.L2.PT.aF{t:TT}(h:PT X e t')(i:∀Z H Q,t Z H Q->t' Z H Q):PT X e t:=λe8 s Z H Q I q=>h e8 s Z H Q I (i Z H Q q)
theorem _root_.L2.PW.aF{t:TT}(h:PW X e t')(i:∀Z H Q,t Z H Q->t' Z H Q):PW X e t:=λwh e8 s Z H Q I q=>h wh e8 s Z H Q I (i Z H Q q)
theorem _root_.L2.PA.aF{es:List Expr}{t t' :TA}(h:PA X es t')(i:∀Z H Q,t Z H Q->t' Z H Q):PA X es t:=λpos e8 s Z H Q I q=>h pos e8 s Z H Q I (i Z H Q q)
theorem _root_.L2.PS.aF{st:Stmt}{t t' :TS}(h:PS X st t')(i:∀D Z H,t D Z H->t' D Z H):PS X st t:=λe8 s Z H D I q=>h e8 s Z H D I (i D Z H q)
theorem _root_.L2.PSs.aF{st:List Stmt}{t t' :TS}(h:PSs X st t')(i:∀D Z H,t D Z H->t' D Z H):PSs X st t:=λe8 s Z H D I q=>h e8 s Z H D I (i D Z H q)
theorem _root_.L2.PG.aF{t t' :TG}(h:PG X e t')(i:∀v Z H Q,t v Z H Q->t' v Z H Q):PG X e t:=λe8 s Z H v u Q I r q=>h e8 s Z H v u Q I r (i v Z H Q q)
variable{H:Hp}
theorem bu:cF H H:=λ_ _ e=>e
theorem eA{α β:Type}{o:Option α}{k:α->Option β}{y:β}(h:o.bind k=some y):∃x,o=some x/\k x=some y:=Option.bind_eq_some_iff.mp h
theorem kP(i:Nat){x:Str}(hN:autoParam (X.N[i]? =some x) Za1._auto_1)(hv:Vis X.env.scope x:=by first|exact Or.inl rfl|exact Or.inr (Or.inl rfl)|exact Or.inr (Or.inr rfl))(hd:autoParam ((x==("__debug__":Str))=false) Za2._auto_1)
  (yc:autoParam ((x==("__classdict__":Str))=false) Za2._auto_1):PEd X (.Name x pos) (vE i):=by
 refine(vf hN hv hd yc).aF ?_;rintro Z H Q ⟨H0,eC,env,r,E,e,k⟩;unfold vE at e
 match q:env[i]?,e with
 |some (some (.sh d)),e=>
  cases e;obtain⟨v,h1,h2⟩:=E.sh i d q;exact⟨v,h1,k v H bu h2⟩
 |some (some (.own d)),e=>
  cases e;obtain⟨a,h1,h2,h3,h4,h5,h6⟩:=E.ow i d (.inl q);exact⟨_,h1,k _ H bu ⟨a,rfl,h2,h4,h5,h6⟩⟩
 |some (some (.lok d)),e=>
  cases e;obtain⟨a,h1,h2,h3,h4,h5,h6⟩:=E.ow i d (.inr q);refine⟨_,h1,k _ H bu ⟨h6,λb eb _ ⟨j,ho,hj⟩=> ?_⟩⟩;cases eb;have:=E.dj j i a ho.ol (by rw[q];trivial) hj h1;subst this;rw[q] at ho;exact ho
 |some (some (.bor d)),e=>
  cases e;obtain⟨a,h1,h4,h5,h6⟩:=E.bo i d q;refine⟨_,h1,k _ H bu ⟨h6,λb eb _ ⟨j,ho,hj⟩=> ?_⟩⟩;cases eb;have:=E.dj j i a ho.ol (by rw[q];trivial) hj h1;subst this;rw[q] at ho;exact ho
variable{j:Nat}
theorem dN{i:Int}:PEd X (.Constant (.int i) j pos) (kE (.int i)):=Lz.aF λZ H Q ⟨_,_,_,_,_,e,k⟩=>by cases e;exact k _ H bu (.int i)
theorem OW{b:Bool}:PEd X (.Constant (.bool b) j pos) (kE (.bl b)):=NJ.aF λZ H Q ⟨_,_,_,_,_,e,k⟩=>by cases e;exact k _ H bu (.bl b)
theorem qS:PEd X (.Constant .none j pos) (kE .non):=LA.aF λZ H Q ⟨_,_,_,_,_,e,k⟩=>by cases e;exact k _ H bu .non
theorem oW{x:Str}:PEd X (.Constant (.str x) j pos) (kE (.str x)):=LB.aF λZ H Q ⟨_,_,_,_,_,e,k⟩=>by cases e;exact k _ H bu (.str x)
def RvN(K:aq)(F:Addr->Prop)(H H' :Hp)(r:RV)(v:V):Prop:=
 match r.k with
 | .c=>Rep K F H' r.d v
 | .tn=>∃a,v= .ref a/\H a=none/\Wr H' a/\r.d.top=true/\Inn K (λb=>F b/\b≠a) H' r.d v
 |_=>False
theorem RvN.ok{K:aq}{H0 H1 H' :Hp}{eC:Addr->Prop}{env:Env}{Z:St}{r:RV}{v:V}(h:RvN K (Cln eC env Z) H1 H' r v)(s:cF H H1):j9 K H0 eC env Z H H' r v:=by
 obtain⟨k,d⟩:=r;cases k with
 |c=>exact h
 |tn=>obtain⟨a,e,h1,w,t,h2⟩:=h;exact⟨a,e,s.free h1,w,t,h2⟩
 |to=>exact(show False from h).elim
 |tb=>exact(show False from h).elim
def OpD(X:Cx)(o:D->D->Option RV)(r:R2):Prop:=∀(F:Addr->Prop) (H:Hp) (dx dy:D) (x y:V) (rv:RV) (Q:VK),Inn X.K F H dx x->Inn X.K F H dy y->o dx dy=some rv->
 (∀v H',cF H H' ->RvN X.K F H H' rv v->Q v H')->r x y H Q
theorem qT{op:Operator}{o:D->D->Option RV}{r:R2}(ho:OpR X (binaryOp op) r)(hd:OpD X o r)(ha:PEd X a f)(hb:PEd X b g):PEd X (.BinOp a op b pos) (opE o f g):=by
 refine(NT ho ha hb).aF ?_;rintro Z H Q ⟨H0,eC,env,rv,E,e,k⟩;obtain⟨x,hx,e⟩:=eA e;obtain⟨y,hy,e⟩:=eA e;exact⟨H0,eC,env,x,E,hx,λvx H1 s1 R1=> ⟨H0,eC,env,y,E.mono s1,hy,λvy H2 s2 R2=>hd _ H2 x.d y.d vx vy rv Q (R1.inn.same s2) R2.inn e λv H3 s3 R3=>
  k v H3 (s1.trans (s2.trans s3)) (R3.ok (s1.trans s2))⟩⟩
variable{gi:Int->Int->Int}
theorem Mk{o:D->D->Option RV}(h:∀dx dy rv,o dx dy=some rv->∃i j,dx= .int i/\dy= .int j/\rv=⟨.c,.int (gi i j)⟩):OpD X o (rI0 λi j=> .int (gi i j)):=by
 intro F H dx dy x y rv Q ix iy e k;obtain⟨i,j,rfl,rfl,rfl⟩:=h dx dy rv e;cases ix;cases iy
 exact⟨i,j,rfl,rfl,k _ H bu (.int _)⟩
theorem D7{o:D->D->Option RV}{C:Int->Int->Prop}(h:∀dx dy rv,o dx dy=some rv->∃i j,dx= .int i/\dy= .int j/\C i j/\rv=⟨.c,.int (gi i j)⟩):OpD X o (rI C λi j=> .int (gi i j)):=by
 intro F H dx dy x y rv Q ix iy e k;obtain⟨i,j,rfl,rfl,hc,rfl⟩:=h dx dy rv e;cases ix;cases iy
 exact⟨i,j,rfl,rfl,hc,k _ H bu (.int _)⟩
theorem JB:OpD X gI (rI0 λi j=> .int (i -j)):=Mk λdx dy rv e=>by
 unfold gI at e;split at e
 .cases e;exact⟨_,_,rfl,rfl,rfl⟩
 .cases e
theorem JC:OpD X bD (rI Jb λi j=> .int (i*j)):=D7 λdx dy rv e=>by
 unfold bD at e;split at e
 .split at e
  .rename_i i j q;cases e;refine⟨i,j,rfl,rfl, ?_,rfl⟩;unfold aX at q;rw[GaP] at q;rcases q with q|q
   .left;have:=Gao q;lia
   .right;have:=Gao q;lia
  .cases e
 .cases e
theorem GI:OpD X dw (rI NW λi j=> .int (i/j)):=D7 λdx dy rv e=>by
 unfold dw at e;split at e
 .split at e
  .rename_i i j q;cases e;exact⟨i,j,rfl,rfl,q,rfl⟩
  .cases e
 .cases e
theorem JD:OpD X aR (rI (λ_ j=>0<j) λi j=> .int (i%j)):=D7 λdx dy rv e=>by
 unfold aR at e;split at e
 .split at e
  .rename_i i j q;cases e;exact⟨i,j,rfl,rfl,q,rfl⟩
  .cases e
 .cases e
theorem JE:OpD X BL (rI NX λi j=> .int (i^j.toNat)):=D7 λdx dy rv e=>by
 unfold BL at e;split at e
 .split at e
  .rename_i i j q;cases e;exact⟨i,j,rfl,rfl,⟨q.1,by lia,by lia⟩,rfl⟩
  .cases e
 .cases e
def Ln:R2:=λx y H Q=>∃l b xs zs,x= .ref l/\y= .ref b/\Rd H l (.lst xs)/\Rd H b (.lst zs)/\xs.length+zs.length<=sizeLine/\∀p,H p=none->Q (.ref p) (upd H p (.lst (xs++zs)))
theorem JF:OpR X (binaryOp .Add) Ln:=by
 intro e8 s Z H x y v u Q I rx ry h;obtain⟨l,b,xs,zs,rfl,rfl,hH,hB,hz,q⟩:=h;cases rx;cases ry;obtain⟨z,its,n,r,e⟩:=(show cS X.prog X.w H s.heap l (.lst xs) from hH.ok I.hok)
 obtain⟨z2,eI,n2,r2,e2⟩:=(show cS X.prog X.w H s.heap b (.lst zs) from hB.ok I.hok)
 have hl:=r.length;have zR:=r2.length;refine PySem.P.add_list e e2 ?_ (by rw[Gav,Gav];lia);have ea:its.toArray++eI.toArray=(its++eI).toArray:=by simp
 rw[ea];exact⟨.ref _,_,I.Qr (t' :=s.toks) (r.append r2) (by rw[Gai];lia),rfl,q _ I.fresh⟩
theorem eP:a9=sizeLine:=by rw[GbC];rfl
variable{p:Addr}
theorem bf{o:HO}(n:H p=none):cF H (upd H p o):=λb u e=>by rw[aE (ff e n)];exact e
variable{vs:List V}{ds:List D}
theorem fh{K:aq}{F:Addr->Prop}(n:H p=none)(r:aJ K F H ds vs):Rep K F (upd H p (.tup vs)) (.tup ds) (.ref p):=by
 have r2:=r.gen (F' :=F) (.of_same (bf (o:= .tup vs) n)) λ_ f _=>f;exact .tup b9 r2.1 r2.2
theorem fU{K:aq}{F:Addr->Prop}(n:H p=none)(r:aJ K F H ds vs):Inn K (λb=>F b/\b≠p) (upd H p (.lst vs)) (.lst ds) (.ref p):=
 .lst (.inl b9) (r.gen (F' :=λb=>F b/\b≠p) (.of_same (bf (o:= .lst vs) n)) λb f hb=> ⟨f,λz=>hb (z▸n)⟩)
theorem qU{xs:List V}:Wr (upd H p (.lst xs)) p:=⟨_,b9,trivial⟩
def GJ(K:aq):R2:=λx y H Q=>rI0 (λi j=> .int (i+j)) x y H Q\/(∃i j,x= .str i/\y= .str j/\i.length+j.length<=sizeLine/\Q (.str (i++j)) H)\/Ln x y H Q\/L7 K x y H Q
theorem D8:OpR X (binaryOp .Add) (GJ X.K):=LR.or (BD.or (JF.or Jm))
theorem aJ.ne{K:aq}{F:Addr->Prop}(r:aJ K F H ds vs):vs=[]↔ds=[]:=by
 constructor
 .intro z;subst z;exact GcJ r.1
 .intro z;subst z;exact r.cB
theorem D9:OpD X av (GJ X.K):=by
 intro F H dx dy x y rv Q ix iy e k;unfold av at e;split at e
 .cases e;cases ix;cases iy
  exact .inl ⟨_,_,rfl,rfl,k _ H bu (.int _)⟩
 .split at e
  .rename_i q;cases e;cases ix;cases iy
   exact .inr (.inl ⟨_,_,rfl,rfl,by rw[<-eP];exact q,k _ H bu (.str _)⟩)
  .cases e
 .split at e
  .rename_i xs ys q;cases e;cases ix with
   |tup hx rx=>
    cases iy with
    |tup hy ry=>
     refine .inr (.inr (.inr ⟨_,_,_,_,rfl,rfl,SqT.of hx,SqT.of hy, ?_, ?_, ?_, ?_⟩))
     .intro z;have:=rx.ne.mp z;subst this;exact absurd q.2 (by simp)
     .rw[<-rx.1,<-ry.1,<-eP];exact q.1
     .intro z;have:=ry.ne.mp z;subst this;refine k _ H bu ?_;rw[GaV];exact .tup hx rx.1 rx.2
     .intro z p n;exact k _ _ (bf n) (fh n (rx.append ry))
  .cases e
 .split at e
  .rename_i xs ys q;cases e;cases ix with
   |lst hx rx=>
    cases iy with
    |lst hy ry=>
     refine .inr (.inr (.inl ⟨_,_,_,_,rfl,rfl,hx,hy,by rw[<-rx.1,<-ry.1,<-eP];exact q,λp n=> ?_⟩));exact k _ _ (bf n) ⟨p,rfl,n,qU,rfl,fU n (rx.append ry)⟩
  .cases e
 .cases e
def UnD(X:Cx)(o:D->Option RV)(r:V->Hp->VK->Prop):Prop:=∀(F:Addr->Prop) (H:Hp) (dx:D) (x:V) (rv:RV) (Q:VK),Inn X.K F H dx x->o dx=some rv->(∀v H',cF H H' ->RvN X.K F H H' rv v->Q v H')->r x H Q
theorem OX{op:UnaryOp}{o:D->Option RV}{r:V->Hp->VK->Prop}(ho:UnR X (unaryOp op) r)(hd:UnD X o r)(ha:PEd X a f):PEd X (.UnaryOp op a pos) (unE o f):=by
 refine(NU ho ha).aF ?_;rintro Z H Q ⟨H0,eC,env,rv,E,e,k⟩;obtain⟨x,hx,e⟩:=eA e;exact⟨H0,eC,env,x,E,hx,λvx H1 s1 R1=>hd _ H1 x.d vx rv Q R1.inn e λv H3 s3 R3=>k v H3 (s1.trans s3) (R3.ok s1)⟩
theorem JG:UnD X GC (rU λi=> .int (-i)):=by
 intro F H dx x rv Q ix e k;unfold GC at e;split at e
 .cases e;cases ix;exact⟨_,rfl,k _ H bu (.int _)⟩
 .cases e
theorem kQ(ha:PEd X a f)(hb:PEd X b g):PEd X (.BinOp a .Add b pos) (opE av f g):=qT D8 D9 ha hb
theorem oX(ha:PEd X a f)(hb:PEd X b g):PEd X (.BinOp a .Sub b pos) (opE gI f g):=qT LS JB ha hb
theorem mZ(ha:PEd X a f)(hb:PEd X b g):PEd X (.BinOp a .Mult b pos) (opE bD f g):=qT LU JC ha hb
theorem lU(ha:PEd X a f)(hb:PEd X b g):PEd X (.BinOp a .FloorDiv b pos) (opE dw f g):=qT Jc GI ha hb
theorem n4(ha:PEd X a f)(hb:PEd X b g):PEd X (.BinOp a .Mod b pos) (opE aR f g):=qT LV JD ha hb
theorem BP(ha:PEd X a f)(hb:PEd X b g):PEd X (.BinOp a .Pow b pos) (opE BL f g):=qT LX JE ha hb
theorem Ml(ha:PEd X a f):PEd X (.UnaryOp .USub a pos) (unE GC f):=OX LY JG ha
def OpB(X:Cx)(o:D->D->Option Bool)(r:R2):Prop:=∀(F:Addr->Prop) (H:Hp) (dx dy:D) (x y:V) (b:Bool) (Q:VK),Inn X.K F H dx x->Inn X.K F H dy y->o dx dy=some b->Q (.bl b) H->r x y H Q
variable{o:D->D->Option Bool}
theorem aW{op:CmpOp}{r:R2}(ho:OpR X (compareOp op) r)(hd:OpB X o r)(ha:PEd X a f)(hb:PEd X b g)(hm:behindInMarks op b=false):PTd X (.Compare a [op] [b] pos) (az o f g):=by
 refine(Je ho ha hb hm).aF ?_;rintro Z H Q ⟨H0,eC,env,bb,E,e,k⟩;obtain⟨x,hx,e⟩:=eA e;obtain⟨y,hy,e⟩:=eA e;exact⟨H0,eC,env,x,E,hx,λvx H1 s1 R1=> ⟨H0,eC,env,y,E.mono s1,hy,λvy H2 s2 R2=>hd _ H2 x.d y.d vx vy bb _ (R1.inn.same s2) R2.inn e ⟨bb,rfl,k H2 (s1.trans s2)⟩⟩⟩
theorem kR{op:CmpOp}{r:R2}(ho:OpR X (compareOp op) r)(hd:OpB X o r)(ha:PEd X a f)(hb:PEd X b g)(hm:behindInMarks op b=false):PEd X (.Compare a [op] [b] pos) (bE (az o f g)):=by
 refine(Jd ho ha hb hm).aF ?_;rintro Z H Q ⟨H0,eC,env,rv,E,e,k⟩;obtain⟨bb,e',rfl⟩:=Gas.mp e;clear e;have e:=e';clear e';obtain⟨x,hx,e⟩:=eA e;obtain⟨y,hy,e⟩:=eA e;exact⟨H0,eC,env,x,E,hx,λvx H1 s1 R1=> ⟨H0,eC,env,y,E.mono s1,hy,λvy H2 s2 R2=>hd _ H2 x.d y.d vx vy bb _ (R1.inn.same s2) R2.inn e (k _ H2 (s1.trans s2) (.bl bb))⟩⟩
theorem Dc{gb:Int->Int->Bool}(h:∀dx dy b,o dx dy=some b->∃i j,dx= .int i/\dy= .int j/\b=gb i j):OpB X o (rI0 λi j=> .bl (gb i j)):=by
 intro F H dx dy x y b Q ix iy e q;obtain⟨i,j,rfl,rfl,rfl⟩:=h dx dy b e;cases ix;cases iy
 exact⟨i,j,rfl,rfl,q⟩
theorem BQ:OpB X ltB (rI0 λi j=> .bl (decide (i<j))):=Dc λdx dy b e=>by
 unfold ltB at e;split at e<;>cases e;exact⟨_,_,rfl,rfl,rfl⟩
theorem jO:OpB X leB (rI0 λi j=> .bl (decide (i<=j))):=Dc λdx dy b e=>by
 unfold leB at e;split at e<;>cases e;exact⟨_,_,rfl,rfl,rfl⟩
theorem oY:OpB X gtB (rI0 λi j=> .bl (decide (j<i))):=Dc λdx dy b e=>by
 unfold gtB at e;split at e<;>cases e;exact⟨_,_,rfl,rfl,rfl⟩
theorem GK:OpB X geB (rI0 λi j=> .bl (decide (j<=i))):=Dc λdx dy b e=>by
 unfold geB at e;split at e<;>cases e;exact⟨_,_,rfl,rfl,rfl⟩
theorem uh{K:aq}{F:Addr->Prop}{d:D}{x:V}(h:Inn K F H d x):decide (x= .non)=cu d:=by
 cases h<;>simp[cu]
theorem qt:OpB X ky (λx y H Q=>y= .non/\Q (.bl (decide (x= .non))) H):=by
 intro F H dx dy x y b Q ix iy e q;simp only[ky,fQ] at e;split at e
 .rename_i h;cases e;cases iy<;>simp[cu] at h
  exact⟨rfl,by rw[uh ix];exact q⟩
 .cases e
theorem nV:OpB X fQ (λx y H Q=>y= .non/\Q (.bl (!decide (x= .non))) H):=by
 intro F H dx dy x y b Q ix iy e q;simp only[ky,fQ] at e;split at e
 .rename_i h;cases e;cases iy<;>simp[cu] at h
  exact⟨rfl,by rw[uh ix];exact q⟩
 .cases e
theorem vG(h:PEd X e f)(he:∀whole,isTrue e X.env whole=(do let v<-whole;standAt e.pos;holding [v] (truthy v)):=by intro _;rfl):PTd X e (BM f):=by
 refine(LC h he).aF ?_;rintro Z H Q ⟨H0,eC,env,bb,E,e,k⟩;obtain⟨x,hx,e⟩:=eA e;split at e
 .rename_i b hb;cases e;refine⟨H0,eC,env,x,E,hx,λvx H1 s1 R1=> ⟨bb, ?_,k H1 s1⟩⟩;have i:=R1.inn;rw[hb] at i;cases i;rfl
 .cases e
theorem nW(ha:PTd X a t):PWd X (.BoolOp .And [a] pos) t:=J5 ha
theorem BR(ha:PTd X a t):PWd X (.BoolOp .Or [a] pos) t:=LD ha
variable{rest:List Expr}
theorem fV(ha:PTd X a t)(hb:PWd X (.BoolOp .And (b::rest) pos) u):PWd X (.BoolOp .And (a::b::rest) pos) (iS t u):=by
 refine(LF ha hb).aF ?_;rintro Z H Q ⟨H0,eC,env,bb,E,e,k⟩;obtain⟨x,hx,e⟩:=eA e;refine⟨H0,eC,env,x,E,hx,λH1 s1=> ?_⟩;cases x with
 |true=>rw[Gah rfl];rw[Gah rfl] at e;exact⟨H0,eC,env,bb,E.mono s1,e,λH2 s2=>k H2 (s1.trans s2)⟩
 |false=>rw[Gag Gal];rw[Gag Gal] at e;cases e;exact k H1 s1
theorem kS(ha:PTd X a t)(hb:PWd X (.BoolOp .Or (b::rest) pos) u):PWd X (.BoolOp .Or (a::b::rest) pos) (orT t u):=by
 refine(NK ha hb).aF ?_;rintro Z H Q ⟨H0,eC,env,bb,E,e,k⟩;obtain⟨x,hx,e⟩:=eA e;refine⟨H0,eC,env,x,E,hx,λH1 s1=> ?_⟩;cases x with
 |false=>rw[Gag Gal];rw[Gag Gal] at e;exact⟨H0,eC,env,bb,E.mono s1,e,λH2 s2=>k H2 (s1.trans s2)⟩
 |true=>rw[Gah rfl];rw[Gah rfl] at e;cases e;exact k H1 s1
theorem GL(ha:PTd X a t):PTd X (.UnaryOp .Not a pos) (Mg t):=by
 refine(LG ha).aF ?_;rintro Z H Q ⟨H0,eC,env,bb,E,e,k⟩;obtain⟨x,hx,rfl⟩:=Gas.mp e;exact⟨H0,eC,env,x,E,hx,λH1 s1=>k H1 s1⟩
theorem Mm{op:BoolOp}(ha:PEd X a (bE t)):PEd X (.BoolOp op [a] pos) (bE t):=LH ha
theorem Mn(ha:PEd X a (bE t))(hb:PEd X (.BoolOp .And (b::rest) pos) (bE u)):PEd X (.BoolOp .And (a::b::rest) pos) (bE (iS t u)):=by
 refine(LI ha hb).aF ?_;rintro Z H Q ⟨H0,eC,env,rv,E,e,k⟩;obtain⟨bb,e',rfl⟩:=Gas.mp e;clear e;have e:=e';clear e';obtain⟨x,hx,e⟩:=eA e;refine⟨H0,eC,env,⟨.c,.bl x⟩,E,by unfold bE;rw[hx];rfl,λv H1 s1 R=> ?_⟩;have R' :Inn X.K (Cln eC env Z) H1 (.bl x) v:=R.inn;cases R';refine⟨x,rfl, ?_⟩;cases x with
 |true=>rw[Gah rfl];rw[Gah rfl] at e;exact⟨H0,eC,env,⟨.c,.bl bb⟩,E.mono s1,by unfold bE;rw[e];rfl,λv2 H2 s2 R2=>k v2 H2 (s1.trans s2) (R2.from s1)⟩
 |false=>rw[Gag Gal];rw[Gag Gal] at e;cases e;exact k _ H1 s1 (.bl false)
theorem GN(hc:PTd X c t)(ha:PEd X a f)(hb:PEd X b g):PEd X (.IfExp c a b pos) (ifE t f g):=by
 refine(Ge hc ha hb).aF ?_;rintro Z H Q ⟨H0,eC,env,rv,E,e,k⟩;obtain⟨x,hx,e⟩:=eA e;refine⟨H0,eC,env,x,E,hx,λH1 s1=> ?_⟩;cases x with
 |true=>rw[Gah rfl];rw[Gah rfl] at e;exact⟨H0,eC,env,rv,E.mono s1,e,λv H2 s2 R=>k v H2 (s1.trans s2) (R.from s1)⟩
 |false=>rw[Gag Gal];rw[Gag Gal] at e;exact⟨H0,eC,env,rv,E.mono s1,e,λv H2 s2 R=>k v H2 (s1.trans s2) (R.from s1)⟩
theorem A6{op yf :CmpOp}{p:D->D->Option Bool}{r r' :R2}(ho:OpR X (compareOp op) r)(hd:OpB X o r)(xo :OpR X (compareOp yf) r')(xx :OpB X p r')(ha:PEd X a f)(hb:PEd X b g)(hc:PEd X c h)
  (hm:lastMarks [op,yf] [b,c]=false:=by with_unfolding_all rfl):PTd X (.Compare a [op,yf] [b,c] pos) (mX o p f g h):=by
 refine(Gq ho xo ha hb hc hm).aF ?_;rintro Z H Q ⟨H0,eC,env,bb,E,e,k⟩;obtain⟨x,hx,e⟩:=eA e;obtain⟨y,hy,e⟩:=eA e;obtain⟨b1,h1,e⟩:=eA e;refine⟨H0,eC,env,x,E,hx,λvx H1 s1 R1=> ⟨H0,eC,env,y,E.mono s1,hy,λvy H2 s2 R2=>hd _ H2 x.d y.d vx vy b1 _ (R1.inn.same s2) R2.inn h1 ⟨b1,rfl, ?_⟩⟩⟩;cases b1 with
 |true=>
  rw[Gah rfl];rw[Gah rfl] at e
  obtain⟨z,hz,e⟩:=eA e;exact⟨H0,eC,env,z,(E.mono s1).mono s2,hz,λvz H3 s3 R3=>xx _ H3 y.d z.d vy vz bb _ (R2.inn.same s3) R3.inn e ⟨bb,rfl,k H3 (s1.trans (s2.trans s3))⟩⟩
 |false=>
  rw[Gag Gal];rw[Gag Gal] at e;cases e
  exact⟨false,rfl,k H2 (s1.trans s2)⟩
end
section
variable{X:Cx}{e a b c:Expr}{f g h:DE}{t u:DT}{pos:Pos}
variable{H:Hp}
theorem Scr.sq{K:aq}{a:Addr}{ns:List Int}(h:Scr K H a ns):SqL K H a (ns.map V.int):=by
 rcases h with⟨o,h⟩|h
 .exact .inl (.inr ⟨o,h⟩)
 .exact .inr h
variable{d:D}{vs:List V}
theorem GO{K:aq}{F:Addr->Prop}{ds:List D}{i:Int}(r:aJ K F H ds vs)(e:atD ds i=some d):∃v,atI vs i=some v/\Rep K F H d v:=by
 unfold atD at e;unfold atI ixN;rw[<-r.1];split at e
 .rename_i h0;obtain⟨v,h1,h2⟩:=r.get e;have hi:=(Gam.mp e).1;refine⟨v, ?_,h2⟩;rw[Gah h0,Gah (by lia)];exact h1
 .rename_i h0;split at e
  .rename_i h1;obtain⟨v,h2,h3⟩:=r.get e;refine⟨v, ?_,h3⟩;rw[Gag h0,Gah h1];exact h2
  .cases e
def OY:R2:=λx y H Q=>∃a v,x= .ref a/\wU H a y (some v)/\Q v H
theorem JH(hu:X.A.units+1<cLine):IxR X OY:=by
 intro value slice e8 s Z H x y v u Q I rx ry h hs;obtain⟨a,z,rfl,g,q⟩:=h;cases rx;exact tail_any (wV I g) PySem.F.slot_dict_getitem.lookup (EI hu I g ry λw' s3 I3 xK => ⟨z,H,I3,xK,q⟩) hs
def QM(K:aq):R2:=λx y H Q=>rIx K x y H Q\/OY x y H Q
theorem JI(hu:X.A.units+1<cLine):IxR X (QM X.K):=M9.or (JH hu)
theorem kT{Y:Type} [DecidableEq Y]{K:aq}{F:Addr->Prop}{H:Hp}:∀{eD:List (Y×D)} {ws:List (Y×V)} {k:Y} {d:D},b8 K F H eD ws->look eD k=some d->∃v,mB ws k=some v/\Rep K F H d v
 |[],ws,k,d,_,e=>by simp[look] at e
 |p::eD,[],k,d,r,_=>absurd r.1 (by simp)
 |p::eD,q::ws,k,d,r,e=>by
  have h1:p.1=q.1/\eD.map (·.1)=ws.map (·.1):=by have:=r.1;simpa using this
  have r2:b8 K F H eD ws:=⟨h1.2,λi x y e1 e2=>r.2 (i+1) x y (by simpa using e1) (by simpa using e2)⟩
  by_cases z:p.1=k
  .have e' :look (p::eD) k=some p.2:=by simp[look,GbF,z]
   rw[e'] at e;cases e
   exact⟨q.2,nQ (h1.1.symm.trans z),r.2 0 p q rfl rfl⟩
  .have e' :look (p::eD) k=look eD k:=by simp[look,GbF,z]
   rw[e'] at e;obtain⟨v,h3,h4⟩:=kT r2 e;exact⟨v,by rw[kD (λw=>z (h1.1.trans w))];exact h3,h4⟩
theorem oZ{Y:Type} [DecidableEq Y]{K:aq}{F:Addr->Prop}{H:Hp}:∀{eD:List (Y×D)} {ws:List (Y×V)} {k:Y},b8 K F H eD ws->look eD k=none->mB ws k=none
 |[],[],k,_,_=>rfl
 |[],q::ws,k,r,_=>absurd r.1 (by simp)
 |p::eD,[],k,r,_=>absurd r.1 (by simp)
 |p::eD,q::ws,k,r,e=>by
  have h1:p.1=q.1/\eD.map (·.1)=ws.map (·.1):=by have:=r.1;simpa using this
  have r2:b8 K F H eD ws:=⟨h1.2,λi x y e1 e2=>r.2 (i+1) x y (by simpa using e1) (by simpa using e2)⟩
  by_cases z:p.1=k
  .have e' :look (p::eD) k=some p.2:=by simp[look,GbF,z]
   rw[e'] at e;cases e
  .have e' :look (p::eD) k=look eD k:=by simp[look,GbF,z]
   rw[e'] at e;rw[kD (λw=>z (h1.1.trans w))];exact oZ r2 e
theorem ui{K:aq}{F:Addr->Prop}{x:V}{k:Key}(i:Inn K F H d x)(e:keyOf d=some k):x=kV k:=by
 unfold keyOf at e;split at e<;>cases e<;>cases i<;>rfl
theorem pT{K:aq}{F:Addr->Prop}{H:Hp}:∀{ds:List D} {vs:List V} {ks:List Key},aJ K F H ds vs->keysOf ds=some ks->vs=ks.map kV
 |[],vs,ks,r,e=>by cases e;rw[r.cB];rfl
 |d::ds,vs,ks,r,e=>by
  obtain⟨v,w,rfl,h1,h2⟩:=r.cons_inv;unfold keysOf at e;obtain⟨k,hk,e⟩:=eA e;obtain⟨UP,Ui,rfl⟩:=Gas.mp e;rw[ui h1.inn hk,pT h2 Ui]
  rfl
theorem qu{K:aq}{F:Addr->Prop}{k:D}{x y:V}(ix:Inn K F H d x)(iy:Inn K F H k y):
  (∀eD key,d= .dK eD->keyOf k=some key->∃a ws,x= .ref a/\b8 K F H eD ws/\wU H a y (mB ws key))/\
  (∀eD ks key,d= .dT eD->k= .tup ks->keysOf ks=some key->∃a ws,x= .ref a/\b8 K F H eD ws/\wU H a y (mB ws key)):=by
 refine⟨λeD key ed ek=> ?_,λeD ks key ed ek e=> ?_⟩
 .subst ed;cases ix with
  |dK h r=>exact⟨_,_,rfl,r,.inl ⟨_,key,.inl h,ui iy ek,rfl⟩⟩
 .subst ed ek;cases ix with
  |dT h r=>
   cases iy with
   |tup hy ry=>exact⟨_,_,rfl,r,.inr ⟨_,key,_,.inl h,rfl,by rw[<-pT ry e];exact hy,rfl⟩⟩
theorem pU(hu:X.A.units+1<cLine)(ha:PEd X a f)(hb:PEd X b g)(hs:CY b:=by exactλ_ _=>rfl):PEd X (.Subscript a b pos) (ixE f g):=by
 refine(O4 (JI hu) ha hb hs).aF ?_;rintro Z H Q ⟨H0,eC,env,rv,E,e,k⟩;obtain⟨x,hx,e⟩:=eA e;obtain⟨y,hy,e⟩:=eA e;obtain⟨d,e',rfl⟩:=Gas.mp e;clear e;have e:=e';clear e';refine⟨H0,eC,env,x,E,hx,λvx H1 s1 R1=> ⟨H0,eC,env,y,E.mono s1,hy,λvy H2 s2 R2=> ?_⟩⟩;have ix:=R1.inn.same s2;have iy:=R2.inn;have fin:∀v,Rep X.K (Cln eC env Z) H2 d v->Q v H2:=λv r=>k v H2 (s1.trans s2) r;generalize x.d=dx at ix e;generalize y.d=dy at iy e;unfold ixD at e;split at e
 .cases iy;cases ix with
  |lst h r=>
   obtain⟨v,h1,h2⟩:=GO r e;exact .inl (.inl ⟨_,_,_,v,rfl,rfl,.inl h,h1,fin v h2⟩)
 .cases iy;cases ix with
  |tup h r=>
   obtain⟨v,h1,h2⟩:=GO r e;exact .inl (.inr (.inl ⟨_,_,_,v,rfl,rfl,SqT.of h,h1,fin v h2⟩))
 .split at e
  .rename_i hz;obtain⟨ch,e',rfl⟩:=Gas.mp e;clear e;have e:=e';clear e';cases iy;cases ix
   refine .inl (.inr (.inr ⟨_,_,ch,rfl,rfl,by rw[<-eP];exact hz, ?_,fin _ (.str _)⟩));unfold atD at e;unfold atI ixN;split at e
   .rename_i h0;have hi:=(Gam.mp e).1;rw[Gah h0,Gah (by lia)];exact e
   .rename_i h0;split at e
    .rename_i h1;rw[Gag h0,Gah h1];exact e
    .cases e
  .cases e
 .obtain⟨key,hk,e⟩:=eA e;obtain⟨p,ws,rfl,r,dg⟩:=(qu ix iy).1 _ key rfl hk;obtain⟨v,h1,h2⟩:=kT r e;rw[h1] at dg;exact .inr ⟨p,v,rfl,dg,fin v h2⟩
 .obtain⟨key,hk,e⟩:=eA e;obtain⟨p,ws,rfl,r,dg⟩:=(qu ix iy).2 _ _ key rfl rfl hk;obtain⟨v,h1,h2⟩:=kT r e;rw[h1] at dg;exact .inr ⟨p,v,rfl,dg,fin v h2⟩
 .obtain⟨n,e',rfl⟩:=Gas.mp e;clear e;have e:=e';clear e';cases iy;cases ix with
  |scr h=>
   refine .inl (.inl ⟨_,_,_,.int n,rfl,rfl,h.sq, ?_,fin _ (.int n)⟩);unfold atD at e;unfold atI ixN;rw[Gab];split at e
   .rename_i h0;have hi:=(Gam.mp e).1;rw[Gah h0,Gah (by lia)];show(List.map V.int _)[_]? =_;rw[Gaw,e];rfl
   .rename_i h0;split at e
    .rename_i h1;rw[Gag h0,Gah h1];show(List.map V.int _)[_]? =_;rw[Gaw,e];rfl
    .cases e
 .cases e
theorem dO:PAd X [] ae:=by
 refine vm.aF ?_;rintro Z H Q ⟨H0,eC,env,rs,E,e,k⟩;cases e;exact k [] H bu .nil
variable{rs:List RV}{Z:St}{env:Env}{H0 H' :Hp}
theorem A7{K:aq}{H1:Hp}{eC:Addr->Prop}(s:cF H H1)(p:Paired (j9 K H0 eC env Z H1 H') rs vs):Paired (j9 K H0 eC env Z H H') rs vs:=L2.Paired.J1 p λ_ _ h=>h.from s
theorem bS{es:List Expr}{r:DA}(ha:PEd X e f)(hr:PAd X es r)(hs:autoParam (starEach (e::es) X.env=(false,eval e X.env)::starEach es X.env) Za1._auto_1):PAd X (e::es) (a7 f r):=by
 refine(nN ha hr hs).aF ?_;rintro Z H Q ⟨H0,eC,env,rs,E,e,k⟩;obtain⟨x,hx,e⟩:=eA e;obtain⟨xs,Rh,e⟩:=eA e;cases e;exact⟨H0,eC,env,x,E,hx,λvx H1 s1 R1=> ⟨H0,eC,env,xs,E.mono s1,Rh,λvs H2 s2 Rs=>k _ H2 (s1.trans s2) (.cons (R1.same s2) (A7 s1 Rs))⟩⟩
theorem uj{K:aq}{eC:Addr->Prop}(E:ay K H0 eC env Z H)(p:Paired (j9 K H0 eC env Z H H') rs vs):rs.all (·.free)=true->aJ K (Cln eC env Z) H' (rs.map (·.d)) vs:=by
 induction p with
 |nil=>exactλ_=>aJ.nil
 |cons h t ih=>
  intro f;rw[Gce,Gan] at f;exact aJ.cons (h.rep E f.1) (ih f.2)
variable{es:List Expr}
theorem kU{r:DA}{j:Nat}(ha:PAd X es r):PEd X (.Tuple es j pos) (aS r):=by
 refine(M0 ha).aF ?_;rintro Z H Q ⟨H0,eC,env,rv,E,e,k⟩;obtain⟨rs,hr,e⟩:=eA e;split at e
 .rename_i q;rw[Gan] at q;cases e;refine⟨H0,eC,env,rs,E,hr,λvs H1 s1 Rs=> ?_⟩;have rep:=uj E Rs q.1;refine⟨by rw[<-rep.1,Gab,<-eP];exact Gao q.2,λp n=> ?_⟩;exact k _ _ (s1.trans (bf n)) (fh n rep)
 .cases e
theorem n5{r:DA}(ha:PAd X es r):PEd X (.List es pos) (fE r):=by
 refine(M1 ha).aF ?_;rintro Z H Q ⟨H0,eC,env,rv,E,e,k⟩;obtain⟨rs,hr,e⟩:=eA e;split at e
 .rename_i q;rw[Gan] at q;cases e;refine⟨H0,eC,env,rs,E,hr,λvs H1 s1 Rs=> ?_⟩;have rep:=uj E Rs q.1;refine⟨by rw[<-rep.1,Gab,<-eP];exact Gao q.2,λp n=> ?_⟩;exact k _ _ (s1.trans (bf n)) ⟨p,rfl,s1.free n,qU,rfl,fU n rep⟩
 .cases e
noncomputable def spD(K:aq)(np:Nat)(sp:List D->Option D):Sp:=λvs H Q _=>∃ds d,ds.length=np/\aJ K (λ_=>True) H ds vs/\sp ds=some d/\∀v H',cF H H' ->ug K H H' d v->Q v H'
theorem EV{K:aq}{eC:Addr->Prop}(p:Paired (j9 K H0 eC env Z H H') rs vs):aJ K (λ_=>True) H' (rs.map (·.d)) vs:=by
 induction p with
 |nil=>exact aJ.nil
 |cons h t ih=>exact aJ.cons h.inn.any ih
variable{p:Pos}{x:Str}
theorem JJ{CX:CXT}{k:Nat}{fa:Addr}{fd:FuncData}{ps:List Str}{np:Nat}{sp:List D->Option D}{r:DA}{E:XK}(F:nO X.prog X.w X.K X.mg X.base CX k fa fd ps (spD X.K np sp))(hr:iA k X.A)(hg:Gl X x)
  (hm:X.mg x=some (.ref fa))(hk:PySem.W.keepIn X.K (.ref fa)=true)(hb:Binds X.K fd ps [])(hx:Passes CX X E)(ha:PAd X (e::es) r)(hl:∀env rs,r env=some rs->rs.length=np)
  (yt:autoParam ((x==("__debug__":Str))=false) Za2._auto_1)(he:autoParam (starEach (e::es) X.env=(false,eval e X.env)::starEach es X.env) Za1._auto_1)(xH:autoParam ((backTo pos (starEach es X.env)).any (·.1)=false) Za1._auto_1):
  PEd X (.Call (.Name x p) (e::es) [] pos) (ao sp r):=by
 refine(Jh (dvs:=[]) F hr hg hm hk hb .nil hx ha yt he xH).aF ?_;rintro Z H Q ⟨H0,eC,env,rv,E,e,k⟩;obtain⟨rs,yB,e⟩:=eA e;obtain⟨d,hd,rfl⟩:=Gas.mp e;refine⟨H0,eC,env,rs,E,yB,λvs H1 s1 Rs=> ⟨rs.map (·.d),d,by rw[Gab];exact hl env rs yB, ?_,hd,λv H2 s2 R2=>k v H2 (s1.trans s2) ((R2.rv (E.mono s1)).from s1)⟩⟩;rw[GaV];exact EV Rs
def CallD(X:Cx)(o:List D->Option RV)(r:List V->Hp->VK->Prop):Prop:=∀(F:Addr->Prop) (H:Hp) (ds:List D) (vs:List V) (rv:RV) (Q:VK),Paired (Inn X.K F H) ds vs->o ds=some rv->(∀v H',cF H H' ->RvN X.K F H H' rv v->Q v H')->r vs H Q
theorem qV{K:aq}{eC:Addr->Prop}(p:Paired (j9 K H0 eC env Z H H') rs vs):Paired (Inn K (Cln eC env Z) H') (rs.map (·.d)) vs:=by
 induction p with
 |nil=>exact .nil
 |cons h t ih=>exact .cons h.inn ih
variable{ra:DA}{o:List D->Option RV}
theorem cX{id:String}{r:List V->Hp->VK->Prop}(hc:fq X (.builtin id) r)(hd:CallD X o r)(hg:Gl X x)(hm:X.mg x=none)(hv:bootBuiltins x=some (.builtin id))(ha:PAd X (e::es) ra)
  (hn:autoParam (x≠"__name__") Za2._auto_1)(yt:autoParam ((x==("__debug__":Str))=false) Za2._auto_1)(he:autoParam (starEach (e::es) X.env=(false,eval e X.env)::starEach es X.env) Za1._auto_1)(xH:autoParam ((backTo pos (starEach es X.env)).any (·.1)=false) Za1._auto_1):
  PEd X (.Call (.Name x p) (e::es) [] pos) (bZ o ra):=by
 refine(qG hc hg hm hv ha hn yt he xH).aF ?_;rintro Z H Q ⟨H0,eC,env,rv,E,e,k⟩;obtain⟨rs,yB,e⟩:=eA e;exact⟨H0,eC,env,rs,E,yB,λvs H1 s1 Rs=>hd _ H1 _ vs rv Q (qV Rs) e λv H2 s2 R2=>k v H2 (s1.trans s2) (R2.ok s1)⟩
theorem jk{T:String}{r:List V->Hp->VK->Prop}(hc:fq X (.type T) r)(hd:CallD X o r)(hg:Gl X x)(hm:X.mg x=none)(hv:bootBuiltins x=some (.type T))(ha:PAd X (e::es) ra)
  (hn:autoParam (x≠"__name__") Za2._auto_1)(yt:autoParam ((x==("__debug__":Str))=false) Za2._auto_1)(he:autoParam (starEach (e::es) X.env=(false,eval e X.env)::starEach es X.env) Za1._auto_1)(xH:autoParam ((backTo pos (starEach es X.env)).any (·.1)=false) Za1._auto_1):
  PEd X (.Call (.Name x p) (e::es) [] pos) (bZ o ra):=by
 refine(u6 hc hg hm hv ha hn yt he xH).aF ?_;rintro Z H Q ⟨H0,eC,env,rv,E,e,k⟩;obtain⟨rs,yB,e⟩:=eA e;exact⟨H0,eC,env,rs,E,yB,λvs H1 s1 Rs=>hd _ H1 _ vs rv Q (qV Rs) e λv H2 s2 R2=>k v H2 (s1.trans s2) (R2.ok s1)⟩
theorem dY{R:D->V->Prop}(h:Paired R [d] vs):∃v,vs=[v]/\R d v:=by
 cases h with
 |cons h t=>cases t;exact⟨_,rfl,h⟩
theorem Dd{R:D->V->Prop}{d2:D}(h:Paired R [d,d2] vs):∃v w,vs=[v,w]/\R d v/\R d2 w:=by
 cases h with
 |cons h t=>cases t with
  |cons h2 t=>cases t;exact⟨_,_,rfl,h,h2⟩
theorem fW:fq X (.builtin "len") (λxs H Q=>∃a eD,xs=[.ref a]/\Rd H a (.dK eD)/\Q (.int eD.length) H):=by
 intro e8 s Z H xs us Q I r h;obtain⟨a,eD,rfl,e,q⟩:=h;obtain⟨u,rfl,rx⟩:=vals1 r;cases rx;exact O8 I e λt s' I' => ⟨.int eD.length,H,I',⟨t,rfl⟩,q⟩
theorem fX:CallD X dG (λxs H Q=>(∃x n,xs=[x]/\NY X.K x H n/\Q (.int n) H)\/(∃a eD,xs=[.ref a]/\Rd H a (.dK eD)/\Q (.int eD.length) H)):=by
 intro F H ds vs rv Q ps e k;unfold dG at e;split at e
 .cases e;obtain⟨v,rfl,i⟩:=dY ps;cases i with
  |lst h r=>exact .inl ⟨_,_,rfl,.inl ⟨_,.inl h,r.1⟩,k _ H bu (.int _)⟩
 .cases e;obtain⟨v,rfl,i⟩:=dY ps;cases i with
  |tup h r=>exact .inl ⟨_,_,rfl,.inr ⟨_,SqT.of h,r.1⟩,k _ H bu (.int _)⟩
 .split at e
  .rename_i q;cases e;obtain⟨v,rfl,i⟩:=dY ps;cases i;exact .inl ⟨_,_,rfl,⟨by rw[<-eP];exact q,rfl⟩,k _ H bu (.int _)⟩
  .cases e
 .cases e;obtain⟨v,rfl,i⟩:=dY ps;cases i with
  |dK h r=>
   have hl:=congrArg List.length r.1;rw[Gab,Gab] at hl;exact .inr ⟨_,_,rfl,.inl h,by rw[<-hl];exact k _ H bu (.int _)⟩
 .cases e;obtain⟨v,rfl,i⟩:=dY ps;cases i with
  |scr h=>exact .inl ⟨_,_,rfl,.inl ⟨_,h.sq,by simp⟩,k _ H bu (.int _)⟩
 .cases e
theorem n6:CallD X qN (λxs H Q=>∃i j,xs=[.int i,.int j]/\Q (.int (if j<i then j else i)) H):=by
 intro F H ds vs rv Q ps e k;unfold qN at e;split at e
 .cases e;obtain⟨v,w,rfl,i1,i2⟩:=Dd ps;cases i1;cases i2
  exact⟨_,_,rfl,k _ H bu (.int _)⟩
 .cases e
theorem qW:CallD X wY (λxs H Q=>∃i j,xs=[.int i,.int j]/\Q (.int (if j>i then j else i)) H):=by
 intro F H ds vs rv Q ps e k;unfold wY at e;split at e
 .cases e;obtain⟨v,w,rfl,i1,i2⟩:=Dd ps;cases i1;cases i2
  exact⟨_,_,rfl,k _ H bu (.int _)⟩
 .cases e
theorem iW:CallD X fg (λxs H Q=>∃p ys,xs=[.ref p]/\((SqL X.K H p ys/\∀l,H l=none->Q (.ref l) (upd H l (.tup ys)))\/(SqT X.K H p ys/\Q (.ref p) H))):=by
 intro F H ds vs rv Q ps e k;unfold fg at e;split at e
 .cases e;obtain⟨v,rfl,i⟩:=dY ps;cases i with
  |lst h r=>
   refine⟨_,_,rfl,.inl ⟨.inl h,λl n=> ?_⟩⟩;exact k _ _ (bf n) (fh n r)
 .cases e;obtain⟨v,rfl,i⟩:=dY ps;cases i with
  |tup h r=>exact⟨_,_,rfl,.inr ⟨SqT.of h,k _ H bu (.tup h r.1 r.2)⟩⟩
 .cases e
end
section
variable{K:aq}{H0 H H' :Hp}{eC:Addr->Prop}{env eR :Env}{Z Z' :St}{d:D}{v:V}{a:Addr}{i:Nat}
variable{j:Nat}
theorem eG{α:Type}{l:List α}{i:Nat}{x y:α}(e:(l.set i x)[j]? =some y):(i=j/\y=x)\/(i≠j/\l[j]? =some y):=by
 by_cases h:i=j
 .subst h;have hi:i<l.length:=by have:=(Gam.mp e).1;simpa using this
  rw[GaZ hi] at e;cases e;exact .inl ⟨rfl,rfl⟩
 .rw[Gak h] at e;exact .inr ⟨h,e⟩
theorem set_same{α:Type}{l:List α}{i:Nat}{x:α}(e:l[i]? =some x):l.set i x=l:=by
 apply GcK;intro j;by_cases h:i=j
 .subst h;rw[GaZ (Gam.mp e).1,e]
 .rw[Gak h]
theorem cY{α:Type}{l:List α}{i:Nat}{x:α}(h:i<l.length):(l.set i x)[i]? =some x:=GaZ h
theorem iD(h:bH (env.set i (some (.sh d)))[j]?):i≠j/\bH env[j]? :=by
 by_cases q:i=j
 .subst q;by_cases z:i<env.length
  .rw[cY z] at h;exact h.elim
  .rw[Gbw (by simpa using Nat.le_of_not_lt z)] at h;exact h.elim
 .rw[Gak q] at h;exact⟨q,h⟩
theorem ay.uk(E:ay K H0 eC env Z H)(r:Rep K (Cln eC env Z) H d v):ay K H0 eC (env.set i (some (.sh d))) (Z.set i (some v)) H:=by
 have xI:∀b,Cln eC env Z b->Cln eC (env.set i (some (.sh d))) (Z.set i (some v)) b:=λb ⟨h1,h2⟩=> ⟨h1,λj t e=>by
  obtain⟨q,t⟩:=iD t;rw[Gak q] at e;exact h2 j t e⟩
 refine⟨E.same,by simp[E.len],E.bad,λj dj e=> ?_,λj dj e=> ?_,λj dj e=> ?_,λj k b t1 t2 e1 e2=> ?_⟩
 .rcases eG e with⟨q,e⟩| ⟨q,e⟩
  .cases e;subst q;have hi:i<env.length:=by have:=(Gam.mp e);simpa using this.1
   exact⟨v,cY (by rw[<-E.len];exact hi),r.imp xI⟩
  .obtain⟨w,h1,h2⟩:=E.sh j dj e;exact⟨w,by rw[Gak q];exact h1,h2.imp xI⟩
 .have e' :i≠j/\(env[j]? =some (some (.own dj))\/env[j]? =some (some (.lok dj))):=by
   rcases e with e|e
   .rcases eG e with⟨q,e⟩| ⟨q,e⟩
    .cases e
    .exact⟨q,.inl e⟩
   .rcases eG e with⟨q,e⟩| ⟨q,e⟩
    .cases e
    .exact⟨q,.inr e⟩
  obtain⟨b,h1,h2,h3,h4,h5,h6⟩:=E.ow j dj e'.2;exact⟨b,by rw[Gak e'.1];exact h1,h2,h3,h4,h5,h6.imp xI⟩
 .rcases eG e with⟨q,e⟩| ⟨q,e⟩
  .cases e
  .obtain⟨b,h1,hw,h2,h3⟩:=E.bo j dj e;exact⟨b,by rw[Gak q];exact h1,hw,h2,h3.imp xI⟩
 .obtain⟨q1,zt⟩:=iD t1.top;obtain⟨q2,t2⟩:=iD t2;rw[Gak q1] at e1 t1;rw[Gak q2] at e2;exact E.dj j k b t1 t2 e1 e2
theorem Stp.uk:Stp env Z H (env.set i (some (.sh d))) (Z.set i (some v)) H:=⟨λ_ _ e _=>e,λb ⟨j,h,e⟩=>by
 have h' :bH (env.set i (some (.sh d)))[j]? :=h.ol.top;obtain⟨q,_⟩:=iD h';rw[Gak q] at h e;exact .inl ⟨j,h,e⟩,λj h=>by
 obtain⟨q,_⟩:=iD h.top;rw[Gak q,Gak q];exact⟨rfl,rfl⟩⟩
theorem iX(h:bH (env.set i (some (.own d)))[j]?)(hi:i<env.length):i=j\/(i≠j/\bH env[j]?):=by
 by_cases q:i=j
 .exact .inl q
 .rw[Gak q] at h;exact .inr ⟨q,h⟩
theorem ay.GP(E:ay K H0 eC env Z H)(hi:i<env.length)(n0:H0 a=none)(nb:¬eC a)(w:Wr H' a)(t:d.top=true)(s:cF H0 H')(bd:∀b,eC b->H' b≠none)
  (ne:∀j b,j≠i->bH env[j]? ->Z[j]? =some (some (.ref b))->b≠a/\H' b=H b)
  (inn:Inn K (Cln eC (env.set i (some (.own d))) (Z.set i (some (.ref a)))) H' d (.ref a))
  (xI:∀b,Cln eC env Z b->H b≠none->Cln eC (env.set i (some (.own d))) (Z.set i (some (.ref a))) b)
  (j6:jN (Cln eC env Z) H H'):
  ay K H0 eC (env.set i (some (.own d))) (Z.set i (some (.ref a))) H' :=by
 have keep:∀{j:Nat} {b:Addr} {dj:D},j≠i->bH env[j]? ->Z[j]? =some (some (.ref b))->Inn K (Cln eC env Z) H dj (.ref b)->Inn K (Cln eC (env.set i (some (.own d))) (Z.set i (some (.ref a)))) H' dj (.ref b):=λ{j b dj} hj tj ej h=>
  h.gen j6 xI λb' eb _ o e=>by cases eb;rw[(ne j b hj tj ej).2];exact e
 refine⟨s,by simp[E.len],bd,λj dj e=> ?_,λj dj e=> ?_,λj dj e=> ?_,λj k b t1 t2 e1 e2=> ?_⟩
 .rcases eG e with⟨q,e⟩| ⟨q,e⟩
  .cases e
  .obtain⟨u,h1,h2⟩:=E.sh j dj e;exact⟨u,by rw[Gak q];exact h1,h2.gen j6 xI⟩
 .have e' :(i=j/\dj=d)\/(i≠j/\(env[j]? =some (some (.own dj))\/env[j]? =some (some (.lok dj)))):=by
   rcases e with e|e
   .rcases eG e with⟨q,e⟩| ⟨q,e⟩
    .cases e;exact .inl ⟨q,rfl⟩
    .exact .inr ⟨q,.inl e⟩
   .rcases eG e with⟨q,e⟩| ⟨q,e⟩
    .cases e
    .exact .inr ⟨q,.inr e⟩
  rcases e' with⟨q,rfl⟩| ⟨q,e'⟩
  .subst q;exact⟨a,cY (by rw[<-E.len];exact hi),n0,nb,w,t,inn⟩
  .obtain⟨b,h1,h2,h3,h4,h5,h6⟩:=E.ow j dj e';have tj:bH env[j]? :=by rcases e' with e' |e' <;>rw[e']<;>trivial
   refine⟨b,by rw[Gak q];exact h1,h2,h3, ?_,h5,keep (Ne.symm q) tj h1 h6⟩;unfold Wr;rw[(ne j b (Ne.symm q) tj h1).2];exact h4
 .rcases eG e with⟨q,e⟩| ⟨q,e⟩
  .cases e
  .obtain⟨b,h1,hw,h2,h3⟩:=E.bo j dj e;have tj:bH env[j]? :=by rw[e];trivial
   refine⟨b,by rw[Gak q];exact h1, ?_,h2,keep (Ne.symm q) tj h1 h3⟩;unfold Wr;rw[(ne j b (Ne.symm q) tj h1).2];exact hw
 .rcases iX t1.top hi with q1| ⟨q1,zt⟩
  .rcases iX t2 hi with q2| ⟨q2,Rz⟩
   .rw[<-q1,<-q2]
   .subst q1;rw[cY (by rw[<-E.len];exact hi)] at e1;cases e1;rw[Gak q2] at e2;exact absurd rfl (ne k a (Ne.symm q2) Rz e2).1
  .rcases iX t2 hi with q2| ⟨q2,Rz⟩
   .subst q2;rw[cY (by rw[<-E.len];exact hi)] at e2;cases e2;rw[Gak q1] at e1;exact absurd rfl (ne j a (Ne.symm q1) zt e1).1
   .rw[Gak q1] at e1 t1;rw[Gak q2] at e2;exact E.dj j k b t1 Rz e1 e2
theorem A8(hi:i<env.length)(hs:env.length=Z.length){b:Addr}(h:Cln eC env Z b)(hb:b≠a):Cln eC (env.set i (some (.own d))) (Z.set i (some (.ref a))) b:=⟨h.1,λj t e=>by
 rcases iX t hi with q| ⟨q,t⟩
 .subst q;rw[cY (by rw[<-hs];exact hi)] at e;cases e;exact hb rfl
 .rw[Gak q] at e;exact h.2 j t e⟩
theorem ay.qX(E:ay K H0 eC env Z H)(s:cF H H')(hi:i<env.length)(n:H a=none)(w:Wr H' a)(t:d.top=true)(S6:Inn K (λb=>Cln eC env Z b/\b≠a) H' d (.ref a)):
  ay K H0 eC (env.set i (some (.own d))) (Z.set i (some (.ref a))) H' :=by
 have xI:∀b,Cln eC env Z b->b≠a->Cln eC (env.set i (some (.own d))) (Z.set i (some (.ref a))) b:=λb h hb=>A8 hi E.len h hb;have cln' :∀b,Cln eC env Z b->H b≠none->Cln eC (env.set i (some (.own d))) (Z.set i (some (.ref a))) b:=λb h hb=>xI b h λz=>hb (z▸n);refine E.GP (H' :=H') hi (E.same.free n) (λb=>E.bad a b n) w t (E.same.trans s) (λb h e=>E.bad b h (s.free e)) (λj b hj tj ej=> ?_) (S6.imp λb h=>xI b h.1 h.2) cln' (.of_same s);have hb:=E.nU tj ej;refine⟨λz=>hb (z▸n), ?_⟩;cases q:H b with
 |none=>exact absurd q hb
 |some o=>exact s b o q
theorem Stp.qX(s:cF H H')(hi:i<env.length)(hs:env.length=Z.length)(n:H a=none):Stp env Z H (env.set i (some (.own d))) (Z.set i (some (.ref a))) H' :=⟨λb o e _=>s b o e,λb ⟨j,h,e⟩=>by
 by_cases q:i=j
 .subst q;rw[cY (by rw[<-hs];exact hi)] at e;cases e;exact .inr n
 .rw[Gak q] at h e;exact .inl ⟨j,h,e⟩,λj h=>by
 by_cases q:i=j
 .subst q;rw[cY hi] at h;exact h.elim
 .rw[Gak q,Gak q];exact⟨rfl,rfl⟩⟩
theorem ay.change{d' :D}{o:HO}(E:ay K H0 eC env Z H)(e:env[i]? =some (some (.own d)))(ea:Z[i]? =some (some (.ref a)))(wo:isW o)(t:d'.top=true)
  (inn:Inn K (Cln eC env Z) (upd H a o) d' (.ref a)):ay K H0 eC (env.set i (some (.own d'))) Z (upd H a o)/\Stp env Z H (env.set i (some (.own d'))) Z (upd H a o):=by
 have hi:i<env.length:=(Gam.mp e).1;obtain⟨a',h1,h2,h3,h4,h5,h6⟩:=E.ow i d (.inl e);rw[ea] at h1;cases h1
 have hZ:Z.set i (some (.ref a))=Z:=set_same ea;have xA:∀j,bH (env.set i (some (.own d')))[j]? ↔bH env[j]? :=λj=>by
  by_cases q:i=j
  .subst q;rw[cY hi,e];exact⟨λ_=>trivial,λ_=>trivial⟩
  .rw[Gak q]
 have clnE:∀b,Cln eC env Z b->Cln eC (env.set i (some (.own d'))) Z b:=λb h=> ⟨h.1,λj tj ej=>h.2 j ((xA j).mp tj) ej⟩;have ca:∀b,Cln eC env Z b->b≠a:=λb h z=>by subst z;exact h.2 i (by rw[e];trivial) ea
 have j6:jN (Cln eC env Z) H (upd H a o):=λb x hb q=>by
  have:b≠a:=by
   rintro rfl;rcases q with q|q
   .exact ca b q rfl
   .obtain⟨y,hy,wy⟩:=h4;rw[hb] at hy;cases hy
    cases x<;>simp[isT] at q<;>exact wy
  rw[aE this];exact hb
 have keepA:∀b x,H b=some x->b≠a->(upd H a o) b=some x:=λb x hb hn=>by rw[aE hn];exact hb
 refine⟨?_,⟨λb x hb n=>keepA b x hb λz=>n ⟨i,by rw[e];trivial,by rw[z];exact ea⟩,λb ⟨j,h,ej⟩=> .inl ?_,λj h=> ?_⟩⟩
 .have:=E.GP (H' :=upd H a o) (a:=a) (d:=d') hi h2 h3 ⟨o,b9,wo⟩ t (λb x hb=>keepA b x (E.same b x hb) λz=>by rw[z,h2] at hb;cases hb)
   (λb hb z=>by
    by_cases q:b=a
    .subst q;rw[b9] at z;cases z
    .rw[aE q] at z;exact E.bad b hb z)
   (λj b hj tj ej=>by
    have:b≠a:=by rintro rfl;exact hj (E.dj i j b (by rw[e];trivial) tj ea ej).symm
    exact⟨this,by rw[aE this]⟩)
   (by rw[hZ];exact inn.imp clnE) (λb h _=>by rw[hZ];exact clnE b h) j6
  rw[hZ] at this;exact this
 .by_cases q:i=j
  .subst q;exact⟨i,by rw[e];trivial,ej⟩
  .rw[Gak q] at h;exact⟨j,h,ej⟩
 .by_cases q:i=j
  .subst q;rw[cY hi] at h;exact h.elim
  .rw[Gak q];exact⟨rfl,rfl⟩
end
section
variable{X:Cx}{e a b c:Expr}{f g h:DE}{t u:DT}{pos:Pos}{st:Stmt}{rest:List Stmt}{s1 s2:DS}
theorem kW:tF X [] aL:=by
 refine J6.aF ?_;rintro D Z H ⟨H0,eC,env,o,E,e,k⟩;cases e;exact k Z H E .refl
theorem iY(h1:PSd X st s1)(h2:tF X rest s2):tF X (st::rest) (ai s1 s2):=by
 refine(Gf h1 h2).aF ?_;rintro D Z H ⟨H0,eC,env,o,E,e,k⟩;obtain⟨o1,h1,e⟩:=eA e;refine⟨H0,eC,env,o1,E,h1, ?_⟩;cases o1 with
 |nx e1=>
  intro Z1 H1 E1 p1;refine⟨H0,eC,e1,o,E1,e, ?_⟩;cases o with
  |nx e2=>exactλZ2 H2 E2 p2=>k Z2 H2 E2 (p1.trans p2)
  |bk e2=>exactλZ2 H2 E2 p2=>k Z2 H2 E2 (p1.trans p2)
  |ct e2=>exactλZ2 H2 E2 p2=>k Z2 H2 E2 (p1.trans p2)
  |ret d=>exact k
 |bk e1=>cases e;exact k
 |ct e1=>cases e;exact k
 |ret d=>cases e;exact k
theorem kX(h1:PSd X st s1):tF X [st] s1:=J7 h1
theorem GQ:PSd X (.Break pos) bkS:=by
 refine Gg.aF ?_;rintro D Z H ⟨H0,eC,env,o,E,e,k⟩;cases e;exact k Z H E .refl
variable{d:D}{H0 H' :Hp}
theorem JK{K:aq}{F:Addr->Prop}{v:V}(i:Inn K F H' d v)(hd:d.imm=true):ug K H0 H' d v:=by
 refine⟨λt=> ?_,(i.imm hd).inn⟩;cases d<;>simp[D.top] at t<;>simp[D.imm] at hd
variable{H:Hp}
theorem OZ{Y:Type}{K:aq}{F F' :Addr->Prop}{eD:List (Y×D)}{ws:List (Y×V)}(r:b8 K F H eD ws)(h:aC (eD.map (·.2))=true):b8 K F' H eD ws:=
 ⟨r.1,λi p q e1 e2=>(r.2 i p q e1 e2).imm (vD h i p.2 (by rw[Gaw,e1];rfl))⟩
theorem De{K:aq}{F:Addr->Prop}{a:Addr}(i:Inn K F H' d (.ref a))(hd:d.pP=true)(n:H0 a=none)(w:Wr H' a):ug K H0 H' d (.ref a):=by
 refine⟨λ_=> ⟨a,rfl,n,w⟩, ?_⟩;cases i with
 |tup h r=>exact(Inn.imm (.tup h r) (by exact hd)).inn
 |scr h=>exact .scr h
 |exc h r=>exact(Inn.imm (.exc h r) (by exact hd)).inn
 |lst h r=>exact .lst h (r.imm hd)
 |dK h r=>exact .dK h (OZ r hd)
 |dT h r=>exact .dT h (OZ r hd)
theorem kY(he:PEd X e f):PSd X (.Return (some e) pos) (retS f):=by
 refine(LK he).aF ?_;rintro D Z H ⟨H0,eC,env,o,E,e,k⟩;obtain⟨r,hr,e⟩:=eA e;split at e
 .rename_i ok;cases e;refine⟨H0,eC,env,r,E,hr,λv H1 s1 R=>k v H1 (E.same.trans s1) ?_⟩;obtain⟨kd,d⟩:=r;cases kd with
  |c=>exact JK R.inn ok
  |tn=>
   have ii:=R.inn;obtain⟨a,rfl,n,w,t,i⟩:=R;exact De ii ok (E.same.free n) w
  |to=>
   have ii:=R.inn;obtain⟨a,rfl,n,w,t,i⟩:=R;exact De ii ok n w
  |tb=>exact absurd (show false=true from ok) Gal
 .cases e
theorem pV{xs ys:List Stmt}(hc:PTd X c t)(ha:tF X xs s1)(hb:tF X ys s2):PSd X (.If c xs ys pos) (ifS t s1 s2):=by
 refine(NO hc ha hb).aF ?_;rintro D Z H ⟨H0,eC,env,o,E,e,k⟩;obtain⟨x,hx,e⟩:=eA e;refine⟨H0,eC,env,x,E,hx,λH1 s1=> ?_⟩;have st:Stp env Z H env Z H1:= .of_same s1;have fin:∀{s:DS},s env=some o->tS X s D Z H1:=λ{s} e=> ⟨H0,eC,env,o,E.mono s1,e,by
  cases o with
  |nx e2=>exactλZ2 H2 E2 p2=>k Z2 H2 E2 (st.trans p2)
  |bk e2=>exactλZ2 H2 E2 p2=>k Z2 H2 E2 (st.trans p2)
  |ct e2=>exactλZ2 H2 E2 p2=>k Z2 H2 E2 (st.trans p2)
  |ret d=>exact k⟩
 dsimp only;cases x with
 |true=>rw[Gah rfl];rw[Gah rfl] at e;exact fin e
 |false=>rw[Gag Gal];rw[Gag Gal] at e;exact fin e
variable{x:Str}{i:Nat}{Z:St}{env:Env}
theorem GR{X:Cx}{eC:Addr->Prop}(E:ay X.K H0 eC env Z H)(hl:Z.length=X.N.length)(hi:X.N[i]? =some x):i<env.length:=by
 rw[E.len,hl];exact(Gam.mp hi).1
theorem kZ{pos' :Pos}(hN:X.N.Nodup)(hi:X.N[i]? =some x)(hx:Loc X.env.scope x)(he:PEd X e f)(hs:autoParam (swapsWith e (some (.Name x pos')) pos.line X.env=pure false) Za1._auto_1)
  (hf:autoParam (X.fn x=true\/X.env.scope.names.lookup x=some .local) Za3._auto_1):PSd X (.Assign [.Name x pos'] e pos) (ar i f):=by
 intro e8 s Z H D I hw;have hl:=I.len;refine(LN hN hi hx he hs hf) e8 s Z H D I ?_;obtain⟨H0,eC,env,o,E,e,k⟩:=hw;obtain⟨r,hr,e⟩:=eA e;obtain⟨e',yh,rfl⟩:=Gas.mp e;have hie:i<env.length:=GR E hl hi;refine⟨H0,eC,env,r,E,hr,λv H1 s1 R=> ?_⟩;have st:Stp env Z H env Z H1:= .of_same s1;obtain⟨kd,d⟩:=r;unfold stored at yh;cases kd with
 |c=>
  cases yh;exact k _ H1 ((E.mono s1).uk R) (st.trans .uk)
 |tn=>
  cases yh;obtain⟨a,rfl,n,w,t,i⟩:=R;exact k _ H1 (E.qX s1 hie n w t i) (.qX s1 hie E.len n)
 |to=>cases yh
 |tb=>cases yh
def GU(K:aq)(F N:Addr->Prop)(J:It)(ds:List D)(H1:Hp):Prop:=
 ∀Hi:Hp,(∀b o,H1 b=some o->N b->Hi b=some o)->(∀(i:Nat) d,ds[i]? =some d->J.go i Hi/\∀x H2,J.yld i Hi x H2->cF Hi H2/\Rep K F H2 d x)/\J.stop ds.length Hi
def tI(X:Cx)(src:DI):TI:=λZ H R=>∃H0 eC env ds,ay X.K H0 eC env Z H/\src env=some ds/\∀J H',cF H H' ->GU X.K (λb=>Cln eC env Z b/\H' b≠none) (λb=>¬Ow env Z b) J ds H' ->R J H'
abbrev PId(X:Cx)(tg iter:Expr)(src:DI):Prop:=PI X tg iter (tI X src)
theorem _root_.L2.PI.aF{tg iter:Expr}{w w' :TI}(h:PI X tg iter w')(i:∀Z H R,w Z H R->w' Z H R):PI X tg iter w:=λe8 s Z H R I q=>h e8 s Z H R I (i Z H R q)
theorem ay.lock{K:aq}{eC:Addr->Prop}(E:ay K H0 eC env Z H)(l:Option Nat):ay K H0 eC (bc l env) Z H/\(∀b,Ow (bc l env) Z b->Ow env Z b)/\∀i:Nat,bH (bc l env)[i]? ↔bH env[i]? :=by
 cases l with
 |none=>exact⟨E,λ_ h=>h,λ_=>Iff.rfl⟩
 |some j=>
  unfold bc;dsimp only;split
  .rename_i d q;have hj:j<env.length:=(Gam.mp q).1;have xA:∀i,bH (env.set j (some (.lok d)))[i]? ↔bH env[i]? :=λi=>by
    by_cases z:j=i
    .subst z;rw[cY hj,q];exact⟨λ_=>trivial,λ_=>trivial⟩
    .rw[Gak z]
   have xI:∀b,Cln eC env Z b->Cln eC (env.set j (some (.lok d))) Z b:=λb h=> ⟨h.1,λi t e=>h.2 i ((xA i).mp t) e⟩;refine⟨⟨E.same,by simpa using E.len,E.bad,λi di e=> ?_,λi di e=> ?_,λi di e=> ?_,λi k b t1 t2 e1 e2=> ?_⟩,λb ⟨i,h,e⟩=> ?_,xA⟩
   .rcases eG e with⟨z,e⟩| ⟨z,e⟩
    .cases e
    .obtain⟨v,h1,h2⟩:=E.sh i di e;exact⟨v,h1,h2.imp xI⟩
   .have e' :env[i]? =some (some (.own di))\/env[i]? =some (some (.lok di)):=by
     rcases e with e|e
     .rcases eG e with⟨z,e⟩| ⟨z,e⟩
      .cases e
      .exact .inl e
     .rcases eG e with⟨z,e⟩| ⟨z,e⟩
      .cases e;subst z;exact .inl q
      .exact .inr e
    obtain⟨b,h1,h2,h3,h4,h5,h6⟩:=E.ow i di e';exact⟨b,h1,h2,h3,h4,h5,h6.imp xI⟩
   .rcases eG e with⟨z,e⟩| ⟨z,e⟩
    .cases e
    .obtain⟨b,h1,hw,h2,h3⟩:=E.bo i di e;exact⟨b,h1,hw,h2,h3.imp xI⟩
   .have zt :EU env[i]? :=by
     by_cases z:j=i
     .subst z;rw[q];trivial
     .rw[Gak z] at t1;exact t1
    exact E.dj i k b zt ((xA k).mp t2) e1 e2
   .by_cases z:j=i
    .subst z;rw[cY hj] at h;exact h.elim
    .rw[Gak z] at h;exact⟨i,h,e⟩
  .exact⟨E,λ_ h=>h,λ_=>Iff.rfl⟩
theorem ay.free{K:aq}{eC:Addr->Prop}(E:ay K H0 eC env Z H)(l:Option Nat):ay K H0 eC (iC l env) Z H:=by
 cases l with
 |none=>exact E
 |some j=>
  unfold iC;dsimp only;split
  .rename_i d q;have hj:j<env.length:=(Gam.mp q).1;have xA:∀i,bH (env.set j (some (.own d)))[i]? ↔bH env[i]? :=λi=>by
    by_cases z:j=i
    .subst z;rw[cY hj,q];exact⟨λ_=>trivial,λ_=>trivial⟩
    .rw[Gak z]
   have xI:∀b,Cln eC env Z b->Cln eC (env.set j (some (.own d))) Z b:=λb h=> ⟨h.1,λi t e=>h.2 i ((xA i).mp t) e⟩;refine⟨E.same,by simpa using E.len,E.bad,λi di e=> ?_,λi di e=> ?_,λi di e=> ?_,λi k b t1 t2 e1 e2=> ?_⟩
   .rcases eG e with⟨z,e⟩| ⟨z,e⟩
    .cases e
    .obtain⟨v,h1,h2⟩:=E.sh i di e;exact⟨v,h1,h2.imp xI⟩
   .have e' :env[i]? =some (some (.own di))\/env[i]? =some (some (.lok di)):=by
     rcases e with e|e
     .rcases eG e with⟨z,e⟩| ⟨z,e⟩
      .cases e;subst z;exact .inr q
      .exact .inl e
     .rcases eG e with⟨z,e⟩| ⟨z,e⟩
      .cases e
      .exact .inr e
    obtain⟨b,h1,h2,h3,h4,h5,h6⟩:=E.ow i di e';exact⟨b,h1,h2,h3,h4,h5,h6.imp xI⟩
   .rcases eG e with⟨z,e⟩| ⟨z,e⟩
    .cases e
    .obtain⟨b,h1,hw,h2,h3⟩:=E.bo i di e;exact⟨b,h1,hw,h2,h3.imp xI⟩
   .have zt :EU env[i]? :=by
     by_cases z:j=i
     .subst z;rw[q];trivial
     .rw[Gak z] at t1;exact t1
    exact E.dj i k b zt ((xA k).mp t2) e1 e2
  .exact E
end
section
variable{X:Cx}{e a b c:Expr}{f g h:DE}{t u:DT}{pos:Pos}{st:Stmt}{rest:List Stmt}{s1 s2:DS}
variable{i:Nat}{l:Option Nat}{env:Env}
theorem A9(h:∀j,l=some j->j≠i):(bc l env)[i]? =env[i]? :=by
 unfold bc;split
 .rfl
 .rename_i j;split
  .rw[Gak (h j rfl)]
  .rfl
variable{H:Hp}{Z:St}
theorem Stp.loop{xr:Env}{ZN:St}{HN:Hp}(p:Stp (bc l env) Z H xr ZN HN)(lo:∀b,Ow (bc l env) Z b->Ow env Z b):Stp env Z H (if pR l env then iC l xr else xr) ZN HN:=by
 have same:pR l env=false->bc l env=env:=λh=>by
  unfold pR at h;unfold bc;split at h
  .rfl
  .split at h
   .cases h
   .rfl
 cases ho:pR l env with
 |false=>
  rw[Gag Gal];rw[same ho] at p;exact p
 |true=>
  rw[Gah rfl];unfold pR at ho;split at ho
  .cases ho
  .rename_i j;split at ho
   .rename_i d q;have hj:j<env.length:=(Gam.mp q).1;have lockj:(bc (some j) env)[j]? =some (some (.lok d)):=by unfold bc;simp only[q];exact cY hj
    have other:∀i,j≠i->(bc (some j) env)[i]? =env[i]? :=λi hi=>A9 λk e=>by cases e;exact hi
    refine⟨λb o e n=>p.keep b o e λz=>n (lo b z),λb ⟨i,h,e⟩=> ?_,λi h=> ?_⟩
    .by_cases z:j=i
     .subst z;unfold iC at h;dsimp only at h;split at h
      .rename_i d' q';obtain⟨h1,h2⟩:=p.lk j (by rw[q'];trivial);rw[h2] at e;exact .inl ⟨j,by rw[q];trivial,e⟩
      .rcases p.ow b ⟨j,h,e⟩ with w|w
       .exact .inl (lo b w)
       .exact .inr w
     .have h' :isO xr[i]? :=by
       unfold iC at h;dsimp only at h;split at h
       .rw[Gak z] at h;exact h
       .exact h
      rcases p.ow b ⟨i,h',e⟩ with w|w
      .exact .inl (lo b w)
      .exact .inr w
    .by_cases z:j=i
     .subst z;unfold iC at h⊢;dsimp only at h⊢;split at h
      .rename_i d' q';have hj' :j<xr.length:=(Gam.mp q').1;rw[cY hj'] at h;exact h.elim
      .rename_i q';obtain⟨h1,_⟩:=p.lk j h;rw[lockj] at h1;exact absurd h1 (q' d)
     .have hN:(iC (some j) xr)[i]? =xr[i]? :=by
       unfold iC;dsimp only;split
       .rw[Gak z]
       .rfl
      rw[hN] at h⊢;obtain⟨h1,h2⟩:=p.lk i h;rw[other i z] at h1;exact⟨h1,h2⟩
   .cases ho
theorem um{eC:Addr->Prop}{eR :Env}{Z' :St}{H' :Hp}(p:Stp env Z H eR Z' H'){b:Addr}(h:Cln eC env Z b)(hb:H b≠none):Cln eC eR Z' b:=⟨h.1,λi t e=>by
 rcases uf t with o|o
 .rcases p.ow b ⟨i,o,e⟩ with⟨j,w,ej⟩|w
  .exact h.2 j w.ol.top ej
  .exact hb w
 .obtain⟨h1,h2⟩:=p.lk i o;rw[h1] at t;rw[h2] at e;exact h.2 i t e⟩
variable{sb:DS}{gd:DG}{body:List Stmt}{tg:Expr}
theorem l4{iter:Expr}{src:DI}(hp:PassesOwn (model X.prog X.w) X.A X.env X.xe)(hc:X.calm=true)(hi:PId X tg iter src)(hg:PGd X tg gd)(hb:tF X body sb)
  (hs:∀x,foldedSetIterable iter X.env x=pure x:=by intro _;rfl):PSd X (.For tg iter body [] pos) (fD l src gd sb):=by
 refine(LP hp hc hi hg hb hs).aF ?_;rintro D Z H ⟨H0,eC,env,o,E,e,k⟩;obtain⟨ds,yb,e⟩:=eA e;obtain⟨o1,RZ,rfl⟩:=Gas.mp e;obtain⟨EL,lo,_⟩:=E.lock l;refine⟨H0,eC,bc l env,ds,EL,yb,λJ H1 sH it=> ?_⟩;have E1:=EL.mono sH;have st1:Stp env Z H env Z H1:= .of_same sH;have nxOk:∀xr ZN HN,o1= .nx xr->ay X.K H0 eC xr ZN HN->Stp (bc l env) Z H1 xr ZN HN->D.nx ZN HN:=λxr ZN HN eo EN pN=>by
  subst eo;refine k ZN HN ?_ (st1.trans (pN.loop lo));show ay X.K H0 eC (if pR l env then iC l xr else xr) ZN HN;split
  .exact EN.free l
  .exact EN
 refine⟨λi m Z' H' =>m=ds.length -i/\i<=ds.length/\∃eK,ay X.K H0 eC eK Z' H' /\Stp (bc l env) Z H1 eK Z' H' /\forL gd sb (ds.drop i) eK=some o1,
  ⟨ds.length,by simp,Gbk _,_,E1,.refl,by simpa using RZ⟩, ?_⟩
 rintro i m Z' H' ⟨rfl,hle,eK,Ei,pi,ei⟩;obtain⟨items,stop⟩:=it H' λb o hb n=>pi.keep b o hb n;by_cases hX:i<ds.length
 .obtain⟨go,yld⟩:=items i ds[i] (by simp[hX]);refine .inr ⟨go,λZ2 H2=>(ds.length -(i+1))=ds.length -(i+1)/\i+1<=ds.length/\∃eK,ay X.K H0 eC eK Z2 H2/\Stp (bc l env) Z H1 eK Z2 H2/\forL gd sb (ds.drop (i+1)) eK=some o1,λZ2 H2 q=> ⟨_,by lia,q⟩,λx H2 y=> ?_⟩;obtain⟨s2,rep⟩:=yld x H2 y;have hd:ds.drop i=ds[i]::ds.drop (i+1):=Gdb hX;rw[hd] at ei;unfold forL at ei;obtain⟨e2,yP,ei⟩:=eA ei;obtain⟨o2,Sb,ei⟩:=eA ei;refine⟨H0,eC,eK,ds[i],e2,Ei.mono s2,yP,rep.imp λb q=>um pi q.1 q.2,λZ3 H3 E3 p3=> ?_⟩;have p3' :Stp (bc l env) Z H1 e2 Z3 H3:=(pi.trans (.of_same s2)).trans p3;refine⟨H0,eC,e2,o2,E3,Sb, ?_⟩;cases o2 with
  |nx e4=>exactλZ4 H4 E4 p4=> ⟨rfl,hX,e4,E4,p3'.trans p4,ei⟩
  |ct e4=>exactλZ4 H4 E4 p4=> ⟨rfl,hX,e4,E4,p3'.trans p4,ei⟩
  |bk e4=>
   cases ei
   exactλZ4 H4 E4 p4=>nxOk e4 Z4 H4 rfl E4 (p3'.trans p4)
  |ret d=>
   cases ei;exact k
 .have hi:i=ds.length:=by lia
  subst hi;rw[List.drop_length] at ei;cases ei;exact .inl ⟨stop,nxOk eK Z' H' rfl Ei pi⟩
theorem GW(hp:PassesOwn (model X.prog X.w) X.A X.env X.xe)(hc:PTd X c t)(hb:tF X body sb):PSd X (.While c body [] pos) (vv t sb):=by
 refine(Gi hp hc hb).aF ?_;rintro D Z H ⟨H0,eC,env,o,E,e,k⟩;refine⟨λm Z' H' =>∃eK,ay X.K H0 eC eK Z' H' /\Stp env Z H eK Z' H' /\gJ t sb m eK=some o,⟨100000,env,E,.refl,e⟩, ?_⟩;rintro m Z' H' ⟨eK,Ei,pi,ei⟩;cases m with
 |zero=>cases ei
 |succ m=>
  unfold gJ at ei;obtain⟨bb,Sa,ei⟩:=eA ei;refine⟨H0,eC,eK,bb,Ei,Sa,λH1 s1=> ?_⟩;have pi1:Stp env Z H eK Z' H1:=pi.trans (.of_same s1);dsimp only;cases bb with
  |true=>
   rw[Gah rfl];rw[Gah rfl] at ei;obtain⟨o2,Sb,ei⟩:=eA ei;refine⟨λZ2 H2=>∃eK,ay X.K H0 eC eK Z2 H2/\Stp env Z H eK Z2 H2/\gJ t sb m eK=some o,λZ2 H2 q=> ⟨m,by lia,q⟩,H0,eC,eK,o2,Ei.mono s1,Sb, ?_⟩;cases o2 with
   |nx e4=>exactλZ4 H4 E4 p4=> ⟨e4,E4,pi1.trans p4,ei⟩
   |ct e4=>exactλZ4 H4 E4 p4=> ⟨e4,E4,pi1.trans p4,ei⟩
   |bk e4=>cases ei;exactλZ4 H4 E4 p4=>k Z4 H4 E4 (pi1.trans p4)
   |ret d=>cases ei;exact k
  |false=>
   rw[Gag Gal];rw[Gag Gal] at ei;cases ei;exact k Z' H1 (Ei.mono s1) pi1
variable{H0:Hp}
theorem ay.iE{K:aq}{eC:Addr->Prop}(E:ay K H0 eC env Z H){b:Addr}{o:HO}(h:Ow env Z b)(hb:H b=some o):¬isT o:=by
 intro q;obtain⟨i,h1,h2⟩:=h;obtain⟨y,hy,wy⟩:=E.Lm h1.ol.top h2;rw[hb] at hy;cases hy
 cases o<;>simp[isT] at q<;>exact wy
variable{v:V}{d:D}
theorem ay.iq{K:aq}{eC:Addr->Prop}{Hi:Hp}(E:ay K H0 eC env Z H)(keep:∀b o,H b=some o->¬Ow env Z b->Hi b=some o)(r:Rep K (Cln eC env Z) H d v):
  Rep K (λb=>Cln eC env Z b/\H b≠none) Hi d v:=
 r.gen (λb o hb q=>keep b o hb (by
  rcases q with q|q
  .exactλ⟨i,h1,h2⟩=>q.2 i h1.ol.top h2
  .exactλw=>E.iE w hb q)) λb q hb=> ⟨q,hb⟩
def QN(K:aq)(tl:TE):TI:=λZ H R=>tl Z H λx H1=>∃a,x= .ref a/\(((∃xs,SqL K H1 a xs)/\R (Itl K a) H1)\/((∃xs,SqT K H1 a xs)/\R (Itt K a) H1))
theorem Mo{l:Expr}{tl:TE}(hl:PE X l tl):PI X tg l (QN X.K tl):=by
 intro e8 s Z H R I h;refine thn (hl e8 s Z H _ I h) λv s1 ⟨x,H1,I1,r1,q1⟩=> ?_;obtain⟨a,e,q1⟩:=q1;subst e;cases r1;have fp:∀b∈[s1.heap.objs.size],kB X e8 H1 b:=λb hb=>by
  have e:b=s1.heap.objs.size:=by simpa using hb
  subst e;exact I1.Ey (Gaq _) (I1.hok.fresh (Gaq _))
 rcases q1 with⟨⟨xs,hq⟩,q⟩| ⟨⟨xs,hq⟩,q⟩
 .obtain⟨its,rv,p,hz⟩:=I1.list hq;refine wpAny_pyIter_list p.isList ?_;exact⟨s1.heap.objs.size,[s1.heap.objs.size],_,_,H1,rfl,I1.kept (t' :=s1.toks) λb o e=>Gaj _ e,Ez a _,⟨_,GaD _ rfl,rfl,rfl⟩,fp,q⟩
 .obtain⟨its,rv,p,hz⟩:=I1.tuple hq;refine Gdk (show s1.heap.IsTuple a its.toArray from p) ?_;exact⟨s1.heap.objs.size,[s1.heap.objs.size],_,_,H1,rfl,I1.kept (t' :=s1.toks) λb o e=>Gaj _ e,BB a _,⟨_,GaD _ rfl,rfl,rfl⟩,fp,q⟩
variable{H1:Hp}
theorem qv{eC:Addr->Prop}{kd:Cls}(E:ay X.K H0 eC env Z H)(ht:d.top=true)(hk:kd≠ .to)(Rv:j9 X.K H0 eC env Z H H1 ⟨kd,d⟩ v):∀a,v= .ref a->¬Ow env Z a:=λa ea=>by
 cases kd with
 |c=>
  have Rv' :Rep X.K (Cln eC env Z) H1 d v:=Rv;have fin:∀b,Cln eC env Z b->¬Ow env Z b:=λb f ⟨i,h1,h2⟩=>f.2 i h1.ol.top h2;cases Rv' with
  |tup h l r=>simp[D.top] at ht
  |lst f h l r=>cases ea;exact fin _ f
  |dK f h l r=>cases ea;exact fin _ f
  |dT f h l r=>cases ea;exact fin _ f
  |non=>cases ea
  |bl b=>cases ea
  |int i=>cases ea
  |str x=>cases ea
  |scr h=>simp[D.top] at ht
  |exc _ _=>simp[D.top] at ht
 |tn=>
  obtain⟨a',e',n,_⟩:=Rv;rw[e'] at ea;cases ea
  exactλ⟨i,h1,h2⟩=>E.nU h1.ol.top h2 n
 |to=>exact absurd rfl hk
 |tb=>exact Rv.2 a ea ht
theorem p8(he:PEd X e f):PId X tg e (fT f):=by
 refine(Mo he).aF ?_;rintro Z H R ⟨H0,eC,env,ds,E,hf,k⟩;obtain⟨⟨kd,d⟩,hr,hf⟩:=eA hf;split at hf
 .cases hf
 rename_i hk;refine⟨H0,eC,env,_,E,hr,λv H1 s1 Rv=> ?_⟩;have ii:=Rv.inn;have E1:=E.mono s1;split at hf
 .rename_i xs hd;cases hf;have xx :d= .lst ds:=hd;subst xx;have hno:=qv E rfl hk Rv;cases ii with
  | @lst la lv _ h r=>
   refine⟨_,rfl,.inl ⟨⟨_,.inl h⟩,k _ H1 s1 λHi keep=> ?_⟩⟩;have hh:Rd Hi la (.lst lv):=by
    rcases h with h| ⟨o,h⟩
    .exact .inl (keep _ _ h (hno _ rfl))
    .exact .inr ⟨o,keep _ _ h (hno _ rfl)⟩
   refine⟨λi d hd=> ?_,⟨_,.inl hh,by rw[r.1];exact Gaq _⟩⟩;obtain⟨x,h1,h2⟩:=r.get hd;refine⟨⟨_,x,.inl hh,h1⟩,λy H2 ⟨e2,e3⟩=> ?_⟩;subst e2;refine⟨bu, ?_⟩;have:=e3 _ (.inl hh);rw[h1] at this;cases this
   exact E1.iq keep h2
 .rename_i xs hd;cases hf;have xx :d= .tup ds:=hd;subst xx;cases ii with
  | @tup la lv _ h r=>
   refine⟨_,rfl,.inr ⟨⟨_,SqT.of h⟩,k _ H1 s1 λHi keep=> ?_⟩⟩;have hh:Hi la=some (.tup lv):=keep _ _ h λw=>E1.iE w h trivial;refine⟨λi d hd=> ?_,⟨_,SqT.of hh,by rw[r.1];exact Gaq _⟩⟩;obtain⟨x,h1,h2⟩:=r.get hd;refine⟨⟨_,x,SqT.of hh,h1⟩,λy H2 ⟨e2,e3⟩=> ?_⟩;subst e2;refine⟨bu, ?_⟩;have:=e3 _ (SqT.of hh);rw[h1] at this;cases this
   exact E1.iq keep h2
 .rename_i ns hd;cases hf;have xx :d= .scr ns:=hd;subst xx;cases ii with
  | @scr la _ h=>
   refine⟨_,rfl,.inl ⟨⟨_,h.sq⟩,k _ H1 s1 λHi keep=> ?_⟩⟩;have hh:Scr X.K Hi la ns:=by
    rcases h with⟨o,h⟩|h
    .exact .inl ⟨o,keep _ _ h λw=>E1.iE w h trivial⟩
    .exact .inr h
   refine⟨λi d hd=> ?_,⟨_,hh.sq,by simp⟩⟩;rw[Gaw] at hd;cases q:ns[i]? with
   |none=>rw[q] at hd;cases hd
   |some n=>
    rw[q] at hd;cases hd
    refine⟨⟨_,.int n,hh.sq,by rw[Gaw,q];rfl⟩,λy H2 ⟨e2,e3⟩=> ?_⟩;subst e2;have:=e3 _ hh.sq;rw[Gaw,q] at this;cases this
    exact⟨bu,.int n⟩
 .cases hf
variable{n:Nat}
theorem kC{lo:Int}{F N:Addr->Prop}:GU X.K F N (Itr lo n) (aB lo n) H1:=λHi _=>by
 refine⟨λi d hd=> ?_,by show n<=(aB lo n).length;simp[aB]⟩;have hi:i<n:=by have:=(Gam.mp hd).1;simpa[aB] using this
 refine⟨hi,λx H2 ⟨e1,e2⟩=> ?_⟩;subst e1 e2;have:d= .int (lo+(i:Int)):=by
  unfold aB at hd;rw[Gaw,GdP hi] at hd;cases hd;rfl
 subst this;exact⟨bu,.int _⟩
theorem fi{i:Int}(h:aP i=true): -(2^62)<=i/\i<2^62:=by
 unfold aP at h;rw[Gan] at h;have h1:=Gao h.1;have h2:=Gao h.2;lia
variable{p:Pos}
theorem iu(hg:Gl X "range")(hm:X.mg "range"=none)(he:PEd X e f)(hs:autoParam (starEach [e] X.env=[(false,eval e X.env)]) Za1._auto_1):PId X tg (.Call (.Name "range" p) [e] [] pos) (cV f):=by
 refine(EA hg hm (bS he dO hs) hs).aF ?_;rintro Z H R ⟨H0,eC,env,ds,E,hf,k⟩;obtain⟨r,hr,hf⟩:=eA hf;split at hf
 .rename_i j hd;split at hf
  .rename_i hz;cases hf;refine⟨H0,eC,env,[r],E,by unfold a7 ae;rw[hr];rfl,λvs H1 s1 Rs=> ?_⟩;cases Rs with
   |cons R1 t=>
    cases t;have i:=R1.inn;rw[hd] at i;cases i;exact⟨j,rfl,(fi hz).1,(fi hz).2,k _ H1 s1 kC⟩
  .cases hf
 .cases hf
theorem uo(hg:Gl X "range")(hm:X.mg "range"=none)(ha:PEd X a f)(hb:PEd X b g)(hs:autoParam (starEach [a,b] X.env=[(false,eval a X.env),(false,eval b X.env)]) Za1._auto_1)(xi:autoParam (starEach [b] X.env=[(false,eval b X.env)]) Za1._auto_1):
  PId X tg (.Call (.Name "range" p) [a,b] [] pos) (vw f g):=by
 refine(EB hg hm (bS ha (bS hb dO xi) (by rw[hs,xi])) hs xi).aF ?_;rintro Z H R ⟨H0,eC,env,ds,E,hf,k⟩;obtain⟨r,hr,hf⟩:=eA hf;obtain⟨r',Rk,hf⟩:=eA hf;split at hf
 .rename_i i j hd xx;split at hf
  .rename_i hz;rw[Gan] at hz;cases hf;refine⟨H0,eC,env,[r,r'],E,by simp only[a7,ae,hr,Rk];rfl,λvs H1 s1 Rs=> ?_⟩;cases Rs with
   |cons R1 t=>
    cases t with
    |cons R2 t=>
     cases t;have i1:=R1.inn;rw[hd] at i1;cases i1;have i2:=R2.inn;rw[xx] at i2;cases i2;exact⟨i,j,rfl,⟨(fi hz.1).1,(fi hz.1).2,(fi hz.2).1,(fi hz.2).2⟩,k _ H1 s1 kC⟩
  .cases hf
 .cases hf
theorem aN{x:Str}(hN:X.N.Nodup)(hi:X.N[i]? =some x)(hx:Loc X.env.scope x)(hf:autoParam (X.fn x=true\/X.env.scope.names.lookup x=some .local) Za3._auto_1):PGd X (.Name x pos) (gN i):=by
 refine(J8 hN hi hx hf).aF ?_;rintro v Z H Q ⟨H0,eC,env,d,eR,E,hg,r,k⟩;cases hg;exact k _ H (E.uk r) .uk
def tGs(X:Cx)(is:List Nat):TGs:=λvs Z H Q=>∃H0 eC env ds eR,ay X.K H0 eC env Z H/\gNs is ds env=some eR /\aJ X.K (λb=>Cln eC env Z b/\H b≠none) H ds vs/\∀Z' H',ay X.K H0 eC eR Z' H' ->Stp env Z H eR Z' H' ->Q Z' H'
variable{es:List Expr}
theorem _root_.L2.PGs.aF{t t' :TGs}(h:PGs X es t')(i:∀v Z H Q,t v Z H Q->t' v Z H Q):PGs X es t:=λe8 s Z H v u Q I r q=>h e8 s Z H v u Q I r (i v Z H Q q)
theorem nX:PGs X [] (tGs X []):=by
 refine J9.aF ?_;rintro vs Z H Q ⟨H0,eC,env,ds,eR,E,hg,r,k⟩;cases ds with
 |nil=>cases hg;exact⟨r.cB,k Z H E .refl⟩
 |cons d ds=>cases hg
variable{is:List Nat}
theorem l6(h1:PGd X e (gN i))(h2:PGs X es (tGs X is))(hs:autoParam ((assignEach (e::es) X.env).map (·.2)=assign e X.env::(assignEach es X.env).map (·.2)) Za1._auto_1):PGs X (e::es) (tGs X (i::is)):=by
 refine(Gh h1 h2 hs).aF ?_;rintro vs Z H Q ⟨H0,eC,env,ds,eR,E,hg,r,k⟩;cases ds with
 |nil=>cases hg
 |cons d ds=>
  obtain⟨v,vr,rfl,r1,r2⟩:=r.cons_inv;refine⟨v,vr,rfl,H0,eC,env,d,_,E,rfl,r1.imp λ_ q=>q.1,λZ1 H1 E1 p1=> ?_⟩;refine⟨H0,eC,_,ds,eR,E1,hg,r2.gen (λb o hb q=>p1.keep b o hb (by
   rcases q with q|q
   .exactλ⟨j,w1,w2⟩=>q.1.2 j w1.ol.top w2
   .exactλw=>E.iE w hb q)) (λb q hb=> ⟨um p1 q.1 hb, ?_⟩),λZ2 H2 E2 p2=>k Z2 H2 E2 (p1.trans p2)⟩
  cases o:H b with
  |none=>exact absurd o hb
  |some x=>rw[p1.keep b x o λ⟨j,w1,w2⟩=>q.1.2 j w1.ol.top w2];simp
theorem Df:∀{is:List Nat} {ds:List D} {env eR :Env},gNs is ds env=some eR ->ds.length=is.length
 |[],[],_,_,_=>rfl
 |[],_::_,_,_,h=>by cases h
 |_::_,[],_,_,h=>by cases h
 |i::is,d::ds,env,eR,h=>by
  have:=Df (is:=is) (ds:=ds) h;simp[this]
theorem qY{j:Nat}(hc:X.calm=true)(h:PGs X es (tGs X is))(hn:autoParam ((assignEach es X.env).length=n) Za1._auto_1)(yh:autoParam ((assignEach es X.env).findIdx? (·.1)=none) Za1._auto_1)(hl:autoParam (is.length=n) Za1._auto_1):PGd X (.Tuple es j pos) (gT is):=by
 refine(LL hc h hn yh).aF ?_;rintro v Z H Q ⟨H0,eC,env,d,eR,E,hg,r,k⟩;unfold gT at hg;split at hg
 .rename_i ds;cases r with
  |tup h l r=>
   refine⟨_,_,rfl,SqT.of h,by rw[<-l,Df hg,hl],H0,eC,env,ds,eR,E,hg,⟨l,λi d v e1 e2=>(r i d v e1 e2).gen (.of_same bu) λb q hb=> ⟨q,hb⟩⟩,k⟩
 .cases hg
theorem Mp(he:PEd X e f)(hg:PGd X tg gd)(hs:autoParam (swapsWithSole [tg] e pos.line X.env=pure false) Za1._auto_1)(hw:autoParam (swappedStores [tg] e X.env=pure none) Za1._auto_1)(h1:autoParam ((assignEach [tg] X.env).map (·.2)=[assign tg X.env]) Za1._auto_1):PSd X (.Assign [tg] e pos) (Ob gd f):=by
 refine(LM he hg hs hw h1).aF ?_;rintro D Z H ⟨H0,eC,env,o,E,e,k⟩;obtain⟨⟨kd,d⟩,hr,e⟩:=eA e;cases kd with
 |c=>
  obtain⟨eR,Rr,rfl⟩:=Gas.mp e;exact⟨H0,eC,env,_,E,hr,λv H1 s1 R=> ⟨H0,eC,env,d,eR,E.mono s1,Rr,R,λZ2 H2 E2 p2=>k Z2 H2 E2 ((Stp.of_same s1).trans p2)⟩⟩
 |tn=>cases e
 |to=>cases e
 |tb=>cases e
end
section
variable{X:Cx}{e a b c:Expr}{f g h:DE}{t u:DT}{pos:Pos}{st:Stmt}{rest:List Stmt}{s1 s2:DS}
variable{d:D}{i:Nat}
theorem qZ{env:Env}(h:ownAt i env=some d):env[i]? =some (some (.own d)):=by
 unfold ownAt at h;split at h
 .rename_i d' q;cases h;exact q
 .cases h
variable{H:Hp}
theorem qw{K:aq}{F:Addr->Prop}{ds:List D}{a:Addr}(w:Wr H a)(i:Inn K F H (.lst ds) (.ref a)):∃vs,H a=some (.lst vs)/\aJ K F H ds vs:=by
 cases i with
 |lst h r=>
  rcases h with h| ⟨o,h⟩
  .exact⟨_,h,r⟩
  .obtain⟨y,hy,wy⟩:=w;rw[h] at hy;cases hy;exact wy.elim
variable{px apos eU:Pos}{x:Str}
theorem jm(hN:X.N[i]? =some x)(hv:Vis X.env.scope x)(he:PEd X e f)(hd:autoParam ((x==("__debug__":Str))=false) Za2._auto_1)(yc:autoParam ((x==("__classdict__":Str))=false) Za2._auto_1)
  (xk:autoParam (starEach [e] X.env=[(false,eval e X.env)]) Za1._auto_1)
  (xF:autoParam (attributeBase (.Name x px) "append" X.env (eval (.Name x px) X.env)=eval (.Name x px) X.env) Za1._auto_1)
  (yk:((backTo eU (starEach [e] X.env)).all (λx=> !x.1)&&(backToKw eU (keywordEach [] X.env)).all (λx=>x.1.isSome)
   &&decide (([e]:List Expr).length+([]:List Keyword).length+(if([]:List Keyword).isEmpty then 0 else 1)<30))=true:=by rfl)
  (xD:autoParam ((apos.endLine==eU.line)=true) Za1._auto_1)(hs:autoParam (swapsWith (.Call (.Attribute (.Name x px) "append" apos) [e] [] eU) none pos.line X.env=pure false) Za1._auto_1):
  PSd X (.Expr (.Call (.Attribute (.Name x px) "append" apos) [e] [] eU) pos) (gX i f):=by
 refine(vg (Gx Gdo PySem.F.slot_list_append PySem.F.type_list_append u9 (vf hN hv hd yc) (bS he dO xk) xF yk xD xk rfl) hs).aF ?_;rintro D Z H ⟨H0,eC,env,o,E,e,k⟩;obtain⟨r,hr,e⟩:=eA e;obtain⟨d,hd,e⟩:=eA e;have q:=qZ hd;split at e
 .rename_i xs;split at e
  .rename_i z;rw[Gan] at z;cases e;obtain⟨a,h1,h2,h3,h4,h5,h6⟩:=E.ow i _ (.inl q);obtain⟨vs,hH,rp⟩:=qw h4 h6;refine⟨_,h1,.inl ⟨rfl,vs,.inl (.inl hH)⟩,H0,eC,env,[r],E,by unfold a7 ae;rw[hr];rfl,λws H2 s2 Rs=> ?_⟩;cases Rs with
   | @cons _ v _ _ R1 tl=>
    cases tl;have yy:=s2 _ _ hH;refine⟨a,vs,v,rfl,rfl,yy,by rw[<-rp.1,<-eP];exact Gao z.2, ?_⟩;have E2:=E.mono s2;have rep1:=R1.rep E z.1;have rp2:aJ X.K (Cln eC env Z) H2 (xs++[r.d]) (vs++[v]):=(rp.gen (.of_same s2) λ_ f _=>f).append (.cons rep1 .nil);obtain⟨E3,p3⟩:=E2.change (d' := .lst (xs++[r.d])) (o:= .lst (vs++[v])) q h1 trivial rfl (.lst (.inl b9) (rp2.gen (λb o hb w=>by
     have:b≠a:=by
      rintro rfl;rcases w with w|w
      .exact w.2 i (by rw[q];trivial) h1
      .rw[yy] at hb;cases hb;exact w
     rw[aE this];exact hb) λ_ f _=>f))
    exact k Z _ E3 ((Stp.of_same s2).trans p3)
  .cases e
 .cases e
theorem EW(hN:X.N[i]? =some x)(hv:Vis X.env.scope x)(he:PEd X e f)(hd:autoParam ((x==("__debug__":Str))=false) Za2._auto_1)(yc:autoParam ((x==("__classdict__":Str))=false) Za2._auto_1)
  (xk:autoParam (starEach [e] X.env=[(false,eval e X.env)]) Za1._auto_1)
  (xF:autoParam (attributeBase (.Name x px) "extend" X.env (eval (.Name x px) X.env)=eval (.Name x px) X.env) Za1._auto_1)
  (yk:((backTo eU (starEach [e] X.env)).all (λx=> !x.1)&&(backToKw eU (keywordEach [] X.env)).all (λx=>x.1.isSome)
   &&decide (([e]:List Expr).length+([]:List Keyword).length+(if([]:List Keyword).isEmpty then 0 else 1)<30))=true:=by rfl)
  (xD:autoParam ((apos.endLine==eU.line)=true) Za1._auto_1)(hs:autoParam (swapsWith (.Call (.Attribute (.Name x px) "extend" apos) [e] [] eU) none pos.line X.env=pure false) Za1._auto_1):
  PSd X (.Expr (.Call (.Attribute (.Name x px) "extend" apos) [e] [] eU) pos) (GG i f):=by
 refine(vg (Gx Gdo PySem.F.slot_list_extend PySem.F.type_list_extend EH (vf hN hv hd yc) (bS he dO xk) xF yk xD xk rfl) hs).aF ?_;rintro D Z H ⟨H0,eC,env,o,E,e,k⟩;obtain⟨⟨kd,rd⟩,hr,e⟩:=eA e;obtain⟨d,hd,e⟩:=eA e;have q:=qZ hd;split at e
 .rename_i xs ys hrd;have hrd' :rd= .lst ys:=hrd;subst hrd';split at e
  .rename_i z;rw[Gan] at z;cases e;have hk:kd= .tn:=by have:=z.1;simpa using this
   subst hk;obtain⟨a,h1,h2,h3,h4,h5,h6⟩:=E.ow i _ (.inl q);obtain⟨vs,hH,rp⟩:=qw h4 h6;refine⟨_,h1,.inl ⟨rfl,vs,.inl (.inl hH)⟩,H0,eC,env,[⟨.tn,.lst ys⟩],E,by unfold a7 ae;rw[hr];rfl,λws H2 s2 Rs=> ?_⟩;cases Rs with
   | @cons _ v _ _ R1 tl=>
    cases tl;obtain⟨b,rfl,nb,wb,_,ib⟩:=R1;obtain⟨us,hB,ru⟩:=qw wb ib;have yy:=s2 _ _ hH;refine⟨a,b,vs,us,rfl,rfl,yy,hB,by rw[<-rp.1,<-ru.1,<-eP];exact Gao z.2, ?_⟩;have E2:=E.mono s2;have rp2:aJ X.K (Cln eC env Z) H2 (xs++ys) (vs++us):=(rp.gen (.of_same s2) λ_ f _=>f).append (ru.gen (.of_same bu) λ_ f _=>f.1);obtain⟨E3,p3⟩:=E2.change (d' := .lst (xs++ys)) (o:= .lst (vs++us)) q h1 trivial rfl (.lst (.inl b9) (rp2.gen (λb o hb w=>by
     have:b≠a:=by
      rintro rfl;rcases w with w|w
      .exact w.2 i (by rw[q];trivial) h1
      .rw[yy] at hb;cases hb;exact w
     rw[aE this];exact hb) λ_ f _=>f))
    exact k Z _ E3 ((Stp.of_same s2).trans p3)
  .cases e
 .cases e
def QO(K:aq):List V->Hp->VK->Prop:=λxs H Q=>∃x T t b,xs=[x,.ty T]/\mQ K H x (.type t)/\PySem.W.kitOne K (.type t) (.type T)=some b/\Q (.bl b) H
theorem GX:fq X (.builtin "isinstance") (QO X.K):=by
 intro e8 s Z H xs us Q I r h;obtain⟨x,T,t,bb,rfl,ty,hk,q⟩:=h;obtain⟨u,w',rfl,r1,r2⟩:=vals2 r;cases r2;exact EF I r1 ty hk λtk=> ⟨.bl bb,H,I.tok _,rfl,q⟩
def GY(K:aq)(T:String):Prop:=∀t∈["NoneType","bool","int","str","tuple","list","dict"],PySem.W.kitOne K (.type t) (.type T)=some (T==t||(t=="bool"&&T=="int"))
theorem JL{K:aq}{F:Addr->Prop}{x:V}(i:Inn K F H d x)(hs:pQ d=false):∃t∈["NoneType","bool","int","str","tuple","list","dict"],mQ K H x (.type t)/\∀S,mC S d=(S==t||(t=="bool"&&S=="int")):=by
 have rdl:∀{a:Addr} {vs:List V},Rd H a (.lst vs)->mQ K H (.ref a) (.type "list"):=λh=>by
  rcases h with h| ⟨o,h⟩
  .exact .lst h
  .exact .frz h
 cases i with
 |non=>exact⟨"NoneType",by simp,.non,λS=>by simp[mC]⟩
 |bl b=>exact⟨"bool",by simp,.bl b,λS=>by simp[mC]⟩
 |int i=>exact⟨"int",by simp,.int i,λS=>by simp[mC]⟩
 |str x=>exact⟨"str",by simp,.str x,λS=>by simp[mC]⟩
 |tup h r=>exact⟨"tuple",by simp,.tup h,λS=>by simp[mC]⟩
 |lst h r=>exact⟨"list",by simp,rdl h,λS=>by simp[mC]⟩
 |dK h r=>exact⟨"dict",by simp,.dK h,λS=>by simp[mC]⟩
 |dT h r=>exact⟨"dict",by simp,.dT h,λS=>by simp[mC]⟩
 |scr h=>cases hs
 |exc _ _=>cases hs
theorem GZ{T:String}{p p2:Pos}(TQ:GY X.K T)(he:PEd X e f)(hg:Gl X "isinstance")(hm:X.mg "isinstance"=none)(yP:Gl X x)(zd:X.mg x=none)(U2:bootBuiltins x=some (.type T))(S2:autoParam (x≠"__name__") Za2._auto_1)(hd2:autoParam ((x==("__debug__":Str))=false) Za2._auto_1)
  (xk:autoParam (starEach [e,.Name x p2] X.env=(false,eval e X.env)::starEach [.Name x p2] X.env) Za1._auto_1)(xi:autoParam (starEach [.Name x p2] X.env=(false,eval (.Name x p2) X.env)::starEach [] X.env) Za1._auto_1)(xH:autoParam ((backTo pos (starEach [.Name x p2] X.env)).any (·.1)=false) Za1._auto_1):
  PEd X (.Call (.Name "isinstance" p) [e,.Name x p2] [] pos) (bE (Mh T f)):=by
 have ht:PE X (.Name x p2) (tC (.ty T)):=J4 yP zd U2 rfl S2 hd2;refine(qG GX hg hm (by decide+kernel) (nN he (nN ht vm xi) xk) (by decide) (by decide) xk xH).aF ?_;rintro Z H Q ⟨H0,eC,env,rv,E,e,k⟩;obtain⟨bb,e',rfl⟩:=Gas.mp e;clear e;have e:=e';clear e';obtain⟨r,hr,e⟩:=eA e;split at e
 .cases e
 .rename_i hs;cases e;refine⟨H0,eC,env,r,E,hr,λv H1 s1 R=> ?_⟩;obtain⟨t,ht,ty,hb⟩:=JL R.inn (by simpa using hs);exact⟨v,T,t,_,rfl,ty,TQ t ht,by rw[<-hb T];exact k _ H1 s1 (.bl _)⟩
theorem iZ:∀env rs,ae env=some rs->rs.length=0:=λenv rs h=>by cases h;rfl
theorem gq{r:DA}{n:Nat}(h:∀env rs,r env=some rs->rs.length=n):∀env rs,a7 f r env=some rs->rs.length=n+1:=λenv rs e=>by
 obtain⟨x,_,e⟩:=eA e;obtain⟨xs,hx,e⟩:=eA e;cases e;rw[Gay,h env xs hx]
theorem ay.start{K:aq}{H:Hp}{N:List Str}{ds:List D}{vs:List V}(hl:ds.length<=N.length)(r:aJ K (λ_=>True) H ds vs):ay K H (λ_=>False) (bw N.length ds) (start N vs) H:=by
 have nt:∀i:Nat,¬bH (bw N.length ds)[i]? :=λi h=>by
  unfold bw at h;by_cases hi:i<ds.length
  .rw[Gbu (by simpa using hi),Gaw] at h;cases q:ds[i]? with
   |none=>rw[q] at h;exact h
   |some d=>rw[q] at h;exact h
  .rw[Gbq (by simpa using hi),GcD] at h;split at h<;>exact h
 have no:∀{i:Nat} {s:Slot},(bw N.length ds)[i]? =some (some s)->bH (some (some s))->False:=λ{i s} e h=>nt i (by rw[e];exact h);refine⟨λ_ _ e=>e,by simp[bw,L2.start,r.1],λ_ h=>h.elim,λi d e=> ?_,λi d e=> ?_,λi d e=> ?_,λi j a t _ _ _=>(nt i t.top).elim⟩
 .unfold bw at e;by_cases hi:i<ds.length
  .rw[Gbu (by simpa using hi),Gaw] at e;cases q:ds[i]? with
   |none=>rw[q] at e;cases e
   |some d' =>
    rw[q] at e;have e' :d' =d:=by simpa using e
    subst e';obtain⟨v,h1,h2⟩:=r.get q;refine⟨v, ?_,h2.imp λb _=> ⟨λz=>z,λj t=>(nt j t).elim⟩⟩;unfold L2.start;rw[Gbu (by rw[Gab,<-r.1];exact hi),Gaw,h1];rfl
  .rw[Gbq (by simpa using hi),GcD] at e;split at e<;>cases e
 .rcases e with e|e
  .exact(no e trivial).elim
  .exact(no e trivial).elim
 .exact(no e trivial).elim
theorem P0{P:Program}{w:World}{K:aq}{mg:Str->Option Value}{base:Heap}{qual:Str}{sd:Stmt}{fa:Addr}{fd:FuncData}{N ps:List Str}{k np:Nat}{body:DS}(F:Fun K x qual sd fa fd)(S:jK N ps (bz sd))(S0:ps.length=np)
  (xZ:∀(hJ:Value) (A:Around) (outer:List PySem.Env) (s:Shared) (H:Hp) (E:XK),iA k (A.deeper (envOfC qual (bz sd) s.heap.objs.size fa hJ))->
   tF (wM CX0 P w K mg base N qual (bz sd) fa hJ A outer s H E).nox (gW sd) body):nO P w K mg base CX0 (k+1) fa fd ps (spD K np (cG N.length np body)):=by
 refine F.ok S (λvs H Q E h=> ?_) λhJ A outer s H vs Q E hr h=> ⟨_,xZ hJ A outer s H E hr, ?_⟩
 .obtain⟨ds,d,h1,h2,_⟩:=h;rw[<-h2.1,h1,S0]
 .obtain⟨ds,d,h1,h2,h3,k⟩:=h;unfold cG at h3;rw[Gah h1] at h3;obtain⟨o,ho,h3⟩:=eA h3;have hl:ds.length<=N.length:=by
   have:=congrArg List.length S.pre;rw[GcR] at this;lia
  refine⟨H,λ_=>False,bw N.length ds,o,ay.start hl h2,ho, ?_⟩;cases o with
  |ret d' =>cases h3;exactλv H' s' R=>k v H' s' R
  |nx e=>cases h3;exactλZ' H' E' p' =>k .non H' E'.same ⟨λt=>(by cases t),.non⟩
  |bk e=>cases h3
  |ct e=>cases h3
theorem Mq{K:aq}{a:Addr}{ns:List Int}{sp:List D->Option D}{E:XK}(hO:Jv H)(hS:SqL K H a (ns.map V.int))(h:sp [.scr ns]=some (.bl true)):spD K 1 sp [.ref a] H (λv _=>v= .bl true) E:=by
 refine⟨[.scr ns],.bl true,rfl,aJ.cons (.scr ?_) .nil,h,λv H' _ R=> ?_⟩
 .rcases hS with(z|z)|z
  .rcases hO a with q| ⟨o,xs,q⟩<;>rw[z] at q<;>cases q
  .exact .inl z
  .exact .inr z
 .have i:=R.2;cases i;rfl
end
variable{d:D}{n:Nat}
theorem plain_all{ds:List D}(h:ds.all (aD n)=true){i:Nat}(e:ds[i]? =some d):aD n d=true:=Gap.mp h d (GaE e)
inductive BS (K:aq) (F:Addr->Prop) (H:Hp):D->V->Prop where
 |non:BS K F H .non .non
 |bl (b:Bool):BS K F H (.bl b) (.bl b)
 |int (i:Int):BS K F H (.int i) (.int i)
 |str (x:Str):BS K F H (.str x) (.str x)
 |tup {a:Addr} {vs:List V} {ds:List D} (h:H a=some (.tup vs)) (l:ds.length=vs.length) (r:∀(i:Nat) d v,ds[i]? =some d->vs[i]? =some v->Rep K F H d v):BS K F H (.tup ds) (.ref a)
 |lst {a:Addr} {vs:List V} {ds:List D} (f:F a) (h:Rd H a (.lst vs)) (l:ds.length=vs.length) (r:∀(i:Nat) d v,ds[i]? =some d->vs[i]? =some v->Rep K F H d v):BS K F H (.lst ds) (.ref a)
theorem bI{K:aq}{F:Addr->Prop}{H:Hp}{v:V}(p:aD n d=true)(r:Rep K F H d v):BS K F H d v:=by
 cases r with
 |non=>exact .non
 |bl b=>exact .bl b
 |int i=>exact .int i
 |str x=>exact .str x
 |tup h l r=>exact .tup h l r
 |lst f h l r=>exact .lst f h l r
 |_=>cases n<;>exact(Gal p).elim
theorem r9:∀(n:Nat) (d:D),aD n d=true->eqD d d=true:=by
 intro n;induction n with
 |zero=>intro d h;cases d<;>simp[aD] at h<;>simp
 |succ n ih=>
  have all:∀ds:List D,ds.all (aD n)=true->kx ds ds=true:=by
   intro ds;induction ds with
   |nil=>intro _;rfl
   |cons d ds ih2=>
    intro h;rw[Gce,Gan] at h;simp[kx,ih d h.1,ih2 h.2]
  intro d h;cases d<;>simp only[aD] at h<;>first
   |(simp;done)
   |exact all _ h
   |cases h
theorem iF:∀{ds es:List D},ds.length≠es.length->kx ds es=false
 |[],[],h=>absurd rfl h
 |[],_::_,_=>rfl
 |_::_,[],_=>rfl
 |d::ds,e::es,h=>by
  unfold kx;rw[iF (by simpa using h),Gcf]
theorem fj:∀{ds es:List D},ds.length=es.length->(List.range ds.length).all (λj=>eqD (ds.getD j .non) (es.getD j .non))=kx ds es
 |[],[],_=>rfl
 |[],_::_,h=>by simp at h
 |_::_,[],h=>by simp at h
 |d::ds,e::es,h=>by
  have ih:=fj (ds:=ds) (es:=es) (by simpa using h);unfold kx;rw[Gay,Gdx,Gce,Gbs,<-ih]
  rfl
section
variable{X:Cx}{e8:List (Addr×Obj)}{Z:St}{H:Hp}{s:Shared}
theorem vH{K:aq}{F G:Addr->Prop}:∀(n:Nat) {d d' :D} {v:V},aD n d=true->aD n d' =true->Rep K F H d v->Rep K G H d' v->d=d' :=by
 intro n;induction n with
 |zero=>intro d d' v h1 h2 r1 r2;cases bI h1 r1<;>first|exact(Gal h1).elim|(cases bI h2 r2;rfl)
 |succ n ih=>
  have all:∀{ds es:List D} {vs:List V},ds.all (aD n)=true->es.all (aD n)=true->ds.length=vs.length->es.length=vs.length->(∀(i:Nat) d v,ds[i]? =some d->vs[i]? =some v->Rep K F H d v)->(∀(i:Nat) d v,es[i]? =some d->vs[i]? =some v->Rep K G H d v)->ds=es:=by
   intro ds es vs p1 p2 l1 l2 r1 r2;apply GcK;intro i;by_cases hi:i<vs.length
   .have e1:ds[i]? =some ds[i]:=by simp[l1,hi]
    have e2:es[i]? =some es[i]:=by simp[l2,hi]
    have e3:vs[i]? =some vs[i]:=by simp[hi]
    rw[e1,e2,ih (plain_all p1 e1) (plain_all p2 e2) (r1 i _ _ e1 e3) (r2 i _ _ e2 e3)]
   .rw[Gbw (by lia),Gbw (by lia)]
  intro d d' v h1 h2 r1 r2;cases bI h1 r1 with
  |non=>cases bI h2 r2;rfl
  |bl b=>cases bI h2 r2;rfl
  |int i=>cases bI h2 r2;rfl
  |str x=>cases bI h2 r2;rfl
  |tup h l r=>
   cases bI h2 r2 with
   |tup h' l' r' =>
    rw[h] at h';cases h'
    rw[all (by simpa[aD] using h1) (by simpa[aD] using h2) l l' r r']
   |lst f h' l' r' =>rcases h' with h' | ⟨o,h'⟩<;>rw[h] at h' <;>cases h'
  |lst f h l r=>
   cases bI h2 r2 with
   |tup h' l' r' =>rcases h with h| ⟨o,h⟩<;>rw[h] at h' <;>cases h'
   |lst f' h' l' r' =>
    have:∀{xs ys:List V} {a:Addr},Rd H a (.lst xs)->Rd H a (.lst ys)->xs=ys:=λz1 z2=>by
     rcases z1 with z1| ⟨o,z1⟩<;>rcases z2 with z2| ⟨o',z2⟩<;>rw[z1] at z2<;>cases z2<;>rfl
    cases this h h';rw[all (by simpa[aD] using h1) (by simpa[aD] using h2) l l' r r']
theorem item_at{ds:List D}{vs:List V}{its:List Value}{K:aq}{F:Addr->Prop}(l:ds.length=vs.length)(r:∀(i:Nat) d v,ds[i]? =some d->vs[i]? =some v->Rep K F H d v)(rv:Vals vs its){j:Nat}(h:j<its.toArray.size):
  ∃d v,ds[j]? =some d/\ds.getD j .non=d/\Rep K F H d v/\RelV v its.toArray[j]:=by
 have hj:j<its.length:=by simpa using h
 have hv:j<vs.length:=by rw[rv.length];exact hj
 have hd:j<ds.length:=by rw[l];exact hv
 obtain⟨u,e1,e2⟩:=rv.get (i:=j) (x:=vs[j]) (by simp[hv]);refine⟨ds[j],vs[j],by simp[hd],by simp[hd],r j _ _ (by simp[hd]) (by simp[hv]), ?_⟩;have:its.toArray[j]=u:=by
  have:=e1;simp[hj] at this
  simpa using this
 rw[this];exact e2
variable{n:Nat}{A:Around}
theorem in1_units(h:A.units+(n+1)<cLine):A.in1.units+n<cLine:=by
 show A.units+1+n<_;lia
theorem rf(I:Inv X e8 Z H s){F G:Addr->Prop}:∀(n:Nat) {dx dy:D} {x y:V} {v u:Value} {A:Around},aD n dx=true->aD n dy=true->Rep X.K F H dx x->Rep X.K G H dy y->RelV x v->RelV y u->A.units+n<cLine->SeqAt.EqAt A s v u (eqD dx dy):=by
 have flat:∀{dx dy:D} {x y:V} {v u:Value} {A:Around},Rep X.K F H dx x->Rep X.K G H dy y->RelV x v->RelV y u->u7 x=true->u7 y=true->SeqAt.EqAt A s v u (eqD dx dy):=by
  intro dx dy x y v u A r1 r2 rv ru fx fy;have e:eqD dx dy=eqV x y:=by
   cases r1<;>first|exact(Gal fx).elim|(cases r2<;>first|exact(Gal fy).elim|rfl)
  rw[e];exact Gw rv ru fx fy
 intro n;induction n with
 |zero=>
  intro dx dy x y v u A p1 p2 r1 r2 rv ru hu;refine flat r1 r2 rv ru ?_ ?_
  .cases bI p1 r1<;>first|rfl|exact(Gal p1).elim
  .cases bI p2 r2<;>first|rfl|exact(Gal p2).elim
 |succ n ih=>
  intro dx dy x y v u A p1 p2 r1 r2 rv ru hu;have hu0:A.units<cLine:=by lia
  cases bI p1 r1 with
  | @tup a vs1 ds1 h l r=>
   cases rv;obtain⟨its,xv,ht,_⟩:=I.tuple (SqT.of h);cases bI p2 r2 with
   |non=>cases ru;exact SeqAt.EqAt.tuple_none ht hu0
   |bl b=>cases ru;exact SeqAt.EqAt.tuple_bool b ht hu0
   |int i=>obtain⟨t,rfl⟩:=ru;exact SeqAt.EqAt.tuple_int i t ht hu0
   |str z=>obtain⟨t,rfl⟩:=ru;exact SeqAt.EqAt.tuple_str z t ht hu0
   |lst f' h' l' r' =>
    cases ru;obtain⟨eI,eZ,pl,_⟩:=I.list (.inl h');exact SeqAt.EqAt.tuple_list ht pl.isList hu0
   | @tup b vs2 ds2 h' l' r' =>
    cases ru;by_cases hab:a=b
    .subst hab;have:=vH (n+1) p1 p2 (Rep.tup h l r) (Rep.tup h' l' r');rw[<-this,r9 _ _ p1];exact SeqAt.EqAt.same _
    .obtain⟨eI,eZ,xj,_⟩:=I.tuple (SqT.of h');have xk:its.toArray.size=ds1.length:=by rw[Gav,<-xv.length,l]
     have xi:eI.toArray.size=ds2.length:=by rw[Gav,<-eZ.length,l']
     have key:=SeqAt.RcAt.tuples (e:=λj=>eqD (ds1.getD j .non) (ds2.getD j .non)) ht xj hu0 λj h1 h2=>by
      obtain⟨d1,v1,q1,q2,q3,q4⟩:=item_at l r xv h1;obtain⟨d2,v2,w1,w2,w3,w4⟩:=item_at l' r' eZ h2;rw[q2,w2];exact ih (plain_all (by simpa[aD] using p1) q1) (plain_all (by simpa[aD] using p2) w1) q3 w3 q4 w4 (in1_units hu)
     refine SeqAt.EqAt.of_refs hab ?_;show SeqAt.RcAt A s (.ref a) (.ref b) (kx ds1 ds2);rw[xk,xi] at key;by_cases hl:ds1.length=ds2.length
     .rw[<-hl,Nat.min_self,fj hl] at key
      simpa using key
     .rw[iF hl];have:(ds1.length==ds2.length)=false:=by simpa using hl
      rw[this,Gcf] at key;exact key
  | @lst a vs1 ds1 f h l r=>
   cases rv;obtain⟨its,xv,pl,_⟩:=I.list (.inl h);have ht:=pl.isList;cases bI p2 r2 with
   |non=>cases ru;exact SeqAt.EqAt.list_none ht hu0
   |bl b=>cases ru;exact SeqAt.EqAt.list_bool b ht hu0
   |int i=>obtain⟨t,rfl⟩:=ru;exact SeqAt.EqAt.list_int i t ht hu0
   |str z=>obtain⟨t,rfl⟩:=ru;exact SeqAt.EqAt.list_str z t ht hu0
   |tup h' l' r' =>
    cases ru;obtain⟨eI,eZ,xj,_⟩:=I.tuple (SqT.of h');exact SeqAt.EqAt.list_tuple ht xj hu0
   | @lst b vs2 ds2 f' h' l' r' =>
    cases ru;by_cases hab:a=b
    .subst hab;have:=vH (n+1) p1 p2 (Rep.lst f h l r) (Rep.lst f' h' l' r');rw[<-this,r9 _ _ p1];exact SeqAt.EqAt.same _
    .obtain⟨eI,eZ,yz,_⟩:=I.list (.inl h');have xj:=yz.isList;have xk:its.toArray.size=ds1.length:=by rw[Gav,<-xv.length,l]
     have xi:eI.toArray.size=ds2.length:=by rw[Gav,<-eZ.length,l']
     refine SeqAt.EqAt.of_refs hab ?_;show SeqAt.RcAt A s (.ref a) (.ref b) (kx ds1 ds2);by_cases hl:ds1.length=ds2.length
     .have key:=SeqAt.RcAt.lists (e:=λj=>eqD (ds1.getD j .non) (ds2.getD j .non)) ht xj (by rw[xk,xi,hl]) hu0 λj h1 h2=>by
       obtain⟨d1,v1,q1,q2,q3,q4⟩:=item_at l r xv h1;obtain⟨d2,v2,w1,w2,w3,w4⟩:=item_at l' r' eZ h2;rw[q2,w2];exact ih (plain_all (by simpa[aD] using p1) q1) (plain_all (by simpa[aD] using p2) w1) q3 w3 q4 w4 (in1_units hu)
      rw[xk,fj hl] at key;exact key
     .rw[iF hl];exact SeqAt.RcAt.lists_lengths ht xj (by rw[xk,xi];simpa using hl) hu0
  |non=>
   cases rv;cases bI p2 r2 with
   |tup h' l' r' =>cases ru;obtain⟨eI,eZ,xj,_⟩:=I.tuple (SqT.of h');exact SeqAt.EqAt.none_tuple xj hu0
   |lst f' h' l' r' =>cases ru;obtain⟨eI,eZ,yz,_⟩:=I.list (.inl h');exact SeqAt.EqAt.none_list yz.isList hu0
   |_=>exact flat .non (by first|exact .non|exact .bl _|exact .int _|exact .str _) rfl ru rfl rfl
  |bl b=>
   cases bI p2 r2 with
   |tup h' l' r' =>cases rv;cases ru;obtain⟨eI,eZ,xj,_⟩:=I.tuple (SqT.of h');exact SeqAt.EqAt.bool_tuple b xj hu0
   |lst f' h' l' r' =>cases rv;cases ru;obtain⟨eI,eZ,yz,_⟩:=I.list (.inl h');exact SeqAt.EqAt.bool_list b yz.isList hu0
   |_=>exact flat (.bl b) (by first|exact .non|exact .bl _|exact .int _|exact .str _) rv ru rfl rfl
  |int i=>
   cases bI p2 r2 with
   |tup h' l' r' =>obtain⟨t,rfl⟩:=rv;cases ru;obtain⟨eI,eZ,xj,_⟩:=I.tuple (SqT.of h');exact SeqAt.EqAt.int_tuple i t xj hu0
   |lst f' h' l' r' =>obtain⟨t,rfl⟩:=rv;cases ru;obtain⟨eI,eZ,yz,_⟩:=I.list (.inl h');exact SeqAt.EqAt.int_list i t yz.isList hu0
   |_=>exact flat (.int i) (by first|exact .non|exact .bl _|exact .int _|exact .str _) rv ru rfl rfl
  |str z=>
   cases bI p2 r2 with
   |tup h' l' r' =>obtain⟨t,rfl⟩:=rv;cases ru;obtain⟨eI,eZ,xj,_⟩:=I.tuple (SqT.of h');exact SeqAt.EqAt.str_tuple z t xj hu0
   |lst f' h' l' r' =>obtain⟨t,rfl⟩:=rv;cases ru;obtain⟨eI,eZ,yz,_⟩:=I.list (.inl h');exact SeqAt.EqAt.str_list z t yz.isList hu0
   |_=>exact flat (.str z) (by first|exact .non|exact .bl _|exact .int _|exact .str _) rv ru rfl rfl
theorem Aa(I:Inv X e8 Z H s){F G:Addr->Prop}{dx dy:D}{x y:V}{v u:Value}(p1:aD n dx=true)(p2:aD n dy=true)(r1:Rep X.K F H dx x)(r2:Rep X.K G H dy y)(rv:RelV x v)(ru:RelV y u)(hu:A.units+n<cLine):
  SeqAt.RcAt A s v u (eqD dx dy)/\SeqAt.RcNeAt A s v u (!eqD dx dy):=by
 have hu0:A.units<cLine:=by lia
 have tupAt:∀{a:Addr} {vs:List V},H a=some (.tup vs)->∃its:List Value,s.heap.IsTuple a its.toArray:=λh=>let⟨its,_,ht,_⟩:=I.tuple (SqT.of h);⟨its,ht⟩
 have lstAt:∀{a:Addr} {vs:List V},Rd H a (.lst vs)->∃its:List Value,s.heap.IsList a its.toArray:=λh=>let⟨its,_,pl,_⟩:=I.list (.inl h);⟨its,pl.isList⟩
 cases bI p1 r1 with
 |non=>
  cases rv;cases bI p2 r2 with
  |non=>cases ru;exact⟨.none_none,.none_none⟩
  |bl b=>cases ru;exact⟨.none_bool b,.none_bool b⟩
  |int i=>obtain⟨t,rfl⟩:=ru;exact⟨.none_int i t,.none_int i t⟩
  |str z=>obtain⟨t,rfl⟩:=ru;exact⟨.none_str z t,.none_str z t⟩
  |tup h' l' r' =>cases ru;obtain⟨its,ht⟩:=tupAt h';exact⟨.none_tuple ht hu0,.none_tuple ht hu0⟩
  |lst f' h' l' r' =>cases ru;obtain⟨its,ht⟩:=lstAt h';exact⟨.none_list ht hu0,.none_list ht hu0⟩
 |bl b=>
  cases rv;cases bI p2 r2 with
  |non=>cases ru;exact⟨.bool_none b,.bool_none b⟩
  |bl b' =>cases ru;exact⟨.bool_bool b b',.bool_bool b b'⟩
  |int i=>obtain⟨t,rfl⟩:=ru;exact⟨.bool_int b i t,.bool_int b i t⟩
  |str z=>obtain⟨t,rfl⟩:=ru;exact⟨.bool_str b z t,.bool_str b z t⟩
  |tup h' l' r' =>cases ru;obtain⟨its,ht⟩:=tupAt h';exact⟨.bool_tuple b ht hu0,.bool_tuple b ht hu0⟩
  |lst f' h' l' r' =>cases ru;obtain⟨its,ht⟩:=lstAt h';exact⟨.bool_list b ht hu0,.bool_list b ht hu0⟩
 |int i=>
  obtain⟨t,rfl⟩:=rv;cases bI p2 r2 with
  |non=>cases ru;exact⟨.int_none i t,.int_none i t⟩
  |bl b' =>cases ru;exact⟨.int_bool i t b',.int_bool i t b'⟩
  |int j=>obtain⟨t',rfl⟩:=ru;exact⟨.int_int i t j t',.int_int i t j t'⟩
  |str z=>obtain⟨t',rfl⟩:=ru;exact⟨.int_str i t z t',.int_str i t z t'⟩
  |tup h' l' r' =>cases ru;obtain⟨its,ht⟩:=tupAt h';exact⟨.int_tuple i t ht hu0,.int_tuple i t ht hu0⟩
  |lst f' h' l' r' =>cases ru;obtain⟨its,ht⟩:=lstAt h';exact⟨.int_list i t ht hu0,.int_list i t ht hu0⟩
 |str z=>
  obtain⟨t,rfl⟩:=rv;cases bI p2 r2 with
  |non=>cases ru;exact⟨.str_none z t,.str_none z t⟩
  |bl b' =>cases ru;exact⟨.str_bool z t b',.str_bool z t b'⟩
  |int j=>obtain⟨t',rfl⟩:=ru;exact⟨.str_int z t j t',.str_int z t j t'⟩
  |str z' =>obtain⟨t',rfl⟩:=ru;exact⟨.str_str z t z' t',.str_str z t z' t'⟩
  |tup h' l' r' =>cases ru;obtain⟨its,ht⟩:=tupAt h';exact⟨.str_tuple z t ht hu0,.str_tuple z t ht hu0⟩
  |lst f' h' l' r' =>cases ru;obtain⟨its,ht⟩:=lstAt h';exact⟨.str_list z t ht hu0,.str_list z t ht hu0⟩
 | @tup a vs1 ds1 h l r=>
  cases n with
  |zero=>simp[aD] at p1
  |succ n=>
   cases rv;obtain⟨its,xv,ht,_⟩:=I.tuple (SqT.of h);cases bI p2 r2 with
   |non=>cases ru;exact⟨.tuple_none ht hu0,.tuple_none ht hu0⟩
   |bl b=>cases ru;exact⟨.tuple_bool b ht hu0,.tuple_bool b ht hu0⟩
   |int i=>obtain⟨t,rfl⟩:=ru;exact⟨.tuple_int i t ht hu0,.tuple_int i t ht hu0⟩
   |str z=>obtain⟨t,rfl⟩:=ru;exact⟨.tuple_str z t ht hu0,.tuple_str z t ht hu0⟩
   |lst f' h' l' r' =>cases ru;obtain⟨eI,xj⟩:=lstAt h';exact⟨.tuple_list ht xj hu0,.tuple_list ht xj hu0⟩
   | @tup b vs2 ds2 h' l' r' =>
    cases ru;obtain⟨eI,eZ,xj,_⟩:=I.tuple (SqT.of h');have xk:its.toArray.size=ds1.length:=by rw[Gav,<-xv.length,l]
    have xi:eI.toArray.size=ds2.length:=by rw[Gav,<-eZ.length,l']
    have items:∀j (h1:j<its.toArray.size) (h2:j<eI.toArray.size),SeqAt.EqAt A.in1 s its.toArray[j] eI.toArray[j] ((λj=>eqD (ds1.getD j .non) (ds2.getD j .non)) j):=λj h1 h2=>by
     obtain⟨d1,v1,q1,q2,q3,q4⟩:=item_at l r xv h1;obtain⟨d2,v2,w1,w2,w3,w4⟩:=item_at l' r' eZ h2;dsimp only;rw[q2,w2];exact rf I n (plain_all (by simpa[aD] using p1) q1) (plain_all (by simpa[aD] using p2) w1) q3 w3 q4 w4 (in1_units hu)
    have k1:=SeqAt.RcAt.tuples ht xj hu0 items;have k2:=SeqAt.RcNeAt.tuples ht xj hu0 items;have e:((List.range (min its.toArray.size eI.toArray.size)).all (λj=>eqD (ds1.getD j .non) (ds2.getD j .non))&&its.toArray.size==eI.toArray.size)=kx ds1 ds2:=by
     rw[xk,xi];by_cases hl:ds1.length=ds2.length
     .rw[<-hl,Nat.min_self,fj hl];simp
     .rw[iF hl];have:(ds1.length==ds2.length)=false:=by simpa using hl
      rw[this,Gcf]
    rw[e] at k1 k2;exact⟨k1,k2⟩
 | @lst a vs1 ds1 f h l r=>
  cases n with
  |zero=>simp[aD] at p1
  |succ n=>
   cases rv;obtain⟨its,xv,pl,_⟩:=I.list (.inl h);have ht:=pl.isList;cases bI p2 r2 with
   |non=>cases ru;exact⟨.list_none ht hu0,.list_none ht hu0⟩
   |bl b=>cases ru;exact⟨.list_bool b ht hu0,.list_bool b ht hu0⟩
   |int i=>obtain⟨t,rfl⟩:=ru;exact⟨.list_int i t ht hu0,.list_int i t ht hu0⟩
   |str z=>obtain⟨t,rfl⟩:=ru;exact⟨.list_str z t ht hu0,.list_str z t ht hu0⟩
   |tup h' l' r' =>cases ru;obtain⟨eI,xj⟩:=tupAt h';exact⟨.list_tuple ht xj hu0,.list_tuple ht xj hu0⟩
   | @lst b vs2 ds2 f' h' l' r' =>
    cases ru;obtain⟨eI,eZ,yz,_⟩:=I.list (.inl h');have xj:=yz.isList;have xk:its.toArray.size=ds1.length:=by rw[Gav,<-xv.length,l]
    have xi:eI.toArray.size=ds2.length:=by rw[Gav,<-eZ.length,l']
    have items:∀j (h1:j<its.toArray.size) (h2:j<eI.toArray.size),SeqAt.EqAt A.in1 s its.toArray[j] eI.toArray[j] ((λj=>eqD (ds1.getD j .non) (ds2.getD j .non)) j):=λj h1 h2=>by
     obtain⟨d1,v1,q1,q2,q3,q4⟩:=item_at l r xv h1;obtain⟨d2,v2,w1,w2,w3,w4⟩:=item_at l' r' eZ h2;dsimp only;rw[q2,w2];exact rf I n (plain_all (by simpa[aD] using p1) q1) (plain_all (by simpa[aD] using p2) w1) q3 w3 q4 w4 (in1_units hu)
    show SeqAt.RcAt A s (.ref a) (.ref b) (kx ds1 ds2)/\SeqAt.RcNeAt A s (.ref a) (.ref b) (!kx ds1 ds2);by_cases hl:ds1.length=ds2.length
    .have k1:=SeqAt.RcAt.lists ht xj (by rw[xk,xi,hl]) hu0 items;have k2:=SeqAt.RcNeAt.lists ht xj (by rw[xk,xi,hl]) hu0 items;rw[xk,fj hl] at k1 k2;exact⟨k1,k2⟩
    .rw[iF hl];exact⟨SeqAt.RcAt.lists_lengths ht xj (by rw[xk,xi];simpa using hl) hu0,SeqAt.RcNeAt.lists_lengths ht xj (by rw[xk,xi];simpa using hl) hu0⟩
end
section
variable{X:Cx}
def JM(K:aq)(neg:Bool):R2:=λx y H Q=>∃F dx dy,Inn K F H dx x/\Inn K F H dy y/\dx.plain=true/\dy.plain=true/\Q (.bl (if neg then !eqD dx dy else eqD dx dy)) H
theorem gK(hu:X.A.units+20<cLine):OpR X (compareOp .Eq) (JM X.K false):=by
 intro e8 s Z H x y v u Q I rx ry h;obtain⟨F,dx,dy,i1,i2,p1,p2,q⟩:=h;exact(Aa I (n:=20) p1 p2 i1.any i2.any rx ry hu).1 X.prog X.w _ _ ⟨.bl (eqD dx dy),H,I,rfl,q⟩
theorem Mr(hu:X.A.units+20<cLine):OpR X (compareOp .NotEq) (JM X.K true):=by
 intro e8 s Z H x y v u Q I rx ry h;obtain⟨F,dx,dy,i1,i2,p1,p2,q⟩:=h;exact(Aa I (n:=20) p1 p2 i1.any i2.any rx ry hu).2 X.prog X.w _ _ ⟨.bl (!eqD dx dy),H,I,rfl,q⟩
theorem gL:OpB X eqB (JM X.K false):=by
 intro F H dx dy x y b Q ix iy e q;unfold eqB at e;split at e
 .rename_i z;rw[Gan] at z;cases e;exact⟨F,dx,dy,ix,iy,z.1,z.2,q⟩
 .cases e
theorem Ms:OpB X neB (JM X.K true):=by
 intro F H dx dy x y b Q ix iy e q;unfold neB at e;split at e
 .rename_i z;rw[Gan] at z;cases e;exact⟨F,dx,dy,ix,iy,z.1,z.2,q⟩
 .cases e
theorem JN{A:Around}{k:Nat}(hr:iA k A):A.units+20<cLine:=GcF (Nat.add_le_add_left (by decide:20<=64) _) hr.units
theorem n8:bootBuiltins "len"=some (.builtin "len"):=by decide+kernel
theorem vI:bootBuiltins "min"=some (.builtin "min"):=by decide+kernel
theorem Ha:bootBuiltins "max"=some (.builtin "max"):=by decide+kernel
theorem Mt:bootBuiltins "sum"=some (.builtin "sum"):=by decide+kernel
theorem Hb:bootBuiltins "any"=some (.builtin "any"):=by decide+kernel
theorem lV:bootBuiltins "sorted"=some (.builtin "sorted"):=by decide+kernel
theorem BU:bootBuiltins "int"=some (.type "int"):=by decide+kernel
theorem JO:bootBuiltins "bool"=some (.type "bool"):=by decide+kernel
theorem nY:bootBuiltins "tuple"=some (.type "tuple"):=by decide+kernel
theorem vJ:bootBuiltins "enumerate"=some (.type "enumerate"):=by decide+kernel
theorem JP{K:aq}:GY K "int":=by
 intro t ht;simp only[Gar,Gcg,GdS] at ht;rcases ht with rfl|rfl|rfl|rfl|rfl|rfl|rfl<;>rfl
theorem Hc{K:aq}:GY K "bool":=by
 intro t ht;simp only[Gar,Gcg,GdS] at ht;rcases ht with rfl|rfl|rfl|rfl|rfl|rfl|rfl<;>rfl
end
theorem n9{env:PySem.Env}:∀(names:List (Str×NameKind)),(∀y∈names,y.2= .free->∃c,env.cells.lookup y.1=some c)->∀(cs:List (Str×Addr)),(∀n c,cs.lookup n=some c->env.cells.lookup n=some c)->
  ∃cl:List (Str×Addr),(forIn names cs λx r=>(do
    if(x.2==NameKind.free)=true then pure (ForInStep.yield ((x.1,<-cellOf env x.1)::r)) else pure (ForInStep.yield r):Sem (ForInStep (List (Str×Addr)))))=pure cl/\
   (∀n c,cl.lookup n=some c->env.cells.lookup n=some c)/\(∀y∈names,y.2= .free->∃c,cl.lookup y.1=some c)/\∀n c,cs.lookup n=some c->∃c',cl.lookup n=some c'
 |[],_,cs,h=>by
  refine⟨cs,rfl,h, ?_,λn c e=> ⟨c,e⟩⟩;intro y hy;cases hy
 |(x,k)::names,hf,cs,h=>by
  by_cases hk:k= .free
  .subst hk;obtain⟨c,hc⟩:=hf (x,.free) Gaf rfl;have xy:cellOf env x=pure c:=by unfold cellOf;rw[hc]<;>rfl
   obtain⟨cl,h1,h2,h3,h4⟩:=n9 names (λy hy=>hf y (Gac _ hy)) ((x,c)::cs) (λn c' e=>by
    by_cases z:n=x
    .subst z;simp[Gbl] at e;subst e;exact hc
    .have z' :(n==x)=false:=by simpa using z
     simp[Gbl,z'] at e;exact h n c' e)
   refine⟨cl, ?_,h2,λy hy Rg=> ?_,λn c' e=> ?_⟩
   .rw[GdK];simp only[xy];exact h1
   .rcases Gar.mp hy with rfl|hy
    .exact h4 x c (by simp[Gbl])
    .exact h3 y hy Rg
   .by_cases z:n=x
    .subst z;exact h4 n c (by simp[Gbl])
    .have z' :(n==x)=false:=by simpa using z
     exact h4 n c' (by simp[Gbl,z',e])
  .have xE :(k==NameKind.free)=false:=by simpa using hk
   obtain⟨cl,h1,h2,h3,h4⟩:=n9 names (λy hy=>hf y (Gac _ hy)) cs h;refine⟨cl, ?_,h2,λy hy Rg=> ?_,h4⟩
   .rw[GdK];simp only[xE];exact h1
   .rcases Gar.mp hy with rfl|hy
    .exact absurd Rg hk
    .exact h3 y hy Rg
theorem mK{env:PySem.Env}{scope:Scope}(hf:∀y∈scope.names,y.2= .free->∃c,env.cells.lookup y.1=some c):
  ∃cl:List (Str×Addr),closureFor scope env=pure cl/\(∀n c,cl.lookup n=some c->env.cells.lookup n=some c)/\∀y∈scope.names,y.2= .free->∃c,cl.lookup y.1=some c:=by
 obtain⟨cl,h1,h2,h3,_⟩:=n9 scope.names hf [] (λn c e=>by simp at e);refine⟨cl, ?_,h2,h3⟩;unfold closureFor;exact(congrArg (λm=>m>>=pure) h1).trans (by rfl)
theorem mem_of_lookup{x:Str}{k:NameKind}:∀{l:List (Str×NameKind)},l.lookup x=some k->(x,k)∈l
 |[],h=>by simp at h
 |(n,k')::r,h=>by
  rw[Gbl] at h;cases hx:x==n with
  |true=>rw[hx] at h;cases h;rw[GcU] at hx;subst hx;exact Gaf
  |false=>rw[hx] at h;exact Gac _ (mem_of_lookup h)
theorem nh{env:PySem.Env}{x:Str}:∀{names:List (Str×NameKind)},(∀y∈names,y.2≠ .cell)->((names.map λ(n,k)=>if(k==NameKind.free&&env.scope.kind== .function&&env.kindOf n==some .cell) then(n,NameKind.cell) else(n,k)).lookup x=some .cell\/
   (names.map λ(n,k)=>if(k==NameKind.free&&env.scope.kind== .function&&env.kindOf n==some .cell) then(n,NameKind.cell) else(n,k)).lookup x=some .free)->(x,NameKind.free)∈names
 |[],_,h=>by simp at h
 |(n,k)::r,hc,h=>by
  have hk:k≠ .cell:=hc (n,k) Gaf;rw[GaA] at h;dsimp only at h;split at h
  .rename_i q;have q1:k= .free:=by
    rw[Gan,Gan] at q
    simpa using q.1.1
   subst q1;rw[Gbl] at h;cases hx:x==n with
   |true=>rw[GcU] at hx;subst hx;exact Gaf
   |false=>rw[hx] at h;exact Gac _ (nh (λy hy=>hc y (Gac _ hy)) h)
  .rw[Gbl] at h;cases hx:x==n with
   |true=>
    rw[hx] at h;rw[GcU] at hx;subst hx
    rcases h with h|h
    .cases h;exact absurd rfl hk
    .cases h;exact Gaf
   |false=>rw[hx] at h;exact Gac _ (nh (λy hy=>hc y (Gac _ hy)) h)
theorem i0{env:PySem.Env}{x:Str}:∀{names:List (Str×NameKind)},names.lookup x=some .free->((names.map λ(n,k)=>if(k==NameKind.free&&env.scope.kind== .function&&env.kindOf n==some .cell) then(n,NameKind.cell) else(n,k)).lookup x=some .cell\/
   (names.map λ(n,k)=>if(k==NameKind.free&&env.scope.kind== .function&&env.kindOf n==some .cell) then(n,NameKind.cell) else(n,k)).lookup x=some .free)
 |[],h=>by simp at h
 |(n,k)::r,h=>by
  rw[Gbl] at h;rw[GaA];dsimp only;cases hx:x==n with
  |true=>
   rw[hx] at h;cases h
   split
   .left;rw[Gbl,hx]
   .right;rw[Gbl,hx]
  |false=>
   rw[hx] at h;split
   .rw[Gbl,hx];exact i0 h
   .rw[Gbl,hx];exact i0 h
noncomputable def blk(X:Cx)(scope:Scope)(cl:List (Str×Addr))(C:Addr)(N:List Str)(s:Shared)(H:Hp)(ex:List Addr):Cx:=
 {X with N:=N,s₀:=s,H0:=H,env:=compEnvC scope cl C X.env,outer:=X.stack,ex:=ex,fn:=λ_=>false,pn:=[],xe:=λ_ _=>False}
noncomputable def Pa:Option NameKind->Bool
 |some .cell=>true
 |some .free=>true
 |_=>false
structure l7(X:Cx)(scope:Scope)(N:List Str)(n:Nat)(ax:List Nat):Prop where
 cell:(scope.names.all λy=>y.2 != .cell)=true
 kind:scope.kind= .function
 names:(scope.names.all λy=>y.2 != .local||scope.names.lookup y.1==some .local)=true
 free:(scope.names.all λy=>y.2 != .free||Pa (X.env.kindOf y.1))=true
 cap:N.drop n=ax.map λi=>(X.N[i]?).getD ("":Str)
 le:n<=N.length
 lt:(ax.all λi=>decide (i<X.N.length))=true
 fr:((N.drop n).all λx=>scope.names.lookup x==some .free)=true
def qx(X:Cx)(ifs:List Expr)(tt:TT):Prop:=∀(e8:List (Addr×Obj)) (s:Shared) (Z:St) (H:Hp) (Q:Bool->Hp->Prop),Inv X e8 Z H s->tt Z H Q->
 wpAny (model X.prog X.w) X.A (forIn ifs true λc r=>if r=true then do let ok<-isTrue c X.env (eval c X.env);pure (ForInStep.yield ok) else pure (ForInStep.yield r)) (TP X e8 Z Q) X.xe s
variable{X:Cx}
theorem fu:qx X [] (tT X cT):=λe8 s Z H Q I ⟨_,_,_,_,_,e,k⟩=>by
 cases e;exact wpAny_tests_nil ⟨H,I,k H bu⟩
theorem fv{c:Expr}{t:DT}(h:PTd X c t):qx X [c] (tT X t):=λe8 s Z H Q I q=>wpAny_tests_one (h e8 s Z H Q I q)
variable{n j:Nat}{ax:List Nat}
theorem qy{α:Type}{f:Nat->Option α}{y:α}(h:(List.replicate n (none:Option α)++ax.map f)[j]? =some (some y)):∃i,ax[j -n]? =some i/\n<=j/\f i=some y:=by
 by_cases hj:j<n
 .rw[Gbu (by simpa using hj),GcD] at h;rw[Gah hj] at h;cases h
 .rw[Gbq (by simp;lia),GdE,Gaw] at h;cases q:ax[j -n]? with
  |none=>rw[q] at h;cases h
  |some i=>rw[q] at h;simp only[GbY,Gds] at h;exact⟨i,rfl,by lia,h⟩
theorem He{i:Nat}{α:Type}{f:Nat->Option α}(h1:ax[j -n]? =some i)(h2:n<=j):(List.replicate n (none:Option α)++ax.map f)[j]? =some (f i):=by
 rw[Gbq (by simp;lia),GdE,Gaw,h1];rfl
noncomputable def l8(n:Nat)(ax:List Nat)(Z:St):St:=List.replicate n none++ax.map λi=>Z[i]?.getD none
def mL(eC:Addr->Prop)(env:Env)(Z:St)(p:Addr):Addr->Prop:=λa=>a=p\/¬Cln eC env Z a
theorem getD_some{α:Type}{o:Option (Option α)}{y:α}(h:o.getD none=some y):o=some (some y):=by
 cases o with
 |none=>cases h
 |some z=>simp only[Option.getD_some] at h;rw[h]
variable{env:Env}
theorem Ab{sl:Slot}(e:(compEnv n ax env)[j]? =some (some sl)):∃i,ax[j -n]? =some i/\n<=j/\gY (env[i]?.getD none)=some sl:=qy e
variable{Z:St}
theorem Dg{a:Addr}(t:bH (compEnv n ax env)[j]?)(e:(l8 n ax Z)[j]? =some (some (.ref a))):∃i:Nat,bH env[i]? /\Z[i]? =some (some (.ref a)):=by
 cases q:(compEnv n ax env)[j]? with
 |none=>rw[q] at t;exact t.elim
 |some z=>
  cases z with
  |none=>rw[q] at t;exact t.elim
  |some sl=>
   obtain⟨i,e1,e2,e3⟩:=Ab q;obtain⟨i',yI,_,UH⟩:=qy e;rw[e1] at yI;cases yI
   refine⟨i, ?_,getD_some UH⟩;rw[q] at t;cases r:env[i]? with
   |none=>rw[r] at e3;cases e3
   |some z=>cases z with
    |none=>rw[r] at e3;cases e3
    |some z=>
     rw[r] at e3;cases z with
     |sh d=>cases e3;exact t.elim
     |own d=>trivial
     |lok d=>trivial
     |bor d=>trivial
theorem JQ:¬isO (compEnv n ax env)[j]? :=λt=>by
 match q:(compEnv n ax env)[j]?,t with
 |some (some (.own d)),_=>
  obtain⟨i,_,_,e3⟩:=Ab q;cases q:env[i]?.getD none with
  |none=>rw[q] at e3;cases e3
  |some z=>rw[q] at e3;cases z<;>cases e3
variable{p:Addr}{H H0:Hp}
theorem ay.block{K:aq}{eC:Addr->Prop}(E:ay K H0 eC env Z H)(n:Nat)(ax:List Nat)(hp:H p=none):
  ay K H (mL eC env Z p) (compEnv n ax env) (l8 n ax Z) (upd H p (.lst [])):=by
 have sm:cF H (upd H p (.lst [])):=bf hp;have slot:∀(j:Nat) (sl:Slot),(compEnv n ax env)[j]? =some (some sl)->∃i,ax[j -n]? =some i/\n<=j/\gY (env[i]?.getD none)=some sl:=λj sl e=>qy e;have noO:∀(j:Nat) d,(compEnv n ax env)[j]? ≠some (some (.own d))/\(compEnv n ax env)[j]? ≠some (some (.lok d)):=λj d=>by
  constructor<;>
  .intro e;obtain⟨i,_,_,e3⟩:=slot j _ e;cases q:env[i]?.getD none with
   |none=>rw[q] at e3;cases e3
   |some z=>rw[q] at e3;cases z<;>cases e3
 have topAd:∀(j:Nat) a,bH (compEnv n ax env)[j]? ->(l8 n ax Z)[j]? =some (some (.ref a))->∃i:Nat,bH env[i]? /\Z[i]? =some (some (.ref a)):=λj a t e=>Dg t e;have xI:∀b,Cln eC env Z b->H b≠none->Cln (mL eC env Z p) (compEnv n ax env) (l8 n ax Z) b:=λb h hb=>by
  refine⟨λz=> ?_,λj t e=> ?_⟩
  .rcases z with z|z
   .subst z;exact hb hp
   .exact z h
  .obtain⟨i,t',e'⟩:=topAd j b t e;exact h.2 i t' e'
 refine⟨sm, ?_, ?_, ?_, ?_, ?_, ?_⟩
 .simp[compEnv,l8]
 .intro a ha;rcases ha with ha|ha
  .subst ha;rw[b9];simp
  .intro z;refine ha ⟨λb=>E.bad a b (sm.free z),λi t e=>E.nU t e (sm.free z)⟩
 .intro j d e;obtain⟨i,e1,e2,e3⟩:=slot j _ e;have q:env[i]? =some (some (.sh d)):=by
   cases r:env[i]? with
   |none=>rw[r] at e3;cases e3
   |some z=>cases z with
    |none=>rw[r] at e3;cases e3
    |some z=>rw[r] at e3;cases z<;>cases e3;rfl
  obtain⟨v,h1,h2⟩:=E.sh i d q;refine⟨v, ?_,h2.gen (.of_same sm) xI⟩;unfold l8;rw[He e1 e2,h1];rfl
 .intro j d e;rcases e with e|e
  .exact absurd e (noO j d).1
  .exact absurd e (noO j d).2
 .intro j d e;obtain⟨i,e1,e2,e3⟩:=slot j _ e;have q:bH env[i]? /\(env[i]? =some (some (.own d))\/env[i]? =some (some (.lok d))\/env[i]? =some (some (.bor d))):=by
   cases r:env[i]? with
   |none=>rw[r] at e3;cases e3
   |some z=>cases z with
    |none=>rw[r] at e3;cases e3
    |some z=>
     rw[r] at e3;cases z with
     |sh d=>cases e3
     |own d=>cases e3;exact⟨trivial,.inl rfl⟩
     |lok d=>cases e3;exact⟨trivial,.inr (.inl rfl)⟩
     |bor d=>cases e3;exact⟨trivial,.inr (.inr rfl)⟩
  have fact:∃a,Z[i]? =some (some (.ref a))/\Wr H a/\d.top=true/\Inn K (Cln eC env Z) H d (.ref a):=by
   rcases q.2 with q|q|q
   .obtain⟨a,h1,_,_,h4,h5,h6⟩:=E.ow i d (.inl q);exact⟨a,h1,h4,h5,h6⟩
   .obtain⟨a,h1,_,_,h4,h5,h6⟩:=E.ow i d (.inr q);exact⟨a,h1,h4,h5,h6⟩
   .exact E.bo i d q
  obtain⟨a,h1,h4,h5,h6⟩:=fact;refine⟨a, ?_,h4.same sm,h5,h6.gen (.of_same sm) xI λ_ _ _ o e=>sm _ o e⟩;unfold l8;rw[He e1 e2,h1];rfl
 .intro j k a t;exfalso;cases q:(compEnv n ax env)[j]? with
  |none=>rw[q] at t;exact t
  |some z=>cases z with
   |none=>rw[q] at t;exact t
   |some z=>cases z with
    |sh d=>rw[q] at t;exact t
    |own d=>exact(noO j d).1 q
    |lok d=>exact(noO j d).2 q
    |bor d=>rw[q] at t;exact t
theorem ay.grow{K:aq}{eC:Addr->Prop}{vs us:List V}(E:ay K H0 eC env Z H)(hb:eC p)(h0:H0 p=none)(hp:H p=some (.lst vs))(hl:∀i:Nat,A5 env[i]? ->Z[i]? ≠some (some (.ref p))):ay K H0 eC env Z (upd H p (.lst us)):=by
 have j6:jN (Cln eC env Z) H (upd H p (.lst us)):=λb o e q=>by
  refine(aE ?_).trans e;rintro rfl;rcases q with q|q
  .exact q.1 hb
  .rw[hp] at e;cases e;exact q
 have wr:∀{a},Wr H a->Wr (upd H p (.lst us)) a:=λ{a} ⟨o,h1,h2⟩=>by
  by_cases z:a=p
  .subst z;exact⟨_,b9,trivial⟩
  .exact⟨o,(aE z).trans h1,h2⟩
 refine⟨λb o e=>(aE λz=>by subst z;rw[h0] at e;cases e).trans (E.same b o e),E.len,λa ha=> ?_,λi d e=> ?_,λi d e=> ?_,λi d e=> ?_,E.dj⟩
 .by_cases z:a=p
  .subst z;rw[b9];simp
  .rw[aE z];exact E.bad a ha
 .obtain⟨v,h1,h2⟩:=E.sh i d e;exact⟨v,h1,h2.gen j6 λ_ f _=>f⟩
 .obtain⟨a,h1,h2,h3,h4,h5,h6⟩:=E.ow i d e;refine⟨a,h1,h2,h3,wr h4,h5,h6.gen j6 (λ_ f _=>f) λb eb _ o q=> ?_⟩;cases eb;exact(aE (λz:a=p=>h3 (by rw[z];exact hb))).trans q
 .obtain⟨a,h1,h4,h5,h6⟩:=E.bo i d e;refine⟨a,h1,wr h4,h5,h6.gen j6 (λ_ f _=>f) λb eb _ o q=> ?_⟩;cases eb;exact(aE (λz:a=p=>hl i (by rw[e];trivial) (by rw[<-z];exact h1))).trans q
theorem ex7{a b c d e f g:Type}{P:a->b->c->d->e->f->g->Prop}{G:Prop}(h:∀x1 x2 x3 x4 x5 x6 x7,P x1 x2 x3 x4 x5 x6 x7->G):(∃x1 x2 x3 x4 x5 x6 x7,P x1 x2 x3 x4 x5 x6 x7)->G:=λ⟨x1,x2,x3,x4,x5,x6,x7,q⟩=>h x1 x2 x3 x4 x5 x6 x7 q
structure CoI(X:Cx)(scope:Scope)(cl:List (Str×Addr))(C:Addr)(N:List Str)(s:Shared)(H:Hp)(fp:List Addr)(tn:Nat->Heap->Prop)(eC:Addr->Prop)(env:Env)(Z:St)(p:Addr)(gd:DG)(t:DT)(f:DE)(ds rs:List D)(m:Nat)(s' :Shared)(i:Nat)(Zi:St)(Hi:Hp)(eK:Env)(vs:List V)(done rest:List D):Prop where
 em:m=ds.length -i
 hi:i<=ds.length
 Ii:Inv (blk X scope cl C N s H fp) [] Zi Hi s'
 sti:tn i s'.heap
 fri:∀b∈fp,Hi b=none
 Ei:ay X.K H (mL eC env Z p) eK Zi Hi
 hpi:Hi p=some (.lst vs)
 ri:aJ X.K (λb=>Cln eC env Z b/\b≠p) Hi done vs
 owi:∀j:Nat,¬isO eK[j]?
 lbi:∀(j:Nat) a,A5 eK[j]? ->Zi[j]? =some (some (.ref a))->¬Cln eC env Z a
 dl:done.length<=i
 ci:bF gd t f (ds.drop i) eK=some rest
 eqi:done++rest=rs
section
variable{X:Cx}{pos:Pos}
variable{x:Str}{scope:Scope}
theorem iG{env:PySem.Env}(h:scope.names.lookup x=some .local):(relabel scope env).names.lookup x=some .local:=lookup_relabel_local h
variable{ex:List Addr}{H:Hp}{s:Shared}{N:List Str}{C:Addr}{cl:List (Str×Addr)}
theorem br(h:scope.names.lookup x=some .local):Vis (blk X scope cl C N s H ex).env.scope x:= .inl (iG h)
theorem aK(h:scope.names.lookup x=some .local):Loc (blk X scope cl C N s H ex).env.scope x:= .inl (iG h)
theorem bO(h:scope.names.lookup x=some .free):Vis (blk X scope cl C N s H ex).env.scope x:= .inr (i0 h)
variable{fp:List Addr}{Z:St}{e8:List (Addr×Obj)}{ax:List Nat}{n:Nat}
theorem EX{h₁:Heap}{tk:Nat}(S:l7 X scope N n ax)(I:Inv X e8 Z H s)
  (yQ:∀x c,cl.lookup x=some c->X.env.cells.lookup x=some c)(Rt:∀y∈scope.names,y.2= .free->∃c,cl.lookup y.1=some c)(hf:∀b∈fp,kB X e8 H b)(Ru:∀b∈fp,b<s.heap.objs.size)
  (hC:s.heap.objs.size+1=C)(zA:h₁.Ns C λ_=>none)(old:∀b o,s.heap.get? b=some o->h₁.get? b=some o)(zo:h₁.get? s.heap.objs.size=some {cls:= .type "list",data:= .seq ([]:List Value).toArray}):
  Inv (blk X scope cl C N s H fp) [] (l8 n ax Z) (upd H s.heap.objs.size (.lst [])) {s with heap:=h₁,toks:=tk}:=by
 have yY:=I.fresh;have hCn:H C=none:=I.hok.fresh (by lia);have xM:C≠s.heap.objs.size:=λz=>by rw[z] at hC;exact Nat.succ_ne_self _ hC
 have xy:∀y∈scope.names,y.2≠ .cell:=λy hy z=>by
  have:=Gap.mp S.cell y hy;rw[z] at this;simp at this
 have cells:∀x c,cl.lookup x=some c->∃v,s.heap.IsCell c v:=λx c e=>I.cell x c (yQ x c e);have cNe:∀x c,cl.lookup x=some c->c≠s.heap.objs.size:=λx c e z=>by
  obtain⟨v,q⟩:=cells x c e;exact absurd q.lt (by rw[z];exact Gbv _)
 refine⟨⟨I.ok.mod,S.kind,I.ok.glob,I.ok.blt,by show s.heap.objs.size<=C;lia,λx y c e1 e2=>I.ok.inj x y c (yQ x c e1) (yQ y c e2),λx hx=> ?_,λx c e=>(by cases e),I.ok.hd,I.ok.frames,.inl rfl,λb hb=> ⟨?_,λx c e=>(hf b hb).2.2.2.2.1 x c (yQ x c e)⟩,
  I.bs,Gbf I.ok.bsz I.sz,λb o e hb=> ?_,λb hb hs=> ?_,I.stack,I.CU⟩,rfl,I.bare,Un.laid old (Gaq _) yY,⟨_,zA,λj x v e1 e2 e3=> ?_⟩,λx c e=> ?_,(aE xM).trans hCn,λx c e=>(aE (cNe x c e)).trans (I.lO x c (yQ x c e)),λp hp=> ?_, ?_, ?_⟩
 .obtain⟨c,hc⟩:=Rt (x,.free) (nh xy hx) rfl;exact⟨c,hc⟩
 .intro z;have:=Ru b hb;have z' :b=C:=z;rw[z',<-hC] at this;exact Gbv _ (Nat.lt_of_succ_lt this)
 .rcases(hf b hb).2.2.2.1 with z|z
  .exact I.ok.IY b o e z
  .exact absurd (GaG (Gau e) (Gbf I.ok.bsz z)) (Gbv _)
 .have yi :b∈frs X.stack:=hs;rcases Gar.mp (I.BA b yi) with z|z
  .exact(hf b hb).2.1 z
  .exact(hf b hb).2.2.1 z
 ·
  obtain⟨i,f1,f2,f3⟩:=qy e2;have f3' :=getD_some f3;have yI :N[j]? =some x:=e1;have hd:(N.drop n)[j -n]? =some x:=by rw[Gdj];rw[show n+(j -n)=j by lia];exact yI
  have hxf:scope.names.lookup x=some .free:=by
   have:=Gap.mp S.fr x (GaE hd)
   simpa using this
  rw[S.cap,Gaw,f1] at hd;have hi:i<X.N.length:=Gao (Gap.mp S.lt i (GaE f1));have hXN:X.N[i]? =some x:=by
   simp only[GbY,Gds] at hd;rw[Gad hi] at hd⊢
   simpa using hd
  have hk:Pa (X.env.kindOf x)=true:=by
   have:=Gap.mp S.free (x,.free) (mem_of_lookup hxf)
   simpa using this
  have xE :X.env.kindOf x=some .cell\/X.env.kindOf x=some .free:=by
   cases q:X.env.kindOf x with
   |none=>rw[q] at hk;cases hk
   |some z=>rw[q] at hk;cases z<;>first|(cases hk;done)|exact .inl rfl|exact .inr rfl
  obtain⟨m,hm,look⟩:=I.loc;have hv:Vis X.env.scope x:= .inr xE;obtain⟨u,ru,l⟩:=look i x v hXN f3' hv;refine⟨u,ru,.inr ⟨?_, ?_⟩⟩
  .exact i0 hxf
  .rcases l with⟨l,_⟩| ⟨_,c,hc,o,ho,zi⟩
   .rcases xE with z|z<;>rw[l] at z<;>cases z
   .obtain⟨c',yD⟩:=Rt (x,.free) (mem_of_lookup hxf) rfl;have:=yQ x c' yD;rw[hc] at this;cases this
    exact⟨c,yD,o,old _ _ ho,zi⟩
 .obtain⟨v,o,ho,zi⟩:=cells x c e;exact⟨v,o,old _ _ ho,zi⟩
 .cases hp
 .exact I.hok.laid old (Gaq _) ⟨Gbk _,[],0,.nil,zo⟩
 .show(l8 n ax Z).length=N.length;have:=congrArg List.length S.cap;rw[GcS,Gab] at this;have:=S.le;simp[l8];lia
theorem JR{yo :List (Addr×Obj)}{Z' :St}{H' :Hp}{s' :Shared}(I:Inv X e8 Z H s)(hf:∀b∈fp,kB X e8 H b)
  (I' :Inv (blk X scope cl C N s H fp) yo Z' H' s'):Inv X e8 Z H' s' :=
 I.Gd I'.os I'.base I'.hok I'.bare λb hb=> ⟨(hf b hb).2.2.2.1,(hf b hb).2.1,(hf b hb).2.2.2.2.1,(hf b hb).2.2.2.2.2⟩
def Pb(K:aq)(H H' :Hp)(F:Addr->Prop)(p:Addr)(rs:List D):Prop:=cF H H' /\H p=none/\∃vs,H' p=some (.lst vs)/\aJ K (λb=>F b/\b≠p) H' rs vs
def Dh(gd:DG):Prop:=∀d e e',gd d e=some e' ->(∀j:Nat,¬isO e[j]?)->∀j:Nat,¬isO e'[j]?
variable{i:Nat}
theorem JS{e:Env}{d:D}(h:∀j:Nat,¬isO e[j]?):∀j:Nat,¬isO (e.set i (some (.sh d)))[j]? :=λj z=>by
 by_cases q:i=j
 .subst q;by_cases hl:i<e.length
  .rw[GaZ hl] at z;exact z
  .rw[Gbw (by simp;lia)] at z;exact z
 .rw[Gak q] at z;exact h j z
theorem bP:Dh (gN i):=λd e e' h n=>by cases h;exact JS n
theorem uq{H0:Hp}{it:Addr}{tn:Nat->Heap->Prop}{J:It}{tg iter elt:Expr}{ifs:List Expr}{E:Value->Shared->Prop}
  {gd:DG}{t:DT}{f:DE}{ds rs:List D}{eC:Addr->Prop}{env:Env}{RR:Value->Addr->Result->Shared->Prop}(hc:X.calm=true)(S:l7 X scope N n ax)(I:Inv X e8 Z H s)
  (yQ:∀x c,cl.lookup x=some c->X.env.cells.lookup x=some c)(Rt:∀y∈scope.names,y.2= .free->∃c,cl.lookup y.1=some c)(hf:∀b∈fp,kB X e8 H b)(T:Turn X.prog X.w X.K tg J fp it tn)(st:tn 0 s.heap)
  (hg:∀C s' H',PGd (blk X scope cl C N s' H' fp) tg gd)(ht:∀C s' H',qx (blk X scope cl C N s' H' fp) ifs (tT X t))(he:∀C s' H',PEd (blk X scope cl C N s' H' fp) elt f)
  (EE:ay X.K H0 eC env Z H)(io:GU X.K (λb=>Cln eC env Z b/\H b≠none) (λb=>¬Ow env Z b) J ds H)(zT:Dh gd)(hz:ds.length<=a9)(hl:bF gd t f ds (compEnv n ax env)=some rs)
  (Ux:∀p C s' H' m,Inv X e8 Z H' s' ->s'.heap.Ns C m->s.heap.objs.size<=C->kB X e8 H' C->Pb X.K H H' (Cln eC env Z) p rs->RR (.ref p) C (.ok .next) s'):
  wpAny (model X.prog X.w) X.A (newList []) (λacc s₃=>wpAny (model X.prog X.w) X.A (newFunctionEnv scope X.env.globals cl [] X.env.qual none .none (some X.env)) (λR5 s₄=>
   codeAny (model X.prog X.w) X.A (.compStart (.ListComp elt [⟨tg,iter,ifs,0⟩] scope pos) 0 (.ref it) acc {R5 with scope:=relabel scope X.env}) (RR acc R5.locals) s₄) E s₃) E s:=by
 have xy:∀y∈scope.names,y.2≠ .cell:=λy hy z=>by
  have:=Gap.mp S.cell y hy;rw[z] at this;simp at this
 refine Gbn (wpAny_newFunctionEnv xy (by intro y hy;simp at hy) (λh₁ hns₁ hsb₁=> ?_) S.kind);dsimp only at hns₁ hsb₁⊢;generalize yy:s.heap.push {cls:= .type "list",dict:=none,data:= .seq ([]:List Value).toArray}=H2 at hns₁ hsb₁⊢;have hC:s.heap.objs.size+1=H2.objs.size:=by rw[<-yy,Gcu]
 have hDC:s.heap.objs.size≠H2.objs.size:=by rw[<-hC];exact GaH (Gcy _)
 have hCle:s.heap.objs.size<=H2.objs.size:=by rw[<-hC];exact Gck _
 have old:∀b o,s.heap.get? b=some o->h₁.get? b=some o:=λb o e=>hsb₁.extBut b o (by rw[<-hC];exact GaH (Gcc (Gau e))) (Gaj _ (yy▸Gaj _ e));have zo:h₁.get? s.heap.objs.size=some {cls:= .type "list",data:= .seq ([]:List Value).toArray}:=hsb₁.extBut _ _ hDC (Gaj _ (yy▸GaD _ rfl));have Ru:∀b∈fp,b<s.heap.objs.size:=λb hb=>by obtain⟨o,e,_⟩:=T.obj 0 _ st b hb;exact Gau e
 have st₁:tn 0 h₁:=T.keep 0 _ _ st λb _ o e=>old b o e;have yY:=I.fresh;generalize hC' :H2.objs.size=C at*;have I1:Inv (blk X scope cl C N s H fp) [] (l8 n ax Z) (upd H s.heap.objs.size (.lst [])) {s with heap:=h₁,toks:=s.toks+([]:List (Str×Value)).length}:=EX S I yQ Rt hf Ru hC (by
  have z:(λx:Str=>([]:List (Str×Value)).reverse.lookup x)=λ_=>none:=by funext x;rfl
  rw[z] at hns₁;exact hns₁) old zo
 have E1:=EE.block n ax yY;generalize hp:s.heap.objs.size=p at*;have loop:codeAny (model X.prog X.w) X.A (.compLoop (.ListComp elt [⟨tg,iter,ifs,0⟩] scope pos) 0 (.ref it) (.ref p) (compEnvC scope cl C X.env)) (RR (.ref p) C) {s with heap:=h₁,toks:=s.toks+([]:List (Str×Value)).length}:=by
  refine codeAny_loop rfl (λm s' =>∃i Zi Hi eK vs done rest,CoI X scope cl C N s H fp tn eC env Z p gd t f ds rs m s' i Zi Hi eK vs done rest) ?_ ds.length ?_
  .refineλm s' =>ex7 λi Zi Hi eK vs done rest J0=> ?_
   have e0:=J0.em;subst e0;have hi:=J0.hi;have Ii:=J0.Ii;have sti:=J0.sti;have fri:=J0.fri;have Ei:=J0.Ei;have hpi:=J0.hpi;have ri:=J0.ri;have owi:=J0.owi;have lbi:=J0.lbi;have dl:=J0.dl;have ci:=J0.ci;have eqi:=J0.eqi;have hfi:∀{H' :Hp},(∀b∈fp,H' b=none)->∀b∈fp,kB (blk X scope cl C N s H fp) [] H' b:=λhn b hb=>by
    refine⟨hn b hb,(Ii.ok.exf b hb).1,Ii.ok.IZ b hb,.inl hb,(Ii.ok.exf b hb).2,λq hq=>(by cases hq)⟩
   have yp:∀b o,H b=some o->Hi b=some o:=Ei.same;obtain⟨items,stop⟩:=io Hi λb o hb _=>yp b o hb;show wpAny _ X.A ((compTurn (.ListComp elt [⟨tg,iter,ifs,0⟩] scope pos) 0 (.ref it) (.ref p) (compEnvC scope cl C X.env)).onRaise (λx=>do noteFrame x (compEnvC scope cl C X.env);theTreesLotGoes x)) _ _ s';refine wpAny_noted ?_;rw[compTurn_list];refine Gaa (wpAny_standAt (Gaa ?_));by_cases hX:i<ds.length
   .obtain⟨go,yld⟩:=items i ds[i] (by simp[hX]);refine thn (T.item (blk X scope cl C N s H fp) rfl rfl rfl hc i [] s' Zi Hi _ Ii (hfi fri) sti go) λr s4 ⟨u,hr,h4⟩=> ?_;subst hr;refine Gaa (thn h4 λ_ s5 ⟨x,H5,I5,r5,y5,yV,Sg⟩=> ?_);obtain⟨s2,rep⟩:=yld x H5 y5;have I5' :=I5.pinned (hfi Sg) (T.obj _ _ yV);have hd:ds.drop i=ds[i]::ds.drop (i+1):=Gdb hX;rw[hd] at ci;unfold bF at ci;obtain⟨e2,yP,ci⟩:=eA ci;obtain⟨bb,xj,ci⟩:=eA ci;have clnIn:∀b,Cln eC env Z b/\H b≠none->Cln (mL eC env Z p) eK Zi b:=λb ⟨q1,q2⟩=>by
     refine⟨λz=>z.elim (λz=>q2 (by rw[z];exact yY)) λz=>z q1,λj tj ej=> ?_⟩;rcases uf tj with o|o
     .exact owi j o
     .exact lbi j b o ej q1
    refine Gaa (thn (Gci (hg C s H _ s5 Zi H5 x u (λZ6 H6=>ay X.K H (mL eC env Z p) e2 Z6 H6/\Stp eK Zi H5 e2 Z6 H6) I5' r5 ⟨H,mL eC env Z p,eK,ds[i],e2,Ei.mono s2,yP,rep.imp clnIn,λZ' H' E' p' => ⟨E',p'⟩⟩) (λ_ _ q=>q) λ_ _ q=>q.elim) λ_ s6 ⟨Z6,H6,I6,E6,p6⟩=> ?_);have RG:=zT _ _ _ yP owi;have s56:cF H5 H6:=λb o e=>p6.keep b o e λ⟨j,z,_⟩=>owi j z;have Sz:∀(j:Nat) a,A5 e2[j]? ->Z6[j]? =some (some (.ref a))->¬Cln eC env Z a:=λj a z ej=>by
     obtain⟨q1,q2⟩:=p6.lk j z;rw[q1] at z;rw[q2] at ej
     exact lbi j a z ej
    have again:∀{H7:Hp} {s7:Shared} {R7 :List V} {y1 xU :List D},Inv (blk X scope cl C N s H fp) ([]++qF fp s5.heap) Z6 H7 s7->ay X.K H (mL eC env Z p) e2 Z6 H7->H7 p=some (.lst R7)->aJ X.K (λb=>Cln eC env Z b/\b≠p) H7 y1 R7 ->
      y1.length<=i+1->bF gd t f (ds.drop (i+1)) e2=some xU ->y1 ++xU =rs->
      ∃m,m<ds.length -i/\∃i Zi Hi eK vs done rest,CoI X scope cl C N s H fp tn eC env Z p gd t f ds rs m s7 i Zi Hi eK vs done rest:=by
     intro H7 s7 R7 y1 xU I7 E7 Rl r7 UJ c7 q7;refine⟨ds.length -(i+1),by lia,i+1,Z6,H7,e2,R7,y1,xU,⟨rfl,hX,I7.nL,T.keep _ _ _ yV λb hb o e=>(I7.pin (b,o) (GaQ _ (GaQ _ (jJ hb e)))).1,λb hb=> ?_,E7,Rl,r7,RG,Sz,UJ,c7,q7⟩⟩;obtain⟨o,e,d⟩:=T.obj _ _ yV b hb;exact(I7.pin (b,o) (GaQ _ (GaQ _ (jJ hb e)))).2.1
    refine Gaa (thn (Gci (ht C s H _ s6 Z6 H6 (λb' H7=>b' =bb/\cF H6 H7) I6 ⟨H,mL eC env Z p,e2,bb,E6,xj,λH' s' => ⟨rfl,s'⟩⟩) (λ_ _ q=>q) λ_ _ q=>q.elim) λok s7 ⟨H7,I7,hok,Su⟩=> ?_);subst hok;have sAll:cF Hi H7:=s2.trans (s56.trans Su);have E7:=E6.mono Su;have Rl:H7 p=some (.lst vs):=sAll _ _ hpi;have r7:=ri.gen (F' :=λb=>Cln eC env Z b/\b≠p) (.of_same sAll) λ_ q _=>q;cases ok with
    |false=>
     rw[Gag Gal] at ci;exact Gae ⟨rfl,again I7 E7 Rl r7 (Nat.le_succ_of_le dl) ci eqi⟩
    |true=>
     rw[Gah rfl] at ci;obtain⟨r,hr,ci⟩:=eA ci;split at ci
     .rename_i yq;obtain⟨xU,c8,rfl⟩:=Gas.mp ci;refine Gaa (Gaa (thn (Gci (he C s H _ s7 Z6 H7 (λv H8=>cF H7 H8/\j9 X.K H (mL eC env Z p) e2 Z6 H7 H8 r v) I7 ⟨H,mL eC env Z p,e2,r,E7,hr,λv H' s' R=> ⟨s',R⟩⟩) (λ_ _ q=>q) λ_ _ q=>q.elim) λy s8 ⟨v,H8,I8,ry,RE,R⟩=> ?_));have E8:=E7.mono RE;have RS:H8 p=some (.lst vs):=RE _ _ Rl;have r8:=(r7.gen (F' :=λb=>Cln eC env Z b/\b≠p) (.of_same RE) λ_ q _=>q)
      have vr:Rep X.K (λb=>Cln eC env Z b/\b≠p) H8 r.d v:=(R.rep E7 yq).imp λb q=> ⟨Gct λz=>q.1 (.inr z),λz=>q.1 (.inl z)⟩;have eJ:vs.length<sizeLine:=by
       rw[<-eP,<-ri.1];lia
      refine Gaa (thn (Gci (u9 (X:=blk X scope cl C N s H fp) _ s8 Z6 H8 (.ref p) [v] (.ref p) [y] (λ_ H9=>H9=upd H8 p (.lst (vs++[v]))) I8 rfl (.cons ry .nil) ⟨p,vs,v,rfl,rfl,RS,eJ,rfl⟩) (λ_ _ q=>q) λ_ _ q=>q.elim) λ_ s9 ⟨_,H9,I9,_,h9⟩=> ?_);subst h9;have lbp:∀j:Nat,A5 e2[j]? ->Z6[j]? ≠some (some (.ref p)):=λj z ej=>Sz j p z ej (EE.vF yY);have j6:jN (λb=>Cln eC env Z b/\b≠p) H8 (upd H8 p (.lst (vs++[v]))):=λb o e q=>by
       refine(aE ?_).trans e;rintro rfl;rcases q with q|q
       .exact q.2 rfl
       .rw[RS] at e;cases e;exact q
      refine Gae (Gae ⟨rfl,again I9 (E8.grow (.inl rfl) yY RS lbp) b9 ((r8.append (aJ.cons vr .nil)).gen j6 λ_ q _=>q) (by simp;lia) c8 ?_⟩);rw[<-eqi,Gba];rfl
     .cases ci
   .have xa :i=ds.length:=by lia
    subst xa;rw[List.drop_length] at ci;cases ci;rw[GaV] at eqi;subst eqi;refine thn (T.done (blk X scope cl C N s H fp) rfl rfl rfl hc ds.length [] s' Zi Hi _ Ii (hfi fri) sti stop) λr s4 ⟨hr,I4⟩=> ?_;subst hr;obtain⟨m,hm,_⟩:=I4.loc;have IX:=JR I hf I4;exact Gae (Ux p C s4 Hi m IX hm hCle ⟨I4.free,(I.Ey (by rw[hp];exact hCle) (I.hok.fresh (by rw[hp];exact hCle))).2⟩ ⟨yp,yY,vs,hpi,ri⟩)
  .exact⟨0,_,_,_,[],[],rs,⟨by simp,Gbk _,I1,st₁,λb hb=>(aE (by rintro rfl;exact Gbv _ (Ru _ hb))).trans (hf b hb).1,E1,b9,aJ.nil,λj=>JQ,λj a z e=>by
    obtain⟨i,t1,t2⟩:=Dg z.top e
    exactλq=>q.2 i t1 t2,Gaq _,by simpa using hl,rfl⟩⟩
 exact codeAny_compStart_list loop (T.self X.A 0 _ _ _ st₁ loop)
end
section
variable{X:Cx}{pos:Pos}
variable{l:Option Nat}{ax:List Nat}{n:Nat}
theorem nZ{env:Env}:compEnv n ax (bc l env)=compEnv n ax env:=by
 cases l with
 |none=>rfl
 |some j=>
  unfold bc;dsimp only;split
  .rename_i d q;unfold compEnv;congr 1;apply GaT;intro i _;by_cases z:j=i
   .subst z;rw[GaZ (Gam.mp q).1,q];rfl
   .rw[Gak z]
  .rfl
theorem l7.cells{scope:Scope}{N:List Str}{n:Nat}{ax:List Nat}{e8:List (Addr×Obj)}{Z:St}{H:Hp}{s:Shared}(S:l7 X scope N n ax)(I:Inv X e8 Z H s):∀y∈scope.names,y.2= .free->∃c,X.env.cells.lookup y.1=some c:=λy hy hf=>by
 have hk:=Gap.mp S.free y hy;rw[hf] at hk;simp only[bne_self_eq_false,Bool.false_or] at hk;refine I.ok.has y.1 ?_;cases q:X.env.kindOf y.1 with
 |none=>rw[q] at hk;cases hk
 |some z=>rw[q] at hk;cases z<;>first|(cases hk;done)|exact .inl rfl|exact .inr rfl
variable{N:List Str}{scope:Scope}
theorem l7.Hf(S:l7 X scope N n ax):∀y∈scope.names,y.2= .local->scope.names.lookup y.1=some .local:=λy hy hl=>by
 have:=Gap.mp S.names y hy;rw[hl] at this
 simpa using this
structure Blk(X:Cx)(scope:Scope)(N:List Str)(tg elt:Expr)(ifs:List Expr)(gd:DG)(t:DT)(f:DE):Prop where
 g:∀cl C s H ex,PGd (blk X scope cl C N s H ex) tg gd
 t:∀cl C s H ex,qx (blk X scope cl C N s H ex) ifs (tT X t)
 e:∀cl C s H ex,PEd (blk X scope cl C N s H ex) elt f
theorem _root_.L2.Inv.Lo{e8:List (Addr×Obj)}{Z:St}{H:Hp}{s:Shared}{C:Addr}{h' :Heap}(I:Inv X e8 Z H s)(F:kB X e8 H C)(hs:Heap.SameBut C s.heap h'):Inv X e8 Z H {s with heap:=h' }:=
 I.turned (t' :=s.toks) (λb o hb e=>(hs.2 b hb).trans e) F.1 F.2.1 F.2.2.2.1 F.2.2.2.2.1 F.2.2.2.2.2
variable{f:DE}{gd:DG}{ifs:List Expr}{tg iter elt:Expr}
theorem dZ{src:DI}{t:DT}(hc:X.calm=true)(S:l7 X scope N n ax)(hi:PId X tg iter src)(zT:Dh gd)(B:Blk X scope N tg elt ifs gd t f)
  (hs:∀x,foldedSetIterable iter X.env x=pure x:=by intro _;rfl):PEd X (.ListComp elt [⟨tg,iter,ifs,0⟩] scope pos) (ft l n ax src gd t f):=by
 intro e8 s Z H Q I hw;obtain⟨H0,eC,env,r,E,e,k⟩:=hw;unfold ft at e;obtain⟨ds,yb,e⟩:=eA e;split at e
 .rename_i hz;obtain⟨rs,yB,rfl⟩:=Gas.mp e;obtain⟨EL,lo,xA⟩:=E.lock l;obtain⟨cl,h1,h2,h3⟩:=mK (S.cells I);rw[eval_ListComp];refine wpAny_comprehension_free (use:=none) rfl hs h1 S.kind S.Hf ?_;refine thn (hi e8 s Z H (λJ H' =>cF H H' /\GU X.K (λb=>Cln eC (bc l env) Z b/\H' b≠none) (λb=>¬Ow (bc l env) Z b) J ds H') I ⟨H0,eC,bc l env,ds,EL,yb,λJ H' s' io=> ⟨s',io⟩⟩) λv s1 q1=>thn q1 λRf s2 q2=> ?_;obtain⟨it,fp,tn,J,H2,e,I2,T,zG,f2,sH,io⟩:=q2;subst e;refine uq (RR:=λacc C=>compPost (model X.prog X.w) X.A X.xe none (EP X e8 Z Q) acc C) hc S I2 h2 h3 f2 T zG (λC s' H' =>B.g cl C s' H' fp) (λC s' H' =>B.t cl C s' H' fp) (λC s' H' =>B.e cl C s' H' fp) (EL.mono sH) io zT hz (by rw[nZ];exact yB) ?_;intro p C s' H' m IX hm hC hF G;refine⟨m,hm,λh' yi => ⟨.ref p,H',IX.Lo hF yi,rfl, ?_⟩⟩;obtain⟨g1,g2,vs,g3,g4⟩:=G;exact k _ H' (sH.trans g1) ⟨p,rfl,sH.free g2,⟨_,g3,trivial⟩,rfl,.lst (.inl g3) (g4.gen (.of_same bu) λb q _=> ⟨⟨q.1.1,λi ti ei=>q.1.2 i ((xA i).mpr ti) ei⟩,q.2⟩)⟩
 .cases e
theorem qz{i:Nat}{x:Str}{pos' yX:Pos}{src:DI}{t:DT}(hN:X.N.Nodup)(xa :X.N[i]? =some x)(hx:Loc X.env.scope x)(hc:X.calm=true)(S:l7 X scope N n ax)
  (hi:PId X tg iter src)(zT:Dh gd)(B:Blk X scope N tg elt ifs gd t f)
  (U5:autoParam (swapsWith (.ListComp elt [⟨tg,iter,ifs,0⟩] scope yX) (some (.Name x pos')) pos.line X.env=pure true) Za1._auto_1)(hs:∀x,foldedSetIterable iter X.env x=pure x:=by intro _;rfl)
  (hf:autoParam (X.fn x=true\/X.env.scope.names.lookup x=some .local) Za3._auto_1):PSd X (.Assign [.Name x pos'] (.ListComp elt [⟨tg,iter,ifs,0⟩] scope yX) pos) (ar i (ft l n ax src gd t f)):=by
 intro e8 s Z H D I hw;have hl:=I.len;obtain⟨H0,eC,env,o,E,e,k⟩:=hw;obtain⟨r,hr,e⟩:=eA e;obtain⟨e',yh,rfl⟩:=Gas.mp e;have hie:i<env.length:=GR E hl xa;unfold ft at hr;obtain⟨ds,yb,hr⟩:=eA hr;split at hr
 .rename_i hz;obtain⟨rs,yB,rfl⟩:=Gas.mp hr;cases yh;obtain⟨EL,lo,xA⟩:=E.lock l;obtain⟨cl,h1,h2,h3⟩:=mK (S.cells I);rw[exec_Assign_Name_used _ _ _ _ U5];refine Gaa (wpAny_standAt (Gaa ?_));show wpAny _ X.A (do let _<-comprehension (.ListComp elt [⟨tg,iter,ifs,0⟩] scope yX) scope X.env _ (newList []) false (eval iter X.env) (some (assign (.Name x pos') X.env))) _ _ s;refine Gaa (Gci (wpAny_comprehension_free (use:=some (assign (.Name x pos') X.env)) (Q:=λ_ s' =>SP X e8 D .next s') rfl hs h1 S.kind S.Hf ?_) (λ_ s' hq=>Gae (Gae hq)) λ_ _ e=>e);refine thn (hi e8 s Z H (λJ H' =>cF H H' /\GU X.K (λb=>Cln eC (bc l env) Z b/\H' b≠none) (λb=>¬Ow (bc l env) Z b) J ds H') I ⟨H0,eC,bc l env,ds,EL,yb,λJ H' s' io=> ⟨s',io⟩⟩) λv s1 q1=>thn q1 λRf s2 q2=> ?_;obtain⟨it,fp,tn,J,H2,e,I2,T,zG,f2,sH,io⟩:=q2;subst e;refine uq (RR:=λacc C=>compPost (model X.prog X.w) X.A X.xe (some (assign (.Name x pos') X.env)) (λ_ s' =>SP X e8 D .next s') acc C) hc S I2 h2 h3 f2 T zG (λC s' H' =>B.g cl C s' H' fp) (λC s' H' =>B.t cl C s' H' fp) (λC s' H' =>B.e cl C s' H' fp) (EL.mono sH) io zT hz (by rw[nZ];exact yB) ?_;intro p C s' H' m IX hm hC hF G;obtain⟨g1,g2,vs,g3,g4⟩:=G;show wpAny _ X.A (assign (.Name x pos') X.env (.ref p)) _ _ _;refine wpAny_assign_Name (tV IX hN xa hx (v:= .ref p) rfl (λR9 I'' ⟨a,U6,ha⟩=> ?_) hf);have hCa:C≠a:=by
   rcases ha with ha|ha
   .rw[ha];exact hF.2.1
   .exactλz=>hF.2.2.2.2.1 x a ha z.symm
  refine⟨m,hm.sameBut U6 hCa,λh' yi => ⟨_,H',I''.Lo hF yi, ?_⟩⟩;exact k _ H' (E.qX (sH.trans g1) hie (sH.free g2) ⟨_,g3,trivial⟩ rfl (.lst (.inl g3) (g4.gen (.of_same bu) λb q _=> ⟨⟨q.1.1,λi ti ei=>q.1.2 i ((xA i).mpr ti) ei⟩,q.2⟩))) (.qX (sH.trans g1) hie E.len (sH.free g2))
 .cases hr
end
section
variable{X:Cx}{scope:Scope}{cl:List (Str×Addr)}{C:Addr}{N:List Str}{s:Shared}{H:Hp}{ex:List Addr}{x:Str}
theorem bT(h:N.Nodup):(blk X scope cl C N s H ex).N.Nodup:=h
theorem bU(h:scope.names.lookup x=some .local):(blk X scope cl C N s H ex).fn x=true\/(blk X scope cl C N s H ex).env.scope.names.lookup x=some .local:= .inr (iG h)
end
section
variable{X:Cx}{e a b c:Expr}{f g h:DE}{pos:Pos}
def tO(X:Cx)(o:DO):TO:=λZ H Q=>∃H0 eC env i,ay X.K H0 eC env Z H/\o env=some i/\∀H',cF H H' ->Q i H'
theorem _root_.L2.PO.aF{e:Option Expr}{t t' :TO}(h:PO X e t')(i:∀Z H Q,t Z H Q->t' Z H Q):PO X e t:=λe8 s Z H Q I q=>h e8 s Z H Q I (i Z H Q q)
theorem ur:PO X none (tO X noO):=Jk.aF λZ H Q ⟨_,_,_,_,_,e,k⟩=>by cases e;exact k H bu
theorem uu(he:PEd X e f):PO X (some e) (tO X (GF f)):=by
 refine(Jl he).aF ?_;rintro Z H Q ⟨H0,eC,env,o,E,ho,k⟩;obtain⟨r,hr,ho⟩:=eA ho;split at ho
 .rename_i i hd;cases ho;refine⟨H0,eC,env,r,E,hr,λv H1 s1 R=> ?_⟩;have q:=R.inn;rw[hd] at q;cases q;exact⟨i,rfl,k H1 s1⟩
 .cases ho
theorem vK(n d:Nat)(o:Option Int):HT.sIx n d o=sIx n d o:=by
 cases o<;>rfl
variable{ds:List D}{H:Hp}
theorem rh{K:aq}{F:Addr->Prop}{vs:List V}{lo hi:Option Int}(r:aJ K F H ds vs):aJ K F H (cutD ds lo hi) (wO vs lo hi):=by
 unfold cutD wO;rw[vK,vK,<-r.1];exact(r.drop _).take _
theorem Ac{K:aq}{F:Addr->Prop}{H:Hp}:∀{ns:List Int},aJ K F H (ns.map .int) (ns.map V.int)
 |[]=> .nil
 |n::ns=> .cons (.int n) Ac
theorem Ad{lo hi:Option Expr}{l u:DO}{p2:Pos}(he:PEd X e f)(hl:PO X lo (tO X l))(hu:PO X hi (tO X u)):PEd X (.Subscript e (.Slice lo hi none p2) pos) (slE f l u):=by
 refine(Gv (Jp.or M5) he hl hu).aF ?_;rintro Z H Q ⟨H0,eC,env,rv,E,hf,k⟩;obtain⟨r,hr,hf⟩:=eA hf;obtain⟨lv,S3,hf⟩:=eA hf;obtain⟨uv,xV,hf⟩:=eA hf;refine⟨H0,eC,env,r,E,hr,λv H1 s1 R=> ⟨H0,eC,env,lv,E.mono s1,S3,λH2 s2=> ⟨H0,eC,env,uv,(E.mono s1).mono s2,xV,λH3 s3=> ?_⟩⟩⟩;have i3:=(R.inn.same s2).same s3;have s13:=s1.trans (s2.trans s3);unfold slD at hf;split at hf
 .rename_i xs hd;cases hf;rw[hd] at i3;cases i3 with
  |lst hh rr=>exact .inl ⟨_,_,rfl,.inl hh,λp n=>k _ _ (s13.trans (bf n)) ⟨p,rfl,s13.free n,qU,rfl,fU n (rh rr)⟩⟩
 .rename_i xs hd;split at hf
  .cases hf
  .rename_i hw;cases hf;rw[hd] at i3;cases i3 with
   |tup hh rr=>exact .inr ⟨_,_,rfl,SqT.of hh,by rw[vK,vK,<-rr.1];exact hw,λp n=>k _ _ (s13.trans (bf n)) (fh n (rh rr))⟩
 .rename_i ns hd;cases hf;rw[hd] at i3;cases i3 with
  |scr hh=>exact .inl ⟨_,_,rfl,hh.sq,λp n=>k _ _ (s13.trans (bf n)) ⟨p,rfl,s13.free n,qU,rfl,fU n (rh Ac)⟩⟩
 .cases hf
theorem rj{e8:List (Addr×Obj)}{Z:St}{s:Shared}{p:Addr}{ys:List V}{Q:Value->Shared->Prop}{E:Value->Shared->Prop}(hc:X.calm=true)(I:Inv X e8 Z H s)(h:SqL X.K H p ys\/SqT X.K H p ys)
  (k:∀(It:Addr) fp wr P St (s₂:Shared),Walks X.prog X.w X.A.in1 It fp wr ys.length P St->St 0 s₂.heap->(∀b∈fp,b<s₂.heap.objs.size)->(∀(i:Nat) v,P i v->∃y,ys[i]? =some y/\RelV y v)->
   (∀h' tk,(∀b o,b∉wr->s₂.heap.get? b=some o->h'.get? b=some o)->Inv X e8 Z H {s₂ with heap:=h',toks:=tk})->Q (.ref It) s₂):wpAny (model X.prog X.w) X.A.in1 (pyIter (.ref p)) Q E s:=by
 have hh:X.A.in1.handled=none:=I.ok.hd hc;have kept:∀{oi:Obj} {h' :Heap} {tk:Nat},(∀b o,b∉[s.heap.objs.size]->(s.heap.push oi).get? b=some o->h'.get? b=some o)->Inv X e8 Z H {s with heap:=h',toks:=tk}:=λ{oi h' tk} hk=>
  I.kept λb o e=>hk b o (by simp only[GaJ];exact GaH (Gau e)) (Gaj _ e)
 have get:∀{its:List Value},Vals ys its->∀(i:Nat) v,its.toArray[i]? =some v->∃y,ys[i]? =some y/\RelV y v:=λ{its} r i v e=>by
  have e' :its[i]? =some v:=by simpa using e
  obtain⟨hi,_⟩:=Gam.mp e';have xa :i<ys.length:=by rw[r.length];exact hi
  obtain⟨u,hu,ru⟩:=r.get (x:=ys[i]) (i:=i) (by simp[xa]);rw[e'] at hu;cases hu
  exact⟨ys[i],by simp[xa],ru⟩
 have lts:∀{oi:Obj},p<s.heap.objs.size->∀b∈[s.heap.objs.size,p],b<(s.heap.push oi).objs.size:=λ{oi} hp b hb=>by
  rw[Gcu];rcases Gar.mp hb with rfl|hb
  .exact Gcy _
  .rcases Gar.mp hb with rfl|hb
   .exact Gcc hp
   .cases hb
 rcases h with hq|hq
 .obtain⟨its,rv,pl,hz⟩:=I.list hq;have hX:p<s.heap.objs.size:=by obtain⟨_,e,_⟩:=pl.isList;exact Gau e
  have W:=Walks.list (prog:=X.prog) (w:=X.w) hh s.heap.objs.size p (GaH hX) its.toArray;have xW:its.toArray.size=ys.length:=by rw[Gav,rv.length]
  rw[xW] at W;exact wpAny_pyIter_list pl.isList (k _ _ _ _ _ _ W ⟨⟨_,GaD _ rfl,rfl,rfl⟩,pl.isList.push _⟩ (lts hX) (get rv) λh' tk hk=>kept hk)
 .obtain⟨its,rv,pl,hz⟩:=I.tuple hq;have pl' :s.heap.IsTuple p its.toArray:=pl;have hX:p<s.heap.objs.size:=by obtain⟨_,e,_⟩:=pl';exact Gau e
  have W:=Walks.tuple (prog:=X.prog) (w:=X.w) hh s.heap.objs.size p (GaH hX) its.toArray;have xW:its.toArray.size=ys.length:=by rw[Gav,rv.length]
  rw[xW] at W;exact Gdk pl' (k _ _ _ _ _ _ W ⟨⟨_,GaD _ rfl,rfl,rfl⟩,pl'.at λo e=>Gaj _ e⟩ (lts hX) (get rv) λh' tk hk=>kept hk)
theorem range_any(bs:List Bool):(List.range bs.length).any (λi=>bs[i]?.getD false)=bs.any id:=by
 rw[GdL];simp only[GbG,GaX,id];constructor
 .rintro⟨i,hi,h⟩;rw[Gad hi] at h;exact⟨bs[i],GaI hi,h⟩
 .rintro⟨b,hb,h⟩;obtain⟨i,hi,rfl⟩:=GbS hb;exact⟨i,hi,by rw[Gad hi];exact h⟩
theorem Ae{A:Around}{P:Nat->Value->Prop}{bs:List Bool}(hP:∀(i:Nat) v,P i v->∃y,(bs.map V.bl)[i]? =some y/\RelV y v):TruthOf X.prog X.w A P (λi=>bs[i]?.getD false):=by
 intro i v s Q E p q;obtain⟨y,hy,r⟩:=hP i v p;rw[Gaw] at hy;cases hb:bs[i]? with
 |none=>rw[hb] at hy;cases hy
 |some b=>
  rw[hb] at hy;cases hy
  cases r;refine GbM ?_;have q' :Q (bs[i]?.getD false) s:=q;rw[hb] at q';exact q'
theorem uw(hc:X.calm=true):fq X (.builtin "any") (λxs H Q=>∃(p:Addr) (bs:List Bool),xs=[.ref p]/\(SqL X.K H p (bs.map V.bl)\/SqT X.K H p (bs.map V.bl))/\Q (.bl (bs.any id)) H):=by
 intro e8 s Z H xs us Q I rv h;obtain⟨p,bs,rfl,hq,q⟩:=h;obtain⟨u,rfl,ru⟩:=rv.one;cases ru;refine call_any_walk (rj hc I hq λIt fp wr P St s₂ W st lt hP kept=> ⟨It,fp,wr,_,P,St,_,rfl,W,st,Ae hP,λh' tk hk=> ?_⟩);rw[Gab,range_any];exact⟨.bl (bs.any id),H,kept h' tk hk,rfl,q⟩
noncomputable def l9(ns:List Int)(i:Nat):Int:=ns[i]?.getD 0
variable{ns:List Int}
theorem rm{P:Nat->Value->Prop}(hP:∀(i:Nat) v,P i v->∃y,(ns.map V.int)[i]? =some y/\RelV y v):∀i v,P i v->∃t,v= .int (l9 ns i) t:=by
 intro i v p;obtain⟨y,hy,r⟩:=hP i v p;rw[Gaw] at hy;cases hb:ns[i]? with
 |none=>rw[hb] at hy;cases hy
 |some n=>
  rw[hb] at hy;cases hy
  obtain⟨t,rfl⟩:=r;exact⟨t,by unfold l9;rw[hb];rfl⟩
theorem pW(n:Int)(ns:List Int):∀k,preSum (l9 (n::ns)) (k+1)=n+preSum (l9 ns) k
 |0=>by simp[preSum,l9]
 |k+1=>by
  rw[preSum,pW n ns k,preSum];have:l9 (n::ns) (k+1)=l9 ns k:=by simp[l9]
  rw[this];lia
theorem rn:∀ns:List Int,preSum (l9 ns) ns.length=ns.sum
 |[]=>rfl
 |n::ns=>by rw[Gay,pW,rn ns,List.sum_cons]
theorem EY(hc:X.calm=true):fq X (.builtin "sum") (λxs H Q=>∃(p:Addr) (ns:List Int),xs=[.ref p]/\(SqL X.K H p (ns.map V.int)\/SqT X.K H p (ns.map V.int))/\Q (.int ns.sum) H):=by
 intro e8 s Z H xs us Q I rv h;obtain⟨p,bs,rfl,hq,q⟩:=h;obtain⟨u,rfl,ru⟩:=rv.one;cases ru;refine call_sum_walkG (rj hc I hq λIt fp wr P St s₂ W st lt hP kept=> ⟨It,fp,wr,_,P,St,l9 bs,rfl,W,st,lt,rm hP,λh' tk t hk=> ?_⟩);rw[Gab,rn];exact⟨.int bs.sum,H,kept h' tk hk,⟨t,rfl⟩,q⟩
theorem EZ{f:Int->Int->Int}{i:Int}{k:Nat}(hk:k<ns.length):(ns.take (k+1)).foldl f i=f ((ns.take k).foldl f i) (ns[k]):=by
 rw[GdD hk,List.foldl_append];rfl
theorem Hg{n:Int}{ns:List Int}:∀k,k<=ns.length->l9 (n::ns) (argBest (λi j=>decide (l9 (n::ns) i<l9 (n::ns) j)) k)=(ns.take k).foldl (λa b=>if b<a then b else a) n
 |0,_=>by simp[argBest,l9]
 |k+1,hk=>by
  have ih:= @Hg n ns k (by lia);rw[EZ (by lia),argBest];have e:l9 (n::ns) (k+1)=ns[k]:=by simp[l9,show k<ns.length by lia]
  rw[ih,e];simp only[decide_eq_true_eq];split
  .exact e
  .exact ih
theorem Af{K:aq}{F:Addr->Prop}{H:Hp}:∀{ds:List D} {vs:List V} {bs:List Bool},aJ K F H ds vs->vt ds=some bs->vs=bs.map V.bl
 |[],vs,bs,r,e=>by cases e;exact r.cB
 |d::ds,vs,bs,r,e=>by
  obtain⟨v,w,rfl,h1,h2⟩:=r.cons_inv;cases d<;>try (cases e;done)
  obtain⟨xm,e',rfl⟩:=Gas.mp e;cases h1;rw[Af h2 e'];rfl
theorem vL{K:aq}{F:Addr->Prop}{H:Hp}:∀{ds:List D} {vs:List V} {bs:List Int},aJ K F H ds vs->wZ ds=some bs->vs=bs.map V.int
 |[],vs,bs,r,e=>by cases e;exact r.cB
 |d::ds,vs,bs,r,e=>by
  obtain⟨v,w,rfl,h1,h2⟩:=r.cons_inv;cases d<;>try (cases e;done)
  obtain⟨xm,e',rfl⟩:=Gas.mp e;cases h1;rw[vL h2 e'];rfl
theorem vM{K:aq}{F:Addr->Prop}{d:D}{v:V}(i:Inn K F H d v)(e:kN d=some ds):∃p vs,v= .ref p/\(SqL K H p vs\/SqT K H p vs)/\aJ K F H ds vs:=by
 unfold kN at e;split at e
 .cases e;cases i with
  |lst h r=>exact⟨_,_,rfl,.inl (.inl h),r⟩
 .cases e;cases i with
  |tup h r=>exact⟨_,_,rfl,.inr (SqT.of h),r⟩
 .rename_i ns;cases e;cases i with
  |scr h=>
   refine⟨_,_,rfl,.inl h.sq,by simp,λi d v e1 e2=> ?_⟩;rw[Gaw] at e1 e2;cases q:ns[i]? with
   |none=>rw[q] at e1;cases e1
   |some n=>rw[q] at e1 e2;cases e1;cases e2;exact .int n
 .cases e
theorem BV{o:List D->Option RV}{rv:RV}(h:one o ds=some rv):∃d xs,ds=[d]/\kN d=some xs/\o xs=some rv:=by
 unfold one at h;split at h
 .obtain⟨xs,h1,h2⟩:=eA h;exact⟨_,xs,rfl,h1,h2⟩
 .cases h
theorem ux:CallD X anyS (λxs H Q=>∃(p:Addr) (bs:List Bool),xs=[.ref p]/\(SqL X.K H p (bs.map V.bl)\/SqT X.K H p (bs.map V.bl))/\Q (.bl (bs.any id)) H):=by
 intro F H ds vs rv Q ps e k;obtain⟨d,xs,rfl,h1,h2⟩:=BV e;obtain⟨bs,hb,rfl⟩:=Gas.mp h2;obtain⟨v,rfl,i⟩:=dY ps;obtain⟨p,vs,rfl,hs,r⟩:=vM i h1;rw[Af r hb] at hs;exact⟨p,bs,rfl,hs,k _ H bu (.bl _)⟩
theorem F0:CallD X Jx (λxs H Q=>∃(p:Addr) (ns:List Int),xs=[.ref p]/\(SqL X.K H p (ns.map V.int)\/SqT X.K H p (ns.map V.int))/\Q (.int ns.sum) H):=by
 intro F H ds vs rv Q ps e k;obtain⟨d,xs,rfl,h1,h2⟩:=BV e;obtain⟨bs,hb,rfl⟩:=Gas.mp h2;obtain⟨v,rfl,i⟩:=dY ps;obtain⟨p,vs,rfl,hs,r⟩:=vM i h1;rw[vL r hb] at hs;exact⟨p,bs,rfl,hs,k _ H bu (.int _)⟩
theorem Hh{op yf :CmpOp}{o p:D->D->Option Bool}{r r' :R2}(ho:OpR X (compareOp op) r)(hd:OpB X o r)(xo :OpR X (compareOp yf) r')(xx :OpB X p r')(ha:PEd X a f)(hb:PEd X b g)(hc:PEd X c h)
  (hm:lastMarks [op,yf] [b,c]=false:=by with_unfolding_all rfl):PEd X (.Compare a [op,yf] [b,c] pos) (bE (mX o p f g h)):=by
 refine(Gp ho xo ha hb hc hm).aF ?_;rintro Z H Q ⟨H0,eC,env,rv,E,e,k⟩;obtain⟨bb,e',rfl⟩:=Gas.mp e;clear e;have e:=e';clear e';obtain⟨x,hx,e⟩:=eA e;obtain⟨y,hy,e⟩:=eA e;obtain⟨b1,h1,e⟩:=eA e;refine⟨H0,eC,env,x,E,hx,λvx H1 s1 R1=> ⟨H0,eC,env,y,E.mono s1,hy,λvy H2 s2 R2=>hd _ H2 x.d y.d vx vy b1 _ (R1.inn.same s2) R2.inn h1 ⟨b1,rfl, ?_⟩⟩⟩;cases b1 with
 |true=>
  rw[Gah rfl];rw[Gah rfl] at e
  obtain⟨z,hz,e⟩:=eA e;exact⟨H0,eC,env,z,(E.mono s1).mono s2,hz,λvz H3 s3 R3=>xx _ H3 y.d z.d vy vz bb _ (R2.inn.same s3) R3.inn e (k _ H3 (s1.trans (s2.trans s3)) (.bl bb))⟩
 |false=>
  rw[Gag Gal];rw[Gag Gal] at e;cases e
  exact k _ H2 (s1.trans s2) (.bl false)
end
section
variable{X:Cx}{e a b c:Expr}{f g h:DE}{pos:Pos}
theorem b8.cons{Y:Type}{K:aq}{F:Addr->Prop}{H:Hp}{eD:List (Y×D)}{ws:List (Y×V)}{k:Y}{d:D}{v:V}(h:Rep K F H d v)(r:b8 K F H eD ws):b8 K F H ((k,d)::eD) ((k,v)::ws):=by
 refine⟨by simp[r.1],λi x u e1 e2=> ?_⟩;cases i with
 |zero=>simp at e1 e2;subst e1;subst e2;exact h
 |succ i=>exact r.2 i x u (by simpa using e1) (by simpa using e2)
variable{H:Hp}
theorem b8.cons_inv{Y:Type}{K:aq}{F:Addr->Prop}{eD:List (Y×D)}{ws:List (Y×V)}{k:Y}{d:D}(h:b8 K F H ((k,d)::eD) ws):∃v r,ws=(k,v)::r/\Rep K F H d v/\b8 K F H eD r:=by
 cases ws with
 |nil=>exact absurd h.1 (by simp)
 |cons q r=>
  obtain⟨k',v⟩:=q;have h1:k=k' /\eD.map (·.1)=r.map (·.1):=by have:=h.1;simpa using this
  obtain⟨rfl,h2⟩:=h1;exact⟨v,r,rfl,h.2 0 (k,d) (k,v) rfl rfl,h2,λi x y e1 e2=>h.2 (i+1) x y (by simpa using e1) (by simpa using e2)⟩
theorem b8.nil{Y:Type}{K:aq}{F:Addr->Prop}:b8 K F H ([]:List (Y×D)) []:=⟨rfl,λi p q e=>by simp at e⟩
theorem b8.cB{Y:Type}{K:aq}{F:Addr->Prop}{ws:List (Y×V)}(h:b8 K F H [] ws):ws=[]:=by
 cases ws with
 |nil=>rfl
 |cons q r=>exact absurd h.1 (by simp)
theorem b8.len{Y:Type}{K:aq}{F:Addr->Prop}{eD:List (Y×D)}{ws:List (Y×V)}(h:b8 K F H eD ws):eD.length=ws.length:=by
 have:=congrArg List.length h.1
 simpa using this
theorem b8.over{Y:Type} [DecidableEq Y]{K:aq}{F:Addr->Prop}{H:Hp}{k:Y}{d:D}{v:V}(hv:Rep K F H d v):∀{eD:List (Y×D)} {ws:List (Y×V)},b8 K F H eD ws->
  b8 K F H (eD.map λkv=>if kv.1=k then(kv.1,d) else kv) (ws.map λkv=>if kv.1=k then(kv.1,v) else kv)
 |[],ws,r=>by rw[r.cB];exact .nil
 |(k',d')::eD,ws,r=>by
  obtain⟨v',w,rfl,h1,h2⟩:=r.cons_inv;rw[GaA,GaA];dsimp only;split
  .exact .cons hv (b8.over hv h2)
  .exact .cons h1 (b8.over hv h2)
theorem b8.snoc{Y:Type}{K:aq}{F:Addr->Prop}{H:Hp}{k:Y}{d:D}{v:V}(hv:Rep K F H d v):∀{eD:List (Y×D)} {ws:List (Y×V)},b8 K F H eD ws->b8 K F H (eD++[(k,d)]) (ws++[(k,v)])
 |[],ws,r=>by rw[r.cB];exact .cons hv .nil
 |(k',d')::eD,ws,r=>by
  obtain⟨v',w,rfl,h1,h2⟩:=r.cons_inv;exact .cons h1 (b8.snoc hv h2)
theorem b8.any{Y:Type} [DecidableEq Y]{K:aq}{F:Addr->Prop}{H:Hp}{k:Y}:∀{eD:List (Y×D)} {ws:List (Y×V)},b8 K F H eD ws->(eD.any λkv=>decide (kv.1=k))=(ws.any λkv=>decide (kv.1=k))
 |[],ws,r=>by rw[r.cB];rfl
 |(k',d')::eD,ws,r=>by
  obtain⟨v',w,rfl,h1,h2⟩:=r.cons_inv;rw[GcE,GcE,b8.any h2]
theorem b8.put{Y:Type} [DecidableEq Y]{K:aq}{F:Addr->Prop}{H:Hp}{eD:List (Y×D)}{ws:List (Y×V)}{k:Y}{d:D}{v:V}(r:b8 K F H eD ws)(hv:Rep K F H d v):b8 K F H (put eD k d) (putK ws k v):=by
 unfold DL.put putK;rw[r.any];split
 .exact r.over hv
 .exact r.snoc hv
end
open PySem.W (KasT kas_rev kas_asc kas_desc kas_tail3 kas_descPart kas_count kas_place kas_bin kas_sort)
section
variable{rk:Nat->Int}{N:Nat}
def Asks(rk:Nat->Int)(N:Nat){α:Type}:KasT α->(α->Prop)->Prop
 | .ret a,Q=>Q a
 | .ask i j k,Q=>i<N/\j<N/\Asks rk N (k (decide (rk i<rk j))) Q
theorem Asks.mono{α:Type}{Q Q' :α->Prop}(hq:∀a,Q a->Q' a):∀(t:KasT α),Asks rk N t Q->Asks rk N t Q'
 | .ret a,h=>hq a h
 | .ask i j k,h=> ⟨h.1,h.2.1,Asks.mono hq _ h.2.2⟩
theorem Asks.then{α β:Type}{f:α->KasT β}{Q:β->Prop}:∀(t:KasT α),Asks rk N t (λa=>Asks rk N (f a) Q)->Asks rk N (t.bind f) Q
 | .ret a,h=>h
 | .ask i j k,h=> ⟨h.1,h.2.1,Asks.then _ h.2.2⟩
theorem Asks.wp{α:Type}{cmp:Nat->Nat->(Bool->Shared->Prop)->Shared->Prop}{s:Shared}(hc:∀i j C,i<N->j<N->C (decide (rk i<rk j)) s->cmp i j C s){Q:α->Prop}{G:α->Shared->Prop}(hG:∀a,Q a->G a s):
  ∀(t:KasT α),Asks rk N t Q->t.kasWp cmp G s
 | .ret a,h=>hG a h
 | .ask i j k,h=>hc i j _ h.1 h.2.1 (Asks.wp hc hG _ h.2.2)
def Ord(N:Nat)(p:Array Nat):Prop:=p.toList.Perm (List.range N)
theorem Ord.size{p:Array Nat}(h:Ord N p):p.size=N:=by
 have:=List.Perm.length_eq h
 simpa using this
variable{i:Nat}{p:Array Nat}
theorem Ord.lt(h:Ord N p)(hN:0<N):p.getD i 0<N:=by
 by_cases hi:i<p.size
 .have e:p.getD i 0=p[i]:=by simp[Array.getD,hi]
  rw[e];have m:p[i]∈p.toList:=by simp
  exact GaX.mp (h.mem_iff.mp m)
 .have e:p.getD i 0=0:=by simp[Array.getD,hi]
  rw[e];exact hN
variable{p' :Array Nat}
theorem Ord.Di(h:Ord N p)(q:p'.Perm p):Ord N p' :=List.Perm.trans (Array.perm_iff_toList_perm.mp q) h
noncomputable def bV(rk:Nat->Int)(p:Array Nat)(i:Nat):Int:=rk (p.getD i 0)
variable{j:Nat}
theorem iH(h:p'[i]? =p[j]?):bV rk p' i=bV rk p j:=by
 unfold bV;have e:p'.getD i 0=p.getD j 0:=by
  rw[Gbg,Gbg,h]
 rw[e]
def Up(rk:Nat->Int)(p:Array Nat)(k:Nat):Prop:=∀u v,u<=v->v<k->bV rk p u<=bV rk p v
def Down(rk:Nat->Int)(p:Array Nat)(k:Nat):Prop:=∀u v,u<=v->v<k->bV rk p v<=bV rk p u
theorem BW(hj:j<=p.size)(k:Nat):bV rk (kas_rev p i j) k=if i<=k/\k<j then bV rk p (i+j -1 -k) else bV rk p k:=by
 have g:=getElem?_mirror_all (i:=i) hj k;split
 .rename_i c;rw[Gah c] at g;exact iH g
 .rename_i c;rw[Gag c] at g;exact iH g
theorem jn(hj:j<=p.size)(he:∀k,i<=k->k<j->bV rk p k=bV rk p (j -1))(k:Nat):bV rk (kas_rev p i j) k=bV rk p k:=by
 rw[BW hj];split
 .rename_i c;rw[he (i+j -1 -k) (by lia) (by lia),he k c.1 c.2]
 .rfl
theorem o4(h:Ord N p):Ord N (kas_rev p i j):=h.Di (mirror_perm p i j ((j -i)/2))
theorem BX{p:Array Nat}(hp:Ord N p)(hN:0<N):∀(f n:Nat),1<=n->Up rk p n->Asks rk N (kas_asc p f n) λm=>n<=m/\m<=n+f/\Up rk p m/\(m=n+f\/bV rk p m<bV rk p (m -1))
 |0,n,h1,hu=> ⟨Gaq n,Gaq n,hu,.inl rfl⟩
 |f+1,n,h1,hu=>by
  refine⟨hp.lt hN,hp.lt hN, ?_⟩;by_cases c:rk (p.getD n 0)<rk (p.getD (n -1) 0)
  .rw[Gaz c];dsimp only;rw[Gah rfl]
   exact⟨Gaq n,by lia,hu,.inr c⟩
  .rw[Gax c];dsimp only;rw[Gag Gal]
   have nxt:Up rk p (n+1):=λu v xV hv=>by
    rcases Gbh v n with hvn|hvn
    .exact hu u v xV hvn
    .have ev:v=n:=by lia
     subst ev;have c' :bV rk p (v -1)<=bV rk p v:=GcT.mp c;rcases Gcm xV with e|e
     .subst e;exact Gbp _
     .exact GdY (hu u (v -1) (by lia) (by lia)) c'
   refine Asks.mono (λm hm=> ?_) _ (BX hp hN f (n+1) (by lia) nxt);obtain⟨q1,q2,q3,q4⟩:=hm;refine⟨by lia,by lia,q3, ?_⟩;rcases q4 with q4|q4
   .left;lia
   .exact .inr q4
theorem Down.snoc{k:Nat}(hd:Down rk p k)(hk:1<=k)(e:∀i,bV rk p' i=bV rk p i)(c:bV rk p k<=bV rk p (k -1)):Down rk p' (k+1):=λu v xV hv=>by
 rw[e,e];rcases Gbh v k with hvk|hvk
 .exact hd u v xV hvk
 .have ev:v=k:=by lia
  subst ev;rcases Gcm xV with q|q
  .subst q;exact Gbp _
  .exact GdY c (hd u (v -1) (by lia) (by lia))
theorem qA(hN:0<N):∀(f:Nat) (p:Array Nat) (n q:Nat),Ord N p->1<=n->n+f<=N->Down rk p n->q+1<=n->(∀i,n -(q+1)<=i->i<n->bV rk p i=bV rk p (n -1))->
  Asks rk N (kas_desc f p n q) λr=>Ord N r.1/\n<=r.2.1/\r.2.1<=n+f/\Down rk r.1 r.2.1/\r.2.2+1<=r.2.1/\∀i,r.2.1 -(r.2.2+1)<=i->i<r.2.1->bV rk r.1 i=bV rk r.1 (r.2.1 -1)
 |0,p,n,q,hp,h1,Ud,hd,hq,he=> ⟨hp,Gaq n,Gaq n,hd,hq,he⟩
 |f+1,p,n,q,hp,h1,Ud,hd,hq,he=>by
  have sz:=hp.size;refine⟨hp.lt hN,hp.lt hN, ?_⟩;by_cases c:rk (p.getD n 0)<rk (p.getD (n -1) 0)
  .rw[Gaz c];dsimp only;rw[Gah rfl]
   have c' :bV rk p n<=bV rk p (n -1):=GdZ c;by_cases z:q>0
   .rw[Gah z];have eq:=λk=>jn (rk:=rk) (i:=n -(q+1)) (by lia) he k;exact Asks.mono (λr ⟨a1,a2,a3,a4⟩=> ⟨a1,by lia,by lia,a4⟩) _ (qA hN f _ (n+1) 0 (o4 hp) (by lia) (by lia) (hd.snoc h1 eq c') (by lia) λi i1 i2=>by rw[show i=n+1 -1 by lia])
   .rw[Gag z];exact Asks.mono (λr ⟨a1,a2,a3,a4⟩=> ⟨a1,by lia,by lia,a4⟩) _ (qA hN f p (n+1) 0 hp (by lia) (by lia) (hd.snoc h1 (λ_=>rfl) c') (by lia) λi i1 i2=>by rw[show i=n+1 -1 by lia])
  .rw[Gax c];dsimp only;rw[Gag Gal]
   refine⟨hp.lt hN,hp.lt hN, ?_⟩;by_cases g:rk (p.getD (n -1) 0)<rk (p.getD n 0)
   .rw[Gaz g];dsimp only;rw[Gah rfl]
    exact⟨hp,Gaq n,Nat.le_add_right n (f+1),hd,hq,he⟩
   .rw[Gax g];dsimp only;rw[Gag Gal]
    have eq:bV rk p n=bV rk p (n -1):=Int.le_antisymm (GcT.mp g) (GcT.mp c);refine Asks.mono (λr ⟨a1,a2,a3,a4⟩=> ⟨a1,by lia,by lia,a4⟩) _ (qA hN f p (n+1) (q+1) hp (by lia) (by lia) (hd.snoc h1 (λ_=>rfl) (Int.le_of_eq eq)) (by lia) λi i1 i2=> ?_);rcases Gbh i n with hi|hi
    .rw[he i (by lia) hi,show n+1 -1=n by lia,eq]
    .rw[show i=n+1 -1 by lia]
variable{n M:Nat}
theorem Dj(hp:Ord N p)(hN:0<N)(h1:1<=n)(hn:n<=M)(hM:M<=N)(hd:Down rk p n):Asks rk N (kas_tail3 n M p) λr=>Ord N r.2/\1<=r.1/\r.1<=M/\Up rk r.2 r.1:=by
 have sz:=hp.size;refine Asks.then _ (Asks.mono (λm ⟨a1,a2,a3,_⟩=> ⟨o4 hp,by lia,by lia,a3⟩) _ (BX (o4 hp) hN (M -n) n h1 λu v xV hv=> ?_));rw[BW (by lia),BW (by lia),Gah ⟨Gbk _,by lia⟩,Gah ⟨Gbk _,hv⟩];exact hd _ _ (by lia) (by lia)
theorem pX(hp:Ord N p)(hN:0<N)(h1:1<=n)(hn:n+1<=M)(hM:M<=N)(hd:Down rk p (n+1)):Asks rk N (kas_descPart n M p) λr=>Ord N r.2/\1<=r.1/\r.1<=M/\Up rk r.2 r.1:=by
 have sz:=hp.size;refine Asks.then _ (Asks.mono (λr ⟨a1,a2,a3,a4,a5,a6⟩=> ?_) _ (qA hN (M -(n+1)) p (n+1) 0 hp (by lia) (by lia) hd (by lia) λi i1 i2=>by rw[show i=n+1 -1 by lia]));have s1:=a1.size;split
 .refine Dj (o4 a1) hN (by lia) (by lia) hM λu v xV hv=> ?_;rw[jn (by lia) a6,jn (by lia) a6];exact a4 u v xV hv
 .exact Dj a1 hN (by lia) (by lia) hM a4
theorem Hj(hp:Ord N p)(US:1<=M)(hM:M<=N):Asks rk N (kas_count M p) λr=>Ord N r.2/\1<=r.1/\r.1<=M/\Up rk r.2 r.1:=by
 have hN:0<N:=by lia
 have sz:=hp.size;refine Asks.then _ (Asks.mono (λn ⟨a1,a2,a3,a4⟩=> ?_) _ (BX hp hN (M -1) 1 (Gaq 1) λu v xV hv=>by rw[show u=v by lia];exact Gbp _));by_cases c:(n==M)=true
 .rw[Gah c];exact⟨hp,a1,by lia,a3⟩
 .rw[Gag c];have cn:n≠M:=λz=>c (by simp[z]);have fall:bV rk p n<bV rk p (n -1):=by
   rcases a4 with z|z
   .lia
   .exact z
  by_cases g:n>1
  .rw[Gah g];refine⟨hp.lt hN,hp.lt hN, ?_⟩;by_cases r:rk (p.getD 0 0)<rk (p.getD (n -1) 0)
   .rw[Gaz r];dsimp only;rw[Gah rfl]
    exact⟨hp,a1,by lia,a3⟩
   .rw[Gax r];dsimp only;rw[Gag Gal]
    have all:∀k,0<=k->k<n->bV rk p k=bV rk p (n -1):=λk _ hk=>by
     have b1:=a3 0 k (Gbk _) hk;have b2:=a3 k (n -1) (by lia) (by lia);have b3:bV rk p (n -1)<=bV rk p 0:=GcT.mp r;lia
    refine pX (o4 hp) hN a1 (by lia) hM λu v xV hv=> ?_;rw[jn (by lia) all,jn (by lia) all];rcases Gbh v n with hvn|hvn
    .rw[all u (Gbk _) (by lia),all v (Gbk _) hvn];exact Gbp _
    .have ev:v=n:=by lia
     subst ev;rcases Gcm xV with q|q
     .subst q;exact Gbp _
     .rw[all u (Gbk _) q];exact GdZ fall
  .rw[Gag g];have en:n=1:=by lia
   subst en;refine pX hp hN (Gaq 1) (by lia) hM λu v xV hv=> ?_;rcases Gcm xV with q|q
   .subst q;exact Gbp _
   .have eu:u=0:=by lia
    have ev:v=1:=by lia
    subst eu ev;exact GdZ fall
theorem ro{p:Array Nat}{k:Nat}(hp:Ord N p)(hN:0<N)(hu:Up rk p k):∀(f l r:Nat),l<=r->r<=k->r -l<=f->(∀i,i<l->bV rk p i<=bV rk p k)->(∀i,r<=i->i<k->bV rk p k<bV rk p i)->
  Asks rk N (kas_place p k f l r) λm=>m<=k/\(∀i,i<m->bV rk p i<=bV rk p k)/\∀i,m<=i->i<k->bV rk p k<bV rk p i
 |0,l,r,h1,h2,h3,h4,h5=>by
  have e:l=r:=by lia
  subst e;exact⟨h2,h4,h5⟩
 |f+1,l,r,h1,h2,h3,h4,h5=>by
  unfold kas_place;by_cases c:l>=r
  .rw[Gah c];have e:l=r:=by lia
   subst e;exact⟨h2,h4,h5⟩
  .rw[Gag c];refine⟨hp.lt hN,hp.lt hN, ?_⟩;by_cases g:rk (p.getD k 0)<rk (p.getD ((l+r)/2) 0)
   .rw[Gaz g];dsimp only;rw[Gah rfl]
    exact ro hp hN hu f l ((l+r)/2) (by lia) (by lia) (by lia) h4 λi i1 i2=>Int.lt_of_lt_of_le g (hu ((l+r)/2) i i1 i2)
   .rw[Gax g];dsimp only;rw[Gag Gal]
    exact ro hp hN hu f ((l+r)/2+1) r (by lia) h2 (by lia) (λi i1=>GdY (hu i ((l+r)/2) (by lia) (by lia)) (GcT.mp g)) h5
theorem Mu{k d:Nat}(hk:k<p.size)(hd:d<=k)(i:Nat):bV rk (bubble p k d) i=if i=k -d then bV rk p k else if k -d<i/\i<=k then bV rk p (i -1) else bV rk p i:=by
 have g:=getElem?_bubble hk d hd i;split
 .rename_i c;rw[Gah c] at g;exact iH g
 .rename_i c;rw[Gag c] at g;split
  .rename_i c2;rw[Gah c2] at g;exact iH g
  .rename_i c2;rw[Gag c2] at g;exact iH g
theorem Hk(hN:0<N):∀(f:Nat) (p:Array Nat) (k:Nat),Ord N p->k+f=N->Up rk p k->Asks rk N (kas_bin f p k) λr=>Ord N r/\Up rk r N
 |0,p,k,hp,hk,hu=>by
  have e:k=N:=by lia
  subst e;exact⟨hp,hu⟩
 |f+1,p,k,hp,hk,hu=>by
  have sz:=hp.size;refine Asks.then _ (Asks.mono (λm ⟨a1,a2,a3⟩=> ?_) _ (ro hp hN hu k 0 k (Gbk _) (Gaq _) (by lia) (λi hi=>by lia) λi i1 i2=>by lia));refine Hk hN f _ (k+1) (hp.Di (bubble_perm p k (k -m))) (by lia) λu v xV hv=> ?_;have B:=λi=>Mu (rk:=rk) (p:=p) (k:=k) (d:=k -m) (by lia) (by lia) i;rw[B u,B v];have em:k -(k -m)=m:=by lia
  rw[em];by_cases u1:u=m
  .rw[Gah u1];by_cases v1:v=m
   .rw[Gah v1];exact Gbp _
   .rw[Gag v1];rw[Gah ⟨by lia,by lia⟩];exact GdZ (a3 (v -1) (by lia) (by lia))
  .rw[Gag u1];by_cases u2:m<u/\u<=k
   .rw[Gah u2,Gag (show¬v=m by lia),Gah ⟨by lia,by lia⟩];exact hu (u -1) (v -1) (by lia) (by lia)
   .rw[Gag u2];by_cases v1:v=m
    .rw[Gah v1];exact a2 u (by lia)
    .rw[Gag v1];by_cases v2:m<v/\v<=k
     .rw[Gah v2];exact hu u (v -1) (by lia) (by lia)
     .rw[Gag v2];exact hu u v xV (by lia)
theorem JT(hN:1<=N):Asks rk N (kas_sort N) λr=>Ord N r/\Up rk r N:=by
 have h0:Ord N (List.toArray (List.range N)):=List.Perm.refl _;refine Asks.then _ (Asks.mono (λr ⟨a1,a2,a3,a4⟩=> ?_) _ (Hj h0 hN (Gaq N)));split
 .exact Hk (by lia) _ _ _ a1 (by lia) (by rw[show max r.1 1=r.1 by lia];exact a4)
 .rename_i c;have e:r.1=N:=by lia
  rw[e] at a4;exact⟨a1,a4⟩
end
def FO(h:Heap)(a:Addr)(T:String)(vs:Array Value):Prop:=∃o,h.get? a=some o/\o.cls= .type T/\o.data= .fields vs
def QZ(h:Heap)(d:Addr)(es:Array DictEntry)(ep:Nat):Prop:=∃o,h.get? d=some o/\o.ExactDict/\o.data= .dict es ep
section
variable{prog:Program}{w:World}{A:Around}{E:Value->Shared->Prop}{z:Shared}
variable{vs:Array Value}{T:String}{a:Addr}
theorem FO.ty(x:FO z.heap a T vs):z.TypeIs (.ref a) T:=let⟨o,ho,hc,_⟩:=x;⟨o,ho,hc⟩
theorem BY{Q:Array Value->Shared->Prop}(x:FO z.heap a T vs)(h:Q vs z):wpAny (model prog w) A (fieldsOf (.ref a)) Q E z:=let⟨_,ho,_,hd⟩:=x;wpAny_fieldsOf ho hd h
variable{x:Value}
theorem p9{k:Nat}{Q:Unit->Shared->Prop}(f:FO z.heap a T vs)(h:∀h',FO h' a T (vs.setIfInBounds k x)/\Heap.SameBut a z.heap h' ->Q () {z with heap:=h' })(hk:k<vs.size):
  wpAny (model prog w) A (setField (.ref a) k x) Q E z:=by
 obtain⟨⟨c,dc,dt,sl⟩,ho,hc,hd⟩:=f;cases hc;cases hd
 exact GcN ho rfl hk (h _ ⟨⟨_,Gbi _ ho rfl,rfl,rfl⟩,GbT ..⟩)
variable{h:Heap}
theorem FO.at{h' :Heap}(x:FO h a T vs)(k:∀o,h.get? a=some o->h'.get? a=some o):FO h' a T vs:=let⟨o,q,r⟩:=x;⟨o,k o q,r⟩
theorem FO.lt(x:FO h a T vs):a<h.objs.size:=let⟨_,q,_⟩:=x;Gau q
theorem BZ{i:Nat}{Q:Value->Shared->Prop}(f:FO z.heap a T vs)(e:vs[i]? =some x)(h:Q x z):wpAny (model prog w) A (field (.ref a) i) Q E z:=let⟨_,ho,_,hd⟩:=f;wpAny_field ho hd e h
theorem Lp{α:Type}{Q:α->Shared->Prop}(hh:A.handled=none)(h:∀h' a,(∀b o,z.heap.get? b=some o->h'.get? b=some o)/\(∃o,h'.get? a=some o/\o.cls= .type "StopIteration")->E (.ref a) {z with heap:=h' }):
  wpAny (model prog w) A (newExc (.type "StopIteration") []>>=λe=>(raiseNew e:Sem α)) Q E z:=by
 obtain⟨hp,g,dr,tk,os⟩:=z
 wp_walk using Gbn
 .unfold raiseNew
  wp_walk
  exact h _ _ ⟨λb o e=>Gaj _ (Gaj _ e),_,GaD _ rfl,rfl⟩
 all_goals size_fits
theorem Dk{e:Addr}{Q:Bool->Shared->Prop}(x:∃o,z.heap.get? e=some o/\o.cls= .type "StopIteration")(h:Q true z):wpAny (model prog w) A (isInstance (.ref e) (.type "StopIteration")) Q E z:=
 wpAny_isInstance (T:="StopIteration") x isSubtype_stop h
def Emp(h:Heap)(S:Addr):Prop:=∃c,h.get? S=some {cls:= .type "list",data:= .seq #[] c}
theorem on{α:Type}{t:Sem α}{Q Q' :α->Shared->Prop}(h:wpAny (model prog w) A t Q E z)(k:∀a s,Q a s->Q' a s):wpAny (model prog w) A t Q' E z:=Gci h k λ_ _ x=>x
variable{S:Addr}
theorem touched{Q:Unit->Shared->Prop}(e:Emp z.heap S)(h:∀h2,Emp h2 S/\(∀b o,b≠S->z.heap.get? b=some o->h2.get? b=some o)->Q () {z with heap:=h2}):wpAny (model prog w) A (Builtin.List.listTouch (.ref S)) Q E z:=by
 obtain⟨c,e⟩:=e;have e1:=Gbi (Obj.mapSeq (·.push Value.none)) e rfl;refine Gaa (wpAny_updateSeq e rfl (wpAny_updateSeq (hz:=by seq_fits) e1 rfl (h _ ⟨⟨_,Gbi (Obj.mapSeq (·.pop)) e1 rfl⟩,λb o n k=> ?_⟩)));rw[Gcj _ _ (Ne.symm n),Gcj _ _ (Ne.symm n),k]
variable{v:Value}
theorem Hl{res:Value}{R:Result->Shared->Prop}(hT:z.TypeIs v T)(n1:(Value.type T== .type "list")=false)(n2:(Value.type T== .type "tuple")=false)(n3:Builtin.List.listSameRef (.ref S) v=false)
  (h:wpAny (model prog w) A.in1 (pyIter v) (λi s1=>wpAny (model prog w) A.in1 (Builtin.List.listLengthHint v) (λ_ s2=>Emp s2.heap S/\∀h2,Emp h2 S->(∀b o,b≠S->s2.heap.get? b=some o->h2.get? b=some o)->
   codeAny (model prog w) A (.builtin "list.extend.loop" ⟨[.ref S,i,res],[]⟩) R {s2 with heap:=h2}) (λe s' =>R (.error e) s') s1) (λe s' =>R (.error e) s') z):
  wpAny (model prog w) A.in1 (Builtin.List.listExtendWith (.ref S) v res) (λfin s' =>match fin with| .done f=>R (.ok f) s' | .again c' =>c'.quiet=true/\codeAny (model prog w) A c' R s') (λe s' =>R (.error e) s') z:=by
 wp_walk using GdJ hT,on h
 intro i s1 q
 wp_walk using on q
 rintro b s2 ⟨e,q⟩;have quiet:Code.quiet (.builtin "list.extend.loop" ⟨[.ref S,i,res],[]⟩)=true:=Gdz F.plain_extend_loop _;apply Gdc<;>intro _
 .wp_walk using touched e
  exactλh2 k=>Gae ⟨quiet,q h2 k.1 k.2⟩
 .exact Gae ⟨quiet,q _ e λ_ _ _ k=>k⟩
theorem JU{c:Code}{Q:Value->Shared->Prop}(h:∀R:Result->Shared->Prop,(∀v s',Q v s' ->R (.ok (.ret v)) s')->codeAny (model prog w) A c R z):wpAny (model prog w) A (runValue c) Q E z:=wpAny_runValue (h _ λ_ _ q=>q)
theorem gather{Q:List Value->Shared->Prop}
  (h:∀R:Result->Shared->Prop,(∀s' acc c,s'.heap.get? z.heap.objs.size=some {cls:= .type "list",dict:=none,data:= .seq acc c,slots:=#[]}->Q acc.toList s' ->R (.ok (.ret (.ref z.heap.objs.size))) s')->
   wpAny (model prog w) A.in1 (Builtin.List.listExtendWith (.ref z.heap.objs.size) v (.ref z.heap.objs.size)) (λfin s' =>match fin with| .done f=>R (.ok f) s' | .again c' =>c'.quiet=true/\codeAny (model prog w) A c' R s') (λe s' =>R (.error e) s') {z with heap:=z.heap.push (seqObj "list" #[] 0)}):
  wpAny (model prog w) A (collect v) Q E z:=by
 unfold collect;apply Gaa;apply JU;intro R r;apply GbZ entry_proto_collect';apply Gaa;refine wpAny_newList (Gae ⟨Code.quiet_builtin _ (by decide+kernel), ?_⟩);apply GbZ entry_list_iadd';rw[Gca (by decide+kernel:plainId "list.__iadd__"=true)];exact h R λs' acc c k q=>r _ _ (Gaa (wpAny_load k (Gae q)))
theorem vN{Q:List Value->Shared->Prop}
  (h:∀h1:Heap,Emp h1 z.heap.objs.size->(∀b o,z.heap.get? b=some o->h1.get? b=some o)->∀R:Result->Shared->Prop,
   (∀s' acc c,s'.heap.get? z.heap.objs.size=some {cls:= .type "list",dict:=none,data:= .seq acc c,slots:=#[]}->Q acc.toList s' ->R (.ok (.ret (.ref z.heap.objs.size))) s')->
   wpAny (model prog w) A.in1 (Builtin.List.listExtendWith (.ref z.heap.objs.size) v (.ref z.heap.objs.size)) (λfin s' =>match fin with| .done f=>R (.ok f) s' | .again c' =>c'.quiet=true/\codeAny (model prog w) A c' R s') (λe s' =>R (.error e) s') {z with heap:=h1}):
  wpAny (model prog w) A (collect v) Q E z:=gather (h _ ⟨0,GaD _ rfl⟩ λb o=>Gaj _)
def Ag(h:Heap)(S:Addr)(acc:Array Value):Prop:=∃c,h.get? S=some {cls:= .type "list",dict:=none,data:= .seq acc c,slots:=#[]}
end
open PySem.W (KatLex KatTups kas_sort kas_ask kat_kind kat_lt kat_one kat_run kat_snds BoolBack kat_lt_int)
def FlV:D->Value->Prop
 | .non,v=>v= .none
 | .int i,v=>∃t,v= .int i t
 | .str x,v=>∃t,v= .str x t
 |_,_=>False
def jP(h:Heap):D->Value->Prop
 | .int i,v=>∃t,v= .int i t
 | .tup fs,v=>∃a o n us,v= .ref a/\h.get? a=some o/\o.cls= .type "tuple"/\o.data= .seq (List.toArray us) n/\Paired FlV fs us
 |_,_=>False
variable{d:D}
theorem jP.keep{h h' :Heap}{v:Value}(k:jP h d v)(e:∀b o,h.get? b=some o->h'.get? b=some o):jP h' d v:=by
 cases d with
 |int i=>exact k
 |tup fs=>obtain⟨a,o,n,us,h1,h2,h3⟩:=k;exact⟨a,o,n,us,h1,e _ _ h2,h3⟩
 |_=>exact k
theorem lj{α β:Type}{R S:α->β->Prop}(h:∀a b,R a b->S a b){xs:List α}{ys:List β}(p:Paired R xs ys):Paired S xs ys:=L2.Paired.J1 p h
theorem JV{xs ys:List Nat}(h:xs.map Int.ofNat=ys.map Int.ofNat):xs=ys:=by
 induction xs generalizing ys with
 |nil=>cases ys with
  |nil=>rfl
  |cons=>simp at h
 |cons x xs ih=>cases ys with
  |nil=>simp at h
  |cons y ys=>
   simp only[GaA,List.cons.injEq] at h;rw[ih h.2,Int.ofNat_inj.mp h.1]
variable{x y:Str}
theorem JW(h:x.cps.toList=y.cps.toList):x=y:=by
 cases x;cases y
 simp only at h;rw[Array.toList_inj.mp h]
variable{a:D}
theorem pb{b:D}(ha:mD a=true)(hb:mD b=true)(h:aQ a=aQ b):a=b:=by
 cases a<;>cases b<;>simp[mD,tyD] at ha hb<;>simp[aQ] at h
 .rfl
 .rw[h]
 .have:=JW (JV h);rw[this]
theorem uy:∀{as bs:List D},as.all mD=true->bs.all mD=true->as.map aQ=bs.map aQ->as=bs
 |[],[],_,_,_=>rfl
 |[],_::_,_,_,h=>by simp at h
 |_::_,[],_,_,h=>by simp at h
 |a::as,b::bs,ha,hb,h=>by
  rw[Gce,Gan] at ha hb;simp only[GaA,List.cons.injEq] at h;rw[pb ha.1 hb.1 h.1,uy ha.2 hb.2 h.2]
theorem Mv{t:Nat}(h:(tyD a==t)=true)(ht:t≠3):mD a=true:=by
 unfold mD;rw[GcU] at h;rw[h]
 simpa using ht
theorem lW{t:Nat}(ht:t≠3)(h:mE t d=true):∃f r,d= .tup (f::r)/\tyD f=t/\(f::r).all mD=true:=by
 unfold mE at h;split at h
 .rename_i f r;rw[Gan] at h;refine⟨f,r,rfl,GcU.mp h.1, ?_⟩;rw[Gce,Gan];exact⟨Mv h.1 ht,h.2⟩
 .cases h
theorem jo(h:EO d=true):∃i,d= .int i:=by
 unfold EO at h;split at h
 .exact⟨_,rfl⟩
 .cases h
theorem Ah{ds:List D}(h:keysOk ds=true):∀a∈ds,∀b∈ds,code a=code b->a=b:=by
 intro a ha b hb e;unfold keysOk at h;rw[GaP,Gan,GaP] at h;have tup:∀t,t≠3->ds.all (mE t)=true->a=b:=λt ht hk=>by
  obtain⟨f,r,rfl,_,q1⟩:=lW ht (Gap.mp hk a ha);obtain⟨f',r',rfl,_,q2⟩:=lW ht (Gap.mp hk b hb);rw[uy q1 q2 e]
 rcases h with h| ⟨h|h,_⟩
 .obtain⟨i,rfl⟩:=jo (Gap.mp h a ha);obtain⟨j,rfl⟩:=jo (Gap.mp h b hb);simp[code,aQ] at e;rw[e]
 .exact tup 1 (by decide) h
 .exact tup 2 (by decide) h
theorem Dl{i j:Int}:dM ltI (aQ (.int i)) (aQ (.int j))=decide (i<j):=by
 unfold aQ;simp only[dM,GbK];by_cases e:i=j
 .subst e;simp
 .rw[Gag e];rfl
theorem Dm:∀(xs ys:List Nat),dM ltI (xs.map Int.ofNat) (ys.map Int.ofNat)=decide (xs<ys)
 |[],[]=>by simp[dM]
 |[],y::ys=>by simp[dM]
 |x::xs,[]=>by simp[dM]
 |x::xs,y::ys=>by
  simp only[GaA,dM];by_cases e:x=y
  .subst e;rw[Gah rfl,Dm xs ys];simp[List.cons_lt_cons_iff]
  .rw[Gag (λz:Int.ofNat x=Int.ofNat y=>e (Int.ofNat_inj.mp z))];have:(x::xs<y::ys)↔x<y:=by rw[List.cons_lt_cons_iff];simp[e]
   unfold ltI;simp[this]
theorem JX:dM ltI (aQ (.str x)) (aQ (.str y))=decide (x.cps.toList<y.cps.toList):=by
 unfold aQ;simp only[dM,GbK];exact Dm _ _
section
variable{prog:Program}{w:World}{A:Around}{E:Value->Shared->Prop}{s:Shared}
variable{u v:Value}{b:D}
theorem Pc{a:D}{Q:Bool->Shared->Prop}(ha:FlV a u)(hb:FlV b v)(ht:tyD a=tyD b)(h:Q (decide (aQ a=aQ b)) s):wpAny (model prog w) A (eqBool u v) Q E s:=by
 cases a<;>cases b<;>simp[tyD] at ht<;>try exact ha.elim
 .cases ha;cases hb
  unfold eqBool;refine GbJ ?_;simp only[aQ,Gdy] at h;rw[Gah (by rfl)];exact Gaa (wpAny_rule (Gae h))
 .obtain⟨t,rfl⟩:=ha;obtain⟨t',rfl⟩:=hb;refine wpAny_eqBool_int ?_;rename_i i j;have e:decide (aQ (.int i)=aQ (.int j))=(i==j):=by
   simp only[aQ];by_cases q:i=j
   .subst q;simp
   .simp[q]
  rw[e] at h;exact h
 .obtain⟨t,rfl⟩:=ha;obtain⟨t',rfl⟩:=hb;refine eqBool_str ?_;rename_i i j;have e:decide (aQ (.str i)=aQ (.str j))=(i==j):=by
   by_cases q:i=j
   .subst q;simp
   .have:¬aQ (.str i)=aQ (.str j):=λz=>q (by
     have:=pb (a:= .str i) (b:= .str j) rfl rfl z;cases this;rfl)
    simp[q,this]
  rw[e] at h;exact h
theorem Pd{a:D}{one:Bool}{Q:Bool->Shared->Prop}(ha:FlV a u)(hb:FlV b v)(ht:tyD a=tyD b)(hk:tyD a=1\/tyD a=2)(h:Q (dM ltI (aQ a) (aQ b)) s):wpAny (model prog w) A (oneLt' one u v) Q E s:=by
 cases a<;>cases b<;>simp[tyD] at ht hk
 .obtain⟨t,rfl⟩:=ha;obtain⟨t',rfl⟩:=hb;rw[Dl] at h;cases one with
  |true=>exact oneLt_int h
  |false=>exact kat_one _ _ (PyProof.Rows.lt_int h)
 .obtain⟨t,rfl⟩:=ha;obtain⟨t',rfl⟩:=hb;rw[JX] at h;cases one with
  |true=>exact oneLt_str h
  |false=>exact kat_one _ _ (PyProof.Rows.lt_str h)
theorem Mw{b fin:Bool}{Q:Bool->Shared->Prop}:∀{as bs:List D} {us vs:List Value} (i:Nat),Paired FlV as us->Paired FlV bs vs->mH as bs=true->fin=decide (as.length<bs.length)->Q (ltC (as.map aQ) (bs.map aQ)) s->KatLex prog w A b fin Q (us.zip vs) i s:=by
 intro as;induction as with
 |nil=>
  intro bs us vs i p1 p2 _ hf h;have h' :Q fin s:=by
   rw[hf];cases p2 with
   |nil=>exact h
   |cons _ _=>rw[Gaz (by simp)];exact h
  cases p1;exact h'
 |cons a as ih=>
  intro bs us vs i p1 p2 hc hf h;cases p1 with
  | @cons _ u _ us ha ta=>
  cases p2 with
  |nil=>
   have h' :Q fin s:=by rw[hf,Gax (by simp)];exact h
   exact h'
  | @cons c v cs vs hb tb=>
  unfold mH at hc;have h0:ltC ((a::as).map aQ) ((c::cs).map aQ)=if aQ a=aQ c then ltC (as.map aQ) (cs.map aQ) else dM ltI (aQ a) (aQ c):=rfl
  rw[h0] at h;have ht:tyD a=tyD c:=by
   split at hc
   .rename_i e;cases a<;>first|exact ha.elim|(cases c<;>first|exact hb.elim|rfl|(simp[aQ] at e;done))
   .rw[Gan] at hc;exact GcU.mp hc.1
  show wpAny _ _ (eqBool u v) _ _ s;refine Pc ha hb ht ?_;by_cases e:aQ a=aQ c
  .rw[Gaz e,Gah rfl];rw[Gah e] at h hc;exact ih (i+1) ta tb hc (by rw[hf];simp) h
  .rw[Gax e,Gag Gal];rw[Gag e] at h hc;rw[Gan,GaP] at hc;exact Pd ha hb ht (hc.2.imp GcU.mp GcU.mp) h
variable{vs:List Value}{ds:List D}
theorem Ai{Y:SortKind}(hK:Paired (jP s.heap) ds vs)(hok:keysOk ds=true)(hY:(ds.all EO=true/\Y=oneType')\/((ds.all (mE 1)||ds.all (mE 2))=true/\(ds.all λx=>ds.all λy=>A0 x y)=true/\Y=tuples' true)):
  ∀i j C,i<ds.length->j<ds.length->C (decide (rank (ds.map code) i<rank (ds.map code) j)) s->kas_ask prog w A Y vs i j C s:=by
 intro i j C hi hj h;have hl:=hK.length;rw[D6 (by simpa using hi) (by simpa using hj)] at h;simp only[Gch] at h;unfold kas_ask;have gi:vs.getD i Value.none=vs[i]:=by simp[<-hl,hi]
 have gj:vs.getD j Value.none=vs[j]:=by simp[<-hl,hj]
 rw[gi,gj];have at_:∀{ds:List D} {vs:List Value},Paired (jP s.heap) ds vs->∀(i:Nat) (h1:i<ds.length) (h2:i<vs.length),jP s.heap ds[i] vs[i]:=by
  intro ds vs hK;induction hK with
  |nil=>intro i h1;simp at h1
  |cons h t ih=>
   intro i h1 h2;cases i with
   |zero=>exact h
   |succ i=>exact ih i (by simpa using h1) (by simpa using h2)
 have ki:=at_ hK i hi (by lia);have kj:=at_ hK j hj (by lia);rcases hY with⟨a1,rfl⟩| ⟨a1,a2,rfl⟩
 .obtain⟨x,hx⟩:=jo (Gap.mp a1 ds[i] (GaI hi));obtain⟨y,hy⟩:=jo (Gap.mp a1 ds[j] (GaI hj));rw[hx] at ki h;rw[hy] at kj h;obtain⟨t,ei⟩:=ki;obtain⟨t',ej⟩:=kj;rw[ei,ej];refine kat_lt_int ?_;have e:ltC (code (.int x)) (code (.int y))=decide (x<y):=by
   show dM (dM ltI) [aQ (.int x)] [aQ (.int y)]=_;unfold dM;split
   .rename_i z;have:=pb (a:= .int x) (b:= .int y) rfl rfl z;cases this;simp[dM]
   .exact Dl
  rw[e] at h;exact h
 .have tup:∀d∈ds,∃fs,d= .tup fs:=λd hd=>by
   rw[GaP] at a1;rcases a1 with a1|a1
   .obtain⟨f,r,e,_⟩:=lW (by decide) (Gap.mp a1 d hd);exact⟨_,e⟩
   .obtain⟨f,r,e,_⟩:=lW (by decide) (Gap.mp a1 d hd);exact⟨_,e⟩
  have cm:=Gap.mp (Gap.mp a2 ds[i] (GaI hi)) ds[j] (GaI hj);obtain⟨xs,hx⟩:=tup ds[i] (GaI hi);obtain⟨ys,hy⟩:=tup ds[j] (GaI hj);rw[hx] at ki h cm;rw[hy] at kj h cm;obtain⟨a,o,n,us,ei,h1,h2,h3,h4⟩:=ki;obtain⟨a',o',n',UO,ej,yl,Rw,UB,T8⟩:=kj;rw[ei,ej];refine kat_lt h1 h3 yl UB ?_;exact Mw 0 h4 T8 cm (by rw[Gav,Gav,h4.length,T8.length]) h
theorem uz{t:Nat}(ht:t≠3)(p:Paired (jP s.heap) ds vs):ds.all (mE t)=true->∃fs:List Value,∃gs:List D,KatTups s.heap vs fs/\Paired FlV gs fs/\(∀g∈gs,tyD g=t)/\fs.length=vs.length:=by
 induction p with
 |nil=>exactλ_=> ⟨[],[],trivial,.nil,(by intro g hg;cases hg),rfl⟩
 |cons h tl ih=>
  intro hk;rw[Gce,Gan] at hk;obtain⟨fs,gs,h1,h2,h3,h4⟩:=ih hk.2;obtain⟨f,r,rfl,q1,q2⟩:=lW ht hk.1;obtain⟨a,o,n,us,rfl,g1,g2,g3,g4⟩:=h;cases g4 with
  |cons p t=>
   refine⟨_::fs,f::gs,KatTups.cons g1 g2 g3 (by simp) h1,.cons p h2,λg hg=> ?_,by simp[h4]⟩;rcases Gar.mp hg with e|e
   .subst e;exact q1
   .exact h3 g e
theorem Dn{M:Model}{h:Heap}{d:D}{t:Nat}(hd:FlV d v)(ht:tyD d=t):(t=1->PySem.W.Looks M h (typeOf v) (.type "int"))/\(t=2->PySem.W.Looks M h (typeOf v) (.type "str")):=by
 subst ht;cases d<;>simp[tyD]<;>try exact hd.elim
 .obtain⟨u,rfl⟩:=hd;exact PySem.W.Looks.of_pure rfl
 .obtain⟨u,rfl⟩:=hd;exact PySem.W.Looks.of_pure rfl
theorem uA{Q:SortKind->Shared->Prop}(hK:Paired (jP s.heap) ds vs)(hok:keysOk ds=true)(h2:2<=ds.length)
  (h:∀Y,((ds.all EO=true/\Y=oneType')\/((ds.all (mE 1)||ds.all (mE 2))=true/\(ds.all λx=>ds.all λy=>A0 x y)=true/\Y=tuples' true))->Q Y s):wpAny (model prog w) A (keyKind' vs.toArray) Q E s:=by
 have hl:=hK.length;unfold keysOk at hok;rw[GaP,Gan] at hok;rcases hok with hok| ⟨hok,hc⟩
 .have ia:∀{ds:List D} {vs:List Value},Paired (jP s.heap) ds vs->ds.all EO=true->∃ns,IntsAre vs ns:=by
   intro ds vs hK;induction hK with
   |nil=>intro _;exact⟨[],.nil⟩
   |cons p t ih=>
    intro hk;rw[Gce,Gan] at hk;obtain⟨ns,q⟩:=ih hk.2;obtain⟨i,rfl⟩:=jo hk.1;obtain⟨u,rfl⟩:=p;exact⟨i::ns,.cons i u q⟩
  obtain⟨ns,q⟩:=ia hK hok
  match vs,hl,q with
  |[],e,_=>rw[GbP] at e;lia
  |[_],e,_=>rw[GcM] at e;lia
  |v1::v2::vr,_,q=>
   rw[keyKind_ints q];exact Gae (h _ (.inl ⟨hok,rfl⟩))
 .have xX :=hok;rw[GaP] at xX;rcases xX with a1|a1
  .obtain⟨fs,gs,q1,q2,q3,q4⟩:=uz (s:=s) (by decide) hK a1;refine kat_kind (T:= .type "int") q1 (by rw[q4,<-hl];lia) (λv hv=> ?_) (by rfl) (h _ (.inr ⟨hok,hc,rfl⟩));obtain⟨g,hg,S7⟩:∃g∈gs,FlV g v:=by
    clear q1 q3 q4;induction q2 with
    |nil=>cases hv
    |cons p t ih=>
     rcases Gar.mp hv with e|e
     .subst e;exact⟨_,Gaf,p⟩
     .obtain⟨g,h1,h2⟩:=ih e;exact⟨g,Gac _ h1,h2⟩
   exact(Dn S7 (q3 g hg)).1 rfl
  .obtain⟨fs,gs,q1,q2,q3,q4⟩:=uz (s:=s) (by decide) hK a1;refine kat_kind (T:= .type "str") q1 (by rw[q4,<-hl];lia) (λv hv=> ?_) (by rfl) (h _ (.inr ⟨hok,hc,rfl⟩));obtain⟨g,hg,S7⟩:∃g∈gs,FlV g v:=by
    clear q1 q3 q4;induction q2 with
    |nil=>cases hv
    |cons p t ih=>
     rcases Gar.mp hv with e|e
     .subst e;exact⟨_,Gaf,p⟩
     .obtain⟨g,h1,h2⟩:=ih e;exact⟨g,Gac _ h1,h2⟩
   exact(Dn S7 (q3 g hg)).2 rfl
theorem Hm(vs:List Value):(vs.toArray.zip vs.toArray).map (·.2)=vs.toArray:=by
 apply Array.toList_inj.mp;rw[Array.toList_map,Array.toList_zip];exact List.map_snd_zip (Gaq _)
variable{n:Nat}{a:Addr}
theorem C0{P:PySem.Fin->Shared->Prop}{Ok:Array Value->Prop}(ho:s.heap.get? a=some (seqObj "list" vs.toArray n))(sz:vs.length<=sizeLine)(one:vs.length<2->Ok vs.toArray)(len:∀out,Ok out->out.size=vs.length)
  (big:∀G:Heap,(∀b o,b≠a->s.heap.get? b=some o->G.get? b=some o)->2<=vs.length->wpAny (model prog w) A (keyKind' vs.toArray) (λY s1=>wpAny (model prog w) A (sortRuns'.run (SortSt.mk' Y (vs.toArray.zip vs.toArray) #[] 7 none)) (λr s2=>s2={s with heap:=G}/\failedOf r.2=none/\Ok ((arrOf r.2).map (·.2))) E s1) E {s with heap:=G})
  (h:∀out,Ok out->P (.done (.ret .none)) {s with heap:=sortedHeap s.heap a vs out}):wpAny (model prog w) A (Builtin.«list.sort» ⟨[.ref a],[]⟩) P E s:=by
 have⟨ep,e1⟩:∃ep,(s.heap.update a (Obj.mapSeq λ_=>(#[]:Array Value))).get? a=some (seqObj "list" #[] ep):=⟨_,get?_update_seq ho _⟩
 rw[list_sort_plain];refine Gaa (listItems_at ho rfl (Gaa (listUpdate_at ho rfl (Gaa (seqEpoch_at e1 rfl (Gaa (wpAny_newTuple (Gaa (wpAny_newList (GbJ ?_) (Gbk _))) sz)))) (by simpa using sz) (Gbk _))));have e2:=Gaj (seqObj "list" #[] 0) (Gaj (seqObj "tuple" vs.toArray 0) e1);have last:∀st:SortSt,failedOf st=none->Ok ((arrOf st).map (·.2))->wpAny (model prog w) A (do
   let touched:=(<-seqEpoch a) !=ep
   Builtin.List.listUpdate (.ref a) λ_=>(arrOf st).map (·.2)
   if let some e:=failedOf st then rule "list.sort.comparison-raised";throw e
   if touched then rule "list.sort.modified";raiseError "ValueError" "list modified during sort"
   ret .none) P E {s with heap:=((s.heap.update a (Obj.mapSeq λ_=>(#[]:Array Value))).push (seqObj "tuple" vs.toArray 0)).push (seqObj "list" #[] 0)}:=λst f ok=>by
  refine Gaa (seqEpoch_at e2 rfl (Gaa (listUpdate_at e2 rfl ?_ (Gbk _) (by rw[len _ ok];lia))));rw[f]
  wp_walk
  exact h _ ok
 by_cases c:vs.length<2
 .have c' :vs.toArray.size<2:=by simpa using c
  rw[Gah c',Gah c'];refine Gaa (Gae (Gaa (Gae (last (SortSt.mk' general' (vs.toArray.zip vs.toArray) #[] 7 none) rfl ?_))));show Ok ((vs.toArray.zip vs.toArray).map (·.2));rw[Hm];exact one c
 .have c' :¬vs.toArray.size<2:=by simpa using c
  rw[Gag c',Gag c'];refine Gaa (on (big _ (λb o n q=>Gaj _ (Gaj _ ((Gcj _ _ (Ne.symm n)).trans q))) (by lia)) λY s1 q=>Gaa (on q ?_));rintro⟨⟨⟩,st⟩ s2 ⟨rfl,f,ok⟩;exact last st f ok
def jQ(cs:List (List (List Int)))(vs:List Value)(out:Array Value):Prop:=∃p:Array Nat,Ord vs.length p/\Up (rank cs) p vs.length/\out=List.toArray (p.toList.map λi=>vs.getD i Value.none)
variable{cs:List (List (List Int))}
theorem jQ.len{out:Array Value}(x:jQ cs vs out):out.size=vs.length:=by
 obtain⟨p,h1,_,rfl⟩:=x;rw[Gav,Gab,GaN,h1.size]
theorem jQ.one(c:vs.length<2):jQ cs vs vs.toArray:=by
 refine⟨List.toArray (List.range vs.length),List.Perm.refl _,λu v q r=> ?_, ?_⟩
 .rw[show u=v by lia];exact Gbp _
 .rcases vs with _| ⟨x,_| ⟨y,t⟩⟩
  .rfl
  .rfl
  .exact absurd c (by simp)
def vO(prog:Program)(w:World)(A:Around)(E:Value->Shared->Prop)(s:Shared)(cs:List (List (List Int)))(vs:List Value):Prop:=
 2<=vs.length->∀Q:SortKind->Shared->Prop,(∀Y,(∀i j C,i<vs.length->j<vs.length->C (decide (rank cs i<rank cs j)) s->kas_ask prog w A Y vs i j C s)->Q Y s)->wpAny (model prog w) A (keyKind' vs.toArray) Q E s
theorem mM{P:PySem.Fin->Shared->Prop}(ho:s.heap.get? a=some (seqObj "list" vs.toArray n))(yS:vs.length<64)
  (hK:∀G:Heap,(∀b o,b≠a->s.heap.get? b=some o->G.get? b=some o)->vO prog w A E {s with heap:=G} cs vs)
  (h:∀p:Array Nat,Ord vs.length p->Up (rank cs) p vs.length->P (.done (.ret .none)) {s with heap:=sortedHeap s.heap a vs (List.toArray (p.toList.map λi=>vs.getD i Value.none))}):wpAny (model prog w) A (Builtin.«list.sort» ⟨[.ref a],[]⟩) P E s:=by
 refine C0 (Ok:=jQ cs vs) ho (by rw[GbC];lia) jQ.one (λ_ q=>q.len) (λG kp c=>hK G kp c _ λY hY=> ?_) λ_ ⟨p,h1,h2,e⟩=>e▸h p h1 h2;refine Gci (kat_run (E:=E) (Q:=λst s2=>s2={s with heap:=G}/\failedOf st=none/\jQ cs vs ((arrOf st).map (·.2))) (G:=λp s' =>s' ={s with heap:=G}/\Ord vs.length p/\Up (rank cs) p vs.length) rfl (by lia) yS (λp st s' q1 q2 q3 q4=> ?_) (Asks.wp (s:={s with heap:=G}) (λi j C hi hj=>hY i j C hi hj) (λp hp=> ⟨rfl,hp.1,hp.2⟩) _ (JT (by lia)))) (λr s' q=>q) λ_ _ e=>e;exact⟨q4.1,q3,p,q4.2.1,q4.2.2,kat_snds rfl q2⟩
theorem vP{P:PySem.Fin->Shared->Prop}(ho:s.heap.get? a=some (seqObj "list" vs.toArray n))(yS:vs.length<64)(hK:Paired (jP s.heap) ds vs)(hok:keysOk ds=true)
  (h:∀p:Array Nat,Ord vs.length p->Up (rank (ds.map code)) p vs.length->P (.done (.ret .none)) {s with heap:=sortedHeap s.heap a vs (List.toArray (p.toList.map λi=>vs.getD i Value.none))}):wpAny (model prog w) A (Builtin.«list.sort» ⟨[.ref a],[]⟩) P E s:=by
 have hl:=hK.length;refine mM ho yS (λG kp c Q q=> ?_) h;have one:∀{d:D} {v:Value},jP s.heap d v->jP G d v:=λ{d v} k=>by
  cases d with
  |tup fs=>
   obtain⟨b,o,m,us,h1,h2,h3,h4⟩:=k;refine⟨b,o,m,us,h1,kp b o (λz=> ?_) h2,h3,h4⟩;rw[z,ho] at h2;cases h2;exact absurd h3 (by simp[seqObj])
  |_=>exact k
 have hKG:=lj (λ_ _=>one) hK;exact uA (s:={s with heap:=G}) hKG hok (by lia) λY hY=>q Y λi j C hi hj hc=>Ai (s:={s with heap:=G}) hKG hok hY i j C (by lia) (by lia) hc
variable{T:String}{o:Obj}{l:Addr}
theorem Aj{Q:List Value->Shared->Prop}(ho:s.heap.get? l=some o)(hc:o.cls= .type T)(hT:T="list"\/T="tuple")(hd:o.data= .seq vs.toArray n)
  (h:Q vs {s with heap:=(s.heap.push (seqObj "list" #[] 0)).update s.heap.objs.size (Obj.mapSeq (· ++vs.toArray))})(xW:vs.length<=sizeLine):wpAny (model prog w) A (collect (.ref l)) Q E s:=by
 have e0:(s.heap.push (seqObj "list" #[] 0)).get? s.heap.objs.size=some (seqObj "list" #[] 0):=GaD _ rfl;have el:=Gaj (seqObj "list" #[] 0) ho;have up:(#[]++vs.toArray:Array Value)=vs.toArray:=by simp
 have ek:((s.heap.push (seqObj "list" #[] 0)).update s.heap.objs.size (Obj.mapSeq (· ++vs.toArray))).get? s.heap.objs.size=some (seqObj "list" (#[]++vs.toArray) _):=get?_update_seq e0 _;rw[up] at ek;refine gather λR r=> ?_;have c:(Builtin.List.listSameRef (.ref s.heap.objs.size) (.ref l)||Value.type T== .type "list"||Value.type T== .type "tuple")=true:=by rcases hT with rfl|rfl<;>rw[GaP,GaP]<;>simp
 exact Gaa (GdJ ⟨o,el,hc⟩ (wpAny_ite_true (by rw[c];rfl) (Gaa (listItems_at el hd (Gaa (listItems_at e0 rfl (Gcb (by simp) (Gaa (listUpdate_at e0 rfl (Gae (r _ vs.toArray _ ek h)) (Gbk _) (by rw[up,Gav];lia))))))))))
theorem F4{Q:Value->Shared->Prop}(ho:s.heap.get? l=some o)(hc:o.cls= .type T)(hT:T="list"\/T="tuple")(hd:o.data= .seq vs.toArray n)(yS:vs.length<64)(hK:Paired (jP s.heap) ds vs)(hok:keysOk ds=true)
  (h:∀p:Array Nat,Ord vs.length p->Up (rank (ds.map code)) p vs.length->Q (.ref (s.heap.objs.size+1)) {s with heap:=sortedAll s.heap vs (List.toArray (p.toList.map λi=>vs.getD i Value.none))}):wpAny (model prog w) A (call (.builtin "sorted") [.ref l]) Q E s:=by
 have szl:vs.length<=sizeLine:=by rw[GbC];lia
 refine Calls.call_function_entry kind_sorted plain_sorted entry_sorted (args_sorted1 _) ?_;unfold Builtin.«sorted»;refine Gaa (m:=checkCount "sorted" 1 1 _) (Gae (Gaa (Aj ho hc hT hd ?_ szl)));refine Gaa (wpAny_newList ?_ szl);generalize hG:(s.heap.push (seqObj "list" #[] 0)).update s.heap.objs.size (Obj.mapSeq (· ++vs.toArray))=G;have xW:G.objs.size=s.heap.objs.size+1:=by rw[<-hG,Heap.size_update,size_push']
 have yN:(G.push (seqObj "list" vs.toArray 0)).get? (s.heap.objs.size+1)=some (seqObj "list" vs.toArray 0):=by rw[<-xW];exact GaD _ rfl
 have keep:∀b o,s.heap.get? b=some o->(G.push (seqObj "list" vs.toArray 0)).get? b=some o:=λb o e=>by
  have hX:=Gau e;refine Gaj _ ?_;rw[<-hG,Heap.get?_update_ne _ _ _ _ (GaH hX)];exact Gaj _ e
 have hKG:Paired (jP (G.push (seqObj "list" vs.toArray 0))) ds vs:=by
  exact lj (λ_ _ p=>p.keep keep) hK
 show wpAny _ _ _ _ _ {s with heap:=G.push (seqObj "list" vs.toArray 0)};rw[xW];refine Gaa (GbJ (Gbo slot_list_sort ⟨_,yN,rfl⟩ entry_list_sort (vP (s:={s with heap:=G.push (seqObj "list" vs.toArray 0)}) yN yS hKG hok λp h1 h2=> ⟨_,rfl, ?_⟩) (args_list_sort _)));have:=h p h1 h2;unfold sortedAll at this;rw[hG] at this;exact Gae ⟨_,rfl,this⟩
end
section
variable{X:Cx}
variable{u:Value}{v:V}{d:D}{H:Hp}
theorem Pe{K:aq}{F:Addr->Prop}(r:Rep K F H d v)(hf:mD d=true)(ru:RelV v u):FlV d u:=by
 cases r<;>simp[mD,tyD] at hf
 .cases ru;rfl
 .exact ru
 .exact ru
theorem Hn{K:aq}{F:Addr->Prop}{H:Hp}:∀{ds:List D} {vs:List V} {us:List Value},aJ K F H ds vs->ds.all mD=true->Vals vs us->Paired FlV ds us
 |[],vs,us,r,_,ru=>by
  have:=r.cB;subst this;cases ru;exact .nil
 |d::ds,vs,us,r,hf,ru=>by
  obtain⟨v,w,rfl,h1,h2⟩:=r.cons_inv;rw[Gce,Gan] at hf;cases ru with
  |cons r1 r2=>exact .cons (Pe h1 hf.1 r1) (Hn h2 hf.2 r2)
noncomputable def isKey(d:D):Bool:=match d with
 | .int _=>true
 | .tup fs=>fs.all mD
 |_=>false
theorem oP{e8:List (Addr×Obj)}{Z:St}{F:Addr->Prop}{s:Shared}(I:Inv X e8 Z H s)(r:Rep X.K F H d v)(hk:isKey d=true)(ru:RelV v u):jP s.heap d u:=by
 cases r<;>simp[isKey] at hk
 .exact ru
 .rename_i a vs fs h l r;cases ru;obtain⟨its,rv,⟨o,h1,h2,n,h3⟩,_⟩:=I.tuple (SqT.of h);exact⟨a,o,n,its,rfl,h1,h2,h3,Hn ⟨l,r⟩ (Gap.mpr hk) rv⟩
theorem vQ{e8:List (Addr×Obj)}{Z:St}{F:Addr->Prop}{H:Hp}{s:Shared}(I:Inv X e8 Z H s):∀{ds:List D} {vs:List V} {us:List Value},aJ X.K F H ds vs->ds.all isKey=true->Vals vs us->Paired (jP s.heap) ds us
 |[],vs,us,r,_,ru=>by
  have:=r.cB;subst this;cases ru;exact .nil
 |d::ds,vs,us,r,hf,ru=>by
  obtain⟨v,w,rfl,h1,h2⟩:=r.cons_inv;rw[Gce,Gan] at hf;cases ru with
  |cons r1 r2=>exact .cons (oP I h1 hf.1 r1) (vQ I h2 hf.2 r2)
variable{ds:List D}
theorem Ak(h:keysOk ds=true):ds.all isKey=true:=by
 unfold keysOk at h;rw[GaP,Gan,GaP] at h;refine Gap.mpr λd hd=> ?_;have tup:∀t,t≠3->ds.all (mE t)=true->isKey d=true:=λt ht hk=>by
  obtain⟨f,r,rfl,_,q1⟩:=lW ht (Gap.mp hk d hd);exact q1
 rcases h with h| ⟨h|h,_⟩
 .obtain⟨i,rfl⟩:=jo (Gap.mp h d hd);rfl
 .exact tup 1 (by decide) h
 .exact tup 2 (by decide) h
theorem range_getD{α:Type}{xs:List α}{d:α}:(List.range xs.length).map (λi=>xs.getD i d)=xs:=by
 apply GcV
 .simp
 .intro i h1 h2;simp[h2]
variable{p:Array Nat}
theorem jq{α:Type}{xs:List α}{d:α}(h:Ord xs.length p):(p.toList.map λi=>xs.getD i d).Perm xs:=by
 have:=GdA (λi=>xs.getD i d) h;rw[range_getD] at this;exact this
theorem Ho{n:Nat}(h:Ord n p){i:Nat}(hi:i<p.toList.length):p.toList[i]<n:=GaX.mp (h.mem_iff.mp (GaI hi))
theorem rz(h:Ord ds.length p)(hu:Up (rank (ds.map code)) p ds.length):iU (p.toList.map λi=>ds.getD i .non):=by
 refine Gdd.mpr λi j hi hj yO=> ?_;rw[Gab] at hi hj;rw[Gch,Gch];have bi:=Ho h hi;have bj:=Ho h hj;have hs:=h.size;have xa :i<p.size:=by simpa using hi
 have hj' :j<p.size:=by simpa using hj
 have u:=hu i j (Gde yO) (by lia);unfold bV at u;have ei:p.getD i 0=p.toList[i]:=by simp[Array.getD,xa]
 have ej:p.getD j 0=p.toList[j]:=by simp[Array.getD,hj']
 rw[ei,ej] at u;have r:=D6 (cs:=ds.map code) (i:=p.toList[j]) (j:=p.toList[i]) (by simpa using bj) (by simpa using bi);rw[Gax (GcT.mpr u)] at r;simp only[Gch] at r;have gd:∀{k:Nat} (hk:k<ds.length),ds.getD k .non=ds[k]:=λ{k} hk=>by simp[hk]
 have gi:=gd bi;have gj:=gd bj;rw[gi,gj];exact r.symm
variable{vs:List V}
theorem Al{K:aq}{F:Addr->Prop}(h:Ord ds.length p)(r:aJ K F H ds vs):aJ K F H (p.toList.map λi=>ds.getD i .non) (p.toList.map λi=>vs.getD i .non):=by
 refine⟨by simp,λi d v e1 e2=> ?_⟩;rw[Gaw] at e1 e2;cases q:p.toList[i]? with
 |none=>rw[q] at e1;cases e1
 |some k=>
  rw[q] at e1 e2;have hk:k<ds.length:=GaX.mp (h.mem_iff.mp (GaE q));have xY:k<vs.length:=by rw[<-r.1];exact hk
  cases e1;cases e2
  exact r.2 k _ _ (by simp[hk]) (by simp[xY])
theorem Am{us:List Value}(h:Ord vs.length p)(r:Vals vs us):Vals (p.toList.map λi=>vs.getD i .non) (p.toList.map λi=>us.getD i Value.none):=by
 have hl:=r.length;have all:∀(l:List Nat),(∀i∈l,i<vs.length)->Vals (l.map λi=>vs.getD i .non) (l.map λi=>us.getD i Value.none):=by
  intro l;induction l with
  |nil=>intro _;exact .nil
  |cons i l ih=>
   intro hm;have hi:=hm i Gaf;obtain⟨u,hu,ru⟩:=r.get (x:=vs[i]) (i:=i) (by simp[hi]);refine .cons ?_ (ih λj hj=>hm j (Gac _ hj));have e1:vs.getD i .non=vs[i]:=by simp[hi]
   have e2:us.getD i Value.none=u:=by simp[hu]
   show RelV (vs.getD i .non) (us.getD i Value.none);rw[e1,e2];exact ru
 exact all _ λi hi=>GaX.mp (h.mem_iff.mp hi)
def Dp(K:aq):List V->Hp->VK->Prop:=λxs H Q=>∃(p:Addr) (ds:List D) (vs:List V) (F:Addr->Prop),xs=[.ref p]/\(SqL K H p vs\/SqT K H p vs)/\aJ K F H ds vs/\ds.length<64/\keysOk ds=true/\
 ∀l out,H l=none->(∀F',aJ K F' H ds vs->aJ K F' H (d7 ds) out)->Q (.ref l) (upd H l (.lst out))
theorem j2:fq X (.builtin "sorted") (Dp X.K):=by
 intro e8 s Z H xs us Q I rv h;obtain⟨p,ds,vs,F,rfl,hq,hr,yS,hok,q⟩:=h;obtain⟨u,rfl,ru⟩:=rv.one;cases ru;obtain⟨o,T,n,its,ho,hc,hT,hd,xv⟩:∃(o:Obj) (T:String) (n:Nat) (its:List Value),s.heap.get? p=some o/\o.cls= .type T/\(T="list"\/T="tuple")/\o.data= .seq its.toArray n/\Vals vs its:=by
  rcases hq with hq|hq
  .obtain⟨its,xv,pl,_⟩:=I.list hq;obtain⟨o,h1,h2,n,h3⟩:=pl.isList;exact⟨o,"list",n,its,h1,h2,.inl rfl,h3,xv⟩
  .obtain⟨its,xv,⟨o,h1,h2,n,h3⟩,_⟩:=I.tuple hq;exact⟨o,"tuple",n,its,h1,h2,.inr rfl,h3,xv⟩
 have e1:its.length=ds.length:=by rw[<-xv.length,hr.1]
 have hK:=vQ I hr (Ak hok) xv;refine F4 ho hc hT hd (by lia) hK hok λod h1 h2=> ?_;have yl :Ord ds.length od:=by rw[<-e1];exact h1
 have Rw :Up (rank (ds.map code)) od ds.length:=by rw[<-e1];exact h2
 have uniq:(od.toList.map λi=>ds.getD i .non)=d7 ds:=j8 ((jq yl).trans (cW ds).symm) (rz yl Rw) (fF ds) λa ha b hb=>Ah hok a ((jq yl).mem_iff.mp ha) b ((jq yl).mem_iff.mp hb);obtain⟨c,xN⟩:=sortedAll_at s.heap its (List.toArray (od.toList.map λi=>its.getD i Value.none));have fresh:H (s.heap.objs.size+1)=none:=I.hok.fresh (Gck _);have h1v:Ord vs.length od:=by rw[<-hr.1];exact yl
 refine⟨.ref (s.heap.objs.size+1),_,I.laid (a:=s.heap.objs.size+1) (o:= .lst (od.toList.map λi=>vs.getD i .non)) (t' :=s.toks) (λb ob e=>sortedAll_old e) (Gck _) ?_,rfl,q _ _ fresh λF' r=> ?_⟩
 .refine⟨?_,_,c,Am h1v xv,xN⟩;rw[Gab,GaN,h1v.size,<-hr.1,GbC];lia
 .rw[<-uniq];exact Al yl r
theorem i5:CallD X sortedS (Dp X.K):=by
 intro F H ds vs rv Q ps e k;obtain⟨d,xs,rfl,h1,h2⟩:=BV e;split at h2
 .rename_i c;rw[Gan] at c;cases h2;obtain⟨v,rfl,i⟩:=dY ps;obtain⟨p,vs,rfl,hs,r⟩:=vM i h1;exact⟨p,xs,vs,F,rfl,hs,r,Gao c.1,c.2,λl out hl hr=>k _ _ (bf hl) ⟨l,rfl,hl,qU,rfl,fU hl (hr F r)⟩⟩
 .cases h2
end
section
variable{X:Cx}{e a b c:Expr}{f g h:DE}{pos:Pos}
theorem _root_.L2.Inv.rA{e8:List (Addr×Obj)}{Z:St}{H:Hp}{s s' :Shared}{ch:List Addr}{T:Addr}{o:HO}(I:Inv X e8 Z H s)(hf:∀b∈ch,kB X e8 H b)(yr:s'.os=s.os)(hg:s'.gens=s.gens)
  (k:∀b u,b∉ch->s.heap.get? b=some u->s'.heap.get? b=some u)(hT:s.heap.objs.size<=T)(new:cS X.prog X.w (upd H T o) s'.heap T o):Inv X e8 Z (upd H T o) s' :=by
 have hn:H T=none:=I.hok.fresh hT;have ne:∀{b u},H b=some u->b≠T:=λ{b u} q=>ff q hn;refine I.Gd (ch:=ch) yr ⟨λb ob q _ _ hx=>k b ob hx q,λb ob q _ _ hx=> ⟨ob.slots,k b ob hx q⟩,λb ob q n _=> ?_,λb ob q hx=> ⟨ob,k b ob hx q⟩,λb xs q=> ?_,λb ob u q=> ?_,λb ps q=> ⟨#[], ?_⟩⟩ ?_ (by rw[hg];exact I.bare) λb hb=> ⟨(hf b hb).2.2.2.1,(hf b hb).2.1,(hf b hb).2.2.2.2.1,(hf b hb).2.2.2.2.2⟩
 .rw[aE (GaH (GaG (Gau q) hT))];exact n
 .rw[aE (ne q)];exact q
 .rw[aE (ne q)];exact q
 .rw[aE (ne q),q];simp
 .intro b u q;by_cases hb:b=T
  .subst hb;rw[b9] at q;cases q;exact new
  .rw[aE hb] at q;have tr:∀{c v},H c=some v->c∉ch:=λ{c v} z hc=>by rw[(hf c hc).1] at z;cases z
   refine(I.hok b u q).j6 (λc v hc z=>k c v ?_ z) (λc z=>by rw[aE (ne z)];exact z) λc xs z=>by rw[aE (ne z)];exact z
   rcases hc with hc|hc
   .rw[hc];exact tr q
   .exact tr hc
noncomputable def Ite(K:aq)(l:Addr):It:=
 ⟨λi H=>∃xs x,SqL K H l xs/\xs[i]? =some x,λi H x H' =>∃p y,H p=none/\x= .ref p/\H' =upd H p (.tup [.int i,y])/\∀xs,SqL K H l xs->xs[i]? =some y,λi H=>∃xs,SqL K H l xs/\xs.length<=i⟩
variable{tp:Pos}{elts:List Expr}{w:World}{P:Program}
theorem F5{K:aq}{x1}(en it l:Addr)(xM:en≠it):Turn P w K (.Tuple elts x1 tp) (Ite K l) [en,it] en (λi h=>(∃old,IsEnum h en it i old)/\h.IsListIter it l i) where
 mem:=by simp
 obj:=λi h st b hb=>by
  obtain⟨⟨old,he⟩,o,e,c,d⟩:=st;rcases Gar.mp hb with z|z
  .subst z;exact⟨_,he,λv z=>by
    have z' :Data.fields _=Data.cell v:=z;cases z'⟩
  .have z' :b=it:=by simpa using z
   subst z';exact⟨o,e,λv z=>by rw[d] at z;cases z⟩
 keep:=λi h h' st k=> ⟨let⟨old,he⟩:=st.1;⟨old,k en (by simp) _ he⟩,st.2.at λo e=>k it (by simp) o e⟩
 item:=by
  intro X hP hw hK hc i e8 s Z H E I hf st hg;subst hP hw hK;obtain⟨⟨old,he⟩,hit⟩:=st;obtain⟨xs,x,hq,hx⟩:=hg;obtain⟨its,rv,p,hz⟩:=I.list hq;obtain⟨u,hu,ru⟩:=rv.get hx;refine wpAny_pyNext_enum_item he hit p.isList (x:=u) (by simpa using hu) xM λh' ho yj hT xW kk=> ⟨_,rfl, ?_⟩;refine wpAny_letOwnedTupleGo_enum (s:={s with heap:=h',toks:=s.toks+1}) ho λh2 zC sb=> ?_;have hltE:en<s.heap.objs.size:=Gau he;have kept:∀b o,b∉[en,it]->s.heap.get? b=some o->h2.get? b=some o:=λb o hb e=>by
   have b1:b≠en:=λz=>hb (by simp[z]);have b2:b≠it:=λz=>hb (by simp[z]);exact(sb.2 b b1).trans (kk b o b1 b2 e)
  have zZ:h2.get? s.heap.objs.size=some {cls:= .type "tuple",data:= .seq #[.int i s.toks,u]}:=(sb.2 _ (Gcw hltE)).trans hT;have I1:Inv X e8 Z (upd H s.heap.objs.size (.tup [.int i,x])) {s with heap:=h2,toks:=s.toks+1}:=I.rA (ch:=[en,it]) hf rfl rfl kept (Gaq _) (by
   refine⟨by simp[GbC],[.int i s.toks,u],.cons ⟨_,rfl⟩ (.cons ru .nil),_,zZ,rfl,0,rfl⟩)
  refine⟨.ref s.heap.objs.size,_,I1,rfl,⟨_,x,I.fresh,rfl,rfl,λys hy=>by rw[I.nK hy hq];exact hx⟩,⟨⟨u,by simpa using zC⟩,yj.at λo e=>(sb.2 it (Ne.symm xM)).trans e⟩,λb hb=> ?_⟩;obtain⟨o,ob,_⟩:∃o,s.heap.get? b=some o/\True:=by
   rcases Gar.mp hb with z|z
   .subst z;exact⟨_,he,trivial⟩
   .have z' :b=it:=by simpa using z
    subst z';obtain⟨o,e,_⟩:=hit;exact⟨o,e,trivial⟩
  rw[aE (GaH (Gau ob))];exact(hf b hb).1
 done:=by
  intro X hP hw hK hc i e8 s Z H E I hf st hg;subst hP hw hK;obtain⟨⟨old,he⟩,hit⟩:=st;obtain⟨xs,hq,hx⟩:=hg;obtain⟨its,rv,p,hz⟩:=I.list hq;obtain⟨f0,f1,f2,f3,f4,f5⟩:=hf it (by simp);have hl:=rv.length;exact wpAny_pyNext_enum_end (I.ok.hd hc) he hit p.isList (by simp;lia) λh' eb=> ⟨rfl,I.turned (t' :=s.toks) (λb o hb e=>eb b o hb e) f0 f1 f3 f4 f5⟩
 self:=λ_ _ _ _ _ st h=>let⟨old,he⟩:=st.1;Gdt he h
variable{z:Shared}{A:Around}{prog:Program}
theorem rB{E:Value->Shared->Prop}{it t:Addr}{i:Nat}{its:Array Value}{Q:Value->Shared->Prop}(hh:A.handled=none)(hit:z.heap.IsTupleIter it t i)(ht:z.heap.IsTuple t its)
  (hQ:∀x h',its[i]? =some x->h'.IsTupleIter it t (i+1)->Heap.SameBut it z.heap h' ->Q x {z with heap:=h' })
  (hE:∀h' e,its[i]? =none->Heap.ExtBut it z.heap h' ->(∃o,h'.get? e=some o/\o.cls= .type "StopIteration")->E (.ref e) {z with heap:=h' }):wpAny (model prog w) A (Builtin.SmallTypes.nextOf (.ref it)) Q E z:=by
 have f:FO z.heap it _ _:=hit;obtain⟨ol,Ub,_,nl,Uq⟩:=ht
 wp_walk using Gbz f.ty F.slot_tuple_iterator_next,Gbo F.slot_tuple_iterator_next f.ty F.entry_tuple_iterator_next (ha:=F.args_tuple_iterator_next_1 _),BZ (i:=0) (x:= .ref t) f rfl,BZ (i:=1) (x:= .int i 0) f rfl,Gcv Ub Uq
 rw[show its[(i:Int).toNat]? =its[i]? by simp];cases h:its[i]? with
 |some x=>
  wp_walk using p9 f
  .exactλh' k=>Gae ⟨_,rfl,Gae (hQ x h' h k.1 k.2)⟩
  .show _<2;decide
 |none=>
  wp_walk using p9 f
  .exactλh1 k=>Lp hh λh' a q=>hE h' a h (λb o n e=>q.1 b o (k.2.extBut b o n e)) q.2
  .show _<2;decide
theorem F6(hh:A.handled=none)(it l:Addr)(xM:l≠it)(its:Array Value):Draws prog w A it [it,l] its.size (λi v=>its[i]? =some v) (λi h=>h.IsTupleIter it l i/\h.IsTuple l its) where
 live:=λ_ _ st=>let⟨o,ho,_⟩:=st.1;⟨o,ho⟩
 frame:=λ_ _ _ st hk=> ⟨st.1.at λo e=>hk it (by simp) o e,let⟨o,ho,r⟩:=st.2;⟨o,hk l (by simp) _ ho,r⟩⟩
 item:=λi z Q E hi st hQ=>rB hh st.1 st.2 (λx h' hx yj yi =>hQ x h' z.toks hx ⟨yj,let⟨o,ho,r⟩:=st.2;⟨o,yi.extBut _ _ xM ho,r⟩⟩ yi) λ_ _ q=>absurd hi (by simpa using q)
 done:=λz Q E st hE=>rB hh st.1 st.2 (λ_ _ q=>absurd (Gbm.mp q).1 (Gbv _)) λh' e _=>hE h' e
noncomputable def Pf(K:aq)(l:Addr):It:=
 ⟨λi H=>∃xs x,SqT K H l xs/\xs[i]? =some x,λi H x H' =>∃p y,H p=none/\x= .ref p/\H' =upd H p (.tup [.int i,y])/\∀xs,SqT K H l xs->xs[i]? =some y,λi H=>∃xs,SqT K H l xs/\xs.length<=i⟩
theorem C1{K:aq}{x1}(en it l:Addr)(xM:en≠it)(hle:l≠en)(Uh:l≠it):Turn P w K (.Tuple elts x1 tp) (Pf K l) [en,it] en (λi h=>(∃old,IsEnum h en it i old)/\h.IsTupleIter it l i) where
 mem:=by simp
 obj:=λi h st b hb=>by
  obtain⟨⟨old,he⟩,o,e,c,d⟩:=st;rcases Gar.mp hb with z|z
  .subst z;exact⟨_,he,λv z=>by
    have z' :Data.fields _=Data.cell v:=z;cases z'⟩
  .have z' :b=it:=by simpa using z
   subst z';exact⟨o,e,λv z=>by rw[d] at z;cases z⟩
 keep:=λi h h' st k=> ⟨let⟨old,he⟩:=st.1;⟨old,k en (by simp) _ he⟩,st.2.at λo e=>k it (by simp) o e⟩
 item:=by
  intro X hP hw hK hc i e8 s Z H E I hf st hg;subst hP hw hK;obtain⟨⟨old,he⟩,hit⟩:=st;obtain⟨xs,x,hq,hx⟩:=hg;obtain⟨its,rv,p,hz⟩:=I.tuple hq;obtain⟨u,hu,ru⟩:=rv.get hx;have hi:i<its.toArray.size:=by
   have:=(Gam.mp hu).1
   simpa using this
  refine wpAny_pyNext_enum_itemD (F6 (A:=X.A.in1) (I.ok.hd hc) it l Uh its.toArray) he ⟨hit,p⟩ hi xM (by simp[xM,Ne.symm hle]) λu' h' tk SK ho yj hT xW kk=> ⟨_,rfl, ?_⟩;have hit1:=yj.1;have eu:u' =u:=by
   have zK:its.toArray[i]? =some u:=by simpa using hu
   rw[zK] at SK;cases SK;rfl
  subst eu;refine wpAny_letOwnedTupleGo_enum (s:={s with heap:=h',toks:=tk+1}) ho λh2 zC sb=> ?_;have hltE:en<s.heap.objs.size:=Gau he;have kept:∀b o,b∉[en,it]->s.heap.get? b=some o->h2.get? b=some o:=λb o hb e=>by
   have b1:b≠en:=λz=>hb (by simp[z]);have b2:b≠it:=λz=>hb (by simp[z]);exact(sb.2 b b1).trans (kk b o b1 b2 e)
  have zZ:h2.get? s.heap.objs.size=some {cls:= .type "tuple",data:= .seq #[.int i tk,u']}:=(sb.2 _ (Gcw hltE)).trans hT;have I1:Inv X e8 Z (upd H s.heap.objs.size (.tup [.int i,x])) {s with heap:=h2,toks:=tk+1}:=I.rA (ch:=[en,it]) hf rfl rfl kept (Gaq _) (by
   refine⟨by simp[GbC],[.int i tk,u'],.cons ⟨_,rfl⟩ (.cons ru .nil),_,zZ,rfl,0,rfl⟩)
  refine⟨.ref s.heap.objs.size,_,I1,rfl,⟨_,x,I.fresh,rfl,rfl,λys hy=>by rw[I.tW hy hq];exact hx⟩,⟨⟨u',by simpa using zC⟩,hit1.at λo e=>(sb.2 it (Ne.symm xM)).trans e⟩,λb hb=> ?_⟩;obtain⟨o,ob,_⟩:∃o,s.heap.get? b=some o/\True:=by
   rcases Gar.mp hb with z|z
   .subst z;exact⟨_,he,trivial⟩
   .have z' :b=it:=by simpa using z
    subst z';obtain⟨o,e,_⟩:=hit;exact⟨o,e,trivial⟩
  rw[aE (GaH (Gau ob))];exact(hf b hb).1
 done:=by
  intro X hP hw hK hc i e8 s Z H E I hf st hg;subst hP hw hK;obtain⟨⟨old,he⟩,hit⟩:=st;obtain⟨xs,hq,hx⟩:=hg;obtain⟨its,rv,p,hz⟩:=I.tuple hq;obtain⟨f0,f1,f2,f3,f4,f5⟩:=hf it (by simp);have hl:=rv.length;have fe:FO s.heap en "enumerate" _:=⟨_,he,rfl,rfl⟩
  have pt:s.heap.IsTuple l its.toArray:=p
  wp_walk using Gbz fe.ty F.slot_enumerate_next,Gbo F.slot_enumerate_next fe.ty F.entry_enumerate_next (ha:=F.args_enumerate_next_1 _),BZ (i:=2) (x:= .ref it) fe rfl,rB (A:=X.A.in1) (I.ok.hd hc) hit pt
  .exactλx h' q=>absurd (Gbm.mp q).1 (by simp;lia)
  .exactλh' e _ eb q=>Gaa (Dk q (Gae ⟨rfl,I.turned (t' :=s.toks) (λb o hb e=>eb b o hb e) f0 f1 f3 f4 f5⟩))
 self:=λ_ _ _ _ _ st h=>let⟨old,he⟩:=st.1;Gdt he h
theorem Hq{E:Value->Shared->Prop}{b:Bool}{Q:Bool->Shared->Prop}(h:∀b,Q b z):wpAny (model prog w) A (pure b) Q E z:=Gae (h b)
theorem An(l:Addr)(items:Array Value):
  Meets (Builtin.«enumerate.__new__» ⟨[.type "enumerate",.ref l],[]⟩) (λ_ R s=>s.heap.IsTuple l items/\
   R (.ok (.ret (.ref (s.heap.objs.size+1)))) {s with heap:=(s.heap.push {cls:= .type "tuple_iterator",data:= .fields #[.ref l,.int 0 0]}).push {cls:= .type "enumerate",data:= .fields #[.none,.bool false,.ref s.heap.objs.size,rawInt 0,.none,.none]}}):=by
 apply Meets.of_wp;rintro prog w A R s ⟨hl,h⟩;have sub:=sub_enumerate
 wp_walk using Gdk hl,wpAny_stack_any
 intro st;refine Hq λshort=> ?_;have sz:(s.heap.push {cls:= .type "tuple_iterator",data:= .fields #[.ref l,.int 0 0]}).objs.size=s.heap.objs.size+1:=Gcu ..;rw[<-sz] at h;cases short<;>wp_walk using Gdk hl<;>exact⟨_,rfl,h⟩
theorem C2{E:Value->Shared->Prop}{l:Addr}{items:Array Value}{Q:Value->Shared->Prop}(hL:z.heap.IsTuple l items)
  (h:∀h',IsEnum h' (z.heap.objs.size+1) z.heap.objs.size 0 .none->h'.IsTupleIter z.heap.objs.size l 0->(∀b o,z.heap.get? b=some o->h'.get? b=some o)->Q (.ref (z.heap.objs.size+1)) {z with heap:=h' }):
  wpAny (model prog w) A (call (.type "enumerate") [.ref l]) Q E z:=by
 have sz:(z.heap.push {cls:= .type "tuple_iterator",data:= .fields #[.ref l,.int 0 0]}).objs.size=z.heap.objs.size+1:=Gcu ..;have en:IsEnum ((z.heap.push {cls:= .type "tuple_iterator",data:= .fields #[.ref l,.int 0 0]}).push {cls:= .type "enumerate",data:= .fields #[.none,.bool false,.ref z.heap.objs.size,rawInt 0,.none,.none]}) (z.heap.objs.size+1) z.heap.objs.size 0 .none:=sz▸GaD _ rfl;exact callType_new F.called_enumerate (by decide) (F.typeCall_enumerate_1 _) (F.newCall_enumerate_1 _) (λ_=>F.args_object_init_2 _ _) F.entry_enumerate_new (An l items) ⟨hL,⟨_,en,rfl⟩,h _ en ⟨_,Gaj _ (GaD _ rfl),rfl,rfl⟩ λb o q=>Gaj _ (Gaj _ q)⟩
def Pg(K:aq)(tl:TA):TI:=λZ H R=>tl Z H λvs H1=>∃l,vs=[.ref l]/\(((∃xs,SqL K H1 l xs)/\R (Ite K l) H1)\/((∃xs,SqT K H1 l xs)/\R (Pf K l) H1))
variable{p:Pos}
theorem JY{x1}{ta:TA}(hg:Gl X "enumerate")(hm:X.mg "enumerate"=none)(ha:PA X [a] ta)(hs:autoParam (starEach [a] X.env=[(false,eval a X.env)]) Za1._auto_1):PI X (.Tuple elts x1 tp) (.Call (.Name "enumerate" p) [a] [] pos) (Pg X.K ta):=by
 intro e8 s Z H R I h;refine Call_ (kz I hg hm vJ (GbN (thn (ha pos e8 s Z H _ I h) λus s1 ⟨vs,H1,I1,r1,q1⟩=> ?_) hs rfl));obtain⟨l,e,q1⟩:=q1;subst e;cases r1 with
 |cons r rr=>
  cases rr;cases r;have Rx:∀b∈[s1.heap.objs.size+1,s1.heap.objs.size],kB X e8 H1 b:=λb hb=>by
   rcases Gar.mp hb with z|z
   .subst z;exact I1.Ey (Gck _) (I1.hok.fresh (Gck _))
   .have z' :b=s1.heap.objs.size:=by simpa using z
    subst z';exact I1.Ey (Gaq _) (I1.hok.fresh (Gaq _))
  rcases q1 with⟨⟨xs,hq⟩,q⟩| ⟨⟨xs,hq⟩,q⟩
  .obtain⟨its,rv,pl,hz⟩:=I1.list hq;refine call_enumerate_list pl.isList λh' he hit xW kk=> ?_;refine Gdt (s:={s1 with heap:=h' }) he ?_;exact⟨s1.heap.objs.size+1,[s1.heap.objs.size+1,s1.heap.objs.size],_,_,H1,rfl,I1.kept (t' :=s1.toks) kk,F5 _ _ l (Nat.succ_ne_self _),⟨⟨.none,he⟩,hit⟩,Rx,q⟩
  .obtain⟨its,rv,pl,hz⟩:=I1.tuple hq;have hX:l<s1.heap.objs.size:=pl.lt;refine C2 (show s1.heap.IsTuple l its.toArray from pl) λh' he hit kk=> ?_;refine Gdt (s:={s1 with heap:=h' }) he ?_;exact⟨s1.heap.objs.size+1,[s1.heap.objs.size+1,s1.heap.objs.size],_,_,H1,rfl,I1.kept (t' :=s1.toks) kk,C1 _ _ l (Nat.succ_ne_self _) (GaH (Gcc hX)) (GaH hX),⟨⟨.none,he⟩,hit⟩,Rx,q⟩
theorem JZ{x1}(hg:Gl X "enumerate")(hm:X.mg "enumerate"=none)(he:PEd X e f)(hs:autoParam (starEach [e] X.env=[(false,eval e X.env)]) Za1._auto_1):PId X (.Tuple elts x1 tp) (.Call (.Name "enumerate" p) [e] [] pos) (Ll f):=by
 refine(JY hg hm (bS he dO hs) hs).aF ?_;rintro Z H R ⟨H0,eC,env,ds,E,hf,k⟩;obtain⟨⟨kd,d⟩,hr,hf⟩:=eA hf;split at hf
 .cases hf
 rename_i hk;split at hf
 .rename_i xs hd;have xx :d= .lst xs:=hd;subst xx;cases hf;refine⟨H0,eC,env,[⟨kd,.lst xs⟩],E,by unfold a7 ae;rw[hr];rfl,λvs H1 s1 Rs=> ?_⟩;cases Rs with
  |cons Rv tl=>
   cases tl;have ii:=Rv.inn;have hno:=qv E rfl hk Rv;have E1:=E.mono s1;cases ii with
   | @lst la lv _ h r=>
    refine⟨_,rfl,.inl ⟨⟨_,.inl h⟩,k _ H1 s1 λHi keep=> ?_⟩⟩;have hh:Rd Hi la (.lst lv):=by
     rcases h with h| ⟨o,h⟩
     .exact .inl (keep _ _ h (hno _ rfl))
     .exact .inr ⟨o,keep _ _ h (hno _ rfl)⟩
    refine⟨λi d hd=> ?_,⟨_,.inl hh,by rw[ji,r.1];exact Gaq _⟩⟩;rw[jj] at hd;obtain⟨y,hy,rfl⟩:=Gas.mp hd;obtain⟨v,h1,h2⟩:=r.get hy;refine⟨⟨_,v,.inl hh,h1⟩,λz H2 ⟨p,w,hp,ez,eH,ew⟩=> ?_⟩;subst ez eH;have:=ew _ (.inl hh);rw[h1] at this;cases this
    refine⟨bf hp, ?_⟩;have rp:=E1.iq keep h2;rw[show(((0+i:Nat)):Int)=(i:Int) by simp];exact fh hp (.cons (.int _) (.cons rp .nil))
 .rename_i xs hd;have xx :d= .tup xs:=hd;subst xx;cases hf;refine⟨H0,eC,env,[⟨kd,.tup xs⟩],E,by unfold a7 ae;rw[hr];rfl,λvs H1 s1 Rs=> ?_⟩;cases Rs with
  |cons Rv tl=>
   cases tl;have ii:=Rv.inn;have E1:=E.mono s1;cases ii with
   | @tup la lv _ h r=>
    refine⟨_,rfl,.inr ⟨⟨_,SqT.of h⟩,k _ H1 s1 λHi keep=> ?_⟩⟩;have hh:Hi la=some (.tup lv):=keep _ _ h λw=>E1.iE w h trivial;refine⟨λi d hd=> ?_,⟨_,SqT.of hh,by rw[ji,r.1];exact Gaq _⟩⟩;rw[jj] at hd;obtain⟨y,hy,rfl⟩:=Gas.mp hd;obtain⟨v,h1,h2⟩:=r.get hy;refine⟨⟨_,v,SqT.of hh,h1⟩,λz H2 ⟨p,w,hp,ez,eH,ew⟩=> ?_⟩;subst ez eH;have:=ew _ (SqT.of hh);rw[h1] at this;cases this
    refine⟨bf hp, ?_⟩;have rp:=E1.iq keep h2;rw[show(((0+i:Nat)):Int)=(i:Int) by simp];exact fh hp (.cons (.int _) (.cons rp .nil))
 .cases hf
end
section
variable{X:Cx}{e a b c:Expr}{f g h:DE}{pos:Pos}
def Mx(neg:Bool):R2:=λx y H Q=>∃a o,y= .ref a/\wU H a x o/\Q (.bl (if neg then !o.isSome else o.isSome)) H
theorem F7(hu:X.A.units+1<cLine):OpR X (compareOp .In) (Mx false):=by
 intro e8 s Z H x y v u Q I rx ry h;obtain⟨p,o,rfl,g,q⟩:=h;cases ry;exact Qs hu I g rx λs' I' => ⟨.bl o.isSome,H,I',rfl,q⟩
theorem C3(hu:X.A.units+1<cLine):OpR X (compareOp .NotIn) (Mx true):=by
 intro e8 s Z H x y v u Q I rx ry h;obtain⟨p,o,rfl,g,q⟩:=h;cases ry;exact Ju hu I g rx λs' I' => ⟨.bl (!o.isSome),H,I',rfl,q⟩
variable{v:V}{H:Hp}
theorem K0{K:aq}{F:Addr->Prop}(n:Nat){d d' :D}(p:aD n d=true)(q:aD n d' =true)(r:Rep K F H d v)(t:Rep K F H d' v):d=d' :=vH n p q r t
noncomputable def Ph:Value->V
 | .bool b=> .bl b
 | .int i _=> .int i
 | .str x _=> .str x
 | .bytes b _=> .byt b
 | .float b _=> .flt b
 | .ref a=> .ref a
 | .type n=> .ty n
 |_=> .non
variable{u:Value}
theorem Ao(h:RelV v u):Ph u=v:=by
 cases v<;>first|(obtain⟨t,rfl⟩:=h;rfl)|(have h' :=h;unfold RelV at h';subst h';rfl)
theorem Hr{v' :V}(h:RelV v u)(h' :RelV v' u):v=v' :=(Ao h).symm.trans (Ao h')
def My(K:aq)(neg:Bool):R2:=λx y H Q=>∃p xs dx ds,y= .ref p/\(SqL K H p xs\/SqT K H p xs)/\aD 10 dx=true/\ds.all (aD 10)=true/\Rep K (λ_=>True) H dx x/\aJ K (λ_=>True) H ds xs/\Q (.bl (if neg then !ds.any (λy=>eqD y dx) else ds.any (λy=>eqD y dx))) H
variable{x:V}{dx:D}
theorem o5{e8:List (Addr×Obj)}{Z:L2.St}{z:Shared}(I:Inv X e8 Z H z)(hu:X.A.units+20<cLine){xs:List V}{its:List Value}{ds:List D}{v:Value}(r:Vals xs its)(hx:aD 10 dx=true)(hs:ds.all (aD 10)=true)
  (rx:Rep X.K (λ_=>True) H dx x)(rs:aJ X.K (λ_=>True) H ds xs)(rv:RelV x v):∃ev:Value->Bool,(∀w∈its,SeqAt.EqAt X.A.in1 z w v (ev w))/\its.any ev=ds.any λy=>eqD y dx:=by
 classical
 have hll:=r.length;have tri:∀(i:Nat) (w:Value),its[i]? =some w->∃d u,ds[i]? =some d/\xs[i]? =some u/\RelV u w/\Rep X.K (λ_=>True) H d u/\aD 10 d=true:=λi w hw=>by
  have hi:i<its.length:=(Gam.mp hw).1;have hd:ds[i]? =some (ds[i]'(by rw[rs.1,hll];exact hi)):=Gad _;obtain⟨u,Rj,zK⟩:=rs.get hd;obtain⟨w',SI,U1⟩:=r.get Rj;rw[hw] at SI;cases SI
  exact⟨_,u,hd,Rj,U1,zK,Gap.mp hs _ (GaE hd)⟩
 refine⟨λw=>decide (∃(i:Nat) (d:D),its[i]? =some w/\ds[i]? =some d/\eqD d dx=true),λw hw=> ?_, ?_⟩
 .obtain⟨i,hi⟩:=GbL hw;obtain⟨d,u,h1,h2,h3,h4,h5⟩:=tri i w hi;have key:decide (∃(i:Nat) (d:D),its[i]? =some w/\ds[i]? =some d/\eqD d dx=true)=eqD d dx:=by
   cases q:eqD d dx with
   |true=>exact Gaz ⟨i,d,hi,h1,q⟩
   |false=>
    refine Gax ?_;rintro⟨j,d',g1,g2,g3⟩;obtain⟨d2,u2,k1,k2,k3,k4,k5⟩:=tri j w g1;rw[g2] at k1;cases k1
    have eu:=Hr h3 k3;subst eu;rw[K0 10 h5 k5 h4 k4] at q;rw[q] at g3;cases g3
  show SeqAt.EqAt X.A.in1 z w v (decide _);rw[key];exact rf I 10 h5 hx h4 rx h3 rv (by show X.A.units+1+10<_;lia)
 .rw[GdL,GbG,GbG];constructor
  .rintro⟨w,hw,e⟩;obtain⟨i,d,_,h2,h3⟩:=Gao e;exact⟨d,GaE h2,h3⟩
  .rintro⟨d,hd,e⟩;obtain⟨i,hi⟩:=GbL hd;have hl:i<its.length:=by rw[<-hll,<-rs.1];exact(Gam.mp hi).1
   exact⟨its[i],GaI hl,Gaz ⟨i,d,Gad hl,hi,e⟩⟩
theorem Mz(hu:X.A.units+20<cLine):OpR X (compareOp .In) (My X.K false):=by
 intro e8 z Z H x y v u Q I rx ry h;obtain⟨p,xs,dx,ds,rfl,hq,fx,fs,r1,r2,q⟩:=h;cases ry;rcases hq with hq|hq
 .obtain⟨its,r,pl,hz⟩:=I.list hq;obtain⟨ev,e1,e2⟩:=o5 I hu r fx fs r1 r2 rx;refine SeqAt.in_listAt ev pl.isList (λw hw=>e1 w (by simpa using hw)) ⟨.bl _,H,I,rfl, ?_⟩;rw[show its.toArray.any ev=its.any ev by simp,e2];exact q
 .obtain⟨its,r,pl,hz⟩:=I.tuple hq;obtain⟨ev,e1,e2⟩:=o5 I hu r fx fs r1 r2 rx;refine SeqAt.in_tupleAt ev pl (λw hw=>e1 w (by simpa using hw)) ⟨.bl _,H,I,rfl, ?_⟩;rw[show its.toArray.any ev=its.any ev by simp,e2];exact q
theorem K1(hu:X.A.units+20<cLine):OpR X (compareOp .NotIn) (My X.K true):=by
 intro e8 z Z H x y v u Q I rx ry h;obtain⟨p,xs,dx,ds,rfl,hq,fx,fs,r1,r2,q⟩:=h;cases ry;rcases hq with hq|hq
 .obtain⟨its,r,pl,hz⟩:=I.list hq;obtain⟨ev,e1,e2⟩:=o5 I hu r fx fs r1 r2 rx;refine SeqAt.notIn_listAt ev pl.isList (λw hw=>e1 w (by simpa using hw)) ⟨.bl _,H,I,rfl, ?_⟩;rw[show its.toArray.any ev=its.any ev by simp,e2];exact q
 .obtain⟨its,r,pl,hz⟩:=I.tuple hq;obtain⟨ev,e1,e2⟩:=o5 I hu r fx fs r1 r2 rx;refine SeqAt.notIn_tupleAt ev pl (λw hw=>e1 w (by simpa using hw)) ⟨.bl _,H,I,rfl, ?_⟩;rw[show its.toArray.any ev=its.any ev by simp,e2];exact q
def F8(K:aq)(neg:Bool):R2:=λx y H Q=>My K neg x y H Q\/Mx neg x y H Q
theorem C4(hu:X.A.units+20<cLine):OpR X (compareOp .In) (F8 X.K false):=(Mz hu).or (F7 (by lia))
theorem K2(hu:X.A.units+20<cLine):OpR X (compareOp .NotIn) (F8 X.K true):=(K1 hu).or (C3 (by lia))
theorem Dq{neg:Bool}{F:Addr->Prop}{dy:D}{y:V}{b:Bool}{Q:VK}(ix:Inn X.K F H dx x)(iy:Inn X.K F H dy y)(e:inB dx dy=some b)(q:Q (.bl (if neg then !b else b)) H):F8 X.K neg x y H Q:=by
 have seq:∀{ds:List D} {p:Addr} {vs:List V},y= .ref p->(SqL X.K H p vs\/SqT X.K H p vs)->aJ X.K F H ds vs->mJ dx ds=some b->F8 X.K neg x y H Q:=λ{ds p vs} ey hs r hb=>by
  unfold mJ at hb;split at hb
  .rename_i c;rw[Gan] at c;cases hb;exact .inl ⟨p,vs,dx,ds,ey,hs,c.1,c.2,ix.any,⟨r.1,λi d v e1 e2=>(r.2 i d v e1 e2).inn.any⟩,q⟩
  .cases hb
 unfold inB at e;split at e
 .obtain⟨k,hk,rfl⟩:=Gas.mp e;obtain⟨g1,g2⟩:=qu iy ix;obtain⟨p,ws,ey,r,g⟩:=g1 _ k rfl hk;refine .inr ⟨p,_,ey,g, ?_⟩;rename_i eD;have:(mB ws k).isSome=(look eD k).isSome:=by
   cases z:look eD k with
   |none=>rw[oZ r z];rfl
   |some d=>obtain⟨v,h1,_⟩:=kT r z;rw[h1];rfl
  rw[this];exact q
 .split at e
  .rename_i _ eD _ ks;obtain⟨k,hk,rfl⟩:=Gas.mp e;obtain⟨g1,g2⟩:=qu iy ix;obtain⟨p,ws,ey,r,g⟩:=g2 _ _ k rfl rfl hk;refine .inr ⟨p,_,ey,g, ?_⟩;have:(mB ws k).isSome=(look eD k).isSome:=by
    cases z:look eD k with
    |none=>rw[oZ r z];rfl
    |some d=>obtain⟨v,h1,_⟩:=kT r z;rw[h1];rfl
   rw[this];exact q
  .cases e
 .cases iy with
  |lst h r=>exact seq rfl (.inl (.inl h)) r e
 .cases iy with
  |tup h r=>exact seq rfl (.inr (SqT.of h)) r e
 .cases e
theorem C5:OpB X inB (F8 X.K false):=λF H dx dy x y b Q ix iy e q=>Dq (neg:=false) ix iy e q
theorem K3:OpB X BN (F8 X.K true):=λF H dx dy x y b Q ix iy e q=>by
 obtain⟨b',e',rfl⟩:=Gas.mp e;exact Dq (neg:=true) ix iy e' q
end
namespace Fr
end Fr
section
variable{X:Cx}{e a b c:Expr}{f g h:DE}{pos:Pos}
theorem uB:CallD X A4 (λxs H Q=>(∃i,xs=[.int i]/\Q (.int i) H)\/∃k,xs=[.bl k]/\Q (.int (if k then 1 else 0)) H):=by
 intro F H ds vs rv Q ps e k;unfold A4 at e;split at e
 .cases e;obtain⟨v,rfl,i⟩:=dY ps;cases i;exact .inl ⟨_,rfl,k _ H bu (.int _)⟩
 .cases e;obtain⟨v,rfl,i⟩:=dY ps;cases i;exact .inr ⟨_,rfl,k _ H bu (.int _)⟩
 .cases e
theorem Hs{xs:List V}{its:List Value}(r:Vals xs its){x:V}{u:Value}(hx:RelV x u)(j:Int):Vals (gn xs j x) (PySem.W.kl_ins its j u):=by
 have hl:=r.length;unfold gn PySem.W.kl_ins;rw[hl];have tk:∀{xs:List V} {its:List Value} (r:Vals xs its) (n:Nat),Vals (xs.take n) (its.take n):=by
  intro xs its r;induction r with
  |nil=>intro n;simp;exact .nil
  |cons h t ih=>intro n;cases n with
   |zero=>exact .nil
   |succ n=>exact .cons h (ih n)
 have dr:∀{xs:List V} {its:List Value} (r:Vals xs its) (n:Nat),Vals (xs.drop n) (its.drop n):=by
  intro xs its r;induction r with
  |nil=>intro n;simp;exact .nil
  |cons h t ih=>intro n;cases n with
   |zero=>exact .cons h t
   |succ n=>exact ih n
 exact(tk r _).append (.cons hx (dr r _))
def K4:V->List V->Hp->VK->Prop:=λx vs H Q=>∃l xs j y,x= .ref l/\vs=[.int j,y]/\H l=some (.lst xs)/\xs.length<sizeLine/\-(2^62)<=j/\j<2^62/\Q .non (upd H l (.lst (gn xs j y)))
theorem F9:MtM X "list.insert" K4:=by
 intro e8 z Z H x vs v us Q I rx rv h;obtain⟨l,xs,j,y,rfl,rfl,hH,hz,h1,h2,q⟩:=h;cases rx;cases rv with
 |cons r1 t1=>
  cases t1 with
  |cons r2 t2=>
   cases t2;obtain⟨t,rfl⟩:=r1;rename_i u;obtain⟨_,its,n,r,hl,e⟩:=I.Jq hH;have hfit:Builtin.List.listFitsIndex j=true:=by simp[Builtin.List.listFitsIndex];lia
   refine call_meets F.slot_list_insert ⟨_,e,rfl⟩ F.entry_list_insert (F.args_list_insert_3 _ _ _) (PySem.AutoSeq1.list_insert_list_int_val_1 l its.toArray n j t u (by simp[hfit]) (by rw[Gav];lia)) ⟨e, ?_⟩;refine⟨.non,_,I.Mb (its' :=PySem.W.kl_ins its j u) hH e ?_ (Hs r r2 j) ?_,rfl,q⟩
   .show(its.toArray.extract 0 _).push u++its.toArray.extract _=_;rw[PySem.W.kl_ins_eq];simp only[Gav]
    rfl
   .rw[ue];lia
theorem Fb{i:Nat}{x:Str}{px apos eU:Pos}(hN:X.N[i]? =some x)(hv:Vis X.env.scope x)(he:PEd X e f)(ha:PEd X a g)(hd:autoParam ((x==("__debug__":Str))=false) Za2._auto_1)(yc:autoParam ((x==("__classdict__":Str))=false) Za2._auto_1)
  (xk:autoParam (starEach [e,a] X.env=(false,eval e X.env)::starEach [a] X.env) Za1._auto_1)(xi:autoParam (starEach [a] X.env=[(false,eval a X.env)]) Za1._auto_1)
  (xF:autoParam (attributeBase (.Name x px) "insert" X.env (eval (.Name x px) X.env)=eval (.Name x px) X.env) Za1._auto_1)
  (yk:((backTo eU (starEach [e,a] X.env)).all (λx=> !x.1)&&(backToKw eU (keywordEach [] X.env)).all (λx=>x.1.isSome)
   &&decide (([e,a]:List Expr).length+([]:List Keyword).length+(if([]:List Keyword).isEmpty then 0 else 1)<30))=true:=by rfl)
  (xD:autoParam ((apos.endLine==eU.line)=true) Za1._auto_1)(hs:autoParam (swapsWith (.Call (.Attribute (.Name x px) "insert" apos) [e,a] [] eU) none pos.line X.env=pure false) Za1._auto_1):
  PSd X (.Expr (.Call (.Attribute (.Name x px) "insert" apos) [e,a] [] eU) pos) (OQ i f g):=by
 refine(vg (Gx Gdo PySem.F.slot_list_insert PySem.F.type_list_insert F9 (vf hN hv hd yc) (bS he (bS ha dO xi) xk) xF yk xD xk (by rw[xi];rfl)) hs).aF ?_;rintro D Z H ⟨H0,eC,env,o,E,e,k⟩;obtain⟨r,hr,e⟩:=eA e;obtain⟨r2,U8,e⟩:=eA e;obtain⟨d,hd,e⟩:=eA e;have q:=qZ hd;obtain⟨kd,rd⟩:=r;split at e
 .rename_i xs j hj;have hj' :rd= .int j:=hj;split at e
  .rename_i z;rw[Gan,Gan] at z;obtain⟨z1,z2,z3⟩:=z;cases e;subst hj';obtain⟨a,h1,h2,h3,h4,h5,h6⟩:=E.ow i _ (.inl q);obtain⟨vs,hH,rp⟩:=qw h4 h6;refine⟨_,h1,.inl ⟨rfl,vs,.inl (.inl hH)⟩,H0,eC,env,[⟨kd,.int j⟩,r2],E,by unfold a7 ae;rw[hr,U8];rfl,λws H2 s2 Rs=> ?_⟩;cases Rs with
   | @cons _ v _ _ R1 tl=>
    cases tl with
    | @cons _ v2 _ _ R2 tl=>
    cases tl;have i1:=R1.inn;cases i1;have yy:=s2 _ _ hH;have sj:=fi z3;refine⟨a,vs,j,v2,rfl,rfl,yy,by rw[<-rp.1,<-eP];exact Gao z2,sj.1,sj.2, ?_⟩;have E2:=E.mono s2;have rep1:=R2.rep E z1;have rp1:aJ X.K (Cln eC env Z) H2 xs vs:=rp.gen (.of_same s2) λ_ f _=>f;have rp2:aJ X.K (Cln eC env Z) H2 (gn xs j r2.d) (gn vs j v2):=by
     unfold gn;rw[<-rp1.1];exact(rp1.take _).append (.cons rep1 (rp1.drop _))
    obtain⟨E3,p3⟩:=E2.change (d' := .lst (gn xs j r2.d)) (o:= .lst (gn vs j v2)) q h1 trivial rfl (.lst (.inl b9) (rp2.gen (λb o hb w=>by
     have:b≠a:=by
      rintro rfl;rcases w with w|w
      .exact w.2 i (by rw[q];trivial) h1
      .rw[yy] at hb;cases hb;exact w
     rw[aE this];exact hb) λ_ f _=>f))
    exact k Z _ E3 ((Stp.of_same s2).trans p3)
  .cases e
 .cases e
end
def Pj(prog:Program)(w:World)(A:Around)(op:CmpOp)(G:Shared->Prop)(P:Nat->Value->Prop)(bt:Nat->Nat->Bool):Prop:=
 ∀i j vi vj (z:Shared) (Q:Value->Shared->Prop) (E:Value->Shared->Prop),G z->P i vi->P j vj->Q (.bool (bt i j)) z->wpAny (model prog w) A (richCompare op vi vj) Q E z
noncomputable def mmO(mx:Bool):CmpOp:=bif mx then .Gt else .Lt
noncomputable def mmN(mx:Bool):String:=bif mx then "max.loop" else "min.loop"
noncomputable def jr:Option Value->Array Value
 |none=>#[]
 |some v=>#[v,v]
section
variable{prog:Program}{w:World}{A:Around}{R:Result->Shared->Prop}{I B:Addr}{kw:List (Str×Value)}{z:Shared}
variable{old:Option Value}
theorem vR{v:Option Value}{Q:Unit->Shared->Prop}{E:Value->Shared->Prop}(e:Ag z.heap B (jr old))(h:∀h',Ag h' B (jr v)->(∀b o,b≠B->z.heap.get? b=some o->h'.get? b=some o)->Q () {z with heap:=h' }):
  wpAny (model prog w) A (updateSeq B λ_=>jr v) Q E z:=by
 obtain⟨c,e⟩:=e;have l1:(jr old).size<=2:=by cases old<;>simp[jr]
 have l2:(jr v).size<=2:=by cases v<;>simp[jr]
 have:=GbC;refine wpAny_updateSeq e rfl (h _ ⟨_,Gbi _ e rfl⟩ λb o n q=> ?_) (by lia) (by lia);rw[Gcj _ _ (Ne.symm n),q]
theorem Dr(mx:Bool)
  (h:wpAny (model prog w) A.in1 (pyNext (.ref I)) (λr s' =>Ag s'.heap B (jr old)/\match r,old with
   |none,some v=>∀h',(∀b o,b≠B->s'.heap.get? b=some o->h'.get? b=some o)->R (.ok (.ret v)) {s' with heap:=h' }
   |none,none=>∃k d t,kw=(k,d)::t/\R (.ok (.ret d)) s'
   |some x,some v=>∃bt:Bool,(∀Q E,Q (.bool bt) s' ->wpAny (model prog w) A.in1 (richCompare (mmO mx) x v) Q E s')/\∀h',Ag h' B (jr (some (if bt then x else v)))->(∀b o,b≠B->s'.heap.get? b=some o->h'.get? b=some o)->codeAny (model prog w) A (.builtin (mmN mx) ⟨[.ref I,.none,.ref B],kw⟩) R {s' with heap:=h' }
   |some x,none=>∀h',Ag h' B (jr (some x))->(∀b o,b≠B->s'.heap.get? b=some o->h'.get? b=some o)->codeAny (model prog w) A (.builtin (mmN mx) ⟨[.ref I,.none,.ref B],kw⟩) R {s' with heap:=h' }) (λ_ _=>False) z)(hB:Ag z.heap B (jr old)):
  codeAny (model prog w) A (.builtin (mmN mx) ⟨[.ref I,.none,.ref B],kw⟩) R z:=by
 obtain⟨c,e⟩:=id hB;have quiet:Code.quiet (.builtin (mmN mx) ⟨[.ref I,.none,.ref B],kw⟩)=true:=by cases mx<;>exact Gdz (by decide+kernel) _
 cases mx
 all_goals
  first
  |(apply GbZ F.entry_min_loop;rw[Gca F.plain_min_loop])
  |(apply GbZ F.entry_max_loop;rw[Gca F.plain_max_loop])
  refine Gaa (Gcv e rfl (Gaa (wpAny_tryCatch (Gci h (λr s' q=> ?_) λ_ _ q=>q.elim))));obtain⟨e',q⟩:=q;rcases r with _|x<;>rcases old with _|v
  .obtain⟨k,d,t,rfl,q⟩:=q;exact Gaa (wpAny_rule (Gae q))
  .exact Gaa (vR (v:=none) e' λh' _ k=>Gaa (wpAny_letGo (Gae (q h' k))))
  .exact Gaa (Gae (Gaa (vR (v:=some x) e' λh' l k=>Gae ⟨quiet,q h' l k⟩)))
  .obtain⟨bt,q1,q2⟩:=q;refine Gaa (Gae (Gaa (wpAny_tryCatch (GbJ (Gaa (q1 _ _ (Gaa (GbJ (GbM (Gaa (wpAny_letGo (Gae ?_))))))))))));cases bt
   .exact Gaa (wpAny_letGo (Gae ⟨quiet,q2 _ e' λ_ _ _ k=>k⟩))
   .exact Gaa (vR (v:=some x) e' λh' l k=>Gaa (wpAny_letGo (Gae ⟨quiet,q2 h' l k⟩)))
variable{fp wr:List Addr}{n:Nat}{P:Nat->Value->Prop}{St:Nat->Heap->Prop}{G:Shared->Prop}
theorem Ds(mx:Bool)(W:Walks prog w A.in1 I fp wr n P St)(bt:Nat->Nat->Bool)(zX:Pj prog w A.in1 (mmO mx) G P bt)(hf:B∉fp)
  (hG:∀h' tk,(∀b o,b∉wr->b≠B->z.heap.get? b=some o->h'.get? b=some o)->G {z with heap:=h',toks:=tk})
  (hE:n=0->∃k d t,kw=(k,d)::t/\∀h' tk,(∀b o,b∉wr->b≠B->z.heap.get? b=some o->h'.get? b=some o)->R (.ok (.ret d)) {z with heap:=h',toks:=tk})
  (hR:0<n->∀v h' tk,P (argBest bt (n -1)) v->(∀b o,b∉wr->b≠B->z.heap.get? b=some o->h'.get? b=some o)->R (.ok (.ret v)) {z with heap:=h',toks:=tk}):
  ∀(k i:Nat) (old:Option Value) (h:Heap) (tk:Nat),i+k=n->St i h->Ag h B (jr old)->(∀b o,b∉wr->b≠B->z.heap.get? b=some o->h.get? b=some o)->(match old with|none=>i=0|some v=>0<i/\P (argBest bt (i -1)) v)->
   codeAny (model prog w) A (.builtin (mmN mx) ⟨[.ref I,.none,.ref B],kw⟩) R {z with heap:=h,toks:=tk}
 |0,i,old,h,tk,hk,st,l,kp,ho=>by
  cases hk;refine Dr mx (W.done {z with heap:=h,toks:=tk} _ _ st λh' yu k=> ⟨let⟨c,e⟩:=l;⟨c,k B _ (λm=>hf (W.sub _ m)) e⟩, ?_⟩) l;have kp' :∀b o,b∉wr->b≠B->z.heap.get? b=some o->h'.get? b=some o:=λb o q1 q2 q=>k b o q1 (kp b o q1 q2 q);cases old with
  |none=>
   obtain⟨a,d,t,q1,q2⟩:=hE ho;exact⟨a,d,t,q1,q2 h' yu kp'⟩
  |some v=>exactλh2 k2=>hR ho.1 v h2 yu ho.2 λb o q1 q2 q=>k2 b o q2 (kp' b o q1 q2 q)
 |k+1,i,old,h,tk,hk,st,l,kp,ho=>by
  refine Dr mx (W.item i {z with heap:=h,toks:=tk} _ _ (by lia) st λx h' yu hP yw k' => ⟨let⟨c,e⟩:=l;⟨c,k' B _ (λm=>hf (W.sub _ m)) e⟩, ?_⟩) l;have kp' :∀b o,b∉wr->b≠B->z.heap.get? b=some o->h'.get? b=some o:=λb o q1 q2 q=>k' b o q1 (kp b o q1 q2 q);have go:∀v h2,Ag h2 B (jr (some v))->(∀b o,b≠B->h'.get? b=some o->h2.get? b=some o)->P (argBest bt i) v->codeAny (model prog w) A (.builtin (mmN mx) ⟨[.ref I,.none,.ref B],kw⟩) R {z with heap:=h2,toks:=yu }:=λv h2 l2 k2 hv=>
   Ds mx W bt zX hf hG hE hR k (i+1) (some v) h2 yu (by lia) (W.frame _ _ _ yw λb m o q=>k2 b o (λe=>hf (e▸m)) q) l2 (λb o q1 q2 q=>k2 b o q2 (kp' b o q1 q2 q)) ⟨Gcz _,hv⟩
  cases old with
  |none=>
   cases ho
   exactλh2 l2 k2=>go x h2 l2 k2 hP
  |some v=>
   obtain⟨pos,hv⟩:=ho;obtain⟨j,rfl⟩:∃j,i=j+1:=⟨i -1,by lia⟩
   refine⟨bt (j+1) (argBest bt j),λQ E q=>zX _ _ x v _ Q E (hG h' yu kp') hP hv q,λh2 l2 k2=>go _ h2 l2 k2 ?_⟩;show P (if bt (j+1) (argBest bt j)=true then j+1 else argBest bt j) _;split
   .exact hP
   .exact hv
theorem C6(a d:Value):argsOk "min" ⟨[a],[(Str.ofString "default",d)]⟩:=by unfold argsOk;kernel_rfl
theorem C7(a d:Value):argsOk "max" ⟨[a],[(Str.ofString "default",d)]⟩:=by unfold argsOk;kernel_rfl
noncomputable def mmF(mx:Bool):String:=bif mx then "max" else "min"
abbrev MMs(prog:Program)(w:World)(A:Around)(mx:Bool)(od:Option Value)(Q:Value->Shared->Prop)(it:Value)(s₂:Shared):Prop:=∃I fp wr n P St bt G,it= .ref I/\Walks prog w A.in1 I fp wr n P St/\St 0 s₂.heap/\(∀b∈fp,b<s₂.heap.objs.size)/\Pj prog w A.in1 (mmO mx) G P bt/\
 (∀h' tk,(∀b o,b∉wr->s₂.heap.get? b=some o->h'.get? b=some o)->G {s₂ with heap:=h',toks:=tk})/\(n=0->∃d,od=some d/\∀h' tk,(∀b o,b∉wr->s₂.heap.get? b=some o->h'.get? b=some o)->Q d {s₂ with heap:=h',toks:=tk})/\
 (0<n->∀v h' tk,P (argBest bt (n -1)) v->(∀b o,b∉wr->s₂.heap.get? b=some o->h'.get? b=some o)->Q v {s₂ with heap:=h',toks:=tk})
theorem o6(mx:Bool)(od:Option Value){E Q:Value->Shared->Prop}{it:Value}{s₂:Shared}(q:MMs prog w A mx od Q it s₂):codeAny (model prog w) A (.builtin (mmN mx) ⟨[it,.none,.ref s₂.heap.objs.size],od.toList.map λd=>(Str.ofString "default",d)⟩) (λr s' =>match r with| .ok (.ret v)=>Q v s' | .ok _=>False| .error e=>E e s') {s₂ with heap:=s₂.heap.push {cls:= .type "list",data:= .seq #[]}}:=by
 obtain⟨I,fp,wr,n,P,St,bt,G,rfl,W,st,lt,hc,hG,h0,hv⟩:=q;have up:∀{h' :Heap},(∀b o,b∉wr->b≠s₂.heap.objs.size->s₂.heap.get? b=some o->h'.get? b=some o)->∀b o,b∉wr->s₂.heap.get? b=some o->h'.get? b=some o:=λk b o q e=>k b o q (GaH (Gau e)) e;refine Ds (z:=s₂) mx W bt hc (λm=>Gbv _ (lt _ m)) (λh' tk k=>hG h' tk (up k)) (λn0=> ?_) (λp v h' tk hp k=>hv p v h' tk hp (up k)) n 0 none _ s₂.toks (GaS _) (W.frame _ _ _ st λb _ o e=>Gaj _ e) ⟨0,GaD _ rfl⟩ (λb o _ _ e=>Gaj _ e) rfl;obtain⟨d,rfl,hd⟩:=h0 n0;exact⟨_,d,_,rfl,λh' tk k=>hd h' tk (up k)⟩
theorem K5(mx:Bool)(od:Option Value){x:Value}{E Q:Value->Shared->Prop}(h:wpAny (model prog w) A.in1 (pyIter x) (MMs prog w A mx od Q) E z):wpAny (model prog w) A (call (.builtin (mmF mx)) [x] (od.toList.map λd=>(Str.ofString "default",d))) Q E z:=by
 have quiet:∀a,Code.quiet (.builtin (mmN mx) a)=true:=λa=>by cases mx<;>exact Gdz (by decide+kernel) _
 cases mx<;>cases od
 .exact GcO F.kind_min F.plain_min F.entry_min (F.args_min1 _) (Gaa (GcZ (a:=[none,none]) rfl (Gaa (Gae (Gaa (on h λ_ _ q=>Gaa (Gbn (Gae ⟨quiet _,o6 _ _ q⟩))))))))
 .exact GcO F.kind_min F.plain_min F.entry_min (C6 _ _) (Gaa (GcZ (a:=[none,some _]) rfl (Gaa (Gae (Gaa (on h λ_ _ q=>Gaa (Gbn (Gae ⟨quiet _,o6 _ _ q⟩))))))))
 .exact GcO F.kind_max F.plain_max F.entry_max (F.args_max1 _) (Gaa (GcZ (a:=[none,none]) rfl (Gaa (Gae (Gaa (on h λ_ _ q=>Gaa (Gbn (Gae ⟨quiet _,o6 _ _ q⟩))))))))
 .exact GcO F.kind_max F.plain_max F.entry_max (C7 _ _) (Gaa (GcZ (a:=[none,some _]) rfl (Gaa (Gae (Gaa (on h λ_ _ q=>Gaa (Gbn (Gae ⟨quiet _,o6 _ _ q⟩))))))))
end
open PySem.W (KatLex KatTups kas_sort kas_ask kat_kind kat_lt kat_one kat_run kat_snds BoolBack kat_lt_int)
open PySem.W (kas_item)
open PySem.W (kas_item kas_swaps_map)
section
variable{prog:Program}{w:World}{A:Around}{E:Value->Shared->Prop}{s:Shared}
theorem vS{ds:List D}{vs:List Value}(hK:Paired (jP s.heap) ds vs)(hok:keysOk ds=true):vO prog w A E s (ds.map code) vs:=λh2 Q hQ=>by
 have hl:=hK.length;exact uA hK hok (by lia) λY hY=>hQ Y λi j C hi hj hc=>Ai hK hok hY i j C (by lia) (by lia) hc
theorem Fc{h G:Heap}(kG:∀b o,h.get? b=some o->G.get? b=some o){d:D}{v:Value}(k:jP h d v):jP G d v:=by
 cases d with
 |int i=>exact k
 |tup fs=>
  obtain⟨b,o,m,us,h1,h2,h3,h4⟩:=k;exact⟨b,o,m,us,h1,kG b o h2,h3,h4⟩
 |_=>exact k
end
def Ris(xs:Array Nat):Prop:=∀i j:Nat,i<j->∀x y,xs[i]? =some x->xs[j]? =some y->x<y
def Bel(xs:Array Nat)(j r:Nat):Prop:=r<=xs.size/\(∀(i x:Nat),i<r->xs[i]? =some x->x<j)/\∀(i x:Nat),r<=i->xs[i]? =some x->j<=x
theorem rC{xs:Array Nat}{j:Nat}(hr:Ris xs):∀(f lo hi:Nat),lo<=hi->hi<=xs.size->hi -lo<=f->(∀(i x:Nat),i<lo->xs[i]? =some x->x<j)->(∀(i x:Nat),hi<=i->xs[i]? =some x->j<=x)->Bel xs j (SetTable.below.go xs j f lo hi)
 |0,lo,hi,h1,h2,h3,h4,h5=>by
  have e:lo=hi:=by lia
  subst e;exact⟨h2,h4,h5⟩
 |f+1,lo,hi,h1,h2,h3,h4,h5=>by
  unfold SetTable.below.go;by_cases c:lo<hi
  .rw[Gah c];have hm:(lo+hi)/2<xs.size:=by lia
   have gm:xs[(lo+hi)/2]? =some xs[(lo+hi)/2]:=GaB hm;have gd:xs.getD ((lo+hi)/2) j=xs[(lo+hi)/2]:=by simp[Array.getD,hm]
   dsimp only;rw[gd];by_cases c2:xs[(lo+hi)/2]<j
   .rw[Gah c2];refine rC hr f _ _ (by lia) h2 (by lia) (λi x xa hx=> ?_) h5;rcases Gbh i ((lo+hi)/2) with q|q
    .have:=hr i _ q x _ hx gm;lia
    .rw[show i=(lo+hi)/2 by lia,gm] at hx;cases hx;exact c2
   .rw[Gag c2];refine rC hr f _ _ (by lia) (by lia) (by lia) h4 (λi x xa hx=> ?_);rcases Gbh ((lo+hi)/2) i with q|q
    .have:=hr _ i q _ x gm hx;lia
    .rw[show i=(lo+hi)/2 by lia,gm] at hx;cases hx;lia
  .rw[Gag c];have e:lo=hi:=by lia
   subst e;exact⟨h2,h4,h5⟩
variable{j:Nat}{xs:Array Nat}
theorem js(hr:Ris xs):Bel xs j (SetTable.below xs j):=
 rC hr xs.size 0 xs.size (Gbk _) (Gaq _) (by lia) (λi x hi=>by lia) (λi x hi hx=>by
  rw[GbU hi] at hx;cases hx)
theorem vT{p i:Nat}(hp:p<=xs.size):(SetTable.insertAt xs p j)[i]? =if i<p then xs[i]? else if i=p then some j else xs[i -1]? :=by
 have e:(SetTable.insertAt xs p j)[i]? =(SetTable.insertAt xs p j).toList[i]? :=by simp
 rw[e,GcA];have l1:(xs.toList.take p).length=p:=by simp;lia
 by_cases c:i<p
 .rw[Gah c,Gbu (by rw[l1];exact c),Gcx c];simp
 .rw[Gag c,Gbq (by rw[l1];lia),l1];by_cases c2:i=p
  .rw[Gah c2,c2,Nat.sub_self];rfl
  .rw[Gag c2,show i -p=(i -p -1)+1 by lia,Gdn,Gdj,show p+(i -p -1)=i -1 by lia];simp
theorem C8(hr:Ris xs)(hn:xs[SetTable.below xs j]? ≠some j):Ris (SetTable.insertAt xs (SetTable.below xs j) j):=by
 obtain⟨b1,b2,b3⟩:=js (j:=j) hr;generalize SetTable.below xs j=p at*;have b3' :∀(i x:Nat),p<=i->xs[i]? =some x->j<x:=λi x hi hx=>by
  have h1:=b3 i x hi hx;rcases Gbh j x with q|q
  .exact q
  .have e:x=j:=by lia
   subst e;rcases Gbh p i with c|c
   .obtain⟨y,hy⟩:∃y,xs[p]? =some y:=⟨xs[p]'(by
     have:i<xs.size:=by
      rcases Gbh i xs.size with z|z
      .exact z
      .rw[GbU z] at hx;cases hx
     lia),GaB _⟩
    have h2:=b3 p y (Gaq _) hy;have h3:=hr p i c y x hy hx;lia
   .rw[show i=p by lia] at hx;exact absurd hx hn
 intro i k hik x y hx hy;rw[vT b1] at hx hy;by_cases c1:i<p
 .rw[Gah c1] at hx;by_cases c2:k<p
  .rw[Gah c2] at hy;exact hr i k hik x y hx hy
  .rw[Gag c2] at hy;have h1:=b2 i x c1 hx;by_cases c3:k=p
   .rw[Gah c3] at hy;cases hy;exact h1
   .rw[Gag c3] at hy;have:=b3' (k -1) y (by lia) hy;lia
 .rw[Gag c1,] at hx;rw[Gag (by lia)] at hy;by_cases c2:i=p
  .rw[Gah c2] at hx;cases hx
   rw[Gag (by lia)] at hy;exact b3' (k -1) y (by lia) hy
  .rw[Gag c2] at hx;rw[Gag (by lia)] at hy;exact hr (i -1) (k -1) (by lia) x y hx hy
def Tb(bt:Bool)(t:SetTable):Prop:=t.led= !bt/\(t.plain=true->Ris t.place)
theorem Ap{n:Nat}{g:Nat->Option Nat}:Ris (((List.range n).filterMap λj=>(g j).map λk=>(j,k)).map (·.1)).toArray:=by
 have pw:∀(l:List Nat),l.Pairwise (· < ·)->((l.filterMap λj=>(g j).map λk=>(j,k)).map (·.1)).Pairwise (· < ·):=by
  intro l;induction l with
  |nil=>intro _;exact List.Pairwise.nil
  |cons a l ih=>
   intro h;have h' :=GaY.mp h;rw[GcB];cases hg:g a with
   |none=>simpa[hg] using ih h'.2
   |some k=>
    simp only[hg,GbY,GaA];refine GaY.mpr ⟨λb hb=> ?_,ih h'.2⟩;obtain⟨q,hq,rfl⟩:=Gat.mp hb;obtain⟨j,hj,e⟩:=Gdf.mp hq;cases hgj:g j with
    |none=>rw[hgj] at e;cases e
    |some k' =>rw[hgj] at e;cases e;exact h'.1 j hj
 have:=pw (List.range n) List.pairwise_lt_range;intro i j yO x y hx hy;generalize ((List.range n).filterMap λj=>(g j).map λk=>(j,k)).map (·.1)=l at*;have zJ :l[i]? =some x:=by simpa using hx
 have hy' :l[j]? =some y:=by simpa using hy
 obtain⟨h1,rfl⟩:=Gam.mp zJ;obtain⟨h2,rfl⟩:=Gam.mp hy';exact Gdd.mp this i j h1 h2 yO
section
variable{prog:Program}{w:World}{A:Around}{E:Value->Shared->Prop}{z:Shared}
def SAt(g:Heap)(a:Addr)(es:Array (Int×Value))(t:SetTable):Prop:=∃o ep,g.get? a=some o/\o.ExactSet/\o.data= .set es ep t
theorem Dt{a:Addr}{es fs:Array (Int×Value)}{t u:SetTable}{Q:Unit->Shared->Prop}(x:SAt z.heap a es t)(b:fs.size<=sizeLine)(h:∀g,SAt g a fs u/\Heap.SameBut a z.heap g->Q () {z with heap:=g}):wpAny (model prog w) A (storeSet a fs u) Q E z:=by
 obtain⟨o,ep,ho,hx,hd⟩:=x;have q:=Gbi (Obj.putSet fs u) ho (by rw[putSet_of fs u hd];rfl);rw[putSet_of fs u hd] at q;exact wpAny_storeSet_of ho hd (h _ ⟨⟨_,_,q,hx,rfl⟩,GbT ..⟩) b
end
section
variable{prog:Program}{w:World}{A:Around}{R:Result->Shared->Prop}
theorem uC{S I:Addr}{n:Nat}(J:Nat->Shared->Prop)
  (step:∀i s Q E,i<n->J i s->(∀v s',(∀(Q' :Bool->Shared->Prop) E',(∀b y,J (i+1) y->Q' b y)->wpAny (model prog w) A.in1 (setAdd S v) Q' E' s')->Q (some v) s')->wpAny (model prog w) A.in1 (pyNext (.ref I)) Q E s)
  (stop:∀s Q E,J n s->(∀s',R (.ok (.ret .none)) s' ->Q none s')->wpAny (model prog w) A.in1 (pyNext (.ref I)) Q E s):
  ∀k i s,i+k=n->J i s->codeAny (model prog w) A (.builtin "set.update.loop" ⟨[.ref S,.ref I],[]⟩) R s
 |0,i,s,hk,j=>by
  subst hk;apply GbZ Gdl;rw[Gca Gcn];exact Gaa (stop s _ _ j λs' r=>Gae r)
 |k+1,i,s,hk,j=>by
  apply GbZ Gdl;rw[Gca Gcn];exact Gaa (step i s _ _ (by lia) j λv s' add=>Gaa (GbJ (add _ _ λb y q=>Gae ⟨Gdz Gcn _,uC J step stop k (i+1) y (by lia) q⟩)))
end
noncomputable def lu(w:World):Bool:=w.params.followText "set-order"
section
variable{prog:Program}{w:World}{A:Around}{E:Value->Shared->Prop}{z:Shared}
noncomputable abbrev rD(w:World):Obj:={cls:= .type "set",dict:=none,data:= .set #[] 0 (.fresh 0 0 (!lu w))}
theorem after{c:Code}{Q:Value->Shared->Prop}{R:Result->Shared->Prop}(h:codeAny (model prog w) A c (wants Q E) z)(k:∀v s',Q v s' ->R (.ok (.ret v)) s')(e:∀x s',E x s' ->R (.error x) s'):codeAny (model prog w) A c R z:=by
 refine codeAny_mono h ?_;rintro(x|(v|_|_|_)) s' q
 .exact e x s' q
 all_goals first|exact k _ s' q|exact q.elim
theorem Ht(a:Value){R:Value->Shared->Prop}(h:R (.ref z.heap.objs.size) {z with heap:=z.heap.push (rD w)}):codeAny (model prog w) A (.call (.builtin "set.__new__") ⟨[.type "set",a],[]⟩) (wants R E) z:=by
 have c:=PySem.F.newCall_set_1 a;have q:Code.quiet (.builtin "set.__new__" ⟨[.type "set",a],[]⟩)=true:=Gdz PySem.F.plain_set_new _;have sub:=PySem.sub_set_self;apply codeAny_of_tree;refine Gaa (GcZ c (Gae ⟨q,GbZ PySem.F.entry_set_new ?_⟩));rw[Gca PySem.F.plain_set_new]
 wp_walk using wpAny_askSetting
 exact h
theorem MA{l:Addr}{items:Array Value}{R:Value->Shared->Prop}(hl:z.heap.IsList l items)
  (h:∀h1:Heap,h1.get? z.heap.objs.size=some (rD w)->h1.IsListIter (z.heap.objs.size+1) l 0->(∀b o,z.heap.get? b=some o->h1.get? b=some o)->
   codeAny (model prog w) A.in1.in1 (.builtin "set.update.loop" ⟨[.ref z.heap.objs.size,.ref (z.heap.objs.size+1)],[]⟩) (wants (λ_ s' =>R (.ref z.heap.objs.size) s') E) {z with heap:=h1}):
  wpAny (model prog w) A (call (.type "set") [.ref l]) R E z:=by
 obtain⟨c,tl,mro⟩:=GbH.mro;have made:=GbH.made;have sub:=GbH.sub;have nt:=GbH.notType;have cc:=GbH.canCreate;have ct:=PySem.F.typeCall_set_1 (.ref l);apply wpAny_call;apply codeAny_of_tree;refine Gae ⟨Code.quiet_builtin _ (by decide+kernel), ?_⟩;apply GbZ PySem.F.entry_type_call;rw[Around.under_plain (weight_type_call_type "set" [.ref l] []) rfl]
 wp_walk
 refine after (Ht (.ref l) (R:=λo y=>o= .ref z.heap.objs.size/\y={z with heap:=z.heap.push (rD w)}) ⟨rfl,rfl⟩) ?_ λ_ _ q=>q;rintro _ _ ⟨rfl,rfl⟩;have eS:(z.heap.push (rD w)).get? z.heap.objs.size=some (rD w):=GaD _ rfl;have tS:Shared.TypeIs {z with heap:=z.heap.push (rD w)} (.ref z.heap.objs.size) "set":=⟨_,eS,rfl⟩
 have lo:=GbH.init.lookup;have bi:=GbH.init.bind (.ref z.heap.objs.size)
 wp_walk
 refine after (Q:=λr s' =>r= .none/\R (.ref z.heap.objs.size) s') (E:=E) ?_ (λv s' q=> ?_) λ_ _ q=>q
 .apply codeAny_call_builtin GbH.init.plain PySem.F.entry_set_init;apply PySem.check_set_init_1 tS;obtain⟨⟨oc,od,dt,sl⟩,ho,hc,n,hd⟩:=hl;cases hc;cases hd
  have el:=Gaj (rD w) ho;have s1:=PySem.F.sub_list_set;have s2:=PySem.F.sub_list_frozenset;have nd:(Value.type "list"==Value.type "dict")=false:=rfl;have il:(z.heap.push (rD w)).IsList l items:=⟨_,el,rfl,n,rfl⟩
  clear mro made nt cc ct lo bi
  wp_walk using wpAny_pyIter_list il
  have sz:(z.heap.push (rD w)).objs.size=z.heap.objs.size+1:=Gcu ..;rw[show Shared.heap {z with heap:=z.heap.push (rD w)}=z.heap.push (rD w) from rfl,sz];exact after (h _ (Gaj _ eS) ⟨_,sz▸GaD _ rfl,rfl,rfl⟩ λb o q=>Gaj _ (Gaj _ q)) (λv s' q=>Gae (Gae ⟨rfl,q⟩)) λ_ _ q=>q
 .obtain⟨rfl,q⟩:=q
  wp_walk
  exact q
end
namespace Fr
theorem uD:Manifest.owners.lookup (String.ofList ['r', 'o', 't', 'a', 'r', 'e', 't', 'i', '_', 't', 'e', 's'].reverse)=some Manifest.sig_set_iterator:=by kernel_rfl
theorem rE:isSubtype (.type "set_iterator") (.type "set_iterator")=pure true:=by rw[isSubtype_type];kernel_rfl
theorem c5:PySem.Slot "set_iterator" "__next__" "set_iterator.__next__":=
 .of (owner:="set_iterator") (n:="__next__") (by rw[GdM,GcP];kernel_rfl) (by decide+kernel) (by decide+kernel) (by decide+kernel) (.inl (by decide+kernel)) rE
theorem dH:entryFor table "set_iterator.__next__"=some Builtin.«set_iterator.__next__» :=entryFor_of_tree (by kernel_rfl)
theorem f7(a:Value):argsOk "set_iterator.__next__" ⟨[a],[]⟩:=by
 unfold argsOk;rw[signature?_of (id:="set_iterator.__next__") (n:=['_', '_', 't', 'x', 'e', 'n', '_', '_']) (o:=['r', 'o', 't', 'a', 'r', 'e', 't', 'i', '_', 't', 'e', 's']) (by kernel_rfl) uD]
 kernel_rfl
theorem rF:PySem.Slot "set_iterator" "__iter__" "set_iterator.__iter__":=
 .of (owner:="set_iterator") (n:="__iter__") (by rw[GdM,GcP];kernel_rfl) (by decide+kernel) (by decide+kernel) (by decide+kernel) (.inl (by decide+kernel)) rE
theorem qm(a:Value):argsOk "set_iterator.__iter__" ⟨[a],[]⟩:=by
 unfold argsOk;rw[signature?_of (id:="set_iterator.__iter__") (n:=['_', '_', 'r', 'e', 't', 'i', '_', '_']) (o:=['r', 'o', 't', 'a', 'r', 'e', 't', 'i', '_', 't', 'e', 's']) (by kernel_rfl) uD]
 kernel_rfl
theorem pe:entryFor table "set_iterator.__iter__"=some Builtin.«dict_keyiterator.__iter__» :=
 entryFor_alias (id' :="dict_keyiterator.__iter__") (by kernel_rfl) (by decide+kernel) (by decide+kernel) (by kernel_rfl)
theorem rG:isSubtype (.type "set") (.type "set")=pure true:=by rw[isSubtype_type];kernel_rfl
theorem K6:Manifest.owners.lookup (String.ofList ['t', 'e', 's'].reverse)=some Manifest.sig_set:=by kernel_rfl
theorem Aq:PySem.Slot "set" "__iter__" "set.__iter__":=
 .of (owner:="set") (n:="__iter__") (by rw[GdM,GcP];kernel_rfl) (by decide+kernel) (by decide+kernel) (by decide+kernel) (.inl (by decide+kernel)) rG
theorem K7:PySem.Slot "set" "__len__" "set.__len__":=
 .of (owner:="set") (n:="__len__") (by rw[GdM,GcP];kernel_rfl) (by decide+kernel) (by decide+kernel) (by decide+kernel) (.inl (by decide+kernel)) rG
theorem tH(a:Value):argsOk "set.__iter__" ⟨[a],[]⟩:=by
 unfold argsOk;rw[signature?_of (id:="set.__iter__") (n:=['_', '_', 'r', 'e', 't', 'i', '_', '_']) (o:=['t', 'e', 's']) (by kernel_rfl) K6]
 kernel_rfl
theorem rH:entryFor table "set.__iter__"=some Builtin.«frozenset.__iter__» :=
 entryFor_alias (id' :="frozenset.__iter__") (by kernel_rfl) (by decide+kernel) (by decide+kernel) (by kernel_rfl)
end Fr
theorem ni{α:Type}:∀(xs:List α) (i:Nat) (h:i<xs.length),(xs[i]::xs.eraseIdx i).Perm xs
 |x::xs,0,h=>by simp
 |x::xs,i+1,h=>by
  have h' :i<xs.length:=by simpa using h
  simp only[List.getElem_cons_succ,List.eraseIdx_cons_succ];exact(List.Perm.swap _ _ _).trans ((ni xs i h').cons x)
theorem Du{α:Type}{next:Nat->Nat}:∀(f k:Nat) (left:List α) (out:Array α),left.length=f->(pickOrder.go next f k left out).toList.Perm (out.toList++left)
 |0,k,left,out,e=>by
  have:left=[]:=GaW.mp e;subst this;simp[pickOrder.go]
 |f+1,k,left,out,e=>by
  have hl:next k%left.length<left.length:=GcW _ (by lia);unfold pickOrder.go;rw[Gad hl];dsimp only;refine(Du f (k+1) _ _ (by rw[List.length_eraseIdx_of_lt hl];lia)).trans ?_;rw[Array.toList_push,Gba];refine List.Perm.append_left _ ?_;exact(ni _ _ hl)
theorem uE{α:Type}(next:Nat->Nat)(xs:Array α):(pickOrder next xs).toList.Perm xs.toList:=by
 have:=Du (next:=next) xs.size 0 xs.toList #[] (by simp)
 simpa[pickOrder] using this
section
variable{prog:Program}{w:World}{A:Around}{E:Value->Shared->Prop}{z:Shared}
theorem vU{α:Type}(n:Nat):∀(xs:List α) (z:Shared) (Q:List α->Shared->Prop),xs.length=n->(∀ys d,ys.Perm xs->Q ys {z with drawn:=d})->wpAny (model prog w) A (drawOrder n xs) Q E z:=by
 induction n with
 |zero=>
  intro xs z Q e h;have:xs=[]:=GaW.mp e;subst this;exact Gae (h [] z.drawn (List.Perm.refl _))
 |succ n ih=>
  intro xs z Q e h;cases xs with
  |nil=>cases e
  |cons x xs=>
  unfold drawOrder;refine Gaa (λΓ p hΓ=> ⟨Nat.succ_ne_zero _, ?_⟩)
  suffices hs:∀(i:Nat),i<(x::xs).length->wpAny (model prog w) A (match(x::xs)[i]? with|some y=>(do return y::(<-drawOrder n ((x::xs).eraseIdx i)))|none=>unsupported "internal:drawOrder") Q E {z with drawn:=z.drawn.bump .order} from hs _ (GcW _ (Gcz _))
  intro i hi;rw[Gad hi];dsimp only;refine Gaa (ih _ _ _ (by rw[List.length_eraseIdx_of_lt hi];lia) λys d hp=> ?_);exact Gae (h _ d ((hp.cons _).trans (ni _ _ hi)))
def nj(h:Heap)(a:Addr)(es:Array (Int×Value))(ep:Nat)(t:SetTable):Prop:=∃o,h.get? a=some o/\o.ExactSet/\o.data= .set es ep t
variable{ep:Nat}{es:Array (Int×Value)}{a:Addr}{h h' :Heap}
theorem nj.at{t:SetTable}(x:nj h a es ep t)(e:∀o,h.get? a=some o->h'.get? a=some o):nj h' a es ep t:=let⟨o,ho,r⟩:=x;⟨o,e _ ho,r⟩
theorem nj.ty{t:SetTable}(x:nj z.heap a es ep t):z.TypeIs (.ref a) "set":=let⟨o,ho,hc,_⟩:=x;⟨o,ho,hc.1⟩
inductive Way (w:World) (a:Addr) (es:Array (Int×Value)) (ep:Nat) (t:SetTable) (h:Heap) (tp:Addr):Value->Nat->List (Int×Value)->Prop
 |text {i:Nat}:lu w=true->Way w a es ep t h tp (rawInt 0) i (pickOrder (w.params.setOrder a ep) es).toList
 |drawn {i:Nat} {ps:List Nat}:IsTup h tp (ps.map λ(j:Nat)=>rawInt j).toArray->ps.Perm (List.range es.size)->Way w a es ep t h tp (.ref tp) i (ps.map λj=>es.getD j (0,.none))
 |plain {i:Nat} {s:Nat}:lu w=false->¬(t.plain=false/\es.size>1)->Ris t.place->t.led=true->(s=if i=0 then 0 else t.place.getD (i -1) 0+1)->Way w a es ep t h tp (rawInt s) i es.toList
def i7(w:World)(h:Heap)(it a tp:Addr)(es:Array (Int×Value))(ep:Nat)(t:SetTable)(xs:List (Int×Value))(i:Nat):Prop:=
 ∃o first,h.get? it=some o/\o.cls= .type "set_iterator"/\o.data= .fields #[first,rawInt i,.ref a,rawInt es.size,rawInt ep]/\Way w a es ep t h tp first i xs
variable{xs:List (Int×Value)}{i:Nat}{tp:Addr}
theorem Way.perm{t:SetTable}{f:Value}(x:Way w a es ep t h tp f i xs):xs.Perm es.toList:=by
 cases x with
 |text _=>exact uE _ _
 |drawn _ hp=>
  refine(hp.map _).trans ?_;have:(List.range es.size).map (λj=>es.getD j (0,Value.none))=es.toList:=by
   apply GcV
   .simp
   .intro i h1 h2;simp at h1 h2⊢;simp[Array.getD,h2]
  rw[this]
 |plain _ _ _ _ _=>exact List.Perm.refl _
theorem below_at{xs:Array Nat}(hr:Ris xs)(hi:i<=xs.size):SetTable.below xs (if i=0 then 0 else xs.getD (i -1) 0+1)=i:=by
 obtain⟨h1,h2,h3⟩:=js (j:=if i=0 then 0 else xs.getD (i -1) 0+1) hr;generalize SetTable.below xs (if i=0 then 0 else xs.getD (i -1) 0+1)=r at*;by_cases c:i=0
 .subst c;simp only[Gah] at h2;rcases Nat.eq_zero_or_pos r with q|q
  .exact q
  .have:=h2 0 xs[0] q (GaB _);exact absurd this (Nat.not_lt_zero _)
 .simp only[Gag c] at h2 h3;have hg:xs.getD (i -1) 0=xs[i -1]'(by lia):=by simp[Array.getD,show i -1<xs.size by lia]
  rw[hg] at h2 h3;have g1:xs[i -1]? =some (xs[i -1]'(by lia)):=GaB _;have a1:i<=r:=by
   rcases Gbh r i with q|q
   .have:=h3 (i -1) _ (by lia) g1;lia
   .exact q
  have a2:r<=i:=by
   rcases Gbh i r with q|q
   .have g2:xs[i]? =some (xs[i]'(by lia)):=GaB _;have b1:=h2 i _ q g2;have b2:=hr (i -1) i (by lia) _ _ g1 g2;lia
   .exact q
  lia
variable{it:Addr}
theorem i7.ty{t:SetTable}(x:i7 w z.heap it a tp es ep t xs i):z.TypeIs (.ref it) "set_iterator":=let⟨o,f,ho,hc,_⟩:=x;⟨o,ho,hc⟩
theorem lX{Q:Bool->Shared->Prop}(h:Q (lu w) z):wpAny (model prog w) A setsByText Q E z:=Gaa (wpAny_askSetting (Gae h))
variable{s:Nat}
theorem rJ{t:SetTable}{Q:Option (Value×Nat)->Shared->Prop}(hm:nj z.heap a es ep t)(hf:t.fits es.size=true)
  (h1:lu w=false)(h2:¬(t.plain=false/\es.size>1))(h3:Ris t.place)(h4:t.led=true)(hi:i<=es.size)(hs:s=if i=0 then 0 else t.place.getD (i -1) 0+1)
  (h:Q (es[i]?.map λe=>(e.2,t.place.getD i 0+1)) z):wpAny (model prog w) A (setNext a s i ep) Q E z:=by
 obtain⟨o,ho,hx,hd⟩:=hm;have xW:t.place.size=es.size:=by
  unfold SetTable.fits at hf;simp at hf;lia
 unfold setNext;refine Gaa (GaR ho hd hf (Gaa (lX ?_)));dsimp only;rw[h1];simp only[Gbb,GbW];show wpAny _ _ (if(!t.plain&&decide (es.size>1))=true then _ else _) _ _ z;rw[Gag (by intro q;simp at q;exact h2 q)];show wpAny _ _ ((if(!t.led&& !es.isEmpty)=true then unsupported "set:maker-not-led" else pure ())>>=_) _ _ z;rw[Gag (by rw[h4];simp)];refine Gaa (Gae ?_);have hb:SetTable.below t.place s=i:=by rw[hs];exact below_at h3 (by lia)
 rw[hb];refine Gae ?_;rcases Gbh i es.size with c|c
 .rw[GaB c] at h⊢;rw[GaB (show i<t.place.size by lia)];have:t.place.getD i 0=t.place[i]'(by lia):=by simp[Array.getD,show i<t.place.size by lia]
  rw[this] at h;exact h
 .rw[GbU c] at h⊢;exact h
theorem uF{t:SetTable}{Q:Option (Value×Nat)->Shared->Prop}(hm:nj z.heap a es ep t)(hf:t.fits es.size=true)
  (h1:lu w=true)(h:Q ((pickOrder (w.params.setOrder a ep) es)[i]?.map λe=>(e.2,s)) z):wpAny (model prog w) A (setNext a s i ep) Q E z:=by
 obtain⟨o,ho,hx,hd⟩:=hm;unfold setNext;refine Gaa (GaR ho hd hf (Gaa (lX ?_)));dsimp only;rw[h1];simp only[GbK];rw[Gag (by simp)];refine Gaa ?_;unfold setWalk;refine Gaa (GaR ho hd hf (Gaa (lX ?_)))
 try dsimp only
 rw[h1];simp only[GbK];refine Gaa (wpAny_askSetting (Gae ?_));exact Gae h
theorem C9{j:Nat}{t:SetTable}{Q:Value->Shared->Prop}(hm:nj z.heap a es ep t)(hf:t.fits es.size=true)(hj:j<es.size)
  (h:Q es[j].2 z):wpAny (model prog w) A (setNextDrawn a j ep) Q E z:=by
 obtain⟨o,ho,hx,hd⟩:=hm;unfold setNextDrawn;refine Gaa (GaR ho hd hf ?_)
 try dsimp only
 rw[Gag (by simp),GaB hj];exact Gae h
theorem Fd{vs:Array Value}(x:IsTup h tp vs)(xM:tp≠it)(sb:Heap.SameBut it h h'):IsTup h' tp vs:=by
 obtain⟨o,ho,r⟩:=x;exact⟨o,(sb.2 tp xM).trans ho,r⟩
theorem Hu{t:SetTable}{e:Int×Value}{Q:Option Value->Shared->Prop}(hit:i7 w z.heap it a tp es ep t xs i)(hm:nj z.heap a es ep t)(hf:t.fits es.size=true)(xM:tp≠it)(hx:xs[i]? =some e)
  (hQ:∀h',i7 w h' it a tp es ep t xs (i+1)->Heap.SameBut it z.heap h' ->Q (some e.2) {z with heap:=h' }):wpAny (model prog w) A (pyNext (.ref it)) Q E z:=by
 obtain⟨o,first,ho,hc,hd,hw⟩:=id hit;obtain⟨os,yr,Rh,yb⟩:=id hm;have hl:i<es.size:=by
  have h1:=(Gam.mp hx).1;have:=hw.perm.length_eq;simp at this;lia
 unfold pyNext;refine Gaa (wpAny_attempt (Gbz (name:=Str.ofString "__next__") hit.ty Fr.c5 (Gbo Fr.c5 hit.ty Fr.dH ?_ (Fr.f7 _))));unfold Builtin.«set_iterator.__next__»;refine Gaa (GcZ (a:=(Value.ref it,[])) rfl ?_);dsimp only;refine Gaa (wpAny_fieldsOf ho hd ?_);dsimp only[rawInt];refine Gaa (Gaa (GaR yr yb hf (Gae ?_)));dsimp only;rw[Gag (by simp)];have up:∀(f:Value),Way w a es ep t z.heap tp f (i+1) xs->∀h' o',h'.get? it=some o' ->o'.cls= .type "set_iterator"->o'.data= .fields #[f,rawInt ((i+1:Nat):Int),.ref a,rawInt es.size,rawInt ep]->Heap.SameBut it z.heap h' ->i7 w h' it a tp es ep t xs (i+1):=λf Um h' o' g1 g2 g3 sb=>by
  refine⟨o',f,g1,g2,g3, ?_⟩;cases Um with
  |text q=>exact .text q
  |drawn q1 q2=>exact .drawn (Fd q1 xM sb) q2
  |plain q1 q2 q3 q4 q5=>exact .plain q1 q2 q3 q4 q5
 cases hw with
 |text hb=>
  dsimp only[rawInt];refine Gaa (uF hm hf hb ?_);have zJ :(pickOrder (w.params.setOrder a ep) es)[i]? =some e:=by simpa using hx
  simp only[Gbd,zJ,GbY];refine Gaa (GcN ho hd (by simp) ?_);have ya:=Gbi (Obj.mapFields (·.setIfInBounds 0 (rawInt ((Int.toNat 0:Nat):Int)))) ho (Gcq (Gbt hd _));have hd2:=Gbt hd (·.setIfInBounds 0 (rawInt ((Int.toNat 0:Nat):Int)));refine Gaa (GcN (s:={z with heap:=_}) ya hd2 (by simp) ?_);have sb:=(GbT z.heap it (Obj.mapFields (·.setIfInBounds 0 (rawInt ((Int.toNat 0:Nat):Int))))).trans (GbT _ it (Obj.mapFields (·.setIfInBounds 1 (rawInt ((i:Int)+1)))));refine Gae ⟨e.2,rfl,Gae (hQ _ (up (rawInt 0) (.text hb) _ _ (Gbi _ ya (Gcq (Gbt hd2 _))) ((GcL ..).trans ((GcL ..).trans hc)) (by rw[Gbt hd2];simp[rawInt]) sb) sb)⟩
 | @drawn _ ps ht hp=>
  obtain⟨p,hpi,rfl⟩:∃p,ps[i]? =some p/\es.getD p (0,Value.none)=e:=by
   rw[Gaw] at hx;obtain⟨p,h1,h2⟩:=Gas.mp hx;exact⟨p,h1,h2⟩
  have xH:p<es.size:=by
   have:=hp.mem_iff.mp (GaE hpi)
   simpa using this
  dsimp only;obtain⟨ot,RX,Us,n,zi⟩:=id ht;refine Gaa (Gcv RX zi ?_);have hq:(List.map (λ(j:Nat)=>rawInt j) ps).toArray[i]? =some (rawInt p):=by simp[hpi]
  simp only[Gbd,hq];dsimp only[rawInt];simp only[Gbd];refine Gaa (C9 hm hf xH ?_);refine Gaa (GcN ho hd (by simp) ?_);have sb:=(GbT z.heap it (Obj.mapFields (·.setIfInBounds 1 (rawInt ((i:Int)+1)))))
  have eg:es.getD p (0,Value.none)=es[p]:=by simp[Array.getD,xH]
  rw[eg] at hQ;refine Gae ⟨es[p].2,rfl,Gae (hQ _ (up (.ref tp) (.drawn ht hp) _ _ (Gbi _ ho (Gcq (Gbt hd _))) ((GcL ..).trans hc) (by rw[Gbt hd];simp[rawInt]) sb) sb)⟩
 | @plain _ s q1 q2 q3 q4 q5=>
  dsimp only[rawInt];simp only[Gbd];have zJ :es[i]? =some e:=by simpa using hx
  refine Gaa (rJ hm hf q1 q2 q3 q4 (Gde hl) q5 ?_);rw[zJ];simp only[GbY];refine Gaa (GcN ho hd (by simp) ?_);have ya:=Gbi (Obj.mapFields (·.setIfInBounds 0 (rawInt ((t.place.getD i 0+1:Nat):Int)))) ho (Gcq (Gbt hd _));have hd2:=Gbt hd (·.setIfInBounds 0 (rawInt ((t.place.getD i 0+1:Nat):Int)));refine Gaa (GcN (s:={z with heap:=_}) ya hd2 (by simp) ?_);have sb:=(GbT z.heap it (Obj.mapFields (·.setIfInBounds 0 (rawInt ((t.place.getD i 0+1:Nat):Int))))).trans (GbT _ it (Obj.mapFields (·.setIfInBounds 1 (rawInt ((i:Int)+1)))));refine Gae ⟨e.2,rfl,Gae (hQ _ (up (rawInt ((t.place.getD i 0+1:Nat):Int)) (.plain q1 q2 q3 q4 (by simp)) _ _ (Gbi _ ya (Gcq (Gbt hd2 _))) ((GcL ..).trans ((GcL ..).trans hc)) (by rw[Gbt hd2];simp[rawInt]) sb) sb)⟩
end
section
variable{prog:Program}{w:World}{A:Around}{E:Value->Shared->Prop}{z:Shared}
variable{xs:List (Int×Value)}{ep i:Nat}{es:Array (Int×Value)}{it a tp:Addr}
theorem K8{t:SetTable}{Q:Option Value->Shared->Prop}(hh:A.handled=none)(hit:i7 w z.heap it a tp es ep t xs i)(hm:nj z.heap a es ep t)(hf:t.fits es.size=true)(hi:i=es.size)
  (hQ:∀h',Heap.ExtBut it z.heap h' ->Q none {z with heap:=h' }):wpAny (model prog w) A (pyNext (.ref it)) Q E z:=by
 obtain⟨o,first,ho,hc,hd,hw⟩:=id hit;obtain⟨os,yr,Rh,yb⟩:=id hm;have f:FO z.heap it "set_iterator" _:=⟨o,ho,hc,hd⟩
 have out:∀h1 (P:PySem.Fin->Shared->Prop),Heap.SameBut it z.heap h1->wpAny (model prog w) A.in1 (newExc (.type "StopIteration") []>>=λe=>(raiseNew e:Sem PySem.Fin)) P (λe s' =>wpAny (model prog w) A (isInstance e (.type "StopIteration")>>=λb=>if b=true then pure none else throw e) Q E s') {z with heap:=h1}:=λh1 P sb=>
  Lp hh λh2 e k=>Gaa (Dk k.2 (Gae (hQ h2 λb o n q=>k.1 b o (sb.extBut b o n q))))
 cases hw with
 |text hb=>
  have no:(pickOrder (w.params.setOrder a ep) es)[i]? =none:=GbU (by
   have:=(uE (w.params.setOrder a ep) es).length_eq;simp only[GaN] at this;lia)
  have r:∀{Q' :Option (Value×Nat)->Shared->Prop} {E'},Q' none z->wpAny (model prog w) A.in1 (setNext a (Int.toNat 0) (i:Int).toNat (ep:Int).toNat) Q' E' z:=λq=>uF (i:=(i:Int).toNat) hm hf hb (by simp only[Gbd,no,Option.map_none];exact q)
  wp_walk using Gbz f.ty Fr.c5,Gbo Fr.c5 f.ty Fr.dH (ha:=Fr.f7 _),BY f,GaR yr yb hf,r,p9 f
  .exactλh1 k=>out h1 _ k.2
  .show _<5;decide
 | @drawn _ ps ht hp=>
  obtain⟨ot,RX,Us,n,zi⟩:=id ht;have no:(List.map (λ(j:Nat)=>rawInt j) ps).toArray[(i:Int).toNat]? =none:=by
   have:=hp.length_eq;simp at this;simp;lia
  wp_walk using Gbz f.ty Fr.c5,Gbo Fr.c5 f.ty Fr.dH (ha:=Fr.f7 _),BY f,GaR yr yb hf,Gcv RX zi
  rw[no];exact Gaa (p9 f (λh1 ⟨f1,s1⟩=>Gaa (p9 f1 (λh2 ⟨f2,s2⟩=>out h2 _ (s1.trans s2)) (by simp))) (by simp))
 | @plain _ s q1 q2 q3 q4 q5=>
  have r:∀{Q' :Option (Value×Nat)->Shared->Prop} {E'},Q' none z->wpAny (model prog w) A.in1 (setNext a (s:Int).toNat (i:Int).toNat (ep:Int).toNat) Q' E' z:=λq=>rJ (i:=i) hm hf q1 q2 q3 q4 (Nat.le_of_eq hi) q5 (by rw[GbU (by lia)];exact q)
  wp_walk using Gbz f.ty Fr.c5,Gbo Fr.c5 f.ty Fr.dH (ha:=Fr.f7 _),BY f,GaR yr yb hf,r,p9 f
  .exactλh1 k=>out h1 _ k.2
  .show _<5;decide
theorem Ca{t:SetTable}{Q:Value->Shared->Prop}(hit:i7 w z.heap it a tp es ep t xs i)(h:Q (.ref it) z):wpAny (model prog w) A (pyIter (.ref it)) Q E z:=
 wpAny_pyIter_slot hit.ty Fr.rF (Gbo Fr.rF hit.ty Fr.pe (Gae ⟨_,rfl,_,_,hit.ty,Fr.c5.lookup,h⟩) (Fr.qm _))
theorem Way.at{t:SetTable}{h h' :Heap}{f:Value}(x:Way w a es ep t h tp f i xs)(k:∀o,h.get? tp=some o->h'.get? tp=some o):Way w a es ep t h' tp f i xs:=by
 cases x with
 |text q=>exact .text q
 |drawn q1 q2=>
  obtain⟨o,ho,r⟩:=q1;exact .drawn ⟨o,k o ho,r⟩ q2
 |plain q1 q2 q3 q4 q5=>exact .plain q1 q2 q3 q4 q5
theorem Fe(hh:A.handled=none)(I a tp:Addr)(xM:a≠I)(Uc:tp≠I)(es:Array (Int×Value))(ep:Nat)(t:SetTable)(hf:t.fits es.size=true)(xs:List (Int×Value))(Rh:xs.length=es.size):
  Walks prog w A I [I,a,tp] [I] es.size (λi v=>∃e,xs[i]? =some e/\v=e.2) (λi h=>i7 w h I a tp es ep t xs i/\nj h a es ep t) where
 sub:=λb hb=>by simp at hb;simp[hb]
 frame:=λi h h' st hk=>by
  obtain⟨⟨o,f,ho,hc,hd,hw⟩,hs⟩:=st;exact⟨⟨o,f,hk I (by simp) o ho,hc,hd,hw.at λo e=>hk tp (by simp) o e⟩,hs.at λo e=>hk a (by simp) o e⟩
 item:=λi z Q E hi st hQ=>by
  have hx:xs[i]? =some (xs[i]'(by lia)):=Gad _;exact Hu st.1 st.2 hf Uc hx λh' yj yi =>hQ _ h' z.toks ⟨_,hx,rfl⟩ ⟨yj,st.2.at λo e=>yi.extBut a o xM e⟩ λb o hb e=>yi.extBut b o (λh=>hb (by simp[h])) e
 done:=λz Q E st hQ=>K8 hh st.1 st.2 hf rfl λh' zV =>hQ h' z.toks λb o hb e=>zV b o (λh=>hb (by simp[h])) e
 self:=λ_ _ _ _ st hQ=>Ca st.1 hQ
theorem Hv{t:SetTable}{Q:Value->Shared->Prop}(hm:nj z.heap a es ep t)(hf:t.fits es.size=true)(hT:Tb (lu w) t)(eJ:es.size<=sizeLine)
  (hQ:∀(h' :Heap) (it tp:Addr) (d:Drawn) (xs:List (Int×Value)),z.heap.objs.size<=it->tp≠it->z.heap.objs.size<=tp->(∀b o,z.heap.get? b=some o->h'.get? b=some o)->i7 w h' it a tp es ep t xs 0->xs.length=es.size->xs.Perm es.toList->Q (.ref it) {z with heap:=h',drawn:=d}):
  wpAny (model prog w) A (pyIter (.ref a)) Q E z:=by
 obtain⟨o,ho,hx,hd⟩:=id hm;have hTy:z.TypeIs (.ref a) "set":=hm.ty;have xW:t.place.size=es.size:=by
  unfold SetTable.fits at hf;simp at hf;lia
 refine wpAny_pyIter_slot hTy Fr.Aq (Gbo Fr.Aq hTy Fr.rH ?_ (Fr.tH _));unfold Builtin.«frozenset.__iter__»;refine Gaa (m:=Builtin.Frozenset.slot0 "__iter__" ⟨[.ref a],[]⟩) (GcZ (a:=a) rfl ?_);unfold Builtin.Frozenset.sizeOf;refine Gaa (Gaa (Gaa (GaR ho hd hf (Gae (Gae ?_)))));dsimp only;refine Gaa ?_;unfold setDrawn;refine Gaa (GaR ho hd hf (Gaa (lX ?_)))
 try dsimp only
 refine Gae ?_;by_cases c:(!lu w&&(!t.plain&&decide (es.size>1)))=true
 .show wpAny _ _ (if(!lu w&&(!t.plain&&decide (es.size>1)))=true then _ else _) _ _ z;rw[Gah c];refine Gaa (vU es.size (List.range es.size) z _ (by simp) λps d hp=> ?_);have xH:ps.length=es.size:=by rw[hp.length_eq];simp
  refine Gaa (wpAny_newTuple ?_ (by rw[Gab];lia));have RZ:(z.heap.push {cls:= .type "tuple",data:= .seq (ps.map λ(i:Nat)=>rawInt i).toArray}).get? a=some o:=Gaj _ ho;refine Gaa (m:=setEpoch a) (Gaa (GaR (s:={z with heap:=_,drawn:=d}) RZ hd hf (Gae ?_)));dsimp only;unfold newFields;refine Gaa (Gbn (Gae ⟨_,rfl,"set_iterator",_,⟨_,GaD _ rfl,rfl⟩,Fr.c5.lookup, ?_⟩) (by size_fits));refine hQ _ _ z.heap.objs.size d (ps.map λj=>es.getD j (0,.none)) (by rw[Gcu];exact Gck _) (by rw[Gcu];exact GaH (Gcy _)) (Gaq _) (λb o e=>Gaj _ (Gaj _ e)) ?_ (by simp[xH]) (Way.perm (w:=w) (a:=a) (ep:=ep) (i:=0) (t:=t) (.drawn (h:=z.heap.push {cls:= .type "tuple",data:= .seq (ps.map λ(i:Nat)=>rawInt i).toArray}) (tp:=z.heap.objs.size) ⟨_,GaD _ rfl,rfl,0,rfl⟩ hp));exact⟨_,_,GaD _ rfl,rfl,rfl,.drawn ⟨_,Gaj _ (GaD _ rfl),rfl,0,rfl⟩ hp⟩
 .show wpAny _ _ (if(!lu w&&(!t.plain&&decide (es.size>1)))=true then _ else _) _ _ z;rw[Gag c];refine Gaa (Gae ?_);refine Gaa (m:=setEpoch a) (Gaa (GaR ho hd hf (Gae ?_)));dsimp only;unfold newFields;refine Gaa (Gbn (Gae ⟨_,rfl,"set_iterator",_,⟨_,GaD _ rfl,rfl⟩,Fr.c5.lookup, ?_⟩) (by size_fits));obtain⟨xs,hW⟩:∃xs,Way w a es ep t (z.heap.push {cls:= .type "set_iterator",data:= .fields #[rawInt 0,rawInt 0,.ref a,rawInt es.size,rawInt ep]}) (z.heap.objs.size+1) (rawInt 0) 0 xs:=by
   cases hb:lu w with
   |true=>exact⟨_,.text hb⟩
   |false=>
    have c' :¬(t.plain=false/\es.size>1):=λq=>c (by rw[hb,q.1];simp[q.2]);refine⟨_,.plain (s:=0) hb c' ?_ (by rw[hT.1,hb];rfl) (by simp)⟩;cases hp:t.plain with
    |true=>exact hT.2 hp
    |false=>
     intro i j yO x y hx hy;have:es.size<=1:=by
      rcases Gbh 1 es.size with q|q
      .exact absurd ⟨hp,q⟩ c'
      .exact q
     have h2:=(Gbm.mp hy).1;lia
  exact hQ _ _ (z.heap.objs.size+1) z.drawn xs (Gaq _) (Gcw (Gcy _)) (Gck _) (λb o e=>Gaj _ e) ⟨_,_,GaD _ rfl,rfl,rfl,hW⟩ (by have:=hW.perm.length_eq;simpa using this) hW.perm
theorem Hw{d:Addr}{Q:Bool->Shared->Prop}(hT:z.TypeIs (.ref d) "set")(h:Q false z):wpAny (model prog w) A (Builtin.List.listLengthHint (.ref d)) Q E z:=by
 have sp:splitId "set.__len__"=some ("set","__len__"):=by decide+kernel
 apply Gaa;apply GdN hT Fr.K7.lookup;dsimp only;rw[sp]
 wp_walk using wpAny_isInstance hT Fr.rG,GdJ hT
 exact h
theorem Cb{R:Result->Shared->Prop}{t:SetTable}(hh:A.handled=none)(hm:nj z.heap a es ep t)(hf:t.fits es.size=true)(hT:Tb (lu w) t)(eJ:es.size<=sizeLine)(S:Addr)(res:Value)(hS:Emp z.heap S)(Sd:S≠a)
  (hR:∀h' tk d yA c' (xs:List (Int×Value)),(∀b o,b≠S->z.heap.get? b=some o->h'.get? b=some o)->h'.get? S=some {cls:= .type "list",dict:=none,data:= .seq yA c',slots:=#[]}->xs.Perm es.toList->yA.toList=xs.map (·.2)->R (.ok (.ret res)) {z with heap:=h',toks:=tk,drawn:=d}):
  wpAny (model prog w) A.in1 (Builtin.List.listExtendWith (.ref S) (.ref a) res) (λfin s' =>match fin with| .done f=>R (.ok f) s' | .again c' =>c'.quiet=true/\codeAny (model prog w) A c' R s') (λe s' =>R (.error e) s') z:=by
 have lS:S<z.heap.objs.size:=let⟨_,e⟩:=hS;Gau e
 have la:a<z.heap.objs.size:=let⟨o,ho,_⟩:=hm;Gau ho
 refine Hl hm.ty rfl rfl (by simp[Builtin.List.listSameRef,Sd]) (Hv hm hf hT eJ λh1 it tp d xs gi ne gt k1 hI xl xp=>Hw (z:={z with heap:=h1,drawn:=d}) (let⟨o,ho,hc,_⟩:=hm;⟨o,k1 _ _ ho,hc.1⟩) ⟨let⟨c,e⟩:=hS;⟨c,k1 _ _ e⟩,λh2 ⟨c,e⟩ k=> ?_⟩);have W:=(Fe (prog:=prog) (w:=w) (A:=A.in1) hh it a tp (GaH (GaG la gi)) ne es ep t hf xs xl).toS;have nit:it≠S:=Gcw (GaG lS gi);have ntp:tp≠S:=Gcw (GaG lS gt);refine codeAny_extend_loopS W eJ S (by simp[Ne.symm nit,Ne.symm ntp,Sd]) res es.size 0 _ #[] c rfl (Gbk _) ⟨let⟨o,f,ho,hc,hd,hw⟩:=hI;⟨o,f,k it o nit ho,hc,hd,hw.at λo=>k tp o ntp⟩,hm.at λo q=>k a o (Ne.symm Sd) (k1 _ _ q)⟩ e (ItemsOf.nil _) λs' yA c' mv e' items=> ?_;rw[Moved.eq_with mv];refine hR s'.heap s'.toks d yA c' xs (λb o n q=>mv.heap b o (λm=> ?_) (k b o n (k1 _ _ q))) e' xp (GcK λi=> ?_)
 .have lb:=Gau q;simp only[Gar,Gcg,GdS] at m;rcases m with rfl|rfl
  .exact n rfl
  .exact Gbv _ (GaG lb gi)
 .rw[Gbj,Gaw];cases q:yA[i]? with
  |some v=>
   obtain⟨en,h1,rfl⟩:=items.2 i v q;rw[h1];rfl
  |none=>
   have:es.size<=i:=by rw[<-items.1];simpa using q
   rw[Gbw (by lia)];rfl
theorem Ar{t:SetTable}{Q:List Value->Shared->Prop}(hh:A.handled=none)(hm:nj z.heap a es ep t)(hf:t.fits es.size=true)(hT:Tb (lu w) t)(eJ:es.size<=sizeLine)
  (h:∀h' tk d (xs:List (Int×Value)),z.heap.objs.size<h'.objs.size->(∀b o,z.heap.get? b=some o->h'.get? b=some o)->xs.Perm es.toList->Q (xs.map (·.2)) {z with heap:=h',toks:=tk,drawn:=d}):wpAny (model prog w) A (collect (.ref a)) Q E z:=by
 have old:∀{b o},z.heap.get? b=some o->b≠z.heap.objs.size:=λe=>GaH (Gau e);refine vN λh1 e k R r=>Cb (z:={z with heap:=h1}) hh (hm.at (k a)) hf hT eJ _ _ e (let⟨o,ho,_⟩:=hm;Ne.symm (old ho)) λh' tk d acc c xs k' e' xp ha=> ?_;exact r _ acc c e' (ha▸h h' tk d xs (Gau e') (λb o q=>k' b o (old q) (k b o q)) xp)
end
section
variable{X:Cx}{e8:List (Addr×Obj)}{Z:St}{H:Hp}{s:Shared}
theorem _root_.L2.Inv.draw(I:Inv X e8 Z H s)(d:Drawn):Inv X e8 Z H {s with drawn:=d}:=⟨I.ok,I.os,I.bare,I.base,I.loc,I.cell,I.free,I.lO,I.pin,I.hok,I.len⟩
end
section
variable{X:Cx}{e a b c:Expr}{f g h:DE}{pos:Pos}{e8:List (Addr×Obj)}{Z:St}{H:Hp}{s:Shared}
theorem oQ:∀{ns:List Int} {us:List Value},Vals (ns.map V.int) us->IntsAre us ns
 |[],_,.nil=> .nil
 |n::ns,_,.cons h t=>by
  obtain⟨k,rfl⟩:=h;exact .cons n k (oQ t)
end
namespace Fr
end Fr
structure o7(K:aq)(eC:Addr->Prop)(env:Env)(Z:St)(H:Hp)(i:Nat)(p:Addr)(ws:List (List Key×V))(eD:Rws):Prop where
 at_:Z[i]? =some (some (.ref p))
 hid:env[i]? =some none
 top:H p=some (.dT ws)
 keys:eD.map (·.1)=ws.map (·.1)
 row:∀(j:Nat) k v d,ws[j]? =some (k,v)->eD[j]? =some (k,d)->∃a ds vs,v= .ref a/\d= .lst ds/\a≠p/\H a=some (.lst vs)/\aJ K (λ_=>False) H ds vs
 inj:∀(j j' :Nat) k k' a,ws[j]? =some (k,V.ref a)->ws[j']? =some (k',V.ref a)->j=j'
def As(H H' :Hp):Prop:=∀b o,H b=some o->isT o->H' b=some o
variable{H H1:Hp}
theorem As.trans{H2:Hp}(a:As H H1)(b:As H1 H2):As H H2:=λc o e t=>b c o (a c o e t) t
theorem As.same(s:cF H H1):As H H1:=λc o e _=>s c o e
theorem As.upd{H:Hp}{a:Addr}{o o' :HO}(h:H a=some o)(n:¬isT o):As H (upd H a o'):=λc x e t=>by
 have:c≠a:=by rintro rfl;rw[h] at e;cases e;exact n t
 rw[aE this];exact e
section
variable{K:aq}{H0 H H' H1:Hp}{eC UN :Addr->Prop}{env eR :Env}{Z Z' :St}{d:D}{v:V}{a p:Addr}{i j:Nat}{ws:List (List Key×V)}{eD:Rws}
theorem o7.mono(N:o7 K eC env Z H i p ws eD)(s:cF H H'):o7 K eC env Z H' i p ws eD where
 at_:=N.at_
 hid:=N.hid
 top:=s _ _ N.top
 keys:=N.keys
 row:=λj k v d h1 h2=>let⟨a,ds,vs,e1,e2,e3,e4,e5⟩:=N.row j k v d h1 h2;⟨a,ds,vs,e1,e2,e3,s _ _ e4,e5.gen (.of_same s) λ_ f _=>f⟩
 inj:=N.inj
theorem o7.uk(N:o7 K eC env Z H i p ws eD)(yO:i≠j):o7 K eC (env.set j (some (.sh d))) (Z.set j (some v)) H i p ws eD where
 at_:=by rw[Gak (Ne.symm yO)];exact N.at_
 hid:=by rw[Gak (Ne.symm yO)];exact N.hid
 top:=N.top
 keys:=N.keys
 row:=λj k v d h1 h2=>let⟨a,ds,vs,e1,e2,e3,e4,e5⟩:=N.row j k v d h1 h2;⟨a,ds,vs,e1,e2,e3,e4,e5⟩
 inj:=N.inj
theorem o7.app{vs:List V}{ds:List D}{k:List Key}(N:o7 K eC env Z H i p ws eD)(ba:eC a)(ha:ws[j]? =some (k,.ref a))(hd:eD[j]? =some (k,.lst ds))(hv:H a=some (.lst vs))(rp:aJ K (λ_=>False) H (ds++[d]) (vs++[v])):
  o7 K eC env Z (upd H a (.lst (vs++[v]))) i p ws (eD.set j (k,.lst (ds++[d]))):=by
 have j6:jN (λ_=>False) H (upd H a (.lst (vs++[v]))):=λb x hx q=>by
  have:b≠a:=by
   rintro rfl;rcases q with q|q
   .exact q
   .rw[hv] at hx;cases hx;exact q
  rw[aE this];exact hx
 have zy:p≠a:=by
  obtain⟨a',_,_,e1,_,e3,_⟩:=N.row j k _ _ ha hd;cases e1;exact Ne.symm e3
 have zf:=(Gam.mp hd).1;refine⟨N.at_,N.hid,by rw[aE zy];exact N.top, ?_,λj' k' v' d' h1 h2=> ?_,N.inj⟩
 .rw[List.map_set,<-N.keys];apply GcK;intro m;by_cases q:j=m
  .subst q;rw[GaZ (by simpa using zf),Gaw,hd];rfl
  .rw[Gak q]
 .by_cases q:j=j'
  .subst q;rw[ha] at h1;cases h1
   rw[GaZ zf] at h2;cases h2;exact⟨a,_,_,rfl,rfl,Ne.symm zy,b9,rp.gen j6 λ_ f _=>f⟩
  .rw[Gak q] at h2;obtain⟨a',xG,us,e1,e2,e3,e4,e5⟩:=N.row j' k' v' d' h1 h2;subst e1;have na:a' ≠a:=by
    rintro rfl;exact q (N.inj j j' _ _ _ ha h1)
   exact⟨a',xG,us,rfl,e2,e3,by rw[aE na];exact e4,e5.gen j6 λ_ f _=>f⟩
end
theorem d8{N P:List Str}{sc:Scope}(a:autoParam (sc.kind= .function) Za1._auto_1)(b:autoParam (sc.isCoroutine=false) Za1._auto_1)(c:autoParam (sc.isGenerator=false) Za1._auto_1)(d:N.Nodup:=by decide+kernel)(e:autoParam (N.take P.length=P) Za1._auto_1)(f:∀x∈P,sc.names.lookup x=some .local\/sc.names.lookup x=some .cell:=by decide+kernel)(g:∀y∈sc.names,y.2≠ .free:=by decide+kernel):jK N P sc:=⟨a,b,c,d,e,f,g⟩
section
variable{X:Cx}{e a b c:Expr}{f g h:DE}{pos:Pos}
theorem Hx{prog:Program}{w:World}{A:Around}{E:Value->Shared->Prop}{z:Shared}{t b:Addr}{ws:List Value}{Q:Value->Shared->Prop}(ht:IsTup z.heap t #[])(hb:IsTup z.heap b ws.toArray)(h:Q (.ref b) z):wpAny (model prog w) A (binaryOp .Add (.ref t) (.ref b)) Q E z:=by
 obtain⟨⟨cls,dd,data,sl⟩,ho,hc,n,hd⟩:=id ht;obtain⟨⟨R4,yT,data2,yJ⟩,ya,yF,n2,hd2⟩:=id hb;simp only at hc hd yF hd2;subst hc hd yF hd2;exact concat_meets ⟨_,ho,rfl⟩ ⟨_,ya,rfl⟩ noFill_tuple_add seq_tuple_add Gdw Gdm (Gdh _ _)
  (tuple_addW0 t b #[] ws.toArray n n2 dd yT sl yJ (by simp)) ⟨ho,ya,h⟩
def Lq(K:aq):R2:=λx y H Q=>∃a b ys,x= .ref a/\y= .ref b/\SqT K H a []/\SqT K H b ys/\Q (.ref b) H
theorem K9:OpR X (binaryOp .Add) (Lq X.K):=by
 intro e8 s Z H x y v u Q I rx ry h;obtain⟨a,b,ys,rfl,rfl,ha,hb,q⟩:=h;cases rx;cases ry;obtain⟨its,r1,p1,_⟩:=I.tuple ha;obtain⟨eI,r2,p2,_⟩:=I.tuple hb;have e:its=[]:=r1.cB.mpr rfl;subst e;exact Hx p1 p2 ⟨.ref b,H,I,rfl,q⟩
theorem Hy:OpD X gS (λx y H Q=>Lq X.K x y H Q\/GJ X.K x y H Q):=by
 intro F H dx dy x y rv Q ix iy e k;unfold gS at e;split at e
 .cases e;cases ix with
  |tup hx rx=>
   cases iy with
   |tup hy ry=>
    have:=rx.ne.mpr rfl;subst this;exact .inl ⟨_,_,_,rfl,rfl,SqT.of hx,SqT.of hy,k _ H bu (.tup hy ry.1 ry.2)⟩
 .exact .inr (D9 F H dx dy x y rv Q ix iy e k)
theorem Ka(ha:PEd X a f)(hb:PEd X b g):PEd X (.BinOp a .Add b pos) (opE gS f g):=qT (K9.or D8) Hy ha hb
end
noncomputable def gU(mask:Nat):Nat->Nat×Nat->Nat×Nat
 |0,x=>x
 |n+1,x=>gU mask n (SetTable.leap mask x.1 x.2)
theorem uG(mask:Nat):∀(m n:Nat) (x:Nat×Nat),gU mask (m+n) x=gU mask n (gU mask m x)
 |0,n,x=>by rw[GaS];rfl
 |m+1,n,x=>by
  rw[Nat.succ_add];exact uG mask m n (SetTable.leap mask x.1 x.2)
noncomputable def lcg(mask:Nat):Nat->Nat->Nat
 |0,i=>i
 |n+1,i=>lcg mask n ((i*5+1)%(mask+1))
theorem Au(mask:Nat):∀(n i:Nat),gU mask n (i,0)=(lcg mask n i,0)
 |0,i=>rfl
 |n+1,i=>by
  show gU mask n (SetTable.leap mask i 0)=_;have:SetTable.leap mask i 0=((i*5+1)%(mask+1),0):=by simp[SetTable.leap]
  rw[this,Au mask n]
  rfl
theorem o8(mask:Nat):∀(n:Nat) (x:Nat×Nat),(gU mask n x).2=x.2/32^n
 |0,x=>by simp[gU]
 |n+1,x=>by
  show(gU mask n (SetTable.leap mask x.1 x.2)).2=_;rw[o8 mask n];show x.2/32/32^n=_;rw[Nat.div_div_eq_div_mul,Nat.pow_succ,Nat.mul_comm]
theorem Dv(mask:Nat):∀(n:Nat) (x:Nat×Nat),x.1<=mask->(gU mask n x).1<=mask
 |0,x,h=>h
 |n+1,x,h=>Dv mask n _ (Gcs (GcW _ (Gcz _)))
noncomputable def rK(mask:Nat):Nat->Nat->List Nat
 |0,_=>[]
 |n+1,i=>i::rK mask n ((i*5+1)%(mask+1))
theorem Av(mask:Nat):∀(n i m:Nat),m<n->(rK mask n i)[m]? =some (lcg mask m i)
 |0,i,m,h=>by lia
 |n+1,i,0,h=>rfl
 |n+1,i,m+1,h=>by
  show(rK mask n ((i*5+1)%(mask+1)))[m]? =_;exact Av mask n _ m (by lia)
theorem rL(mask:Nat):∀(n i:Nat),(rK mask n i).length=n
 |0,i=>rfl
 |n+1,i=>by show(rK mask n _).length+1=n+1;rw[rL mask n]
theorem qB(mask:Nat):∀(m n i:Nat),lcg mask (m+n) i=lcg mask n (lcg mask m i)
 |0,n,i=>by rw[GaS];rfl
 |m+1,n,i=>by
  rw[Nat.succ_add];exact qB mask m n _
noncomputable def cZ(mask:Nat):Bool:=((List.range (mask+1)).all λe=>(rK mask (mask+1) 0).contains e)&&lcg mask (mask+1) 0==0
theorem Pk:cZ 31=true:=by decide+kernel
theorem MB:cZ 127=true:=by decide+kernel
variable{mask:Nat}
theorem Hz{e:Nat}(h:cZ mask=true)(he:e<=mask):∃m,m<=mask/\lcg mask m 0=e:=by
 unfold cZ at h;rw[Gan] at h;have h2:=Gap.mp h.1 e (GaX.mpr (by lia));have h3:e∈rK mask (mask+1) 0:=by simpa using h2
 obtain⟨m,hm,e1⟩:=GbS h3;rw[rL] at hm;refine⟨m,by lia, ?_⟩;have:=Av mask (mask+1) 0 m hm;rw[Gad (by rw[rL];exact hm),e1] at this;exact(Option.some.inj this).symm
variable{i:Nat}
theorem MC{e:Nat}(h:cZ mask=true)(hi:i<=mask)(he:e<=mask):∃m,m<=mask/\lcg mask m i=e:=by
 obtain⟨a,ha,ea⟩:=Hz h hi;obtain⟨b,hb,eb⟩:=Hz h he;by_cases c:a<=b
 .refine⟨b -a,by lia, ?_⟩;rw[<-ea,<-qB,show a+(b -a)=b by lia];exact eb
 .refine⟨mask+1 -a+b,by lia, ?_⟩;have z:lcg mask (mask+1) 0=0:=by
   unfold cZ at h;rw[Gan] at h
   simpa using h.2
  have e0:lcg mask (mask+1 -a) i=0:=by
   rw[<-ea,<-qB,show a+(mask+1 -a)=mask+1 by lia];exact z
  rw[qB,e0];exact eb
theorem uH{p e:Nat}(h:cZ mask=true)(hi:i<=mask)(hp:p<2^64)(he:e<=mask):∃n,1<=n/\n<=mask+13/\(gU mask n (i,p)).1=e:=by
 have z:(gU mask 13 (i,p)).2=0:=by
  rw[o8];exact Nat.div_eq_of_lt (GaG hp (by decide))
 have l:=Dv mask 13 (i,p) hi;obtain⟨m,hm,e1⟩:=MC h l he;refine⟨13+m,by lia,by lia, ?_⟩;rw[uG];have:gU mask 13 (i,p)=((gU mask 13 (i,p)).1,0):=Prod.ext rfl z;rw[this,Au];exact e1
theorem pf(mask i:Nat):SetTable.runEnd mask i -i<=9:=by
 unfold SetTable.runEnd;split<;>lia
structure POk(t:SetTable)(p:SetTable.Probe):Prop where
 i:p.i<=t.mask
 more:p.more<=9
 Nl:p.perturb<2^64
theorem POk.start(t:SetTable)(h:Int):POk t (t.probeStart h):=by
 refine⟨?_,pf _ _, ?_⟩
 .exact Gcs (GcW _ (Gcz _))
 .show SetTable.bits h<2^64;unfold SetTable.bits;have h1:0<=h%(2^64:Int):=GbQ _ (by decide);have h2:h%(2^64:Int)<2^64:=GbI _ (by decide);lia
theorem POk.adv{t:SetTable}{p:SetTable.Probe}(h:POk t p):POk t (t.advance p):=by
 unfold SetTable.advance;split
 .exact⟨h.i,by show p.more -1<=9;have:=h.more;lia,h.Nl⟩
 .refine⟨?_,pf _ _, ?_⟩
  .exact Gcs (GcW _ (Gcz _))
  .show p.perturb/32<2^64;exact GcF (Nat.div_le_self _ _) h.Nl
theorem Ff(t:SetTable)(p:SetTable.Probe)(d:Option Nat):(t.advance {p with dummy:=d})={t.advance p with dummy:=d}:=by
 unfold SetTable.advance;dsimp only;split<;>rfl
theorem Aw(t:SetTable)(p:SetTable.Probe):{t.advance p with dummy:=p.dummy}=t.advance p:=by
 unfold SetTable.advance;dsimp only;split<;>rfl
theorem rM{t:SetTable}{hashAt:Nat->Int}{h:Int}{e:Nat}(he:t.slot e= .empty):∀(fuel n:Nat) (p:SetTable.Probe),1<=n->p.more<=9->(gU t.mask n (p.i,p.perturb)).1=e->p.more+10*(n -1)+1<fuel->(SetTable.probe.go t hashAt h fuel p).isSome=true
 |0,n,p,_,_,_,hf=>by lia
 |fuel+1,n,p,hn,hm,hl,hf=>by
  have rec_:∀d:Option Nat,(SetTable.probe.go t hashAt h fuel {t.advance p with dummy:=d}).isSome=true:=λd=>by
   by_cases c:p.more>0
   .have ea:t.advance p={p with j:=p.j+1,more:=p.more -1}:=by
     unfold SetTable.advance;rw[Gah c]
    rw[ea];exact rM he fuel n _ hn (by show p.more -1<=9;lia) hl (by show p.more -1+10*(n -1)+1<fuel;lia)
   .have ea:t.advance p={p with j:=(SetTable.leap t.mask p.i p.perturb).1,more:=SetTable.runEnd t.mask (SetTable.leap t.mask p.i p.perturb).1 -(SetTable.leap t.mask p.i p.perturb).1,i:=(SetTable.leap t.mask p.i p.perturb).1,perturb:=(SetTable.leap t.mask p.i p.perturb).2}:=by
     unfold SetTable.advance;rw[Gag c]
    rw[ea];have hr:=pf t.mask (SetTable.leap t.mask p.i p.perturb).1;by_cases c1:n=1
    .subst c1;have hj:(SetTable.leap t.mask p.i p.perturb).1=e:=hl;cases fuel with
     |zero=>lia
     |succ fuel=>
      unfold SetTable.probe.go;dsimp only;rw[hj,he]
      rfl
    .obtain⟨n',rfl⟩:∃n',n=n' +1:=⟨n -1,by lia⟩
     refine rM he fuel n' _ (by lia) hr hl ?_;show SetTable.runEnd t.mask (SetTable.leap t.mask p.i p.perturb).1 -(SetTable.leap t.mask p.i p.perturb).1+10*(n' -1)+1<fuel;lia
  unfold SetTable.probe.go;cases q:t.slot p.j with
  |empty=>rfl
  |dummy=>
   dsimp only;rw[Ff];exact rec_ _
  |live i=>
   dsimp only;split
   .rfl
   .have:=rec_ p.dummy;rw[Aw] at this;exact this
theorem Cc{t:SetTable}{hashAt:Nat->Int}{h:Int}{e:Nat}{p:SetTable.Probe}(hc:cZ t.mask=true)(hp:POk t p)(he:t.slot e= .empty)(zU:e<=t.mask):(t.probe hashAt h p).isSome=true:=by
 obtain⟨n,h1,h2,h3⟩:=uH hc hp.i hp.Nl zU;unfold SetTable.probe SetTable.turns;exact rM he _ n p h1 hp.more h3 (by have:=hp.more;lia)
theorem rN{mask:Nat}{owner:Array (Option Nat)}{e:Nat}(he:owner[e]? =some none):∀(fuel n i p:Nat),n<fuel->(gU mask n (i,p)).1=e->∃j,SetTable.layClean.free mask owner fuel i p=some j/\owner[j]? =some none
 |0,n,i,p,hf,_=>by lia
 |fuel+1,n,i,p,hf,hl=>by
  unfold SetTable.layClean.free;cases q:(List.range (SetTable.runEnd mask i+1 -i)).find? λk=>(owner.getD (i+k) (some 0)).isNone with
  |some k=>
   refine⟨i+k,rfl, ?_⟩;have h1:(owner.getD (i+k) (some 0)).isNone=true:=by simpa using List.find?_some q
   rw[Gbg] at h1;cases z:owner[i+k]? with
   |none=>rw[z] at h1;simp at h1
   |some o=>
    rw[z] at h1;simp at h1;rw[h1]
  |none=>
   dsimp only;cases n with
   |zero=>
    exfalso;have hi:i=e:=hl;have:=GbX.mp q 0 (GaX.mpr (by unfold SetTable.runEnd;split<;>lia));rw[Nat.add_zero,hi,Gbg,he] at this;simp at this
   |succ n=>exact rN he fuel n _ _ (by lia) hl
theorem Fg{mask:Nat}{owner:Array (Option Nat)}{e:Nat}{h:Int}(hc:cZ mask=true)(he:owner[e]? =some none)(zU:e<=mask):∃j,SetTable.layClean.free mask owner (SetTable.turns mask) (SetTable.bits h%(mask+1)) (SetTable.bits h)=some j/\owner[j]? =some none:=by
 have hp:SetTable.bits h<2^64:=by
  unfold SetTable.bits;have h1:0<=h%(2^64:Int):=GbQ _ (by decide);have h2:h%(2^64:Int)<2^64:=GbI _ (by decide);lia
 obtain⟨n,h1,h2,h3⟩:=uH (i:=SetTable.bits h%(mask+1)) hc (Gcs (GcW _ (Gcz _))) hp zU;exact rN he _ n _ _ (by unfold SetTable.turns;lia) h3
theorem Dw:∀{l:List (Option Nat)} {j m:Nat},l[j]? =some none->((l.set j (some m)).filterMap id).Perm (m::l.filterMap id)
 |[],j,m,h=>by simp at h
 |x::l,0,m,h=>by
  simp at h;subst h;simp
 |x::l,j+1,m,h=>by
  have h' :l[j]? =some none:=by simpa using h
  have ih:=Dw (m:=m) h';rw[GaK];cases x with
  |none=>simpa using ih
  |some y=>
   show(y::(l.set j (some m)).filterMap id).Perm (m::y::l.filterMap id);exact(List.Perm.cons y ih).trans (List.Perm.swap m y _)
theorem has_none:∀{l:List (Option Nat)},(l.filterMap id).length<l.length->∃e:Nat,l[e]? =some none
 |[],h=>by simp at h
 |none::l,_=> ⟨0,rfl⟩
 |some x::l,h=>by
  have:(l.filterMap id).length<l.length:=by
   simp at h
   simpa using h
  obtain⟨e,he⟩:=has_none this;exact⟨e+1,by simpa using he⟩
structure Laid(mask m:Nat)(owner:Array (Option Nat)):Prop where
 size:owner.size=mask+1
 occ:(owner.toList.filterMap id).Perm (List.range m)
theorem Cd(mask:Nat):Laid mask 0 (Array.replicate (mask+1) none):=by
 refine⟨by simp, ?_⟩;have:((Array.replicate (mask+1) (none:Option Nat)).toList.filterMap id)=[]:=by
  rw[Array.toList_replicate,List.filterMap_eq_nil_iff];intro x hx;rw[List.eq_of_mem_replicate hx]
  rfl
 rw[this];exact List.Perm.refl _
theorem Fh(owner:Array (Option Nat)):∀n,n=owner.size->((List.range n).filterMap λj=>(owner.getD j none).map λk=>(j,k)).map (·.2)=owner.toList.filterMap id:=by
 intro n hn;subst hn;have e:owner.toList=(List.range owner.size).map λj=>owner.getD j none:=by
  apply GcK;intro i;rw[Gaw,Gbj];by_cases c:i<owner.size
  .rw[GdP c,GaB c,GbY,Gbg,GaB c]
   rfl
  .rw[GbU (by lia),Gbw (by simp;lia)]
   rfl
 rw[e,List.filterMap_map,List.map_filterMap];congr 1
 funext j
 show Option.map _ (Option.map _ _)=id (owner.getD j none);cases owner.getD j none<;>rfl
inductive Im (h:Heap):Nat->D->Value->Prop where
 |int (n:Nat) (i:Int) (t:Tok):Im h n (.int i) (.int i t)
 |str (n:Nat) (x:Str) (t:Tok):Im h n (.str x) (.str x t)
 |tup {n m:Nat} {a:Addr} {o:Obj} {items:Array Value} {ds:List D} (ho:h.get? a=some o) (hc:o.cls= .type "tuple") (hd:o.data= .seq items m) (hl:ds.length=items.toList.length) (hi:∀(i:Nat) d v,ds[i]? =some d->items.toList[i]? =some v->Im h n d v):Im h (n+1) (.tup ds) (.ref a)
noncomputable def bh(w:World):Nat->D->Int
 |_,.int i=>hashInt i
 |_,.str x=>hashStr w x
 |n+1,.tup ds=>reduceHash (Builtin.Tuple.tupleHashOf (ds.map (bh w n)))
 |_,_=>0
section
variable{prog:Program}{w:World}{A:Around}{E:Value->Shared->Prop}{s:Shared}
def vV(prog:Program)(w:World)(A:Around)(s:Shared)(v:Value)(h:Int):Prop:=∀(tk:Nat) (R:Int->Shared->Prop) (E:Value->Shared->Prop),(∀yu,tk<=yu ->R h {s with toks:=yu })->wpAny (model prog w) A (pyHash v) R E {s with toks:=tk}
theorem rO{n:Nat}:∀{vs:List Value} {ds:List D} (acc:Array Int) (tk:Nat) {Q:Array Int->Shared->Prop},ds.length=vs.length->(∀(i:Nat) d v,ds[i]? =some d->vs[i]? =some v->vV prog w A s v (bh w n d))->(∀yu,tk<=yu ->Q (acc++(ds.map (bh w n)).toArray) {s with toks:=yu })->
  wpAny (model prog w) A (forIn vs acc λx hs=>pyHash x>>=λh=>pure (ForInStep.yield (hs.push h))) Q E {s with toks:=tk}
 |[],[],acc,tk,Q,_,_,h=>Gae (by simpa using h tk (Gaq _))
 |v::vs,d::ds,acc,tk,Q,hl,hi,h=>by
  rw[GdK];refine Gaa (Gaa (hi 0 d v rfl rfl tk _ _ λSn le=>Gae ?_));refine rO (acc.push (bh w n d)) Sn (by simpa using hl) (λi d v e1 e2=>hi (i+1) d v e1 e2) λTp Rc=> ?_;have:=h Tp (Gbf le Rc)
  simpa using this
variable{n:Nat}
theorem Ce{a:Addr}{o:Obj}{items:Array Value}{m:Nat}{ds:List D}(hu:A.units<cLine)(ho:s.heap.get? a=some o)(hc:o.cls= .type "tuple")(hd:o.data= .seq items m)(hl:ds.length=items.toList.length)
  (hi:∀(i:Nat) d v,ds[i]? =some d->items.toList[i]? =some v->vV prog w A.in1 s v (bh w n d)):vV prog w A s (.ref a) (bh w (n+1) (.tup ds)):=by
 intro tk Q E h;have hT:({s with toks:=tk}:Shared).TypeIs (.ref a) "tuple":=⟨o,ho,hc⟩
 have nn:(some (Value.builtin "tuple.__hash__")==some Value.none)=false:=beq_builtin_none _;unfold pyHash
 wp_walk using wpAny_cRoomFor_or (.inr hu),GdN hT Gdu.lookup,wpAny_callSpecialIfBoundUnlessNone?_slot hT Gdu,Gbo Gdu hT F.entry_tuple_hash (ha:=F.args_tuple_hash_1 _),wpAny_tupleItemsOf ho hd
 rw[hd];refine Gae (Gae (Gaa ?_));rw[<-Array.forIn_toList];refine rO #[] tk hl hi λSn le=>wpAny_ret_mkInt ?_;rw[show(#[]++(ds.map (bh w n)).toArray:Array Int).toList=ds.map (bh w n) by simp];have q:∀t,tk<=t->Q (reduceHash (Builtin.Tuple.tupleHashOf (ds.map (bh w n)))) {s with toks:=t}:=h;unfold reduceHash at q;have Rc:=Nat.le_succ_of_le le;refine Gdc (λc=>Gae ?_) (λc=>Gaa (wpAny_rule (Gae ?_)))
 .rw[Gah c] at q
  first|exact q _ Rc|exact q _ le
 .rw[Gag c] at q
  first|exact q _ Rc|exact q _ le
theorem Kb{d:D}{v:Value}(p:Im s.heap n d v):∀{A:Around},A.units+n<cLine->vV prog w A s v (bh w n d):=by
 induction p with
 |int n i t=>
  intro A hu tk R E h;have e:bh w n (.int i)=(dh prog w).hash (.inl i):=by cases n<;>rfl
  rw[e] at h;exact(dh prog w).pyHash (k:= .inl i) (pJ prog w i t) (h _ (by first|exact Gaq _|exact Gck _))
 |str n x t=>
  intro A hu tk R E h;have e:bh w n (.str x)=(dh prog w).hash (.inr x):=by cases n<;>rfl
  rw[e] at h;exact(dh prog w).pyHash (k:= .inr x) (pK prog w x t) (h _ (by first|exact Gaq _|exact Gck _))
 | @tup n _ _ _ _ _ ho hc hd hl hi ih=>exactλhu=>Ce (by lia) ho hc hd hl λi d v e1 e2=>ih i d v e1 e2 (by rename_i A;show A.units+1+n<cLine;lia)
end
section
variable{prog:Program}{w:World}{A:Around}{E:Value->Shared->Prop}{s:Shared}
variable{items:Array Value}
theorem ph{β:Type}{body:Value->β->Sem (ForInStep β)}{b0:β}{Q:β->Shared->Prop}(step:∀v∈items.toList,∀P:ForInStep β->Shared->Prop,P (.yield b0) s->(∀b,Q b s->P (.done b) s)->wpAny (model prog w) A (body v b0) P E s)(fin:Q b0 s):wpAny (model prog w) A (forIn items b0 body) Q E s:=by
 rw[<-Array.forIn_toList]
 suffices∀l:List Value,(∀v∈l,v∈items.toList)->wpAny (model prog w) A (forIn l b0 body) Q E s from this _ λ_ q=>q
 intro l;induction l with
 |nil=>exactλ_=>Gae fin
 |cons v l ih=>
  intro all;rw[GdK];exact Gaa (step v (all v Gaf) _ (ih λx m=>all x (Gac _ m)) λb q=>Gae q)
theorem Im.item{n:Nat}{ds:List D}(hl:ds.length=items.toList.length)(hi:∀(i:Nat) d v,ds[i]? =some d->items.toList[i]? =some v->Im s.heap n d v){v:Value}(m:v∈items.toList):∃d,Im s.heap n d v:=by
 obtain⟨i,h⟩:=List.mem_iff_getElem?.mp m;have lt:i<ds.length:=by rw[hl];exact(Gam.mp h).1
 exact⟨_,hi i ds[i] v (Gad lt) h⟩
theorem rP:∀(n:Nat) {k:Nat} {d:D} {v:Value} {E:Value->Shared->Prop} {Q:Bool->Shared->Prop},Im s.heap n d v->n<=k->Q true s->wpAny (model prog w) A (eqIsQuiet k v) Q E s
 |_,_,_,_,_,_,.int ..,_,h=>by rw[eqIsQuiet_byValue _ rfl];exact Gae h
 |_,_,_,_,_,_,.str ..,_,h=>by rw[eqIsQuiet_byValue _ rfl];exact Gae h
 |n+1,k+1,_,.ref a,_,_,.tup ho hc hd hl hi,hk,h=>by
  have hT:s.TypeIs (.ref a) "tuple":=⟨_,ho,hc⟩
  unfold eqIsQuiet;apply Gaa;apply GdN hT F.slot_tuple_eq.lookup;refine Gaa (wpAny_isInstance hT isSubtype_tuple_tuple (Gcb rfl (Gaa (Gcv ho hd (Gaa (ph (λv m P yes _=> ?_) ?_))))))
  .obtain⟨d,im⟩:=Im.item hl hi m;exact Gaa (rP n im (by lia) (Gcb rfl (Gae yes)))
  .exact Gae h
theorem rQ:∀(n:Nat) {k:Nat} {d:D} {v:Value} {E:Value->Shared->Prop} {Q:Bool->Shared->Prop},Im s.heap n d v->n<=k->Q false s->wpAny (model prog w) A (ofAClassStatement k v) Q E s
 |_,_,_,_,_,_,.int ..,_,h=>by unfold ofAClassStatement;exact Gae h
 |_,_,_,_,_,_,.str ..,_,h=>by unfold ofAClassStatement;exact Gae h
 |n+1,k+1,_,.ref a,_,_,.tup ho hc hd hl hi,hk,h=>by
  have hT:s.TypeIs (.ref a) "tuple":=⟨_,ho,hc⟩
  unfold ofAClassStatement;refine Gaa (GdJ hT (wpAny_ite_true rfl (Gaa (Gae (Gcb rfl (Gaa (Gcv ho hd (Gaa (ph (λv m P yes _=> ?_) ?_)))))))))
  .obtain⟨d,im⟩:=Im.item hl hi m;exact Gaa (rQ n im (by lia) (Gcb rfl (Gae yes)))
  .exact Gae h
theorem HA:∀(n:Nat) {k:Nat} {d:D} {v:Value} {E:Value->Shared->Prop} {Q:Bool->Shared->Prop},Im s.heap n d v->n<=k->(∀b,Q b s)->wpAny (model prog w) A (hashByValue k v) Q E s
 |_,k,_,_,_,_,.int ..,_,h=>by cases k<;>exact Gae (h _)
 |_,k,_,_,_,_,.str ..,_,h=>by cases k<;>exact Gae (h _)
 |n+1,k+1,_,.ref a,_,_,.tup ho hc hd hl hi,hk,h=>by
  have hT:s.TypeIs (.ref a) "tuple":=⟨_,ho,hc⟩
  unfold hashByValue;apply Gaa;apply GdN hT Gdu.lookup;refine Gaa (Gcv ho hd (Gaa (ph (λv m P yes no=> ?_) ?_)))
  .obtain⟨d,im⟩:=Im.item hl hi m;refine Gaa (HA n im (by lia) λb=> ?_);cases b
   .exact wpAny_ite_true rfl (Gae (no _ (Gae (h _))))
   .exact Gcb rfl (Gae yes)
  .exact Gae (h _)
end
section
variable{s:Shared}
theorem HB(n:Nat):∀{d:D} {v:Value},Im s.heap n d v->aD n d=true:=by
 induction n with
 |zero=>
  intro d v im;cases im<;>rfl
 |succ n ih=>
  intro d v im;cases im with
  |int _ i t=>rfl
  |str _ x t=>rfl
  | @tup _ m a o items ds ho hc hd hl hi=>
   show ds.all (aD n)=true;rw[Gap];intro d hdm;obtain⟨i,Uj,rfl⟩:=GbS hdm;exact ih (hi i ds[i] items.toList[i] (Gad Uj) (Gad (by lia)))
theorem rR(n:Nat):∀{d e:D} {v:Value},Im s.heap n d v->Im s.heap n e v->d=e:=by
 induction n with
 |zero=>
  intro d e v i1 i2;cases i1<;>cases i2<;>rfl
 |succ n ih=>
  intro d e v i1 i2;cases i1 with
  |int _ i t=>cases i2;rfl
  |str _ x t=>cases i2;rfl
  | @tup _ m a o items ds ho hc hd hl hi=>
   cases i2 with
   | @tup _ m' _ o' items' xG xo yD xx hl' xa =>
    rw[ho] at xo;cases xo;rw[hd] at xx;cases xx;congr 1;apply GcV (by lia);intro i h1 h2;exact ih (hi i _ items.toList[i] (Gad h1) (Gad (by lia))) (xa i _ _ (Gad h2) (Gad (by lia)))
theorem Pl(n:Nat):∀{dx dy:D} {v u:Value} {A:Around},Im s.heap n dx v->Im s.heap n dy u->A.units+n<cLine->SeqAt.EqAt A s v u (eqD dx dy):=by
 have flat:∀{x y:V} {v u:Value} {A:Around} {b:Bool},RelV x v->RelV y u->u7 x=true->u7 y=true->b=eqV x y->SeqAt.EqAt A s v u b:=by
  intro x y v u A b rv ru fx fy e;rw[e];exact Gw rv ru fx fy
 induction n with
 |zero=>
  intro dx dy v u A i1 i2 hu;cases i1 with
  |int _ i t=>
   cases i2 with
   |int _ j t' =>exact flat (x:= .int i) (y:= .int j) ⟨t,rfl⟩ ⟨t',rfl⟩ rfl rfl rfl
   |str _ y t' =>exact flat (x:= .int i) (y:= .str y) ⟨t,rfl⟩ ⟨t',rfl⟩ rfl rfl rfl
  |str _ x t=>
   cases i2 with
   |int _ j t' =>exact flat (x:= .str x) (y:= .int j) ⟨t,rfl⟩ ⟨t',rfl⟩ rfl rfl rfl
   |str _ y t' =>exact flat (x:= .str x) (y:= .str y) ⟨t,rfl⟩ ⟨t',rfl⟩ rfl rfl rfl
 |succ n ih=>
  intro dx dy v u A i1 i2 hu;have hu0:A.units<cLine:=by lia
  cases i1 with
  |int _ i t=>
   cases i2 with
   |int _ j t' =>exact flat (x:= .int i) (y:= .int j) ⟨t,rfl⟩ ⟨t',rfl⟩ rfl rfl rfl
   |str _ y t' =>exact flat (x:= .int i) (y:= .str y) ⟨t,rfl⟩ ⟨t',rfl⟩ rfl rfl rfl
   |tup ho hc hd hl hi=>exact SeqAt.EqAt.int_tuple i t ⟨_,ho,hc,_,hd⟩ hu0
  |str _ x t=>
   cases i2 with
   |int _ j t' =>exact flat (x:= .str x) (y:= .int j) ⟨t,rfl⟩ ⟨t',rfl⟩ rfl rfl rfl
   |str _ y t' =>exact flat (x:= .str x) (y:= .str y) ⟨t,rfl⟩ ⟨t',rfl⟩ rfl rfl rfl
   |tup ho hc hd hl hi=>exact SeqAt.EqAt.str_tuple x t ⟨_,ho,hc,_,hd⟩ hu0
  | @tup _ m a o items ds ho hc hd hl hi=>
   have ht:IsTup s.heap a items:=⟨_,ho,hc,_,hd⟩
   have i1' :Im s.heap (n+1) (.tup ds) (.ref a):= .tup ho hc hd hl hi;cases i2 with
   |int _ j t' =>exact SeqAt.EqAt.tuple_int j t' ht hu0
   |str _ y t' =>exact SeqAt.EqAt.tuple_str y t' ht hu0
   | @tup _ m' b o' items' xG xo yD xx hl' xa =>
    have i2' :Im s.heap (n+1) (.tup xG) (.ref b):= .tup xo yD xx hl' xa;by_cases hab:a=b
    .subst hab;have:=rR (n+1) i1' i2';rw[<-this,r9 _ _ (HB _ i1')];exact SeqAt.EqAt.same _
    .have xj:IsTup s.heap b items' :=⟨_,xo,yD,_,xx⟩
     have xk:items.size=ds.length:=by rw[hl];simp
     have xi:items'.size=xG.length:=by rw[hl'];simp
     have key:=SeqAt.RcAt.tuples (e:=λj=>eqD (ds.getD j .non) (xG.getD j .non)) ht xj hu0 λj h1 h2=>by
      have e1:ds.getD j .non=ds[j]'(by lia):=by rw[GcY,Gad (by lia)];rfl
      have e2:xG.getD j .non=xG[j]'(by lia):=by rw[GcY,Gad (by lia)];rfl
      rw[e1,e2];exact ih (hi j _ _ (Gad (by lia)) (by rw[Gbj];exact GaB h1)) (xa j _ _ (Gad (by lia)) (by rw[Gbj];exact GaB h2)) (in1_units hu)
     refine SeqAt.EqAt.of_refs hab ?_;show SeqAt.RcAt A s (.ref a) (.ref b) (kx ds xG);rw[xk,xi] at key;by_cases hll:ds.length=xG.length
     .rw[<-hll,Nat.min_self,fj hll] at key
      simpa using key
     .rw[iF hll];have:(ds.length==xG.length)=false:=by simpa using hll
      rw[this,Gcf] at key;exact key
end
noncomputable def aY(t:SetTable):Nat->SetTable.Probe->SetTable.Probe
 |0,p=>p
 |n+1,p=>aY t n (t.advance p)
theorem jt(t:SetTable):∀(m n:Nat) (p:SetTable.Probe),aY t (m+n) p=aY t n (aY t m p)
 |0,n,p=>by rw[GaS];rfl
 |m+1,n,p=>by
  rw[Nat.succ_add];exact jt t m n _
theorem ju(t:SetTable)(n:Nat)(p:SetTable.Probe):aY t (n+1) p=t.advance (aY t n p):=jt t n 1 p
structure TOk(t:SetTable)(n:Nat):Prop where
 cov:cZ t.mask=true
 odd:t.mask%2=1
 dum:t.dummies=#[]
 size:t.place.size=n
 few:n<=t.mask
theorem jR{t:SetTable}(h:t.dummies=#[])(j:Nat):t.slot j= .empty\/∃i,t.slot j= .live i/\t.place[i]? =some j:=by
 unfold SetTable.slot;dsimp only;split
 .rename_i c;exact .inr ⟨_,rfl,by simpa using c⟩
 .rw[h]
  left
  have:SetTable.has #[] j=false:=by
   unfold SetTable.has;simp
  rw[this];simp
theorem Dx:∀(N:Nat) (l:List Nat),l.length<N->∃e,e<N/\e∉l
 |0,l,h=>by lia
 |N+1,l,h=>by
  by_cases c:N∈l
  .obtain⟨e,he,hn⟩:=Dx N (l.erase N) (by rw[List.length_erase_of_mem c];have:=List.length_pos_of_mem c;lia);refine⟨e,by lia,λz=>hn ?_⟩;exact(List.mem_erase_of_ne (by lia)).mpr z
  .exact⟨N,by lia,c⟩
variable{n:Nat}
theorem TOk.hole{t:SetTable}(h:TOk t n):∃e,e<=t.mask/\t.slot e= .empty:=by
 obtain⟨e,he,hn⟩:=Dx (t.mask+1) t.place.toList (by rw[GaN,h.size];have:=h.few;lia);refine⟨e,by lia, ?_⟩;rcases jR h.dum e with q| ⟨i,_,hp⟩
 .exact q
 .exfalso;apply hn;have:t.place.toList[i]? =some e:=by rw[Gbj];exact hp
  exact GaE this
theorem j3{t:SetTable}{hashAt:Nat->Int}{h:Int}(hd:t.dummies=#[]):∀(fuel:Nat) (p:SetTable.Probe) (met:SetTable.Met),p.dummy=none->SetTable.probe.go t hashAt h fuel p=some met->
  ∃m,m<fuel/\(∀m',m' <m->∃i,t.slot (aY t m' p).j= .live i/\hashAt i≠h)/\((met= .empty (aY t m p).j none/\t.slot (aY t m p).j= .empty)\/∃i,met= .candidate (aY t m p).j i (t.advance (aY t m p))/\t.slot (aY t m p).j= .live i/\hashAt i=h)
 |0,p,met,_,e=>by cases e
 |fuel+1,p,met,hp,e=>by
  unfold SetTable.probe.go at e;rcases jR hd p.j with q| ⟨i,q,_⟩
  .rw[q] at e;cases e;exact⟨0,by lia,λm' h=>by lia,.inl ⟨by rw[hp];rfl,q⟩⟩
  .rw[q] at e;dsimp only at e;split at e
   .rename_i c;cases e;exact⟨0,by lia,λm' h=>by lia,.inr ⟨i,rfl,q,by simpa using c⟩⟩
   .rename_i c;have xM:hashAt i≠h:=by simpa using c
    have xP :(t.advance p).dummy=none:=by
     have:=Aw t p;unfold SetTable.advance;split<;>exact hp
    obtain⟨m,h0,h1,h2⟩:=j3 hd fuel (t.advance p) met xP e;refine⟨m+1,by lia,λm' Rm => ?_,h2⟩;cases m' with
    |zero=>exact⟨i,q,xM⟩
    |succ m' =>exact h1 m' (by lia)
theorem rS{t:SetTable}{hashAt:Nat->Int}{h:Int}{p:SetTable.Probe}(T:TOk t n)(hp:POk t p)(hd:p.dummy=none):∃met m,m<10*SetTable.turns t.mask/\t.probe hashAt h p=some met/\(∀m',m' <m->∃i,t.slot (aY t m' p).j= .live i/\hashAt i≠h)/\
  ((met= .empty (aY t m p).j none/\t.slot (aY t m p).j= .empty)\/∃i,met= .candidate (aY t m p).j i (t.advance (aY t m p))/\t.slot (aY t m p).j= .live i/\hashAt i=h):=by
 obtain⟨e,he,hs⟩:=T.hole;have hsome:=Cc (hashAt:=hashAt) (h:=h) T.cov hp hs he;obtain⟨met,hm⟩:=Option.isSome_iff_exists.mp hsome;obtain⟨m,h0,h1,h2⟩:=j3 T.dum _ p met hd hm;exact⟨met,m,h0,hm,h1,h2⟩
theorem POk.aY{t:SetTable}{p:SetTable.Probe}(h:POk t p):∀n,POk t (aY t n p)
 |0=>h
 |n+1=>by
  rw[ju];exact(POk.aY h n).adv
theorem HC{t:SetTable}(T:TOk t n)(h:Int):∃K,K<10*SetTable.turns t.mask/\t.slot (aY t K (t.probeStart h)).j= .empty/\∀k,k<K->∃i,t.slot (aY t k (t.probeStart h)).j= .live i:=by
 obtain⟨met,m,h0,_,h1,h2⟩:=rS (hashAt:=λ_=>h+1) (h:=h) (p:=t.probeStart h) T (.start t h) rfl;refine⟨m,h0, ?_,λk hk=> ?_⟩
 .rcases h2 with⟨_,q⟩| ⟨i,_,_,q⟩
  .exact q
  .exfalso;lia
 .obtain⟨i,q,_⟩:=h1 k hk;exact⟨i,q⟩
def HE(t:SetTable)(h:Int)(j:Nat):Prop:=∃k,(aY t k (t.probeStart h)).j=j/\∀k',k' <k->∃i,t.slot (aY t k' (t.probeStart h)).j= .live i
section
variable{prog:Program}{w:World}{A:Around}{E:Value->Shared->Prop}{s:Shared}
theorem Kc{n:Nat}{dx:D}{x:Value}{stored:List Value}{Q:Bool->Shared->Prop}(hx:Im s.heap n dx x)(hs:∀y∈stored,∃d,Im s.heap n d y)(hn:n<=8)(h:Q false s):wpAny (model prog w) A (searchCouldBeSeen x stored) Q E s:=by
 unfold searchCouldBeSeen;refine Gaa ?_;refine wpAny_forIn_list _ (λrest r s' =>r.1=none/\s' =s/\∀y∈rest,y∈stored) _ ?_ ?_ _ _ ⟨rfl,rfl,λy hy=>hy⟩
 .rintro y rest r s' ⟨hr,yi,yG⟩;obtain⟨d,hy⟩:=hs y (yG y Gaf);have more:∀z∈rest,z∈stored:=λz hz=>yG z (Gac _ hz);rw[yi];dsimp only;split
  all_goals
   split
   .exact Gae ⟨rfl,rfl,more⟩
   .refine Gaa (rP n hx hn ?_);simp only[Bool.not_true,Gbb,GbW];refine Gaa (rP n hy hn ?_);simp only[Bool.not_true,Gbb,GbW];refine Gaa (rQ n hx hn ?_);simp only[Gbb,GbW];refine Gaa (rQ n hy hn ?_);simp only[Gbb,GbW];exact Gae ⟨rfl,rfl,more⟩
 .rintro⟨r1,r2⟩ s' ⟨hr,yi,_⟩;simp only at hr;subst hr;rw[yi];exact Gae h
structure nq(w:World)(g:Heap)(n:Nat)(es:Array (Int×Value))(t:SetTable):Prop where
 tok:TOk t es.size
 el:∀(i:Nat) h v,es[i]? =some (h,v)->∃b d,v= .ref b/\Im g n d v/\h=bh w n d
 ris:Ris t.place
 way:∀(i:Nat) h v j,es[i]? =some (h,v)->t.place[i]? =some j->HE t h j
end
section
variable{prog:Program}{w:World}{A:Around}{E:Value->Shared->Prop}{s:Shared}
noncomputable def storedAt(es:Array (Int×Value))(i:Nat):Int:=(es[i]?.map (·.1)).getD 0
theorem Ax(t:SetTable)(h:Int):∀k,(aY t k (t.probeStart h)).dummy=none
 |0=>rfl
 |k+1=>by
  have ih:=Ax t h k;rw[ju];unfold SetTable.advance;split<;>exact ih
def nu(g:Heap)(n:Nat)(es:Array (Int×Value))(dx:D)(i:Nat):Prop:=∀h v d,es[i]? =some (h,v)->Im g n d v->eqD d dx=false
theorem vW{t:SetTable}{i j:Nat}(hr:Ris t.place)(h:t.place[i]? =some j):t.slot j= .live i:=by
 obtain⟨_,b2,b3⟩:=js (j:=j) hr;have e:SetTable.below t.place j=i:=by
  rcases GdW i (SetTable.below t.place j) with z|z|z
  .exact absurd (b2 i j z h) (Gbv _)
  .exact z.symm
  .have hi:=(Gbm.mp h).1;have g:t.place[SetTable.below t.place j]? =some (t.place[SetTable.below t.place j]'(by lia)):=GaB (by lia);have h1:=b3 _ _ (Gaq _) g;have h2:=hr _ _ z _ _ g h;lia
 unfold SetTable.slot;dsimp only;rw[e,h];simp
theorem Dy(n:Nat):∀{d e:D} {v u:Value},Im s.heap n d v->Im s.heap n e u->eqD d e=true->d=e:=by
 induction n with
 |zero=>
  intro d e v u i1 i2 h;cases i1<;>cases i2<;>simp at h<;>simp[h]
 |succ n ih=>
  intro d e v u i1 i2 h;cases i1 with
  |int _ i t=>cases i2<;>simp at h<;>simp[h]
  |str _ x t=>cases i2<;>simp at h<;>simp[h]
  | @tup _ m a o items ds ho hc hd hl hi=>
   cases i2 with
   |int _ i t=>simp at h
   |str _ x t=>simp at h
   | @tup _ m' b o' items' xG xo yD xx hl' xa =>
    have h' :kx ds xG =true:=by simpa using h
    have hll:ds.length=xG.length:=by
     rcases Nat.decEq ds.length xG.length with z|z
     .rw[iF z] at h';cases h'
     .exact z
    rw[<-fj hll] at h';congr 1;refine GcV hll λi h1 h2=> ?_;have:=Gap.mp h' i (GaX.mpr h1);have e1:ds.getD i .non=ds[i]:=by simp[h1]
    have e2:xG.getD i .non=xG[i]:=by simp[h2]
    rw[e1,e2] at this;exact ih (hi i _ items.toList[i] (Gad h1) (Gad (by lia))) (xa i _ items'.toList[i] (Gad h2) (Gad (by lia))) this
variable{dx:D}{n:Nat}{es:Array (Int×Value)}
theorem Cf{t:SetTable}{x:Value}(X:nq w s.heap n es t)(hx:Im s.heap n dx x){k:Nat}(hk:t.slot (aY t k (t.probeStart (bh w n dx))).j= .empty)
  (past:∀k',k' <k->∃i,t.slot (aY t k' (t.probeStart (bh w n dx))).j= .live i/\nu s.heap n es dx i)(i:Nat):nu s.heap n es dx i:=by
 intro h v d he im;cases hq:eqD d dx with
 |false=>rfl
 |true=>
  exfalso;have ed:=Dy n im hx hq;subst ed;have hi:i<t.place.size:=by
   rw[X.tok.size];exact(Gbm.mp he).1
  have hp:t.place[i]? =some t.place[i]:=GaB hi;obtain⟨b,d',hv,yK,hh⟩:=X.el i h v he;have:=rR n im yK;subst this;subst hh;obtain⟨k2,e2,before⟩:=X.way i _ v _ he hp;have sl:=vW X.ris hp;rcases GdW k2 k with z|z|z
  .obtain⟨i',q,un⟩:=past k2 z;rw[e2,sl] at q;cases q;have:=un _ v d he im;rw[this] at hq;cases hq
  .subst z;rw[e2,sl] at hk;cases hk
  .obtain⟨i',q⟩:=before k z;rw[hk] at q;cases q
theorem Ay{a:Addr}{o:Obj}{ep:Nat}{t:SetTable}{b:Addr}{R:SetFound->Shared->Prop}(ho:s.heap.get? a=some o)(hd:o.data= .set es ep t)(hf:t.fits es.size=true)(X:nq w s.heap n es t)(hx:Im s.heap n dx (.ref b))(hn:n<=8)(hu:A.units+n<cLine)
  {K:Nat}(hK:t.slot (aY t K (t.probeStart (bh w n dx))).j= .empty)
  (h1:(∃i,¬nu s.heap n es dx i)->R (.there none) s)
  (h2:∀k,t.slot (aY t k (t.probeStart (bh w n dx))).j= .empty->(∀k',k' <k->∃i,t.slot (aY t k' (t.probeStart (bh w n dx))).j= .live i)->(∀i,nu s.heap n es dx i)->R (.free (aY t k (t.probeStart (bh w n dx))).j false) s):
  ∀(fuel k:Nat) (yn:Option SetTable.Probe),yn.getD (t.probeStart (bh w n dx))=aY t k (t.probeStart (bh w n dx))->K -k<fuel->(∀k',k' <k->∃i,t.slot (aY t k' (t.probeStart (bh w n dx))).j= .live i/\nu s.heap n es dx i)->
   wpAny (model prog w) A (setSearchFrom a (.ref b) (bh w n dx) true fuel yn) R E s:=by
 have hK' :=hK;have na:=λk=>Cf (k:=k) X hx;generalize hhe:bh w n dx=hh at*;intro fuel;induction fuel with
 |zero=>intro k yn _ hX;lia
 |succ fuel ih=>
  intro k yn yh hX past;have hkK:k<=K:=by
   rcases Gbh K k with z|z
   .obtain⟨i,q,_⟩:=past K z;rw[hK] at q;cases q
   .exact z
  unfold setSearchFrom;refine Gaa (GaR ho hd hf ?_);dsimp only;have gw:t.gaveWay=false:=by
   unfold SetTable.gaveWay;rw[X.tok.odd]
   rfl
  rw[gw];simp only[Gbb,GbW];rw[yh];have pk:POk t (aY t k (t.probeStart hh)):=(POk.start t _).aY k;obtain⟨met,m,_,hm,p1,p2⟩:=rS (hashAt:=storedAt es) (h:=hh) X.tok pk (Ax t hh k)
  erw[hm]
  rw[<-jt] at p2;have past2:∀k',k' <k+m->∃i,t.slot (aY t k' (t.probeStart hh)).j= .live i/\nu s.heap n es dx i:=λk' xE =>by
   rcases Gbh k' k with z|z
   .exact past k' z
   .obtain⟨i,q,xM⟩:=p1 (k' -k) (by lia);rw[<-jt,show k+(k' -k)=k' by lia] at q;refine⟨i,q,λh v d he im=> ?_⟩;cases hq:eqD d dx with
    |false=>rfl
    |true=>
     exfalso;have ed:=Dy n im hx hq;subst ed;obtain⟨b',d',hv,yK,SY⟩:=X.el i h v he;have:=rR n im yK;subst this;apply xM;unfold storedAt;rw[he,<-hhe,<-SY]
     rfl
  rcases p2 with⟨rfl,q⟩| ⟨i,rfl,q,hi⟩
  .dsimp only;exact Gae (h2 _ q (λk' z=>let⟨i,q,_⟩:=past2 k' z;⟨i,q⟩) (na _ q past2))
  .have hj:t.place[i]? =some (aY t (k+m) (t.probeStart hh)).j:=by
    rcases jR X.tok.dum (aY t (k+m) (t.probeStart hh)).j with z| ⟨i',z,hp⟩
    .rw[q] at z;cases z
    .rw[q] at z;cases z;exact hp
   have hlt2:i<es.size:=by
    have:=(Gbm.mp hj).1;rw[X.tok.size] at this;exact this
   have hes:es[i]? =some (es[i].1,es[i].2):=GaB hlt2;obtain⟨c,d,hv,im,SY⟩:=X.el i _ _ hes;have hkm:k+m<K:=by
    rcases GdW (k+m) K with z|z|z
    .exact z
    .rw[z,hK] at q;cases q
    .obtain⟨i',q',_⟩:=past2 K z;rw[hK] at q';cases q'
   have sm:t.sameMemory t.moves t.mask=some true:=by
    unfold SetTable.sameMemory;simp
   have nx:t.advance (aY t (k+m) (t.probeStart hh))=aY t (k+m+1) (t.probeStart hh):=(ju t _ _).symm;have hseen:∀y∈((es.filter (·.1==hh)).toList.map (·.2)),∃d,Im s.heap n d y:=λy hy=>by
    obtain⟨e,he,rfl⟩:=Gat.mp hy;have zV :e∈es:=(Array.mem_filter.mp (GdI.mp he)).1;obtain⟨i',xa,rfl⟩:=Array.getElem_of_mem zV;obtain⟨_,d',_,yK,_⟩:=X.el i' es[i'].1 es[i'].2 (GaB xa);exact⟨d',yK⟩
   dsimp only;rw[hes,nx];rw[hv] at im;dsimp only;rw[hv];refine Gdc (λ_=>Gaa (Kc hx hseen hn ?_)) (λ_=> ?_)
   all_goals
    try simp only[Gbb,GbW]
    refine Gaa (GbJ (Pl n im hx hu prog w _ _ ?_));refine Gaa (GaR ho hd hf ?_);dsimp only;cases hq:eqD d dx with
    |true=>
     simp only[Bool.and_self,GbK];refine Gae (h1 ⟨i,λz=> ?_⟩);have:=z _ _ d hes (by rw[hv];exact im);rw[hq] at this;cases this
    |false=>
     simp only[Gcf,Gbb,GbW];rw[sm];simp only[GbK];rw[q];dsimp only;rw[hes];dsimp only;rw[hv];refine Gaa (wpAny_isSame_ref_self (Gaa (Gae ?_)));simp only[GbK];refine ih (k+m+1) _ rfl (by lia) λk' xE => ?_;rcases Gbh k' (k+m) with z|z
     .exact past2 k' z
     .refine⟨i,by rw[show k' =k+m by lia];exact q,λh v d' he yK => ?_⟩;rw[hes] at he;cases he;rw[hv] at yK;have:=rR n im yK;rw[<-this];exact hq
end
theorem lY{t u:SetTable}(h:t.mask=u.mask):∀(n:Nat) (p:SetTable.Probe),aY t n p=aY u n p
 |0,p=>rfl
 |n+1,p=>by
  have e:t.advance p=u.advance p:=by
   unfold SetTable.advance;rw[h]
  show aY t n (t.advance p)=aY u n (u.advance p);rw[e];exact lY h n _
theorem nv{t u:SetTable}(h:t.mask=u.mask)(x:Int):t.probeStart x=u.probeStart x:=by
 unfold SetTable.probeStart;rw[h]
variable{j:Nat}{h:Int}
theorem Az{t u:SetTable}(hm:t.mask=u.mask)(hk:∀j i,t.slot j= .live i->∃i',u.slot j= .live i')(x:HE t h j):HE u h j:=by
 obtain⟨k,e,b⟩:=x;refine⟨k,by rw[<-lY hm,<-nv hm];exact e,λk' xE => ?_⟩;obtain⟨i,q⟩:=b k' xE;rw[<-lY hm,<-nv hm];exact hk _ _ q
variable{p i:Nat}
theorem lZ{α:Type}{xs:Array α}{j:α}(hp:p<=xs.size):(SetTable.insertAt xs p j)[i]? =if i<p then xs[i]? else if i=p then some j else xs[i -1]? :=by
 have e:(SetTable.insertAt xs p j)[i]? =(SetTable.insertAt xs p j).toList[i]? :=by simp
 rw[e,GcA];have l1:(xs.toList.take p).length=p:=by simp;lia
 by_cases c:i<p
 .rw[Gah c,Gbu (by rw[l1];exact c),Gcx c];simp
 .rw[Gag c,Gbq (by rw[l1];lia),l1];by_cases c2:i=p
  .rw[Gah c2,c2,Nat.sub_self];rfl
  .rw[Gag c2,show i -p=(i -p -1)+1 by lia,Gdn,Gdj,show p+(i -p -1)=i -1 by lia];simp
theorem ny{α:Type}{xs:Array α}{j:α}(hp:p<=xs.size):(SetTable.insertAt xs p j).size=xs.size+1:=by
 have:(SetTable.insertAt xs p j).size=(SetTable.insertAt xs p j).toList.length:=by simp
 rw[this,GcA];simp;lia
theorem Cg{α:Type}{xs:Array α}{j:α}:(SetTable.insertAt xs p j).toList.Perm (j::xs.toList):=by
 rw[GcA];refine GdC.trans (List.Perm.cons j ?_);rw[List.take_append_drop]
theorem Kd{t:SetTable}(h:t.dummies=#[]):(t.put j).1.dummies=#[]:=by
 unfold SetTable.put;dsimp only;rw[h];have:SetTable.has #[] j=false:=by
  unfold SetTable.has;simp
 rw[this]
 rfl
theorem Ci{t:SetTable}(h:t.slot j= .empty):t.place[SetTable.below t.place j]? ≠some j:=by
 intro e;unfold SetTable.slot at h;dsimp only at h;rw[e] at h;simp at h
theorem MD{t:SetTable}{n:Nat}(T:TOk t n)(hr:Ris t.place)(hj:t.slot j= .empty)(hn:n+1<=t.mask):TOk (t.put j).1 (n+1)/\Ris (t.put j).1.place/\∀j' i,t.slot j' = .live i->∃i',(t.put j).1.slot j' = .live i' :=by
 have bl:=(js (j:=j) hr).1;have Rk :Ris (t.put j).1.place:=C8 hr (Ci hj);refine⟨⟨T.cov,T.odd,Kd T.dum, ?_,hn⟩,Rk,λj' i q=> ?_⟩
 .show(SetTable.insertAt t.place _ j).size=_;rw[ny bl,T.size]
 .rcases jR T.dum j' with z| ⟨i',z,hp⟩
  .rw[q] at z;cases z
  .have xP :(t.put j).1.place[if i' <SetTable.below t.place j then i' else i' +1]? =some j' :=by
    show(SetTable.insertAt t.place _ j)[_]? =_;rw[lZ bl];by_cases c:i' <SetTable.below t.place j
    .rw[Gah c,Gah c];exact hp
    .rw[Gag c,Gag (by lia),Gag (by lia)];exact hp
   exact⟨_,vW Rk xP⟩
section
variable{w:World}
theorem nq.put{g:Heap}{n:Nat}{es:Array (Int×Value)}{t:SetTable}{d:D}{b:Addr}{k:Nat}(X:nq w g n es t)(hx:Im g n d (.ref b))(hk:t.slot (aY t k (t.probeStart (bh w n d))).j= .empty)
  (past:∀k',k' <k->∃i,t.slot (aY t k' (t.probeStart (bh w n d))).j= .live i)(hn:es.size+1<=t.mask):
  nq w g n (SetTable.insertAt es (t.put (aY t k (t.probeStart (bh w n d))).j).2 (bh w n d,.ref b)) (t.put (aY t k (t.probeStart (bh w n d))).j).1:=by
 generalize hj:(aY t k (t.probeStart (bh w n d))).j=j at*;have bl:=(js (j:=j) X.ris).1;have bl2:SetTable.below t.place j<=es.size:=by rw[<-X.tok.size];exact bl
 obtain⟨T,R,keep⟩:=MD X.tok X.ris hk hn;have e2:(t.put j).2=SetTable.below t.place j:=rfl;rw[e2];have wn:HE t (bh w n d) j:=⟨k,hj,past⟩
 refine⟨by rw[ny bl2];exact T,λi h v he=> ?_,R,λi h v j' he hp=> ?_⟩
 .rw[lZ bl2] at he;split at he
  .exact X.el i h v he
  .split at he
   .cases he;exact⟨b,d,rfl,hx,rfl⟩
   .exact X.el (i -1) h v he
 .have xP :(SetTable.insertAt t.place (SetTable.below t.place j) j)[i]? =some j' :=hp;rw[lZ bl] at xP;rw[lZ bl2] at he;refine Az (t:=t) rfl keep ?_;split at he
  .rename_i c;rw[Gah c] at xP;exact X.way i h v j' he xP
  .rename_i c;rw[Gag c] at xP;split at he
   .rename_i c2;rw[Gah c2] at xP;cases he;cases xP;exact wn
   .rename_i c2;rw[Gag c2] at xP;exact X.way (i -1) h v j' he xP
end
noncomputable def T0(mask:Nat):SetTable:={SetTable.fresh 0 0 false with mask:=mask}
theorem o9{t:SetTable}{p:SetTable.Probe}:∀k,k<=p.more->aY t k p={p with j:=p.j+k,more:=p.more -k}
 |0,_=>rfl
 |k+1,h=>by
  rw[ju,o9 k (by lia)];unfold SetTable.advance;dsimp only;rw[Gah (by lia),Nat.sub_sub,Nat.add_assoc]
def Tkn(owner:Array (Option Nat))(j:Nat):Prop:=∃m,owner[j]? =some (some m)
def HF(mask:Nat)(owner:Array (Option Nat))(h:Int)(j:Nat):Prop:=∃k,(aY (T0 mask) k ((T0 mask).probeStart h)).j=j/\∀k',k' <k->Tkn owner (aY (T0 mask) k' ((T0 mask).probeStart h)).j
variable{mask:Nat}
theorem Fi(h:i<=mask):i<=SetTable.runEnd mask i/\SetTable.runEnd mask i<=mask:=by
 unfold SetTable.runEnd;split<;>lia
theorem HG{owner:Array (Option Nat)}(hj:j<owner.size)(h:(owner.getD j (some 0)).isNone=false):Tkn owner j:=by
 rw[Gbg,GaB hj] at h;cases q:owner[j] with
 |none=>simp[q] at h
 |some m=>exact⟨m,by rw[GaB hj,q]⟩
theorem AA{mask:Nat}{owner:Array (Option Nat)}(hs:owner.size=mask+1):∀(fuel i p j:Nat),i<=mask->SetTable.layClean.free mask owner fuel i p=some j->
  ∃k,(aY (T0 mask) k {j:=i,more:=SetTable.runEnd mask i -i,i:=i,perturb:=p,dummy:=none}).j=j/\∀k',k' <k->Tkn owner (aY (T0 mask) k' {j:=i,more:=SetTable.runEnd mask i -i,i:=i,perturb:=p,dummy:=none}).j
 |0,i,p,j,_,e=>by cases e
 |fuel+1,i,p,j,hi,e=>by
  have re:=Fi hi;unfold SetTable.layClean.free at e;cases q:(List.range (SetTable.runEnd mask i+1 -i)).find? λk=>(owner.getD (i+k) (some 0)).isNone with
  |some k=>
   rw[q] at e;cases e;have hk:k<SetTable.runEnd mask i+1 -i:=GaX.mp (List.mem_of_find?_eq_some q);refine⟨k, ?_,λk' xE => ?_⟩
   .rw[o9 k (by show k<=SetTable.runEnd mask i -i;lia)]
   .rw[o9 k' (by show k' <=SetTable.runEnd mask i -i;lia)];show Tkn owner (i+k');have:=(List.find?_range_eq_some.mp q).2.2 k' xE;exact HG (by lia) (by simpa using this)
  |none=>
   rw[q] at e;dsimp only at e;obtain⟨k,h1,h2⟩:=AA hs fuel (SetTable.leap mask i p).1 (SetTable.leap mask i p).2 j (Gcs (GcW _ (Gcz _))) e;have all:∀k',k' <=SetTable.runEnd mask i -i->Tkn owner (i+k'):=λk' xE =>by
    have:=GbX.mp q k' (GaX.mpr (by lia));exact HG (by lia) (Bool.eq_false_iff.mpr this)
   have step:aY (T0 mask) (SetTable.runEnd mask i -i+1) {j:=i,more:=SetTable.runEnd mask i -i,i:=i,perturb:=p,dummy:=none}={j:=(SetTable.leap mask i p).1,more:=SetTable.runEnd mask (SetTable.leap mask i p).1 -(SetTable.leap mask i p).1,i:=(SetTable.leap mask i p).1,perturb:=(SetTable.leap mask i p).2,dummy:=none}:=by
    rw[ju,o9 (SetTable.runEnd mask i -i) (Gaq _)];unfold SetTable.advance;dsimp only;rw[Gag (by lia)]
    rfl
   refine⟨SetTable.runEnd mask i -i+1+k, ?_,λk' xE => ?_⟩
   .rw[jt,step];exact h1
   .rcases Gbh k' (SetTable.runEnd mask i -i+1) with z|z
    .rw[o9 k' (by show k' <=SetTable.runEnd mask i -i;lia)];exact all k' (by lia)
    .have:=h2 (k' -(SetTable.runEnd mask i -i+1)) (by lia);rw[<-step,<-jt,show SetTable.runEnd mask i -i+1+(k' -(SetTable.runEnd mask i -i+1))=k' by lia] at this;exact this
theorem HF.mono{ow Sv :Array (Option Nat)}(x:HF mask ow h j)(k:∀j,Tkn ow j->Tkn Sv j):HF mask Sv h j:=let⟨n,e,b⟩:=x;⟨n,e,λk' xE =>k _ (b k' xE)⟩
def ME(mask:Nat)(all:List Int)(owner:Array (Option Nat)):Prop:=∀(j k:Nat),owner[j]? =some (some k)->∃h,all[k]? =some h/\HF mask owner h j
theorem AB{mask:Nat}(hc:cZ mask=true):∀(hs pre:List Int) (owner:Array (Option Nat)),Laid mask pre.length owner->ME mask (pre++hs) owner->(pre++hs).length<=mask->∃xC,Laid mask (pre++hs).length xC /\ME mask (pre++hs) xC /\
  hs.foldl (λacc h=>do
   let(owner,k)<-acc
   let j<-SetTable.layClean.free mask owner (SetTable.turns mask) (SetTable.bits h%(mask+1)) (SetTable.bits h)
   pure (owner.setIfInBounds j (some k),k+1)) (some (owner,pre.length))=some (xC,(pre++hs).length)
 |[],pre,owner,L,W,_=>by
  rw[GaV] at W⊢;exact⟨owner,L,W,rfl⟩
 |h::hs,pre,owner,L,W,hl=>by
  have hl' :pre.length+(hs.length+1)<=mask:=by simpa using hl
  have lt:(owner.toList.filterMap id).length<owner.toList.length:=by
   have e1:owner.toList.length=mask+1:=by rw[GaN];exact L.size
   rw[L.occ.length_eq,List.length_range,e1];lia
  obtain⟨e,he⟩:=has_none lt;have zV :owner[e]? =some none:=by rw[<-Gbj];exact he
  have zU:e<=mask:=by
   have:=(Gam.mp he).1;rw[GaN,L.size] at this;lia
  obtain⟨j,hj,hn⟩:=Fg (h:=h) hc zV zU;have yC :owner.toList[j]? =some none:=by rw[Gbj];exact hn
  have hjs:j<owner.size:=(Gbm.mp hn).1;have wj:HF mask owner h j:=AA L.size _ _ _ j (Gcs (GcW _ (Gcz _))) hj;have L' :Laid mask (pre++[h]).length (owner.setIfInBounds j (some pre.length)):=by
   refine⟨by simpa using L.size, ?_⟩;rw[Array.toList_setIfInBounds];refine(Dw yC).trans ?_;rw[Gai,GcM,List.range_succ];exact(List.Perm.cons pre.length L.occ).trans (List.perm_append_comm (l₁:=[pre.length]) (l₂:=List.range pre.length))
  have mono:∀x,Tkn owner x->Tkn (owner.setIfInBounds j (some pre.length)) x:=λx ⟨m,hm⟩=>by
   by_cases c:j=x
   .subst c;rw[hn] at hm;cases hm
   .exact⟨m,by rw[GdG c];exact hm⟩
  have W' :ME mask ((pre++[h])++hs) (owner.setIfInBounds j (some pre.length)):=by
   intro x k hx;rw[Gba,List.singleton_append];by_cases c:j=x
   .subst c;rw[Array.getElem?_setIfInBounds_self_of_lt hjs] at hx;cases hx;exact⟨h,by simp,wj.mono mono⟩
   .rw[GdG c] at hx;obtain⟨h',e1,e2⟩:=W x k hx;exact⟨h',e1,e2.mono mono⟩
  obtain⟨xC,L2,W2,e2⟩:=AB hc hs (pre++[h]) _ L' W' (by simpa using hl);rw[Gba,List.singleton_append] at L2 W2 e2;refine⟨xC,L2,W2, ?_⟩;rw[GcG,<-e2];congr 1;show(SetTable.layClean.free mask owner (SetTable.turns mask) (SetTable.bits h%(mask+1)) (SetTable.bits h)).bind _=_;rw[hj,Gai]
  rfl
theorem Fj{finger moves:Nat}{led plain:Bool}{hashes:Array Int}(hc:cZ mask=true)(hl:hashes.size<=mask):∃t order,SetTable.laid mask finger moves led plain hashes=some (t,order)/\order.toList.Perm (List.range hashes.size)/\t.mask=mask/\t.place.size=hashes.size/\t.dummies=#[]/\t.plain=plain/\t.led=led/\Ris t.place/\
  ∀(i k j:Nat),order[i]? =some k->t.place[i]? =some j->∃h,hashes[k]? =some h/\HE t h j:=by
 obtain⟨owner,L,W,e⟩:=AB hc hashes.toList [] (Array.replicate (mask+1) none) (Cd mask) (λj k h=>by
  rw[Array.getElem?_replicate] at h;split at h<;>cases h) (by simpa using hl)
 rw[Gby] at L W e;rw[GaN] at L e;have el:SetTable.layClean mask hashes=some owner:=by
  unfold SetTable.layClean;rw[<-Array.foldl_toList];refine(congrArg (Option.map (λ(x:Array (Option Nat)×Nat)=>x.1)) e).trans rfl
 have r:=Fh owner (mask+1) L.size.symm;unfold SetTable.laid;rw[el];refine⟨_,_,rfl, ?_,rfl, ?_,rfl,rfl,rfl,Ap (g:=λj=>owner.getD j none), ?_⟩
 .rw[List.toList_toArray];exact(by rw[r];exact L.occ:(((List.range (mask+1)).filterMap λj=>(owner.getD j none).map λk=>(j,k)).map (·.2)).Perm (List.range hashes.size))
 .show(((List.range (mask+1)).filterMap λj=>(owner.getD j none).map λk=>(j,k)).map (·.1)).toArray.size=_;rw[Gav,Gab];have:=congrArg List.length r;rw[Gab] at this;rw[this,L.occ.length_eq,List.length_range]
 .intro i k j hk hj;have hris:=Ap (n:=mask+1) (g:=λj=>owner.getD j none);generalize S3:((List.range (mask+1)).filterMap λj=>(owner.getD j none).map λk=>(j,k))=live at*;have xE :(live.map (·.2))[i]? =some k:=by simpa using hk
  have hj' :(live.map (·.1))[i]? =some j:=by simpa using hj
  have hmem:∀x m,(x,m)∈live↔owner[x]? =some (some m):=λx m=>by
   rw[<-S3,Gdf];constructor
   .rintro⟨a,_,h2⟩;cases q:owner.getD a none with
    |none=>rw[q] at h2;cases h2
    |some c=>
     rw[q] at h2;cases h2;rw[Gbg] at q;cases z:owner[x]? with
     |none=>rw[z] at q;cases q
     |some o=>rw[z] at q;rw[<-q];rfl
   .intro h;have hx:=(Gbm.mp h).1;refine⟨x,GaX.mpr (by rw[<-L.size];exact hx), ?_⟩;rw[Gbg,h]
    rfl
  obtain⟨q,hq,rfl⟩:∃q,live[i]? =some q/\q.1=j:=by
   rw[Gaw] at hj';exact Gas.mp hj'
  have yM:q.2=k:=by
   rw[Gaw,hq] at xE;exact Option.some.inj xE
  have ho:=(hmem q.1 q.2).mp (GaE hq);rw[yM] at ho;obtain⟨h,e1,k0,e2,b⟩:=W _ _ ho;have am:∀u:SetTable,u.mask=mask->∀n,aY u n (u.probeStart h)=aY (T0 mask) n ((T0 mask).probeStart h):=λu hu n=>by rw[lY (t:=u) (u:=T0 mask) hu,nv (t:=u) (u:=T0 mask) hu]
  refine⟨h,by rw[<-Gbj];exact e1,k0, ?_,λk' xE => ?_⟩
  .rw[<-e2];exact congrArg (λz:SetTable.Probe=>z.j) (am {mask:=mask,place:=_,dummies:=#[],finger:=finger,led:=led,moves:=moves,plain:=plain} rfl k0)
  .obtain⟨m,hm⟩:=b k' xE;obtain⟨i',xa,e'⟩:=GbS ((hmem _ _).mpr hm);rw[am _ rfl];refine⟨i',vW hris ?_⟩;show((live.map (·.1)).toArray)[i']? =_;simp[xa,e']
variable{n:Nat}{g:Heap}
theorem Im.mono{g' :Heap}(hk:∀b o,g.get? b=some o->g'.get? b=some o){d:D}{v:Value}(p:Im g n d v):Im g' n d v:=by
 induction p with
 |int n i t=>exact .int n i t
 |str n x t=>exact .str n x t
 |tup ho hc hd hl hi ih=>exact .tup (hk _ _ ho) hc hd hl ih
theorem nq.mono{w:World}{g g' :Heap}{n:Nat}{es:Array (Int×Value)}{t:SetTable}(hk:∀b o,g.get? b=some o->g'.get? b=some o)(X:nq w g n es t):nq w g' n es t:=⟨X.tok,λi h v e=>let⟨b,d,h1,h2,h3⟩:=X.el i h v e;⟨b,d,h1,h2.mono hk,h3⟩,X.ris,X.way⟩
theorem nq.off{w:World}{es:Array (Int×Value)}{t:SetTable}(X:nq w g n es t):nq w g n es {t with plain:=false}:=
 ⟨⟨X.tok.cov,X.tok.odd,X.tok.dum,X.tok.size,X.tok.few⟩,X.el,X.ris,λi h v j e p=>Az (t:=t) rfl (λj i q=> ⟨i,q⟩) (X.way i h v j e p)⟩
theorem TOk.fits{t:SetTable}{n:Nat}(T:TOk t n):t.fits n=true:=by
 unfold SetTable.fits SetTable.fill;rw[T.dum,T.size];have:=T.few
 simpa using this
theorem TOk.full{t:SetTable}(T:TOk t n):t.tooFull=decide (n*5>=t.mask*3):=by
 unfold SetTable.tooFull SetTable.fill;rw[T.dum,T.size]
 rfl
def Big(m n:Nat):Prop:=m=7/\n<=4\/m=31/\n<=18\/m=127/\n<=76
structure SIx(w:World)(bt:Bool)(g0:Heap)(n:Nat)(its:List Value)(ix:List Nat)(es:Array (Int×Value))(t:SetTable):Prop where
 ok:nq w g0 n es t
 vals:(es.toList.map (·.2)).Perm (ix.map λi=>its.getD i .none)
 big:Big t.mask es.size
 led:t.led= !bt
def vX(w:World)(bt:Bool)(g0:Heap)(n:Nat)(its:List Value)(g:Heap)(a:Addr)(ix:List Nat):Prop:=
 ∃o es ep t,g.get? a=some o/\o.ExactSet/\o.data= .set es ep t/\SIx w bt g0 n its ix es t
theorem SIx.size{w:World}{bt:Bool}{g0:Heap}{n:Nat}{its:List Value}{ix:List Nat}{es:Array (Int×Value)}{t:SetTable}(h:SIx w bt g0 n its ix es t):es.size=ix.length:=by
 have:=h.vals.length_eq
 simpa using this
def Dz(g0:Heap)(n:Nat)(ds:List D)(its:List Value):Prop:=∀i,i<its.length->∃b,its.getD i .none= .ref b/\Im g0 n (ds.getD i .non) (.ref b)
theorem rT{α:Type}{es:Array α}{z:α}:∀{l:List Nat},(∀k∈l,k<es.size)->l.filterMap (λk=>es[k]?)=l.map λk=>es.getD k z
 |[],_=>rfl
 |k::l,h=>by
  have hk:=h k Gaf;rw[GcB,GaB hk,GaA,rT (z:=z) λx hx=>h x (Gac _ hx)];simp[Array.getD,hk]
theorem Cj{α:Type}(es:Array α):(List.range es.size).filterMap (λk=>es[k]?)=es.toList:=by
 cases hs:es.toList with
 |nil=>
  have:es.size=0:=by rw[<-GaN,hs];rfl
  rw[this];rfl
 |cons z _=>
  rw[<-hs,rT (z:=z) λk hk=>GaX.mp hk];apply GcV
  .simp
  .intro i h1 h2;simp at h1 h2⊢;simp[Array.getD,h2]
section
variable{prog:Program}{w:World}{A:Around}{E:Value->Shared->Prop}{z:Shared}
variable{n:Nat}
theorem Ke{g0:Heap}{es:Array (Int×Value)}{t:SetTable}(X:nq w g0 n es t){wanted M:Nat}(hM:SetTable.sizeAbove wanted=M+1)(hc:cZ M=true)(za:M%2=1)(hl:es.size<=M):
  ∃t' order,t.relaid (es.map (·.1)) wanted=some (t',order)/\(order.filterMap (es[·]?)).toList.Perm es.toList/\t'.mask=M/\t'.led=t.led/\nq w g0 n (order.filterMap (es[·]?)) t' :=by
 unfold SetTable.relaid;rw[hM,Nat.add_sub_cancel];obtain⟨t',order,e,hp,m1,m2,m3,m4,m5,m6,m7⟩:=Fj (finger:=t.finger) (moves:=t.movedTo M) (led:=t.led) (plain:=t.plain) (hashes:=es.map (·.1)) hc (by simpa using hl);rw[Array.size_map] at hp m2;have hX:∀k∈order.toList,k<es.size:=λk hk=>GaX.mp (hp.mem_iff.mp hk);have pm:(order.filterMap (es[·]?)).toList.Perm es.toList:=by
  rw[Array.toList_filterMap];exact(hp.filterMap _).trans (by rw[Cj])
 have sz:(order.filterMap (es[·]?)).size=es.size:=by
  have:=pm.length_eq;rw[GaN,GaN] at this;exact this
 have at_:∀(i:Nat) e,(order.filterMap (es[·]?))[i]? =some e->∃k:Nat,order[i]? =some k/\es[k]? =some e:=λi e he=>by
  rw[<-Gbj,Array.toList_filterMap,rT (z:=(0,Value.none)) hX,Gaw] at he;obtain⟨k,hk,rfl⟩:=Gas.mp he;have xY:=hX k (GaE hk);rw[Gbj] at hk;exact⟨k,hk,by rw[GaB xY];simp[Array.getD,xY]⟩
 refine⟨t',order,e,pm,m1,m5,⟨⟨by rw[m1];exact hc,by rw[m1];exact za,m3,by rw[m2,sz],by rw[sz,m1];exact hl⟩,λi h v he=> ?_,m6,λi h v j he hj=> ?_⟩⟩
 .obtain⟨k,_,hk⟩:=at_ i _ he;exact X.el k h v hk
 .obtain⟨k,ho,hk⟩:=at_ i _ he;obtain⟨h',e1,e2⟩:=m7 i k j ho hj;rw[Array.getElem?_map,hk] at e1;cases e1;exact e2
theorem Kf{bt:Bool}{g0:Heap}{ds:List D}{its:List Value}{a b:Addr}{ix:List Nat}{k:Nat}{R:Bool->Shared->Prop}(hS:vX w bt g0 n its z.heap a ix)(hI:Dz g0 n ds its)(hold:∀b o,g0.get? b=some o->z.heap.get? b=some o)(SX:∀i∈ix,i<its.length)(hk:k<its.length)(hb:its.getD k .none= .ref b)(SQ:ix.length<76)(hn:n<=8)(hu:A.units+n<cLine)
  (h:∀r g,Heap.SameBut a z.heap g->vX w bt g0 n its g a (if ix.any (λi=>eqD (ds.getD i .non) (ds.getD k .non)) then ix else ix++[k])->R r {z with heap:=g}):
  wpAny (model prog w) A (setAddHashed a (.ref b) (bh w n (ds.getD k .non))) R E z:=by
 obtain⟨o,es,ep,t,ho,hex,hd,hE⟩:=hS;obtain⟨b',xq,SH⟩:=hI k hk;rw[hb] at xq;cases xq;generalize hdx:ds.getD k .non=dx at*;have im:Im z.heap n dx (.ref b):=SH.mono hold;have X:=hE.ok.mono hold;have hf:=X.tok.fits;have bg:=hE.big;have sz:=hE.size;obtain⟨K,UU,hK,_⟩:=HC X.tok (bh w n dx);have hsl:sizeLine=16777216:=GbC;have hm127:t.mask<=127:=by rcases bg with q|q|q<;>lia
 unfold setAddHashed setAddHashedIn;refine GbJ (Gaa (GaR ho hd hf ?_));dsimp only;rw[Gag (by show¬(byScan (.ref b) es=true);unfold byScan;simp[Value.scannable])];unfold setSearch;refine Gaa (Ay ho hd hf X im hn hu hK ?_ ?_ 100000 0 none rfl ?_ ?_)
 .rintro⟨i,SJ⟩;dsimp only;have hany:ix.any (λi=>eqD (ds.getD i .non) dx)=true:=by
   simp only[nu,Classical.not_forall] at SJ;obtain⟨hh,v,d,e1,e2,e3⟩:=SJ;have hv:v∈es.toList.map (·.2):=Gat.mpr ⟨(hh,v),by rw[GdI];exact Array.mem_of_getElem? e1,rfl⟩;obtain⟨i',xa,rfl⟩:=Gat.mp (hE.vals.mem_iff.mp hv);obtain⟨b2,Sj,RH⟩:=hI i' (SX i' xa);rw[Sj] at e2;have:=rR n e2 (RH.mono hold);subst this;exact GbG.mpr ⟨i',xa,by simpa using e3⟩
  rw[Gah hany] at h;refine Gae ?_;have e:z={z with heap:=z.heap}:=by cases z;rfl
  rw[e];exact h _ z.heap (Heap.SameBut.refl a z.heap) ⟨o,es,ep,t,ho,hex,hd,hE⟩
 .intro k0 hk0 past un;dsimp only;have hany:ix.any (λi=>eqD (ds.getD i .non) dx)=false:=by
   rw[Gcr];intro i hi hq;obtain⟨b2,Sj,RH⟩:=hI i (SX i hi);have hv:its.getD i .none∈es.toList.map (·.2):=hE.vals.mem_iff.mpr (Gat.mpr ⟨i,hi,rfl⟩);obtain⟨e,he,T3⟩:=Gat.mp hv;obtain⟨j,hj,rfl⟩:=GbS he;rw[Array.getElem_toList] at T3;have hj' :j<es.size:=by simpa using hj
   have:=un j es[j].1 es[j].2 (ds.getD i .non) (GaB hj') (by rw[T3,Sj];exact RH.mono hold);rw[this] at hq;cases hq
  rw[hany,Gag Gal] at h;have hn1:es.size+1<=t.mask:=by rcases bg with q|q|q<;>lia
  have X1:=hE.ok.put SH hk0 past hn1;have bl:(t.put (aY t k0 (t.probeStart (bh w n dx))).j).2<=es.size:=by
   have:=(js (j:=(aY t k0 (t.probeStart (bh w n dx))).j) X.ris).1;rw[X.tok.size] at this;exact this
  have ml:(t.put (aY t k0 (t.probeStart (bh w n dx))).j).1.mask=t.mask:=rfl;have ll:(t.put (aY t k0 (t.probeStart (bh w n dx))).j).1.led=t.led:=rfl;refine Gaa (GaR ho hd hf ?_);dsimp only;generalize t.put (aY t k0 (t.probeStart (bh w n dx))).j=tp at*;obtain⟨t1,p⟩:=tp;dsimp only at*;generalize hes1:SetTable.insertAt es p (bh w n dx,Value.ref b)=es1 at*;have RB:es1.size=es.size+1:=by rw[<-hes1];exact ny bl
  have pv:(es1.toList.map (·.2)).Perm ((ix++[k]).map λi=>its.getD i .none):=by
   rw[<-hes1];refine(Cg.map _).trans ?_;rw[GaA,GaC,List.map_singleton,hb];exact(List.Perm.cons _ hE.vals).trans (List.perm_append_comm (l₁:=[Value.ref b]))
  have s0:SAt z.heap a es t:=⟨o,ep,ho,hex,hd⟩
  have fin:∀u:SetTable,nq w g0 n es1 u->u.mask=t.mask->u.led=t.led->wpAny (model prog w) A (do
    storeSet a es1 u
    if(!false&&u.tooFull)=true then do
      setRelay a (SetTable.grown (es.size+1))
      pure true
     else pure true) R E z:=by
   intro u U hum hul;refine Gaa (Dt s0 (by lia) λg ⟨s1,Ss⟩=> ?_);rw[Bool.not_false,GdB,U.tok.full,RB,hum];refine Gdc (λc=> ?_) (λc=> ?_)
   .have c' :=Gao c;obtain⟨M,hM,hc,za,UR,T5⟩:∃M,SetTable.sizeAbove (SetTable.grown (es.size+1))=M+1/\cZ M=true/\M%2=1/\es.size+1<=M/\Big M (es.size+1):=by
     rcases bg with⟨q1,q2⟩| ⟨q1,q2⟩| ⟨q1,q2⟩
     .have:es.size=4:=by lia
      rw[this];exact⟨31,by decide,Pk,rfl,by lia,.inr (.inl ⟨rfl,by lia⟩)⟩
     .have:es.size=18:=by lia
      rw[this];exact⟨127,by decide,MB,rfl,by lia,.inr (.inr ⟨rfl,by lia⟩)⟩
     .lia
    obtain⟨t',order,e1,pm,m1,m5,X'⟩:=Ke U hM hc za (by lia);have RA:(order.filterMap (es1[·]?)).size=es1.size:=by
     have:=pm.length_eq;rw[GaN,GaN] at this;exact this
    have hM127:M<=127:=by rcases T5 with q|q|q<;>lia
    obtain⟨o1,Tc,g1,g2,g3⟩:=id s1;refine Gaa (Gaa (GaR (s:={z with heap:=g}) g1 g3 U.tok.fits (Gcb (by rw[hM];simp;lia) ?_)));rw[e1];refine Gaa (Gcb (by rw[RA];simp) (Gae (Dt (z:={z with heap:=g}) s1 (by rw[RA];lia) λg' ⟨⟨o2,UG,r1,r2,r3⟩,Ts⟩=>Gae (h _ _ (Ss.trans Ts) ⟨o2,_,UG,_,r1,r2,r3,X',(pm.map _).trans pv, ?_, ?_⟩))))
    .rw[m1,RA,RB];exact T5
    .rw[m5,hul];exact hE.led
   .have c' :¬(es.size+1)*5>=t.mask*3:=λq=>c (Gaz q);obtain⟨o1,Tc,g1,g2,g3⟩:=s1;refine Gae (h _ _ Ss ⟨o1,_,Tc,_,g1,g2,g3,U,pv, ?_,by rw[hul];exact hE.led⟩);rw[hum,RB];rcases bg with⟨q1,q2⟩| ⟨q1,q2⟩| ⟨q1,q2⟩
    .exact .inl ⟨q1,by lia⟩
    .exact .inr (.inl ⟨q1,by lia⟩)
    .exact .inr (.inr ⟨q1,by lia⟩)
  refine Gdc (λ_=>Gaa (HA n im hn λbv=> ?_)) (λ_=>Gaa (Gae ?_))
  .cases bv with
   |true=>
    simp only[GbK];exact fin t1 X1 ml ll
   |false=>
    simp only[Gbb,GbW];exact fin _ X1.off ml ll
  .simp only[GbK];exact fin t1 X1 ml ll
 .have:SetTable.turns t.mask=t.mask+15:=rfl;lia
 .intro k' xE;lia
end
noncomputable def jS(ds:List D):Nat->List Nat
 |0=>[]
 |i+1=>if(jS ds i).any (λj=>eqD (ds.getD j .non) (ds.getD i .non)) then jS ds i else jS ds i++[i]
theorem qC(ds:List D):∀i,∀j∈jS ds i,j<i
 |0,j,h=>by cases h
 |i+1,j,h=>by
  unfold jS at h;split at h
  .exact Gcc (qC ds i j h)
  .rcases GaF.mp h with q|q
   .exact Gcc (qC ds i j q)
   .rw[GaJ.mp q];exact Gcy _
theorem oe(ds:List D):∀i,(jS ds i).length<=i
 |0=>Gaq _
 |i+1=>by
  have:=oe ds i;unfold jS;split
  .lia
  .rw[Gai,GcM];lia
theorem AD(ds:List D):∀i,i<=ds.length->(jS ds i).map (λj=>ds.getD j .non)=oV (ds.take i)
 |0,_=>rfl
 |i+1,h=>by
  have ih:=AD ds i (by lia);have hi:i<ds.length:=by lia
  have e:ds.getD i .non=ds[i]:=by simp[hi]
  have step:oV (ds.take (i+1))=nT (oV (ds.take i)) ds[i]:=by
   unfold oV;rw[<-List.take_append_getElem hi,List.foldl_append]
   rfl
  rw[step,<-ih];have e0:jS ds (i+1)=if(jS ds i).any (λj=>eqD (ds.getD j .non) (ds.getD i .non)) then jS ds i else jS ds i++[i]:=rfl
  rw[e0];unfold nT;rw[GdO];show List.map _ (if(jS ds i).any (λj=>eqD (ds.getD j .non) (ds.getD i .non)) then _ else _)=if(jS ds i).any (λj=>eqD (ds.getD j .non) ds[i]) then _ else _
  rw[e];split
  .rfl
  .rw[GaC,List.map_singleton,e]
section
variable{prog:Program}{w:World}{A:Around}{R:Result->Shared->Prop}{I:Addr}{fp wr:List Addr}{G:Array GenState->Array GenState->Prop}{n:Nat}{P:Nat->Value->Prop}{St:Nat->Shared->Prop}
variable{its:List Value}{bt:Bool}
theorem vX.at{g0 g g' :Heap}{n:Nat}{a:Addr}{ix:List Nat}(h:vX w bt g0 n its g a ix)(e:∀o,g.get? a=some o->g'.get? a=some o):vX w bt g0 n its g' a ix:=let⟨o,es,ep,t,ho,r⟩:=h;⟨o,es,ep,t,e o ho,r⟩
theorem Fl{g0:Heap}{m:Nat}{ds:List D}(W:WalksS prog w A.in1 I fp wr G n P St)(S:Addr)(T6:S∉fp)(hI:Dz g0 m ds its)(zA:its.length=n)(RN:∀i v,P i v->its[i]? =some v)(hb:n<76)(hm:m<=8)(hu:A.units+1+m<cLine)
  (Uw:g0.get? S=none)(U0:∀b∈wr,g0.get? b=none):
  ∀(k i:Nat) (z:Shared),n -i=k->i<=n->St i z->(∀b o,g0.get? b=some o->z.heap.get? b=some o)->vX w bt g0 m its z.heap S (jS ds i)->
   (∀y,Moved (S::wr) G z y->vX w bt g0 m its y.heap S (jS ds n)->R (.ok (.ret .none)) y)->codeAny (model prog w) A (.builtin "set.update.loop" ⟨[.ref S,.ref I],[]⟩) R z:=by
 have out:S∉wr:=λh=>T6 (W.sub _ h);intro k i z hk hi st old hS hR;refine uC (n:=n) (λi y=>St i y/\Moved (S::wr) G z y/\(∀b o,g0.get? b=some o->y.heap.get? b=some o)/\vX w bt g0 m its y.heap S (jS ds i)) ?_ ?_ k i z (by lia) ⟨st,Moved.refl W.grefl,old,hS⟩
 .rintro i y Q E lt ⟨st,mv,old,hS⟩ up;refine W.item i y Q E lt st λv y' hP yw zv => ?_;have li:i<its.length:=by lia
  have gv:its.getD i .none=v:=by rw[GcY,RN i v hP];rfl
  obtain⟨b,xq,im⟩:=hI i li;cases gv.symm.trans xq;have old' :∀b o,g0.get? b=some o->y'.heap.get? b=some o:=λb o e=>zv.heap b o (λq=>by rw[U0 b q] at e;cases e) (old b o e);refine up _ _ λQ' E' q=>GbJ (Gaa (Kb (s:=y') (im.mono old') (show A.units+1+m<cLine from hu) y'.toks _ _ λtk le=>Kf (z:={y' with toks:=tk}) (hS.at λo=>zv.heap S o out) hI old' (λj hj=>Nat.lt_trans (qC ds i j hj) li) li gv (by have:=oe ds i;lia) hm (show A.units+1+m<cLine from hu) λr g sb Uv=>q r _ ⟨?_, ?_,λb o e=> ?_,Uv⟩))
  .exact W.frame _ y' g tk yw le λb q o e=>sb.extBut b o (λe=>T6 (e▸q)) e
  .exact(mv.trans W.gtrans (zv.mono λ_=> .tail _)).trans W.gtrans ⟨λb o nb e=>sb.extBut b o (λe=>nb (e▸.head _)) e,W.grefl _,rfl,rfl,le⟩
  .exact sb.extBut b o (λq=>by rw[q,Uw] at e;cases e) (old' b o e)
 .rintro y Q E ⟨st,mv,old,hS⟩ fin;exact W.done y Q E st λy' zv =>fin y' (hR y' (mv.trans W.gtrans (zv.mono λ_=> .tail _)) (hS.at λo=>zv.heap S o out))
end
section
variable{prog:Program}{w:World}{A:Around}{E:Value->Shared->Prop}{z:Shared}
theorem Fm(b:Bool):TOk (.fresh 0 0 b) 0:=⟨by show cZ 7=true;decide,by show(7:Nat)%2=1;decide,rfl,rfl,Gbk _⟩
variable{its:List Value}{m:Nat}
theorem Fp{g0:Heap}{bt:Bool}:SIx w bt g0 m its [] #[] (.fresh 0 0 (!bt)):=
 ⟨⟨Fm _,λi h v e=>by simp at e,λi j _ x y hx _=>by simp[SetTable.fresh] at hx,λi h v j e _=>by simp at e⟩,List.Perm.nil,.inl ⟨rfl,by decide⟩,rfl⟩
theorem DB{g:Heap}{b:Addr}(h:g.objs.size<=b):g.get? b=none:=by
 cases e:g.get? b with
 |none=>rfl
 |some o=>exact absurd (Gau e) (Nat.not_lt.mpr h)
theorem Fq{l:Addr}{ds:List D}{R:Value->Shared->Prop}(hh:A.handled=none)(hl:z.heap.IsList l its.toArray)(hI:Dz z.heap m ds its)(hb:its.length<76)(Ug:m<=8)(hu:A.units+3+m<cLine)
  (h:∀(g:Heap) (tk:Nat),vX w (lu w) z.heap m its g z.heap.objs.size (jS ds its.length)->(∀b o,b<z.heap.objs.size->z.heap.get? b=some o->g.get? b=some o)->R (.ref z.heap.objs.size) {z with heap:=g,toks:=tk}):
  wpAny (model prog w) A (call (.type "set") [.ref l]) R E z:=by
 have ll:l<z.heap.objs.size:=let⟨_,q,_⟩:=hl;Gau q
 refine MA hl λh1 eS it k=>Fl (bt:=lu w) (g0:=z.heap) (A:=A.in1.in1) (Walks.list (by simp[hh]) (z.heap.objs.size+1) l (GaH (Gcc ll)) its.toArray).toS z.heap.objs.size (by simp[Gcw ll]) hI (by simp) (λi v hv=>by simpa using hv) (by simpa using hb) Ug (show A.units+2+1+m<cLine from hu) (DB (Gaq _)) (λb q=>by rw[GaJ.mp q];exact DB (Gck _))
  its.toArray.size 0 _ (Nat.sub_zero _) (Gbk _) ⟨it,let⟨o,q,r⟩:=hl;⟨o,k l o q,r⟩⟩ k ⟨_,#[],0,_,eS,⟨rfl,rfl,rfl⟩,rfl,Fp⟩ λy mv hS=> ?_
 rw[Moved.eq_with mv];exact h y.heap y.toks (by simpa using hS) λb o lt q=>mv.heap b o (by simp[GaH lt,GaH (Gcc lt)]) (k b o q)
end
theorem uI{α β:Type}{f:α->β}:∀{ys:List β} {xs:List α},ys.Perm (xs.map f)->∃zs:List α,zs.Perm xs/\ys=zs.map f
 |[],xs,h=>by
  have:=h.length_eq;have hx:xs=[]:=GcJ (by simpa using this.symm);subst hx;exact⟨[],.nil,rfl⟩
 |y::ys,xs,h=>by
  obtain⟨x,hx,rfl⟩:=Gat.mp (h.mem_iff.mp Gaf);obtain⟨s,t,rfl⟩:=List.append_of_mem hx;have e:(f x::ys).Perm (f x::(s++t).map f):=h.trans ((GdC (a:=x) (l₁:=s) (l₂:=t)).map f);obtain⟨zs,h1,h2⟩:=uI e.cons_inv;exact⟨x::zs,(h1.cons x).trans GdC.symm,by rw[h2];rfl⟩
section
variable{prog:Program}{w:World}{A:Around}{E:Value->Shared->Prop}{z:Shared}
theorem AE{a:Addr}{es:Array (Int×Value)}{ep:Nat}{t:SetTable}{Q:Value->Shared->Prop}(hh:A.handled=none)(hm:nj z.heap a es ep t)(hf:t.fits es.size=true)(hT:Tb (lu w) t)(yS:es.size<64)
  (h:∀ws:List Value,ws.Perm (es.toList.map (·.2))->∃cs,(∀(G:Heap) tk d,(∀b o,z.heap.get? b=some o->G.get? b=some o)->∀A' :Around,A'.units=A.units+2->vO prog w A' E {z with heap:=G,toks:=tk,drawn:=d} cs ws)/\
   ∀l h' tk d c (p:Array Nat),Ord ws.length p->Up (rank cs) p ws.length->z.heap.objs.size<=l->(∀b o,z.heap.get? b=some o->h'.get? b=some o)->h'.get? l=some (seqObj "list" (p.toList.map λi=>ws.getD i Value.none).toArray c)->Q (.ref l) {z with heap:=h',toks:=tk,drawn:=d}):
  wpAny (model prog w) A (call (.builtin "sorted") [.ref a]) Q E z:=by
 have hsl:sizeLine=16777216:=GbC;refine Calls.call_function_entry kind_sorted plain_sorted entry_sorted (args_sorted1 _) ?_;unfold Builtin.«sorted»;refine Gaa (m:=checkCount "sorted" 1 1 _) (Gae (Gaa (Ar (A:=A.in1) hh hm hf hT (by lia) λh' tk d xs hX hk hp=> ?_)));obtain⟨cs,hK,h⟩:=h (xs.map (·.2)) (hp.map _);have hxl:(xs.map (·.2)).length=es.size:=by rw[Gab,hp.length_eq];simp
 generalize xs.map (·.2)=ws at*;refine Gaa (wpAny_newList ?_ (by lia));have yN:(h'.push (seqObj "list" ws.toArray 0)).get? h'.objs.size=some (seqObj "list" ws.toArray 0):=GaD _ rfl;have keep:∀b o,z.heap.get? b=some o->(h'.push (seqObj "list" ws.toArray 0)).get? b=some o:=λb o e=>Gaj _ (hk b o e);have zle:z.heap.objs.size<=h'.objs.size:=Gde hX;refine Gaa (GbJ (Gbo slot_list_sort ⟨_,yN,rfl⟩ entry_list_sort (mM (cs:=cs) (s:={z with heap:=h'.push (seqObj "list" ws.toArray 0),toks:=tk,drawn:=d}) yN (by lia) (λG hG=>hK G tk d (λb o e=>hG b o (GaH (GaG (Gau e) zle)) (keep b o e)) _ rfl) λp h1 h2=> ⟨_,rfl, ?_⟩) (args_list_sort _)));obtain⟨c,xN⟩:=sortedHeap_at (h:=h'.push (seqObj "list" ws.toArray 0)) (a:=h'.objs.size) (vs:=ws) (n:=0) (out:=List.toArray (p.toList.map λi=>ws.getD i Value.none)) yN;refine Gae ⟨_,rfl,h h'.objs.size _ tk d c p h1 h2 zle (λb o e=> ?_) xN⟩;have hb:=Gau (hk b o e);exact(sortedHeap_old (GaH hb) (Nat.lt_trans hb (by rw[size_push'];exact Gcy _))).trans (keep b o e)
end
section
variable{X:Cx}{e a b c:Expr}{f g h:DE}{pos:Pos}{e8:List (Addr×Obj)}{Z:St}{H:Hp}{s:Shared}{F:Addr->Prop}
theorem vY{ys:List V}{us:List Value}(p:Vals ys us):∀(i:Nat) y u,ys[i]? =some y->us[i]? =some u->RelV y u:=by
 induction p with
 |nil=>intro i y u e _;simp at e
 |cons h t ih=>
  intro i y u e1 e2;cases i with
  |zero=>cases e1;cases e2;exact h
  |succ i=>exact ih i y u e1 e2
theorem MF(I:Inv X e8 Z H s):∀(n:Nat) {d:D} {v:V} {u:Value},imN n d=true->Rep X.K F H d v->RelV v u->Im s.heap n d u:=by
 intro n;induction n with
 |zero=>
  intro d v u hd r ru;cases r with
  |int i=>obtain⟨t,rfl⟩:=ru;exact .int _ _ _
  |str x=>obtain⟨t,rfl⟩:=ru;exact .str _ _ _
  |_=>simp[imN] at hd
 |succ n ih=>
  intro d v u hd r ru;cases r with
  |int i=>obtain⟨t,rfl⟩:=ru;exact .int _ _ _
  |str x=>obtain⟨t,rfl⟩:=ru;exact .str _ _ _
  | @tup a vs ds hH hl hr=>
   cases ru;obtain⟨its,xv,⟨o,h1,h2,m,h3⟩,_⟩:=I.tuple (SqT.of hH);refine .tup h1 h2 h3 ?_ λi d v e1 e2=> ?_
   .rw[hl,xv.length]
   .have hi:i<vs.length:=by
     rw[<-hl];exact(Gam.mp e1).1
    have xx :imN n d=true:=Gap.mp hd d (GaE e1);exact ih xx (hr i d vs[i] e1 (Gad hi)) (vY xv i _ _ (Gad hi) (by simpa using e2))
  |_=>simp[imN] at hd
noncomputable def HH(X:Cx)(v:Addr)(ds:List D)(vs:List V):HO:= .ext λh=>∃its o es ep t,Vals vs its/\h.get? v=some o/\o.ExactSet/\o.data= .set es ep t/\t.fits es.size=true/\Tb (lu X.w) t/\(es.toList.map (·.2)).Perm ((jS ds ds.length).map λi=>its.getD i .none)
def Pn(X:Cx):List V->Hp->VK->Prop:=λxs H Q=>∃(p:Addr) (ds:List D) (vs:List V) (F:Addr->Prop),xs=[.ref p]/\SqL X.K H p vs/\aJ X.K F H ds vs/\ds.length<64/\(ds.all λd=>vC d&&imN 4 d)=true/\∀v,H v=none->Q (.ref v) (upd H v (HH X v ds vs))
theorem Ck(hc:X.calm=true)(hu:X.A.units+20<cLine):fq X (.type "set") (Pn X):=by
 intro e8 s Z H xs us Q I rv h;obtain⟨p,ds,vs,F,rfl,hq,hr,hl,hok,q⟩:=h;obtain⟨u,rfl,ru⟩:=rv.one;cases ru;obtain⟨its,xv,pl,_⟩:=I.list hq;have hle:its.length=ds.length:=by rw[<-xv.length,hr.1]
 have hI:Dz s.heap 4 ds its:=λi hi=>by
  have hd:i<ds.length:=by lia
  have hv:i<vs.length:=by rw[<-hr.1];exact hd
  have ok:=Gap.mp hok ds[i] (GaI hd);rw[Gan] at ok;have im:=MF I 4 ok.2 (hr.2 i _ _ (Gad hd) (Gad hv)) (vY xv i _ _ (Gad hv) (Gad hi));have e1:its.getD i .none=its[i]:=by simp[hi]
  have e2:ds.getD i .non=ds[i]:=by simp[hd]
  rw[e1,e2];generalize ds[i]=d at*;generalize its[i]=u at*;cases im with
  |tup ho hc hd hl hi=>exact⟨_,rfl,.tup ho hc hd hl hi⟩
  |_=>simp[vC] at ok
 refine Fq (m:=4) (ds:=ds) (I.ok.hd hc) pl.isList hI (by lia) (by decide) (by lia) λg tk hS hk=> ?_;obtain⟨o,es,ep,t,ho,hex,hd,hE⟩:=hS;refine⟨.ref s.heap.objs.size,_,I.laid (a:=s.heap.objs.size) (o:=HH X s.heap.objs.size ds vs) (t' :=tk) (λb o e=>hk b o (Gau e) e) (Gaq _) ?_,rfl,q _ I.fresh⟩;exact⟨⟨its,o,es,ep,t,xv,ho,hex,hd,hE.ok.tok.fits,⟨hE.led,λ_=>hE.ok.ris⟩,by rw[<-hle];exact hE.vals⟩,⟨o,ho⟩,λh1 h2 ⟨its,o,es,ep,t,r1,ho,r⟩ k=> ⟨its,o,es,ep,t,r1,k o ho,r⟩⟩
theorem uJ{K:aq}{F:Addr->Prop}{H:Hp}{ds:List D}{vs:List V}(r:aJ K F H ds vs):∀(jx:List Nat),(∀i∈jx,i<ds.length)->aJ K F H (jx.map λi=>ds.getD i .non) (jx.map λi=>vs.getD i .non)
 |[],_=> .nil
 |i::jx,h=>by
  have hi:=h i Gaf;have hv:i<vs.length:=by rw[<-r.1];exact hi
  refine .cons ?_ (uJ r jx λj hj=>h j (Gac _ hj));have e1:ds.getD i .non=ds[i]:=by simp[hi]
  have e2:vs.getD i .non=vs[i]:=by simp[hv]
  show Rep K F H (ds.getD i .non) (vs.getD i .non);rw[e1,e2];exact r.2 i _ _ (Gad hi) (Gad hv)
theorem uK{vs:List V}{us:List Value}(r:Vals vs us):∀(jx:List Nat),(∀i∈jx,i<vs.length)->Vals (jx.map λi=>vs.getD i .non) (jx.map λi=>us.getD i .none)
 |[],_=> .nil
 |i::jx,h=>by
  have hi:=h i Gaf;have hv:i<us.length:=by rw[<-r.length];exact hi
  refine .cons ?_ (uK r jx λj hj=>h j (Gac _ hj));have e1:vs.getD i .non=vs[i]:=by simp[hi]
  have e2:us.getD i .none=us[i]:=by simp[hv]
  show RelV (vs.getD i .non) (us.getD i .none);rw[e1,e2];exact vY r i _ _ (Gad hi) (Gad hv)
end
section
variable{K:aq}{H0 H:Hp}{eC:Addr->Prop}{env:Env}{Z:St}{d:D}{i:Nat}
variable{j:Nat}
theorem pj(he:env[i]? =some (some (.own d))):(env.set i (some (.sh d)))[j]? =if j=i then some (some (.sh d)) else env[j]? :=by
 have hi:=(Gam.mp he).1;rw[List.getElem?_set];by_cases z:i=j
 .subst z;simp[hi]
 .rw[Gag z,Gag (λe=>z e.symm)]
theorem jT(he:env[i]? =some (some (.own d)))(h:bH (env.set i (some (.sh d)))[j]?):j≠i/\bH env[j]? :=by
 rw[pj he] at h;by_cases z:j=i
 .rw[Gah z] at h;exact h.elim
 .rw[Gag z] at h;exact⟨z,h⟩
theorem ay.rel(E:ay K H0 eC env Z H)(he:env[i]? =some (some (.own d))):ay K H0 eC (env.set i (some (.sh d))) Z H:=by
 have cl:∀a,Cln eC env Z a->Cln eC (env.set i (some (.sh d))) Z a:=λa h=> ⟨h.1,λj t=>h.2 j (jT he t).2⟩;have oth:∀{j:Nat} {x:Slot},(∀y,x≠ .sh y)->(env.set i (some (.sh d)))[j]? =some (some x)->env[j]? =some (some x):=λ{j x} hx e=>by
  rw[pj he] at e;by_cases z:j=i
  .rw[Gah z] at e;cases e;exact absurd rfl (hx d)
  .rw[Gag z] at e;exact e
 refine⟨E.same,by rw[List.length_set];exact E.len,E.bad,λj d' e=> ?_,λj d' e=> ?_,λj d' e=> ?_,λj k a h1 h2 h3 h4=> ?_⟩
 .rw[pj he] at e;by_cases z:j=i
  .rw[Gah z] at e;cases e;subst z;obtain⟨a,h1,_,h3,_,_,h6⟩:=E.ow j d (.inl he);refine⟨.ref a,h1,(h6.imp cl).rep λb eb _=> ?_⟩;cases eb;exact⟨h3,λk t e=>(jT he t).1 (E.dj j k a (by rw[he];trivial) (jT he t).2 h1 e).symm⟩
  .rw[Gag z] at e;obtain⟨v,h1,h2⟩:=E.sh j d' e;exact⟨v,h1,h2.imp cl⟩
 .obtain⟨a,h1,h2,h3,h4,h5,h6⟩:=E.ow j d' (e.imp (oth (by intro y q;cases q)) (oth (by intro y q;cases q)));exact⟨a,h1,h2,h3,h4,h5,h6.imp cl⟩
 .obtain⟨a,h1,h2,h3,h4⟩:=E.bo j d' (oth (by intro y q;cases q) e);exact⟨a,h1,h2,h3,h4.imp cl⟩
 .have g1:=jT he h1.top;have g2:=jT he h2;refine E.dj j k a ?_ g2.2 h3 h4;rw[pj he,Gag g1.1] at h1;exact h1
theorem Stp.rel(he:env[i]? =some (some (.own d))):Stp env Z H (env.set i (some (.sh d))) Z H:=by
 refine⟨λ_ _ e _=>e,λb h=> ?_,λj h=> ?_⟩
 .obtain⟨j,h1,h2⟩:=h;refine .inl ⟨j, ?_,h2⟩;have g:=jT he h1.ol.top;rw[pj he,Gag g.1] at h1;exact h1
 .have g:=jT he h.top;rw[pj he,Gag g.1];exact⟨rfl,rfl⟩
theorem vZ:∀(is:List Nat) (env:Env),ay K H0 eC env Z H->ay K H0 eC (ET is env) Z H/\Stp env Z H (ET is env) Z H
 |[],env,E=> ⟨E,.refl⟩
 |i::is,env,E=>by
  unfold ET;split
  .rename_i d he;obtain⟨h1,h2⟩:=vZ is _ (E.rel he);exact⟨h1,(Stp.rel he).trans h2⟩
  .exact vZ is env E
end
section
variable{X:Cx}{f:DS}{st:Stmt}{is:List Nat}
theorem MG(h:PSd X st f):PSd X st (OR is f):=by
 refine PS.aF h ?_;rintro D Z H ⟨H0,eC,env,o,E,e,k⟩;obtain⟨h1,h2⟩:=vZ is env E;refine⟨H0,eC,ET is env,o,h1,e, ?_⟩;cases o with
 |nx e2=>exactλZ2 H2 E2 p2=>k Z2 H2 E2 (h2.trans p2)
 |bk e2=>exactλZ2 H2 E2 p2=>k Z2 H2 E2 (h2.trans p2)
 |ct e2=>exactλZ2 H2 E2 p2=>k Z2 H2 E2 (h2.trans p2)
 |ret d=>exact k
end
theorem Cm{ds es:List D}(h:∀x∈es,x∈ds)(k:keysOk ds=true):keysOk es=true:=by
 have all:∀{p:D->Bool},ds.all p=true->es.all p=true:=λ{p} q=>Gap.mpr λx hx=>Gap.mp q x (h x hx);unfold keysOk at*;rw[GaP] at*;rcases k with k|k
 .exact .inl (all k)
 .rw[Gan,GaP] at*;refine .inr ⟨k.1.imp all all, ?_⟩;refine Gap.mpr λx hx=>Gap.mpr λy hy=> ?_;exact Gap.mp (Gap.mp k.2 x (h x hx)) y (h y hy)
theorem Kg(ds:List D):∀x∈oV ds,x∈ds:=by
 have key:∀(ds acc:List D) x,x∈ds.foldl nT acc->x∈acc\/x∈ds:=by
  intro ds;induction ds with
  |nil=>intro acc x hx;exact .inl hx
  |cons d ds ih=>
   intro acc x hx;rcases ih _ x hx with h|h
   .unfold nT at h;split at h
    .exact .inl h
    .rcases GaF.mp h with h|h
     .exact .inl h
     .rw[GaJ.mp h];exact .inr Gaf
   .exact .inr (Gac _ h)
 intro x hx;rcases key ds [] x hx with h|h
 .cases h
 .exact h
section
variable{X:Cx}{e a b c:Expr}{f g h:DE}{pos:Pos}{e8:List (Addr×Obj)}{Z:St}{H:Hp}{s:Shared}{F:Addr->Prop}
def Fs(X:Cx):List V->Hp->VK->Prop:=λxs H Q=>∃(v:Addr) (ds:List D) (vs:List V) (F:Addr->Prop),xs=[.ref v]/\H v=some (HH X v ds vs)/\aJ X.K F H ds vs/\ds.length<64/\keysOk ds=true/\
 ∀l out,H l=none->(∀F',aJ X.K F' H ds vs->aJ X.K F' H (d7 (oV ds)) out)->Q (.ref l) (upd H l (.lst out))
theorem tJ(hc:X.calm=true):fq X (.builtin "sorted") (Fs X):=by
 intro e8 s Z H xs us Q I rv h;obtain⟨v,ds,vs,F,rfl,hv,hr,yS,hok,q⟩:=h;obtain⟨u,rfl,ru⟩:=rv.one;cases ru;obtain⟨⟨its,o,es,ep,t,xv,ho,hex,hd,hf,hT,SR⟩,_,_⟩:=I.hok v _ hv;have hvl:vs.length=ds.length:=hr.1.symm;have hes:es.size<=ds.length:=by
  have e:=SR.length_eq;have:=oe ds ds.length;simp at e;lia
 refine AE (I.ok.hd hc) ⟨o,ho,hex,hd⟩ hf hT (by lia) λws TZ=> ?_;obtain⟨jx,Ro,Rn⟩:=uI (TZ.trans SR);have zf:∀i∈jx,i<ds.length:=λi hi=>qC ds ds.length i (Ro.mem_iff.mp hi);have hjn:jx.length<=ds.length:=by rw[Ro.length_eq];exact oe ds ds.length
 have R' :∀F',aJ X.K F' H ds vs->aJ X.K F' H (jx.map λi=>ds.getD i .non) (jx.map λi=>vs.getD i .non):=λF' r=>uJ r jx zf;have V' :=uK xv jx λi hi=>by rw[hvl];exact zf i hi
 rw[<-Rn] at V';have xP :(jx.map λi=>ds.getD i D.non).Perm (oV ds):=by
  have:=AD ds ds.length (Gaq _);rw[List.take_length] at this;rw[<-this];exact Ro.map _
 have xX :=Cm (λx hx=>Kg ds x (xP.mem_iff.mp hx)) hok;have hln:(jx.map λi=>ds.getD i D.non).length=jx.length:=Gab _;have hlw:ws.length=jx.length:=by rw[Rn];exact Gab _
 have hly:(jx.map λi=>vs.getD i V.non).length=jx.length:=Gab _;generalize (jx.map λi=>ds.getD i D.non)=xG at*;generalize (jx.map λi=>vs.getD i V.non)=ys' at*;have hK:=vQ I (R' F hr) (Ak xX) V';refine⟨xG.map code,λG tk d hG A' hA=>vS (lj (λd v kv=>Fc hG kv) hK) xX,λl h' tk d c p h1 h2 hl hk xN=> ?_⟩;have yl :Ord xG.length p:=by rw[hln,<-hlw];exact h1
 have Rw :Up (rank (xG.map code)) p xG.length:=by rw[hln,<-hlw];exact h2
 have uniq:(p.toList.map λi=>xG.getD i .non)=d7 (oV ds):=j8 ((jq yl).trans (xP.trans (cW _).symm)) (rz yl Rw) (fF _) λa ha b hb=>Ah xX a ((jq yl).mem_iff.mp ha) b ((jq yl).mem_iff.mp hb);have h1v:Ord ys'.length p:=by rw[hly,<-hln];exact yl
 have fresh:H l=none:=I.hok.fresh hl;have hsl:sizeLine=16777216:=GbC;refine⟨.ref l,_,(I.laid (a:=l) (o:= .lst (p.toList.map λi=>ys'.getD i .non)) (t' :=tk) hk hl ?_).draw d,rfl,q _ _ fresh λF' r=> ?_⟩
 .refine⟨?_,_,c,Am h1v V',xN⟩;rw[Gab,GaN,h1v.size];lia
 .rw[<-uniq];exact Al yl (R' F' r)
theorem AF{p p2 eU:Pos}(hc:X.calm=true)(hu:X.A.units+20<cLine)(hg:Gl X "sorted")(hm:X.mg "sorted"=none)(yP:Gl X "set")(zd:X.mg "set"=none)(he:PEd X e f)
  (xk:autoParam (starEach [e] X.env=[(false,eval e X.env)]) Za1._auto_1)
  (xi:autoParam (starEach [.Call (.Name "set" p2) [e] [] eU] X.env=[(false,eval (.Call (.Name "set" p2) [e] [] eU) X.env)]) Za1._auto_1):
  PEd X (.Call (.Name "sorted" p) [.Call (.Name "set" p2) [e] [] eU] [] pos) (qR f):=by
 refine(qG (tJ hc) hg hm rfl (nN (u6 (Ck hc hu) yP zd rfl (nN he vm xk) (by decide) (by decide) xk rfl) vm xi) (by decide) (by decide) xi rfl).aF ?_;rintro Z H Q ⟨H0,eC,env,rv,E,e,k⟩;obtain⟨r,hr,e⟩:=eA e;split at e
 .rename_i ds hd;split at e
  .rename_i hok;cases e;unfold qQ at hok;rw[Gan,Gan] at hok;obtain⟨⟨o1,o2⟩,o3⟩:=hok;refine⟨H0,eC,env,r,E,hr,λv H1 s1 R1=> ?_⟩;have i:=R1.inn;rw[hd] at i;cases i with
   | @lst a vs _ hq rk=>
    refine⟨a,ds,vs,_,rfl,.inl hq,rk,Gao o1,o2,λv hv=> ⟨v,ds,vs,_,rfl,b9,rk.gen (.of_same (bf hv)) λ_ f _=>f,Gao o1,o3,λl out hl RU=> ?_⟩⟩;have SV:H1 l=none:=by
     by_cases z:l=v
     .subst z;exact hv
     .rw[aE z] at hl;exact hl
    exact k _ _ (s1.trans ((bf hv).trans (bf hl))) ⟨l,rfl,s1.free SV,⟨_,b9,trivial⟩,rfl,fU hl (RU _ (rk.gen (.of_same (bf hv)) λ_ f _=>f))⟩
  .cases e
 .cases e
theorem DC:∀(a b:List Int),Jz a b=HT.lexLt a b
 |[],[]=>rfl
 |[],_::_=>rfl
 |_::_,[]=>rfl
 |x::xs,y::ys=>by
  show(if x=y then Jz xs ys else decide (x<y))=(if x=y then HT.lexLt xs ys else decide (x<y));rw[DC xs ys]
theorem pz:∀(ds:List D) (ns:List Int),intsOf ds=some ns->ds=ns.map .int
 |[],ns,h=>by cases h;rfl
 |d::ds,ns,h=>by
  unfold intsOf at h;split at h
  .rename_i e;cases e
  .rename_i i es e;cases e;obtain⟨m,hm,rfl⟩:=Gas.mp h;rw[pz ds m hm];rfl
  .cases h
theorem nz{K:aq}{F:Addr->Prop}{H:Hp}:∀{ns:List Int} {vs:List V},aJ K F H (ns.map D.int) vs->vs=ns.map V.int
 |[],vs,r=>by
  have:=r.1;simp at this;cases vs with
  |nil=>rfl
  |cons v vs=>simp at this
 |n::ns,vs,r=>by
  obtain⟨v,vr,rfl,r1,r2⟩:=aJ.cons_inv (by exact r);cases r1;rw[nz r2];rfl
theorem Kh:OpB X JA (O3 X.K):=by
 intro F H dx dy x y b Q ix iy e q;unfold JA at e;split at e
 .rename_i as bs;obtain⟨m,hm,ee⟩:=eA e;obtain⟨n,hn,el⟩:=Gas.mp ee;have e1:=pz _ _ hm;have e2:=pz _ _ hn;subst e1 e2;cases ix with
  |tup hx rx=>
   cases iy with
   |tup hy ry=>
    have:=nz rx;subst this;have:=nz ry;subst this;refine⟨_,_,m,n,rfl,rfl,SqT.of hx,SqT.of hy, ?_⟩;rw[<-DC,el];exact q
 .cases e
end
section
variable{X:Cx}{e a b c:Expr}{f g h:DE}{pos:Pos}
def QP(K:aq)(t:TA)(td:TE):TE:=λZ H Q=>t Z H λvs H1=>td Z H1 λdv H2=>∃(p:Addr) (ns:List Int),vs=[.ref p]/\(SqL K H2 p (ns.map V.int)\/SqT K H2 p (ns.map V.int))/\Q (match ns with|[]=>dv|n::ns=> .int (kO n ns)) H2
variable{dx:Expr}{p kp:Pos}
theorem Ki{pos:Pos}{t:TA}{td:TE}(hc:X.calm=true)(hg:Gl X "min")(hm:X.mg "min"=none)(ha:PA X [e] t)(hd:PE X dx td)(hs:autoParam (starEach [e] X.env=[(false,eval e X.env)]) Za1._auto_1):PE X (.Call (.Name "min" p) [e] [⟨some "default",dx,kp⟩] pos) (QP X.K t td):=by
 intro e8 z Z H Q I h;refine Gdg (kz I hg hm vI ?_);refine PyProof.Rows.callWith_kw (thn (ha pos e8 z Z H _ I h) λus s1 ⟨vs,H1,I1,r1,q1⟩=> ?_) (by rw[hs];rfl) (by rw[hs];rfl) rfl rfl;refine PyProof.Rows.kws_cons (thn (hd e8 s1 Z H1 _ I1 q1) λdu s2 ⟨v,H2,I2,r2,q2⟩=>PyProof.Rows.kws_nil ?_);obtain⟨l,ns,e1,hq,q⟩:=q2;subst e1;cases r1 with
 |cons r rr=>
  cases rr;cases r;show wpAny _ _ (call (.builtin "min") [.ref l] [(Str.ofString "default",du)]) _ _ _;refine K5 false (some du) (rj hc I2 hq λIt fp wr P St s₃ W st lt hP kept=> ⟨It,fp,wr,_,P,St,_,λ_=>True,rfl,W,st,lt,λi j vi vj zz Q' E' _ hi hj U9 =>CmpOf.ints_lt (l9 ns) (rm hP) i j vi vj zz Q' E' hi hj U9,λ_ _ _=>trivial,λhn=> ⟨du,rfl,λh' tk hk=> ?_⟩,λhn u h' tk hu hk=> ?_⟩)
  .cases ns with
   |nil=>exact⟨v,H2,kept h' tk hk,r2,q⟩
   |cons n ns=>simp at hn
  .cases ns with
   |nil=>simp at hn
   |cons n ns=>
    obtain⟨t,rfl⟩:=rm hP _ _ hu;rw[show((n::ns).map V.int).length -1=ns.length by simp,Hg _ (Gaq _),List.take_length];exact⟨.int (kO n ns),H2,kept h' tk hk,⟨t,rfl⟩,q⟩
theorem Kj{pos:Pos}(hc:X.calm=true)(hg:Gl X "min")(hm:X.mg "min"=none)(he:PEd X e f)(hd:PEd X dx g)(hs:autoParam (starEach [e] X.env=[(false,eval e X.env)]) Za1._auto_1):PEd X (.Call (.Name "min" p) [e] [⟨some "default",dx,kp⟩] pos) (mmX kO f g):=by
 refine(Ki hc hg hm (bS he dO hs) hd hs).aF ?_;rintro Z H Q ⟨H0,eC,env,rv,E,e,k⟩;obtain⟨r,hr,e⟩:=eA e;obtain⟨q,hq,e⟩:=eA e;split at e
 .rename_i i hi;refine⟨H0,eC,env,[r],E,by unfold a7 ae;rw[hr];rfl,λvs H1 s1 Rs=> ⟨H0,eC,env,q,E.mono s1,hq,λvq H2 s2 Rq=> ?_⟩⟩;cases Rs with
  |cons R1 tl=>
   cases tl;unfold mmD at e;obtain⟨ds,h1,e⟩:=eA e;obtain⟨ns,h2,e⟩:=Gas.mp e;obtain⟨p,vs,rfl,hq,rr⟩:=vM (R1.same s2).inn h1;rw[vL rr h2] at hq;refine⟨p,ns,rfl,hq, ?_⟩;subst e;cases ns with
   |nil=>
    have i1:=Rq.inn;rw[hi] at i1;cases i1;exact k _ _ (s1.trans s2) (.int _)
   |cons n ns=>exact k _ _ (s1.trans s2) (.int _)
 .cases e
end
section
variable{X:Cx}{e a b c:Expr}{f g h:DE}{pos:Pos}
theorem _root_.L2.Inv.Kk{e8:List (Addr×Obj)}{Z:St}{H:Hp}{s:Shared}{h' :Heap}{ch:List Addr}(I:Inv X e8 Z H s)(hf:∀b∈ch,kB X e8 H b)(k:∀b o,b∉ch->s.heap.get? b=some o->h'.get? b=some o):Inv X e8 Z H {s with heap:=h' }:=by
 have nit:∀b u,H b=some u->b∉ch:=λb u e z=>by rw[(hf b z).1] at e;cases e
 refine I.Gd (ch:=ch) rfl ⟨λb ob q _ _ hx=>k b ob hx q,λb ob q _ _ hx=> ⟨ob.slots,k b ob hx q⟩,λb ob q n _=>n,λb ob q hx=> ⟨ob,k b ob hx q⟩,λb xs q=>q,λb ob u q=>q,λb ps q=> ⟨#[],by rw[q];simp⟩⟩ ?_ I.bare λb hb=> ⟨(hf b hb).2.2.2.1,(hf b hb).2.1,(hf b hb).2.2.2.2.1,(hf b hb).2.2.2.2.2⟩;intro b u q;refine(I.hok b u q).j6 (λc v hc z=>k c v ?_ z) (λ_ z=>z) λ_ _ z=>z;rcases hc with hc|hc
 .rw[hc];exact nit b u q
 .exact nit c _ hc
noncomputable def Itz(K:aq)(l1 l2:Addr):It:=
 ⟨λi H=>∃xs ys x y,SqL K H l1 xs/\SqL K H l2 ys/\xs[i]? =some x/\ys[i]? =some y,λi H x H' =>∃p u v,H p=none/\x= .ref p/\H' =upd H p (.tup [u,v])/\(∀xs,SqL K H l1 xs->xs[i]? =some u)/\∀ys,SqL K H l2 ys->ys[i]? =some v,λi H=>∃xs ys,SqL K H l1 xs/\SqL K H l2 ys/\(xs.length<=i\/ys.length<=i)⟩
variable{tp:Pos}{elts:List Expr}
theorem HI{P:Program}{w:World}{K:aq}{x1}(z TI TO i1 i2 l1 l2:Addr)(D:ZipApart z TI TO i1 i2 l1 l2):Turn P w K (.Tuple elts x1 tp) (Itz K l1 l2) [z,TI,TO,i1,i2] z (λi h=>IsZip h z TI TO .none/\IsPair h TI (.ref i1) (.ref i2)/\(∃a b,IsPair h TO a b)/\h.IsListIter i1 l1 i/\h.IsListIter i2 l2 i) where
 mem:=by simp
 obj:=λi h st b hb=>by
  obtain⟨hz,yH,⟨a,b',yR⟩,⟨o1,e1,c1,d1⟩,⟨o2,e2,c2,d2⟩⟩:=st;simp only[Gar,Gcg,GdS] at hb;rcases hb with rfl|rfl|rfl|rfl|rfl
  .exact⟨_,hz,λv q=>by cases q⟩
  .exact⟨_,yH,λv q=>by cases q⟩
  .exact⟨_,yR,λv q=>by cases q⟩
  .exact⟨_,e1,λv q=>by rw[d1] at q;cases q⟩
  .exact⟨_,e2,λv q=>by rw[d2] at q;cases q⟩
 keep:=λi h h' st k=>by
  obtain⟨hz,yH,⟨a,b,yR⟩,h1,h2⟩:=st;exact⟨k z (by simp) _ hz,k TI (by simp) _ yH,⟨a,b,k TO (by simp) _ yR⟩,h1.at λo e=>k i1 (by simp) o e,h2.at λo e=>k i2 (by simp) o e⟩
 item:=by
  intro X hP hw hK hc i e8 s Z H E I hf st hg;subst hP hw hK;obtain⟨hz,yH,⟨a,b,yR⟩,h1,h2⟩:=st;obtain⟨xs,ys,x,y,zx,yM,hx,hy⟩:=hg;obtain⟨zI,Rb,p1,_⟩:=I.list zx;obtain⟨eI,Ra,p2,_⟩:=I.list yM;obtain⟨u,hu,ru⟩:=Rb.get hx;obtain⟨v,hv,rv⟩:=Ra.get hy;refine wpAny_pyNext_zip_item D hz yH yR h1 h2 p1.isList p2.isList (x:=u) (y:=v) (by simpa using hu) (by simpa using hv) λh' a1 a2 a3 a4 a5 a6 kk=> ⟨_,rfl, ?_⟩;refine wpAny_letOwnedTupleGo_zip (s:={s with heap:=h' }) a1 λh3 TV sb=> ?_;have hX:z<s.heap.objs.size:=Gau hz;have kept:∀b o,b∉[z,TI,TO,i1,i2]->s.heap.get? b=some o->h3.get? b=some o:=λb o hb e=>by
   have b1:b≠z:=λq=>hb (by simp[q]);exact sb.extBut _ _ b1 (kk b o b1 (λq=>hb (by simp[q])) (λq=>hb (by simp[q])) (λq=>hb (by simp[q])) e)
  have zZ:h3.get? s.heap.objs.size=some {cls:= .type "tuple",data:= .seq #[u,v]}:=sb.extBut _ _ (Gcw hX) a5;have I1:Inv X e8 Z (upd H s.heap.objs.size (.tup [x,y])) {s with heap:=h3}:=I.rA (ch:=[z,TI,TO,i1,i2]) hf rfl rfl kept (Gaq _) ⟨by simp[GbC],[u,v],.cons ru (.cons rv .nil),_,zZ,rfl,0,rfl⟩;refine⟨.ref s.heap.objs.size,_,I1,rfl,⟨_,x,y,I.fresh,rfl,rfl,λzs q=>by rw[I.nK q zx];exact hx,λzs q=>by rw[I.nK q yM];exact hy⟩,⟨TV,sb.extBut _ _ D.TIz (kk _ _ D.TIz D.TITO D.TIi1 D.TIi2 yH),⟨_,_,sb.extBut _ _ D.TOz a2⟩,a3.extBut sb.extBut D.i1z,a4.extBut sb.extBut D.i2z⟩,λb hb=> ?_⟩;have lt:b<s.heap.objs.size:=by
   obtain⟨o1,e1,_⟩:=h1;obtain⟨o2,e2,_⟩:=h2;have xq :=hb;simp only[Gar,Gcg,GdS] at xq;rcases xq with rfl|rfl|rfl|rfl|rfl
   .exact hX
   .exact Gau yH
   .exact Gau yR
   .exact Gau e1
   .exact Gau e2
  rw[aE (GaH lt)];exact(hf b hb).1
 done:=by
  intro X hP hw hK hc i e8 s Z H E I hf st hg;subst hP hw hK;obtain⟨hz,yH,⟨a,b,yR⟩,h1,h2⟩:=st;obtain⟨xs,ys,zx,yM,hx⟩:=hg;obtain⟨zI,Rb,p1,_⟩:=I.list zx;obtain⟨eI,Ra,p2,_⟩:=I.list yM;have l1' :=Rb.length;have l2' :=Ra.length;refine wpAny_pyNext_zip_end (I.ok.hd hc) D hz yH yR h1 h2 p1.isList p2.isList (hx.imp (λq=>by simp;lia) λq=>by simp;lia) λh' kk=> ⟨rfl,I.Kk hf λb o hb e=>kk b o (λq=>hb (by simp[q])) (λq=>hb (by simp[q])) (λq=>hb (by simp[q])) (λq=>hb (by simp[q])) e⟩
 self:=λ_ _ _ _ _ st h=>wpAny_pyIter_zip st.1 h
def QQ(K:aq)(tl:TA):TI:=λZ H R=>tl Z H λvs H1=>∃l1 l2,vs=[.ref l1,.ref l2]/\(∃xs,SqL K H1 l1 xs)/\(∃ys,SqL K H1 l2 ys)/\R (Itz K l1 l2) H1
variable{p:Pos}
theorem MH{x1}{ta:TA}(hg:Gl X "zip")(hm:X.mg "zip"=none)(ha:PA X [a,b] ta)(hs:autoParam (starEach [a,b] X.env=(false,eval a X.env)::starEach [b] X.env) Za1._auto_1)(xi:autoParam (starEach [b] X.env=[(false,eval b X.env)]) Za1._auto_1):PI X (.Tuple elts x1 tp) (.Call (.Name "zip" p) [a,b] [] pos) (QQ X.K ta):=by
 intro e8 s Z H R I h;refine Call_ (kz I hg hm boot_zip (GbN (thn (ha pos e8 s Z H _ I h) λus s1 ⟨vs,H1,I1,r1,q1⟩=> ?_) hs (by rw[xi];rfl)));obtain⟨l1,l2,e,⟨xs,zx⟩,⟨ys,yM⟩,q⟩:=q1;subst e;cases r1 with
 |cons r rr=>
 cases rr with
 |cons r2 rr=>
  cases rr;cases r;cases r2;obtain⟨zI,Rb,p1,_⟩:=I1.list zx;obtain⟨eI,Ra,p2,_⟩:=I1.list yM;have lt1:l1<s1.heap.objs.size:=let⟨_,ho,_⟩:=p1.isList;Gau ho
  have lt2:l2<s1.heap.objs.size:=let⟨_,ho,_⟩:=p2.isList;Gau ho
  have D:ZipApart (s1.heap.objs.size+4) (s1.heap.objs.size+2) (s1.heap.objs.size+3) s1.heap.objs.size (s1.heap.objs.size+1) l1 l2:=by
   have k:∀{l:Addr},l<s1.heap.objs.size->∀i:Nat,l≠s1.heap.objs.size+i:=λq i=>GaH (Nat.lt_add_right i q);have m:∀i j:Nat,i≠j->s1.heap.objs.size+i≠s1.heap.objs.size+j:=λi j q z=>q (Nat.add_left_cancel z);exact⟨m 2 4 (by decide),m 3 4 (by decide),m 0 4 (by decide),m 1 4 (by decide),m 2 3 (by decide),m 2 0 (by decide),m 2 1 (by decide),m 3 0 (by decide),m 3 1 (by decide),m 0 1 (by decide),k lt1 4,k lt1 3,k lt1 0,k lt1 1,k lt2 4,k lt2 3,k lt2 0,k lt2 1⟩
  refine call_zip_2 p1.isList p2.isList λh' a1 a2 a3 a4 a5 a6 kk=> ?_;refine wpAny_pyIter_zip (s:={s1 with heap:=h' }) a1 ?_;have Rx:∀b∈[s1.heap.objs.size+4,s1.heap.objs.size+2,s1.heap.objs.size+3,s1.heap.objs.size,s1.heap.objs.size+1],kB X e8 H1 b:=λb hb=>by
   have le:s1.heap.objs.size<=b:=by
    simp only[Gar,Gcg,GdS] at hb;rcases hb with rfl|rfl|rfl|rfl|rfl<;>lia
   exact I1.Ey le (I1.hok.fresh le)
  exact⟨s1.heap.objs.size+4,[s1.heap.objs.size+4,s1.heap.objs.size+2,s1.heap.objs.size+3,s1.heap.objs.size,s1.heap.objs.size+1],_,_,H1,rfl,I1.kept (t' :=s1.toks) kk,HI _ _ _ _ _ l1 l2 D,⟨a1,a2,⟨_,_,a3⟩,a4,a5⟩,Rx,q⟩
theorem MI{x1}(hg:Gl X "zip")(hm:X.mg "zip"=none)(he:PEd X a f)(hd:PEd X b g)(hs:autoParam (starEach [a,b] X.env=(false,eval a X.env)::starEach [b] X.env) Za1._auto_1)(xi:autoParam (starEach [b] X.env=[(false,eval b X.env)]) Za1._auto_1):PId X (.Tuple elts x1 tp) (.Call (.Name "zip" p) [a,b] [] pos) (OT f g):=by
 refine(MH hg hm (bS he (bS hd dO xi) hs) hs xi).aF ?_;rintro Z H R ⟨H0,eC,env,ds,E,hf,k⟩;obtain⟨⟨k1,d1⟩,hr,T2⟩:=eA hf;obtain⟨⟨k2,d2⟩,hq,xw⟩:=eA T2;clear he hd hf T2;revert xw;intro hf;split at hf
 .cases hf
 rename_i hk;split at hf
 .rename_i xs ys S9 hd2;have hd1' :d1= .lst xs:=S9;have hd2' :d2= .lst ys:=hd2;subst hd1' hd2';cases hf;refine⟨H0,eC,env,[⟨k1,.lst xs⟩,⟨k2,.lst ys⟩],E,by unfold a7 ae;rw[hr,hq];rfl,λvs H1 s1 Rs=> ?_⟩;cases Rs with
  |cons R1 tl=>
  cases tl with
  |cons R2 tl=>
   cases tl;have i1:=R1.inn;have i2:=R2.inn;have n1:=qv E rfl (λz=>hk (.inl z)) R1;have n2:=qv E rfl (λz=>hk (.inr z)) R2;have E1:=E.mono s1;cases i1 with
   | @lst a1 v1 _ h1 r1=>
   cases i2 with
   | @lst a2 v2 _ h2 r2=>
    refine⟨_,_,rfl,⟨_,.inl h1⟩,⟨_,.inl h2⟩,k _ H1 s1 λHi keep=> ?_⟩;have hh:∀{la:Addr} {lv:List V},Rd H1 la (.lst lv)->¬Ow env Z la->Rd Hi la (.lst lv):=λh no=>by
     rcases h with h| ⟨o,h⟩
     .exact .inl (keep _ _ h no)
     .exact .inr ⟨o,keep _ _ h no⟩
    have g1:=hh h1 (n1 _ rfl);have g2:=hh h2 (n2 _ rfl);refine⟨λi d hd=> ?_,⟨_,_,.inl g1,.inl g2, ?_⟩⟩
    .unfold GH at hd;rw[List.getElem?_zipWith] at hd;split at hd
     .rename_i x y hx hy;cases hd;obtain⟨v,w1,w2⟩:=r1.get hx;obtain⟨v',w3,w4⟩:=r2.get hy;refine⟨⟨_,_,v,v',.inl g1,.inl g2,w1,w3⟩,λz H2 ⟨p,u,u',hp,ez,eH,e1,e2⟩=> ?_⟩;subst ez eH;have q1:=e1 _ (.inl g1);have q2:=e2 _ (.inl g2);rw[w1] at q1;cases q1
      rw[w3] at q2;cases q2
      exact⟨bf hp,fh hp (.cons (E1.iq keep w2) (.cons (E1.iq keep w4) .nil))⟩
     .cases hd
    .unfold GH;rw[List.length_zipWith,r1.1,r2.1];lia
 .cases hf
end
end DL
namespace Den
open DL PySem
noncomputable def jU:DS:=
 (retS (ft none 1 [1] (fT (ixE (vE 0) (kE (.int 1)))) (gN 0) (az eqB (ixE (vE 0) (kE (.int 0))) (vE 1)) (aS (a7 (ixE (vE 0) (kE (.int 1))) (a7 (ixE (vE 0) (kE (.int 2))) ae)))))
noncomputable def i8:List D->Option D:=cG 2 2 jU
noncomputable def m8:DS:=
 (ai (ifS (az eqB (ixE (vE 0) (kE (.int 0))) (kE (.str "ever")))
  (retS (ixE (vE 0) (kE (.int 1))))
  aL)
 (ai (ifS (az eqB (ixE (vE 0) (kE (.int 0))) (kE (.str "flat")))
  (retS (ixE (vE 0) (kE (.int 2))))
  aL)
 (ai (ifS (az ky (vE 1) (kE .non))
  (retS (kE .non))
  aL)
 (retS (opE dw (opE bD (vE 1) (ixE (vE 0) (kE (.int 2)))) (ixE (vE 0) (kE (.int 3))))))))
noncomputable def i9:List D->Option D:=cG 2 2 m8
noncomputable def Cn:DS:=
 (ai (ar 2 (ixE (vE 0) (kE (.int 4))))
 (ai (ar 3 (opE av (ixE (vE 2) (kE (.int 1))) (opE bD (vE 1) (ixE (vE 2) (kE (.int 2))))))
 (retS (aS (a7 (opE gI (vE 3) (ixE (vE 2) (kE (.int 4)))) (a7 (opE av (vE 3) (ixE (vE 2) (kE (.int 5)))) ae))))))
noncomputable def nA:List D->Option D:=cG 4 2 Cn
noncomputable def w6:DS:=
 (ai (ar 4 (ao nA (a7 (vE 0) (a7 (vE 2) ae))))
 (ai (ifS (BM (bZ anyS (a7 (ft (some 1) 1 [4] (fT (vE 1)) (gN 0) cT (bE (mX leB leB (ixE (vE 1) (kE (.int 0))) (vE 0) (ixE (vE 1) (kE (.int 1)))))) ae)))
  (retS (kE (.str "given")))
  aL)
 (ai (ifS (az gtB (ixE (vE 4) (kE (.int 0))) (vE 3))
  (retS (kE (.str "ahead")))
  aL)
 (ai (ifS (az ltB (ixE (vE 4) (kE (.int 1))) (vE 3))
  (retS (kE (.str "missed")))
  aL)
 (retS (kE (.str "open")))))))
noncomputable def m9:List D->Option D:=cG 5 4 w6
noncomputable def iI:DS:=
 (ifS (iS (az eqB (ixE (vE 4) (kE (.int 0))) (vE 1)) (az leB (ixE (vE 4) (kE (.int 1))) (vE 2)))
  (ar 3 (ixE (vE 4) (kE (.int 2))))
  aL)
noncomputable def lx:DS:=
 (ai (ar 3 (kE .non))
 (ai (fD (some 0) (fT (vE 0)) (gN 4)
  iI)
 (retS (vE 3))))
noncomputable def gr:List D->Option D:=cG 5 3 lx
noncomputable def fw:DT:=
 (iS (az fQ (vE 1) (kE .non)) (az leB (ixE (ixE (vE 2) (vE 5)) (kE (.int 0))) (opE gI (ixE (vE 7) (kE (.int 0))) (vE 1))))
noncomputable def iv:DS:=
 (ai (ar 4 (opE gI (vE 4) (ixE (ixE (vE 2) (vE 5)) (kE (.int 1)))))
 (ar 5 (opE av (vE 5) (kE (.int 1)))))
noncomputable def cM:DS:=
 (ai (ar 4 (opE av (vE 4) (ixE (vE 7) (kE (.int 1)))))
 (ai (vv fw
  iv)
 (ifS (orT (az eqB (opE av (vE 6) (kE (.int 1))) (bZ dG (a7 (vE 2) ae))) (az gtB (ixE (ixE (vE 2) (opE av (vE 6) (kE (.int 1)))) (kE (.int 0))) (ixE (vE 7) (kE (.int 0)))))
  (gX 3 (aS (a7 (ixE (vE 7) (kE (.int 0))) (a7 (vE 4) ae))))
  aL)))
noncomputable def w8:DS:=
 (ai (ar 2 (bZ sortedS (a7 (vE 0) ae)))
 (ai (ar 3 (fE ae))
 (ai (ar 4 (kE (.int 0)))
 (ai (ar 5 (kE (.int 0)))
 (ai (fD (some 2) (Ll (vE 2)) (gT [6,7])
  cM)
 (retS (vE 3)))))))
noncomputable def ja:List D->Option D:=cG 8 2 w8
noncomputable def iJ:DS:=
 (retS (ft none 1 [] (fT (ao i8 (a7 (vE 0) (a7 (vE 1) ae)))) (gN 0) cT (ixE (vE 0) (kE (.int 0)))))
noncomputable def c6:List D->Option D:=cG 2 2 iJ
noncomputable def jb:DS:=
 (ai (ar 3 (ixE (ixE (vE 0) (kE (.int 3))) (vE 1)))
 (retS (bE (iS (az geB (vE 2) (kE (.int 1))) (iS (az eqB (opE aR (vE 2) (ixE (ixE (ixE (ixE (vE 0) (kE (.int 1))) (ixE (vE 3) (kE (.int 2)))) (kE (.int 1))) (kE (.int 0)))) (kE (.int 0))) (az leB (vE 2) (ixE (ixE (vE 3) (kE (.int 3))) (kE (.int 3)))))))))
noncomputable def dP:List D->Option D:=cG 4 3 jb
noncomputable def c9:DS:=
 (ai (ar 8 (ao nA (a7 (vE 0) (a7 (vE 7) ae))))
 (ai (gX 5 (aS (a7 (vE 6) (a7 (opE gI (ixE (vE 8) (kE (.int 0))) (kE (.int 1))) ae))))
 (ai (ifS (az eqB (ao m9 (a7 (vE 0) (a7 (vE 1) (a7 (vE 7) (a7 (vE 2) ae))))) (kE (.str "given")))
  (gX 5 (vE 8))
  aL)
 (ar 6 (opE av (ixE (vE 8) (kE (.int 1))) (kE (.int 1)))))))
noncomputable def f9:DS:=
 (ai (ar 4 (ixE (vE 0) (kE (.int 4))))
 (ai (ifS (az eqB (ixE (vE 4) (kE (.int 0))) (kE (.str "asked")))
  (retS (fE (a7 (aS (a7 (vE 2) (a7 (opE gI (ixE (vE 4) (kE (.int 1))) (kE (.int 1))) ae))) ae)))
  aL)
 (ai (ar 5 (fE ae))
 (ai (ar 6 (vE 2))
 (ai (fD none (cV (ixE (vE 4) (kE (.int 3)))) (gN 7)
  c9)
 (ai (gX 5 (aS (a7 (vE 6) (a7 (vE 3) ae))))
 (retS (vE 5))))))))
noncomputable def bJ:List D->Option D:=cG 9 4 f9
noncomputable def rV:DS:=
 (ai (ar 3 (aS (a7 (bZ qN (a7 (vE 1) (a7 (vE 2) ae))) (a7 (bZ wY (a7 (vE 1) (a7 (vE 2) ae))) ae))))
 (retS (bZ Jx (a7 (ft (some 0) 1 [3] (fT (vE 0)) (gN 0) (az eqB (aS (a7 (ixE (vE 0) (kE (.int 0))) (a7 (ixE (vE 0) (kE (.int 1))) ae))) (vE 1)) (ixE (vE 0) (kE (.int 2)))) ae))))
noncomputable def og:List D->Option D:=cG 4 3 rV
noncomputable def d5:DS:=
 (ai (ar 6 (ixE (ixE (vE 0) (kE (.int 3))) (ixE (vE 5) (kE (.int 0)))))
 (ifS (az eqB (ixE (vE 6) (kE (.int 1))) (ixE (vE 3) (kE (.int 1))))
  (ai (ar 7 (ao og (a7 (ixE (vE 0) (kE (.int 2))) (a7 (ixE (vE 3) (kE (.int 2))) (a7 (ixE (vE 6) (kE (.int 2))) ae)))))
 (gX 4 (aS (a7 (opE av (opE gI (ixE (vE 5) (kE (.int 1))) (vE 7)) (kE (.int 1))) (a7 (opE gI (opE av (ixE (vE 5) (kE (.int 1))) (vE 7)) (kE (.int 1))) ae)))))
  aL))
noncomputable def gM:DS:=
 (ai (ar 3 (ixE (ixE (vE 0) (kE (.int 3))) (vE 2)))
 (ai (ar 4 (fE ae))
 (ai (fD none (fT (ixE (vE 1) (kE (.int 1)))) (gN 5)
  d5)
 (retS (vE 4)))))
noncomputable def d9:List D->Option D:=cG 8 3 gM
noncomputable def gO:DS:=
 (ai (ar 5 (ixE (ixE (vE 0) (kE (.int 3))) (vE 2)))
 (ai (ar 6 (ixE (ixE (vE 0) (kE (.int 1))) (ixE (vE 5) (kE (.int 2)))))
 (ai (ar 7 (fE (a7 (aS (a7 (vE 3) (a7 (opE gI (opE av (ixE (ixE (ixE (vE 0) (kE (.int 0))) (ixE (vE 5) (kE (.int 1)))) (kE (.int 1))) (ixE (vE 6) (kE (.int 3)))) (kE (.int 1))) ae))) ae)))
 (ai (ifS (BM (bZ anyS (a7 (ft none 1 [] (fT (ixE (vE 6) (kE (.int 2)))) (gN 0) cT (bE (az eqB (ixE (vE 0) (kE (.int 0))) (kE (.str "kilo"))))) ae)))
  (ai (ar 8 (ft none 1 [5] (fT (ixE (vE 1) (kE (.int 0)))) (gN 0) (az eqB (ixE (vE 0) (kE (.int 0))) (ixE (vE 1) (kE (.int 1)))) (ixE (vE 0) (kE (.int 1)))))
 (gX 7 (aS (a7 (vE 3) (a7 (opE gI (mmX kO (vE 8) (opE av (vE 4) (kE (.int 1)))) (kE (.int 1))) ae)))))
  aL)
 (retS (vE 7))))))
noncomputable def cx:List D->Option D:=cG 9 5 gO
noncomputable def gh:DS:=
 (ai (ar 6 (ixE (ixE (vE 0) (kE (.int 3))) (ixE (vE 5) (kE (.int 0)))))
 (ifS (iS (az eqB (ixE (vE 6) (kE (.int 1))) (ixE (vE 3) (kE (.int 1)))) (az eqB (ixE (vE 6) (kE (.int 2))) (ixE (vE 3) (kE (.int 2)))))
  (gX 4 (aS (a7 (ixE (vE 5) (kE (.int 1))) (a7 (ixE (vE 5) (kE (.int 2))) ae))))
  aL))
noncomputable def nB:DS:=
 (ai (ar 3 (ixE (ixE (vE 0) (kE (.int 3))) (vE 2)))
 (ai (ar 4 (fE ae))
 (ai (fD none (fT (ixE (vE 1) (kE (.int 1)))) (gN 5)
  gh)
 (retS (vE 4)))))
noncomputable def iK:List D->Option D:=cG 7 3 nB
noncomputable def ly:DS:=
 (ai (ar 5 (opE av (fE (a7 (vE 4) ae)) (ft (some 2) 1 [3] (fT (vE 2)) (gN 0) (az eqB (ixE (vE 0) (kE (.int 0))) (vE 1)) (ixE (vE 0) (kE (.int 1))))))
 (ai (ifS (az eqB (ixE (vE 0) (kE (.int 0))) (kE (.str "ever")))
  (retS (vE 5))
  aL)
 (retS (opE av (vE 5) (ft (some 1) 1 [0] (fT (vE 1)) (gN 0) cT (opE av (ixE (vE 0) (kE (.int 0))) (ixE (vE 1) (kE (.int 1)))))))))
noncomputable def gx:List D->Option D:=cG 6 5 ly
noncomputable def bA:DS:=
 (ai (ar 14 (ao i9 (a7 (vE 0) (a7 (ao gr (a7 (vE 2) (a7 (vE 3) (a7 (ixE (vE 11) (kE (.int 0))) ae)))) ae))))
 (ifS (iS (az fQ (vE 14) (kE .non)) (az gtB (opE av (ixE (vE 11) (kE (.int 1))) (vE 4)) (vE 14)))
  (ai (ar 15 (ixE (vE 11) (kE (.int 0))))
 (ai (ifS (az inB (vE 15) (vE 8))
  (ar 15 (ifE (az ky (vE 7) (kE .non)) (vE 5) (opE av (opE gI (vE 15) (vE 7)) (kE (.int 1)))))
  aL)
 (gX 12 (aS (a7 (vE 15) (a7 (vE 13) ae))))))
  aL))
noncomputable def gP:DS:=
 (ai (ar 7 (ifE (az eqB (ixE (vE 0) (kE (.int 0))) (kE (.str "ever"))) (kE .non) (ixE (vE 0) (kE (.int 1)))))
 (ai (ar 8 (ft (some 1) 1 [] (fT (vE 1)) (gN 0) cT (ixE (vE 0) (kE (.int 0)))))
 (ai (ar 9 (ao ja (a7 (opE av (vE 1) (ft none 1 [] (fT (ao gx (a7 (vE 0) (a7 (vE 1) (a7 (vE 2) (a7 (vE 3) (a7 (vE 5) ae))))))) (gN 0) cT (aS (a7 (vE 0) (a7 (kE (.int 0)) ae))))) (a7 (vE 7) ae))))
 (ai (ar 10 (opE av (ft none 1 [] (fT (slE (vE 9) (GF (kE (.int 1))) noO)) (gN 0) cT (opE gI (ixE (vE 0) (kE (.int 0))) (kE (.int 1)))) (fE (a7 (vE 6) ae))))
 (ai (ar 12 (fE ae))
 (ai (OR [9,10] (fD none (OT (vE 9) (vE 10)) (gT [11,13])
  bA))
 (retS (vE 12))))))))
noncomputable def bK:List D->Option D:=cG 16 7 gP
noncomputable def bQ:DS:=
 (GG 9 (ao bK (a7 (vE 10) (a7 (vE 8) (a7 (ixE (vE 1) (kE (.int 0))) (a7 (ixE (vE 6) (kE (.int 1))) (a7 (vE 3) (a7 (vE 4) (a7 (vE 5) ae)))))))))
noncomputable def fY:DS:=
 (ai (ar 6 (ixE (ixE (vE 0) (kE (.int 3))) (vE 2)))
 (ai (ar 7 (ao c6 (a7 (vE 1) (a7 (vE 2) ae))))
 (ai (ar 8 (ao iK (a7 (vE 0) (a7 (vE 1) (a7 (vE 2) ae)))))
 (ai (ar 9 (ft (some 7) 1 [] (fT (vE 7)) (gN 0) cT (aS (a7 (vE 0) (a7 (vE 0) ae)))))
 (ai (GG 9 (ao bJ (a7 (vE 6) (a7 (vE 7) (a7 (vE 4) (a7 (vE 5) ae))))))
 (ai (GG 9 (ao d9 (a7 (vE 0) (a7 (vE 1) (a7 (vE 2) ae)))))
 (ai (GG 9 (ao cx (a7 (vE 0) (a7 (vE 1) (a7 (vE 2) (a7 (vE 4) (a7 (vE 5) ae)))))))
 (ai (fD none (fT (ixE (ixE (ixE (vE 0) (kE (.int 1))) (ixE (vE 6) (kE (.int 2)))) (kE (.int 2)))) (gN 10)
  bQ)
 (retS (vE 9))))))))))
noncomputable def cN:List D->Option D:=cG 11 6 fY
noncomputable def fZ:DS:=
 (ai (ifS (az gtB (ixE (vE 7) (kE (.int 0))) (vE 6))
  bkS
  aL)
 (ifS (az geB (ixE (vE 7) (kE (.int 1))) (vE 6))
  (ar 6 (opE av (ixE (vE 7) (kE (.int 1))) (kE (.int 1))))
  aL))
noncomputable def wa:DS:=
 (ai (ifS (Mg (BM (ao dP (a7 (vE 0) (a7 (vE 2) (a7 (vE 3) ae))))))
  (retS (kE .non))
  aL)
 (ai (ar 6 (vE 4))
 (ai (fD none (fT (bZ sortedS (a7 (ao cN (a7 (vE 0) (a7 (vE 1) (a7 (vE 2) (a7 (vE 3) (a7 (vE 4) (a7 (vE 5) ae))))))) ae))) (gN 7)
  fZ)
 (ai (ifS (az gtB (vE 6) (vE 5))
  (retS (kE .non))
  aL)
 (retS (vE 6))))))
noncomputable def lz:List D->Option D:=cG 8 6 wa
noncomputable def lA:DS:=
 (ai (ar 2 (kE (.int 0)))
 (ai (ifS (az gtB (bZ dG (a7 (vE 0) ae)) (kE (.int 0)))
  (ar 2 (ixE (vE 0) (opE aR (vE 1) (bZ dG (a7 (vE 0) ae)))))
  aL)
 (ai (ar 3 (opE aR (opE av (opE av (opE bD (opE aR (vE 2) (kE (.int 1000003))) (kE (.int 48271))) (opE bD (opE bD (vE 1) (vE 1)) (kE (.int 7919)))) (kE (.int 1))) (kE (.int 65521))))
 (retS (opE aR (opE bD (vE 3) (vE 3)) (kE (.int 65519)))))))
noncomputable def a8:List D->Option D:=cG 4 2 lA
noncomputable def pA:DS:=
 (retS (ixE (fE (a7 (kE (.int 1)) (a7 (kE (.int 1)) (a7 (kE (.int 1)) (a7 (kE (.int 1)) (a7 (kE (.int 1)) (a7 (opE BL (kE (.int 10)) (kE (.int 6))) ae))))))) (opE aR (ao a8 (a7 (vE 0) (a7 (kE (.int 300)) ae))) (kE (.int 6)))))
noncomputable def cy:List D->Option D:=cG 1 1 pA
noncomputable def jv:DS:=
 (ai (ar 4 (opE bD (vE 3) (opE av (kE (.int 3)) (opE aR (ao a8 (a7 (vE 0) (a7 (opE av (vE 1) (kE (.int 1))) ae))) (kE (.int 28))))))
 (ai (ar 5 (opE aR (ao a8 (a7 (vE 0) (a7 (vE 1) ae))) (kE (.int 3))))
 (ai (ifS (az eqB (vE 5) (kE (.int 0)))
  (retS (aS (a7 (kE (.str "flat")) (a7 (vE 4) (a7 (opE bD (vE 2) (opE av (kE (.int 3)) (opE aR (ao a8 (a7 (vE 0) (a7 (opE av (vE 1) (kE (.int 2))) ae))) (kE (.int 18))))) ae)))))
  aL)
 (ai (ifS (az eqB (vE 5) (kE (.int 1)))
  (retS (aS (a7 (kE (.str "kilo")) (a7 (vE 4) (a7 (opE bD (vE 2) (opE av (kE (.int 1)) (opE aR (ao a8 (a7 (vE 0) (a7 (opE av (vE 1) (kE (.int 3))) ae))) (kE (.int 9))))) (a7 (opE av (kE (.int 5)) (opE aR (ao a8 (a7 (vE 0) (a7 (opE av (vE 1) (kE (.int 4))) ae))) (kE (.int 40)))) ae))))))
  aL)
 (retS (aS (a7 (kE (.str "ever")) (a7 (opE bD (vE 2) (opE av (kE (.int 8)) (opE aR (ao a8 (a7 (vE 0) (a7 (opE av (vE 1) (kE (.int 2))) ae))) (kE (.int 30))))) ae))))))))
noncomputable def g7:List D->Option D:=cG 6 4 jv
noncomputable def dz:DS:=
 (gX 5 (opE av (ixE (vE 5) (unE GC (kE (.int 1)))) (opE bD (vE 4) (opE av (kE (.int 1)) (opE aR (ao a8 (a7 (vE 0) (a7 (opE av (opE av (vE 1) (kE (.int 2))) (vE 6)) ae))) (kE (.int 6)))))))
noncomputable def fG:DS:=
 (gX 7 (ao g7 (a7 (vE 0) (a7 (opE av (opE av (vE 1) (kE (.int 6))) (opE bD (kE (.int 5)) (vE 6))) (a7 (vE 4) (a7 (vE 3) ae))))))
noncomputable def lB:DS:=
 (ai (ar 4 (opE bD (opE av (kE (.int 1)) (opE aR (ao a8 (a7 (vE 0) (a7 (vE 1) ae))) (kE (.int 5)))) (ixE (fE (a7 (kE (.int 1)) (a7 (kE (.int 1)) (a7 (opE BL (kE (.int 10)) (kE (.int 4))) ae)))) (opE aR (ao a8 (a7 (vE 0) (a7 (kE (.int 301)) ae))) (kE (.int 3))))))
 (ai (ar 5 (fE (a7 (vE 4) ae)))
 (ai (fD none (cV (opE aR (ao a8 (a7 (vE 0) (a7 (opE av (vE 1) (kE (.int 1))) ae))) (kE (.int 3)))) (gN 6)
  dz)
 (ai (ar 7 (fE ae))
 (ai (fD none (cV (opE aR (ao a8 (a7 (vE 0) (a7 (opE av (vE 1) (kE (.int 4))) ae))) (kE (.int 3)))) (gN 6)
  fG)
 (ai (ar 8 (ao a8 (a7 (vE 0) (a7 (opE av (vE 1) (kE (.int 5))) ae))))
 (retS (aS (a7 (vE 2) (a7 (bZ fg (a7 (vE 5) ae)) (a7 (bZ fg (a7 (vE 7) ae)) (a7 (opE bD (opE bD (opE aR (vE 8) (kE (.int 2))) (vE 3)) (opE aR (opE dw (vE 8) (kE (.int 2))) (kE (.int 20)))) ae))))))))))))
noncomputable def gy:List D->Option D:=cG 9 4 lB
noncomputable def jV:DS:=
 (ai (ifS (az eqB (opE aR (ao a8 (a7 (vE 0) (a7 (vE 1) ae))) (kE (.int 4))) (kE (.int 0)))
  (retS (aS (a7 (kE (.str "asked")) (a7 (opE bD (vE 2) (opE aR (ao a8 (a7 (vE 0) (a7 (opE av (vE 1) (kE (.int 1))) ae))) (kE (.int 20)))) ae))))
  aL)
 (ai (ar 3 (opE av (kE (.int 2)) (opE aR (ao a8 (a7 (vE 0) (a7 (opE av (vE 1) (kE (.int 2))) ae))) (kE (.int 10)))))
 (ai (ar 4 (opE aR (ao a8 (a7 (vE 0) (a7 (opE av (vE 1) (kE (.int 3))) ae))) (vE 3)))
 (ai (ar 5 (opE aR (ao a8 (a7 (vE 0) (a7 (opE av (vE 1) (kE (.int 4))) ae))) (opE gI (vE 3) (vE 4))))
 (ai (ar 6 (opE av (vE 4) (opE aR (ao a8 (a7 (vE 0) (a7 (opE av (vE 1) (kE (.int 1))) ae))) (kE (.int 12)))))
 (retS (aS (a7 (kE (.str "due")) (a7 (opE bD (vE 2) (vE 6)) (a7 (opE bD (vE 2) (vE 3)) (a7 (opE av (kE (.int 1)) (opE aR (ao a8 (a7 (vE 0) (a7 (opE av (vE 1) (kE (.int 5))) ae))) (kE (.int 6)))) (a7 (opE bD (vE 2) (vE 4)) (a7 (opE bD (vE 2) (vE 5)) ae)))))))))))))
noncomputable def iL:List D->Option D:=cG 7 3 jV
noncomputable def fH:DS:=
 (ai (ar 14 (opE av (opE av (vE 14) (kE (.int 1))) (opE aR (ao a8 (a7 (vE 0) (a7 (opE av (opE av (vE 1) (kE (.int 14))) (vE 15)) ae))) (kE (.int 2)))))
 (ai (ar 16 (opE av (kE (.int 1)) (opE aR (ao a8 (a7 (vE 0) (a7 (opE av (opE av (vE 1) (kE (.int 16))) (vE 15)) ae))) (kE (.int 12)))))
 (ifS (iS (az eqB (ixE (vE 12) (kE (.int 0))) (kE (.str "due"))) (az ltB (vE 14) (ixE (vE 12) (kE (.int 3)))))
  (gX 13 (aS (a7 (vE 14) (a7 (opE av (kE (.int 1)) (opE aR (ao a8 (a7 (vE 0) (a7 (opE av (opE av (vE 1) (kE (.int 18))) (vE 15)) ae))) (vE 16))) (a7 (vE 16) ae)))))
  aL)))
noncomputable def lC:DS:=
 (ai (ar 6 (opE aR (ao a8 (a7 (vE 0) (a7 (vE 1) ae))) (bZ dG (a7 (vE 4) ae))))
 (ai (ar 7 (ixE (ixE (ixE (vE 4) (vE 6)) (kE (.int 1))) (kE (.int 0))))
 (ai (ar 8 (opE bD (vE 7) (opE av (kE (.int 1)) (opE aR (ao a8 (a7 (vE 0) (a7 (opE av (vE 1) (kE (.int 1))) ae))) (kE (.int 12))))))
 (ai (ar 9 (opE bD (opE aR (ao a8 (a7 (vE 0) (a7 (opE av (vE 1) (kE (.int 2))) ae))) (kE (.int 2))) (opE av (kE (.int 10)) (opE aR (ao a8 (a7 (vE 0) (a7 (opE av (vE 1) (kE (.int 3))) ae))) (kE (.int 90))))))
 (ai (ar 10 (opE av (opE av (opE bD (vE 7) (opE aR (ao a8 (a7 (vE 0) (a7 (opE av (vE 1) (kE (.int 4))) ae))) (kE (.int 8)))) (kE (.int 1))) (opE aR (ao a8 (a7 (vE 0) (a7 (opE av (vE 1) (kE (.int 5))) ae))) (vE 7))))
 (ai (ar 11 (aS (a7 (ixE (fE (a7 (kE (.str "down")) (a7 (kE (.str "up")) (a7 (kE (.str "near")) ae)))) (opE aR (ao a8 (a7 (vE 0) (a7 (opE av (vE 1) (kE (.int 6))) ae))) (kE (.int 3)))) (a7 (vE 10) (a7 (vE 9) (a7 (vE 8) ae))))))
 (ai (ar 12 (ao iL (a7 (vE 0) (a7 (opE av (vE 1) (kE (.int 8))) (a7 (vE 5) ae)))))
 (ai (ar 13 (fE ae))
 (ai (ar 14 (kE (.int 0)))
 (ai (fD none (cV (opE aR (ao a8 (a7 (vE 0) (a7 (opE av (vE 1) (kE (.int 7))) ae))) (kE (.int 3)))) (gN 15)
  fH)
 (retS (aS (a7 (vE 2) (a7 (opE aR (ao a8 (a7 (vE 0) (a7 (opE av (vE 1) (kE (.int 20))) ae))) (bZ dG (a7 (vE 3) ae))) (a7 (vE 6) (a7 (vE 11) (a7 (vE 12) (a7 (bZ fg (a7 (vE 13) ae)) ae))))))))))))))))))
noncomputable def gz:List D->Option D:=cG 17 6 lC
noncomputable def dA:DS:=
 (gX 3 (aS (a7 (ixE (ixE (vE 2) (kE (.int 0))) (vE 4)) (a7 (opE bD (vE 1) (opE aR (ao a8 (a7 (vE 0) (a7 (opE av (kE (.int 302)) (vE 4)) ae))) (kE (.int 10)))) ae))))
noncomputable def dB:DS:=
 (gX 5 (ao gy (a7 (vE 0) (a7 (opE av (kE (.int 310)) (opE bD (kE (.int 20)) (vE 4))) (a7 (ixE (ixE (vE 2) (kE (.int 1))) (vE 4)) (a7 (vE 1) ae))))))
noncomputable def cO:DS:=
 (ifS (az eqB (opE aR (ao a8 (a7 (vE 0) (a7 (opE av (opE av (kE (.int 370)) (opE bD (kE (.int 3)) (vE 7))) (vE 8)) ae))) (kE (.int 3))) (kE (.int 0)))
  (ai (ar 9 (opE bD (vE 1) (opE av (kE (.int 1)) (opE aR (ao a8 (a7 (vE 0) (a7 (opE av (opE av (kE (.int 380)) (opE bD (kE (.int 3)) (vE 7))) (vE 8)) ae))) (kE (.int 8))))))
 (OQ 6 (opE aR (ao a8 (a7 (vE 0) (a7 (opE av (opE av (kE (.int 390)) (opE bD (kE (.int 3)) (vE 7))) (vE 8)) ae))) (opE av (bZ dG (a7 (vE 6) ae)) (kE (.int 1)))) (aS (a7 (vE 7) (a7 (vE 8) (a7 (vE 9) ae))))))
  aL)
noncomputable def cP:DS:=
 (fD none (vw (vE 7) (bZ dG (a7 (vE 5) ae))) (gN 8)
  cO)
noncomputable def dC:DS:=
 (gX 10 (ao gz (a7 (vE 0) (a7 (opE av (kE (.int 400)) (opE bD (kE (.int 25)) (vE 4))) (a7 (ixE (ixE (vE 2) (kE (.int 2))) (vE 4)) (a7 (vE 3) (a7 (vE 5) (a7 (vE 1) ae))))))))
noncomputable def lD:DS:=
 (ai (ar 1 (ao cy (a7 (vE 0) ae)))
 (ai (ar 2 (ixE (fE (a7 (fE (a7 (kE (.str "abc")) (a7 (kE (.str "uvw")) (a7 (kE (.str "klmn")) ae)))) (a7 (fE (a7 (kE (.str "abcd")) (a7 (kE (.str "abcd")) (a7 (kE (.str "abcd")) ae)))) ae))) (bZ A4 (a7 (bE (az eqB (opE aR (ao a8 (a7 (vE 0) (a7 (kE (.int 299)) ae))) (kE (.int 3))) (kE (.int 0)))) ae))))
 (ai (ar 3 (fE ae))
 (ai (fD none (cV (opE av (kE (.int 1)) (opE aR (ao a8 (a7 (vE 0) (a7 (kE (.int 305)) ae))) (kE (.int 3))))) (gN 4)
  dA)
 (ai (ar 5 (fE ae))
 (ai (fD none (cV (opE av (kE (.int 1)) (opE aR (ao a8 (a7 (vE 0) (a7 (kE (.int 306)) ae))) (kE (.int 3))))) (gN 4)
  dB)
 (ai (ar 6 (fE ae))
 (ai (fD none (cV (bZ dG (a7 (vE 5) ae))) (gN 7)
  cP)
 (ai (ar 10 (fE ae))
 (ai (fD none (cV (opE av (kE (.int 1)) (opE aR (ao a8 (a7 (vE 0) (a7 (kE (.int 307)) ae))) (kE (.int 4))))) (gN 4)
  dC)
 (retS (aS (a7 (bZ fg (a7 (vE 3) ae)) (a7 (bZ fg (a7 (vE 5) ae)) (a7 (bZ fg (a7 (vE 6) ae)) (a7 (bZ fg (a7 (vE 10) ae)) ae))))))))))))))))
noncomputable def gA:List D->Option D:=cG 11 1 lD
noncomputable def jW:DS:=
 (ai (ar 4 (ixE (vE 2) (kE (.int 4))))
 (ai (ifS (az eqB (ixE (vE 4) (kE (.int 0))) (kE (.str "asked")))
  (retS (opE av (ixE (vE 4) (kE (.int 1))) (opE bD (vE 3) (opE aR (ao a8 (a7 (vE 0) (a7 (vE 1) ae))) (kE (.int 40))))))
  aL)
 (ai (ar 5 (ao a8 (a7 (vE 0) (a7 (opE av (vE 1) (kE (.int 1))) ae))))
 (ai (ar 6 (opE gI (opE av (ixE (vE 4) (kE (.int 1))) (opE bD (opE aR (ao a8 (a7 (vE 0) (a7 (vE 1) ae))) (ixE (vE 4) (kE (.int 3)))) (ixE (vE 4) (kE (.int 2))))) (ixE (vE 4) (kE (.int 4)))))
 (ai (ar 6 (opE av (opE av (vE 6) (opE bD (vE 3) (opE aR (vE 5) (opE av (kE (.int 1)) (opE dw (opE av (ixE (vE 4) (kE (.int 4))) (ixE (vE 4) (kE (.int 5)))) (vE 3)))))) (opE bD (vE 3) (bZ A4 (a7 (bE (az eqB (opE aR (vE 5) (kE (.int 7))) (kE (.int 3)))) ae)))))
 (retS (bZ qN (a7 (opE BL (kE (.int 10)) (kE (.int 9))) (a7 (opE av (vE 6) (opE bD (opE aR (opE dw (vE 5) (kE (.int 7))) (kE (.int 2))) (bZ A4 (a7 (bE (az gtB (vE 3) (kE (.int 1)))) ae)))) ae)))))))))
noncomputable def fk:List D->Option D:=cG 7 4 jW
noncomputable def lE:DS:=
 (retS (ft (some 0) 1 [] (fT (vE 0)) (gN 0) cT (aS (a7 (ixE (vE 0) (kE (.int 0))) (a7 (ixE (vE 0) (kE (.int 1))) ae)))))
noncomputable def bX:List D->Option D:=cG 1 1 lE
noncomputable def gQ:DS:=
 (ifS (iS (az eqB (ixE (vE 4) (kE (.int 0))) (vE 1)) (az leB (ixE (vE 4) (kE (.int 1))) (vE 2)))
  (ar 3 (ixE (vE 4) (kE (.int 2))))
  aL)
noncomputable def jX:DS:=
 (ai (ar 3 (kE .non))
 (ai (fD (some 0) (fT (vE 0)) (gN 4)
  gQ)
 (retS (vE 3))))
noncomputable def fI:List D->Option D:=cG 5 3 jX
noncomputable def fJ:DS:=
 (ai (ar 3 (opE av (ixE (ixE (vE 0) (kE (.int 4))) (kE (.int 1))) (opE bD (vE 2) (ixE (ixE (vE 0) (kE (.int 4))) (kE (.int 2))))))
 (ifS (mX leB leB (opE gI (vE 3) (ixE (ixE (vE 0) (kE (.int 4))) (kE (.int 4)))) (vE 1) (opE av (vE 3) (ixE (ixE (vE 0) (kE (.int 4))) (kE (.int 5)))))
  (retS (vE 2))
  aL))
noncomputable def ma:DS:=
 (ai (ifS (az eqB (ixE (ixE (vE 0) (kE (.int 4))) (kE (.int 0))) (kE (.str "due")))
  (fD none (cV (ixE (ixE (vE 0) (kE (.int 4))) (kE (.int 3)))) (gN 2)
  fJ)
  aL)
 (retS (kE .non)))
noncomputable def jw:List D->Option D:=cG 4 2 ma
noncomputable def g8:DS:=
 (ai (ifS (az eqB (ixE (vE 0) (kE (.int 0))) (kE (.str "ever")))
  (retS (ixE (vE 0) (kE (.int 1))))
  aL)
 (ai (ifS (az eqB (ixE (vE 0) (kE (.int 0))) (kE (.str "flat")))
  (retS (ixE (vE 0) (kE (.int 2))))
  aL)
 (ai (ifS (az ky (vE 1) (kE .non))
  (retS (kE .non))
  aL)
 (retS (opE dw (opE bD (vE 1) (ixE (vE 0) (kE (.int 2)))) (ixE (vE 0) (kE (.int 3))))))))
noncomputable def dD:List D->Option D:=cG 2 2 g8
noncomputable def dQ:DS:=
 (ifS (iS (az eqB (ixE (ixE (ixE (vE 0) (kE (.int 3))) (vE 9)) (kE (.int 1))) (vE 2)) (iS (az eqB (ixE (ixE (ixE (vE 0) (kE (.int 3))) (vE 9)) (kE (.int 2))) (vE 3)) (az leB (vE 10) (vE 4))))
  (ifS (orT (az eqB (ixE (vE 7) (kE (.int 0))) (kE (.str "ever"))) (az gtB (vE 10) (opE gI (vE 4) (ixE (vE 7) (kE (.int 1))))))
  (ar 8 (opE av (vE 8) (vE 11)))
  aL)
  aL)
noncomputable def dR:DS:=
 (ai (ar 7 (ixE (ixE (ixE (ixE (vE 0) (kE (.int 1))) (vE 3)) (kE (.int 2))) (vE 6)))
 (ai (ar 8 (kE (.int 0)))
 (ai (fD none (fT (ixE (vE 1) (kE (.int 1)))) (gT [9,10,11])
  dQ)
 (ai (ar 12 (ao dD (a7 (vE 7) (a7 (ao fI (a7 (ixE (vE 1) (kE (.int 0))) (a7 (vE 2) (a7 (vE 4) ae)))) ae))))
 (ifS (iS (az fQ (vE 12) (kE .non)) (az gtB (vE 8) (vE 12)))
  (gX 5 (aS (a7 (kE (.str "cap")) (a7 (vE 2) (a7 (vE 3) (a7 (vE 6) (a7 (vE 4) (a7 (vE 8) (a7 (vE 12) ae)))))))))
  aL)))))
noncomputable def nC:DS:=
 (ai (ar 5 (fE ae))
 (ai (fD none (cV (bZ dG (a7 (ixE (ixE (ixE (vE 0) (kE (.int 1))) (vE 3)) (kE (.int 2))) ae))) (gN 6)
  dR)
 (retS (vE 5))))
noncomputable def g9:List D->Option D:=cG 13 5 nC
noncomputable def dS:DS:=
 (ifS (iS (az JA (aS (a7 (vE 3) (a7 (vE 2) ae))) (aS (a7 (vE 7) (a7 (vE 6) ae)))) (iS (az eqB (ixE (ixE (vE 8) (kE (.int 0))) (kE (.int 1))) (ixE (ixE (vE 8) (kE (.int 1))) (kE (.int 1)))) (az eqB (slE (vE 10) noO (GF (kE (.int 2)))) (vE 9))))
  (ifS (az ltB (opE gI (vE 7) (vE 3)) (ixE (vE 10) (kE (.int 2))))
  (gX 4 (aS (a7 (kE (.str "gap")) (a7 (vE 2) (a7 (vE 3) (a7 (vE 6) (a7 (vE 7) ae)))))))
  aL)
  aL)
noncomputable def dU:DS:=
 (ai (ar 6 (ixE (vE 5) (kE (.int 0))))
 (ai (ar 7 (ixE (vE 5) (kE (.int 1))))
 (ai (ar 8 (fE (a7 (ixE (ixE (vE 0) (kE (.int 3))) (vE 2)) (a7 (ixE (ixE (vE 0) (kE (.int 3))) (vE 6)) ae))))
 (ai (ar 9 (bZ fg (a7 (bZ sortedS (a7 (fE (a7 (ixE (ixE (vE 8) (kE (.int 0))) (kE (.int 2))) (a7 (ixE (ixE (vE 8) (kE (.int 1))) (kE (.int 2))) ae))) ae)) ae)))
 (fD none (fT (ixE (vE 0) (kE (.int 2)))) (gN 10)
  dS)))))
noncomputable def nD:DS:=
 (ai (ar 4 (fE ae))
 (ai (fD none (fT (ixE (vE 1) (kE (.int 1)))) (gN 5)
  dU)
 (retS (vE 4))))
noncomputable def gc:List D->Option D:=cG 11 4 nD
noncomputable def pB:DS:=
 (ai (ar 5 (ixE (ixE (vE 0) (kE (.int 3))) (vE 2)))
 (ai (ar 6 (ixE (ixE (vE 0) (kE (.int 1))) (ixE (vE 5) (kE (.int 2)))))
 (ai (ar 7 (ao jw (a7 (vE 5) (a7 (vE 3) ae))))
 (ai (ar 8 (fE ae))
 (ai (ifS (orT (iS (az eqB (ixE (ixE (vE 5) (kE (.int 4))) (kE (.int 0))) (kE (.str "due"))) (az ky (vE 7) (kE .non))) (iS (az eqB (ixE (ixE (vE 5) (kE (.int 4))) (kE (.int 0))) (kE (.str "asked"))) (az ltB (vE 3) (ixE (ixE (vE 5) (kE (.int 4))) (kE (.int 1))))))
  (gX 8 (aS (a7 (kE (.str "astray")) (a7 (vE 2) (a7 (vE 3) ae)))))
  aL)
 (ai (ifS (az gtB (vE 4) (ixE (ixE (vE 5) (kE (.int 3))) (kE (.int 3))))
  (gX 8 (aS (a7 (kE (.str "most")) (a7 (vE 2) (a7 (vE 3) ae)))))
  aL)
 (ai (ifS (orT (az ltB (vE 4) (kE (.int 1))) (az gtB (opE aR (vE 4) (ixE (ixE (vE 6) (kE (.int 1))) (kE (.int 0)))) (kE (.int 0))))
  (gX 8 (aS (a7 (kE (.str "part")) (a7 (vE 2) (a7 (vE 3) ae)))))
  aL)
 (ai (ifS (az ltB (vE 3) (opE av (ixE (ixE (ixE (vE 0) (kE (.int 0))) (ixE (vE 5) (kE (.int 1)))) (kE (.int 1))) (ixE (vE 6) (kE (.int 3)))))
  (gX 8 (aS (a7 (kE (.str "young")) (a7 (vE 2) (a7 (vE 3) ae)))))
  aL)
 (ai (ifS (iS (az inB (kE (.str "kilo")) (ft none 1 [] (fT (ixE (vE 6) (kE (.int 2)))) (gN 0) cT (ixE (vE 0) (kE (.int 0))))) (az ky (ao fI (a7 (ixE (vE 1) (kE (.int 0))) (a7 (ixE (vE 5) (kE (.int 1))) (a7 (vE 3) ae)))) (kE .non)))
  (gX 8 (aS (a7 (kE (.str "weight")) (a7 (vE 2) (a7 (vE 3) ae)))))
  aL)
 (ai (ar 9 (ft none 1 [2] (fT (ixE (vE 1) (kE (.int 1)))) (gN 0) (az eqB (ixE (vE 0) (kE (.int 0))) (vE 1)) (vE 0)))
 (ai (ifS (iS (az fQ (vE 7) (kE .non)) (az gtB (bZ dG (a7 (ft (some 9) 1 [5,7] (fT (vE 9)) (gN 0) (az eqB (ao jw (a7 (vE 1) (a7 (ixE (vE 0) (kE (.int 1))) ae))) (vE 2)) (vE 0)) ae)) (kE (.int 1))))
  (gX 8 (aS (a7 (kE (.str "twice")) (a7 (vE 2) (a7 (vE 7) ae)))))
  aL)
 (retS (vE 8)))))))))))))
noncomputable def jy:List D->Option D:=cG 10 5 pB
noncomputable def da:DS:=
 (ai (ar 2 (opE av (vE 2) (ao jy (a7 (vE 0) (a7 (vE 1) (a7 (vE 3) (a7 (vE 4) (a7 (vE 5) ae))))))))
 (ai (ar 2 (opE av (vE 2) (ao g9 (a7 (vE 0) (a7 (vE 1) (a7 (ixE (ixE (ixE (vE 0) (kE (.int 3))) (vE 3)) (kE (.int 1))) (a7 (ixE (ixE (ixE (vE 0) (kE (.int 3))) (vE 3)) (kE (.int 2))) (a7 (vE 4) ae))))))))
 (ar 2 (opE av (vE 2) (ao gc (a7 (vE 0) (a7 (vE 1) (a7 (vE 3) (a7 (vE 4) ae)))))))))
noncomputable def jY:DS:=
 (ai (ar 2 (fE ae))
 (ai (fD none (fT (ixE (vE 1) (kE (.int 1)))) (gT [3,4,5])
  da)
 (retS (qR (vE 2)))))
noncomputable def bB:List D->Option D:=cG 6 2 jY
noncomputable def nE:DS:=
 (retS (aS (a7 (ixE (vE 0) (kE (.int 0))) (a7 (bZ fg (a7 (bZ sortedS (a7 (opE gS (ixE (vE 0) (kE (.int 1))) (aS (a7 (aS (a7 (vE 1) (a7 (vE 2) (a7 (vE 3) ae)))) ae))) ae)) ae)) ae))))
noncomputable def cH:List D->Option D:=cG 4 4 nE
noncomputable def dW:DS:=
 (ai (ar 6 (opE gS (kE (.int 1000)) (opE bD (kE (.int 7)) (vE 5))))
 (ai (ar 7 (opE aR (ao a8 (a7 (vE 0) (a7 (vE 6) ae))) (bZ dG (a7 (ixE (vE 1) (kE (.int 3))) ae))))
 (ai (ar 8 (ixE (ixE (vE 1) (kE (.int 3))) (vE 7)))
 (ai (ar 9 (ao fk (a7 (vE 0) (a7 (opE gS (vE 6) (kE (.int 1))) (a7 (vE 8) (a7 (vE 3) ae))))))
 (ai (ar 10 (ixE (ixE (ixE (ixE (vE 1) (kE (.int 1))) (ixE (vE 8) (kE (.int 2)))) (kE (.int 1))) (kE (.int 0))))
 (ai (ar 11 (opE bD (vE 10) (opE gS (kE (.int 1)) (opE aR (ao a8 (a7 (vE 0) (a7 (opE gS (vE 6) (kE (.int 4))) ae))) (opE dw (ixE (ixE (vE 8) (kE (.int 3))) (kE (.int 3))) (vE 10))))))
 (ai (ar 12 (vE 4))
 (ai (ifS (az eqB (opE aR (opE dw (ao a8 (a7 (vE 0) (a7 (vE 6) ae))) (kE (.int 8))) (kE (.int 3))) (kE (.int 0)))
  (ifS (az BN (aS (a7 (ixE (vE 8) (kE (.int 1))) (a7 (opE bD (opE dw (opE dw (vE 9) (vE 3)) (kE (.int 2))) (vE 3)) ae))) (ao bX (a7 (ixE (vE 4) (kE (.int 0))) ae)))
  (ai (ar 13 (aS (a7 (ixE (vE 8) (kE (.int 1))) (a7 (opE bD (opE dw (opE dw (vE 9) (vE 3)) (kE (.int 2))) (vE 3)) (a7 (opE gS (kE (.int 1)) (opE aR (ao a8 (a7 (vE 0) (a7 (opE gS (vE 6) (kE (.int 3))) ae))) (kE (.int 200)))) ae)))))
 (ar 12 (aS (a7 (bZ fg (a7 (bZ sortedS (a7 (opE gS (ixE (vE 4) (kE (.int 0))) (aS (a7 (vE 13) ae))) ae)) ae)) (a7 (ixE (vE 4) (kE (.int 1))) ae)))))
  aL)
  (ifS (az BN (aS (a7 (vE 7) (a7 (vE 9) ae))) (ao bX (a7 (ixE (vE 4) (kE (.int 1))) ae)))
  (ar 12 (ao cH (a7 (vE 4) (a7 (vE 7) (a7 (vE 9) (a7 (vE 11) ae))))))
  aL))
 (ifS (az eqB (bZ dG (a7 (ao bB (a7 (vE 1) (a7 (vE 12) ae))) ae)) (kE (.int 0)))
  (ar 4 (vE 12))
  aL)))))))))
noncomputable def nF:DS:=
 (ai (ar 3 (ao cy (a7 (vE 0) ae)))
 (ai (ar 4 (aS (a7 (aS ae) (a7 (aS ae) ae))))
 (ai (fD none (cV (vE 2)) (gN 5)
  dW)
 (retS (vE 4)))))
noncomputable def jZ:List D->Option D:=cG 14 3 nF
noncomputable def k7:DS:=
 (ai (ifS (az inB (aS (a7 (vE 2) (a7 (vE 4) ae))) (ao bX (a7 (ixE (vE 1) (kE (.int 1))) ae)))
  (retS (kE (.bl false)))
  aL)
 (retS (bE (az eqB (bZ dG (a7 (ao bB (a7 (vE 0) (a7 (ao cH (a7 (vE 1) (a7 (vE 2) (a7 (vE 4) (a7 (vE 3) ae))))) ae))) ae)) (kE (.int 0))))))
noncomputable def iM:List D->Option D:=cG 5 5 k7
noncomputable def bG:DS:=
 (ai (ar 10 (opE av (opE bD (vE 8) (vE 3)) (vE 9)))
 (ifS (iS (mX leB leB (vE 6) (vE 10) (vE 7)) (BM (ao iM (a7 (vE 0) (a7 (vE 1) (a7 (vE 4) (a7 (vE 5) (a7 (vE 10) ae))))))))
  (retS (vE 10))
  aL))
noncomputable def cb:DS:=
 (fD none (cV (bZ qN (a7 (vE 3) (a7 (kE (.int 3)) ae)))) (gN 9)
  bG)
noncomputable def lF:DS:=
 (ai (Ob (gT [4,5,6,7]) (vE 2))
 (ai (fD none (vw (opE dw (vE 6) (vE 3)) (opE av (opE dw (vE 7) (vE 3)) (kE (.int 1)))) (gN 8)
  cb)
 (retS (kE .non))))
noncomputable def gB:List D->Option D:=cG 11 4 lF
noncomputable def oh:DS:=
 (ai (ar 5 (opE av (kE (.int 2000)) (opE bD (kE (.int 7)) (vE 4))))
 (ai (ar 6 (opE aR (ao a8 (a7 (vE 0) (a7 (vE 5) ae))) (bZ dG (a7 (ixE (vE 1) (kE (.int 3))) ae))))
 (ai (ar 7 (ixE (ixE (ixE (ixE (vE 1) (kE (.int 1))) (ixE (ixE (ixE (vE 1) (kE (.int 3))) (vE 6)) (kE (.int 2)))) (kE (.int 1))) (kE (.int 0))))
 (ai (ar 8 (opE bD (vE 7) (opE av (kE (.int 1)) (opE aR (ao a8 (a7 (vE 0) (a7 (opE av (vE 5) (kE (.int 1))) ae))) (opE dw (ixE (ixE (ixE (ixE (vE 1) (kE (.int 3))) (vE 6)) (kE (.int 3))) (kE (.int 3))) (vE 7))))))
 (ai (ifS (az eqB (opE aR (ao a8 (a7 (vE 0) (a7 (opE av (vE 5) (kE (.int 2))) ae))) (kE (.int 7))) (kE (.int 0)))
  (ar 8 (opE gI (opE av (vE 8) (opE aR (ao a8 (a7 (vE 0) (a7 (opE av (vE 5) (kE (.int 3))) ae))) (kE (.int 3)))) (kE (.int 1))))
  aL)
 (ai (ar 9 (opE av (opE bD (vE 2) (opE aR (ao a8 (a7 (vE 0) (a7 (opE av (vE 5) (kE (.int 4))) ae))) (kE (.int 40)))) (opE bD (opE aR (ao a8 (a7 (vE 0) (a7 (opE av (vE 5) (kE (.int 5))) ae))) (kE (.int 3))) (bZ A4 (a7 (bE (az gtB (vE 2) (kE (.int 1)))) ae)))))
 (ai (ar 10 (bZ wY (a7 (kE (.int 0)) (a7 (opE av (vE 9) (opE bD (vE 2) (opE gI (opE aR (ao a8 (a7 (vE 0) (a7 (opE av (vE 5) (kE (.int 6))) ae))) (kE (.int 20))) (kE (.int 1))))) ae))))
 (ai (ar 11 (ao gB (a7 (vE 1) (a7 (vE 3) (a7 (aS (a7 (vE 6) (a7 (vE 8) (a7 (vE 9) (a7 (vE 10) ae))))) (a7 (vE 2) ae))))))
 (ai (ar 12 (ao lz (a7 (vE 1) (a7 (vE 3) (a7 (vE 6) (a7 (vE 8) (a7 (vE 9) (a7 (vE 10) ae))))))))
 (ai (ifS (iS (az ky (vE 11) (kE .non)) (az fQ (vE 12) (kE .non)))
  (retS (kE (.bl false)))
  aL)
 (ifS (iS (az fQ (vE 11) (kE .non)) (orT (Mg (BM (bE (Mh "int" (vE 12))))) (orT (BM (bE (Mh "bool" (vE 12)))) (az neB (vE 12) (vE 11)))))
  (retS (kE (.bl false)))
  aL)))))))))))
noncomputable def HJ:DS:=
 (ai (ar 1 (ao gA (a7 (vE 0) ae)))
 (ai (ar 2 (ao cy (a7 (vE 0) ae)))
 (ai (ar 3 (ao jZ (a7 (vE 0) (a7 (vE 1) (a7 (kE (.int 6)) ae)))))
 (ai (fD none (cV (kE (.int 2))) (gN 4)
  oh)
 (retS (kE (.bl true)))))))
noncomputable def rW:List D->Option D:=cG 13 1 HJ
end Den
namespace Maths
open DL Den PySem
abbrev Os:=Option Slot
noncomputable def rX(ns:List Int)(k:Int):Int:=if ns.length=0 then 0 else ns[(k%ns.length).toNat]?.getD 0
noncomputable def mv(ns:List Int)(k:Int):Int:=(rX ns k%1000003*48271+k*k*7919+1)%65521
noncomputable def mx(ns:List Int)(k:Int):Int:=mv ns k*mv ns k%65519
theorem Lr(ns:List Int)(k:Int):0<=mx ns k/\mx ns k<65519:=⟨GbQ _ (by lia),GbI _ (by lia)⟩
theorem mxm(ns:List Int)(k m:Int)(h:0<m):0<=mx ns k%m/\mx ns k%m<m:=⟨GbQ _ (by lia),GbI _ h⟩
variable{ns:List Int}
theorem Ft{k:Int}:0<=rX ns k%1000003/\rX ns k%1000003<1000003:=⟨GbQ _ (by lia),GbI _ (by lia)⟩
theorem Km{k:Int}(h:0<ns.length):atD ns (k%ns.length)=some (ns[(k%ns.length).toNat]?.getD 0):=by
 unfold atD;have h1:0<=k%(ns.length:Int):=GbQ _ (by lia);have h2:k%(ns.length:Int)<ns.length:=GbI _ (by lia);rw[Gah h1];have h3:(k%(ns.length:Int)).toNat<ns.length:=by lia
 simp[h3]
variable{j:Int}
theorem bx{i:Int}(h: -18446744073709551616<i)(h2:i<18446744073709551616):aX i j=true:=by
 unfold aX;rw[GaP];exact .inl (Gaz (by lia))
theorem fb{i:Int}(h: -18446744073709551616<j)(h2:j<18446744073709551616):aX i j=true:=by
 unfold aX;rw[GaP];exact .inr (Gaz (by lia))
theorem aG{k:Int}(hk:0<=k)(xY:k<1000000):a8 [.scr ns,.int k]=some (.int (mx ns k)):=by
 have c:=Ft (ns:=ns) (k:=k);have v1:0<=mv ns k:=GbQ _ (by lia);have v2:mv ns k<65521:=GbI _ (by lia);have e1:aX k k=true:=bx (by lia) (by lia);have e2:∀i,aX i 48271=true:=λi=>fb (by lia) (by lia);have e3:∀i,aX i 7919=true:=λi=>fb (by lia) (by lia);have e4:aX (mv ns k) (mv ns k)=true:=bx (by lia) (by lia);unfold a8 lA;by_cases h:0<ns.length
 .have hc:rX ns k=ns[(k%ns.length).toNat]?.getD 0:=by unfold rX;rw[Gag (by lia)]
  have h' :(0:Int)<ns.length:=by lia
  have e5:(ns[(k%↑ns.length).toNat]?.getD 0%1000003*48271+k*k*7919+1)%65521=mv ns k:=by unfold mv;rw[hc]
  simp[h,h',Km h,e1,e2,e3,e5,e4,mx]
 .have hc:rX ns k=0:=by unfold rX;rw[Gah (by lia)]
  have h' :¬(0:Int)<ns.length:=by lia
  have e5:(k*k*7919+1)%65521=mv ns k:=by unfold mv;rw[hc];simp
  simp[h,h',e1,e2,e3,e5,e4,mx]
theorem lG{p:D->Prop}(hp:∀d,p d->d.imm=true):∀{ds:List D},(∀d∈ds,p d)->aC ds=true
 |[],_=>rfl
 |d::ds,h=>by
  simp[hp d (h d Gaf),lG hp λx hx=>h x (Gac _ hx)]
variable{env:DL.Env}{f:DS}
theorem ag{g:DS}{e:DL.Env}(h:f env=some (.nx e)):ai f g env=g e:=by simp[ai,h]
variable{d:D}
theorem Kn{g:DS}(h:f env=some (.ret d)):ai f g env=some (.ret d):=by simp[ai,h]
variable{ds:List D}{body:DS}
theorem b5{n np:Nat}(hl:ds.length=np)(h:body (bw n ds)=some (.ret d)):cG n np body ds=some d:=by
 unfold cG;rw[Gah hl,h];rfl
theorem QR{t:DT}{g:DS}(h:t env=some true):ifS t f g env=f env:=by simp[ifS,h]
theorem aU{i:Int}(h1: -4611686018427387904<=i)(h2:i<4611686018427387904):aP i=true:=by
 unfold aP;rw[Gan];exact⟨Gaz h1,Gaz h2⟩
theorem dI{g:DG}{body:DS}(I:Nat->DL.Env->Prop):∀(ds:List D) (k:Nat) (env:DL.Env),I k env->(∀(i:Nat) d e,ds[i]? =some d->I (k+i) e->∃e1 e2,g d e=some e1/\body e1=some (.nx e2)/\I (k+i+1) e2)->∃e,forL g body ds env=some (.nx e)/\I (k+ds.length) e
 |[],k,env,h,_=> ⟨env,rfl,h⟩
 |d::ds,k,env,h,st=>by
  obtain⟨e1,e2,h1,h2,h3⟩:=st 0 d env rfl h;obtain⟨e,h4,h5⟩:=dI I ds (k+1) e2 h3 λi d' e' hd hI=>by
   have:=st (i+1) d' e' (by simpa using hd) (by rw[show k+(i+1)=k+1+i by lia];exact hI);rw[show k+(i+1)+1=k+1+i+1 by lia] at this;exact this
  refine⟨e,by simp[forL,h1,h2,h4], ?_⟩;rw[show k+(d::ds).length=k+1+ds.length by simp;lia];exact h5
variable{i:Nat}{lo:Int}
theorem aZ{n:Nat}(h:(aB lo n)[i]? =some d):i<n/\d= .int (lo+i):=by
 unfold aB at h;rw[Gaw] at h;by_cases hi:i<n
 .rw[GdP hi] at h;cases h;exact⟨hi,rfl⟩
 .rw[Gbw (by simp;lia)] at h;cases h
theorem cI{n:Nat}:(aB lo n).length=n:=by simp[aB]
theorem fz{α:Type}{g:DG}{t:DT}{f:DE}(zp:α->D)(C:DL.Env->Prop)(p:α->Bool)(r:α->D):∀(xs:List α) (e:DL.Env),C e->
  (∀x∈xs,∀e,C e->∃e',g (zp x) e=some e' /\C e' /\t e' =some (p x)/\(p x=true->∃k,f e' =some ⟨k,r x⟩/\RV.free ⟨k,r x⟩=true))->bF g t f (xs.map zp) e=some ((xs.filter p).map r)
 |[],e,_,_=>rfl
 |d::ds,e,h,st=>by
  obtain⟨e',h1,h2,h3,h4⟩:=st d Gaf e h;have ih:=fz zp C p r ds e' h2 λd' hd=>st d' (Gac _ hd);cases q:p d with
  |false=>simp[bF,h1,h3,q,ih]
  |true=>
   obtain⟨k,h5,h6⟩:=h4 q;simp[bF,h1,h3,q,h5,h6,ih]
theorem de{α:Type}{g:DG}{f:DE}(zp:α->D)(C:DL.Env->Prop)(r:α->D)(xs:List α)(e:DL.Env)(h:C e)
  (st:∀x∈xs,∀e,C e->∃e',g (zp x) e=some e' /\C e' /\∃k,f e' =some ⟨k,r x⟩/\RV.free ⟨k,r x⟩=true):bF g cT f (xs.map zp) e=some (xs.map r):=by
 have:=fz (g:=g) (t:=cT) (f:=f) zp C (λ_=>true) r xs e h (λx hx e he=>by
  obtain⟨e',h1,h2,h3⟩:=st x hx e he;exact⟨e',h1,h2,rfl,λ_=>h3⟩)
 rw[List.filter_eq_self.mpr λ_ _=>rfl] at this;exact this
theorem Fu(bs:List Bool):vt (bs.map D.bl)=some bs:=by
 induction bs with
 |nil=>rfl
 |cons b bs ih=>simp[ih]
theorem uL(bs:List Int):wZ (bs.map D.int)=some bs:=by
 induction bs with
 |nil=>rfl
 |cons b bs ih=>simp[ih]
@[simp] theorem AG(bs:List Bool):anyS [.lst (bs.map D.bl)]=some ⟨.c,.bl (bs.any id)⟩:=by
 simp[anyS,one,kN,Fu]
theorem Co(n:Nat)(hs:List Int):(hs.map D.int).all (aD n)=true:=by
 induction hs with
 |nil=>rfl
 |cons b bs ih=>simp[ih]
theorem fK(hs:List Int):aC (hs.map D.int)=true:=by
 induction hs with
 |nil=>rfl
 |cons b bs ih=>simp[ih]
inductive Cap where
 |flat (h t:Int)
 |kilo (h t p:Int)
 |ever (t:Int)
noncomputable def b6:Cap->D
 | .flat h t=> .tup [.str "flat",.int h,.int t]
 | .kilo h t p=> .tup [.str "kilo",.int h,.int t,.int p]
 | .ever t=> .tup [.str "ever",.int t]
def jz:Cap->Prop
 | .flat h t=>1<=h/\1<=t/\t<=6200000
 | .kilo h t p=>1<=h/\1<=t/\t<=3100000/\1<=p/\p<=100
 | .ever t=>1<=t/\t<=6200000
theorem rY(c:Cap):(b6 c).imm=true:=by cases c<;>simp[b6]
theorem oj(cs:List Cap):aC (cs.map b6)=true:=by
 induction cs with
 |nil=>rfl
 |cons c cs ih=>
  have:=rY c;simp[this] at ih⊢;exact ih
variable{a b:Int}
theorem Cp{A B:Int}(h0:0<=a)(h1:a<=A)(h2:0<=b)(h3:b<=B):a*b<=A*B:=
 GdY (Int.mul_le_mul_of_nonneg_right h1 h2) (Int.mul_le_mul_of_nonneg_left h3 (by lia))
theorem fm(h0:1<=a)(h1:1<=b):1<=a*b:=by
 have:=Int.mul_le_mul h0 h1 (by lia) (by lia);lia
theorem b7(h:d.imm=true):jM d=⟨.c,d⟩:=by
 unfold jM;have:d.top=false:=by cases d<;>simp[D.imm] at h<;>rfl
 rw[this];rfl
structure gC where
 name:Str
 part:Int
 more:List Int
 ax:List Cap
 young:Int
noncomputable def au(s:gC):D:= .tup [.str s.name,.tup ((s.part::s.more).map .int),.tup (s.ax.map b6),.int s.young]
structure cC(s:gC):Prop where
 p1:1<=s.part
 p2:s.part<=100000
 cl:s.ax.length<=4
 ok:∀c∈s.ax,jz c
 y0:0<=s.young
theorem iN(s:gC):(au s).imm=true:=by
 have h1:=oj s.ax;have h2:=fK (s.part::s.more);simp[au] at h2⊢;exact⟨h2,h1⟩
theorem fc{α:Type}{f:α->D}(h:∀a,(f a).imm=true):∀l:List α,aC (l.map f)=true
 |[]=>rfl
 |a::l=>by
  have h1:=h a;have h2:=fc h l;rw[GaA];simp[h1,h2]
noncomputable def trD(t:Int×Int×Int):D:= .tup [.int t.1,.int t.2.1,.int t.2.2]
theorem wc(t:Int×Int×Int):(trD t).imm=true:=by simp[trD]
noncomputable def tK(b:Int×Int×Int):Int×Int:=(b.1,b.2.1)
def HK(n:Int)(bs:List (Int×Int×Int)):Prop:=(∀b∈bs,0<=b.1/\b.1<=b.2.1/\b.2.1<n/\1<=b.2.2)/\(bs.map tK).Nodup
def lH(i j:Int)(bs:List (Int×Int×Int)):Prop:=∀b∈bs,b.1<i\/(b.1=i/\b.2.1<j)
theorem Fv{α β:Type}(f:α->β)(xs:List α)(i:Int)(y:α):(gn xs i y).map f=gn (xs.map f) i (f y):=by
 unfold gn;simp[GaC,List.map_take,List.map_drop]
inductive om where
 |asked (b:Int)
 |due (b e m ea la:Int)
noncomputable def fA:om->D
 | .asked b=> .tup [.str "asked",.int b]
 | .due b e m ea la=> .tup [.str "due",.int b,.int e,.int m,.int ea,.int la]
def gR:om->Prop
 | .asked b=>0<=b
 | .due b e m ea la=>1<=e/\e<=12000000/\(1<=m/\m<=60)/\0<=ea/\0<=la/\ea+la<e/\ea<=b/\b<=30000000
theorem uM(u:om):(fA u).imm=true:=by cases u<;>simp[fA]
structure Order where
 name:Str
 aa:Int
 af:Int
 way:Str
 top:Int
 per:Int
 most:Int
 aV:om
 CQ:List D
noncomputable def ah(o:Order):D:= .tup [.str o.name,.int o.aa,.int o.af,.tup [.str o.way,.int o.top,.int o.per,.int o.most],fA o.aV,.tup o.CQ]
structure oq(ng TM:Nat)(o:Order):Prop where
 g0:0<=o.aa
 g1:o.aa<ng
 s0:0<=o.af
 s1:o.af<TM
 du:gR o.aV
 ti:aC o.CQ=true
theorem fB(o:Order)(h:aC o.CQ=true):(ah o).imm=true:=by
 have:=uM o.aV;simp[ah,this,h]
structure World where
 aT:List (Str×Int)
 aw:List gC
 bN:List (Int×Int×Int)
 orders:List Order
noncomputable def aM(g:Str×Int):D:= .tup [.str g.1,.int g.2]
noncomputable def aj(w:World):D:= .tup [.tup (w.aT.map aM),.tup (w.aw.map au),.tup (w.bN.map trD),.tup (w.orders.map ah)]
structure aH(w:World):Prop where
 g1:1<=w.aT.length
 g6:w.aT.length<=6
 s1:1<=w.aw.length
 s6:w.aw.length<=6
 so:∀s∈w.aw,cC s
 b12:w.bN.length<=12
 bo:HK w.aw.length w.bN
 o1:1<=w.orders.length
 o12:w.orders.length<=12
 oo:∀o∈w.orders,oq w.aT.length w.aw.length o
theorem rZ(g:Str×Int):(aM g).imm=true:=by simp[aM]
abbrev Tr:=Int×Int×Int
theorem Ko(ts:List Tr):keysOk (ts.map trD)=true:=by
 have h1:(ts.map trD).all (mE 1)=true:=by
  rw[Gbs,Gap];intro p _;simp[trD,mE,tyD,mD]
 have h2:((ts.map trD).all λx=>(ts.map trD).all λy=>A0 x y)=true:=by
  rw[Gbs,Gap];intro p _;simp only[GbE];rw[Gbs,Gap];intro q _;simp[trD,A0,mH,tyD,aQ]
 unfold keysOk;rw[h1,h2];simp
noncomputable def MJ:D->Tr
 | .tup [.int a,.int b,.int c]=>(a,b,c)
 |_=>(0,0,0)
theorem cD(ts:List Tr):aC (ts.map trD)=true:=fc wc ts
def bY(n:Nat)(gv:List Tr):Prop:=∀t∈gv,0<=t.1/\t.1<n
noncomputable def d6:Option Int->D
 |some k=> .int k
 |none=> .non
@[simp] theorem NI{k:Int}:d6 (some k)= .int k:=rfl
@[simp] theorem uN:d6 none= .non:=rfl
theorem fL(o:Option Int):(d6 o).imm=true:=by cases o<;>rfl
noncomputable def ox(b e m ea la h:Int):Option Int:=
 if(0<=(h -(b -ea))/e/\(h -(b -ea))/e<m)/\h -(b -ea)-(h -(b -ea))/e*e<=ea+la then some ((h -(b -ea))/e) else none
noncomputable def cJ:om->Int->Option Int
 | .asked _,_=>none
 | .due b e m ea la,h=>ox b e m ea la h
noncomputable def dm:om->Int->Bool
 | .asked b,h=>decide (h<b)
 | .due b e m ea la,h=>(ox b e m ea la h).isNone
noncomputable def wgt(g h:Int):List Tr->Option Int->Option Int
 |[],f=>f
 |t::ts,f=>wgt g h ts (if t.1=g/\t.2.1<=h then some t.2.2 else f)
theorem lI{body:DS}{wd:D}{g h:Int}(st:∀(t:Tr) (f:Option Int),body [some (.sh wd),some (.sh (.int g)),some (.sh (.int h)),some (.sh (d6 f)),some (.sh (trD t))]=some (.nx [some (.sh wd),some (.sh (.int g)),some (.sh (.int h)),some (.sh (d6 (if t.1=g/\t.2.1<=h then some t.2.2 else f))),some (.sh (trD t))])):
  ∀(ts:List Tr) (f:Option Int) (x4:Os),∃y4,forL (gN 4) body (ts.map trD) [some (.sh wd),some (.sh (.int g)),some (.sh (.int h)),some (.sh (d6 f)),x4]=some (.nx [some (.sh wd),some (.sh (.int g)),some (.sh (.int h)),some (.sh (d6 (wgt g h ts f))),y4])
 |[],f,x4=> ⟨x4,by simp[wgt]⟩
 |t::ts,f,x4=>by
  obtain⟨y4,e⟩:=lI st ts (if t.1=g/\t.2.1<=h then some t.2.2 else f) (some (.sh (trD t)));refine⟨y4, ?_⟩;have e1:=st t f;rw[GaA];show forL (gN 4) body (trD t::ts.map trD) _=_;generalize trD t=td at*;simp only[forL,gN,GaK,GaL,Option.bind_some,e1];exact e
variable{g h:Int}{ws:List Tr}
theorem se:gr [.tup (ws.map trD),.int g,.int h]=some (d6 (wgt g h ws none)):=by
 obtain⟨y4,e⟩:=lI (body:=iI) (wd:= .tup (ws.map trD)) (g:=g) (h:=h) (λt f=>by
  unfold iI trD;by_cases c1:t.1=g
  .by_cases c2:t.2.1<=h
   .simp[c1,c2,eqB]
   .simp[c1,c2,eqB]
  .simp[c1,eqB]) ws none none
 rw[uN] at e;have im:=fL (wgt g h ws none);refine b5 rfl ?_;unfold lx;generalize d6 (wgt g h ws none)=r at*;generalize ws.map trD=W at*;refine(ag (by simp[bw];rfl)).trans ?_;refine(ag (by simp[-forL,e];rfl)).trans ?_;simp[im]
noncomputable def bW:Cap->Option Int->Option Int
 | .ever t,_=>some t
 | .flat _ t,_=>some t
 | .kilo _ t p,w=>w.map λw=>w*t/p
variable{c:Cap}
theorem Cq{w:Option Int}(ok:jz c):i9 [b6 c,d6 w]=some (d6 (bW c w)):=by
 cases c with
 |ever t=>unfold i9 m8 b6 bW;simp
 |flat h t=>unfold i9 m8 b6 bW;simp
 |kilo h t p=>
  obtain⟨h1,t1,t2,p1,p2⟩:=ok;cases w with
  |none=>unfold i9 m8 b6 bW;simp[ky,cu]
  |some w=>
   have mm:aX w t=true:=fb (by lia) (by lia);have pp:0<p/\p<1073741824:=by lia
   unfold i9 m8 b6 bW;simp[ky,cu,mm,pp]
noncomputable def cQ:Cap->Bool
 | .kilo _ _ _=>true
 |_=>false
theorem kg:fI [.tup (ws.map trD),.int g,.int h]=some (d6 (wgt g h ws none)):=by
 obtain⟨y4,e⟩:=lI (body:=gQ) (wd:= .tup (ws.map trD)) (g:=g) (h:=h) (λt f=>by
  unfold gQ trD;by_cases c1:t.1=g
  .by_cases c2:t.2.1<=h
   .simp[c1,c2,eqB]
   .simp[c1,c2,eqB]
  .simp[c1,eqB]) ws none none
 rw[uN] at e;have im:=fL (wgt g h ws none);refine b5 rfl ?_;unfold jX;generalize d6 (wgt g h ws none)=r at*;generalize ws.map trD=W at*;refine(ag (by simp[bw];rfl)).trans ?_;refine(ag (by simp[-forL,e];rfl)).trans ?_;simp[im]
abbrev Flt:=Str×List Int
noncomputable def aI(f:Flt):D:= .tup (.str f.1::f.2.map .int)
noncomputable def kk(b:Bool)(x:Str):List Str:=if b then[x] else[]
noncomputable def HL(o:Order)(s:gC)(xb:Int)(ws:List Tr)(t:Tr):List Str:=
 kk (dm o.aV t.2.1) "astray"++kk (decide (o.most<t.2.2)) "most"++kk (decide (t.2.2<1)||decide (¬t.2.2%s.part=0)) "part"++kk (s.ax.any cQ&&(wgt o.aa t.2.1 ws none).isNone) "weight"++kk (decide (t.2.1<xb+s.young)) "young"
theorem MK(b:Bool)(x:Str):(kk b x).length<=1:=by cases b<;>simp[kk]
theorem nG(fs:List Flt):aC (fs.map aI)=true:=fc (λf=>by
 have:=fK f.2;simp[aI,this]) fs
noncomputable def atT(o h:Int)(t:Tr):Bool:=decide (t.1=o/\t.2.1=h)
noncomputable def Cr(ts:List Tr)(o h v:Int):List Tr:=if ts.any (atT o h) then ts.map (λt=>if atT o h t then(o,h,v) else t) else ts++[(o,h,v)]
noncomputable def jc(ts:List Tr)(o h:Int):Int:=((ts.find? (atT o h)).map (·.2.2)).getD 0
noncomputable def twU(ts:List Tr)(n:Int):Option Int->List Tr
 |some k=>Cr ts n k (jc ts n k+1)
 |none=>ts
noncomputable def Ct(os:List Order)(ts:List Tr)(g:Tr):List Tr:=twU ts g.1 ((os[g.1.toNat]?).bind λo=>cJ o.aV g.2.1)
noncomputable def dn(ts:List Tr)(b:Tr):List Tr:=Cr (Cr ts b.1 b.2.1 b.2.2) b.2.1 b.1 b.2.2
noncomputable def tL(gs:List Tr)(a b:Order):Int:=if a.aa=b.aa then jc gs a.af b.af else 0
noncomputable def mk2(p:Int×Int):D:= .tup [.int p.1,.int p.2]
noncomputable def un2:D->Int×Int
 | .tup [.int a,.int b]=>(a,b)
 |_=>(0,0)
theorem Po(p:Int×Int):un2 (mk2 p)=p:=rfl
theorem DF(l:List (Int×Int)):aC (l.map mk2)=true:=by
 induction l with
 |nil=>rfl
 |cons a l ih=>simp[mk2] at ih⊢;exact ih
theorem HM(l:List (Int×Int)):keysOk (l.map mk2)=true:=by
 have h1:(l.map mk2).all (mE 1)=true:=by
  rw[Gbs,Gap];intro p _;simp[mk2,mE,tyD,mD]
 have h2:((l.map mk2).all λx=>(l.map mk2).all λy=>A0 x y)=true:=by
  rw[Gbs,Gap];intro p _;simp only[GbE];rw[Gbs,Gap];intro q _;simp[mk2,A0,mH,tyD,aQ]
 unfold keysOk;rw[h1,h2];simp
theorem ML{p q:Int×Int}(h:p.1<q.1):ltC (DL.code (mk2 p)) (DL.code (mk2 q))=true:=by
 have e:¬p.1=q.1:=by lia
 simp[mk2,DL.code,aQ,ltC,dM,ltI,e,h]
theorem AH(ms:List (Int×Int)):∃eB:List (Int×Int),d7 (ms.map mk2)=eB.map mk2/\eB.Perm ms/\eB.Pairwise λa b=>a.1<=b.1:=by
 have hp:=cW (ms.map mk2);have hs:=fF (ms.map mk2);have all:∀x∈d7 (ms.map mk2),∃p,x=mk2 p:=λx hx=>by
  obtain⟨p,_,e⟩:=Gat.mp (hp.mem_iff.mp hx);exact⟨p,e.symm⟩
 have e:d7 (ms.map mk2)=((d7 (ms.map mk2)).map un2).map mk2:=by
  rw[GaU]
  conv=>lhs;rw[<-Gda (d7 (ms.map mk2))]
  apply GaT;intro x hx;obtain⟨p,rfl⟩:=all x hx
  rfl
 refine⟨(d7 (ms.map mk2)).map un2,e, ?_, ?_⟩
 .have:=GdA un2 hp;rw[GaU] at this;have e2:ms.map (un2∘mk2)=ms:=by
   conv=>rhs;rw[<-Gda ms]
   exact GaT λp _=>Po p
  rw[e2] at this;exact this
 .rw[e] at hs;unfold iU at hs;rw[GdX] at hs;refine hs.imp λ{a b} h=> ?_;by_cases c:b.1<a.1
  .rw[ML c] at h;cases h
  .lia
noncomputable def sm(f:Nat->Int):Nat->Int
 |0=>0
 |n+1=>sm f n+f n
theorem DH{α:Type}(w:α->Int)(d:α)(l:List α):∀k,k<=l.length->sm (λi=>w (l[i]?.getD d)) k=((l.take k).map w).sum
 |0,_=>by simp[sm]
 |k+1,h=>by
  rw[sm,DH w d l k (by lia),GdD (by lia),GaC,List.sum_append];simp[show k<l.length by lia]
theorem HP{f a:Nat->Int}{g k:Nat}(T1:g<=k+1)(h1:∀i,i<g->f i=0)(h2:∀i,g<=i->i<=k->f i=a i)(h3:∀i,k<i->f i=0):∀n,sm f n=if n<=g then 0 else if n<=k+1 then sm a n -sm a g else sm a (k+1)-sm a g
 |0=>by simp[sm]
 |n+1=>by
  rw[sm,HP T1 h1 h2 h3 n];by_cases c1:n+1<=g
  .rw[Gah (by lia),Gah c1,h1 n (by lia)];rfl
  .rw[Gag c1];by_cases c2:n+1<=k+1
   .rw[Gah c2,h2 n (by lia) (by lia)];by_cases c3:n<=g
    .have e:n=g:=by lia
     subst e;rw[Gah c3,sm];lia
    .rw[Gag c3,Gah (by lia),sm];lia
   .rw[Gag c2,h3 n (by lia)];by_cases c3:n<=g
    .have e:n=k+1:=by lia
     have e2:g=k+1:=by lia
     rw[Gah c3,e2];lia
    .rw[Gag c3];by_cases c4:n<=k+1
     .have e:n=k+1:=by lia
      rw[Gah c4,e];lia
     .rw[Gag c4];lia
section
variable(eB:List (Int×Int))(H:Int)
noncomputable def hr(i:Nat):Int:=(eB[i]?.getD (0,0)).1
noncomputable def am(i:Nat):Int:=(eB[i]?.getD (0,0)).2
noncomputable def wt(H h:Int)(p:Int×Int):Int:=if h -H<p.1/\p.1<=h then p.2 else 0
noncomputable def W(h:Int):Int:=(eB.map (wt H h)).sum
end
variable{eB:List (Int×Int)}{H:Int}
theorem uO(hs:eB.Pairwise λa b=>a.1<=b.1){j:Nat}(h:i<=j)(hj:j<eB.length):hr eB i<=hr eB j:=by
 unfold hr;have hi:i<eB.length:=by lia
 simp only[Gad hi,Gad hj,Option.getD_some];rcases Gcm h with e|e
 .subst e;exact Gbp _
 .exact Gdd.mp hs i j hi hj e
theorem Pp(hs:eB.Pairwise λa b=>a.1<=b.1){g k:Nat}(hk:k<eB.length)(T1:g<=k)(h1:∀i,i<g->hr eB i<=hr eB k -H)(h2:hr eB k -H<hr eB g)(h3:k+1=eB.length\/hr eB k<hr eB (k+1)):
  W eB H (hr eB k)=sm (am eB) (k+1)-sm (am eB) g:=by
 have e:=DH (wt H (hr eB k)) (0,0) eB eB.length (Gaq _);rw[List.take_length] at e;unfold W;rw[<-e];have cut:=HP (f:=λi=>if i<eB.length then wt H (hr eB k) (eB[i]?.getD (0,0)) else 0) (a:=am eB) (g:=g) (k:=k) (by lia)
  (λi hi=>by
   show(if i<eB.length then wt H (hr eB k) (eB[i]?.getD (0,0)) else 0)=_;rw[Gah (by lia)];unfold wt;have:=h1 i hi;unfold hr at this⊢;rw[Gag (by lia)])
  (λi i1 i2=>by
   show(if i<eB.length then wt H (hr eB k) (eB[i]?.getD (0,0)) else 0)=_;rw[Gah (by lia)];unfold wt;have a1:=uO hs i1 (by lia);have a2:=uO hs i2 hk;unfold hr at a1 a2 h2⊢;rw[Gah ⟨by lia,a2⟩];rfl)
  (λi hi=>by
   show(if i<eB.length then wt H (hr eB k) (eB[i]?.getD (0,0)) else 0)=_;split
   .rename_i hl;have a1:hr eB (k+1)<=hr eB i:=uO hs (by lia) hl;rcases h3 with h3|h3
    .lia
    .unfold wt;unfold hr at a1 h3⊢;rw[Gag (by lia)]
   .rfl) eB.length
 rw[Gag (by lia)] at cut;have same:∀n,n<=eB.length->sm (λi=>if i<eB.length then wt H (hr eB k) (eB[i]?.getD (0,0)) else 0) n=sm (λi=>wt H (hr eB k) (eB[i]?.getD (0,0))) n:=by
  intro n;induction n with
  |zero=>intro _;rfl
  |succ n ih=>intro hn;rw[sm,sm,ih (by lia),Gah (by lia)]
 rw[<-same _ (Gaq _),cut];split
 .have e2:eB.length=k+1:=by lia
  rw[e2]
 .rfl
noncomputable def pC(ms:D)(H:Int)(R:List D)(F:List D)(eE eF k:Int)(row:D):DL.Env:=[some (.sh ms),some (.sh (.int H)),some (.lok (.lst R)),some (.own (.lst F)),some (.sh (.int eE)),some (.sh (.int eF)),some (.sh (.int k)),some (.sh row)]
theorem sf{g:Nat}(hg:g<eB.length):atD (eB.map mk2) (g:Int)=some (.tup [.int (hr eB g),.int (am eB g)]):=by
 rw[gZ,Gaw,Gad hg];unfold hr am;simp[mk2,hg]
variable{eE eF h' a' :Int}{R F:List D}
theorem DJ{ms:D}{k:Int}(e:atD R eF=some (.tup [.int h',.int a'])):fw (pC ms H R F eE eF k (.tup [.int h,.int a]))=some (decide (h' <=h -H)):=by
 unfold fw pC;simp[e]
theorem Kp{ms:D}{k:Int}(e:atD R eF=some (.tup [.int h',.int a'])):iv (pC ms H R F eE eF k (.tup [.int h,.int a]))=some (.nx (pC ms H R F (eE -a') (eF+1) k (.tup [.int h,.int a]))):=by
 unfold iv pC;simp[e]
theorem HQ{ms:D}{k:Nat}{kk:Int}(hH:1<=H)(hk:k<eB.length):∀(m eF fuel:Nat) (eE:Int),k -eF=m->eF<=k->m<fuel->∃g,eF<=g/\g<=k/\(∀i,eF<=i->i<g->hr eB i<=hr eB k -H)/\hr eB k -H<hr eB g/\
  gJ fw iv fuel (pC ms H (eB.map mk2) F eE eF kk (.tup [.int (hr eB k),.int a]))=some (.nx (pC ms H (eB.map mk2) F (eE -(sm (am eB) g -sm (am eB) eF)) g kk (.tup [.int (hr eB k),.int a]))):=by
 intro m;induction m with
 |zero=>
  intro eF fuel eE hm hg hf;have e:eF=k:=by lia
  subst e;obtain⟨f,rfl⟩:∃f,fuel=f+1:=⟨fuel -1,by lia⟩
  refine⟨eF,Gaq _,Gaq _,λi h1 h2=>by lia,by lia, ?_⟩;unfold gJ;rw[DJ (sf hk)];have c:¬hr eB eF<=hr eB eF -H:=by lia
  simp[c]
 |succ m ih=>
  intro eF fuel eE hm hg hf;obtain⟨f,rfl⟩:∃f,fuel=f+1:=⟨fuel -1,by lia⟩
  have hgl:eF<eB.length:=by lia
  unfold gJ;rw[DJ (sf hgl)];by_cases c:hr eB eF<=hr eB k -H
  .obtain⟨g,q1,q2,q3,q4,q5⟩:=ih (eF+1) f (eE -am eB eF) (by lia) (by lia) (by lia);refine⟨g,by lia,q2,λi h1 h2=> ?_,q4, ?_⟩
   .rcases Gcm h1 with e|e
    .subst e;exact c
    .exact q3 i e h2
   .simp only[c,Gdy,Option.bind_some,GbK];rw[Kp (sf hgl)];simp only[Option.bind_some];have e1:((eF:Int)+1)=((eF+1:Nat):Int):=by lia
    rw[e1,q5,sm];have e2:eE -am eB eF -(sm (am eB) g -(sm (am eB) eF+am eB eF))=eE -(sm (am eB) g -sm (am eB) eF):=by lia
    rw[e2]
  .refine⟨eF,Gaq _,hg,λi h1 h2=>by lia,by lia, ?_⟩;simp[c]
noncomputable def fM(eB:List (Int×Int))(j:Nat):Bool:=decide (j+1=eB.length)||decide (hr eB j<hr eB (j+1))
noncomputable def fnd(eB:List (Int×Int))(H:Int)(m:Nat):List (Int×Int):=((List.range m).filter (fM eB)).map λj=>(hr eB j,W eB H (hr eB j))
variable{m:Nat}
theorem AI:fnd eB H (m+1)=fnd eB H m++(if fM eB m then[(hr eB m,W eB H (hr eB m))] else[]):=by
 unfold fnd;rw[List.range_succ,GdT,GaC];congr 1;cases h:fM eB m<;>simp[h]
theorem DK:(fnd eB H m).length<=m:=by
 unfold fnd;rw[Gab];exact Gbf (Gbc _ _) (by simp)
variable{g' n:Int}
theorem Kq{ms:D}{kk ye :Int}{last:Bool}(hw:gJ fw iv 100000 (pC ms H R F (eE+a) eF kk (.tup [.int h,.int a]))=some (.nx (pC ms H R F ye g' kk (.tup [.int h,.int a]))))(hz:F.length<1000)(hn:(R.length:Int)=n)
  (hc:(kk+1=n/\last=true)\/(kk+1≠n/\∃h2 a2,atD R (kk+1)=some (.tup [.int h2,.int a2])/\last=decide (h<h2))):
  cM (pC ms H R F eE eF kk (.tup [.int h,.int a]))=some (.nx (pC ms H R (if last then F++[.tup [.int h,.int ye]] else F) ye g' kk (.tup [.int h,.int a]))):=by
 have z:F.length<16777216:=by lia
 unfold pC at*;unfold cM vv;rcases hc with⟨c,rfl⟩| ⟨c,h2,a2,e,rfl⟩
 .simp[hw,hn,c,a9,z]
 .by_cases c2:h<h2
  .simp[hw,hn,c,e,c2,a9,z]
  .simp[hw,hn,c,e,c2]
theorem HR{ms:D}(hH:1<=H)(hs:eB.Pairwise λa b=>a.1<=b.1)(hl:eB.length<64):∃(y4 y5 y6 y7:Os),forL (gT [6,7]) cM (iV 0 (eB.map mk2)) [some (.sh ms),some (.sh (.int H)),some (.lok (.lst (eB.map mk2))),some (.own (.lst [])),some (.sh (.int 0)),some (.sh (.int 0)),none,none]=
  some (.nx [some (.sh ms),some (.sh (.int H)),some (.lok (.lst (eB.map mk2))),some (.own (.lst ((fnd eB H eB.length).map mk2))),y4,y5,y6,y7]):=by
 obtain⟨e,h1,eF,eE,y6,y7,h2,h3,h4,rfl⟩:=dI (g:=gT [6,7]) (body:=cM) (λm env=>∃(eF:Nat) (eE:Int) (y6 y7:Os),eF<=m/\eE=sm (am eB) m -sm (am eB) eF/\(∀i,i<eF->∀j,m<=j+1->j<eB.length->hr eB i<=hr eB j -H)/\
   env=[some (.sh ms),some (.sh (.int H)),some (.lok (.lst (eB.map mk2))),some (.own (.lst ((fnd eB H m).map mk2))),some (.sh (.int eE)),some (.sh (.int eF)),y6,y7]) (iV 0 (eB.map mk2)) 0
  [some (.sh ms),some (.sh (.int H)),some (.lok (.lst (eB.map mk2))),some (.own (.lst [])),some (.sh (.int 0)),some (.sh (.int 0)),none,none] ⟨0,0,none,none,Gaq _,by simp[sm],λi hi=>by lia,rfl⟩ (by
   rintro k d e hd ⟨eF,eE,y6,y7,h2,h3,h4,rfl⟩;rw[jj,Gaw] at hd;cases hk:eB[k]? with
   |none=>rw[hk] at hd;cases hd
   |some p=>
    rw[hk] at hd;have hkl:k<eB.length:=(Gam.mp hk).1;simp only[GbY,Gds] at hd;subst hd;rw[GaS] at h2 h3 h4⊢;have ep:mk2 p= .tup [.int (hr eB k),.int (am eB k)]:=by
     unfold mk2 hr am;rw[hk];rfl
    obtain⟨g,q1,q2,q3,q4,q5⟩:=HQ (eB:=eB) (ms:=ms) (F:=(fnd eB H k).map mk2) (kk:=(k:Int)) (a:=am eB k) hH hkl (k -eF) eF 100000 (eE+am eB k) rfl h2 (by lia);have allg:∀i,i<g->hr eB i<=hr eB k -H:=λi hi=>by
     by_cases c:i<eF
     .exact h4 i c k (by lia) hkl
     .exact q3 i (by lia) hi
    have tot:eE+am eB k -(sm (am eB) g -sm (am eB) eF)=sm (am eB) (k+1)-sm (am eB) g:=by
     rw[h3,sm];lia
    rw[tot] at q5;have eJ:((eB.map mk2).length:Int)=(eB.length:Int):=by simp
    have ev:=Kq (last:=fM eB k) q5 (GcF (by rw[Gab];exact DK) (by lia)) eJ (by
     by_cases c:k+1=eB.length
     .exact .inl ⟨by lia,by unfold fM;simp[c]⟩
     .refine .inr ⟨by lia,hr eB (k+1),am eB (k+1), ?_,by unfold fM;simp[c]⟩;have:=sf (eB:=eB) (g:=k+1) (by lia);rw[show((k:Int)+1)=((k+1:Nat):Int) by lia];exact this)
    refine⟨_,_, ?_,ev,g,_,some (.sh (.int (k:Int))),some (.sh (.tup [.int (hr eB k),.int (am eB k)])),by lia,rfl,λi hi j hj zf=> ?_, ?_⟩
    .rw[ep];rfl
    .have:=allg i hi;have:=uO hs (i:=k) (j:=j) (by lia) zf;lia
    .rw[AI];unfold pC;cases hL:fM eB k with
     |false=>simp
     |true=>
      have hw:=Pp (H:=H) hs hkl q2 allg q4 (by
       unfold fM at hL;rw[GaP] at hL;exact hL.imp Gao Gao)
      simp[mk2,hw])
 rw[ji,Gab,GaS] at h1;exact⟨_,_,_,_,h1⟩
variable{ms:List (Int×Int)}
theorem sk(hl:ms.length<64):sortedS [.lst (ms.map mk2)]=some ⟨.tn,.lst (d7 (ms.map mk2))⟩:=by
 have h1:((ms.map mk2).length<64):=by simpa using hl
 unfold sortedS one kN;simp only[Option.bind_some];rw[HM,Gaz h1];rfl
variable{y4 y5 y6 y7:Os}{M:List D}
theorem HU(es:sortedS [.lst M]=some ⟨.tn,.lst R⟩)(h1:forL (gT [6,7]) cM (iV 0 R) [some (.sh (.lst M)),some (.sh (.int H)),some (.lok (.lst R)),some (.own (.lst [])),some (.sh (.int 0)),some (.sh (.int 0)),none,none]=
  some (.nx [some (.sh (.lst M)),some (.sh (.int H)),some (.lok (.lst R)),some (.own (.lst F)),y4,y5,y6,y7]))(im:aC F=true):ja [.lst M,.int H]=some (.lst F):=by
 unfold ja w8;simp[-forL,-iV,es,h1,a9,im]
theorem mN:∀(a b:List Int),a.Pairwise (λx y=>x<y)->b.Pairwise (λx y=>x<y)->(∀x,x∈a↔x∈b)->a=b
 |[],[],_,_,_=>rfl
 |[],y::b,_,_,h=>absurd ((h y).mpr Gaf) (by simp)
 |x::a,[],_,_,h=>absurd ((h x).mp Gaf) (by simp)
 |x::a,y::b,ha,hb,h=>by
  have ha' :=GaY.mp ha;have xq :=GaY.mp hb;have exy:x=y:=by
   rcases Gar.mp ((h x).mp Gaf) with e|e
   .exact e
   .rcases Gar.mp ((h y).mpr Gaf) with e2|e2
    .exact e2.symm
    .have h3:=xq.1 x e;have h4:=ha'.1 y e2;lia
  subst exy;congr 1;refine mN a b ha'.2 xq.2 λz=> ⟨λhz=> ?_,λhz=> ?_⟩
  .rcases Gar.mp ((h z).mp (Gac _ hz)) with e|e
   .have:=ha'.1 z hz;lia
   .exact e
  .rcases Gar.mp ((h z).mpr (Gac _ hz)) with e|e
   .have:=xq.1 z hz;lia
   .exact e
theorem HV:∀(ns ks:List Int) (x:Int),x∈ns.foldl dd1 ks↔x∈ks\/x∈ns
 |[],ks,x=>by simp
 |n::ns,ks,x=>by
  rw[GcG,HV ns (dd1 ks n) x];unfold dd1;split
  .rename_i c;constructor
   .rintro(h|h)
    .exact .inl h
    .exact .inr (Gac _ h)
   .rintro(h|h)
    .exact .inl h
    .rcases Gar.mp h with rfl|h
     .exact .inl c
     .exact .inr h
  .simp only[GaF,Gar,Gcg,GdS];constructor
   .rintro((h|h)|h)
    .exact .inl h
    .exact .inr (.inl h)
    .exact .inr (.inr h)
   .rintro(h|h|h)
    .exact .inl (.inl h)
    .exact .inl (.inr h)
    .exact .inr h
theorem AJ:∀(ns ks:List Int),ks.Nodup->(ns.foldl dd1 ks).Nodup
 |[],ks,h=>h
 |n::ns,ks,h=>by
  rw[GcG];refine AJ ns _ ?_;unfold dd1;split
  .exact h
  .rename_i c;rw[Gdv];refine⟨h,by simp,λa ha b hb=> ?_⟩;rw[GaJ] at hb;subst hb
   exactλe=>c (e▸ha)
theorem HW:∀(ns ks:List Int),(ns.foldl dd1 ks).length<=ks.length+ns.length
 |[],ks=>by simp
 |n::ns,ks=>by
  rw[GcG];have h:=HW ns (dd1 ks n);have h2:(dd1 ks n).length<=ks.length+1:=by unfold dd1;split<;>simp
  rw[Gay];lia
theorem AK(h:a<b):ltC (DL.code (.int a)) (DL.code (.int b))=true:=by
 have e:¬a=b:=by lia
 simp[DL.code,aQ,ltC,dM,ltI,e,h]
theorem Fw(l:List Int):∃s:List Int,s.Perm l/\s.Pairwise (λa b=>a<=b)/\d7 (l.map D.int)=s.map D.int:=by
 have hp:=cW (l.map D.int);have hs:=fF (l.map D.int);have all:∀{ds:List D},(∀d∈ds,∃i:Int,d= .int i)->∃s:List Int,ds=s.map D.int:=by
  intro ds;induction ds with
  |nil=>exactλ_=> ⟨[],rfl⟩
  |cons d ds ih=>
   intro h;obtain⟨i,rfl⟩:=h d Gaf;obtain⟨s,rfl⟩:=ih λx hx=>h x (Gac _ hx);exact⟨i::s,rfl⟩
 obtain⟨s,e⟩:=all (ds:=d7 (l.map D.int)) λd hd=>by
  obtain⟨i,_,rfl⟩:=Gat.mp (hp.mem_iff.mp hd);exact⟨i,rfl⟩
 rw[e] at hp hs;refine⟨s, ?_, ?_,e⟩
 .have un:∀x:List Int,(x.map D.int).map (λd=>match d with| .int i=>i|_=>0)=x:=by
   intro x;rw[GaU];exact(GaT λ_ _=>rfl).trans (Gda x)
  have:=GdA (λd=>match d with|D.int i=>i|_=>0) hp;rw[un,un] at this;exact this
 .unfold iU at hs;rw[GdX] at hs;refine hs.imp λ{a b} h=> ?_;by_cases c:b<a
  .rw[AK c] at h;cases h
  .lia
theorem HX(ns:List Int):∃S:List Int,d7 ((ddF ns).map D.int)=S.map D.int/\S.Pairwise (λa b=>a<b)/\(∀x,x∈S↔x∈ns)/\S.length<=ns.length:=by
 obtain⟨s,h1,h2,h3⟩:=Fw (ddF ns);have nd:s.Nodup:=h1.nodup_iff.mpr (AJ ns [] List.nodup_nil);have mem:∀x,x∈s↔x∈ns:=λx=>by rw[h1.mem_iff];unfold ddF;rw[HV];simp
 refine⟨s,h3, ?_,mem, ?_⟩
 .have:=h2.and nd;exact this.imp λ{a b} h=>by
   have h1:=h.1;have h2:a≠b:=h.2;lia
 .rw[h1.length_eq];have:=HW ns []
  simpa[ddF] using this
noncomputable def HY(ms:List (Int×Int))(H:Int)(S:List Int):List (Int×Int):=S.map λh=>(h,W ms H h)
theorem HZ{l l' :List Int}(h:l.Perm l'):l.sum=l'.sum:=by
 induction h with
 |nil=>rfl
 |cons x _ ih=>simp[ih]
 |swap x y l=>simp;lia
 |trans _ _ h1 h2=>exact h1.trans h2
theorem MM(hp:eB.Perm ms)(h:Int):W eB H h=W ms H h:=by
 unfold W;exact HZ (GdA _ hp)
theorem sr(hs:eB.Pairwise λa b=>a.1<=b.1):∀(m i:Nat),eB.length -i=m->i<eB.length->∃j,j<eB.length/\hr eB j=hr eB i/\fM eB j=true
 |0,i,hm,hi=>by lia
 |m+1,i,hm,hi=>by
  by_cases c:i+1=eB.length
  .exact⟨i,hi,rfl,by unfold fM;simp[c]⟩
  .by_cases c2:hr eB i<hr eB (i+1)
   .exact⟨i,hi,rfl,by unfold fM;simp[c2]⟩
   .obtain⟨j,h1,h2,h3⟩:=sr hs m (i+1) (by lia) (by lia);have:=uO hs (i:=i) (j:=i+1) (by lia) (by lia);exact⟨j,h1,by rw[h2];lia,h3⟩
variable{S:List Int}
theorem Kr(hs:eB.Pairwise λa b=>a.1<=b.1)(hp:eB.Perm ms)(hS:S.Pairwise λa b=>a<b)(hm:∀x,x∈S↔x∈ms.map (·.1)):fnd eB H eB.length=HY ms H S:=by
 have eT:((List.range eB.length).filter (fM eB)).map (hr eB)=S:=by
  refine mN _ _ ?_ hS λx=> ?_
  .rw[GdX];have pr:((List.range eB.length).filter (fM eB)).Pairwise λi j=>i<j:=List.Pairwise.filter _ List.pairwise_lt_range;refine(List.Pairwise.and_mem.mp pr).imp λ{i j} h=> ?_;obtain⟨hi,hj,yO⟩:=h;obtain⟨i1,i2⟩:=GaO.mp hi;obtain⟨j1,_⟩:=GaO.mp hj;have jl:=GaX.mp j1;unfold fM at i2;rw[GaP] at i2;rcases i2 with i2|i2
   .have:=Gao i2;lia
   .have a1:=Gao i2;have a2:=uO hs (i:=i+1) (j:=j) (by lia) jl;lia
  .rw[hm,Gat,Gat];constructor
   .rintro⟨j,hj,rfl⟩;have jl:=GaX.mp (GaO.mp hj).1;exact⟨eB[j],hp.mem_iff.mp (GaI _),by unfold hr;simp[jl]⟩
   .rintro⟨p,xP,rfl⟩;obtain⟨i,hi,rfl⟩:=GbS (hp.mem_iff.mpr xP);obtain⟨j,h1,h2,h3⟩:=sr hs (eB.length -i) i rfl hi;refine⟨j,GaO.mpr ⟨GaX.mpr h1,h3⟩, ?_⟩;rw[h2];unfold hr;simp[hi]
 unfold fnd HY;rw[<-eT,GaU];exact GaT λj _=>by simp only[Function.comp];rw[MM hp]
theorem I0{ms:D}{kk:Int}{last:Bool}(hz:F.length<1000)(hn:(R.length:Int)=n)
  (hc:(kk+1=n/\last=true)\/(kk+1≠n/\∃h2 a2,atD R (kk+1)=some (.tup [.int h2,.int a2])/\last=decide (h<h2))):
  cM [some (.sh ms),some (.sh .non),some (.lok (.lst R)),some (.own (.lst F)),some (.sh (.int eE)),some (.sh (.int 0)),some (.sh (.int kk)),some (.sh (.tup [.int h,.int a]))]=
   some (.nx [some (.sh ms),some (.sh .non),some (.lok (.lst R)),some (.own (.lst (if last then F++[.tup [.int h,.int (eE+a)]] else F))),some (.sh (.int (eE+a))),some (.sh (.int 0)),some (.sh (.int kk)),some (.sh (.tup [.int h,.int a]))]):=by
 have z:F.length<16777216:=by lia
 have hw:gJ fw iv 100000 [some (.sh ms),some (.sh .non),some (.lok (.lst R)),some (.own (.lst F)),some (.sh (.int (eE+a))),some (.sh (.int 0)),some (.sh (.int kk)),some (.sh (.tup [.int h,.int a]))]=some (.nx [some (.sh ms),some (.sh .non),some (.lok (.lst R)),some (.own (.lst F)),some (.sh (.int (eE+a))),some (.sh (.int 0)),some (.sh (.int kk)),some (.sh (.tup [.int h,.int a]))]):=by
  have t:fw [some (.sh ms),some (.sh .non),some (.lok (.lst R)),some (.own (.lst F)),some (.sh (.int (eE+a))),some (.sh (.int 0)),some (.sh (.int kk)),some (.sh (.tup [.int h,.int a]))]=some false:=by
   unfold fw;simp
  unfold gJ;rw[t];simp
 unfold cM vv;rcases hc with⟨c,rfl⟩| ⟨c,h2,a2,e,rfl⟩
 .simp[hw,hn,c,a9,z]
 .by_cases c2:h<h2
  .simp[hw,hn,c,e,c2,a9,z]
  .simp[hw,hn,c,e,c2]
theorem Fx{ms:D}(hH:∀p∈eB,∀q∈eB,q.1 -H<p.1)(hs:eB.Pairwise λa b=>a.1<=b.1)(hl:eB.length<64):∃(y4 y5 y6 y7:Os),forL (gT [6,7]) cM (iV 0 (eB.map mk2)) [some (.sh ms),some (.sh .non),some (.lok (.lst (eB.map mk2))),some (.own (.lst [])),some (.sh (.int 0)),some (.sh (.int 0)),none,none]=
  some (.nx [some (.sh ms),some (.sh .non),some (.lok (.lst (eB.map mk2))),some (.own (.lst ((fnd eB H eB.length).map mk2))),y4,y5,y6,y7]):=by
 obtain⟨e,h1,eE,y6,y7,h3,rfl⟩:=dI (g:=gT [6,7]) (body:=cM) (λm env=>∃(eE:Int) (y6 y7:Os),eE=sm (am eB) m/\
   env=[some (.sh ms),some (.sh .non),some (.lok (.lst (eB.map mk2))),some (.own (.lst ((fnd eB H m).map mk2))),some (.sh (.int eE)),some (.sh (.int 0)),y6,y7]) (iV 0 (eB.map mk2)) 0
  [some (.sh ms),some (.sh .non),some (.lok (.lst (eB.map mk2))),some (.own (.lst [])),some (.sh (.int 0)),some (.sh (.int 0)),none,none] ⟨0,none,none,by simp[sm],rfl⟩ (by
   rintro k d e hd ⟨eE,y6,y7,h3,rfl⟩;rw[jj,Gaw] at hd;cases hk:eB[k]? with
   |none=>rw[hk] at hd;cases hd
   |some p=>
    rw[hk] at hd;have hkl:k<eB.length:=(Gam.mp hk).1;simp only[GbY,Gds] at hd;subst hd;rw[GaS] at h3⊢;have ep:mk2 p= .tup [.int (hr eB k),.int (am eB k)]:=by
     unfold mk2 hr am;rw[hk];rfl
    have eJ:((eB.map mk2).length:Int)=(eB.length:Int):=by simp
    have ev:=I0 (ms:=ms) (R:=eB.map mk2) (F:=(fnd eB H k).map mk2) (eE:=eE) (kk:=(k:Int)) (h:=hr eB k) (a:=am eB k) (last:=fM eB k) (GcF (by rw[Gab];exact DK) (by lia)) eJ (by
     by_cases c:k+1=eB.length
     .exact .inl ⟨by lia,by unfold fM;simp[c]⟩
     .refine .inr ⟨by lia,hr eB (k+1),am eB (k+1), ?_,by unfold fM;simp[c]⟩;have:=sf (eB:=eB) (g:=k+1) (by lia);rw[show((k:Int)+1)=((k+1:Nat):Int) by lia];exact this)
    refine⟨_,_, ?_,ev,eE+am eB k,some (.sh (.int (k:Int))),some (.sh (.tup [.int (hr eB k),.int (am eB k)])),by rw[h3];rfl, ?_⟩
    .rw[ep];rfl
    .rw[AI];cases hL:fM eB k with
     |false=>simp
     |true=>
      have hr_in:∀i,i<eB.length->∃p∈eB,p.1=hr eB i:=λi hi=> ⟨eB[i],GaI _,by unfold hr;simp[hi]⟩;have hw:=Pp (H:=H) hs hkl (Gbk k) (λi hi=>by lia) (by
       obtain⟨p,hp,e1⟩:=hr_in 0 (by lia);obtain⟨q,hq,e2⟩:=hr_in k hkl;have:=hH p hp q hq;lia) (by
       unfold fM at hL;rw[GaP] at hL;exact hL.imp Gao Gao)
      have tot:eE+am eB k=W eB H (hr eB k):=by
       rw[hw,h3];show sm (am eB) k+am eB k=sm (am eB) (k+1)-sm (am eB) 0;simp[sm]
      simp[mk2,tot])
 rw[ji,Gab,GaS] at h1;exact⟨_,_,_,_,h1⟩
theorem Fy(es:sortedS [.lst M]=some ⟨.tn,.lst R⟩)(h1:forL (gT [6,7]) cM (iV 0 R) [some (.sh (.lst M)),some (.sh .non),some (.lok (.lst R)),some (.own (.lst [])),some (.sh (.int 0)),some (.sh (.int 0)),none,none]=
  some (.nx [some (.sh (.lst M)),some (.sh .non),some (.lok (.lst R)),some (.own (.lst F)),y4,y5,y6,y7]))(im:aC F=true):ja [.lst M,.non]=some (.lst F):=by
 unfold ja w8;simp[-forL,-iV,es,h1,a9,im]
def HD(hd:D)(H:Int)(ms:List (Int×Int)):Prop:=(hd= .int H/\1<=H)\/(hd= .non/\∀p∈ms,∀q∈ms,q.1 -H<p.1)
variable{xS :List (Int×Int)}{hd:D}
theorem HD.perm(h:HD hd H ms)(hp:ms.Perm xS):HD hd H xS :=by
 rcases h with h| ⟨h1,h2⟩
 .exact .inl h
 .exact .inr ⟨h1,λp xP q hq=>h2 p (hp.mem_iff.mpr xP) q (hp.mem_iff.mpr hq)⟩
theorem su(h:HD hd H ms)(hp:xS.Perm ms)(hl:ms.length<64)(hS:S.Pairwise λa b=>a<b)(hm:∀x,x∈S↔x∈ms.map (·.1)):ja [.lst (xS.map mk2),hd]=some (.lst ((HY ms H S).map mk2)):=by
 obtain⟨eB,e,yx,hs⟩:=AH xS;have hp3:eB.Perm ms:=yx.trans hp;have zR:eB.length<64:=by rw[hp3.length_eq];exact hl
 have es:=sk (ms:=xS) (by rw[hp.length_eq];exact hl);rw[e] at es;rw[<-Kr hs hp3 hS hm];rcases h.perm hp3.symm with⟨rfl,hH⟩| ⟨rfl,hH⟩
 .obtain⟨y4,y5,y6,y7,h⟩:=HR (eB:=eB) (ms:= .lst (xS.map mk2)) hH hs zR;exact HU es h (DF _)
 .obtain⟨y4,y5,y6,y7,h⟩:=Fx (eB:=eB) (ms:= .lst (xS.map mk2)) hH hs zR;exact Fy es h (DF _)
noncomputable def gpF(os:List Order)(gs:List Tr)(r l:Int×Int):List Flt:=match os[r.2.toNat]?,os[l.2.toNat]? with
 |some a,some b=>if l.1 -r.1<tL gs a b then[("gap",[r.2,r.1,l.2,l.1])] else[]
 |_,_=>[]
theorem Ia(R:List D)(j:Nat):slD (some ((j:Int)+1)) none (.lst R)=some ⟨.tn,.lst (R.drop (j+1))⟩:=by
 show some (⟨.tn,.lst (cutD R (some ((j:Int)+1)) none)⟩:RV)=_;have e:sIx R.length 0 (some ((j:Int)+1))=min (j+1) R.length:=by
  show(if(j:Int)+1<0 then((j:Int)+1+(R.length:Int)).toNat else min ((j:Int)+1).toNat R.length)=_;rw[Gag (by lia)];congr 1
 unfold cutD;have e2:sIx R.length R.length none=R.length:=rfl;rw[e,e2];congr 3;rw[List.take_of_length_le (by rw[GcS];lia)];by_cases c:j+1<=R.length
 .rw[Nat.min_eq_left c]
 .rw[Nat.min_eq_right (by lia),List.drop_length,List.drop_of_length_le (by lia)]
noncomputable def gvR(gv:List Tr):List (Int×Int):=gv.map λt=>(t.2.1,t.1)
abbrev Tg:=(Int×Int)×List (Int×Int)
noncomputable def tk(os:List Order)(t:Tr):Int×Int:=match os[t.1.toNat]? with
 |some o=>(o.aa,o.af)
 |none=>(0,0)
noncomputable def Ls(st:List Tg)(k m:Int×Int):List Tg:=match st.findIdx? (λe=>decide (e.1=k)) with
 |some j=>st.set j (k,((st[j]?.map (·.2)).getD [])++[m])
 |none=>st++[(k,[m])]
structure MN(os:List Order)(pre:List Tr)(st:List Tg):Prop where
 nd:(st.map (·.1)).Nodup
 ms:∀e∈st,e.2=(pre.filter λt=>decide (tk os t=e.1)).map λt=>(t.2.1,t.2.2)
 cov:∀t∈pre,tk os t∈st.map (·.1)
 back:∀e∈st,∃t∈pre,tk os t=e.1
 ln:st.length<=pre.length
variable{pre:List Tr}{os:List Order}
theorem MN.step{st:List Tg}(I:MN os pre st)(t:Tr):MN os (pre++[t]) (Ls st (tk os t) (t.2.1,t.2.2)):=by
 obtain⟨nd,ms,cov,back,ln⟩:=I;generalize hk:tk os t=k;have flt:∀q:Int×Int,((pre++[t]).filter λt=>decide (tk os t=q))=(pre.filter λt=>decide (tk os t=q))++(if k=q then[t] else[]):=λq=>by
  rw[GdT];congr 1;by_cases c:k=q
  .rw[Gah c];simp[hk,c]
  .rw[Gag c];simp[hk,c]
 unfold Ls;cases h:st.findIdx? (λe=>decide (e.1=k)) with
 |none=>
  have no:=List.findIdx?_eq_none_iff.mp h;have nk:k∉st.map (·.1):=λhm=>by
   obtain⟨e,he,ek⟩:=Gat.mp hm;have:=no e he;simp[ek] at this
  have pre0:(pre.filter λt=>decide (tk os t=k))=[]:=by
   rw[List.filter_eq_nil_iff];intro x hx;have:=cov x hx;simp;intro q;rw[q] at this;exact nk this
  dsimp only;refine⟨?_, ?_, ?_, ?_,by simp;lia⟩
  .rw[GaC,Gdv];refine⟨nd,by simp, ?_⟩;intro a ha b hb;simp at hb;rw[hb]
   exactλq=>nk (q▸ha)
  .intro e he;rcases GaF.mp he with he|he
   .rw[flt,Gag (λq=>nk (Gat.mpr ⟨e,he,q.symm⟩)),GaV];exact ms e he
   .simp at he;rw[he,flt,pre0];simp
  .intro x hx;rw[GaC];rcases GaF.mp hx with hx|hx
   .exact Gbr _ (cov x hx)
   .simp at hx;rw[hx,hk];simp
  .intro e he;rcases GaF.mp he with he|he
   .obtain⟨x,hx,q⟩:=back e he;exact⟨x,Gbr _ hx,q⟩
   .simp at he;rw[he];exact⟨t,by simp,hk⟩
 |some j=>
  obtain⟨hj,hp,_⟩:=List.findIdx?_eq_some_iff_getElem.mp h;have ek:st[j].1=k:=Gao hp;dsimp only;rw[Gad hj];have keys:(st.set j (k,(((some st[j]).map (·.2)).getD [])++[(t.2.1,t.2.2)])).map (·.1)=st.map (·.1):=by
   rw[List.map_set];have:k=(st.map (·.1))[j]'(by simpa using hj):=by rw[Gch,ek]
   simp only
   conv=>lhs;arg 3;rw[this]
   exact List.set_getElem_self _
  have mem:∀e∈st.set j (k,(((some st[j]).map (·.2)).getD [])++[(t.2.1,t.2.2)]),e=(k,st[j].2++[(t.2.1,t.2.2)])\/(e∈st/\e.1≠k):=by
   intro e he;obtain⟨i,hi,rfl⟩:=GbS he;have xa :i<st.length:=by simpa using hi
   by_cases c:j=i
   .subst c
    left
    simp
   .right
    rw[List.getElem_set_ne c];refine⟨GaI xa,λq=>c ?_⟩;have e1:(st.map (·.1))[j]'(by simpa using hj)=(st.map (·.1))[i]'(by simpa using xa):=by rw[Gch,Gch,ek,q]
    exact(List.getElem_inj nd).mp e1
  refine⟨by rw[keys];exact nd, ?_, ?_, ?_,by simp;lia⟩
  .intro e he;rcases mem e he with q| ⟨q1,q2⟩
   .rw[q];have:=ms st[j] (GaI hj);rw[ek] at this;rw[flt,Gah rfl,GaC,<-this]
    rfl
   .rw[flt,Gag (λz=>q2 z.symm),GaV];exact ms e q1
  .intro x hx;rw[keys];rcases GaF.mp hx with hx|hx
   .exact cov x hx
   .simp at hx;rw[hx,hk,<-ek];exact Gat.mpr ⟨_,GaI hj,rfl⟩
  .intro e he;rcases mem e he with q| ⟨q1,q2⟩
   .rw[q];exact⟨t,by simp,hk⟩
   .obtain⟨x,hx,q⟩:=back e q1;exact⟨x,Gbr _ hx,q⟩
noncomputable def jA(ns:List Int):List Int:=(d7 ((ddF ns).map D.int)).map unI
theorem jB(ns:List Int):(jA ns).Pairwise (λa b=>a<b)/\(∀x,x∈jA ns↔x∈ns)/\(jA ns).length<=ns.length:=by
 obtain⟨S,h1,h2,h3,h4⟩:=HX ns;have e:jA ns=S:=by
  unfold jA;rw[h1,GaU]
  conv=>rhs;rw[<-Gda S]
  exact GaT λ_ _=>rfl
 rw[e];exact⟨h2,h3,h4⟩
noncomputable def cU:Cap->Int->Int->Bool
 | .flat H _,h,a=>decide (h -H<a)&&decide (a<=h)
 | .kilo H _ _,h,a=>decide (h -H<a)&&decide (a<=h)
 | .ever _,h,a=>decide (a<=h)
noncomputable def b4(c:Cap)(ms:List (Int×Int))(h:Int):Int:=(ms.map λp=>if cU c h p.1 then p.2 else 0).sum
noncomputable def iO:Cap->D
 | .flat H _=> .int H
 | .kilo H _ _=> .int H
 | .ever _=> .non
theorem Pq(ms:List (Int×Int)):∃H:Int,∀p∈ms,∀q∈ms,q.1 -H<p.1:=by
 have:∃B:Int,∀p∈ms,-B<p.1/\p.1<B:=by
  induction ms with
  |nil=>exact⟨0,by simp⟩
  |cons p ms ih=>
   obtain⟨B,hB⟩:=ih;refine⟨(if B<0 then -B else B)+(if p.1<0 then -p.1 else p.1)+1, ?_⟩;intro q hq;rcases Gar.mp hq with rfl|hq
   .split<;>split<;>lia
   .have:=hB q hq;split<;>split<;>lia
 obtain⟨B,hB⟩:=this;refine⟨2*B,λp hp q hq=> ?_⟩;have:=hB p hp;have:=hB q hq;lia
theorem Ib(ok:jz c)(hl:ms.length<64):ja [.lst (ms.map mk2),iO c]=some (.lst (((jA (ms.map (·.1))).map λh=>(h,b4 c ms h)).map mk2)):=by
 obtain⟨h1,h2,h3⟩:=jB (ms.map (·.1));have fin:∀(H:Int),(∀h,h∈ms.map (·.1)->∀p∈ms,wt H h p=if cU c h p.1 then p.2 else 0)->HY ms H (jA (ms.map (·.1)))=(jA (ms.map (·.1))).map λh=>(h,b4 c ms h):=λH e=>by
  unfold HY;refine GaT λh hh=> ?_;unfold W b4;rw[GaT λp hp=>e h ((h2 h).mp hh) p hp]
 have lim:∀(H h:Int) (p:Int×Int),wt H h p=if(decide (h -H<p.1)&&decide (p.1<=h)) then p.2 else 0:=λH h p=>by
  unfold wt;by_cases c1:h -H<p.1<;>by_cases c2:p.1<=h<;>simp[c1,c2]
 cases c with
 |flat H t=>
  rw[<-fin H (λh _ p _=>lim H h p)];exact su (.inl ⟨rfl,ok.1⟩) (List.Perm.refl _) hl h1 h2
 |kilo H t p=>
  rw[<-fin H (λh _ p _=>lim H h p)];exact su (.inl ⟨rfl,ok.1⟩) (List.Perm.refl _) hl h1 h2
 |ever t=>
  obtain⟨H,hH⟩:=Pq ms;rw[<-fin H (λh hh p hp=>by
   obtain⟨q,hq,rfl⟩:=Gat.mp hh;rw[lim];have:=hH p hp q hq;simp[cU,this])]
  exact su (.inr ⟨rfl,hH⟩) (List.Perm.refl _) hl h1 h2
noncomputable def lJ(ws:List Tr)(c:Cap)(g s k:Int)(r:Int×Int):List Flt:=match bW c (wgt g r.1 ws none) with
 |some top=>if r.2>top then[("cap",[g,s,k,r.1,r.2,top])] else[]
 |none=>[]
theorem sx(ws:List Tr)(c:Cap)(g s k:Int)(r:Int×Int):(lJ ws c g s k r).length<=1:=by
 unfold lJ;split
 .split<;>simp
 .simp
theorem AL{α β:Type}(f:α->List β)(h:∀a,(f a).length<=1):∀l:List α,(l.flatMap f).length<=l.length
 |[]=>by simp
 |a::l=>by
  have h1:=h a;have h2:=AL f h l;simp;simp at h2;lia
theorem uP{α β:Type}(f:α->List β)(N:Nat):∀l:List α,(∀a∈l,(f a).length<=N)->(l.flatMap f).length<=l.length*N
 |[],_=>by simp
 |a::l,h=>by
  have h1:=h a Gaf;have h2:=uP f N l λx hx=>h x (Gac _ hx);rw[GbD,Gai,Gay,Nat.succ_mul];lia
noncomputable def pY(w:World)(ws:List Tr)(t:Tr):List Flt:=match w.orders[t.1.toNat]? with
 |some o=>match w.aw[o.af.toNat]?,w.aT[o.aa.toNat]? with
  |some s,some g=>(HL o s g.2 ws t).map λk=>(k,[t.1,t.2.1])
  |_,_=>[]
 |none=>[]
theorem AM:∀(a b:List Int),mH (a.map D.int) (b.map D.int)=true
 |[],b=>by cases b<;>rfl
 |x::a,[]=>rfl
 |x::a,y::b=>by
  rw[GaA,GaA];unfold mH;split
  .exact AM a b
  .rfl
theorem Ic(fs:List Flt):keysOk (fs.map aI)=true:=by
 have h1:(fs.map aI).all (mE 2)=true:=by
  rw[Gbs,Gap];intro p _;show((tyD (.str p.1)==2)&&(p.2.map D.int).all mD)=true;rw[Gbs,Gan];exact⟨rfl,Gap.mpr λ_ _=>rfl⟩
 have h2:((fs.map aI).all λx=>(fs.map aI).all λy=>A0 x y)=true:=by
  rw[Gbs,Gap];intro p _;simp only[GbE];rw[Gbs,Gap];intro q _;show mH (.str p.1::p.2.map .int) (.str q.1::q.2.map .int)=true;unfold mH;split
  .exact AM _ _
  .rfl
 unfold keysOk;rw[h1,h2];simp
variable{ea la:Int}
theorem DN{e k:Int}(e1:1<=e)(a0:0<=ea)(l0:0<=la)(al:ea+la<e):(b+k*e -ea<=h/\h<=b+k*e+la)↔((h -(b -ea))/e=k/\h -(b -ea)-k*e<=ea+la):=by
 constructor
 .rintro⟨h1,h2⟩;refine⟨?_,by lia⟩;have h3:k<=(h -(b -ea))/e:=(Int.le_ediv_iff_mul_le (by lia)).mpr (by lia);have h4:(h -(b -ea))/e<k+1:=(Int.ediv_lt_iff_lt_mul (by lia)).mpr (by rw[Int.add_mul];lia);lia
 .rintro⟨h1,h2⟩;have h3:(h -(b -ea))/e*e<=h -(b -ea):=Int.ediv_mul_le _ (by lia);rw[h1] at h3;lia
noncomputable def Fz(b e ea la h:Int):D->Option D
 | .int k=>if b+k*e -ea<=h/\h<=b+k*e+la then some (.int k) else none
 |_=>none
theorem oy{e k:Int}:Fz b e ea la h (.int k)=if b+k*e -ea<=h/\h<=b+k*e+la then some (.int k) else none:=rfl
theorem Ie{e m:Int}(e1:1<=e)(m0:0<=m)(a0:0<=ea)(l0:0<=la)(al:ea+la<e):(aB 0 m.toNat).findSome? (Fz b e ea la h)=(ox b e m ea la h).map D.int:=by
 have iff:=λk=>DN (b:=b) (e:=e) (ea:=ea) (la:=la) (h:=h) (k:=k) e1 a0 l0 al;unfold ox;generalize hq:(h -(b -ea))/e=q at*;by_cases c:(0<=q/\q<m)/\h -(b -ea)-q*e<=ea+la
 .rw[Gah c];obtain⟨n,hn⟩:=GbA c.1.1;have hm:D.int q∈aB 0 m.toNat:=by
   unfold aB;exact Gat.mpr ⟨n,GaX.mpr (by lia),by rw[hn];simp⟩
  have hr:Fz b e ea la h (.int q)=some (.int q):=by
   rw[oy,Gah ((iff q).mpr ⟨rfl,c.2⟩)]
  cases hf:(aB 0 m.toNat).findSome? (Fz b e ea la h) with
  |none=>rw[List.findSome?_eq_none_iff.mp hf _ hm] at hr;cases hr
  |some v=>
   obtain⟨d,hd,hv⟩:=List.exists_of_findSome?_eq_some hf;obtain⟨i,hi⟩:=GbL hd;obtain⟨xa,rfl⟩:=aZ hi;rw[oy] at hv;split at hv
   .rename_i cc;rw[<-((iff _).mp cc).1] at hv;injection hv with hv
    rw[<-hv];rfl
   .cases hv
 .rw[Gag c];rw[Option.map_none,List.findSome?_eq_none_iff];intro d hd;obtain⟨i,hi⟩:=GbL hd;obtain⟨xa,rfl⟩:=aZ hi;rw[oy,Gag];intro cc;have:=(iff _).mp cc;exact c ⟨by lia,by rw[this.1];exact this.2⟩
variable{o:Order}
theorem oz(ok:gR o.aV):jw [ah o,.int h]=some (d6 (cJ o.aV h)):=by
 have p4:ixD (ah o) (.int 4)=some (fA o.aV):=rfl;generalize ah o=OD at*;cases hu:o.aV with
 |asked b=>
  rw[hu] at p4;unfold fA at p4;refine b5 rfl ?_;unfold ma cJ;refine(ag (by simp[bw,p4,eqB];rfl)).trans ?_;simp
 |due b e m ea la=>
  rw[hu] at p4 ok;obtain⟨e1,e2,hm,a0,l0,al,ab,b3⟩:=ok;have me:∀j,aX j e=true:=λj=>fb (by lia) (by lia);have sm:aP m=true:=aU (by lia) (by lia);unfold fA at p4;have step:∀(k:Int) (x3:Os),fJ [some (.sh OD),some (.sh (.int h)),some (.sh (.int k)),x3]=if b+k*e -ea<=h/\h<=b+k*e+la then some (.ret (.int k)) else some (.nx [some (.sh OD),some (.sh (.int h)),some (.sh (.int k)),some (.sh (.int (b+k*e)))]):=by
   intro k x3;unfold fJ;by_cases c1:b+k*e -ea<=h
   .by_cases c2:h<=b+k*e+la
    .simp[p4,c1,c2,me]
    .simp[p4,c1,c2,me]
   .simp[p4,c1,me]
  have key:∀(l:List D) (x2 x3:Os),(∀d∈l,∃k:Int,d= .int k)->(match l.findSome? (Fz b e ea la h) with|some d=>forL (gN 2) fJ l [some (.sh OD),some (.sh (.int h)),x2,x3]=some (.ret d)|none=>∃y2 y3,forL (gN 2) fJ l [some (.sh OD),some (.sh (.int h)),x2,x3]=some (.nx [some (.sh OD),some (.sh (.int h)),y2,y3])):=by
   intro l;induction l with
   |nil=>intro x2 x3 _;exact⟨x2,x3,by simp⟩
   |cons d l ih=>
    intro x2 x3 hd;obtain⟨k,rfl⟩:=hd d Gaf;have sv:=step k x3;rw[List.findSome?_cons,oy];by_cases c:b+k*e -ea<=h/\h<=b+k*e+la
    .rw[Gah c] at sv⊢;dsimp only;simp only[forL,gN,GaK,GaL,Option.bind_some,sv]
    .rw[Gag c] at sv⊢;dsimp only;have q:=ih (some (.sh (.int k))) (some (.sh (.int (b+k*e)))) λx hx=>hd x (Gac _ hx);cases hf:l.findSome? (Fz b e ea la h) with
     |none=>
      rw[hf] at q;obtain⟨y2,y3,q⟩:=q;refine⟨y2,y3, ?_⟩;simp only[forL,gN,GaK,GaL,Option.bind_some,sv];exact q
     |some v=>
      rw[hf] at q;dsimp only at q⊢;simp only[forL,gN,GaK,GaL,Option.bind_some,sv];exact q
  have q:=key (aB 0 m.toNat) none none (λd hd=>by
   obtain⟨i,hi⟩:=GbL hd;obtain⟨_,rfl⟩:=aZ hi;exact⟨_,rfl⟩)
  rw[Ie e1 (by lia) a0 l0 al] at q;have ed:cJ (.due b e m ea la) h=ox b e m ea la h:=rfl;rw[ed];refine b5 rfl ?_;unfold ma;cases hk:ox b e m ea la h with
  |none=>
   rw[hk] at q;obtain⟨y2,y3,q⟩:=q;refine(ag (by simp[-forL,bw,p4,eqB,sm,q,freed];rfl)).trans ?_;simp
  |some k=>
   rw[hk] at q;dsimp only[Option.map] at q;refine Kn ?_;simp[-forL,bw,p4,eqB,sm,q,freed]
theorem tM{w:Option Int}(ok:jz c):dD [b6 c,d6 w]=some (d6 (bW c w)):=by
 cases c with
 |ever t=>unfold dD g8 b6 bW;simp
 |flat h t=>unfold dD g8 b6 bW;simp
 |kilo h t p=>
  obtain⟨h1,t1,t2,p1,p2⟩:=ok;cases w with
  |none=>unfold dD g8 b6 bW;simp[ky,cu]
  |some w=>
   have mm:aX w t=true:=fb (by lia) (by lia);have pp:0<p/\p<1073741824:=by lia
   unfold dD g8 b6 bW;simp[ky,cu,mm,pp]
noncomputable def bL(os:List Order)(c:Cap)(k:Int×Int)(h:Int):List Tr->Int
 |[]=>0
 |t::gv=>(if decide (tk os t=k)&&cU c h t.2.1 then t.2.2 else 0)+bL os c k h gv
theorem sA(os:List Order)(c:Cap)(k:Int×Int)(h:Int):∀gv:List Tr,bL os c k h gv=b4 c ((gv.filter λt=>decide (tk os t=k)).map λt=>(t.2.1,t.2.2)) h
 |[]=>rfl
 |t::gv=>by
  have ih:=sA os c k h gv;unfold bL;rw[ih];unfold b4;by_cases e:tk os t=k
  .rw[Gdp (by simpa using e)];simp[e]
  .rw[Gdq (by simpa using e)];simp[e]
noncomputable def fR(os:List Order)(ws gv:List Tr)(o:Order)(h:Int):Nat->List Cap->List Flt
 |_,[]=>[]
 |k,c::cs=>lJ ws c o.aa o.af (k:Int) (h,bL os c (o.aa,o.af) h gv)++fR os ws gv o h (k+1) cs
theorem md(os:List Order)(ws gv:List Tr)(o:Order)(h:Int):∀(k:Nat) (cs:List Cap),(fR os ws gv o h k cs).length<=cs.length
 |_,[]=>by simp[fR]
 |k,c::cs=>by
  have h1:=md os ws gv o h (k+1) cs;have h2:=sx ws c o.aa o.af (k:Int) (h,bL os c (o.aa,o.af) h gv);unfold fR;rw[Gai,Gay];lia
noncomputable def ovT(w:World)(ws gv:List Tr)(t:Tr):List Flt:=match w.orders[t.1.toNat]? with
 |some o=>fR w.orders ws gv o t.2.1 0 ((w.aw[o.af.toNat]?.map (·.ax)).getD [])
 |none=>[]
variable{e5 e6:Os}{T:Int}{OD:D}{A B C O:List D}
theorem Pr{bk:D}{s m s' :Int}{e12:Os}(hO:atD O n=some OD)(h1:ixD OD (.int 1)=some (.int g'))(h2:ixD OD (.int 2)=some (.int s')):
  dQ [some (.sh (.tup [.tup A,.tup B,.tup C,.tup O])),some (.sh bk),some (.sh (.int g)),some (.sh (.int s)),some (.sh (.int h)),e5,e6,some (.sh (b6 c)),some (.sh (.int T)),some (.sh (.int n)),some (.sh (.int a)),some (.sh (.int m)),e12]=
   some (.nx [some (.sh (.tup [.tup A,.tup B,.tup C,.tup O])),some (.sh bk),some (.sh (.int g)),some (.sh (.int s)),some (.sh (.int h)),e5,e6,some (.sh (b6 c)),some (.sh (.int (T+if decide ((g',s')=(g,s))&&cU c h a then m else 0))),some (.sh (.int n)),some (.sh (.int a)),some (.sh (.int m)),e12]):=by
 have e1:eqB (.int g') (.int g)=some (decide (g' =g)):=by unfold eqB;by_cases c:g' =g<;>simp[c]
 have e2:eqB (.int s') (.int s)=some (decide (s' =s)):=by unfold eqB;by_cases c:s' =s<;>simp[c]
 unfold dQ;by_cases c1:g' =g
 .by_cases c2:s' =s
  .by_cases c3:a<=h
   .have cc:decide ((g',s')=(g,s))=true:=Gaz (by rw[c1,c2]);rw[cc];cases c with
    |ever t=>simp[hO,h1,h2,e1,e2,c1,c2,c3,b6,cU]
    |flat H t=>
     by_cases c4:h -H<a
     .simp[hO,h1,h2,e1,e2,c1,c2,c3,b6,cU,c4,eqB]
     .simp[hO,h1,h2,e1,e2,c1,c2,c3,b6,cU,c4,eqB]
    |kilo H t p=>
     by_cases c4:h -H<a
     .simp[hO,h1,h2,e1,e2,c1,c2,c3,b6,cU,c4,eqB]
     .simp[hO,h1,h2,e1,e2,c1,c2,c3,b6,cU,c4,eqB]
   .have q:cU c h a=false:=by cases c<;>simp[cU,c3]
    rw[q,Gcf];simp[hO,h1,h2,e1,e2,c1,c2,c3]
  .have cc:decide ((g',s')=(g,s))=false:=Gax (by simp[c2]);rw[cc,GdR];simp[hO,h1,h2,e1,e2,c1,c2]
 .have cc:decide ((g',s')=(g,s))=false:=Gax (by simp[c1]);rw[cc,GdR];simp[hO,h1,e1,c1]
theorem DP{w:World}(W:aH w){A B C:List D}{bk:D}{c:Cap}{g s h:Int}{e5 e6 e12:Os}:∀(gv:List Tr) (T:Int) (x9 eM h8:Os),bY w.orders.length gv->∃y9 eO xh,
  forL (gT [9,10,11]) dQ (gv.map trD) [some (.sh (.tup [.tup A,.tup B,.tup C,.tup (w.orders.map ah)])),some (.sh bk),some (.sh (.int g)),some (.sh (.int s)),some (.sh (.int h)),e5,e6,some (.sh (b6 c)),some (.sh (.int T)),x9,eM,h8,e12]=
   some (.nx [some (.sh (.tup [.tup A,.tup B,.tup C,.tup (w.orders.map ah)])),some (.sh bk),some (.sh (.int g)),some (.sh (.int s)),some (.sh (.int h)),e5,e6,some (.sh (b6 c)),some (.sh (.int (T+bL w.orders c (g,s) h gv))),y9,eO,xh,e12])
 |[],T,x9,eM,h8,_=> ⟨x9,eM,h8,by simp[bL]⟩
 |t::gv,T,x9,eM,h8,hg=>by
  have g0:=hg t Gaf;obtain⟨n,hn⟩:=GbA g0.1;have yC :n<w.orders.length:=by lia
  have hO:atD (w.orders.map ah) t.1=some (ah w.orders[n]):=by rw[hn,gZ,Gaw,Gad yC];rfl
  have etk:tk w.orders t=(w.orders[n].aa,w.orders[n].af):=by
   unfold tk;rw[hn,Gbd,Gad yC]
  have ev:=Pr (A:=A) (B:=B) (C:=C) (bk:=bk) (c:=c) (g:=g) (s:=s) (h:=h) (T:=T) (a:=t.2.1) (m:=t.2.2) (e5:=e5) (e6:=e6) (e12:=e12) (g' :=w.orders[n].aa) (s' :=w.orders[n].af) hO rfl rfl;rw[<-etk] at ev;obtain⟨y9,eO,xh,e⟩:=DP W (A:=A) (B:=B) (C:=C) (bk:=bk) (c:=c) (g:=g) (s:=s) (h:=h) (e5:=e5) (e6:=e6) (e12:=e12) gv (T+if decide (tk w.orders t=(g,s))&&cU c h t.2.1 then t.2.2 else 0) (some (.sh (.int t.1))) (some (.sh (.int t.2.1))) (some (.sh (.int t.2.2))) λx hx=>hg x (Gac _ hx);refine⟨y9,eO,xh, ?_⟩;rw[GaA]
  conv=>rhs;unfold bL
  rw[<-Int.add_assoc];have ed:trD t= .tup [.int t.1,.int t.2.1,.int t.2.2]:=rfl;rw[ed];generalize b6 c=cd at*;generalize w.orders.map ah=OS at*;simp only[forL,gT,gNs,GaK,GaL,Option.bind_some,ev];exact e
noncomputable def FA(to:Option Int)(g s k h T:Int):List D:=match to with
 |some top=>if T>top then[D.tup [.str "cap",.int g,.int s,.int k,.int h,.int T,.int top]] else[]
 |none=>[]
variable{x7 x8 x9 eM h8 x12 y9 eO xh:Os}{nm yg cd:D}{wo to:Option Int}{G Cs:List D}
theorem Pt{W:List D}{s k:Int}{sz:D}(hS:atD B s=some (.tup [nm,sz,.tup Cs,yg]))(hc:atD Cs k=some cd)(ic:cd.imm=true)
  (hl:forL (gT [9,10,11]) dQ G [some (.sh (.tup [.tup A,.tup B,.tup C,.tup O])),some (.sh (.tup [.tup W,.tup G])),some (.sh (.int g)),some (.sh (.int s)),some (.sh (.int h)),some (.own (.lst F)),some (.sh (.int k)),some (.sh cd),some (.sh (.int 0)),x9,eM,h8,x12]=some (.nx [some (.sh (.tup [.tup A,.tup B,.tup C,.tup O])),some (.sh (.tup [.tup W,.tup G])),some (.sh (.int g)),some (.sh (.int s)),some (.sh (.int h)),some (.own (.lst F)),some (.sh (.int k)),some (.sh cd),some (.sh (.int T)),y9,eO,xh,x12]))
  (iw:aC W=true)(ew:fI [.tup W,.int g,.int h]=some (d6 wo))(eb:dD [cd,d6 wo]=some (d6 to))(hz:F.length<100000):
  dR [some (.sh (.tup [.tup A,.tup B,.tup C,.tup O])),some (.sh (.tup [.tup W,.tup G])),some (.sh (.int g)),some (.sh (.int s)),some (.sh (.int h)),some (.own (.lst F)),some (.sh (.int k)),x7,x8,x9,eM,h8,x12]=
   some (.nx [some (.sh (.tup [.tup A,.tup B,.tup C,.tup O])),some (.sh (.tup [.tup W,.tup G])),some (.sh (.int g)),some (.sh (.int s)),some (.sh (.int h)),some (.own (.lst (F++FA to g s k h T))),some (.sh (.int k)),some (.sh cd),some (.sh (.int T)),y9,eO,xh,some (.sh (d6 to))]):=by
 have z:F.length<16777216:=by lia
 have xK :=b7 (fL wo);have rt:=b7 (fL to);unfold dR;refine(ag (by simp[hS,hc,ic];rfl)).trans ?_;refine(ag (e:=[some (.sh (.tup [.tup A,.tup B,.tup C,.tup O])),some (.sh (.tup [.tup W,.tup G])),some (.sh (.int g)),some (.sh (.int s)),some (.sh (.int h)),some (.own (.lst F)),some (.sh (.int k)),some (.sh cd),some (.sh (.int 0)),x9,eM,h8,x12]) (by simp)).trans ?_;refine(ag (by simp[-forL,hl,freed];rfl)).trans ?_;refine(ag (by simp[ew,xK,eb,rt,iw];rfl)).trans ?_;cases to with
 |none=>simp[fQ,cu,FA]
 |some top=>
  by_cases c:T>top
  .have c' :top<T:=c;simp[fQ,cu,c',z,a9,FA]
  .have c' :¬top<T:=c;simp[fQ,cu,c',FA]
theorem DQ{w:World}(W:aH w){ws gv:List Tr}(hg:bY w.orders.length gv){o:Order}{h:Int}{nm sz yg:D}{cs:List Cap}(hS:atD (w.aw.map au) o.af=some (.tup [nm,sz,.tup (cs.map b6),yg]))(ok:∀c∈cs,jz c):∀(ds:List Cap) (k:Nat) (fs:List Flt) (x6 x7 x8 x9 eM h8 x12:Os),cs.drop k=ds->fs.length+ds.length<1000->∃y6 y7 y8 y9 eO xh xJ,
  forL (gN 6) dR (aB (k:Int) ds.length) [some (.sh (aj w)),some (.sh (.tup [.tup (ws.map trD),.tup (gv.map trD)])),some (.sh (.int o.aa)),some (.sh (.int o.af)),some (.sh (.int h)),some (.own (.lst (fs.map aI))),x6,x7,x8,x9,eM,h8,x12]=
   some (.nx [some (.sh (aj w)),some (.sh (.tup [.tup (ws.map trD),.tup (gv.map trD)])),some (.sh (.int o.aa)),some (.sh (.int o.af)),some (.sh (.int h)),some (.own (.lst ((fs++fR w.orders ws gv o h k ds).map aI))),y6,y7,y8,y9,eO,xh,xJ])
 |[],k,fs,x6,x7,x8,x9,eM,h8,x12,_,_=> ⟨x6,x7,x8,x9,eM,h8,x12,by simp[fR,aB]⟩
 |c::ds,k,fs,x6,x7,x8,x9,eM,h8,x12,hd,hz=>by
  rw[Gay] at hz;have hk:k<cs.length:=by
   rcases Gbh k cs.length with q|q
   .exact q
   .rw[List.drop_of_length_le q] at hd;cases hd
  have ec:cs[k]=c/\cs.drop (k+1)=ds:=by
   rw[Gdb hk] at hd;injection hd with h1 h2
   exact⟨h1,h2⟩
  have hc:atD (cs.map b6) (k:Int)=some (b6 c):=by rw[gZ,Gaw,Gad hk,ec.1];rfl
  have okc:=ok c (ec.1▸GaI hk);obtain⟨z9,yU,R6,el⟩:=DP W (A:=w.aT.map aM) (B:=w.aw.map au) (C:=w.bN.map trD) (bk:= .tup [.tup (ws.map trD),.tup (gv.map trD)]) (c:=c) (g:=o.aa) (s:=o.af) (h:=h) (e5:=some (.own (.lst (fs.map aI)))) (e6:=some (.sh (.int (k:Int)))) (e12:=x12) gv 0 x9 eM h8 hg;rw[Int.zero_add] at el;have ev:=Pt (x7:=x7) (x8:=x8) hS hc (rY c) el (cD ws) (kg (ws:=ws) (g:=o.aa) (h:=h)) (tM okc) (by rw[Gab];lia);have eg:FA (bW c (wgt o.aa h ws none)) o.aa o.af (k:Int) h (bL w.orders c (o.aa,o.af) h gv)=(lJ ws c o.aa o.af (k:Int) (h,bL w.orders c (o.aa,o.af) h gv)).map aI:=by
   unfold lJ FA;cases bW c (wgt o.aa h ws none) with
   |none=>rfl
   |some top=>
    dsimp only;split<;>rfl
  rw[eg,<-GaC] at ev;have l1:=sx ws c o.aa o.af (k:Int) (h,bL w.orders c (o.aa,o.af) h gv);obtain⟨y6,y7,y8,y9,eO,xh,xJ,e⟩:=DQ W (ws:=ws) hg (h:=h) hS ok ds (k+1) (fs++lJ ws c o.aa o.af (k:Int) (h,bL w.orders c (o.aa,o.af) h gv)) (some (.sh (.int (k:Int)))) (some (.sh (b6 c))) (some (.sh (.int (bL w.orders c (o.aa,o.af) h gv)))) z9 yU R6 (some (.sh (d6 (bW c (wgt o.aa h ws none))))) ec.2 (by rw[Gai];lia);refine⟨y6,y7,y8,y9,eO,xh,xJ, ?_⟩
  conv=>rhs;unfold fR
  rw[<-Gba];have er:aB (k:Int) (c::ds).length= .int (k:Int)::aB ((k+1:Nat):Int) ds.length:=by
   unfold aB;rw[Gay,Gdx,GaA,GaU];have e1:(k:Int)+((0:Nat):Int)=(k:Int):=by lia
   rw[e1];refine congrArg (List.cons _) (GaT λi _=> ?_);show D.int ((k:Int)+((i+1:Nat):Int))=D.int (((k+1:Nat):Int)+(i:Int));exact congrArg D.int (by lia)
  rw[er];have ew:aj w= .tup [.tup (w.aT.map aM),.tup (w.aw.map au),.tup (w.bN.map trD),.tup (w.orders.map ah)]:=rfl;rw[<-ew] at ev;generalize aj w=wd at*;generalize (k:Int)=ki at*;generalize b6 c=cd at*;simp only[forL,gN,GaK,GaL,Option.bind_some,ev];exact e
variable{y8:Os}
theorem MO{bk:D}{s:Int}{sz:D}{xJ:Os}(hS:atD B s=some (.tup [nm,sz,.tup Cs,yg]))(ic:aC Cs=true)(hn:dG [.tup Cs]=some ⟨.c,.int n⟩)(sm:aP n=true)(e:forL (gN 6) dR (aB 0 n.toNat) [some (.sh (.tup [.tup A,.tup B,.tup C,.tup O])),some (.sh bk),some (.sh (.int g)),some (.sh (.int s)),some (.sh (.int h)),some (.own (.lst [])),none,none,none,none,none,none,none]=some (.nx [some (.sh (.tup [.tup A,.tup B,.tup C,.tup O])),some (.sh bk),some (.sh (.int g)),some (.sh (.int s)),some (.sh (.int h)),some (.own (.lst F)),y6,y7,y8,y9,eO,xh,xJ]))(im:aC F=true):
  g9 [.tup [.tup A,.tup B,.tup C,.tup O],bk,.int g,.int s,.int h]=some (.lst F):=by
 refine b5 rfl ?_;unfold nC;refine(ag (by simp[bw,a9];rfl)).trans ?_;refine(ag (by simp[-forL,-qP,hS,ic,hn,sm,e,freed];rfl)).trans ?_;simp[im]
variable{s:gC}{gv:List Tr}{w:World}
theorem FC(W:aH w)(hg:bY w.orders.length gv)(so:cC s)(hS:atD (w.aw.map au) o.af=some (au s)):g9 [aj w,.tup [.tup (ws.map trD),.tup (gv.map trD)],.int o.aa,.int o.af,.int h]=some (.lst ((fR w.orders ws gv o h 0 s.ax).map aI)):=by
 have cl:=so.cl;obtain⟨y6,y7,y8,y9,eO,xh,xJ,e⟩:=DQ W (ws:=ws) hg (o:=o) (h:=h) hS so.ok s.ax 0 [] none none none none none none none rfl (by simp;lia);exact MO (n:=(s.ax.length:Int)) hS (oj _) (by simp[dG]) (aU (by lia) (by lia)) (by rw[Gbd];exact e) (nG _)
noncomputable def iT(h o l u:Int):Bool:=decide (h<l)||(decide (h=l)&&decide (o<u))
theorem MP(h o l u:Int):JA (.tup [.int h,.int o]) (.tup [.int l,.int u])=some (iT h o l u):=by
 show some (if h=l then(if o=u then false else decide (o<u)) else decide (h<l))=_;unfold iT;congr 1;by_cases c1:h=l
 .subst c1;by_cases c2:o=u
  .subst c2;simp
  .simp[c2]
 .by_cases c2:h<l<;>simp[c1,c2]
variable{u l x y:Int}{OA OB:D}{e0 e1:Os}
theorem Pu{o g1 g2 c1 c2 c3:Int}(a1:ixD OA (.int 1)=some (.int g1))(b1:ixD OB (.int 1)=some (.int g2))(hz:F.length<100000):
  dS [e0,e1,some (.sh (.int o)),some (.sh (.int h)),some (.own (.lst F)),e5,some (.sh (.int u)),some (.sh (.int l)),some (.own (.lst [OA,OB])),some (.sh (.tup [.int x,.int y])),some (.sh (.tup [.int c1,.int c2,.int c3]))]=
   some (.nx [e0,e1,some (.sh (.int o)),some (.sh (.int h)),some (.own (.lst (F++if(iT h o l u=true/\g1=g2/\(c1=x/\c2=y))/\l -h<c3 then[D.tup [.str "gap",.int o,.int h,.int u,.int l]] else[]))),e5,some (.sh (.int u)),some (.sh (.int l)),some (.own (.lst [OA,OB])),some (.sh (.tup [.int x,.int y])),some (.sh (.tup [.int c1,.int c2,.int c3]))]):=by
 have z:F.length<16777216:=by lia
 have lt:=MP h o l u;have sl:slD none (some 2) (.tup [.int c1,.int c2,.int c3])=some ⟨.c,.tup [.int c1,.int c2]⟩:=rfl;have e2:eqB (.tup [.int c1,.int c2]) (.tup [.int x,.int y])=some (decide (c1=x/\c2=y)):=by
  unfold eqB;by_cases q1:c1=x<;>by_cases q2:c2=y<;>simp[q1,q2]
 have yI :eqB (.int g1) (.int g2)=some (decide (g1=g2)):=by unfold eqB;by_cases c:g1=g2<;>simp[c]
 unfold dS;cases hb:iT h o l u with
 |false=>
  rw[hb] at lt;rw[Gag (by simp)];simp[lt,a9]
 |true=>
  rw[hb] at lt;by_cases q1:g1=g2
  .by_cases q2:c1=x/\c2=y
   .by_cases q3:l -h<c3
    .rw[Gah ⟨⟨rfl,q1,q2⟩,q3⟩];obtain⟨rfl,rfl⟩:=q2;simp[lt,a9,a1,b1,yI,q1,-vA,sl,e2,q3,z]
    .rw[Gag (λw=>q3 w.2)];obtain⟨rfl,rfl⟩:=q2;simp[lt,a9,a1,b1,yI,q1,-vA,sl,e2,q3]
   .rw[Gag (λw=>q2 w.1.2.2)];simp only[Gax q2] at e2;simp[lt,a9,a1,b1,yI,q1,-vA,sl,e2]
  .rw[Gag (λw=>q1 w.1.2.1)];simp[lt,a9,a1,b1,yI,q1]
theorem uQ(ts:List Tr)(o h v x y:Int):jc (Cr ts o h v) x y=if o=x/\h=y then v else jc ts x y:=by
 unfold Cr;cases ha:ts.any (atT o h) with
 |true=>
  rw[Gah rfl];unfold jc;rw[List.find?_map];by_cases c:o=x/\h=y
  .rw[Gah c];obtain⟨rfl,rfl⟩:=c;have e:(atT o h∘λt:Tr=>if atT o h t=true then(o,h,v) else t)=atT o h:=by
    funext t
    simp only[GbE];split
    .rename_i c;rw[c];exact Gaz ⟨rfl,rfl⟩
    .rfl
   rw[e];cases hf:ts.find? (atT o h) with
   |none=>
    obtain⟨t,ht,q⟩:=GbG.mp ha;exact absurd q (GbX.mp hf t ht)
   |some t=>
    have:=List.find?_some hf;simp[this]
  .rw[Gag c];have e:(atT x y∘λt:Tr=>if atT o h t=true then(o,h,v) else t)=atT x y:=by
    funext t
    simp only[GbE];split
    .rename_i q;have q' :=Gao q;have n1:atT x y (o,h,v)=false:=Gax c;have n2:atT x y t=false:=Gax (by rw[q'.1,q'.2];exact c);rw[n1,n2]
    .rfl
   rw[e];cases hf:ts.find? (atT x y) with
   |none=>rfl
   |some t=>
    have q0:atT x y t=true:=List.find?_some hf;have q:=Gao q0;have n2:¬atT o h t=true:=λz=>by
     have z' :=Gao z;exact c ⟨by lia,by lia⟩
    simp[n2]
 |false=>
  rw[Gag (by simp)];unfold jc;rw[List.find?_append];by_cases c:o=x/\h=y
  .obtain⟨rfl,rfl⟩:=c;have hf:ts.find? (atT o h)=none:=by
    rw[GbX];intro t ht q;rw[Gcr] at ha;exact ha t ht q
   rw[hf];have:atT o h (o,h,v)=true:=Gaz ⟨rfl,rfl⟩;simp[this]
  .rw[Gag c];have:atT x y (o,h,v)=false:=Gax c;cases hf:ts.find? (atT x y)<;>simp[this]
noncomputable def mt(x y:Int)(b:Tr):Bool:=decide ((b.1=x/\b.2.1=y)\/(b.1=y/\b.2.1=x))
theorem FD(ts:List Tr)(b:Tr)(x y:Int):jc (dn ts b) x y=if mt x y b then b.2.2 else jc ts x y:=by
 unfold dn;rw[uQ,uQ];unfold mt;by_cases c1:b.2.1=x/\b.1=y
 .rw[Gah c1,Gah (Gaz (.inr ⟨c1.2,c1.1⟩))]
 .rw[Gag c1];by_cases c2:b.1=x/\b.2.1=y
  .rw[Gah c2,Gah (Gaz (.inl c2))]
  .rw[Gag c2,Gag];intro z;rcases Gao z with z|z
   .exact c2 z
   .exact c1 ⟨z.2,z.1⟩
theorem jC(x y:Int):∀(bs ts:List Tr),(∀b∈bs,b.1<=b.2.1)->(bs.map tK).Nodup->jc (bs.foldl dn ts) x y=match bs.find? (mt x y) with|some b=>b.2.2|none=>jc ts x y
 |[],ts,_,_=>rfl
 |b::bs,ts,le,nd=>by
  rw[GaA,GbO] at nd;rw[GcG,jC x y bs (dn ts b) (λc hc=>le c (Gac _ hc)) nd.2,FD];by_cases c:mt x y b=true
  .rw[GcH c];have hf:bs.find? (mt x y)=none:=by
    rw[GbX];intro d hd q;apply nd.1;refine Gat.mpr ⟨d,hd, ?_⟩;have c' :=Gao c;have q' :=Gao q;have l1:=le b Gaf;have l2:=le d (Gac _ hd);unfold tK;exact Prod.ext (by show d.1=b.1;lia) (by show d.2.1=b.2.1;lia)
   rw[hf];simp only[c,GbK]
  .rw[GcI c];have c' :mt x y b=false:=by simpa using c
   rw[c'];simp
noncomputable def fS(a b:Order)(r l:Int×Int)(c:Tr):List Flt:=if(a.aa=b.aa/\mt a.af b.af c=true)/\l.1 -r.1<c.2.2 then[("gap",[r.2,r.1,l.2,l.1])] else[]
noncomputable def uR(os:List Order)(bs:List Tr)(r l:Int×Int):List Flt:=match os[r.2.toNat]?,os[l.2.toNat]? with
 |some a,some b=>bs.flatMap (fS a b r l)
 |_,_=>[]
theorem AN{a b:Order}{r l:Int×Int}(hl:r.1<=l.1):∀bs:List Tr,(∀b∈bs,b.1<=b.2.1)->(bs.map tK).Nodup->bs.flatMap (fS a b r l)=if l.1 -r.1<(if a.aa=b.aa then(match bs.find? (mt a.af b.af) with|some c=>c.2.2|none=>0) else 0) then([("gap",[r.2,r.1,l.2,l.1])]:List Flt) else[]
 |[],_,_=>by
  rw[List.flatMap_nil,Gag];split
  .show¬l.1 -r.1<0;lia
  .lia
 |c::bs,le,nd=>by
  rw[GaA,GbO] at nd;rw[GbD,AN hl bs (λd hd=>le d (Gac _ hd)) nd.2];by_cases g:a.aa=b.aa
  .simp only[Gah g];by_cases m:mt a.af b.af c=true
   .rw[GcH m];have hf:bs.find? (mt a.af b.af)=none:=by
     rw[GbX];intro d hd q;apply nd.1;refine Gat.mpr ⟨d,hd, ?_⟩;have c' :=Gao m;have q' :=Gao q;have l1:=le c Gaf;have l2:=le d (Gac _ hd);unfold tK;exact Prod.ext (by show d.1=c.1;lia) (by show d.2.1=c.2.1;lia)
    rw[hf];dsimp only;rw[Gag (by lia:¬l.1 -r.1<0),GaV];unfold fS;by_cases q:l.1 -r.1<c.2.2
    .rw[Gah ⟨⟨g,m⟩,q⟩,Gah q]
    .rw[Gag (λz=>q z.2),Gag q]
   .rw[GcI m];have:fS a b r l c=[]:=by
     unfold fS;rw[Gag (λz=>m z.1.2)]
    rw[this,Gby]
  .simp only[Gag g];have:fS a b r l c=[]:=by
    unfold fS;rw[Gag (λz=>g z.1.1)]
   rw[this,Gby]
theorem DR{bs:List Tr}(le:∀b∈bs,b.1<=b.2.1)(nd:(bs.map tK).Nodup){r l:Int×Int}(hl:r.1<=l.1):uR os bs r l=gpF os (bs.foldl dn []) r l:=by
 unfold uR gpF;cases os[r.2.toNat]? with
 |none=>rfl
 |some a=>
  cases os[l.2.toNat]? with
  |none=>rfl
  |some b=>
   dsimp only;rw[AN hl bs le nd];unfold tL;rw[jC _ _ bs [] le nd]
   rfl
theorem Ig(a b:Int):sortedS [.lst [.int a,.int b]]=some ⟨.tn,.lst (if a<b then[.int a,.int b] else[.int b,.int a])⟩:=by
 have k:keysOk [.int a,.int b]=true:=rfl;have e:d7 [.int a,.int b]=if a<b then[.int a,.int b] else[.int b,.int a]:=by
  show(if ltC (DL.code (.int a)) (DL.code (.int b)) then[D.int a,.int b] else[D.int b,.int a])=_;have l:ltC (DL.code (.int a)) (DL.code (.int b))=decide (a<b):=by
   show dM (dM ltI) [[1,a]] [[1,b]]=_;by_cases c:a=b
   .subst c;simp[dM]
   .by_cases c2:a<b<;>simp[dM,ltI,c,c2]
  rw[l];by_cases c:a<b
  .rw[Gaz c,Gah rfl,Gah c]
  .rw[Gax c,Gag (by simp),Gag c]
 unfold sortedS one kN;simp only[Option.bind_some];rw[k,e]
 rfl
noncomputable def lo2(a b:Int):Int:=if a<b then a else b
noncomputable def hi2(a b:Int):Int:=if a<b then b else a
theorem Ks(le:x<=y)(z:Int):(x=lo2 a b/\y=hi2 a b)↔mt a b (x,y,z)=true:=by
 unfold mt lo2 hi2;rw[GaM];show _↔(x=a/\y=b)\/(x=b/\y=a);split<;>lia
theorem DU{e0 e1 e5:Os}{a b:Order}{o h u l:Int}:∀(bs:List Tr) (fs:List Flt) (eM:Os),(∀c∈bs,c.1<=c.2.1)->fs.length+bs.length<90000->∃eO,
  forL (gN 10) dS (bs.map trD) [e0,e1,some (.sh (.int o)),some (.sh (.int h)),some (.own (.lst (fs.map aI))),e5,some (.sh (.int u)),some (.sh (.int l)),some (.own (.lst [ah a,ah b])),some (.sh (.tup [.int (lo2 a.af b.af),.int (hi2 a.af b.af)])),eM]=
   some (.nx [e0,e1,some (.sh (.int o)),some (.sh (.int h)),some (.own (.lst ((fs++if iT h o l u then bs.flatMap (fS a b (h,o) (l,u)) else[]).map aI))),e5,some (.sh (.int u)),some (.sh (.int l)),some (.own (.lst [ah a,ah b])),some (.sh (.tup [.int (lo2 a.af b.af),.int (hi2 a.af b.af)])),eO])
 |[],fs,eM,_,_=> ⟨eM,by cases iT h o l u<;>simp⟩
 |c::bs,fs,eM,le,hz=>by
  rw[Gay] at hz;have ev:=Pu (e0:=e0) (e1:=e1) (e5:=e5) (F:=fs.map aI) (OA:=ah a) (OB:=ah b) (o:=o) (h:=h) (u:=u) (l:=l) (x:=lo2 a.af b.af) (y:=hi2 a.af b.af) (c1:=c.1) (c2:=c.2.1) (c3:=c.2.2) (g1:=a.aa) (g2:=b.aa) rfl rfl (by rw[Gab];lia);have pm:=Ks (a:=a.af) (b:=b.af) (le c Gaf) c.2.2;have et:((c.1,c.2.1,c.2.2):Tr)=c:=rfl;rw[et] at pm;have eg:(if(iT h o l u=true/\a.aa=b.aa/\(c.1=lo2 a.af b.af/\c.2.1=hi2 a.af b.af))/\l -h<c.2.2 then[D.tup [.str "gap",.int o,.int h,.int u,.int l]] else[])=(if iT h o l u then fS a b (h,o) (l,u) c else[]).map aI:=by
   unfold fS;cases hb:iT h o l u with
   |false=>simp
   |true=>
    rw[Gah rfl];by_cases q:(a.aa=b.aa/\mt a.af b.af c=true)/\l -h<c.2.2
    .rw[Gah ⟨⟨rfl,q.1.1,pm.mpr q.1.2⟩,q.2⟩];rw[Gah (show(a.aa=b.aa/\mt a.af b.af c=true)/\(l,u).1 -(h,o).1<c.2.2 from q)];rfl
    .rw[Gag (λz=>q ⟨⟨z.1.2.1,pm.mp z.1.2.2⟩,z.2⟩)];rw[Gag (show¬((a.aa=b.aa/\mt a.af b.af c=true)/\(l,u).1 -(h,o).1<c.2.2) from q)];rfl
  rw[eg,<-GaC] at ev;have l1:(if iT h o l u then fS a b (h,o) (l,u) c else[]).length<=1:=by
   unfold fS;split
   .split<;>simp
   .simp
  obtain⟨eO,e⟩:=DU (e0:=e0) (e1:=e1) (e5:=e5) (a:=a) (b:=b) (o:=o) (h:=h) (u:=u) (l:=l) bs (fs++if iT h o l u then fS a b (h,o) (l,u) c else[]) (some (.sh (trD c))) (λx hx=>le x (Gac _ hx)) (by rw[Gai];lia);refine⟨eO, ?_⟩;have ea:(fs++if iT h o l u then fS a b (h,o) (l,u) c else[])++(if iT h o l u then bs.flatMap (fS a b (h,o) (l,u)) else[])=fs++if iT h o l u then(c::bs).flatMap (fS a b (h,o) (l,u)) else[]:=by
   cases iT h o l u<;>simp
  rw[ea] at e;rw[GaA];have ed:D.tup [.int c.1,.int c.2.1,.int c.2.2]=trD c:=rfl;rw[ed] at ev;generalize trD c=cd at*;simp only[forL,gN,GaK,GaL,Option.bind_some,ev];exact e
variable{x6:Os}{s1 s2:Int}
theorem MQ{bk:D}{o:Int}{e' :DL.Env}(hA:atD O o=some OA)(hB:atD O u=some OB)(ia:OA.imm=true)(ib:OB.imm=true)(a2:ixD OA (.int 2)=some (.int s1))(b2:ixD OB (.int 2)=some (.int s2))(hs:sortedS [.lst [.int s1,.int s2]]=some ⟨.tn,.lst [.int x,.int y]⟩)
  (e:forL (gN 10) dS C [some (.sh (.tup [.tup A,.tup B,.tup C,.tup O])),some (.sh bk),some (.sh (.int o)),some (.sh (.int h)),some (.own (.lst F)),some (.sh (.tup [.int u,.int l,.int a])),some (.sh (.int u)),some (.sh (.int l)),some (.own (.lst [OA,OB])),some (.sh (.tup [.int x,.int y])),eM]=some (.nx e')):
  dU [some (.sh (.tup [.tup A,.tup B,.tup C,.tup O])),some (.sh bk),some (.sh (.int o)),some (.sh (.int h)),some (.own (.lst F)),some (.sh (.tup [.int u,.int l,.int a])),x6,x7,x8,x9,eM]=some (.nx e'):=by
 have ra:=b7 ia;have rb:=b7 ib;unfold dU;refine(ag (e:=[some (.sh (.tup [.tup A,.tup B,.tup C,.tup O])),some (.sh bk),some (.sh (.int o)),some (.sh (.int h)),some (.own (.lst F)),some (.sh (.tup [.int u,.int l,.int a])),some (.sh (.int u)),x7,x8,x9,eM]) (by simp)).trans ?_;refine(ag (e:=[some (.sh (.tup [.tup A,.tup B,.tup C,.tup O])),some (.sh bk),some (.sh (.int o)),some (.sh (.int h)),some (.own (.lst F)),some (.sh (.tup [.int u,.int l,.int a])),some (.sh (.int u)),some (.sh (.int l)),x8,x9,eM]) (by simp)).trans ?_;refine(ag (by simp[hA,hB,ia,ib,a9];rfl)).trans ?_;refine(ag (by simp[a2,b2,hs,a9];rfl)).trans ?_;simp[-forL,e,freed]
noncomputable def nrT(os:List Order)(bs:List Tr)(o h:Int)(t:Tr):List Flt:=if iT h o t.2.1 t.1 then uR os bs (h,o) (t.2.1,t.1) else[]
theorem FE(a b:Int):sortedS [.lst [.int a,.int b]]=some ⟨.tn,.lst [.int (lo2 a b),.int (hi2 a b)]⟩:=by
 rw[Ig];unfold lo2 hi2;split<;>rfl
theorem DV(os:List Order)(bs:List Tr)(o h:Int)(t:Tr):(nrT os bs o h t).length<=bs.length:=by
 unfold nrT uR;split
 .split
  .refine Gbf (AL _ (λc=> ?_) bs) (Gaq _);unfold fS;split<;>simp
  .simp
 .simp
theorem DW{w:World}(W:aH w){bk:D}{o h:Int}(h0:0<=o)(h1:o<w.orders.length):∀(gv:List Tr) (fs:List Flt) (x5 x6 x7 x8 x9 eM:Os),bY w.orders.length gv->fs.length+12*gv.length<50000->∃y5 y6 y7 y8 y9 eO,
  forL (gN 5) dU (gv.map trD) [some (.sh (aj w)),some (.sh bk),some (.sh (.int o)),some (.sh (.int h)),some (.own (.lst (fs.map aI))),x5,x6,x7,x8,x9,eM]=
   some (.nx [some (.sh (aj w)),some (.sh bk),some (.sh (.int o)),some (.sh (.int h)),some (.own (.lst ((fs++gv.flatMap (nrT w.orders w.bN o h)).map aI))),y5,y6,y7,y8,y9,eO])
 |[],fs,x5,x6,x7,x8,x9,eM,_,_=> ⟨x5,x6,x7,x8,x9,eM,by simp⟩
 |t::gv,fs,x5,x6,x7,x8,x9,eM,hg,hz=>by
  rw[Gay] at hz;have g0:=hg t Gaf;obtain⟨n,hn⟩:=GbA h0;obtain⟨m,hm⟩:=GbA g0.1;have yC :n<w.orders.length:=by lia
  have Rm :m<w.orders.length:=by lia
  have hA:atD (w.orders.map ah) o=some (ah w.orders[n]):=by rw[hn,gZ,Gaw,Gad yC];rfl
  have hB:atD (w.orders.map ah) t.1=some (ah w.orders[m]):=by rw[hm,gZ,Gaw,Gad Rm];rfl
  have le:∀b∈w.bN,b.1<=b.2.1:=λb hb=>(W.bo.1 b hb).2.1;have b12:=W.b12;obtain⟨yU,e⟩:=DU (e0:=some (.sh (aj w))) (e1:=some (.sh bk)) (e5:=some (.sh (trD t))) (a:=w.orders[n]) (b:=w.orders[m]) (o:=o) (h:=h) (u:=t.1) (l:=t.2.1) w.bN fs eM le (by lia);have ev:=MQ (A:=w.aT.map aM) (B:=w.aw.map au) (x6:=x6) (x7:=x7) (x8:=x8) (x9:=x9) hA hB (fB _ (W.oo _ (GaI yC)).ti) (fB _ (W.oo _ (GaI Rm)).ti) rfl rfl (FE _ _) e;have en:(if iT h o t.2.1 t.1 then w.bN.flatMap (fS w.orders[n] w.orders[m] (h,o) (t.2.1,t.1)) else[])=nrT w.orders w.bN o h t:=by
   unfold nrT uR;rw[hn,hm,Gbd,Gbd,Gad yC,Gad Rm]
  rw[en] at ev;have l1:=DV w.orders w.bN o h t;obtain⟨y5,y6,y7,y8,y9,eO,e'⟩:=DW W (bk:=bk) (h:=h) h0 h1 gv (fs++nrT w.orders w.bN o h t) (some (.sh (trD t))) (some (.sh (.int t.1))) (some (.sh (.int t.2.1))) (some (.own (.lst [ah w.orders[n],ah w.orders[m]]))) (some (.sh (.tup [.int (lo2 w.orders[n].af w.orders[m].af),.int (hi2 w.orders[n].af w.orders[m].af)]))) yU (λx hx=>hg x (Gac _ hx)) (by rw[Gai];lia);refine⟨y5,y6,y7,y8,y9,eO, ?_⟩;rw[GaA,GbD,<-Gba];have ed:D.tup [.int t.1,.int t.2.1,.int t.2.2]=trD t:=rfl;have ew:D.tup [.tup (w.aT.map aM),.tup (w.aw.map au),.tup (w.bN.map trD),.tup (w.orders.map ah)]=aj w:=rfl;rw[ed,ew] at ev;generalize trD t=td at*;generalize aj w=wd at*;simp only[forL,gN,GaK,GaL,Option.bind_some,ev];exact e'
variable{wd bkW:D}
theorem MR{o:Int}(e:forL (gN 5) dU G [some (.sh wd),some (.sh (.tup [bkW,.tup G])),some (.sh (.int o)),some (.sh (.int h)),some (.own (.lst [])),none,none,none,none,none,none]=some (.nx [some (.sh wd),some (.sh (.tup [bkW,.tup G])),some (.sh (.int o)),some (.sh (.int h)),some (.own (.lst F)),y5,y6,y7,y8,y9,eO]))(im:aC F=true):gc [wd,.tup [bkW,.tup G],.int o,.int h]=some (.lst F):=by
 refine b5 rfl ?_;unfold nD;refine(ag (by simp[bw,a9];rfl)).trans ?_;refine(ag (by simp[-forL,e,freed];rfl)).trans ?_;simp[im]
theorem FG(W:aH w)(hg:bY w.orders.length gv)(hl:gv.length<64){o:Int}(h0:0<=o)(h1:o<w.orders.length):gc [aj w,.tup [bkW,.tup (gv.map trD)],.int o,.int h]=some (.lst ((gv.flatMap (nrT w.orders w.bN o h)).map aI)):=by
 obtain⟨y5,y6,y7,y8,y9,eO,e⟩:=DW W (bk:= .tup [bkW,.tup (gv.map trD)]) (h:=h) h0 h1 gv [] none none none none none none hg (by simp;lia);exact MR e (nG _)
noncomputable def we(os:List Order)(g:Tr):Option Int:=(os[g.1.toNat]?).bind λo=>cJ o.aV g.2.1
noncomputable def oA(os:List Order)(o k:Int)(g:Tr):Bool:=decide (g.1=o)&&decide (we os g=some k)
noncomputable def jd(os:List Order)(pre:List Tr)(o k:Int):Nat:=(pre.filter (oA os o k)).length
structure AO(os:List Order)(pre ts:List Tr):Prop where
 nd:(ts.map λt=>(t.1,t.2.1)).Nodup
 ct:∀t∈ts,t.2.2=(jd os pre t.1 t.2.1:Int)
 cv:∀o k,0<jd os pre o k->∃t∈ts,t.1=o/\t.2.1=k
theorem gD(os:List Order)(pre:List Tr)(g:Tr)(o k:Int):jd os (pre++[g]) o k=jd os pre o k+(if oA os o k g then 1 else 0):=by
 unfold jd;rw[GdT,Gai];congr 1;cases h:oA os o k g<;>simp[h]
variable{ts:List Tr}
theorem Kt(nd:(ts.map λt=>(t.1,t.2.1)).Nodup){t:Tr}(ht:t∈ts):jc ts t.1 t.2.1=t.2.2:=by
 unfold jc;induction ts with
 |nil=>cases ht
 |cons s ts ih=>
  rw[GaA,GbO] at nd;by_cases c:atT t.1 t.2.1 s=true
  .rw[GcH c];rcases Gar.mp ht with rfl|ht
   .rfl
   .exfalso;have c' :=Gao c;exact nd.1 (Gat.mpr ⟨t,ht,by rw[c'.1,c'.2]⟩)
  .rw[GcI c];rcases Gar.mp ht with rfl|ht
   .exact absurd (Gaz ⟨rfl,rfl⟩) c
   .exact ih nd.2 ht
theorem Ku{o k:Int}(h:ts.any (atT o k)=false):jc ts o k=0:=by
 unfold jc;have:ts.find? (atT o k)=none:=by
  rw[GbX];intro x hx q;rw[Gcr] at h;exact h x hx q
 rw[this]
 rfl
theorem AO.step(I:AO os pre ts)(g:Tr):AO os (pre++[g]) (Ct os ts g):=by
 obtain⟨nd,ct,cv⟩:=I;have e:Ct os ts g=twU ts g.1 (we os g):=rfl;rw[e];cases hu:we os g with
 |none=>
  have no:∀o k,oA os o k g=false:=λo k=>by unfold oA;rw[hu];simp
  refine⟨nd,λt ht=> ?_,λo k h=> ?_⟩
  .rw[gD,no]
   simpa using ct t ht
  .rw[gD,no] at h;exact cv o k (by simpa using h)
 |some k=>
  have has:∀o q,oA os o q g=decide (g.1=o/\k=q):=λo q=>by
   unfold oA;rw[hu]
   by_cases c1:g.1=o<;>by_cases c2:k=q<;>simp[c1,c2]
  show AO os (pre++[g]) (Cr ts g.1 k (jc ts g.1 k+1));unfold Cr;cases ha:ts.any (atT g.1 k) with
  |true=>
   rw[Gah rfl];obtain⟨s,hs,SO⟩:=GbG.mp ha;have hsa' :=Gao SO;have gv:jc ts g.1 k=s.2.2:=by rw[<-hsa'.1,<-hsa'.2];exact Kt nd hs
   have keys:(ts.map λt=>if atT g.1 k t=true then(g.1,k,jc ts g.1 k+1) else t).map (λt=>(t.1,t.2.1))=ts.map λt=>(t.1,t.2.1):=by
    rw[GaU];refine GaT λt _=> ?_;simp only[GbE];split
    .rename_i c;have c' :=Gao c;rw[c'.1,c'.2]
    .rfl
   refine⟨by rw[keys];exact nd,λt ht=> ?_,λo q h=> ?_⟩
   .obtain⟨x,hx,rfl⟩:=Gat.mp ht;rw[gD];by_cases c:atT g.1 k x=true
    .rw[Gah c];dsimp only;have h1:=ct s hs;rw[hsa'.1,hsa'.2] at h1;rw[has,gv,h1];simp
    .rw[Gag c];have nc:¬(g.1=x.1/\k=x.2.1):=λz=>c (Gaz ⟨z.1.symm,z.2.symm⟩);rw[has,Gax nc]
     simpa using ct x hx
   .by_cases c:g.1=o/\k=q
    .refine⟨(g.1,k,jc ts g.1 k+1),Gat.mpr ⟨s,hs,by rw[Gah SO]⟩,c.1,c.2⟩
    .rw[gD,has,Gax c] at h;obtain⟨t,ht,t1,t2⟩:=cv o q (by simpa using h);refine⟨t,Gat.mpr ⟨t,ht, ?_⟩,t1,t2⟩;rw[Gag];intro z;have z' :=Gao z;exact c ⟨by rw[<-z'.1,t1],by rw[<-z'.2,t2]⟩
  |false=>
   rw[Gag (by simp)];have g0:=Ku ha;have noK:∀t∈ts,¬(t.1=g.1/\t.2.1=k):=λt ht z=>by
    rw[Gcr] at ha;exact ha t ht (Gaz z)
   have c0:jd os pre g.1 k=0:=by
    rcases Nat.eq_zero_or_pos (jd os pre g.1 k) with z|z
    .exact z
    .obtain⟨t,ht,z⟩:=cv g.1 k z;exact absurd z (noK t ht)
   refine⟨?_,λt ht=> ?_,λo q h=> ?_⟩
   .rw[GaC,Gdv];refine⟨nd,by simp, ?_⟩;intro a ha' b hb;simp at hb;obtain⟨t,ht,rfl⟩:=Gat.mp ha';rw[hb];intro z;simp at z;exact noK t ht z
   .rw[gD];rcases GaF.mp ht with ht|ht
    .have nc:¬(g.1=t.1/\k=t.2.1):=λz=>noK t ht ⟨z.1.symm,z.2.symm⟩;rw[has,Gax nc]
     simpa using ct t ht
    .simp at ht;rw[ht];dsimp only;rw[has,c0,g0];simp
   .by_cases c:g.1=o/\k=q
    .exact⟨(g.1,k,jc ts g.1 k+1),by simp,c.1,c.2⟩
    .rw[gD,has,Gax c] at h;obtain⟨t,ht,z⟩:=cv o q (by simpa using h);exact⟨t,Gbr _ ht,z⟩
theorem AO.all{os:List Order}:∀(gv pre ts:List Tr),AO os pre ts->AO os (pre++gv) (gv.foldl (Ct os) ts)
 |[],pre,ts,I=>by rw[GaV];exact I
 |g::gv,pre,ts,I=>by
  have:=AO.all gv (pre++[g]) _ (I.step g);rw[Gba] at this;exact this
noncomputable def kF(b:Bool)(x:Str)(n h:Int):List Flt:=(kk b x).map λk=>(k,[n,h])
theorem iP(b:Bool)(x:Str)(n h:Int):(kF b x n h).length<=1:=by
 unfold kF;rw[Gab];exact MK b x
theorem oB{L:List Flt}{b:Bool}{x:Str}{t:DT}{e4 e7 e9:Os}(ht:t [e0,e1,some (.sh (.int n)),some (.sh (.int h)),e4,e5,e6,e7,some (.own (.lst (L.map aI))),e9]=some b)(hl:L.length<100000):
  ifS t (gX 8 (aS (a7 (kE (.str x)) (a7 (vE 2) (a7 (vE 3) ae))))) aL [e0,e1,some (.sh (.int n)),some (.sh (.int h)),e4,e5,e6,e7,some (.own (.lst (L.map aI))),e9]=some (.nx [e0,e1,some (.sh (.int n)),some (.sh (.int h)),e4,e5,e6,e7,some (.own (.lst ((L++kF b x n h).map aI))),e9]):=by
 have z:(L.map aI).length<16777216:=by rw[Gab];lia
 have e:(L++kF b x n h).map aI=L.map aI++(kF b x n h).map aI:=by rw[GaC]
 rw[e];cases b with
 |true=>
  generalize L.map aI=M at*;simp[ht,kF,kk,a9,z,aI]
 |false=>
  generalize L.map aI=M at*;simp[ht,kF,kk]
theorem FH(gv:List Tr)(o:Int):bF (gN 0) (az eqB (ixE (vE 0) (kE (.int 0))) (vE 1)) (vE 0) (gv.map trD) [none,some (.sh (.int o))]=some ((gv.filter λt=>decide (t.1=o)).map trD):=by
 refine fz (g:=gN 0) trD (λenv=>∃y,env=[y,some (.sh (.int o))]) (λt=>decide (t.1=o)) trD gv _ ⟨none,rfl⟩ ?_;rintro t ht env ⟨y,rfl⟩;refine⟨[some (.sh (trD t)),some (.sh (.int o))],rfl,⟨_,rfl⟩, ?_,λ_=> ⟨.c, ?_, ?_⟩⟩
 .by_cases c:t.1=o<;>simp[trD,eqB,c]
 .have:=wc t;generalize trD t=td at*;simp[this]
 .generalize trD t=td;simp[RV.free]
theorem Ih(ok:gR o.aV)(ts:List Tr)(k:Int):bF (gN 0) (az eqB (ao jw (a7 (vE 1) (a7 (ixE (vE 0) (kE (.int 1))) ae))) (vE 2)) (vE 0) (ts.map trD) [none,some (.sh (ah o)),some (.sh (.int k))]=some ((ts.filter λt=>decide (cJ o.aV t.2.1=some k)).map trD):=by
 refine fz (g:=gN 0) trD (λenv=>∃y,env=[y,some (.sh (ah o)),some (.sh (.int k))]) (λt=>decide (cJ o.aV t.2.1=some k)) trD ts _ ⟨none,rfl⟩ ?_;rintro t ht env ⟨y,rfl⟩;have ed:=oz (h:=t.2.1) ok;have rv:=b7 (fL (cJ o.aV t.2.1));have hx:ixD (trD t) (.int 1)=some (.int t.2.1):=rfl;have im:=wc t;refine⟨[some (.sh (trD t)),some (.sh (ah o)),some (.sh (.int k))],rfl,⟨_,rfl⟩, ?_,λ_=> ⟨.c, ?_, ?_⟩⟩
 .generalize trD t=td at*;generalize ah o=od at*;cases hd:cJ o.aV t.2.1 with
  |none=>
   rw[hd] at ed rv;simp[hx,ed,rv,eqB]
  |some j=>
   rw[hd] at ed rv;by_cases c:j=k<;>simp[hx,ed,rv,eqB,c]
 .generalize trD t=td at*;generalize ah o=od at*;simp[im]
 .generalize trD t=td;simp[RV.free]
noncomputable def twL(gv:List Tr)(u:om)(n h:Int):List Flt:=match cJ u h with
 |some k=>if 1<((gv.filter λt=>decide (t.1=n)).filter λt=>decide (cJ u t.2.1=some k)).length then[("twice",[n,k])] else[]
 |none=>[]
noncomputable def qo(ws gv:List Tr)(o:Order)(s:gC)(xb n h a:Int):List Flt:=
 kF (dm o.aV h) "astray" n h++kF (decide (o.most<a)) "most" n h++kF (decide (a<1)||decide (¬a%s.part=0)) "part" n h++kF (decide (h<xb+s.young)) "young" n h++kF (s.ax.any cQ&&(wgt o.aa h ws none).isNone) "weight" n h++twL gv o.aV n h
theorem Cu(cs:List Cap):bF (gN 0) cT (ixE (vE 0) (kE (.int 0))) (cs.map b6) [none]=some (cs.map λc=>match c with| .flat _ _=>D.str "flat"| .kilo _ _ _=> .str "kilo"| .ever _=> .str "ever"):=by
 refine de (g:=gN 0) b6 (λenv=>∃y,env=[y]) _ cs [none] ⟨none,rfl⟩ ?_;rintro c hc env ⟨y,rfl⟩;refine⟨_,rfl,⟨_,rfl⟩,.c, ?_, ?_⟩
 .cases c<;>simp[b6]
 .cases c<;>rfl
theorem Kv:∀(cs:List Cap),inB (.str "kilo") (.lst (cs.map λc=>match c with| .flat _ _=>D.str "flat"| .kilo _ _ _=> .str "kilo"| .ever _=> .str "ever"))=some (cs.any cQ):=by
 intro cs;have key:∀cs:List Cap,(cs.map λc=>match c with| .flat _ _=>D.str "flat"| .kilo _ _ _=> .str "kilo"| .ever _=> .str "ever").any (λe=>eqD e (.str "kilo"))=cs.any cQ:=by
  intro cs;induction cs with
  |nil=>rfl
  |cons c cs ih=>
   rw[GaA,GcE,GcE,ih];cases c<;>rfl
 have pl:(cs.map λc=>match c with| .flat _ _=>D.str "flat"| .kilo _ _ _=> .str "kilo"| .ever _=> .str "ever").all (aD 10)=true:=by
  rw[Gbs,Gap];intro c _;cases c<;>rfl
 show mJ _ _=_;unfold mJ;rw[pl,key]
 rfl
theorem MT{W:List D}{gu:Str×Int}(hW:ws.map trD=W)(hG:gv.map trD=G)(hO:atD O n=some (ah o))(du:gR o.aV)(hS:atD B o.af=some (au s))(so:cC s)(hA:atD A o.aa=some (aM gu))(im:(ah o).imm=true)(hl:gv.length<1000):
  jy [.tup [.tup A,.tup B,.tup C,.tup O],.tup [.tup W,.tup G],.int n,.int h,.int a]=some (.lst ((qo ws gv o s gu.2 n h a).map aI)):=by
 have iw:aC W=true:=by rw[<-hW];exact cD ws
 have ig:aC G=true:=by rw[<-hG];exact cD gv
 have ew:=kg (ws:=ws) (g:=o.aa) (h:=h);rw[hW] at ew;have ed:=oz (h:=h) du;have rd:=b7 (fL (cJ o.aV h));have sp:=so.p1;have Sr :0<s.part:=by lia
 have cl:=so.cl;have is:=iN s;have xK :=b7 (fL (wgt o.aa h ws none));have kc:=Cu s.ax;have ki:=Kv s.ax;have zc:(s.ax.map b6).length<=16777216:=by rw[Gab];lia
 have ic:=oj s.ax;have sc:=FH gv n;have zg:(gv.map trD).length<=16777216:=by rw[Gab];lia
 have dc:=λk=>Ih du (gv.filter λt=>decide (t.1=n)) k;have zs:((gv.filter λt=>decide (t.1=n)).map trD).length<=16777216:=by
  rw[Gab];exact Gbf (Gbc _ _) (by lia)
 have isame:=cD (gv.filter λt=>decide (t.1=n));rw[hG] at sc zg;have p1:ixD (ah o) (.int 3)=some (.tup [.str o.way,.int o.top,.int o.per,.int o.most]):=rfl;have p2:ixD (ah o) (.int 1)=some (.int o.aa):=rfl;have p3:ixD (ah o) (.int 2)=some (.int o.af):=rfl;have p3' :ixD (ah o) (.int 4)=some (fA o.aV):=rfl;have p4:ixD (au s) (.int 1)=some (.tup (.int s.part::s.more.map .int)):=rfl;have p5:ixD (au s) (.int 3)=some (.int s.young):=rfl;have p7:ixD (au s) (.int 2)=some (.tup (s.ax.map b6)):=rfl;have p6:ixD (aM gu) (.int 1)=some (.int gu.2):=rfl;generalize ah o=OD at*;generalize au s=SD at*;generalize aM gu=GD at*;generalize hSm:(gv.filter λt=>decide (t.1=n))=sm at*;refine b5 rfl ?_;unfold pB;refine(ag (e:=[some (.sh (.tup [.tup A,.tup B,.tup C,.tup O])),some (.sh (.tup [.tup W,.tup G])),some (.sh (.int n)),some (.sh (.int h)),some (.sh (.int a)),some (.sh OD),none,none,none,none]) (by simp[bw,hO,im])).trans ?_;refine(ag (e:=[some (.sh (.tup [.tup A,.tup B,.tup C,.tup O])),some (.sh (.tup [.tup W,.tup G])),some (.sh (.int n)),some (.sh (.int h)),some (.sh (.int a)),some (.sh OD),some (.sh SD),none,none,none]) (by simp[p3,hS,is])).trans ?_;refine(ag (e:=[some (.sh (.tup [.tup A,.tup B,.tup C,.tup O])),some (.sh (.tup [.tup W,.tup G])),some (.sh (.int n)),some (.sh (.int h)),some (.sh (.int a)),some (.sh OD),some (.sh SD),some (.sh (d6 (cJ o.aV h))),none,none]) (by simp[ed,rd])).trans ?_;refine(ag (e:=[some (.sh (.tup [.tup A,.tup B,.tup C,.tup O])),some (.sh (.tup [.tup W,.tup G])),some (.sh (.int n)),some (.sh (.int h)),some (.sh (.int a)),some (.sh OD),some (.sh SD),some (.sh (d6 (cJ o.aV h))),some (.own (.lst (([]:List Flt).map aI))),none]) (by simp[a9])).trans ?_;refine(ag (oB (b:=dm o.aV h) ?_ (by simp))).trans ?_
 .cases hu:o.aV with
  |asked b=>
   rw[hu] at p3';unfold fA at p3';by_cases c:h<b<;>simp[p3',eqB,dm,c,cJ]
  |due b e m ea la=>
   rw[hu] at p3';unfold fA at p3';have ea' :dm (.due b e m ea la) h=(ox b e m ea la h).isNone:=rfl;have eb' :cJ (.due b e m ea la) h=ox b e m ea la h:=rfl;rw[ea',eb'];generalize ox b e m ea la h=dk;cases dk<;>simp[p3',eqB,ky,cu]
 have k1:=iP (dm o.aV h) "astray" n h;refine(ag (oB (b:=decide (o.most<a)) (by simp[p1]) (by simp only[Gai,GbP];lia))).trans ?_;have k2:=iP (decide (o.most<a)) "most" n h;refine(ag (oB (b:=decide (a<1)||decide (¬a%s.part=0)) ?_ (by simp only[Gai,GbP];lia))).trans ?_
 .by_cases c:a<1
  .simp[c]
  .have nn:=GbQ a (b:=s.part) (by lia);by_cases c2:a%s.part=0
   .simp[c,p4,Sr,c2]
   .have c3:0<a%s.part:=by lia
    simp[c,p4,Sr,c2,c3]
 have k3:=iP (decide (a<1)||decide (¬a%s.part=0)) "part" n h;refine(ag (oB (b:=decide (h<gu.2+s.young)) (by simp[p2,hA,p6,p5]) (by simp only[Gai,GbP];lia))).trans ?_;have k4:=iP (decide (h<gu.2+s.young)) "young" n h;refine(ag (oB (b:=s.ax.any cQ&&(wgt o.aa h ws none).isNone) ?_ (by simp only[Gai,GbP];lia))).trans ?_
 .generalize s.ax.any cQ=bk at*;generalize (s.ax.map λc=>match c with| .flat _ _=>D.str "flat"| .kilo _ _ _=> .str "kilo"| .ever _=> .str "ever")=KK at*;generalize s.ax.map b6=CC at*;cases bk with
  |false=>simp[-bF,a9,DL.compEnv,gY,p7,ic,zc,kc,ki]
  |true=>
   simp[-bF,a9,DL.compEnv,gY,p7,ic,zc,kc,ki,p2,ew,xK,iw];cases wgt o.aa h ws none<;>simp[ky,cu]
 have k5:=iP (s.ax.any cQ&&(wgt o.aa h ws none).isNone) "weight" n h;generalize hL:[]++kF (dm o.aV h) "astray" n h++kF (decide (o.most<a)) "most" n h++kF (decide (a<1)||decide (¬a%s.part=0)) "part" n h++kF (decide (h<gu.2+s.young)) "young" n h++kF (s.ax.any cQ&&(wgt o.aa h ws none).isNone) "weight" n h=L;have zL:L.length<=5:=by rw[<-hL];simp only[Gai,GbP];lia
 have eo:qo ws gv o s gu.2 n h a=L++twL gv o.aV n h:=by
  rw[<-hL];unfold qo;simp only[Gby]
 rw[eo];generalize hSD:sm.map trD=S at*;refine(ag (e:=[some (.sh (.tup [.tup A,.tup B,.tup C,.tup O])),some (.sh (.tup [.tup W,.tup G])),some (.sh (.int n)),some (.sh (.int h)),some (.sh (.int a)),some (.sh OD),some (.sh SD),some (.sh (d6 (cJ o.aV h))),some (.own (.lst (L.map aI))),some (.own (.lst S))]) (by simp[-bF,a9,DL.compEnv,gY,ig,zg,sc])).trans ?_;have fin:∀R:List Flt,aC ((L++R).map aI)=true:=λR=>nG _;have zM:(L.map aI).length<16777216:=by rw[Gab];lia
 refine(ag (e:=[some (.sh (.tup [.tup A,.tup B,.tup C,.tup O])),some (.sh (.tup [.tup W,.tup G])),some (.sh (.int n)),some (.sh (.int h)),some (.sh (.int a)),some (.sh OD),some (.sh SD),some (.sh (d6 (cJ o.aV h))),some (.own (.lst ((L++twL gv o.aV n h).map aI))),some (.own (.lst S))]) ?_).trans ?_
 .unfold twL;rw[hSm];cases hd:cJ o.aV h with
  |none=>simp[fQ,cu]
  |some k=>
   have Td:=dc k;dsimp only;generalize hq:(sm.filter λt=>decide (cJ o.aV t.2.1=some k))=qs at*;rw[GaC];generalize L.map aI=M at*;by_cases c:1<qs.length
   .have c' :(1:Int)<((qs.map trD).length:Int):=by rw[Gab];lia
    rw[Gah c];generalize qs.map trD=Q at*;simp[-bF,a9,DL.compEnv,gY,fQ,cu,Td,zs,c',zM,aI]
   .have c' :¬(1:Int)<((qs.map trD).length:Int):=by rw[Gab];lia
    rw[Gag c];generalize qs.map trD=Q at*;simp[-bF,a9,DL.compEnv,gY,fQ,cu,Td,zs,c']
 .have:=fin (twL gv o.aV n h);generalize (L++twL gv o.aV n h).map aI=R at*;simp[this]
noncomputable def mF(w:World)(ws gv:List Tr)(t:Tr):List Flt:=match w.orders[t.1.toNat]? with
 |some o=>match w.aw[o.af.toNat]?,w.aT[o.aa.toNat]? with
  |some s,some g=>qo ws gv o s g.2 t.1 t.2.1 t.2.2++fR w.orders ws gv o t.2.1 0 s.ax++gv.flatMap (nrT w.orders w.bN t.1 t.2.1)
  |_,_=>[]
 |none=>[]
theorem Pw{bk:D}{F1 F2 F3:List D}{s:Int}(xT:wd= .tup [.tup A,.tup B,.tup C,.tup O])(hO:atD O n=some OD)(p1:ixD OD (.int 1)=some (.int g))(p2:ixD OD (.int 2)=some (.int s))(h1:jy [wd,bk,.int n,.int h,.int a]=some (.lst F1))(h2:g9 [wd,bk,.int g,.int s,.int h]=some (.lst F2))(h3:gc [wd,bk,.int n,.int h]=some (.lst F3))(hz:F.length+F1.length+F2.length+F3.length<100000):
  da [some (.sh wd),some (.sh bk),some (.own (.lst F)),some (.sh (.int n)),some (.sh (.int h)),some (.sh (.int a))]=some (.nx [some (.sh wd),some (.sh bk),some (.own (.lst (F++(F1++F2++F3)))),some (.sh (.int n)),some (.sh (.int h)),some (.sh (.int a))]):=by
 have rl:∀L:List D,jM (.lst L)=⟨.tn,.lst L⟩:=λ_=>rfl;have z1:F.length+F1.length<=16777216:=by lia
 have z2:(F++F1).length+F2.length<=16777216:=by rw[Gai];lia
 have z3:(F++F1++F2).length+F3.length<=16777216:=by rw[Gai,Gai];lia
 have hx:ixD wd (.int 3)=some (.tup O):=by rw[xT];rfl
 have ea:F++(F1++F2++F3)=F++F1++F2++F3:=by simp
 rw[ea];clear xT;unfold da;refine(ag (by simp[h1,rl,z1,a9];rfl)).trans ?_;generalize F++F1=G1 at*;refine(ag (by simp[hx,hO,p1,p2,h2,rl,z2,a9];rfl)).trans ?_;generalize G1++F2=G2 at*;simp[h3,rl,z3,a9]
theorem dE(W:aH w)(h0:0<=n)(h1:n<w.orders.length):∃o s g,w.orders[n.toNat]? =some o/\w.aw[o.af.toNat]? =some s/\w.aT[o.aa.toNat]? =some g/\cC s/\oq w.aT.length w.aw.length o/\atD (w.orders.map ah) n=some (ah o)/\atD (w.aw.map au) o.af=some (au s)/\atD (w.aT.map aM) o.aa=some (aM g):=by
 obtain⟨i,hi⟩:=GbA h0;have xa :i<w.orders.length:=by lia
 have ok:=W.oo w.orders[i] (GaI xa);obtain⟨j,hj⟩:=GbA ok.s0;obtain⟨k,hk⟩:=GbA ok.g0;have sl:=ok.s1;have gl:=ok.g1;have hj' :j<w.aw.length:=by lia
 have xE :k<w.aT.length:=by lia
 refine⟨w.orders[i],w.aw[j],w.aT[k], ?_, ?_, ?_,W.so _ (GaI hj'),ok, ?_, ?_, ?_⟩
 .rw[hi,Gbd,Gad xa]
 .rw[hj,Gbd,Gad hj']
 .rw[hk,Gbd,Gad xE]
 .rw[hi,gZ,Gaw,Gad xa];rfl
 .rw[hj,gZ,Gaw,Gad hj'];rfl
 .rw[hk,gZ,Gaw,Gad xE];rfl
theorem DX(gv:List Tr)(u:om)(n h:Int):(twL gv u n h).length<=1:=by
 unfold twL;split
 .split<;>simp
 .simp
theorem AQ(ws gv:List Tr)(o:Order)(s:gC)(b n h a:Int):(qo ws gv o s b n h a).length<=6:=by
 unfold qo;have k1:=iP (dm o.aV h) "astray" n h;have k2:=iP (decide (o.most<a)) "most" n h;have k3:=iP (decide (a<1)||decide (¬a%s.part=0)) "part" n h;have k4:=iP (decide (h<b+s.young)) "young" n h;have k5:=iP (s.ax.any cQ&&(wgt o.aa h ws none).isNone) "weight" n h;have k6:=DX gv o.aV n h;simp only[Gai];lia
theorem DY{w:World}(W:aH w){ws gv:List Tr}(hg:bY w.orders.length gv)(hl:gv.length<64):∀(ts:List Tr) (fs:List Flt) (x3 x4 x5:Os),bY w.orders.length ts->fs.length+800*ts.length<60000->∃y3 y4 y5,
  forL (gT [3,4,5]) da (ts.map trD) [some (.sh (aj w)),some (.sh (.tup [.tup (ws.map trD),.tup (gv.map trD)])),some (.own (.lst (fs.map aI))),x3,x4,x5]=
   some (.nx [some (.sh (aj w)),some (.sh (.tup [.tup (ws.map trD),.tup (gv.map trD)])),some (.own (.lst ((fs++ts.flatMap (mF w ws gv)).map aI))),y3,y4,y5])
 |[],fs,x3,x4,x5,_,_=> ⟨x3,x4,x5,by simp⟩
 |t::ts,fs,x3,x4,x5,ht,hz=>by
  rw[Gay] at hz;have g0:=ht t Gaf;obtain⟨o,s,g,e1,e2,e3,so,ok,hO,hS,hG⟩:=dE W g0.1 g0.2;have h1:=MT (C:=w.bN.map trD) (ws:=ws) (gv:=gv) (n:=t.1) (h:=t.2.1) (a:=t.2.2) rfl rfl hO ok.du hS so hG (fB _ ok.ti) (by lia);have h2:=FC W (ws:=ws) hg (h:=t.2.1) so hS;have h3:=FG W (bkW:= .tup (ws.map trD)) hg hl (h:=t.2.1) g0.1 g0.2;have l1:=AQ ws gv o s g.2 t.1 t.2.1 t.2.2;have l2:=md w.orders ws gv o t.2.1 0 s.ax;have cl:=so.cl;have b12:=W.b12;have l3:(gv.flatMap (nrT w.orders w.bN t.1 t.2.1)).length<=gv.length*12:=uP _ 12 gv λu _=>Gbf (DV ..) b12;have ev:=Pw (F:=fs.map aI) rfl hO rfl rfl h1 h2 h3 (by simp only[Gab];lia);have ef:mF w ws gv t=qo ws gv o s g.2 t.1 t.2.1 t.2.2++fR w.orders ws gv o t.2.1 0 s.ax++gv.flatMap (nrT w.orders w.bN t.1 t.2.1):=by
   unfold mF;rw[e1];dsimp only;rw[e2,e3]
  rw[<-GaC,<-GaC,<-GaC,<-ef] at ev;have lf:(mF w ws gv t).length<=800:=by
   rw[ef];simp only[Gai];lia
  obtain⟨y3,y4,y5,e⟩:=DY W (ws:=ws) hg hl ts (fs++mF w ws gv t) (some (.sh (.int t.1))) (some (.sh (.int t.2.1))) (some (.sh (.int t.2.2))) (λx hx=>ht x (Gac _ hx)) (by rw[Gai];lia);refine⟨y3,y4,y5, ?_⟩;rw[GaA,GbD,<-Gba];have ed:trD t= .tup [.int t.1,.int t.2.1,.int t.2.2]:=rfl;have ew:D.tup [.tup (w.aT.map aM),.tup (w.aw.map au),.tup (w.bN.map trD),.tup (w.orders.map ah)]=aj w:=rfl;rw[ew] at ev;rw[ed];generalize aj w=wd at*;simp only[forL,gT,gNs,GaK,GaL,Option.bind_some,ev];exact e
theorem MU{y3:Os}(e:forL (gT [3,4,5]) da G [some (.sh wd),some (.sh (.tup [bkW,.tup G])),some (.own (.lst [])),none,none,none]=some (.nx [some (.sh wd),some (.sh (.tup [bkW,.tup G])),some (.own (.lst F)),y3,y4,y5]))(ok:qQ F=true)(hR:d7 (oV F)=R)(im:aC R=true):bB [wd,.tup [bkW,.tup G]]=some (.lst R):=by
 refine b5 rfl ?_;unfold jY;refine(ag (by simp[bw,a9];rfl)).trans ?_;refine(ag (by simp[-forL,e,freed];rfl)).trans ?_;simp[qR,ok,hR,im]
theorem AR:∀(ds acc:List D),acc≠[]->ds.foldl nT acc≠[]
 |[],acc,h=>h
 |d::ds,acc,h=>by
  rw[GcG];refine AR ds _ ?_;unfold nT;split
  .exact h
  .simp
theorem Kw(ds:List D):oV ds=[]↔ds=[]:=by
 constructor
 .intro h;cases ds with
  |nil=>rfl
  |cons d ds=>exact absurd h (AR ds [d] (by simp))
 .rintro rfl;rfl
theorem MV(ds:List D):∀x∈oV ds,x∈ds:=by
 have key:∀(ds acc:List D) x,x∈ds.foldl nT acc->x∈acc\/x∈ds:=by
  intro ds;induction ds with
  |nil=>intro acc x hx;exact .inl hx
  |cons d ds ih=>
   intro acc x hx;rcases ih _ x hx with h|h
   .unfold nT at h;split at h
    .exact .inl h
    .rcases GaF.mp h with h|h
     .exact .inl h
     .rw[GaJ.mp h];exact .inr Gaf
   .exact .inr (Gac _ h)
 intro x hx;rcases key ds [] x hx with h|h
 .cases h
 .exact h
theorem MW(L:List Flt)(hl:L.length<64):qQ (L.map aI)=true:=by
 have h1:((L.map aI).all λd=>vC d&&imN 4 d)=true:=by
  rw[Gbs,Gap];intro f _;show(true&&(imN 3 (.str f.1)&&(f.2.map D.int).all (imN 3)))=true;have:(f.2.map D.int).all (imN 3)=true:=by
   rw[Gbs,Gap];intro i _
   rfl
  rw[this];rfl
 unfold qQ;rw[h1,Ic,Gaz (by rw[Gab];exact hl)]
 rfl
theorem k8(h:∀d∈ds,d.imm=true):aC ds=true:=lG (λ_ h=>h) h
theorem qp(W:aH w)(hg:bY w.orders.length gv)(hl:gv.length<64)(hL:(gv.flatMap (mF w ws gv)).length<64):∃R:List D,bB [aj w,.tup [.tup (ws.map trD),.tup (gv.map trD)]]=some (.lst R)/\(R=[]↔gv.flatMap (mF w ws gv)=[]):=by
 obtain⟨y3,y4,y5,e⟩:=DY W (ws:=ws) hg hl gv [] none none none hg (by simp;lia);rw[Gby] at e;have ok:=MW _ hL;generalize gv.flatMap (mF w ws gv)=L at*;refine⟨_,MU e ok rfl ?_, ?_⟩
 .refine k8 λd hd=> ?_;obtain⟨f,_,rfl⟩:=Gat.mp (MV _ d ((cW _).mem_iff.mp hd));have:=fK f.2;simp[aI,this]
 .constructor
  .intro h;have p:=cW (oV (L.map aI));rw[h] at p;have:=(Kw _).mp p.symm.eq_nil;exact GdQ.mp this
  .rintro rfl;rfl
def Apart(w:World)(r l:Int×Int):Prop:=∀a b,w.orders[r.2.toNat]? =some a->w.orders[l.2.toNat]? =some b->tL (w.bN.foldl dn []) a b<=l.1 -r.1\/tL (w.bN.foldl dn []) a b<=r.1 -l.1
structure Snd(w:World)(ws gv:List Tr):Prop where
 ES:∀t∈gv,pY w ws t=[]
 over:∀t∈gv,ovT w ws gv t=[]
 gap:(gvR gv).Pairwise (Apart w)
 cnt:∀o k,jd w.orders gv o k<=1
theorem AS(W:aH w)(a b:Order):tL (w.bN.foldl dn []) a b=tL (w.bN.foldl dn []) b a:=by
 have le:∀b∈w.bN,b.1<=b.2.1:=λb hb=>(W.bo.1 b hb).2.1;have m:∀x y,mt x y=mt y x:=λx y=>by
  funext c
  unfold mt;rw[decide_eq_decide];exact or_comm
 unfold tL;by_cases c:a.aa=b.aa
 .rw[Gah c,Gah c.symm,jC _ _ _ _ le W.bo.2,jC _ _ _ _ le W.bo.2,m]
  rfl
 .rw[Gag c,Gag λz=>c z.symm]
theorem Apart.symm{w:World}(W:aH w){r l:Int×Int}(h:Apart w r l):Apart w l r:=λa b ha hb=>by
 rw[AS W];exact(h b a hb ha).symm
theorem Ij{r l:Int×Int}(hl:r.1<=l.1):gpF w.orders (w.bN.foldl dn []) r l=[]↔Apart w r l:=by
 unfold gpF Apart;constructor
 .intro h a b ha hb;rw[ha,hb] at h;dsimp only at h;split at h
  .cases h
  .lia
 .intro h;split
  .rename_i a b ha hb;rw[Gag];have:=h a b ha hb;lia
  .rfl
theorem sC(h:os[n.toNat]? =some o)(k:Int):((gv.filter λt=>decide (t.1=n)).filter λt=>decide (cJ o.aV t.2.1=some k)).length=jd os gv n k:=by
 unfold jd;rw[List.filter_filter];congr 1;apply List.filter_congr;intro t _;unfold oA we;by_cases c:t.1=n
 .rw[c,h];simp only[Option.bind_some,Bool.and_comm]
 .simp[c]
theorem Ik{t:Tr}{g:Str×Int}(e1:w.orders[t.1.toNat]? =some o)(e2:w.aw[o.af.toNat]? =some s)(e3:w.aT[o.aa.toNat]? =some g):qo ws gv o s g.2 t.1 t.2.1 t.2.2=[]↔pY w ws t=[]/\twL gv o.aV t.1 t.2.1=[]:=by
 unfold qo pY;rw[e1];dsimp only;rw[e2,e3];dsimp only;unfold HL kF;simp only[GbV,GaC,GdQ];constructor
 .rintro⟨⟨⟨⟨⟨a,b⟩,c⟩,d⟩,e⟩,f⟩;exact⟨⟨⟨⟨⟨a,b⟩,c⟩,e⟩,d⟩,f⟩
 .rintro⟨⟨⟨⟨⟨a,b⟩,c⟩,e⟩,d⟩,f⟩;exact⟨⟨⟨⟨⟨a,b⟩,c⟩,d⟩,e⟩,f⟩
theorem Il{α:Type}{R:α->α->Prop}(sy:∀a b,R a b->R b a):∀{l:List α},l.Pairwise R->∀a∈l,∀b∈l,a≠b->R a b
 |[],_,a,ha,_,_,_=>absurd ha (by simp)
 |x::l,h,a,ha,b,hb,ne=>by
  rw[GaY] at h;rcases Gar.mp ha with e1|h1
  .rcases Gar.mp hb with e2|h2
   .exact absurd (e1.trans e2.symm) ne
   .rw[e1];exact h.1 b h2
  .rcases Gar.mp hb with e2|h2
   .rw[e2];exact sy _ _ (h.1 a h1)
   .exact Il sy h.2 a h1 b h2 ne
theorem wg{o:Int}(q:iT h o l u=true):h<=l/\¬(h=l/\o=u):=by
 unfold iT at q;rw[GaP,Gan,GaM,GaM,GaM] at q;lia
theorem MX{o:Int}(q:¬(h=l/\o=u)):iT h o l u=true\/iT l u h o=true:=by
 unfold iT;simp only[GaP,Gan,GaM];lia
theorem DZ(W:aH w)(hg:bY w.orders.length gv)(nd:(gvR gv).Nodup):gv.flatMap (mF w ws gv)=[]↔Snd w ws gv:=by
 have le:∀b∈w.bN,b.1<=b.2.1:=λb hb=>(W.bo.1 b hb).2.1;rw[Gdr];have each:∀t∈gv,(mF w ws gv t=[]↔(pY w ws t=[]/\∃o,w.orders[t.1.toNat]? =some o/\twL gv o.aV t.1 t.2.1=[])/\ovT w ws gv t=[]/\∀u∈gv,nrT w.orders w.bN t.1 t.2.1 u=[]):=λt ht=>by
  obtain⟨o,s,g,e1,e2,e3,so,ok,_⟩:=dE W (hg t ht).1 (hg t ht).2;have lo:=Ik (ws:=ws) (gv:=gv) (t:=t) e1 e2 e3;unfold mF ovT;rw[e1];dsimp only;rw[e2,e3];dsimp only;rw[GbV,GbV,lo,Gdr];constructor
  .rintro⟨⟨⟨a,b⟩,c⟩,d⟩;exact⟨⟨a,o,rfl,b⟩,c,d⟩
  .rintro⟨⟨a,o',eo,b⟩,c,d⟩;cases eo;exact⟨⟨⟨a,b⟩,c⟩,d⟩
 have gp:∀r l:Int×Int,r.1<=l.1->(uR w.orders w.bN r l=[]↔Apart w r l):=λr l hl=>by
  rw[DR le W.bo.2 hl];exact Ij hl
 constructor
 .intro h;refine⟨λt ht=>((each t ht).mp (h t ht)).1.1,λt ht=>((each t ht).mp (h t ht)).2.1, ?_,λn k=> ?_⟩
  .have all:∀r∈gvR gv,∀l∈gvR gv,r≠l->Apart w r l:=λr hr l hl ne=>by
    obtain⟨t,ht,rfl⟩:=Gat.mp hr;obtain⟨u,hu,rfl⟩:=Gat.mp hl;have ne' :¬(t.2.1=u.2.1/\t.1=u.1):=λz=>ne (by rw[z.1,z.2]);rcases MX ne' with q|q
    .have:=((each t ht).mp (h t ht)).2.2 u hu;unfold nrT at this;rw[q,Gah rfl] at this;exact(gp (t.2.1,t.1) (u.2.1,u.1) (wg q).1).mp this
    .have:=((each u hu).mp (h u hu)).2.2 t ht;unfold nrT at this;rw[q,Gah rfl] at this;exact Apart.symm W ((gp (u.2.1,u.1) (t.2.1,t.1) (wg q).1).mp this)
   exact(List.Pairwise.and_mem.mp nd).imp λ{a b} z=>all a z.1 b z.2.1 z.2.2
  .by_cases c:jd w.orders gv n k<=1
   .exact c
   .exfalso;have cp:0<jd w.orders gv n k:=by lia
    unfold jd at cp;obtain⟨t,ht⟩:=List.exists_mem_of_length_pos cp;have h1:=GaO.mp ht;have h2:=h1.2;unfold oA at h2;rw[Gan] at h2;have q1:=Gao h2.1;have q2:=Gao h2.2;obtain⟨o,eo,tw⟩:=((each t h1.1).mp (h t h1.1)).1.2;unfold we at q2;rw[eo] at q2;have q3:cJ o.aV t.2.1=some k:=q2;unfold twL at tw;rw[q3] at tw;dsimp only at tw;rw[sC eo,q1,Gah (by lia)] at tw;cases tw
 .intro S t ht;refine(each t ht).mpr ⟨⟨S.ES t ht, ?_⟩,S.over t ht,λu hu=> ?_⟩
  .obtain⟨o,s,g,e1,_⟩:=dE W (hg t ht).1 (hg t ht).2;refine⟨o,e1, ?_⟩;unfold twL;split
   .rename_i k hk;rw[sC e1,Gag];have:=S.cnt t.1 k;lia
   .rfl
  .unfold nrT;split
   .rename_i q;have lq:=wg q;refine(gp (t.2.1,t.1) (u.2.1,u.1) lq.1).mpr ?_;have hr:(t.2.1,t.1)∈gvR gv:=Gat.mpr ⟨t,ht,rfl⟩;have hl:(u.2.1,u.1)∈gvR gv:=Gat.mpr ⟨u,hu,rfl⟩;exact Il (λa b z=>Apart.symm W z) S.gap _ hr _ hl λz=>lq.2 (by injection z with z1 z2;exact⟨z1,z2⟩)
   .rfl
theorem Px:∃far:Int,(far=1\/far=1000000)/\cy [.scr ns]=some (.int far):=by
 have e:=aG (ns:=ns) (k:=300) (by lia) (by lia);have q:mx ns 300%6=0\/mx ns 300%6=1\/mx ns 300%6=2\/mx ns 300%6=3\/mx ns 300%6=4\/mx ns 300%6=5:=by lia
 unfold cy pA;rcases q with q|q|q|q|q|q<;>simp[e,q,a9]
def wk(far:Int):Cap->Prop
 | .flat H _=>far∣H
 | .kilo H _ _=>far∣H
 | .ever _=>True
variable{far:Int}
theorem MY{k part:Int}(hk:0<=k)(xY:k<100000)(hp:1<=part)(yx:part<=50000)(hf:1<=far)(xw:far<=1000000):
  ∃c:Cap,jz c/\wk far c/\g7 [.scr ns,.int k,.int part,.int far]=some (b6 c):=by
 have e:∀j:Int,0<=j->j<=4->a8 [.scr ns,.int (k+j)]=some (.int (mx ns (k+j))):=λj h1 h2=>aG (by lia) (by lia);have e0:=aG (ns:=ns) (k:=k) (by lia) (by lia);have e1:=e 1 (by lia) (by lia);have e2:=e 2 (by lia) (by lia);have e3:=e 3 (by lia) (by lia);have e4:=e 4 (by lia) (by lia);have m1:∀j,aX far j=true:=λj=>bx (by lia) (by lia);have m2:∀j,aX part j=true:=λj=>bx (by lia) (by lia);have h1:1<=far*(3+mx ns (k+1)%28):=fm hf (by lia);have up:∀q B:Int,0<=q->q<=B->part*q<=50000*B:=λq B a b=>Cp (by lia) yx a b;by_cases c1:mx ns k%3=0
 .refine⟨.flat (far*(3+mx ns (k+1)%28)) (part*(3+mx ns (k+2)%18)),⟨h1,fm hp (by lia), ?_⟩,Gbe .., ?_⟩
  .have:=up (3+mx ns (k+2)%18) 20 (by lia) (by lia);lia
  .unfold g7 jv b6;simp[e0,e1,e2,m1,m2,c1,a9]
 .by_cases c2:mx ns k%3=1
  .refine⟨.kilo (far*(3+mx ns (k+1)%28)) (part*(1+mx ns (k+3)%9)) (5+mx ns (k+4)%40),⟨h1,fm hp (by lia), ?_,by lia,by lia⟩,Gbe .., ?_⟩
   .have:=up (1+mx ns (k+3)%9) 9 (by lia) (by lia);lia
   .unfold g7 jv b6;simp[e0,e1,e3,e4,m1,m2,c1,c2,a9]
  .refine⟨.ever (part*(8+mx ns (k+2)%30)),⟨fm hp (by lia), ?_⟩,trivial, ?_⟩
   .have:=up (8+mx ns (k+2)%30) 37 (by lia) (by lia);lia
   .unfold g7 jv b6;simp[e0,e1,e2,m1,m2,c1,c2,a9]
theorem Cv{xs:List D}{x:D}:atD (xs++[x]) (-1)=some x:=by
 unfold atD;rw[Gag (by lia),Gah (by simp;lia)];have:(-1+((xs++[x]).length:Int)).toNat=xs.length:=by simp;lia
 rw[this];simp
variable{x2 x3:Os}{p:Int}
theorem Cw{k:Int}{ms:List Int}(hk:0<=k)(xY:k<100000)(hp:1<=p)(yx:p<=50000)(hj:0<=j)(Rn:j<=2)(hl:ms.length<=2)(hm:∀m∈ms,1<=m/\m<=1+6*(ms.length:Int)):
  ∃m,1<=m/\m<=1+6*((ms.length:Int)+1)/\dz [some (.sh (.scr ns)),some (.sh (.int k)),x2,x3,some (.sh (.int p)),some (.own (.lst ((1::ms).map λm=> .int (p*m)))),some (.sh (.int j)),x7,x8]=
   some (.nx [some (.sh (.scr ns)),some (.sh (.int k)),x2,x3,some (.sh (.int p)),some (.own (.lst ((1::(ms++[m])).map λm=> .int (p*m)))),some (.sh (.int j)),x7,x8]):=by
 have e:=aG (ns:=ns) (k:=k+2+j) (by lia) (by lia);have r:=mxm ns (k+2+j) 6 (by lia);have m2:∀j,aX p j=true:=λj=>bx (by lia) (by lia);obtain⟨l,SV,zR,xN⟩:∃l,1<=l/\l<=1+6*(ms.length:Int)/\atD ((1::ms).map λm=>D.int (p*m)) (-1)=some (.int (p*l)):=by
  rcases List.eq_nil_or_concat ms with h| ⟨xS,l,h⟩
  .subst h;exact⟨1,by lia,by simp,by rfl⟩
  .rw[List.concat_eq_append] at h;subst h;have:=hm l (by simp);refine⟨l,this.1,this.2, ?_⟩;have e9:((1::(xS ++[l])).map λm=>D.int (p*m))=((1::xS).map λm=>D.int (p*m))++[.int (p*l)]:=by simp
   rw[e9,Cv]
 refine⟨l+(1+mx ns (k+2+j)%6),by lia,by lia, ?_⟩;have z:ms.length+1<16777216:=by lia
 have zk :atD (D.int (p*1)::(ms.map λm=>D.int (p*m))) (-1)=some (.int (p*l)):=by simpa using xN
 unfold dz;simp[e,m2,zk,a9,z,Int.mul_add];simp at zk;simp[zk,z,Int.mul_add]
theorem FI{k:Int}(hk:0<=k)(xY:k<100000)(hp:1<=p)(yx:p<=50000)(n:Nat)(hn:n<=2):
  ∃ms y6,ms.length=n/\(∀m∈ms,1<=m/\m<=30)/\forL (gN 6) dz (aB 0 n) [some (.sh (.scr ns)),some (.sh (.int k)),x2,x3,some (.sh (.int p)),some (.own (.lst [.int p])),none,none,none]=
   some (.nx [some (.sh (.scr ns)),some (.sh (.int k)),x2,x3,some (.sh (.int p)),some (.own (.lst ((1::ms).map λm=> .int (p*m)))),y6,none,none]):=by
 obtain⟨e,h1,ms,y6,rfl,h2,h3⟩:=dI (g:=gN 6) (body:=dz) (λi env=>∃ms y6,env=[some (.sh (.scr ns)),some (.sh (.int k)),x2,x3,some (.sh (.int p)),some (.own (.lst ((1::ms).map λm=> .int (p*m)))),y6,none,none]/\ms.length=i/\∀m∈ms,1<=m/\m<=1+6*(ms.length:Int)) (aB 0 n) 0 _ ⟨[],none,rfl,rfl,by simp⟩ (by
  rintro i d env hd ⟨ms,y6,rfl,h2,h3⟩;obtain⟨hi,rfl⟩:=aZ hd;rw[GaS] at h2;obtain⟨m,m1,m2,q⟩:=Cw (ns:=ns) (k:=k) (p:=p) (j:=0+(i:Int)) (ms:=ms) (x2:=x2) (x3:=x3) (x7:=none) (x8:=none) hk xY hp yx (by lia) (by lia) (by lia) h3;refine⟨_,_,rfl,q,ms++[m],_,rfl,by simp;lia,λz hz=> ?_⟩;rcases GaF.mp hz with hz|hz
  .have:=h3 z hz;simp;lia
  .simp at hz;subst hz;simp;lia)
 rw[cI,GaS] at h2;refine⟨ms,y6,h2,λm hm=> ?_, ?_⟩
 .have:=h3 m hm;lia
 .simpa using h1
variable{x5:Os}
theorem FJ{k:Int}(hk:0<=k)(xY:k<10000)(hp:1<=p)(yx:p<=50000)(hf:1<=far)(xw:far<=1000000)(n:Nat)(hn:n<=2):
  ∃(cs:List Cap) (y6:Os),cs.length=n/\(∀c∈cs,jz c/\wk far c)/\forL (gN 6) fG (aB 0 n) [some (.sh (.scr ns)),some (.sh (.int k)),x2,some (.sh (.int far)),some (.sh (.int p)),x5,x6,some (.own (.lst [])),none]=
   some (.nx [some (.sh (.scr ns)),some (.sh (.int k)),x2,some (.sh (.int far)),some (.sh (.int p)),x5,y6,some (.own (.lst (cs.map b6))),none]):=by
 obtain⟨e,h1,cs,y6,rfl,h2,h3⟩:=dI (g:=gN 6) (body:=fG) (λi env=>∃(cs:List Cap) (y6:Os),env=[some (.sh (.scr ns)),some (.sh (.int k)),x2,some (.sh (.int far)),some (.sh (.int p)),x5,y6,some (.own (.lst (cs.map b6))),none]/\cs.length=i/\∀c∈cs,jz c/\wk far c) (aB 0 n) 0 _ ⟨[],x6,rfl,rfl,by simp⟩ (by
  rintro i d env hd ⟨cs,y6,rfl,h2,h3⟩;obtain⟨hi,rfl⟩:=aZ hd;have i2:i<=2:=by lia
  obtain⟨c,c1,UK,c2⟩:=MY (ns:=ns) (k:=k+6+5*(0+(i:Int))) (part:=p) (far:=far) (by lia) (by lia) hp yx hf xw;have m5:aX 5 (0+(i:Int))=true:=bx (by lia) (by lia);have z:(cs.map b6).length<16777216:=by rw[Gab];lia
  have rv:=b7 (rY c);have em:(cs++[c]).map b6=cs.map b6++[b6 c]:=by simp
  generalize 0+(i:Int)=j at*;refine⟨_,_,rfl, ?_,cs++[c],some (.sh (.int j)),rfl,by simp;lia, ?_⟩
  .rw[em];generalize cs.map b6=CS at*;generalize b6 c=cd at*;unfold fG;simp[m5,c2,a9,z,rv,RV.free]
  .intro x hx;rcases GaF.mp hx with hx|hx
   .exact h3 x hx
   .simp at hx;subst hx;exact⟨c1,UK⟩)
 rw[cI,GaS] at h2;exact⟨cs,y6,h2,h3,h1⟩
def oC(far:Int)(s:gC):Prop:=(∀c∈s.ax,wk far c)/\far∣s.young
theorem Io{k:Int}{x:Str}(hk:0<=k)(xY:k<10000)(hf:1<=far)(xw:far<=1000000):∃s:gC,cC s/\s.ax.length<=2/\oC far s/\gy [.scr ns,.int k,.str x,.int far]=some (au s):=by
 have e0:=aG (ns:=ns) (k:=k) (by lia) (by lia);have Sk:=aG (ns:=ns) (k:=301) (by lia) (by lia);have e1:=aG (ns:=ns) (k:=k+1) (by lia) (by lia);have e4:=aG (ns:=ns) (k:=k+4) (by lia) (by lia);have e5:=aG (ns:=ns) (k:=k+5) (by lia) (by lia);have r0:=mxm ns k 5 (by lia);have r1:=mxm ns (k+1) 3 (by lia);have r4:=mxm ns (k+4) 3 (by lia);have r5:=Lr ns (k+5);obtain⟨mul,hmul,u1,u2⟩:∃mul:Int,atD [D.int 1,.int 1,.int 10000] (mx ns 301%3)=some (.int mul)/\1<=mul/\mul<=10000:=by
  have q:mx ns 301%3=0\/mx ns 301%3=1\/mx ns 301%3=2:=by lia
  rcases q with q|q|q<;>simp[q]
 generalize Ua:1+mx ns k%5=p0;have hp0a:1<=p0:=by lia
 have hp0b:p0<=5:=by lia
 have zy:1<=p0*mul:=fm hp0a u1;have hpb:p0*mul<=50000:=by
  have:=Cp (by lia) hp0b (by lia) u2;lia
 generalize hp:p0*mul=p at*;have m0:aX p0 mul=true:=bx (by lia) (by lia);obtain⟨ms,y6,ml,mb,l1⟩:=FI (ns:=ns) (k:=k) (p:=p) (x2:=some (.sh (.str x))) (x3:=some (.sh (.int far))) hk (by lia) zy hpb (mx ns (k+1)%3).toNat (by lia);obtain⟨cs,z6,cl,ck,l2⟩:=FJ (ns:=ns) (k:=k) (p:=p) (far:=far) (x2:=some (.sh (.str x))) (x5:=some (.own (.lst ((1::ms).map λm=> .int (p*m))))) (x6:=y6) hk xY zy hpb hf xw (mx ns (k+4)%3).toNat (by lia);have s1:aP (mx ns (k+1)%3)=true:=aU (by lia) (by lia);have s4:aP (mx ns (k+4)%3)=true:=aU (by lia) (by lia);generalize mx ns (k+5)=yv at*;have m5:aX (yv%2) far=true:=bx (by lia) (by lia);have m6:∀i,aX i (yv/2%20)=true:=λi=>fb (by lia) (by lia);refine⟨⟨x,p,ms.map (p* ·),cs,yv%2*far*(yv/2%20)⟩,⟨zy,by show p<=100000;lia,by show cs.length<=4;lia,λc hc=>(ck c hc).1, ?_⟩,by show cs.length<=2;lia,⟨λc hc=>(ck c hc).2, ?_⟩, ?_⟩
 .exact GcQ (GcQ (by lia) (by lia)) (by lia)
 .show far∣yv%2*far*(yv/2%20);rw[Int.mul_comm (yv%2),Int.mul_assoc];exact Gbe ..
 .have ci:=oj cs;have ee:((p::ms.map (p* ·)).map D.int)=(1::ms).map λm=>D.int (p*m):=by simp
  have im:aC ((1::ms).map λm=>D.int (p*m))=true:=by rw[<-ee];exact fK _
  unfold au;dsimp only;rw[ee];generalize cs.map b6=CS at*;have e1m:(1::ms).map (λm=>D.int (p*m))= .int p::ms.map λm=> .int (p*m):=by simp
  rw[e1m] at l1 l2 im⊢;generalize (D.int p::ms.map λm=>D.int (p*m))=MS at*;unfold gy lB;simp[-forL,e0,Sk,e1,e4,e5,hmul,Ua,m0,hp,s1,s4,l1,l2,m5,m6,a9,ci,im,freed]
def mh(far:Int):om->Prop
 | .asked b=>far∣b
 | .due b e m ea la=>far∣b/\far∣e/\far∣ea/\far∣la/\m<=6
theorem Kx{k:Int}(hk:0<=k)(xY:k<100000)(hf:1<=far)(xw:far<=1000000):∃u:om,gR u/\mh far u/\iL [.scr ns,.int k,.int far]=some (fA u):=by
 have e0:=aG (ns:=ns) (k:=k) (by lia) (by lia);have e1:=aG (ns:=ns) (k:=k+1) (by lia) (by lia);have e2:=aG (ns:=ns) (k:=k+2) (by lia) (by lia);have e3:=aG (ns:=ns) (k:=k+3) (by lia) (by lia);have e4:=aG (ns:=ns) (k:=k+4) (by lia) (by lia);have e5:=aG (ns:=ns) (k:=k+5) (by lia) (by lia);have mf:∀j,aX far j=true:=λj=>bx (by lia) (by lia);have up:∀q B:Int,0<=q->q<=B->far*q<=1000000*B:=λq B a b=>Cp (by lia) xw a b;by_cases c:mx ns k%4=0
 .refine⟨.asked (far*(mx ns (k+1)%20)),GcQ (by lia) (by lia),Gbe .., ?_⟩;unfold iL jV fA;simp[e0,e1,c,mf,a9]
 .generalize he:2+mx ns (k+2)%10=ev;have q1:2<=ev:=by lia
  have q2:ev<=11:=by lia
  have r3:=mxm ns (k+3) ev (by lia);generalize Uo:mx ns (k+3)%ev=ea at r3;have r4:=mxm ns (k+4) (ev -ea) (by lia);generalize zQ:mx ns (k+4)%(ev -ea)=la at r4;refine⟨.due (far*(ea+mx ns (k+1)%12)) (far*ev) (1+mx ns (k+5)%6) (far*ea) (far*la),⟨fm hf (by lia), ?_,by lia,GcQ (by lia) r3.1,GcQ (by lia) r4.1, ?_, ?_, ?_⟩,⟨Gbe ..,Gbe ..,Gbe ..,Gbe ..,by lia⟩, ?_⟩
  .have:=up ev 11 (by lia) q2;lia
  .rw[<-Int.mul_add];exact Int.mul_lt_mul_of_pos_left (by lia) (by lia)
  .exact Int.mul_le_mul_of_nonneg_left (by lia) (by lia)
  .have:=up (ea+mx ns (k+1)%12) 22 (by lia) (by lia);lia
  .have p1:0<ev:=by lia
   have p2:0<ev -ea:=by lia
   have p3:ea<ev:=by lia
   unfold iL jV fA;simp[e0,e1,e2,e3,e4,e5,c,mf,he,Uo,zQ,p1,p2,p3,a9]
def mj(t:D):Prop:=∃a b c:Int,t= .tup [.int a,.int b,.int c]
theorem mj.imm{t:D}(h:mj t):t.imm=true:=by obtain⟨a,b,c,rfl⟩:=h;simp
variable{x4:Os}{at_:Int}
theorem AU{k:Int}{u:om}{ts:List D}{x16:Os}(hk:0<=k)(xY:k<10000)(hj:0<=j)(Rn:j<=2)(hl:ts.length<=100)(ht:∀t∈ts,mj t):
  ∃at' zE zq,fH [some (.sh (.scr ns)),some (.sh (.int k)),x2,x3,x4,x5,x6,x7,x8,x9,eM,h8,some (.sh (fA u)),some (.own (.lst ts)),some (.sh (.int at_)),some (.sh (.int j)),x16]=
   some (.nx [some (.sh (.scr ns)),some (.sh (.int k)),x2,x3,x4,x5,x6,x7,x8,x9,eM,h8,some (.sh (fA u)),some (.own (.lst zE)),some (.sh (.int at')),some (.sh (.int j)),zq])/\zE.length<=ts.length+1/\∀t∈zE,mj t:=by
 have e1:=aG (ns:=ns) (k:=k+14+j) (by lia) (by lia);have e2:=aG (ns:=ns) (k:=k+16+j) (by lia) (by lia);have e3:=aG (ns:=ns) (k:=k+18+j) (by lia) (by lia);have z:ts.length<16777216:=by lia
 generalize xN:at_+1+mx ns (k+14+j)%2=at';generalize zj:1+mx ns (k+16+j)%12=den;have S9:0<den:=by lia
 unfold fH;cases u with
 |asked b=>
  refine⟨at',ts,some (.sh (.int den)), ?_,by lia,ht⟩;unfold fA;simp[e1,e2,e3,xN,zj]
 |due b e m ea la=>
  unfold fA;by_cases c:at' <m
  .refine⟨at',ts++[.tup [.int at',.int (1+mx ns (k+18+j)%den),.int den]],some (.sh (.int den)), ?_,by simp, ?_⟩
   .simp[e1,e2,e3,xN,zj,c,S9,a9,z]
   .intro t h;rcases GaF.mp h with h|h
    .exact ht t h
    .simp at h;exact⟨_,_,_,h⟩
  .refine⟨at',ts,some (.sh (.int den)), ?_,by lia,ht⟩;simp[e1,e2,e3,xN,zj,c]
variable{ss:List gC}{gs:List (Str×Int)}
theorem Ip{k:Int}{x:Str}(hk:0<=k)(xY:k<10000)(hf:1<=far)(xw:far<=1000000)(hg:1<=gs.length)(hs:1<=ss.length)(RP:∀s∈ss,cC s):
  ∃(o:Order) (c:Int),oq gs.length ss.length o/\(∃s,ss[o.af.toNat]? =some s/\o.most=s.part*c)/\1<=c/\c<=12/\mh far o.aV/\gz [.scr ns,.int k,.str x,.lst (gs.map aM),.lst (ss.map au),.int far]=some (ah o):=by
 have e:∀j:Int,0<=j->j<=30->a8 [.scr ns,.int (k+j)]=some (.int (mx ns (k+j))):=λj h1 h2=>aG (by lia) (by lia);have e0:=aG (ns:=ns) (k:=k) (by lia) (by lia);have e1:=e 1 (by lia) (by lia);have e2:=e 2 (by lia) (by lia);have e3:=e 3 (by lia) (by lia);have e4:=e 4 (by lia) (by lia);have e5:=e 5 (by lia) (by lia);have e6:=e 6 (by lia) (by lia);have e7:=e 7 (by lia) (by lia);have UI:=e 20 (by lia) (by lia);have r0:=mxm ns k (ss.length:Int) (by lia);have r20:=mxm ns (k+20) (gs.length:Int) (by lia);obtain⟨st,yh⟩:∃st:Nat,mx ns k%(ss.length:Int)=st:=⟨(mx ns k%(ss.length:Int)).toNat,by lia⟩
 have hst2:st<ss.length:=by lia
 have xN:atD (ss.map au) (st:Int)=some (au ss[st]):=by rw[gZ,Gaw,Gad hst2];rfl
 have hok:=RP ss[st] (GaI hst2);have hget:ss[st]? =some ss[st]:=by simp[hst2]
 generalize ss[st]=sd at*;have p1:=hok.p1;have p2:=hok.p2;have q1:ixD (au sd) (.int 1)=some (.tup (.int sd.part::sd.more.map .int)):=rfl;have TU:=iN sd;obtain⟨way,RK⟩:∃way:Str,atD [D.str "down",.str "up",.str "near"] (mx ns (k+6)%3)=some (.str way):=by
  have q:mx ns (k+6)%3=0\/mx ns (k+6)%3=1\/mx ns (k+6)%3=2:=by lia
  rcases q with q|q|q<;>simp[q]
 obtain⟨u,Rj,U3,zK⟩:=Kx (ns:=ns) (k:=k+8) (far:=far) (by lia) (by lia) hf xw;have r7:=mxm ns (k+7) 3 (by lia);have s7:aP (mx ns (k+7)%3)=true:=aU (by lia) (by lia);have mp:∀j,aX sd.part j=true:=λj=>bx (by lia) (by lia);have m2:∀j,aX (mx ns (k+2)%2) j=true:=λj=>bx (by lia) (by lia);have pp:0<sd.part:=by lia
 have di:=uM u;have rv:=b7 di;generalize hc:1+mx ns (k+1)%12=c;generalize RQ:mx ns (k+2)%2*(10+mx ns (k+3)%90)=per;generalize RO:sd.part*(mx ns (k+4)%8)+1+mx ns (k+5)%sd.part=top;have Uz:dG [.lst (gs.map aM)]=some ⟨.c,.int (gs.length:Int)⟩:=by simp[dG]
 have Uy:dG [.lst (ss.map au)]=some ⟨.c,.int (ss.length:Int)⟩:=by simp[dG]
 have U7:(0:Int)<ss.length:=by lia
 have Uk:(0:Int)<gs.length:=by lia
 generalize hGS:gs.map aM=GS at*;generalize hSS:ss.map au=SS at*;generalize hDD:fA u=DD at*;obtain⟨en,h1,Ry,ts,xO,zq,rfl,h2,h3⟩:=dI (g:=gN 15) (body:=fH) (λi env=>∃Ry ts xO zq,env=[some (.sh (.scr ns)),some (.sh (.int k)),some (.sh (.str x)),some (.sh (.lst GS)),some (.sh (.lst SS)),some (.sh (.int far)),some (.sh (.int st)),some (.sh (.int sd.part)),some (.sh (.int (sd.part*c))),some (.sh (.int per)),some (.sh (.int top)),some (.sh (.tup [.str way,.int top,.int per,.int (sd.part*c)])),some (.sh DD),some (.own (.lst ts)),some (.sh (.int Ry)),xO,zq]/\ts.length<=i/\∀t∈ts,mj t) (aB 0 (mx ns (k+7)%3).toNat) 0
  [some (.sh (.scr ns)),some (.sh (.int k)),some (.sh (.str x)),some (.sh (.lst GS)),some (.sh (.lst SS)),some (.sh (.int far)),some (.sh (.int st)),some (.sh (.int sd.part)),some (.sh (.int (sd.part*c))),some (.sh (.int per)),some (.sh (.int top)),some (.sh (.tup [.str way,.int top,.int per,.int (sd.part*c)])),some (.sh DD),some (.own (.lst [])),some (.sh (.int 0)),none,none]
  ⟨0,[],none,none,rfl,by simp,by simp⟩ (by
   rintro i d env hd ⟨Ry,ts,xO,zq,rfl,h2,h3⟩;obtain⟨hi,rfl⟩:=aZ hd;obtain⟨at',zE,Ti,q1,q2,q3⟩:=AU (ns:=ns) (k:=k) (j:=0+(i:Int)) (at_:=Ry) (u:=u) (ts:=ts) (x2:=some (.sh (.str x))) (x3:=some (.sh (.lst GS))) (x4:=some (.sh (.lst SS))) (x5:=some (.sh (.int far))) (x6:=some (.sh (.int st))) (x7:=some (.sh (.int sd.part))) (x8:=some (.sh (.int (sd.part*c)))) (x9:=some (.sh (.int per))) (eM:=some (.sh (.int top))) (h8:=some (.sh (.tup [.str way,.int top,.int per,.int (sd.part*c)]))) (x16:=zq) hk xY (by lia) (by lia) (by lia) h3;rw[hDD] at q1;exact⟨_,_,rfl,q1,at',zE,_,Ti,rfl,by lia,q3⟩)
 have ti:=lG (λ_=>mj.imm) h3;refine⟨⟨x,mx ns (k+20)%(gs.length:Int),(st:Int),way,top,per,sd.part*c,u,ts⟩,c,⟨r20.1,r20.2,by show(0:Int)<=(st:Int);lia,by show(st:Int)<(ss.length:Int);lia,Rj,ti⟩,⟨sd,by show ss[((st:Int)).toNat]? =some sd;rw[Gbd];exact hget,rfl⟩,by lia,by lia,U3, ?_⟩;unfold ah;dsimp only;rw[hDD];generalize (gs.length:Int)=lg at*;generalize (ss.length:Int)=ls at*;generalize (st:Int)=sti at*;generalize au sd=SD at*;unfold gz lC;simp[-forL,-qO,Uz,Uy,e0,e1,e2,e3,e4,e5,e6,e7,UI,U7,Uk,yh,xN,q1,TU,RK,zK,s7,mp,m2,pp,hc,RQ,RO,a9,h1,ti,di,rv,freed]
def ie(far:Int)(n:Int)(bs:List Tr):Prop:=HK n bs/\∀b∈bs,far∣b.2.2
theorem FK{n:Nat}{bs:List Tr}(hf:1<=far)(xw:far<=1000000)(hn:n<=3)(hx:0<=x)(TY:x<=y)(TX:y<n)(hl:bs.length<=100)(hb:ie far n bs)(hX:lH x y bs):
  ∃(xm :List Tr) (y9:Os),ie far n xm /\lH x (y+1) xm /\xm.length<=bs.length+1/\cO [some (.sh (.scr ns)),some (.sh (.int far)),x2,x3,x4,x5,some (.own (.lst (bs.map trD))),some (.sh (.int x)),some (.sh (.int y)),x9,eM]=
   some (.nx [some (.sh (.scr ns)),some (.sh (.int far)),x2,x3,x4,x5,some (.own (.lst (xm.map trD))),some (.sh (.int x)),some (.sh (.int y)),y9,eM]):=by
 have e1:=aG (ns:=ns) (k:=370+3*x+y) (by lia) (by lia);have e2:=aG (ns:=ns) (k:=380+3*x+y) (by lia) (by lia);have e3:=aG (ns:=ns) (k:=390+3*x+y) (by lia) (by lia);have m3:aX 3 x=true:=bx (by lia) (by lia);have mf:∀j,aX far j=true:=λj=>bx (by lia) (by lia);have lm:(bs.map trD).length=bs.length:=Gab _;have z:(bs.map trD).length<16777216:=by lia
 have r:=mxm ns (390+3*x+y) (((bs.map trD).length:Int)+1) (by lia);have s:=aU (i:=mx ns (390+3*x+y)%(((bs.map trD).length:Int)+1)) (by lia) (by lia);have p:(0:Int)<((bs.map trD).length:Int)+1:=by lia
 by_cases c:mx ns (370+3*x+y)%3=0
 .generalize hg:far*(1+mx ns (380+3*x+y)%8)=g;have g1:1<=g:=by rw[<-hg];exact fm hf (by lia)
  generalize hi:mx ns (390+3*x+y)%(((bs.map trD).length:Int)+1)=i at*;have pm:=BO bs i (x,y,g);refine⟨gn bs i (x,y,g),some (.sh (.int g)),⟨⟨λb xq => ?_, ?_⟩,λb xq => ?_⟩,λb xq => ?_,by rw[ue];lia, ?_⟩
  .rcases Gar.mp (pm.mem_iff.mp xq) with h|h
   .subst h;exact⟨hx,TY,TX,g1⟩
   .exact hb.1.1 b h
  .rw[(pm.map tK).nodup_iff,GaA,GbO];refine⟨λh=> ?_,hb.1.2⟩;obtain⟨b,xq,e⟩:=Gat.mp h;have h1:=hX b xq;unfold tK at e;simp at e;lia
  .rcases Gar.mp (pm.mem_iff.mp xq) with h|h
   .subst h;show far∣g;rw[<-hg];exact Gbe ..
   .exact hb.2 b h
  .rcases Gar.mp (pm.mem_iff.mp xq) with h|h
   .subst h;exact .inr ⟨rfl,by show y<y+1;lia⟩
   .have:=hX b h;lia
  .rw[Fv];have et:trD (x,y,g)= .tup [.int x,.int y,.int g]:=rfl;rw[et];generalize bs.map trD=B at*;unfold cO;simp[e1,e2,e3,m3,mf,c,a9,z,s,p,hg,hi]
 .refine⟨bs,x9,hb,λb h=>by have:=hX b h;lia,by lia, ?_⟩;generalize bs.map trD=B at*;unfold cO;simp[e1,m3,c]
variable{SS:List D}
theorem AV{n:Nat}{bs:List Tr}(hf:1<=far)(xw:far<=1000000)(hn:n<=3)(hx:0<=x)(hm:x+m<=n)(hl:bs.length<=50)(hb:ie far n bs)(hX:lH x x bs):
  ∃(xm :List Tr) (z8 z9:Os),ie far n xm /\lH x (x+m) xm /\xm.length<=bs.length+m/\forL (gN 8) cO (aB x m) [some (.sh (.scr ns)),some (.sh (.int far)),x2,x3,x4,some (.own (.lst SS)),some (.own (.lst (bs.map trD))),some (.sh (.int x)),x8,x9,none]=
   some (.nx [some (.sh (.scr ns)),some (.sh (.int far)),x2,x3,x4,some (.own (.lst SS)),some (.own (.lst (xm.map trD))),some (.sh (.int x)),z8,z9,none]):=by
 obtain⟨e,q1,xm,z8,z9,q2,q3,q4,rfl⟩:=dI (g:=gN 8) (body:=cO) (λj env=>∃(xm :List Tr) (z8 z9:Os),ie far n xm /\lH x (x+(j:Int)) xm /\xm.length<=bs.length+j/\env=[some (.sh (.scr ns)),some (.sh (.int far)),x2,x3,x4,some (.own (.lst SS)),some (.own (.lst (xm.map trD))),some (.sh (.int x)),z8,z9,none]) (aB x m) 0 _ ⟨bs,x8,x9,hb,by rw[show x+((0:Nat):Int)=x by lia];exact hX,by simp,rfl⟩ (by
  rintro j d env hd ⟨xm,z8,z9,q2,q3,q4,rfl⟩;obtain⟨hj,rfl⟩:=aZ hd;rw[GaS] at q3;obtain⟨UL,w9,r1,r2,r3,r4⟩:=FK (ns:=ns) (far:=far) (x:=x) (y:=x+(j:Int)) (n:=n) (bs:=xm) (x2:=x2) (x3:=x3) (x4:=x4) (x5:=some (.own (.lst SS))) (x9:=z9) (eM:=none) hf xw hn hx (by lia) (by lia) (by lia) q2 q3;exact⟨_,_,rfl,r4,UL,_,w9,r1,by rw[show x+((0+j+1:Nat):Int)=x+(j:Int)+1 by lia];exact r2,by lia,rfl⟩)
 rw[cI,GaS] at q3 q4;exact⟨xm,z8,z9,q2,q3,q4,q1⟩
variable{L:Int}
theorem Iq{n:Nat}{bs:List Tr}(hL:dG [.lst SS]=some ⟨.c,.int L⟩)(UT:L=n)(hf:1<=far)(xw:far<=1000000)(hn:n<=3)(hx:0<=x)(UQ:x<L)(hl:bs.length<=50)(hb:ie far n bs)(hX:lH x x bs):
  ∃(xm :List Tr) (z8 z9:Os),ie far n xm /\lH (x+1) (x+1) xm /\xm.length<=bs.length+3/\cP [some (.sh (.scr ns)),some (.sh (.int far)),x2,x3,x4,some (.own (.lst SS)),some (.own (.lst (bs.map trD))),some (.sh (.int x)),x8,x9,none]=
   some (.nx [some (.sh (.scr ns)),some (.sh (.int far)),x2,x3,x4,some (.own (.lst SS)),some (.own (.lst (xm.map trD))),some (.sh (.int x)),z8,z9,none]):=by
 obtain⟨xm,z8,z9,q2,q3,q4,q1⟩:=AV (ns:=ns) (far:=far) (x:=x) (n:=n) (m:=(L -x).toNat) (SS:=SS) (bs:=bs) (x2:=x2) (x3:=x3) (x4:=x4) (x8:=x8) (x9:=x9) hf xw hn hx (by lia) hl hb hX;have sa:aP x=true:=aU (by lia) (by lia);have sb:aP L=true:=aU (by lia) (by lia);refine⟨xm,z8,z9,q2,λb h=>by have:=q3 b h;lia,by lia, ?_⟩;generalize bs.map trD=B at*;generalize xm.map trD=B' at*;unfold cP;simp[-forL,-qO,hL,sa,sb,q1]
theorem FL(hf:1<=far)(xw:far<=1000000)(hs:SS.length<=3):
  ∃(bs:List Tr) (y7 y8 y9:Os),ie far SS.length bs/\bs.length<=9/\forL (gN 7) cP (aB 0 SS.length) [some (.sh (.scr ns)),some (.sh (.int far)),x2,x3,x4,some (.own (.lst SS)),some (.own (.lst [])),none,none,none,none]=
   some (.nx [some (.sh (.scr ns)),some (.sh (.int far)),x2,x3,x4,some (.own (.lst SS)),some (.own (.lst (bs.map trD))),y7,y8,y9,none]):=by
 obtain⟨e,h1,bs,y7,y8,y9,h2,T9,h3,rfl⟩:=dI (g:=gN 7) (body:=cP) (λi env=>∃(bs:List Tr) (y7 y8 y9:Os),ie far SS.length bs/\lH (i:Int) (i:Int) bs/\bs.length<=3*i/\env=[some (.sh (.scr ns)),some (.sh (.int far)),x2,x3,x4,some (.own (.lst SS)),some (.own (.lst (bs.map trD))),y7,y8,y9,none]) (aB 0 SS.length) 0 [some (.sh (.scr ns)),some (.sh (.int far)),x2,x3,x4,some (.own (.lst SS)),some (.own (.lst [])),none,none,none,none] ⟨[],none,none,none,⟨⟨λb hb=>absurd hb (by simp),by simp⟩,λb hb=>absurd hb (by simp)⟩,λb hb=>absurd hb (by simp),by simp,rfl⟩ (by
  rintro i d env hd ⟨bs,y7,y8,y9,h2,T9,h3,rfl⟩;obtain⟨hi,rfl⟩:=aZ hd;obtain⟨xm,z8,z9,q1,TC,q2,q3⟩:=Iq (ns:=ns) (far:=far) (x:=0+(i:Int)) (L:=(SS.length:Int)) (n:=SS.length) (SS:=SS) (bs:=bs) (x2:=x2) (x3:=x3) (x4:=x4) (x8:=y8) (x9:=y9) rfl rfl hf xw hs (by lia) (by lia) (by lia) h2 (λb h=>by have:=T9 b h;lia);exact⟨_,_,rfl,q3,xm,_,z8,z9,q1,λb h=>by have:=TC b h;lia,by lia,rfl⟩)
 rw[cI] at h3;exact⟨bs,y7,y8,y9,h2,by lia,h1⟩
def Has(x:Str)(n:Nat):Prop:=x.length<=4/\∀i:Nat,i<n->∃c,atD x.cps.toList (i:Int)=some c
theorem Ky:Has (Str.ofString "abc") 3:=⟨by decide,λi hi=>match i,hi with|0,_=> ⟨_,rfl⟩|1,_=> ⟨_,rfl⟩|2,_=> ⟨_,rfl⟩⟩
theorem Kz:Has (Str.ofString "uvw") 3:=⟨by decide,λi hi=>match i,hi with|0,_=> ⟨_,rfl⟩|1,_=> ⟨_,rfl⟩|2,_=> ⟨_,rfl⟩⟩
theorem Ir:Has (Str.ofString "klmn") 4:=⟨by decide,λi hi=>match i,hi with|0,_=> ⟨_,rfl⟩|1,_=> ⟨_,rfl⟩|2,_=> ⟨_,rfl⟩|3,_=> ⟨_,rfl⟩⟩
theorem sE:Has (Str.ofString "abcd") 4:=⟨by decide,λi hi=>match i,hi with|0,_=> ⟨_,rfl⟩|1,_=> ⟨_,rfl⟩|2,_=> ⟨_,rfl⟩|3,_=> ⟨_,rfl⟩⟩
theorem Has.le{x:Str}{n:Nat}(h:Has x n)(hm:m<=n):Has x m:=⟨h.1,λi hi=>h.2 i (by lia)⟩
noncomputable def bM(a b c:Str):D:= .lst [.str a,.str b,.str c]
theorem AW{a b c:Str}(ha:Has a 3)(hf:1<=far)(xw:far<=1000000)(n:Nat)(hn:n<=3):
  ∃(gs:List (Str×Int)) (y4:Os),gs.length=n/\(∀g∈gs,far∣g.2)/\forL (gN 4) dA (aB 0 n) [some (.sh (.scr ns)),some (.sh (.int far)),some (.sh (bM a b c)),some (.own (.lst [])),none,none,none,none,none,none,none]=
   some (.nx [some (.sh (.scr ns)),some (.sh (.int far)),some (.sh (bM a b c)),some (.own (.lst (gs.map aM))),y4,none,none,none,none,none,none]):=by
 obtain⟨e,h1,gs,y4,rfl,h2,Sf⟩:=dI (g:=gN 4) (body:=dA) (λi env=>∃(gs:List (Str×Int)) (y4:Os),env=[some (.sh (.scr ns)),some (.sh (.int far)),some (.sh (bM a b c)),some (.own (.lst (gs.map aM))),y4,none,none,none,none,none,none]/\gs.length=i/\∀g∈gs,far∣g.2) (aB 0 n) 0 _ ⟨[],none,rfl,rfl,by simp⟩ (by
  rintro i d env hd ⟨gs,y4,rfl,h2,Sf⟩;obtain⟨hi,rfl⟩:=aZ hd;have hj:0+(i:Int)=(i:Int):=by lia
  rw[hj];obtain⟨ch,xQ⟩:=ha.2 i (by lia);have e1:=aG (ns:=ns) (k:=302+(i:Int)) (by lia) (by lia);have mf:∀j,aX far j=true:=λj=>bx (by lia) (by lia);have z:(gs.map aM).length<16777216:=by rw[Gab];lia
  have la:=ha.1;have zH:a.length<=16777216:=by lia
  generalize (i:Int)=j at xQ e1;refine⟨_,_,rfl, ?_,gs++[(⟨#[ch]⟩,far*(mx ns (302+j)%10))],some (.sh (.int j)),rfl,by simp;lia,λg hg=>(GaF.mp hg).elim (Sf g) λz=>by
   rw[GaJ.mp z];exact Gbe ..⟩
  have em:(gs++[((⟨#[ch]⟩:Str),far*(mx ns (302+j)%10))]).map aM=gs.map aM++[.tup [.str ⟨#[ch]⟩,.int (far*(mx ns (302+j)%10))]]:=by simp[aM]
  rw[em];generalize gs.map aM=GS at*;unfold dA bM;simp[xQ,e1,mf,a9,z,zH])
 rw[cI,GaS] at h2;exact⟨gs,y4,h2,Sf,h1⟩
theorem AX{a b c:Str}(hb:Has b 3)(hf:1<=far)(xw:far<=1000000)(n:Nat)(hn:n<=3):
  ∃(ss:List gC) (y4:Os),ss.length=n/\(∀s∈ss,cC s/\s.ax.length<=2/\oC far s)/\forL (gN 4) dB (aB 0 n) [some (.sh (.scr ns)),some (.sh (.int far)),some (.sh (bM a b c)),x3,x4,some (.own (.lst [])),none,none,none,none,none]=
   some (.nx [some (.sh (.scr ns)),some (.sh (.int far)),some (.sh (bM a b c)),x3,y4,some (.own (.lst (ss.map au))),none,none,none,none,none]):=by
 obtain⟨e,h1,ss,y4,rfl,h2,h3⟩:=dI (g:=gN 4) (body:=dB) (λi env=>∃(ss:List gC) (y4:Os),env=[some (.sh (.scr ns)),some (.sh (.int far)),some (.sh (bM a b c)),x3,y4,some (.own (.lst (ss.map au))),none,none,none,none,none]/\ss.length=i/\∀s∈ss,cC s/\s.ax.length<=2/\oC far s) (aB 0 n) 0 _ ⟨[],x4,rfl,rfl,by simp⟩ (by
  rintro i d env hd ⟨ss,y4,rfl,h2,h3⟩;obtain⟨hi,rfl⟩:=aZ hd;have hj:0+(i:Int)=(i:Int):=by lia
  rw[hj];obtain⟨ch,xQ⟩:=hb.2 i (by lia);obtain⟨sd,s1,RF,Tt,s2⟩:=Io (ns:=ns) (k:=310+20*(i:Int)) (far:=far) (x:=⟨#[ch]⟩) (by lia) (by lia) hf xw;have Sy:aX 20 (i:Int)=true:=bx (by lia) (by lia);have z:(ss.map au).length<16777216:=by rw[Gab];lia
  have la:=hb.1;have zH:b.length<=16777216:=by lia
  have rv:=b7 (iN sd);have em:(ss++[sd]).map au=ss.map au++[au sd]:=by simp
  generalize (i:Int)=j at xQ s2 Sy;refine⟨_,_,rfl, ?_,ss++[sd],some (.sh (.int j)),rfl,by simp;lia, ?_⟩
  .rw[em];generalize ss.map au=SS at*;generalize au sd=sD at*;unfold dB bM;simp[xQ,Sy,s2,a9,z,zH,rv,RV.free]
  .intro x hx;rcases GaF.mp hx with hx|hx
   .exact h3 x hx
   .simp at hx;subst hx;exact⟨s1,RF,Tt⟩)
 rw[cI,GaS] at h2;exact⟨ss,y4,h2,h3,h1⟩
theorem Cy{v9 v5 v6 v7:Int}{a b c:Str}{gs ss bs os:List D}{z4 w4:Os}(ef:cy [.scr ns]=some (.int far))(e9:a8 [.scr ns,.int 299]=some (.int v9))(e5:a8 [.scr ns,.int 305]=some (.int v5))(e6:a8 [.scr ns,.int 306]=some (.int v6))(e7:a8 [.scr ns,.int 307]=some (.int v7))
  (S1:atD [D.lst [.str "abc",.str "uvw",.str "klmn"],D.lst [.str "abcd",.str "abcd",.str "abcd"]] (if v9%3=0 then 1 else 0)=some (bM a b c))(t5:aP (1+v5%3)=true)(t6:aP (1+v6%3)=true)(t7:aP (1+v7%4)=true)(hL:dG [.lst ss]=some ⟨.c,.int L⟩)(ts:aP L=true)
  (l1:forL (gN 4) dA (aB 0 (1+v5%3).toNat) [some (.sh (.scr ns)),some (.sh (.int far)),some (.sh (bM a b c)),some (.own (.lst [])),none,none,none,none,none,none,none]=some (.nx [some (.sh (.scr ns)),some (.sh (.int far)),some (.sh (bM a b c)),some (.own (.lst gs)),y4,none,none,none,none,none,none]))
  (l2:forL (gN 4) dB (aB 0 (1+v6%3).toNat) [some (.sh (.scr ns)),some (.sh (.int far)),some (.sh (bM a b c)),some (.own (.lst gs)),y4,some (.own (.lst [])),none,none,none,none,none]=some (.nx [some (.sh (.scr ns)),some (.sh (.int far)),some (.sh (bM a b c)),some (.own (.lst gs)),z4,some (.own (.lst ss)),none,none,none,none,none]))
  (l3:forL (gN 7) cP (aB 0 L.toNat) [some (.sh (.scr ns)),some (.sh (.int far)),some (.sh (bM a b c)),some (.own (.lst gs)),z4,some (.own (.lst ss)),some (.own (.lst [])),none,none,none,none]=some (.nx [some (.sh (.scr ns)),some (.sh (.int far)),some (.sh (bM a b c)),some (.own (.lst gs)),z4,some (.own (.lst ss)),some (.own (.lst bs)),y7,y8,y9,none]))
  (l5:forL (gN 4) dC (aB 0 (1+v7%4).toNat) [some (.sh (.scr ns)),some (.sh (.int far)),some (.sh (bM a b c)),some (.own (.lst gs)),z4,some (.own (.lst ss)),some (.own (.lst bs)),y7,y8,y9,some (.own (.lst []))]=some (.nx [some (.sh (.scr ns)),some (.sh (.int far)),some (.sh (bM a b c)),some (.own (.lst gs)),w4,some (.own (.lst ss)),some (.own (.lst bs)),y7,y8,y9,some (.own (.lst os))]))
  (i1:aC gs=true)(i2:aC ss=true)(i3:aC bs=true)(i4:aC os=true):gA [.scr ns]=some (.tup [.tup gs,.tup ss,.tup bs,.tup os]):=by
 refine b5 rfl ?_;unfold lD;refine(ag (by simp[ef];rfl)).trans ?_;refine(ag (by simp[e9,S1,a9];rfl)).trans ?_;refine(ag (by simp[a9];rfl)).trans ?_;refine(ag (by simp[e5,t5,l1];rfl)).trans ?_;refine(ag (by simp[a9];rfl)).trans ?_;refine(ag (by simp[e6,t6,l2];rfl)).trans ?_;refine(ag (by simp[a9];rfl)).trans ?_;refine(ag (by simp[-qO,hL,ts,l3];rfl)).trans ?_;refine(ag (by simp[a9];rfl)).trans ?_;refine(ag (by simp[e7,t7,l5];rfl)).trans ?_;simp[a9,i1,i2,i3,i4]
def pD(ss:List gC)(o:Order):Prop:=∃(s:gC) (c:Int),ss[o.af.toNat]? =some s/\o.most=s.part*c/\1<=c/\c<=12
theorem AY{a b c:Str}(hc:Has c 4)(hf:1<=far)(xw:far<=1000000)(hg:1<=gs.length)(hs:1<=ss.length)(RP:∀s∈ss,cC s)(n:Nat)(hn:n<=4):
  ∃(os:List Order) (y4:Os),os.length=n/\(∀o∈os,oq gs.length ss.length o/\pD ss o/\mh far o.aV)/\forL (gN 4) dC (aB 0 n) [some (.sh (.scr ns)),some (.sh (.int far)),some (.sh (bM a b c)),some (.own (.lst (gs.map aM))),x4,some (.own (.lst (ss.map au))),x6,x7,x8,x9,some (.own (.lst []))]=
   some (.nx [some (.sh (.scr ns)),some (.sh (.int far)),some (.sh (bM a b c)),some (.own (.lst (gs.map aM))),y4,some (.own (.lst (ss.map au))),x6,x7,x8,x9,some (.own (.lst (os.map ah)))]):=by
 obtain⟨e,h1,os,y4,rfl,h2,h3⟩:=dI (g:=gN 4) (body:=dC) (λi env=>∃(os:List Order) (y4:Os),env=[some (.sh (.scr ns)),some (.sh (.int far)),some (.sh (bM a b c)),some (.own (.lst (gs.map aM))),y4,some (.own (.lst (ss.map au))),x6,x7,x8,x9,some (.own (.lst (os.map ah)))]/\os.length=i/\∀o∈os,oq gs.length ss.length o/\pD ss o/\mh far o.aV) (aB 0 n) 0 _ ⟨[],x4,rfl,rfl,by simp⟩ (by
  rintro i d env hd ⟨os,y4,rfl,h2,h3⟩;obtain⟨hi,rfl⟩:=aZ hd;have hj:0+(i:Int)=(i:Int):=by lia
  rw[hj];obtain⟨ch,xQ⟩:=hc.2 i (by lia);obtain⟨od,cc,s1,⟨sd,Tx,RF⟩,Tw,Tv,Tu,s2⟩:=Ip (ns:=ns) (k:=400+25*(i:Int)) (far:=far) (x:=⟨#[ch]⟩) (gs:=gs) (ss:=ss) (by lia) (by lia) hf xw hg hs RP;have Sx:aX 25 (i:Int)=true:=bx (by lia) (by lia);have z:(os.map ah).length<16777216:=by rw[Gab];lia
  have la:=hc.1;have zH:c.length<=16777216:=by lia
  have rv:=b7 (fB od s1.ti);have em:(os++[od]).map ah=os.map ah++[ah od]:=by simp
  generalize (i:Int)=j at xQ s2 Sx;refine⟨_,_,rfl, ?_,os++[od],some (.sh (.int j)),rfl,by simp;lia, ?_⟩
  .rw[em];generalize gs.map aM=GS at*;generalize ss.map au=SS at*;generalize os.map ah=OS at*;generalize ah od=oD at*;unfold dC bM;simp[xQ,Sx,s2,a9,z,zH,rv,RV.free]
  .intro x hx;rcases GaF.mp hx with hx|hx
   .exact h3 x hx
   .simp at hx;subst hx;exact⟨s1,⟨sd,cc,Tx,RF,Tw,Tv⟩,Tu⟩)
 rw[cI,GaS] at h2;exact⟨os,y4,h2,h3,h1⟩
structure jD(far:Int)(w:World):Prop where
 g:∀g∈w.aT,far∣g.2
 s:∀s∈w.aw,oC far s
 b:∀b∈w.bN,far∣b.2.2
 o:∀o∈w.orders,mh far o.aV
theorem Iu(ns:List Int):∃(far:Int) (w:World),(far=1\/far=1000000)/\aH w/\w.orders.length<=4/\(∀s∈w.aw,s.ax.length<=2)/\(∀o∈w.orders,pD w.aw o)/\jD far w/\cy [.scr ns]=some (.int far)/\gA [.scr ns]=some (aj w):=by
 obtain⟨far,S8,ef⟩:=Px (ns:=ns);have hf:1<=far:=by lia
 have xw:far<=1000000:=by lia
 have e299:=aG (ns:=ns) (k:=299) (by lia) (by lia);have e305:=aG (ns:=ns) (k:=305) (by lia) (by lia);have e306:=aG (ns:=ns) (k:=306) (by lia) (by lia);have e307:=aG (ns:=ns) (k:=307) (by lia) (by lia);obtain⟨a,b,c,ha,hb,hc,S1⟩:∃a b c:Str,Has a 3/\Has b 3/\Has c 4/\atD [D.lst [.str "abc",.str "uvw",.str "klmn"],D.lst [.str "abcd",.str "abcd",.str "abcd"]] (if mx ns 299%3=0 then 1 else 0)=some (bM a b c):=by
  by_cases q:mx ns 299%3=0
  .exact⟨"abcd","abcd","abcd",sE.le (by lia),sE.le (by lia),sE,by simp[q,bM]⟩
  .exact⟨"abc","uvw","klmn",Ky,Kz,Ir,by simp[q,bM]⟩
 obtain⟨gs,y4,g1,UC,l1⟩:=AW (ns:=ns) (far:=far) (a:=a) (b:=b) (c:=c) ha hf xw (1+mx ns 305%3).toNat (by lia);obtain⟨ss,z4,s1,s2,l2⟩:=AX (ns:=ns) (far:=far) (a:=a) (b:=b) (c:=c) (x3:=some (.own (.lst (gs.map aM)))) (x4:=y4) hb hf xw (1+mx ns 306%3).toNat (by lia);have lS:(ss.map au).length=ss.length:=Gab _;obtain⟨bs,y7,y8,y9,b1,b2,l3⟩:=FL (ns:=ns) (far:=far) (SS:=ss.map au) (x2:=some (.sh (bM a b c))) (x3:=some (.own (.lst (gs.map aM)))) (x4:=z4) hf xw (by lia);obtain⟨os,w4,o1,o2,l5⟩:=AY (ns:=ns) (far:=far) (a:=a) (b:=b) (c:=c) (gs:=gs) (ss:=ss) (x4:=z4) (x6:=some (.own (.lst (bs.map trD)))) (x7:=y7) (x8:=y8) (x9:=y9) hc hf xw (by lia) (by lia) (λs hs=>(s2 s hs).1) (1+mx ns 307%4).toNat (by lia);rw[lS] at b1;have WW:aH ⟨gs,ss,bs,os⟩:=⟨by show 1<=gs.length;lia,by show gs.length<=6;lia,by show 1<=ss.length;lia,by show ss.length<=6;lia,λs hs=>(s2 s hs).1,by show bs.length<=12;lia,b1.1,by show 1<=os.length;lia,by show os.length<=12;lia,λo ho=>(o2 o ho).1⟩
 refine⟨far,⟨gs,ss,bs,os⟩,S8,WW,by show os.length<=4;lia,λs hs=>(s2 s hs).2.1,λo ho=>(o2 o ho).2.1,⟨UC,λs hs=>(s2 s hs).2.2,b1.2,λo ho=>(o2 o ho).2.2⟩,ef, ?_⟩;have t5:aP (1+mx ns 305%3)=true:=aU (by lia) (by lia);have t6:aP (1+mx ns 306%3)=true:=aU (by lia) (by lia);have t7:aP (1+mx ns 307%4)=true:=aU (by lia) (by lia);have ts:aP ((ss.map au).length:Int)=true:=aU (by lia) (by lia);have i4:aC (os.map ah)=true:=k8 λd hd=>by
  obtain⟨o,ho,rfl⟩:=Gat.mp hd;exact fB o (o2 o ho).1.ti
 have hN:((ss.map au).length:Int).toNat=(ss.map au).length:=by lia
 rw[<-hN] at l3;exact Cy ef e299 e305 e306 e307 S1 t5 t6 t7 rfl ts l1 l2 l3 l5 (fc rZ gs) (fc iN ss) (cD bs) i4
theorem MZ{b:Bool}{x:Str}:kk b x=[]↔b=false:=by cases b<;>simp[kk]
theorem pE{g:Str×Int}(e1:w.orders[n.toNat]? =some o)(e2:w.aw[o.af.toNat]? =some s)(e3:w.aT[o.aa.toNat]? =some g):pY w ws (n,h,a)=[]↔(((dm o.aV h=false/\a<=o.most)/\(1<=a/\a%s.part=0))/\(s.ax.any cQ&&(wgt o.aa h ws none).isNone)=false)/\¬h<g.2+s.young:=by
 unfold pY;dsimp only;rw[e1];dsimp only;rw[e2,e3];dsimp only;rw[GdQ];unfold HL;simp only[GbV,MZ,Bool.or_eq_false_iff,decide_eq_false_iff_not,GcT,Decidable.not_not]
theorem AZ{k:Int×Int}{a b:List Tr}(p:a.Perm b):bL os c k h a=bL os c k h b:=by
 induction p with
 |nil=>rfl
 |cons x _ ih=>unfold bL;rw[ih]
 |swap x y l=>unfold bL;unfold bL;lia
 |trans _ _ i1 i2=>exact i1.trans i2
theorem sF{os:List Order}{ws a b:List Tr}{o:Order}{h:Int}(p:a.Perm b):∀(cs:List Cap) (k:Nat),fR os ws a o h k cs=fR os ws b o h k cs
 |[],_=>rfl
 |c::cs,k=>by unfold fR;rw[AZ p,sF p cs (k+1)]
theorem Iv{a b:List Tr}(p:a.Perm b)(t:Tr):ovT w ws a t=ovT w ws b t:=by
 unfold ovT;split
 .exact sF p _ _
 .rfl
theorem Iw{a b:List Tr}{o k:Int}(p:a.Perm b):jd os a o k=jd os b o k:=by
 unfold jd;exact(p.filter _).length_eq
theorem Snd.perm(W:aH w){a b:List Tr}(p:a.Perm b)(S:Snd w ws a):Snd w ws b:=
 ⟨λt ht=>S.ES t (p.mem_iff.mpr ht),λt ht=>by rw[<-Iv p];exact S.over t (p.mem_iff.mpr ht),(p.map λt:Tr=>(t.2.1,t.1)).pairwise S.gap (λ{a b} h=>Apart.symm W h),λo k=>by rw[<-Iw p];exact S.cnt o k⟩
theorem Lu(W:aH w)(n h:Int)(t:Tr):(nrT w.orders w.bN n h t).length<=1:=by
 unfold nrT;split
 .rename_i q;rw[DR (λb hb=>(W.bo.1 b hb).2.1) W.bo.2 (show(h,n).1<=(t.2.1,t.1).1 from(wg q).1)];unfold gpF;split
  .split<;>simp
  .simp
 .simp
theorem oE{α β:Type}{f:α->List β}{m:Nat}:∀l:List α,(∀x∈l,(f x).length<=m)->(l.flatMap f).length<=m*l.length
 |[],_=>by simp
 |x::l,h=>by
  have h1:=h x Gaf;have h2:=oE l λy hy=>h y (Gac _ hy);rw[GbD,Gai,Gay,Nat.mul_add];lia
variable{ws' gv' :List Tr}
theorem N0{t:Tr}{g:Str×Int}(e1:w.orders[t.1.toNat]? =some o)(e2:w.aw[o.af.toNat]? =some s)(e3:w.aT[o.aa.toNat]? =some g)(h:pY w ws t=[]):(qo ws' gv' o s g.2 t.1 t.2.1 t.2.2).length<=2:=by
 have q:=(pE (n:=t.1) (h:=t.2.1) (a:=t.2.2) e1 e2 e3).mp h;have k5:=iP (s.ax.any cQ&&(wgt o.aa t.2.1 ws' none).isNone) "weight" t.1 t.2.1;have k6:=DX gv' o.aV t.1 t.2.1;have f1:kF (dm o.aV t.2.1) "astray" t.1 t.2.1=[]:=by rw[q.1.1.1.1];rfl
 have f2:kF (decide (o.most<t.2.2)) "most" t.1 t.2.1=[]:=by rw[Gax (by have:=q.1.1.1.2;lia)];rfl
 have f3:kF (decide (t.2.2<1)||decide (¬t.2.2%s.part=0)) "part" t.1 t.2.1=[]:=by rw[Gax (by have:=q.1.1.2.1;lia),Gax (λz=>z q.1.1.2.2)];rfl
 have f4:kF (decide (t.2.1<g.2+s.young)) "young" t.1 t.2.1=[]:=by rw[Gax q.2];rfl
 unfold qo;rw[f1,f2,f3,f4];simp only[Gby,Gai];lia
theorem wm{t:Tr}{g:Str×Int}(e1:w.orders[t.1.toNat]? =some o)(e2:w.aw[o.af.toNat]? =some s)(e3:w.aT[o.aa.toNat]? =some g):mF w ws gv t=qo ws gv o s g.2 t.1 t.2.1 t.2.2++fR w.orders ws gv o t.2.1 0 s.ax++gv.flatMap (nrT w.orders w.bN t.1 t.2.1):=by
 unfold mF;rw[e1];dsimp only;rw[e2,e3]
theorem KA(W:aH w)(hc:∀s∈w.aw,s.ax.length<=2)(hg:bY w.orders.length gv)(nd:(gvR gv).Nodup)(S:Snd w ws gv)(hl:gv.length<=9)(h1:ts.length<=1)(ht:bY w.orders.length ts)(p:gv'.Perm (gv++ts)):(gv'.flatMap (mF w ws' gv')).length<64:=by
 have none_:=(DZ W hg nd).mpr S;rw[(p.flatMap_right _).length_eq,List.flatMap_append,Gai];have len:gv'.length<=10:=by rw[p.length_eq,Gai];lia
 have old:∀t∈gv,(mF w ws' gv' t).length<=5:=λt h=>by
  obtain⟨o,s,g,e1,e2,e3,_⟩:=dE W (hg t h).1 (hg t h).2;have n1:=Gdr.mp none_ t h;rw[wm e1 e2 e3,GbV] at n1;have a1:=N0 (ws' :=ws') (gv' :=gv') e1 e2 e3 (S.ES t h);have a2:=md w.orders ws' gv' o t.2.1 0 s.ax;have a3:=hc s (GaE e2);have a4:(gv'.flatMap (nrT w.orders w.bN t.1 t.2.1)).length<=1:=by
   rw[(p.flatMap_right _).length_eq,List.flatMap_append,n1.2,Gby];have:=oE (f:=nrT w.orders w.bN t.1 t.2.1) (m:=1) ts λx _=>Lu W _ _ x;lia
  rw[wm e1 e2 e3,Gai,Gai];lia
 have new:∀t∈ts,(mF w ws' gv' t).length<=18:=λt h=>by
  obtain⟨o,s,g,e1,e2,e3,_⟩:=dE W (ht t h).1 (ht t h).2;have a1:=AQ ws' gv' o s g.2 t.1 t.2.1 t.2.2;have a2:=md w.orders ws' gv' o t.2.1 0 s.ax;have a3:=hc s (GaE e2);have a4:=oE (f:=nrT w.orders w.bN t.1 t.2.1) (m:=1) gv' λx _=>Lu W _ _ x;rw[wm e1 e2 e3,Gai,Gai];lia
 have s1:=oE gv old;have s2:=oE ts new;lia
def Rs(far x:Int):Prop:=far∣x\/far∣x -1
theorem KC{k:Int}(hk:0<=k)(xY:k<100000)(hf:far=1\/far=1000000)(hd:gR o.aV)(df:mh far o.aV):∃h:Int,fk [.scr ns,.int k,ah o,.int far]=some (.int h)/\Rs far h:=by
 have e0:=aG (ns:=ns) (k:=k) (by lia) (by lia);have e1:=aG (ns:=ns) (k:=k+1) (by lia) (by lia);have r1:=Lr ns (k+1);have f0:0<far:=by lia
 have f1:far<1073741824:=by lia
 have mf:∀j,aX far j=true:=λj=>bx (by lia) (by lia);unfold ah;generalize o.aV=u at*;cases u with
 |asked b=>
  refine⟨b+far*(mx ns k%40), ?_,.inl (Gcl df (Gbe ..))⟩;unfold fk jW fA;simp[e0,mf]
 |due b e m ea la=>
  obtain⟨_,_,⟨m1,m2⟩,a0,l0,_⟩:=hd;obtain⟨d1,d2,d3,d4,_⟩:=df;generalize mx ns (k+1)=by_ at*;have m0:0<m:=by lia
  have r0:=mxm ns k m m0;have mm:∀j,aX (mx ns k%m) j=true:=λj=>bx (by lia) (by lia);have p0:0<=(ea+la)/far:=Int.ediv_nonneg (by lia) (by lia);have p1:0<1+(ea+la)/far:=by lia
  have mb:∀j,aX (by_/7%2) j=true:=λj=>bx (by lia) (by lia);have dv:far∣b+mx ns k%m*e -ea+far*(by_%(1+(ea+la)/far))+far*(if by_%7=3 then 1 else 0):=Gcl (Gcl (Int.dvd_sub (Gcl d1 (Int.dvd_trans d2 (Int.dvd_mul_left ..))) d3) (Gbe ..)) (Gbe ..);have q2:by_/7%2=0\/by_/7%2=1:=by lia
  refine⟨if b+mx ns k%m*e -ea+far*(by_%(1+(ea+la)/far))+far*(if by_%7=3 then 1 else 0)+by_/7%2*(if far>1 then 1 else 0)<1000000000 then b+mx ns k%m*e -ea+far*(by_%(1+(ea+la)/far))+far*(if by_%7=3 then 1 else 0)+by_/7%2*(if far>1 then 1 else 0) else 1000000000, ?_, ?_⟩
  .unfold fk jW fA;simp[e0,e1,m0,mm,f0,f1,p1,mf,mb]
  .generalize b+mx ns k%m*e -ea+far*(by_%(1+(ea+la)/far))+far*(if by_%7=3 then 1 else 0)=X at*;have dX:Rs far (X+by_/7%2*(if far>1 then 1 else 0)):=by
    rcases q2 with q|q
    .rw[q,Int.zero_mul,Int.add_zero];exact .inl dv
    .rw[q,Int.one_mul];by_cases g:far>1
     .rw[Gah g];exact .inr (by rw[GdU];exact dv)
     .rw[Gag g,Int.add_zero];exact .inl dv
   generalize X+by_/7%2*(if far>1 then 1 else 0)=Y at*;split
   .exact dX
   .rcases hf with rfl|rfl
    .exact .inl (Int.one_dvd _)
    .exact .inl (by decide)
noncomputable def spD(t:Tr):D:= .tup [.int t.1,.int t.2.1]
theorem sG{l:List Tr}(hl:l.length<=1000):bX [.tup (l.map trD)]=some (.lst (l.map spD)):=by
 have h:=de (g:=gN 0) (f:=aS (a7 (ixE (vE 0) (kE (.int 0))) (a7 (ixE (vE 0) (kE (.int 1))) ae))) trD (λe=>∃x,e=[x]) spD l [none] ⟨none,rfl⟩ (by
  rintro t _ e ⟨x,rfl⟩;exact⟨_,rfl,⟨_,rfl⟩,.c,by simp[trD,spD,a9],rfl⟩)
 have i:aC (l.map spD)=true:=fc (λt=>by simp[spD]) l;have z:l.length<=16777216:=by lia
 have c0:DL.compEnv 1 [] [some (.sh (.tup (l.map trD)))]=[none]:=rfl;unfold bX lE;simp[h,z,a9,c0,i]
noncomputable def je(n h:Int)(l:List Tr):Bool:=l.any λt=>decide (t.1=n/\t.2.1=h)
theorem B0(n h:Int)(l:List Tr):inB (.tup [.int n,.int h]) (.lst (l.map spD))=some (je n h l):=by
 show mJ _ _=_;unfold mJ;have p1:(l.map spD).all (aD 10)=true:=by
  rw[Gbs,Gap];intro t _
  rfl
 have p2:aD 10 (.tup [.int n,.int h])=true:=rfl;rw[p1,p2];show some ((l.map spD).any λy=>eqD y (.tup [.int n,.int h]))=_;rw[GdO];unfold je;congr 2
 funext t
 show(decide (t.1=n)&&(decide (t.2.1=h)&&true))=_;rw[Bool.and_true,<-Bool.decide_and]
theorem FN{l:List Tr}:je n h l=false↔¬(h,n)∈gvR l:=by
 unfold je gvR;rw[Gcr];constructor
 .intro q m;obtain⟨t,ht,e⟩:=Gat.mp m;injection e with e1 e2
  exact q t ht (Gaz ⟨e2,e1⟩)
 .intro q t ht z;have:=Gao z;exact q (Gat.mpr ⟨t,ht,by rw[this.1,this.2]⟩)
noncomputable def laid(l:List Tr)(t:Tr):List Tr:=(d7 ((l++[t]).map trD)).map MJ
theorem cR(l:List Tr)(t:Tr):(laid l t).Perm (l++[t]):=by
 have:=GdA MJ (cW ((l++[t]).map trD));rw[GaU] at this;have e2:(l++[t]).map (MJ∘trD)=l++[t]:=by
  conv=>rhs;rw[<-Gda (l++[t])]
  exact GaT λp _=>rfl
 rw[e2] at this;exact this
theorem Iy(l:List Tr)(t:Tr):(laid l t).map trD=d7 ((l++[t]).map trD):=by
 unfold laid;rw[GaU]
 conv=>rhs;rw[<-Gda (d7 ((l++[t]).map trD))]
 apply GaT;intro x hx;obtain⟨p,_,rfl⟩:=Gat.mp ((cW _).mem_iff.mp hx)
 rfl
theorem E5{l:List Tr}{t:Tr}(hl:l.length<63):sortedS [.tup (l.map trD++[trD t])]=some ⟨.tn,.lst ((laid l t).map trD)⟩:=by
 have e:l.map trD++[trD t]=(l++[t]).map trD:=by rw[GaC];rfl
 rw[Iy,e];have h1:(((l++[t]).map trD).length<64):=by simp;lia
 unfold sortedS one kN;simp only[Option.bind_some];rw[Ko,Gaz h1];rfl
theorem B1{X:List D}(h:X.length<100000):gS (.tup X) (.tup [d])=some ⟨.c,.tup (X++[d])⟩:=by
 cases X with
 |nil=>rfl
 |cons x X=>
  show(if(x::X).length+1<=16777216/\0<(x::X).length then some (⟨.c,.tup ((x::X)++[d])⟩:RV) else none)=_;rw[Gah ⟨by lia,by simp⟩]
theorem uS{l:List Tr}{V:D}(hV:V.imm=true)(hl:l.length<63):cH [.tup [V,.tup (l.map trD)],.int n,.int h,.int a]=some (.tup [V,.tup ((laid l (n,h,a)).map trD)]):=by
 have e:=E5 (t:=(n,h,a)) hl;have y:=B1 (X:=l.map trD) (d:=trD (n,h,a)) (by rw[Gab];lia);have i:=cD (laid l (n,h,a));have et:trD (n,h,a)= .tup [.int n,.int h,.int a]:=rfl;rw[et] at e y;generalize (laid l (n,h,a)).map trD=R at*;generalize l.map trD=X at*;unfold cH nE;simp[y,e,a9,i,hV]
noncomputable def uT:DS:=
 (ifS (az eqB (opE aR (opE dw (ao a8 (a7 (vE 0) (a7 (vE 6) ae))) (kE (.int 8))) (kE (.int 3))) (kE (.int 0)))
  (ifS (az BN (aS (a7 (ixE (vE 8) (kE (.int 1))) (a7 (opE bD (opE dw (opE dw (vE 9) (vE 3)) (kE (.int 2))) (vE 3)) ae))) (ao bX (a7 (ixE (vE 4) (kE (.int 0))) ae)))
  (ai (ar 13 (aS (a7 (ixE (vE 8) (kE (.int 1))) (a7 (opE bD (opE dw (opE dw (vE 9) (vE 3)) (kE (.int 2))) (vE 3)) (a7 (opE gS (kE (.int 1)) (opE aR (ao a8 (a7 (vE 0) (a7 (opE gS (vE 6) (kE (.int 3))) ae))) (kE (.int 200)))) ae)))))
 (ar 12 (aS (a7 (bZ fg (a7 (bZ sortedS (a7 (opE gS (ixE (vE 4) (kE (.int 0))) (aS (a7 (vE 13) ae))) ae)) ae)) (a7 (ixE (vE 4) (kE (.int 1))) ae)))))
  aL)
  (ifS (az BN (aS (a7 (vE 7) (a7 (vE 9) ae))) (ao bX (a7 (ixE (vE 4) (kE (.int 1))) ae)))
  (ar 12 (ao cH (a7 (vE 4) (a7 (vE 7) (a7 (vE 9) (a7 (vE 11) ae))))))
  aL))
noncomputable def Iz:DS:=
 (ifS (az eqB (bZ dG (a7 (ao bB (a7 (vE 1) (a7 (vE 12) ae))) ae)) (kE (.int 0)))
  (ar 4 (vE 12))
  aL)
noncomputable def bkD(ws gv:List Tr):D:= .tup [.tup (ws.map trD),.tup (gv.map trD)]
structure oF(w:World)(i:Nat)(ws gv:List Tr):Prop where
 go:bY w.orders.length gv
 nd:(gvR gv).Nodup
 sn:Snd w ws gv
 wl:ws.length<=i
 gl:gv.length<=i
theorem oF.mono{j:Nat}(h:oF w i ws gv)(q:i<=j):oF w j ws gv:=⟨h.go,h.nd,h.sn,by have:=h.wl;lia,by have:=h.gl;lia⟩
theorem oG(i j:Int):gS (.int i) (.int j)=some ⟨.c,.int (i+j)⟩:=rfl
theorem uU(n h:Int)(l:List Tr):BN (.tup [.int n,.int h]) (.lst (l.map spD))=some (!je n h l):=by
 unfold BN;rw[B0]
 rfl
def Py(far n g h am:Int)(ws gv ws' gv' :List Tr):Prop:=(ws' =ws/\gv' =gv)\/(gv' =gv/\∃v,ws' =laid ws (g,h/far/2*far,v))\/(je n h gv=false/\ws' =ws/\gv' =laid gv (n,h,am))
structure BF(far:Int)(i:Nat)(ws gv:List Tr):Prop where
 sm:ws.length+gv.length<=i
 rg:∀u∈gv,Rs far u.2.1
 rw:∀v∈ws,far∣v.2.1
variable{x13:Os}
theorem N1{am:Int}(p1:ixD OD (.int 1)=some (.int g))(xN:0<=at_)(Ut:at_<10000)(hf:far=1\/far=1000000)(hw:ws.length<60)(hg:gv.length<60):
  ∃(ws' gv' :List Tr) (xR:Os),uT [some (.sh (.scr ns)),some (.sh wd),x2,some (.sh (.int far)),some (.sh (bkD ws gv)),some (.sh (.int j)),some (.sh (.int at_)),some (.sh (.int n)),some (.sh OD),some (.sh (.int h)),some (.sh (.int p)),some (.sh (.int am)),some (.sh (bkD ws gv)),x13]=
   some (.nx [some (.sh (.scr ns)),some (.sh wd),x2,some (.sh (.int far)),some (.sh (bkD ws gv)),some (.sh (.int j)),some (.sh (.int at_)),some (.sh (.int n)),some (.sh OD),some (.sh (.int h)),some (.sh (.int p)),some (.sh (.int am)),some (.sh (bkD ws' gv')),xR])/\Py far n g h am ws gv ws' gv' :=by
 have e0:=aG (ns:=ns) (k:=at_) (by lia) (by lia);have e3:=aG (ns:=ns) (k:=at_+3) (by lia) (by lia);have f0:0<far:=by lia
 have f1:far<1073741824:=by lia
 have mf:∀i,aX i far=true:=λi=>fb (by lia) (by lia);have sw:=sG (l:=ws) (by lia);have sg:=sG (l:=gv) (by lia);have b0:ixD (bkD ws gv) (.int 0)=some (.tup (ws.map trD)):=rfl;have b1:ixD (bkD ws gv) (.int 1)=some (.tup (gv.map trD)):=rfl;by_cases c1:mx ns at_/8%3=0
 .have hb:=uU g (h/far/2*far) ws;by_cases c2:je g (h/far/2*far) ws=true
  .refine⟨ws,gv,x13, ?_,.inl ⟨rfl,rfl⟩⟩;rw[c2] at hb;generalize ws.map spD=SW at*;generalize bkD ws gv=bk at*;generalize ws.map trD=WS at*;unfold uT;simp[e0,c1,p1,f0,f1,mf,b0,sw,hb,a9]
  .rw[Bool.not_eq_true] at c2;rw[c2] at hb;have ev:=E5 (l:=ws) (t:=(g,h/far/2*far,1+mx ns (at_+3)%200)) (by lia);have y:=B1 (X:=ws.map trD) (d:=trD (g,h/far/2*far,1+mx ns (at_+3)%200)) (by rw[Gab];lia);have et:trD (g,h/far/2*far,1+mx ns (at_+3)%200)= .tup [.int g,.int (h/far/2*far),.int (1+mx ns (at_+3)%200)]:=rfl;rw[et] at ev y;refine⟨laid ws (g,h/far/2*far,1+mx ns (at_+3)%200),gv,some (.sh (.tup [.int g,.int (h/far/2*far),.int (1+mx ns (at_+3)%200)])), ?_,.inr (.inl ⟨rfl,_,rfl⟩)⟩;have zD :bkD (laid ws (g,h/far/2*far,1+mx ns (at_+3)%200)) gv= .tup [.tup ((laid ws (g,h/far/2*far,1+mx ns (at_+3)%200)).map trD),.tup (gv.map trD)]:=rfl;rw[zD];generalize (laid ws (g,h/far/2*far,1+mx ns (at_+3)%200)).map trD=LW at*;generalize ws.map spD=SW at*;generalize bkD ws gv=bk at*;generalize ws.map trD=WS at*;generalize gv.map trD=GV at*;unfold uT;simp[e0,e3,c1,p1,f0,f1,mf,b0,b1,sw,hb,a9,oG,y,ev]
 .have hb:=uU n h gv;by_cases c2:je n h gv=true
  .refine⟨ws,gv,x13, ?_,.inl ⟨rfl,rfl⟩⟩;rw[c2] at hb;generalize gv.map spD=SW at*;generalize bkD ws gv=bk at*;generalize gv.map trD=WS at*;unfold uT;simp[e0,c1,b1,sg,hb,a9]
  .rw[Bool.not_eq_true] at c2;rw[c2] at hb;have ev:=uS (l:=gv) (n:=n) (h:=h) (a:=am) (V:= .tup (ws.map trD)) (by have:=cD ws;simpa using this) (by lia);refine⟨ws,laid gv (n,h,am),x13, ?_,.inr (.inr ⟨c2,rfl,rfl⟩)⟩;have UE :cH [bkD ws gv,.int n,.int h,.int am]=some (bkD ws (laid gv (n,h,am))):=ev;have rv:jM (bkD ws (laid gv (n,h,am)))=⟨.c,bkD ws (laid gv (n,h,am))⟩:=b7 (by
    have h1:=cD ws;have h2:=cD (laid gv (n,h,am));simp[bkD,h1,h2])
   generalize bkD ws (laid gv (n,h,am))=bk2 at*;generalize gv.map spD=SW at*;generalize bkD ws gv=bk at*;generalize gv.map trD=WS at*;unfold uT;simp[e0,c1,b1,sg,hb,a9,UE,rv]
theorem bY.perm{n:Nat}{a b:List Tr}(h:bY n a)(p:b.Perm a):bY n b:=λt ht=>h t (p.mem_iff.mp ht)
theorem bY.app{n:Nat}{a b:List Tr}(h:bY n a)(g:bY n b):bY n (a++b):=λt ht=>(GaF.mp ht).elim (h t) (g t)
theorem B2(W:aH w)(hc:∀s∈w.aw,s.ax.length<=2)(B:oF w 9 ws gv)(p:gv'.Perm (gv++ts))(h1:ts.length<=1)(ht:bY w.orders.length ts)(nd:(gvR gv').Nodup):∃R:List D,bB [aj w,bkD ws' gv']=some (.lst R)/\(R=[]↔Snd w ws' gv'):=by
 have Rr :bY w.orders.length gv' :=(B.go.app ht).perm p;have gl:=B.gl;have hl:gv'.length<64:=by rw[p.length_eq,Gai];lia
 obtain⟨R,e,q⟩:=qp W (ws:=ws') Rr hl (KA W hc B.go B.nd B.sn B.gl h1 ht p);exact⟨R,e,q.trans (DZ W Rr nd)⟩
theorem E9(nd:(gvR gv).Nodup)(q:je n h gv=false):(gvR (laid gv (n,h,a))).Nodup:=by
 have p:=(cR gv (n,h,a)).map λt:Tr=>(t.2.1,t.1)
 refine(List.Perm.nodup_iff p).mpr ?_;rw[GaC];refine Gdv.mpr ⟨nd,by simp,λx hx y hy z=> ?_⟩;have:y=(h,n):=by simpa using hy
 rw[this] at z;rw[z] at hx;exact FN.mp q hx
theorem IA(h0:0<=n)(h1:n<m):bY m [(n,h,a)]:=λt ht=>by
 rw[GaJ] at ht;rw[ht];exact⟨h0,h1⟩
theorem N2{x0:Os}{bk zD :D}{L:List D}(e:bB [wd,zD]=some (.lst L)):Iz [x0,some (.sh wd),x2,x3,some (.sh bk),x5,x6,x7,x8,x9,eM,h8,some (.sh zD),x13]=
   some (.nx [x0,some (.sh wd),x2,x3,some (.sh (if L=[] then zD else bk)),x5,x6,x7,x8,x9,eM,h8,some (.sh zD),x13]):=by
 unfold Iz;cases L with
 |nil=>simp[e]
 |cons a L=>
  have:¬((L.length:Int)+1=0):=by lia
  simp[e,this]
theorem N3{SD RD:D}{P:List D}{bk:D}{s c mo:Int}(xT:wd= .tup [.tup A,.tup B,.tup C,.tup O])(hj:aX 7 j=true)(xN:1000+7*j=at_)(hl:dG [.tup O]=some ⟨.c,.int lo⟩)(lp:0<lo)(e0:a8 [.scr ns,.int at_]=some (.int (mx ns at_)))(hn:mx ns at_%lo=n)(hO:atD O n=some OD)(hh:fk [.scr ns,.int (at_+1),OD,.int far]=some (.int h))(p2:ixD OD (.int 2)=some (.int s))(p3:ixD OD (.int 3)=some RD)(TK:ixD RD (.int 3)=some (.int mo))(hS:atD B s=some SD)(s1:ixD SD (.int 1)=some (.tup P))(Tz:atD P 0=some (.int p))(hp:0<p)(yx:p<1073741824)(Ue:mo/p=c)(hc:0<c)(yF:c<=12)(e4:a8 [.scr ns,.int (at_+4)]=some (.int (mx ns (at_+4)))):
  dW [some (.sh (.scr ns)),some (.sh wd),x2,some (.sh (.int far)),some (.sh bk),some (.sh (.int j)),x6,x7,x8,x9,eM,h8,x12,x13]=
   ai uT Iz [some (.sh (.scr ns)),some (.sh wd),x2,some (.sh (.int far)),some (.sh bk),some (.sh (.int j)),some (.sh (.int at_)),some (.sh (.int n)),some (.sh OD),some (.sh (.int h)),some (.sh (.int p)),some (.sh (.int (p*(1+mx ns (at_+4)%c)))),some (.sh bk),x13]:=by
 have w1:ixD wd (.int 1)=some (.tup B):=by rw[xT];rfl
 have w3:ixD wd (.int 3)=some (.tup O):=by rw[xT];rfl
 have r4:=mxm ns (at_+4) c hc;have mp:∀i,aX i (1+mx ns (at_+4)%c)=true:=λi=>fb (by lia) (by lia);clear xT;unfold dW;refine(ag (by simp[hj,oG,xN];rfl)).trans ?_;refine(ag (by simp[-qP,e0,w3,hl,lp,hn];rfl)).trans ?_;refine(ag (by simp[w3,hO];rfl)).trans ?_;refine(ag (by simp[oG,hh];rfl)).trans ?_;refine(ag (by simp[w1,p2,hS,s1,Tz];rfl)).trans ?_;refine(ag (by simp[oG,p3,TK,hp,yx,Ue,hc,e4,mp];rfl)).trans ?_;refine(ag (e:=[some (.sh (.scr ns)),some (.sh wd),x2,some (.sh (.int far)),some (.sh bk),some (.sh (.int j)),some (.sh (.int at_)),some (.sh (.int n)),some (.sh OD),some (.sh (.int h)),some (.sh (.int p)),some (.sh (.int (p*(1+mx ns (at_+4)%c)))),some (.sh bk),x13]) (by simp)).trans ?_
 rfl
theorem KD:dG [.tup ds]=some ⟨.c,.int (ds.length:Int)⟩:=rfl
theorem sI(W:aH w)(v:Int):∃(lo n:Int),dG [.tup (w.orders.map ah)]=some ⟨.c,.int lo⟩/\0<lo/\v%lo=n/\0<=n/\n<w.orders.length:=by
 have h:=W.o1;have e:((w.orders.map ah).length:Int)=(w.orders.length:Int):=by rw[Gab]
 refine⟨_,_,KD,by rw[e];lia,rfl, ?_, ?_⟩
 .rw[e];exact GbQ _ (by lia)
 .rw[e];exact GbI _ (by lia)
theorem KG(W:aH w)(hc:∀s∈w.aw,s.ax.length<=2)(hm:∀o∈w.orders,pD w.aw o)(hf:far=1\/far=1000000)(hi:i<9)(B:oF w i ws gv)(WF:jD far w)(Q:BF far i ws gv):
  ∃(ws' gv' :List Tr) (y6 y7 y8 y9 eO xh xJ xR:Os),oF w (i+1) ws' gv' /\BF far (i+1) ws' gv' /\dW [some (.sh (.scr ns)),some (.sh (aj w)),x2,some (.sh (.int far)),some (.sh (bkD ws gv)),some (.sh (.int (0+(i:Int)))),x6,x7,x8,x9,eM,h8,x12,x13]=
   some (.nx [some (.sh (.scr ns)),some (.sh (aj w)),x2,some (.sh (.int far)),some (.sh (bkD ws' gv')),some (.sh (.int (0+(i:Int)))),y6,y7,y8,y9,eO,xh,xJ,xR]):=by
 have hj0:0<=0+(i:Int):=by lia
 have Ro:0+(i:Int)<9:=by lia
 generalize 0+(i:Int)=j at*;have m7:aX 7 j=true:=bx (by lia) (by lia);obtain⟨at_,xN⟩:∃a,1000+7*j=a:=⟨_,rfl⟩
 have e0:=aG (ns:=ns) (k:=at_) (by lia) (by lia);have e4:=aG (ns:=ns) (k:=at_+4) (by lia) (by lia);obtain⟨lo,n,hl,lp,hn,n0,n1⟩:=sI W (mx ns at_);obtain⟨o,s,g,o1,o2,o3,so,_,oa,sa,_⟩:=dE W n0 n1;have ok:=W.oo o (GaE o1);obtain⟨s',c,q1,q2,q3,q4⟩:=hm o (GaE o1);rw[o2] at q1;cases q1;obtain⟨h,hh,hr⟩:=KC (ns:=ns) (k:=at_+1) (far:=far) (o:=o) (by lia) (by lia) hf ok.du (WF.o o (GaE o1));have pp:=so.p1;have pq:=so.p2;have dv:o.most/s.part=c:=by rw[q2];exact Int.mul_ediv_cancel_left _ (by lia)
 have pre:=N3 (ns:=ns) (wd:=aj w) (OD:=ah o) (SD:=au s) (bk:=bkD ws gv) (far:=far) (s:=o.af) (h:=h) (p:=s.part) (x2:=x2) (x6:=x6) (x7:=x7) (x8:=x8) (x9:=x9) (eM:=eM) (h8:=h8) (x12:=x12) (x13:=x13) rfl m7 xN hl lp e0 hn oa hh rfl rfl rfl sa rfl rfl (by lia) (by lia) dv (by lia) q4 e4;have wl:=B.wl;have gl:=B.gl;obtain⟨ws',gv',xR,f1,f3⟩:=N1 (ns:=ns) (wd:=aj w) (OD:=ah o) (ws:=ws) (gv:=gv) (far:=far) (j:=j) (at_:=at_) (n:=n) (g:=o.aa) (h:=h) (p:=s.part) (am:=s.part*(1+mx ns (at_+4)%c)) (x2:=x2) (x13:=x13) rfl (by lia) (by lia) hf (by lia) (by lia);obtain⟨ts,pt,tl,tg,Sw⟩:∃ts:List Tr,gv'.Perm (gv++ts)/\ts.length<=1/\bY w.orders.length ts/\(gvR gv').Nodup:=by
  rcases f3 with⟨_,rfl⟩| ⟨rfl,_⟩| ⟨c1,_,rfl⟩
  .exact⟨[],by rw[GaV],by simp,by intro t ht;simp at ht,B.nd⟩
  .exact⟨[],by rw[GaV],by simp,by intro t ht;simp at ht,B.nd⟩
  .exact⟨_,cR gv _,by simp,IA n0 n1,E9 B.nd c1⟩
 obtain⟨R,lr,rq⟩:=B2 W hc (ws' :=ws') (B.mono (by lia)) pt tl tg Sw;have fin:=N2 (x0:=some (.sh (.scr ns))) (x2:=x2) (x3:=some (.sh (.int far))) (x5:=some (.sh (.int j))) (x6:=some (.sh (.int at_))) (x7:=some (.sh (.int n))) (x8:=some (.sh (ah o))) (x9:=some (.sh (.int h))) (eM:=some (.sh (.int s.part))) (h8:=some (.sh (.int (s.part*(1+mx ns (at_+4)%c))))) (x13:=xR) (bk:=bkD ws gv) lr;have f2:ws'.length<=ws.length+1:=by
  rcases f3 with⟨rfl,_⟩| ⟨_,v,rfl⟩| ⟨_,rfl,_⟩
  .lia
  .rw[(cR _ _).length_eq];simp
  .lia
 have Q' :BF far (i+1) ws' gv' :=by
  have sm:=Q.sm;rcases f3 with⟨rfl,rfl⟩| ⟨rfl,v,rfl⟩| ⟨_,rfl,rfl⟩
  .exact⟨by lia,Q.rg,Q.rw⟩
  .refine⟨by rw[(cR _ _).length_eq];simp;lia,Q.rg,λx hx=> ?_⟩;rcases GaF.mp ((cR _ _).mem_iff.mp hx) with hx|hx
   .exact Q.rw x hx
   .rw[GaJ.mp hx];exact Int.dvd_mul_left ..
  .refine⟨by rw[(cR _ _).length_eq];simp;lia,λx hx=> ?_,Q.rw⟩;rcases GaF.mp ((cR _ _).mem_iff.mp hx) with hx|hx
   .exact Q.rg x hx
   .rw[GaJ.mp hx];exact hr
 by_cases z:R=[]
 .rw[Gah z] at fin;refine⟨ws',gv',_,_,_,_,_,_,_,_,⟨(B.go.app tg).perm pt,Sw,rq.mp z,by lia,by rw[pt.length_eq,Gai];lia⟩,Q',pre.trans ((ag f1).trans fin)⟩
 .rw[Gag z] at fin;refine⟨ws,gv,_,_,_,_,_,_,_,_,B.mono (by lia),⟨by have:=Q.sm;lia,Q.rg,Q.rw⟩,pre.trans ((ag f1).trans fin)⟩
theorem KH(w:World):Snd w [] []:=⟨λ_ h=>by simp at h,λ_ h=>by simp at h,List.Pairwise.nil,λ_ _=>by simp[jd]⟩
theorem KI(W:aH w)(hc:∀s∈w.aw,s.ax.length<=2)(hm:∀o∈w.orders,pD w.aw o)(hf:far=1\/far=1000000)(ef:cy [.scr ns]=some (.int far))(WF:jD far w):∃ws gv:List Tr,(oF w 6 ws gv/\BF far 6 ws gv)/\jZ [.scr ns,aj w,.int 6]=some (bkD ws gv):=by
 obtain⟨e,h1,ws,gv,y5,y6,y7,y8,y9,eO,xh,xJ,xR,rfl,B,Q⟩:=dI (g:=gN 5) (body:=dW) (λi env=>∃(ws gv:List Tr) (y5 y6 y7 y8 y9 eO xh xJ xR:Os),env=[some (.sh (.scr ns)),some (.sh (aj w)),some (.sh (.int 6)),some (.sh (.int far)),some (.sh (bkD ws gv)),y5,y6,y7,y8,y9,eO,xh,xJ,xR]/\oF w i ws gv/\BF far i ws gv) (aB 0 6) 0
  [some (.sh (.scr ns)),some (.sh (aj w)),some (.sh (.int 6)),some (.sh (.int far)),some (.sh (bkD [] [])),none,none,none,none,none,none,none,none,none] ⟨[],[],_,_,_,_,_,_,_,_,_,rfl,⟨λ_ h=>by simp at h,by simp[gvR],KH w,by simp,by simp⟩,⟨by simp,λ_ h=>by simp at h,λ_ h=>by simp at h⟩⟩ (by
   rintro i d env hd ⟨ws,gv,y5,y6,y7,y8,y9,eO,xh,xJ,xR,rfl,B,Q⟩;obtain⟨hi,rfl⟩:=aZ hd;rw[GaS] at B Q;obtain⟨ws',gv',z6,z7,z8,z9,yU,R6,Sm,To,B',Q',k1⟩:=KG (ns:=ns) (far:=far) (x2:=some (.sh (.int 6))) (x6:=y6) (x7:=y7) (x8:=y8) (x9:=y9) (eM:=eO) (h8:=xh) (x12:=xJ) (x13:=xR) W hc hm hf (by lia) B WF Q;exact⟨_,_,rfl,k1,ws',gv',_,z6,z7,z8,z9,yU,R6,Sm,To,rfl,by rw[GaS];exact B',by rw[GaS];exact Q'⟩)
 rw[cI,GaS] at B Q;refine⟨ws,gv,⟨B,Q⟩, ?_⟩;have s9:aP 6=true:=rfl;have im:(bkD ws gv).imm=true:=by
  have h1:=cD ws;have h2:=cD gv;simp[bkD,h1,h2]
 have b0:bkD [] []= .tup [.tup [],.tup []]:=rfl;rw[b0] at h1;generalize bkD ws gv=bk at*;generalize aj w=wd at*;refine b5 rfl ?_;unfold nF;refine(ag (by simp[ef];rfl)).trans ?_;refine(ag (by simp[a9];rfl)).trans ?_;refine(ag (by simp[-forL,s9,h1,freed];rfl)).trans ?_;simp[im]
abbrev Sp:=Int×Int
def Cov(S:List Sp)(t:Int):Prop:=∃p∈S,p.1<=t/\t<=p.2
theorem dq{t:Int}:¬Cov [] t:=λ⟨p,h,_⟩=>by cases h
theorem bp{p:Sp}{S:List Sp}{t:Int}:Cov (p::S) t↔(p.1<=t/\t<=p.2)\/Cov S t:=by
 unfold Cov;constructor
 .rintro⟨q,h,z⟩;rcases Gar.mp h with rfl|h
  .exact .inl z
  .exact .inr ⟨q,h,z⟩
 .rintro(z| ⟨q,h,z⟩)
  .exact⟨p,Gaf,z⟩
  .exact⟨q,Gac _ h,z⟩
theorem mq{S R:List Sp}{t:Int}:Cov (S++R) t↔Cov S t\/Cov R t:=by
 unfold Cov;constructor
 .rintro⟨q,h,z⟩;rcases GaF.mp h with h|h
  .exact .inl ⟨q,h,z⟩
  .exact .inr ⟨q,h,z⟩
 .rintro(⟨q,h,z⟩| ⟨q,h,z⟩)
  .exact⟨q,Gbr _ h,z⟩
  .exact⟨q,GaQ _ h,z⟩
theorem B3{S R:List Sp}(p:S.Perm R){t:Int}:Cov S t↔Cov R t:=by
 unfold Cov;constructor
 .rintro⟨q,h,z⟩;exact⟨q,p.mem_iff.mp h,z⟩
 .rintro⟨q,h,z⟩;exact⟨q,p.mem_iff.mpr h,z⟩
noncomputable def jE:List Sp->Int->Int
 |[],f=>f
 |p::S,f=>if f<p.1 then f else jE S (if f<=p.2 then p.2+1 else f)
theorem sJ:∀(S:List Sp) (f:Int),(S.Pairwise λa b=>a.1<=b.1)->f<=jE S f/\¬Cov S (jE S f)/\(∀t,f<=t->t<jE S f->Cov S t)/\(jE S f=f\/∃p∈S,jE S f=p.2+1)
 |[],f,_=> ⟨Gbp _,dq,λt h1 h2=>by unfold jE at h2;lia,.inl rfl⟩
 |p::S,f,h=>by
  rw[GaY] at h;unfold jE;by_cases c:f<p.1
  .rw[Gah c];refine⟨Gbp _,λ⟨q,hq,z⟩=> ?_,λt h1 h2=>by lia,.inl rfl⟩;rcases Gar.mp hq with rfl|hq
   .lia
   .have:=h.1 q hq;lia
  .rw[Gag c];by_cases c2:f<=p.2
   .rw[Gah c2];obtain⟨h1,h2,h3,h4⟩:=sJ S (p.2+1) h.2;refine⟨by lia,λz=> ?_,λt t1 t2=> ?_, ?_⟩
    .rcases bp.mp z with z|z
     .lia
     .exact h2 z
    .by_cases c3:t<=p.2
     .exact bp.mpr (.inl ⟨by lia,c3⟩)
     .exact bp.mpr (.inr (h3 t (by lia) t2))
    .rcases h4 with h4| ⟨q,hq,h4⟩
     .exact .inr ⟨p,Gaf,h4⟩
     .exact .inr ⟨q,Gac _ hq,h4⟩
   .rw[Gag c2];obtain⟨h1,h2,h3,h4⟩:=sJ S f h.2;refine⟨h1,λz=> ?_,λt t1 t2=>bp.mpr (.inr (h3 t t1 t2)), ?_⟩
    .rcases bp.mp z with z|z
     .lia
     .exact h2 z
    .rcases h4 with h4| ⟨q,hq,h4⟩
     .exact .inl h4
     .exact .inr ⟨q,Gac _ hq,h4⟩
def InS(b e ea la k t:Int):Prop:=b+k*e -ea<=t/\t<=b+k*e+la
noncomputable def jF(b e ea la:Int)(gvn:Int->Bool)(last:Int):Nat->Int->Int->List Sp
 |0,_,bg=>[(bg,last)]
 |r+1,k,bg=>(bg,b+k*e -ea -1)::((if gvn k then[(b+k*e -ea,b+k*e+la)] else[])++jF b e ea la gvn last r (k+1) (b+k*e+la+1))
theorem B4(k e:Int):(k+1)*e=k*e+e:=by rw[Int.add_mul,Int.one_mul]
theorem Ea{e ea la:Int}(e1:1<=e)(k:Int):∀d:Nat,b+k*e<=b+(k+d)*e:=λd=>by
 rw[Int.add_mul];have:0<=(d:Int)*e:=GcQ (by lia) (by lia);lia
theorem uV{b e ea la last:Int}{gvn:Int->Bool}(e1:1<=e)(a0:0<=ea)(l0:0<=la)(al:ea+la<e):∀(r:Nat) (k bg:Int),bg<=b+k*e -ea->∀p∈jF b e ea la gvn last r k bg,bg<=p.1
 |0,k,bg,_,p,hp=>by
  have:=GaJ.mp hp;rw[this];exact Gbp _
 |r+1,k,bg,hb,p,hp=>by
  unfold jF at hp;have st:=B4 k e;rcases Gar.mp hp with rfl|hp
  .exact Gbp _
  .rcases GaF.mp hp with hp|hp
   .split at hp
    .rw[GaJ.mp hp];exact hb
    .cases hp
   .have:=uV e1 a0 l0 al r (k+1) (b+k*e+la+1) (by lia) p hp;lia
theorem Eb{b e ea la last:Int}{gvn:Int->Bool}(e1:1<=e)(a0:0<=ea)(l0:0<=la)(al:ea+la<e){t:Int}(tl:t<=last):∀(r:Nat) (k bg:Int),bg<=t->(Cov (jF b e ea la gvn last r k bg) t↔(∀d:Nat,d<r->¬InS b e ea la (k+d) t)\/∃d:Nat,d<r/\InS b e ea la (k+d) t/\gvn (k+d)=true)
 |0,k,bg,h=>by
  unfold jF;rw[bp];constructor
  .intro _;exact .inl λd hd=>by lia
  .intro _;exact .inl ⟨h,tl⟩
 |r+1,k,bg,h=>by
  have st:=B4 k e;have up:∀d:Nat,b+k*e<=b+(k+d)*e:=λd=>Ea (ea:=ea) (la:=la) e1 k d;have up1:∀d:Nat,b+k*e+e<=b+(k+1+d)*e:=λd=>by
   have:=Ea (b:=b) (ea:=ea) (la:=la) e1 (k+1) d;lia
  have sh:∀d:Nat,k+1+(d:Int)=k+((d+1:Nat):Int):=λd=>by lia
  unfold jF;rw[bp,mq];by_cases c1:t<b+k*e -ea
  .constructor
   .intro _;refine .inl λd _ z=> ?_;have:=up d;unfold InS at z;lia
   .intro _;exact .inl ⟨h,by lia⟩
  .by_cases c2:t<=b+k*e+la
   .have SE:InS b e ea la (k+((0:Nat):Int)) t:=by
     have e0:k+((0:Nat):Int)=k:=by simp
     rw[e0];exact⟨by lia,c2⟩
    have only:∀d:Nat,InS b e ea la (k+d) t->d=0:=λd z=>by
     cases d with
     |zero=>rfl
     |succ d=>
      have:=up1 d;rw[sh d] at this;unfold InS at z;lia
    have nr:¬Cov (jF b e ea la gvn last r (k+1) (b+k*e+la+1)) t:=λ⟨p,hp,z⟩=>by
     have:=uV e1 a0 l0 al r (k+1) (b+k*e+la+1) (by lia) p hp;lia
    constructor
    .rintro(z|z|z)
     .simp only at z;lia
     .split at z
      .rename_i g;exact .inr ⟨0,by lia,SE,by rw[show k+((0:Nat):Int)=k by simp];exact g⟩
      .exact absurd z dq
     .exact absurd z nr
    .rintro(z| ⟨d,_,z1,z2⟩)
     .exact absurd SE (z 0 (by lia))
     .have:=only d z1;subst this;have e0:k+((0:Nat):Int)=k:=by simp
      rw[e0] at z2;rw[Gah z2];exact .inr (.inl (bp.mpr (.inl ⟨by lia,c2⟩)))
   .have ih:=Eb (b:=b) (last:=last) (gvn:=gvn) e1 a0 l0 al tl r (k+1) (b+k*e+la+1) (by lia);have n0:¬InS b e ea la (k+((0:Nat):Int)) t:=by
     have e0:k+((0:Nat):Int)=k:=by simp
     rw[e0];unfold InS;lia
    rw[ih];constructor
    .rintro(z|z|z| ⟨d,z1,z2,z3⟩)
     .simp only at z;lia
     .split at z
      .rcases bp.mp z with z|z
       .simp only at z;lia
       .exact absurd z dq
      .exact absurd z dq
     .refine .inl λd hd=> ?_;cases d with
      |zero=>exact n0
      |succ d=>rw[<-sh d];exact z d (by lia)
     .exact .inr ⟨d+1,by lia,by rw[<-sh d];exact z2,by rw[<-sh d];exact z3⟩
    .rintro(z| ⟨d,z1,z2,z3⟩)
     .exact .inr (.inr (.inl λd hd=>by rw[sh d];exact z (d+1) (by lia)))
     .cases d with
      |zero=>exact absurd z2 n0
      |succ d=>exact .inr (.inr (.inr ⟨d,by lia,by rw[sh d];exact z2,by rw[sh d];exact z3⟩))
noncomputable def iQ(sh:Int->Bool)(bg:Int->Int)(last:Int):List Int->List Sp
 |[]=>[]
 |[x]=>if sh x then[(bg x,last)] else[]
 |x::u::R=>(if sh x then[(bg x,u -1)] else[])++iQ sh bg last (u::R)
theorem Ec{sh:Int->Bool}{bg:Int->Int}{last t:Int}(tl:t<=last):∀R:List Int,(R.Pairwise λa b=>a<b)->(Cov (iQ sh bg last R) t↔∃x∈R,sh x=true/\bg x<=t/\∀y∈R,x<y->t<y)
 |[],_=>by
  unfold iQ;constructor
  .intro z;exact absurd z dq
  .rintro⟨x,h,_⟩;cases h
 |[x],_=>by
  unfold iQ;constructor
  .intro z;split at z
   .rename_i s;rcases bp.mp z with z|z
    .exact⟨x,Gaf,s,z.1,λy hy q=>by rw[GaJ.mp hy] at q;lia⟩
    .exact absurd z dq
   .exact absurd z dq
  .rintro⟨y,hy,s,b,_⟩;rw[GaJ.mp hy] at s b;rw[Gah s];exact bp.mpr (.inl ⟨b,tl⟩)
 |x::u::R,h=>by
  rw[GaY] at h;have ih:=Ec (sh:=sh) (bg:=bg) tl (u::R) h.2;have xu:=h.1 u Gaf;have lo:∀y∈u::R,u<=y:=λy hy=>by
   rcases Gar.mp hy with rfl|hy
   .exact Gbp _
   .have:=(GaY.mp h.2).1 y hy;lia
  unfold iQ;rw[mq,ih];constructor
  .rintro(z| ⟨y,hy,s,b,q⟩)
   .split at z
    .rename_i s;rcases bp.mp z with z|z
     .refine⟨x,Gaf,s,z.1,λy hy q=> ?_⟩;rcases Gar.mp hy with rfl|hy
      .lia
      .have:=lo y hy;simp only at z;lia
     .exact absurd z dq
    .exact absurd z dq
   .refine⟨y,Gac _ hy,s,b,λv hv z=> ?_⟩;rcases Gar.mp hv with rfl|hv
    .have:=h.1 y hy;lia
    .exact q v hv z
  .rintro⟨y,hy,s,b,q⟩;rcases Gar.mp hy with e|hy
   .rw[e] at s b q;rw[Gah s];have:=q u (Gac _ Gaf) xu;exact .inl (bp.mpr (.inl ⟨b,by show t<=u -1;lia⟩))
   .exact .inr ⟨y,hy,s,b,λv hv z=>q v (Gac _ hv) z⟩
theorem Ed{t:Int}:∀{R:List Int},(R.Pairwise λa b=>a<b)->(∃x∈R,x<=t)->∃x∈R,x<=t/\∀y∈R,x<y->t<y
 |[],_,⟨x,h,_⟩=>by cases h
 |r::R,h,⟨x,hx,le⟩=>by
  rw[GaY] at h;by_cases c:∃y∈R,y<=t
  .obtain⟨y,hy,l1,l2⟩:=Ed h.2 c;refine⟨y,Gac _ hy,l1,λv hv z=> ?_⟩;rcases Gar.mp hv with rfl|hv
   .have:=h.1 y hy;lia
   .exact l2 v hv z
  .have none_:∀y∈R,t<y:=λy hy=>by
    by_cases q:y<=t
    .exact absurd ⟨y,hy,q⟩ c
    .lia
   rcases Gar.mp hx with e|hx
   .rw[e] at le;refine⟨r,Gaf,le,λv hv z=> ?_⟩;rcases Gar.mp hv with e2|hv
    .lia
    .exact none_ v hv
   .exact absurd ⟨x,hx,le⟩ c
variable{last:Int}
theorem FP{sh mk:Int->Bool}{bg:Int->Int}{win:Int->Prop}{t:Int}{R:List Int}(tl:t<=last)(pw:R.Pairwise λa b=>a<b)(hh:∃x∈R,x<=t)(cst:∀x∈R,x<=t->(∀y∈R,x<y->t<y)->sh x=sh t)(Tf:∀x∈R,mk x=false->bg x=x)(Th:∀x∈R,mk x=true->(bg x<=t↔win x))(UM:∀x∈R,mk x=true->x<=t->bg x<=t):
  Cov (iQ sh bg last R) t↔sh t=true\/∃x∈R,mk x=true/\t<=x/\win x/\sh x=true:=by
 rw[Ec tl R pw];constructor
 .rintro⟨x,hx,s,b,q⟩;by_cases c:x<=t
  .exact .inl (by rw[<-cst x hx c q];exact s)
  .cases m:mk x with
   |false=>rw[Tf x hx m] at b;lia
   |true=>exact .inr ⟨x,hx,m,by lia,(Th x hx m).mp b,s⟩
 .rintro(s| ⟨x,hx,m,le,wn,s⟩)
  .obtain⟨x,hx,l1,l2⟩:=Ed pw hh;refine⟨x,hx,by rw[cst x hx l1 l2];exact s, ?_,l2⟩;cases m:mk x with
   |false=>rw[Tf x hx m];exact l1
   |true=>exact UM x hx m l1
  .exact⟨x,hx,s,(Th x hx m).mpr wn,λy hy z=>by lia⟩
noncomputable def mG:Cap->Option Int
 | .flat H _=>some H
 | .kilo H _ _=>some H
 | .ever _=>none
theorem jG(c:Cap)(h p:Int):cU c h p=true↔p<=h/\∀H,mG c=some H->h -H<p:=by
 cases c with
 |flat H t=>
  unfold cU mG;rw[Gan,GaM,GaM];exact⟨λz=> ⟨z.2,λ_ e=>by cases e;exact z.1⟩,λz=> ⟨z.2 H rfl,z.1⟩⟩
 |kilo H t q=>
  unfold cU mG;rw[Gan,GaM,GaM];exact⟨λz=> ⟨z.2,λ_ e=>by cases e;exact z.1⟩,λz=> ⟨z.2 H rfl,z.1⟩⟩
 |ever t=>
  unfold cU mG;rw[GaM];exact⟨λz=> ⟨z,λ_ e=>by cases e⟩,λz=>z.1⟩
theorem B5{t:Int}(h:∀p∈ms,cU c x p.1=cU c t p.1):b4 c ms x=b4 c ms t:=by
 unfold b4;congr 1;exact GaT λp hp=>by rw[h p hp]
theorem B6{g x t:Int}:∀(ws:List Tr) (f:Option Int),(∀v∈ws,v.1=g->(v.2.1<=x↔v.2.1<=t))->wgt g x ws f=wgt g t ws f
 |[],f,_=>rfl
 |v::ws,f,h=>by
  unfold wgt;have e:(v.1=g/\v.2.1<=x)↔(v.1=g/\v.2.1<=t):=⟨λz=> ⟨z.1,(h v Gaf z.1).mp z.2⟩,λz=> ⟨z.1,(h v Gaf z.1).mpr z.2⟩⟩
  have e2:(if v.1=g/\v.2.1<=x then some v.2.2 else f)=if v.1=g/\v.2.1<=t then some v.2.2 else f:=by
   by_cases q:v.1=g/\v.2.1<=x
   .rw[Gah q,Gah (e.mp q)]
   .rw[Gag q,Gag λz=>q (e.mpr z)]
  rw[e2];exact B6 ws _ λu hu=>h u (Gac _ hu)
noncomputable def cK(ws:List Tr)(c:Cap)(g:Int)(ms:List (Int×Int))(a t:Int):Bool:=match bW c (wgt g t ws none) with
 |some top=>decide (top<b4 c ms t+a)
 |none=>false
noncomputable def steps(c:Cap)(ms:List (Int×Int))(ws:List Tr)(g h:Int):List Int:=h::((ws.filter λv=>decide (v.1=g)).map (·.2.1)++match mG c with
 |some H=>ms.map λp=>p.1+H
 |none=>[])
theorem Cz{t:Int}{R:List Int}(hR:∀y,y∈R↔y∈ms.map (·.1)\/y∈steps c ms ws g h)(le:x<=t)(no:∀y∈R,x<y->t<y):cK ws c g ms a x=cK ws c g ms a t:=by
 have iff:∀y∈R,(y<=x↔y<=t):=λy hy=> ⟨λz=>by lia,λz=>by
  by_cases q:x<y
  .have:=no y hy q;lia
  .lia⟩
 have e1:wgt g x ws none=wgt g t ws none:=B6 ws none λv hv ev=>iff v.2.1 ((hR _).mpr (.inr (Gac _ (Gbr _ (Gat.mpr ⟨v,GaO.mpr ⟨hv,Gaz ev⟩,rfl⟩)))));have e2:b4 c ms x=b4 c ms t:=B5 λp hp=>by
  have m1:=iff p.1 ((hR _).mpr (.inl (Gat.mpr ⟨p,hp,rfl⟩)));rw[GdL,jG,jG];constructor
  .rintro⟨z1,z2⟩;refine⟨m1.mp z1,λH e=> ?_⟩;have m2:=iff (p.1+H) ((hR _).mpr (.inr (Gac _ (GaQ _ (by rw[e];exact Gat.mpr ⟨p,hp,rfl⟩)))));have:=z2 H e;lia
  .rintro⟨z1,z2⟩;refine⟨m1.mpr z1,λH e=> ?_⟩;have m2:=iff (p.1+H) ((hR _).mpr (.inr (Gac _ (GaQ _ (by rw[e];exact Gat.mpr ⟨p,hp,rfl⟩)))));have:=z2 H e;lia
 unfold cK;rw[e1,e2]
noncomputable def bgC(c:Cap)(ms:List (Int×Int))(h x:Int):Int:=if(ms.map (·.1)).contains x then(match mG c with
 |some H=>x -H+1
 |none=>h) else x
theorem B7{t:Int}{R:List Int}(ok:jz c)(ht:h<=t)(tl:t<=last)(pw:R.Pairwise λa b=>a<b)(hR:∀y,y∈R↔y∈ms.map (·.1)\/y∈steps c ms ws g h):
  Cov (iQ (cK ws c g ms a) (bgC c ms h) last R) t↔cK ws c g ms a t=true\/∃p∈ms,cU c p.1 t=true/\cK ws c g ms a p.1=true:=by
 have h1:∀H,mG c=some H->1<=H:=λH e=>by
  cases c with
  |flat H' t=>cases e;exact ok.1
  |kilo H' t q=>cases e;exact ok.1
  |ever t=>cases e
 have S6:h∈R:=(hR h).mpr (.inr Gaf);rw[FP (mk:=λx=>(ms.map (·.1)).contains x) (win:=λx=>∀H,mG c=some H->x -H<t) tl pw ⟨h,S6,ht⟩ (λx hx le no=>Cz hR le no)]
 .constructor
  .rintro(z| ⟨x,hx,m,le,wn,s⟩)
   .exact .inl z
   .obtain⟨p,hp,e⟩:=Gat.mp (GdF.mp m);refine .inr ⟨p,hp,(jG ..).mpr ?_, ?_⟩
    .rw[e];exact⟨le,wn⟩
    .rw[e];exact s
  .rintro(z| ⟨p,hp,z,s⟩)
   .exact .inl z
   .have q:=(jG ..).mp z;have m:p.1∈ms.map (·.1):=Gat.mpr ⟨p,hp,rfl⟩;exact .inr ⟨p.1,(hR _).mpr (.inl m),GdF.mpr m,q.1,q.2,s⟩
 .intro x _ m;unfold bgC;rw[m]
  rfl
 .intro x _ m;unfold bgC;rw[m,Gah rfl];cases e:mG c with
  |none=>exact⟨λ_ H z=>(by cases z),λ_=>ht⟩
  |some H=>
   show x -H+1<=t↔_;exact⟨λz H' e' =>(by cases e';lia),λz=>(by have:=z H rfl;lia)⟩
 .intro x _ m le;unfold bgC;rw[m,Gah rfl];cases e:mG c with
  |none=>exact ht
  |some H=>have:=h1 H e;show x -H+1<=t;lia
theorem CA{s k:Int}:lJ ws c g s k (h,T)=[]↔∀top,bW c (wgt g h ws none)=some top->T<=top:=by
 unfold lJ;dsimp only;split
 .rename_i top e;constructor
  .intro z top' e';cases e.symm.trans e';split at z
   .cases z
   .lia
  .intro z;rw[Gag (by have:=z top e;lia)]
 .rename_i e;constructor
  .intro _ top' e';rw[e] at e';cases e'
  .intro _;rfl
theorem uW{os:List Order}{ws gv:List Tr}{o:Order}{h:Int}:∀(cs:List Cap) (k:Nat),fR os ws gv o h k cs=[]↔∀c∈cs,∀top,bW c (wgt o.aa h ws none)=some top->bL os c (o.aa,o.af) h gv<=top
 |[],k=>by
  unfold fR;exact⟨λ_ c hc=>(by cases hc),λ_=>rfl⟩
 |c::cs,k=>by
  unfold fR;rw[GbV,CA,uW cs (k+1)];constructor
  .rintro⟨h1,h2⟩ d hd;rcases Gar.mp hd with rfl|hd
   .exact h1
   .exact h2 d hd
  .intro z;exact⟨z c Gaf,λd hd=>z d (Gac _ hd)⟩
theorem iR(os:List Order)(c:Cap)(k:Int×Int)(h:Int)(r:Tr):∀gv:List Tr,bL os c k h (gv++[r])=bL os c k h gv+(if decide (tk os r=k)&&cU c h r.2.1 then r.2.2 else 0)
 |[]=>by simp[bL]
 |t::gv=>by
  have ih:=iR os c k h r gv;rw[List.cons_append];unfold bL;rw[ih];lia
theorem k9{t:Int}:cK ws c g ms a t=false↔∀top,bW c (wgt g t ws none)=some top->b4 c ms t+a<=top:=by
 unfold cK;split
 .rename_i top e;rw[decide_eq_false_iff_not];constructor
  .intro z top' e';cases e.symm.trans e';lia
  .intro z;have:=z top e;lia
 .rename_i e;constructor
  .intro _ top' e';rw[e] at e';cases e'
  .intro _;rfl
theorem sL(ok:jz c)(t:Int):cU c t t=true:=by
 rw[jG];refine⟨Gbp _,λH e=> ?_⟩;cases c with
 |flat H' _=>cases e;have:=ok.1;lia
 |kilo H' _ _=>cases e;have:=ok.1;lia
 |ever _=>cases e
noncomputable def aA(w:World)(gv:List Tr)(k:Int×Int):List (Int×Int):=(gv.filter λt=>decide (tk w.orders t=k)).map λt=>(t.2.1,t.2.2)
theorem Ee{t:Tr}(e:w.orders[t.1.toNat]? =some o):tk w.orders t=(o.aa,o.af):=by
 unfold tk;rw[e]
theorem Ef(W:aH w)(hg:bY w.orders.length gv)(S:Snd w ws gv){t:Int}(n0:0<=n)(n1:n<w.orders.length)(e1:w.orders[n.toNat]? =some o)(e2:w.aw[o.af.toNat]? =some s)(so:cC s):
  Snd w ws (gv++[(n,t,a)])↔pY w ws (n,t,a)=[]/\(∀u∈gv,u.1=n->∀k,cJ o.aV t=some k->cJ o.aV u.2.1≠some k)/\(∀u∈gv,Apart w (u.2.1,u.1) (t,n))/\∀c∈s.ax,cK ws c o.aa (aA w gv (o.aa,o.af)) a t=false/\∀p∈aA w gv (o.aa,o.af),cU c p.1 t=true->cK ws c o.aa (aA w gv (o.aa,o.af)) a p.1=false:=by
 have er:w.orders[((n,t,a):Tr).1.toNat]? =some o:=e1;have tr:tk w.orders (n,t,a)=(o.aa,o.af):=Ee er;have sum:∀c h,bL w.orders c (o.aa,o.af) h gv=b4 c (aA w gv (o.aa,o.af)) h:=λc h=>sA ..;have ov:∀(gv' :List Tr) (u:Tr) (ou:Order),w.orders[u.1.toNat]? =some ou->(ovT w ws gv' u=[]↔∀c∈(w.aw[ou.af.toNat]?.map (·.ax)).getD [],∀top,bW c (wgt ou.aa u.2.1 ws none)=some top->bL w.orders c (ou.aa,ou.af) u.2.1 gv' <=top):=λgv' u ou eu=>by
  unfold ovT;rw[eu];exact uW _ 0
 have ax:(w.aw[o.af.toNat]?.map (·.ax)).getD []=s.ax:=by rw[e2];rfl
 have atg:∀u∈gv,∃ou,w.orders[u.1.toNat]? =some ou:=λu hu=>by
  obtain⟨ou,_,_,q,_⟩:=dE W (hg u hu).1 (hg u hu).2;exact⟨ou,q⟩
 have key:∀{u:Tr} {ou:Order},w.orders[u.1.toNat]? =some ou->tk w.orders u=(o.aa,o.af)->ou.aa=o.aa/\ou.af=o.af:=λ{u ou} eu ek=>by
  rw[Ee eu] at ek;injection ek with k1 k2
  exact⟨k1,k2⟩
 constructor
 .intro S';have mr:((n,t,a):Tr)∈gv++[(n,t,a)]:=GaQ _ (GaJ.mpr rfl);refine⟨S'.ES _ mr,λu hu eu k dk du=> ?_,λu hu=> ?_,λc hc=> ⟨?_,λp hp ip=> ?_⟩⟩
  .have c1:=S'.cnt n k;rw[gD] at c1;have hh:oA w.orders n k (n,t,a)=true:=by
    unfold oA we;rw[er];simp[dk]
   rw[Gah hh] at c1;have:0<jd w.orders gv n k:=by
    unfold jd;refine List.length_pos_of_mem (a:=u) (GaO.mpr ⟨hu, ?_⟩);unfold oA we;rw[eu,e1];simp[du]
   lia
  .have g:=S'.gap;unfold gvR at g;rw[GaC,List.pairwise_append] at g;exact g.2.2 (u.2.1,u.1) (Gat.mpr ⟨u,hu,rfl⟩) (t,n) (by simp)
  .rw[k9];intro top et;have z:=(ov _ _ o er).mp (S'.over _ mr) c (by rw[ax];exact hc) top et;rw[iR,tr,sum] at z;have i:=sL (so.ok c hc) t;simp only[Gdy,GdB,i,GbK] at z;exact z
  .rw[k9];intro top et;unfold aA at hp;obtain⟨u,hu,rfl⟩:=Gat.mp hp;have q:=GaO.mp hu;have ek:=Gao q.2;obtain⟨ou,eu⟩:=atg u q.1;obtain⟨k1,k2⟩:=key eu ek;have z:=(ov _ u ou eu).mp (S'.over u (Gbr _ q.1)) c (by rw[k2,ax];exact hc) top (by rw[k1];exact et);rw[k1,k2,iR,tr,sum] at z;simp only[Gdy,GdB,ip,GbK] at z;exact z
 .rintro⟨L,C,G,O⟩;refine⟨λu hu=> ?_,λu hu=> ?_, ?_,λo' k=> ?_⟩
  .rcases GaF.mp hu with hu|hu
   .exact S.ES u hu
   .rw[GaJ.mp hu];exact L
  .rcases GaF.mp hu with hu|hu
   .obtain⟨ou,eu⟩:=atg u hu;rw[ov _ u ou eu];intro c hc top et;have old:=(ov _ u ou eu).mp (S.over u hu) c hc top et;rw[iR,tr];by_cases ek:(o.aa,o.af)=(ou.aa,ou.af)
    .injection ek with k1 k2
     rw[<-k2,ax] at hc;cases ip:cU c u.2.1 t with
     |false=>simp only[Gcf,Gbb,GbW];lia
     |true=>
      have ekk:tk w.orders u=(o.aa,o.af):=by rw[Ee eu,k1,k2]
      have mp:(u.2.1,u.2.2)∈aA w gv (o.aa,o.af):=Gat.mpr ⟨u,GaO.mpr ⟨hu,Gaz ekk⟩,rfl⟩;have z:=k9.mp ((O c hc).2 _ mp ip) top (by rw[k1];exact et);rw[<-sum] at z;rw[<-k1,<-k2];simp only[Gdy,GdB,GbK];exact z
    .rw[Gax ek];simp only[GdR,Gbb,GbW];lia
   .rw[GaJ.mp hu,ov _ _ o er,ax];intro c hc top et;have z:=k9.mp (O c hc).1 top et;rw[iR,tr,sum];have i:=sL (so.ok c hc) t;simp only[Gdy,GdB,i,GbK];exact z
  .have g:=S.gap;unfold gvR at g⊢;rw[GaC,List.pairwise_append];refine⟨g,by simp,λx hx y hy=> ?_⟩;obtain⟨u,hu,rfl⟩:=Gat.mp hx;have:y=(t,n):=by simpa using hy
   rw[this];exact G u hu
  .rw[gD];have old:=S.cnt o' k;split
   .rename_i q;unfold oA at q;rw[Gan] at q;have q1:n=o' :=Gao q.1;have q2:=Gao q.2;unfold we at q2;rw[er] at q2;have q3:cJ o.aV t=some k:=q2;have z:jd w.orders gv o' k=0:=by
     unfold jd;rw[GaW];refine List.eq_nil_iff_forall_not_mem.mpr λu hu=> ?_;have h1:=GaO.mp hu;have h2:=h1.2;unfold oA at h2;rw[Gan] at h2;have h3:=Gao h2.1;have h4:=Gao h2.2;unfold we at h4;rw[h3,<-q1,e1] at h4;exact C u h1.1 (h3.trans q1.symm) k q3 h4
    lia
   .lia
theorem IB{e m k:Int}(e1:1<=e)(a0:0<=ea)(l0:0<=la)(al:ea+la<e):ox b e m ea la h=some k↔(0<=k/\k<m)/\b+k*e -ea<=h/\h<=b+k*e+la:=by
 rw[DN e1 a0 l0 al];unfold ox;constructor
 .intro q;split at q
  .rename_i c;cases q;exact⟨c.1,rfl,c.2⟩
  .cases q
 .rintro⟨c1,c2,c3⟩;rw[c2,Gah ⟨c1,c3⟩]
noncomputable def btw(a b x:Int):Bool:=decide (a<=x)&&decide (x<=b)
noncomputable def gV(a b:Int)(hs:List Int):Bool:=(hs.map (btw a b)).any id
variable{hs:List Int}
theorem Eg:gV a b hs=true↔∃x∈hs,a<=x/\x<=b:=by
 unfold gV;rw[GdO,GbG];constructor
 .rintro⟨x,hx,z⟩;have z' :btw a b x=true:=z;unfold btw at z';rw[Gan,GaM,GaM] at z';exact⟨x,hx,z'⟩
 .rintro⟨x,hx,z⟩;refine⟨x,hx, ?_⟩;show btw a b x=true;unfold btw;rw[Gan,GaM,GaM];exact z
noncomputable def bq(gv:List Tr)(n:Int):List Int:=(gv.filter λt=>decide (t.1=n)).map (·.2.1)
theorem mw:x∈bq gv n↔∃u∈gv,u.1=n/\u.2.1=x:=by
 unfold bq;rw[Gat];constructor
 .rintro⟨u,hu,e⟩;have q:=GaO.mp hu;exact⟨u,q.1,Gao q.2,e⟩
 .rintro⟨u,hu,e1,e2⟩;exact⟨u,GaO.mpr ⟨hu,Gaz e1⟩,e2⟩
noncomputable def dJ(u:om)(hs:List Int)(h last:Int):List Sp:=match u with
 | .asked b=>[(h,b -1)]
 | .due b e m ea la=>jF b e ea la (λk=>gV (b+k*e -ea) (b+k*e+la) hs) last m.toNat 0 h
theorem FQ{u:om}(ok:gR u){t:Int}(ht:h<=t)(tl:t<=last):Cov (dJ u (bq gv n) h last) t↔dm u t=true\/∃v∈gv,v.1=n/\∃k,cJ u t=some k/\cJ u v.2.1=some k:=by
 cases u with
 |asked b=>
  unfold dJ dm;rw[bp,GaM];constructor
  .rintro(z|z)
   .simp only at z;exact .inl (by lia)
   .exact absurd z dq
  .rintro(z| ⟨v,_,_,k,z,_⟩)
   .exact .inl ⟨ht,by show t<=b -1;lia⟩
   .cases z
 |due b e m ea la=>
  obtain⟨r1,r2,⟨r3,r4⟩,r5,r6,r7,_⟩:=ok;unfold dJ;dsimp only;rw[Eb r1 r5 r6 r7 tl m.toNat 0 h ht];have as:dm (.due b e m ea la) t=(ox b e m ea la t).isNone:=rfl;rw[as];have nat:∀k:Int,(0<=k/\k<m)->∃d:Nat,d<m.toNat/\(0:Int)+d=k:=λk z=> ⟨k.toNat,by lia,by lia⟩;have du:∀(x k:Int),cJ (.due b e m ea la) x=some k↔(0<=k/\k<m)/\InS b e ea la k x:=λx k=>IB r1 r5 r6 r7;constructor
  .rintro(z| ⟨d,hd,z1,z2⟩)
   .left
    cases hk:ox b e m ea la t with
    |none=>rfl
    |some k=>
     have q:=(du t k).mp hk;obtain⟨d,hd,ed⟩:=nat k q.1;exact absurd (by rw[ed];exact q.2) (z d hd)
   .right
    obtain⟨x,hx,q⟩:=Eg.mp z2;obtain⟨v,hv,e1,e2⟩:=mw.mp hx;exact⟨v,hv,e1,0+d,(du t _).mpr ⟨by lia,z1⟩,(du _ _).mpr ⟨by lia,by rw[e2];exact q⟩⟩
  .rintro(z| ⟨v,hv,ev,k,z1,z2⟩)
   .left
    intro d hd q;have:=(du t (0+d)).mpr ⟨by lia,q⟩;have e' :ox b e m ea la t=some (0+(d:Int)):=this;rw[e'] at z;cases z
   .right
    have q1:=(du t k).mp z1;have q2:=(du _ k).mp z2;obtain⟨d,hd,ed⟩:=nat k q1.1;exact⟨d,hd,by rw[ed];exact q1.2,by rw[ed];exact Eg.mpr ⟨v.2.1,mw.mpr ⟨v,hv,ev,rfl⟩,q2.2⟩⟩
noncomputable def jf(bs:List Tr)(x y:Int):Int:=((bs.filter λb=>decide (b.1=(if y<x then y else x)/\b.2.1=(if y>x then y else x))).map (·.2.2)).sum
theorem N4{b:Tr}(le:b.1<=b.2.1):decide (b.1=(if y<x then y else x)/\b.2.1=(if y>x then y else x))=mt x y b:=by
 unfold mt;rw[decide_eq_decide];split<;>split<;>lia
theorem B8{x y:Int}:∀{bs:List Tr},(∀b∈bs,b.1<=b.2.1)->(bs.map tK).Nodup->((bs.filter (mt x y)).map (·.2.2)).sum=match bs.find? (mt x y) with
  |some b=>b.2.2
  |none=>0
 |[],_,_=>rfl
 |b::bs,le,nd=>by
  rw[GaA,GbO] at nd;cases m:mt x y b with
  |false=>
   rw[Gdq (by rw[m];exact Gal),GcI (by rw[m];exact Gal)];exact B8 (λc hc=>le c (Gac _ hc)) nd.2
  |true=>
   rw[Gdp m,GcH m];have e:bs.filter (mt x y)=[]:=List.filter_eq_nil_iff.mpr λc hc z=>by
    refine nd.1 (Gat.mpr ⟨c,hc, ?_⟩);have l1:=le b Gaf;have l2:=le c (Gac _ hc);unfold mt at m z;rw[GaM] at m z;unfold tK;exact Prod.ext (by lia) (by show c.2.1=b.2.1;lia)
   rw[e];simp
theorem FR(W:aH w)(x y:Int):jf w.bN x y=jc (w.bN.foldl dn []) x y:=by
 have le:∀b∈w.bN,b.1<=b.2.1:=λb hb=>(W.bo.1 b hb).2.1;rw[jC x y w.bN [] le W.bo.2];unfold jf;rw[List.filter_congr λb hb=>N4 (le b hb),B8 le W.bo.2]
 rfl
noncomputable def jH(w:World)(o:Order)(u:Tr):List Sp:=match w.orders[u.1.toNat]? with
 |some ou=>if ou.aa=o.aa then[(u.2.1 -jf w.bN o.af ou.af+1,u.2.1+jf w.bN o.af ou.af -1)] else[]
 |none=>[]
theorem FT(W:aH w)(hg:bY w.orders.length gv){t:Int}(e1:w.orders[n.toNat]? =some o):Cov (gv.flatMap (jH w o)) t↔∃u∈gv,¬Apart w (u.2.1,u.1) (t,n):=by
 have each:∀u∈gv,(Cov (jH w o u) t↔¬Apart w (u.2.1,u.1) (t,n)):=λu hu=>by
  obtain⟨ou,_,_,eu,_⟩:=dE W (hg u hu).1 (hg u hu).2;have ap:Apart w (u.2.1,u.1) (t,n)↔tL (w.bN.foldl dn []) ou o<=t -u.2.1\/tL (w.bN.foldl dn []) ou o<=u.2.1 -t:=by
   unfold Apart;constructor
   .intro z;exact z ou o eu e1
   .intro z a b ea eb;cases eu.symm.trans ea;cases e1.symm.trans eb;exact z
  rw[ap,AS W];unfold jH tL;rw[eu];dsimp only;rw[FR W];by_cases c:ou.aa=o.aa
  .rw[Gah c,Gah c.symm];generalize jc (w.bN.foldl dn []) o.af ou.af=G;constructor
   .intro z;rcases bp.mp z with z|z
    .simp only at z;lia
    .exact absurd z dq
   .intro z;exact bp.mpr (.inl ⟨by show u.2.1 -G+1<=t;lia,by show t<=u.2.1+G -1;lia⟩)
  .rw[Gag c,Gag λz=>c z.symm];constructor
   .intro z;exact absurd z dq
   .intro z;lia
 unfold Cov;constructor
 .rintro⟨p,hp,z⟩;obtain⟨u,hu,hp⟩:=GcX.mp hp;exact⟨u,hu,(each u hu).mp ⟨p,hp,z⟩⟩
 .rintro⟨u,hu,z⟩;obtain⟨p,hp,q⟩:=(each u hu).mpr z;exact⟨p,GcX.mpr ⟨u,hu,hp⟩,q⟩
theorem B9{g t:Int}:∀(ws:List Tr) (f:Option Int),wgt g t ws f=none↔f=none/\∀v∈ws,v.1=g->t<v.2.1
 |[],f=>by
  unfold wgt;exact⟨λz=> ⟨z,λv hv=>(by cases hv)⟩,λz=>z.1⟩
 |v::ws,f=>by
  unfold wgt;rw[B9 ws];constructor
  .rintro⟨z1,z2⟩;split at z1
   .cases z1
   .rename_i q;refine⟨z1,λu hu eu=> ?_⟩;rcases Gar.mp hu with rfl|hu
    .by_cases c:u.2.1<=t
     .exact absurd ⟨eu,c⟩ q
     .lia
    .exact z2 u hu eu
  .rintro⟨z1,z2⟩;refine⟨?_,λu hu eu=>z2 u (Gac _ hu) eu⟩;rw[Gag,z1];rintro⟨q1,q2⟩;have:=z2 v Gaf q1;lia
noncomputable def minD(d:Int):List Int->Int
 |[]=>d
 |x::xs=>kO x xs
theorem Eh{t:Int}:∀(xs:List Int) (x:Int),t<kO x xs↔t<x/\∀y∈xs,t<y
 |[],x=>by
  unfold kO;exact⟨λz=> ⟨z,λy hy=>(by cases hy)⟩,λz=>z.1⟩
 |y::ys,x=>by
  have ih:=Eh (t:=t) ys (if y<x then y else x);have e:kO x (y::ys)=kO (if y<x then y else x) ys:=rfl;rw[e,ih];constructor
  .rintro⟨z1,z2⟩;refine⟨by split at z1<;>lia,λu hu=> ?_⟩;rcases Gar.mp hu with rfl|hu
   .split at z1<;>lia
   .exact z2 u hu
  .rintro⟨z1,z2⟩;have:=z2 y Gaf;exact⟨by split<;>lia,λu hu=>z2 u (Gac _ hu)⟩
theorem KJ{t d:Int}(h:t<d)(xs:List Int):t<minD d xs↔∀y∈xs,t<y:=by
 cases xs with
 |nil=>exact⟨λ_ y hy=>(by cases hy),λ_=>h⟩
 |cons x xs=>
  show t<kO x xs↔_;rw[Eh];constructor
  .rintro⟨z1,z2⟩ y hy;rcases Gar.mp hy with rfl|hy
   .exact z1
   .exact z2 y hy
  .intro z;exact⟨z x Gaf,λy hy=>z y (Gac _ hy)⟩
noncomputable def cE(ws:List Tr)(g:Int):List Int:=(ws.filter λv=>decide (v.1=g)).map (·.2.1)
noncomputable def fN(s:gC)(ws:List Tr)(g xb h last:Int):List Sp:=(h,xb+s.young -1)::if s.ax.any cQ then[(h,minD (last+1) (cE ws g)-1)] else[]
variable{xb:Int}
theorem FU{t:Int}(ht:h<=t)(tl:t<=last):Cov (fN s ws g xb h last) t↔t<xb+s.young\/(s.ax.any cQ&&(wgt g t ws none).isNone)=true:=by
 have wn:(wgt g t ws none).isNone=true↔t<minD (last+1) (cE ws g):=by
  rw[Option.isNone_iff_eq_none,B9,KJ (by lia)];unfold cE;constructor
  .rintro⟨_,z⟩ y hy;obtain⟨v,hv,rfl⟩:=Gat.mp hy;have q:=GaO.mp hv;exact z v q.1 (Gao q.2)
  .intro z;exact⟨rfl,λv hv ev=>z v.2.1 (Gat.mpr ⟨v,GaO.mpr ⟨hv,Gaz ev⟩,rfl⟩)⟩
 unfold fN;rw[bp,Gan,wn];constructor
 .rintro(z|z)
  .simp only at z;exact .inl (by lia)
  .split at z
   .rename_i k;rcases bp.mp z with z|z
    .simp only at z;exact .inr ⟨k,by lia⟩
    .exact absurd z dq
   .exact absurd z dq
 .rintro(z| ⟨k,z⟩)
  .exact .inl ⟨ht,by show t<=xb+s.young -1;lia⟩
  .rw[Gah k];exact .inr (bp.mpr (.inl ⟨ht,by show t<=_ -1;lia⟩))
noncomputable def fO(w:World)(ws gv:List Tr)(o:Order)(a h last:Int)(c:Cap):List Sp:=iQ (cK ws c o.aa (aA w gv (o.aa,o.af)) a) (bgC c (aA w gv (o.aa,o.af)) h) last (jA ((aA w gv (o.aa,o.af)).map (·.1)++steps c (aA w gv (o.aa,o.af)) ws o.aa h))
noncomputable def ij(w:World)(ws gv:List Tr)(o:Order)(s:gC)(xb n a h last:Int):List Sp:=(bq gv n).map (λx=>(x,x))++dJ o.aV (bq gv n) h last++gv.flatMap (jH w o)++fN s ws o.aa xb h last++s.ax.flatMap (fO w ws gv o a h last)
theorem Ba{t:Int}:Cov ((bq gv n).map λx=>(x,x)) t↔je n t gv=true:=by
 have e:je n t gv=true↔t∈bq gv n:=by
  rw[mw];unfold je;rw[GbG];constructor
  .rintro⟨u,hu,z⟩;exact⟨u,hu,Gao z⟩
  .rintro⟨u,hu,z⟩;exact⟨u,hu,Gaz z⟩
 rw[e];unfold Cov;constructor
 .rintro⟨p,hp,z⟩;obtain⟨x,hx,rfl⟩:=Gat.mp hp;have:t=x:=by simp only at z;lia
  rw[this];exact hx
 .intro z;exact⟨(t,t),Gat.mpr ⟨t,z,rfl⟩,Gbp _,Gbp _⟩
theorem IC(W:aH w)(hg:bY w.orders.length gv)(S:Snd w ws gv){t:Int}(n0:0<=n)(n1:n<w.orders.length){g:Str×Int}(e1:w.orders[n.toNat]? =some o)(e2:w.aw[o.af.toNat]? =some s)(e3:w.aT[o.aa.toNat]? =some g)(so:cC s)(du:gR o.aV)(a1:1<=a)(a2:a%s.part=0)(a3:a<=o.most)(ht:h<=t)(tl:t<=last):
  Cov (ij w ws gv o s g.2 n a h last) t↔¬(je n t gv=false/\Snd w ws (laid gv (n,t,a))):=by
 have pm:Snd w ws (laid gv (n,t,a))↔Snd w ws (gv++[(n,t,a)]):=⟨λz=>z.perm W (cR gv (n,t,a)),λz=>z.perm W (cR gv (n,t,a)).symm⟩
 have cp:Cov (s.ax.flatMap (fO w ws gv o a h last)) t↔∃c∈s.ax,cK ws c o.aa (aA w gv (o.aa,o.af)) a t=true\/∃p∈aA w gv (o.aa,o.af),cU c p.1 t=true/\cK ws c o.aa (aA w gv (o.aa,o.af)) a p.1=true:=by
  have each:∀c∈s.ax,(Cov (fO w ws gv o a h last c) t↔_):=λc hc=>B7 (ws:=ws) (g:=o.aa) (a:=a) (ms:=aA w gv (o.aa,o.af)) (so.ok c hc) ht tl (jB _).1 λy=>by rw[(jB _).2.1,GaF]
  unfold Cov;constructor
  .rintro⟨p,hp,z⟩;obtain⟨c,hc,hp⟩:=GcX.mp hp;exact⟨c,hc,(each c hc).mp ⟨p,hp,z⟩⟩
  .rintro⟨c,hc,z⟩;obtain⟨p,hp,q⟩:=(each c hc).mpr z;exact⟨p,GcX.mpr ⟨c,hc,hp⟩,q⟩
 unfold ij;rw[mq,mq,mq,mq,Ba,FQ du ht tl,FT W hg e1,FU ht tl,cp,pm,Ef W hg S n0 n1 e1 e2 so,pE e1 e2 e3];constructor
 .rintro((((z|z)|z)|z)|z) ⟨f,⟨⟨⟨⟨f1,_⟩,_⟩,f2⟩,f3⟩,f4,f5,f6⟩
  .rw[z] at f;cases f
  .rcases z with z| ⟨v,hv,ev,k,k1,k2⟩
   .rw[z] at f1;cases f1
   .exact f4 v hv ev k k1 k2
  .obtain⟨u,hu,q⟩:=z;exact q (f5 u hu)
  .rcases z with z|z
   .exact f3 z
   .rw[z] at f2;cases f2
  .obtain⟨c,hc,q⟩:=z;rcases q with q| ⟨p,hp,q1,q2⟩
   .rw[(f6 c hc).1] at q;cases q
   .rw[(f6 c hc).2 p hp q1] at q2;cases q2
 .intro z;refine Gct λno=>z ?_;have n1' :¬je n t gv=true:=λq=>no (.inl (.inl (.inl (.inl q))));have n2' :¬dm o.aV t=true:=λq=>no (.inl (.inl (.inl (.inr (.inl q)))));have TN :¬t<g.2+s.young:=λq=>no (.inl (.inr (.inl q)));have n5' :¬(s.ax.any cQ&&(wgt o.aa t ws none).isNone)=true:=λq=>no (.inl (.inr (.inr q)));refine⟨by simpa using n1',⟨⟨⟨⟨by simpa using n2',a3⟩,a1,a2⟩,Bool.eq_false_iff.mpr n5'⟩,TN⟩,λu hu eu k k1 k2=>no (.inl (.inl (.inl (.inr (.inr ⟨u,hu,eu,k,k1,k2⟩))))),λu hu=> ?_,λc hc=> ⟨?_,λp hp ip=> ?_⟩⟩
  .exact Gct λq=>no (.inl (.inl (.inr ⟨u,hu,q⟩)))
  .cases q:cK ws c o.aa (aA w gv (o.aa,o.af)) a t with
   |false=>rfl
   |true=>exact absurd (.inr ⟨c,hc,.inl q⟩) no
  .cases q:cK ws c o.aa (aA w gv (o.aa,o.af)) a p.1 with
   |false=>rfl
   |true=>exact absurd (.inr ⟨c,hc,.inr ⟨p,hp,ip,q⟩⟩) no
noncomputable def cj(p:Sp):D:= .tup [.int p.1,.int p.2]
theorem qD(S:List Sp):aC (S.map cj)=true:=fc (λp=>by simp[cj]) S
theorem Bb(lo:Int)(n:Nat):aB lo (n+1)= .int lo::aB (lo+1) n:=by
 unfold aB;rw[Gdx,GaA,GaU];congr 1
 .simp
 .apply GaT;intro k _;simp only[GbE];congr 1;lia
noncomputable def FV(x:Str)(g st:D)(rule:D)(b e m ea la:Int)(ts:D):D:= .tup [.str x,g,st,rule,.tup [.str "due",.int b,.int e,.int m,.int ea,.int la],ts]
variable{st rule:D}
theorem sM{x:Str}{g ts:D}{e m k:Int}(he:0<=e)(zC:e<=1000000000):nA [FV x g st rule b e m ea la ts,.int k]=some (.tup [.int (b+k*e -ea),.int (b+k*e+la)]):=by
 have p1:∀i,aX i e=true:=λi=>fb (by lia) (by lia);unfold nA Cn FV;simp[p1,a9]
noncomputable def sN(a b:Int)(hs:List Int)(h:Int):Str:=if gV a b hs then "given" else if h<a then "ahead" else if h>b then "missed" else "open"
theorem Bc(a b:Int)(hs:List Int)(h:Int):eqB (.str (sN a b hs h)) (.str "given")=some (gV a b hs):=by
 unfold sN;cases gV a b hs
 .by_cases q2:h<a
  .simp[q2]
  .by_cases q3:b<h<;>simp[q2,q3]
 .simp
theorem CB{x:Str}{g ts:D}{e m k:Int}(he:0<=e)(zC:e<=1000000000)(hl:hs.length<=1000):m9 [FV x g st rule b e m ea la ts,.lst (hs.map .int),.int k,.int h]=some (.str (sN (b+k*e -ea) (b+k*e+la) hs h)):=by
 have e:=sM (x:=x) (g:=g) (st:=st) (rule:=rule) (ts:=ts) (b:=b) (e:=e) (m:=m) (ea:=ea) (la:=la) (k:=k) he zC;generalize ha:b+k*_ -ea=a at e;generalize hb:b+k*_+la=b' at e;have c:=de (g:=gN 0) (f:=bE (mX leB leB (ixE (vE 1) (kE (.int 0))) (vE 0) (ixE (vE 1) (kE (.int 1))))) D.int (λenv=>∃y,env=[y,some (.sh (.tup [.int a,.int b']))])
  (λx=> .bl (btw a b' x)) hs [none,some (.sh (.tup [.int a,.int b']))] ⟨none,rfl⟩ (by
   rintro i hi env ⟨y,rfl⟩;refine⟨_,rfl,⟨_,rfl⟩,.c, ?_,rfl⟩;unfold btw;by_cases c1:a<=i<;>simp[c1])
 have c2:hs.map (λx=>D.bl (btw a b' x))=(hs.map (btw a b')).map D.bl:=by simp[GaU,Function.comp_def]
 rw[c2] at c;have z:hs.length<=16777216:=by lia
 have an:=AG (hs.map (btw a b'));change anyS [.lst ((hs.map (btw a b')).map D.bl)]=some ⟨.c,.bl (gV a b' hs)⟩ at an;generalize (hs.map (btw a b')).map D.bl=bl at c an;generalize FV x g st rule b _ m ea la ts=od at*;unfold m9 w6;simp[-bE,-mX,-ixE,e,a9,z,DL.compEnv,gY,c,an];unfold sN;cases gV a b' hs
 .by_cases q2:h<a
  .simp[q2]
  .by_cases q3:b' <h<;>simp[q2,q3]
 .simp
variable{dd od:D}
theorem KL{HS:D}{bg k:Int}{sd:Str}{gv:Bool}(e1:nA [od,.int k]=some (.tup [.int s1,.int s2]))(e2:m9 [od,HS,.int k,.int h]=some (.str sd))(eg:eqB (.str sd) (.str "given")=some gv)(hz:F.length<100000):
  c9 [some (.sh od),some (.sh HS),some (.sh (.int h)),some (.sh (.int last)),some (.sh dd),some (.own (.lst F)),some (.sh (.int bg)),some (.sh (.int k)),x8]=
   some (.nx [some (.sh od),some (.sh HS),some (.sh (.int h)),some (.sh (.int last)),some (.sh dd),some (.own (.lst (F++(.tup [.int bg,.int (s1 -1)]::(if gv then[.tup [.int s1,.int s2]] else[]))))),some (.sh (.int (s2+1))),some (.sh (.int k)),some (.sh (.tup [.int s1,.int s2]))]):=by
 have z1:F.length<16777216:=by lia
 have z2:F.length+1<16777216:=by lia
 unfold c9;refine(ag (e:=[some (.sh od),some (.sh HS),some (.sh (.int h)),some (.sh (.int last)),some (.sh dd),some (.own (.lst F)),some (.sh (.int bg)),some (.sh (.int k)),some (.sh (.tup [.int s1,.int s2]))]) (by simp[e1])).trans ?_;refine(ag (e:=[some (.sh od),some (.sh HS),some (.sh (.int h)),some (.sh (.int last)),some (.sh dd),some (.own (.lst (F++[.tup [.int bg,.int (s1 -1)]]))),some (.sh (.int bg)),some (.sh (.int k)),some (.sh (.tup [.int s1,.int s2]))]) (by simp[a9,z1])).trans ?_;cases gv with
 |false=>
  rw[Gag Gal];generalize F++[.tup [.int bg,.int (s1 -1)]]=G at*;simp[e2,eg]
 |true=>
  rw[Gah rfl];have ea:F++[.tup [.int bg,.int (s1 -1)],.tup [.int s1,.int s2]]=(F++[.tup [.int bg,.int (s1 -1)]])++[.tup [.int s1,.int s2]]:=by simp
  rw[ea];have zg:(F++[D.tup [.int bg,.int (s1 -1)]]).length<16777216:=by simp;lia
  generalize F++[.tup [.int bg,.int (s1 -1)]]=G at*;simp[e2,eg,a9,zg]
theorem Ej{od dd:D}{hs:List Int}{h last b e ea la:Int}(sp:∀k,nA [od,.int k]=some (.tup [.int (b+k*e -ea),.int (b+k*e+la)]))(So:∀k,m9 [od,.lst (hs.map .int),.int k,.int h]=some (.str (sN (b+k*e -ea) (b+k*e+la) hs h))):∀(r:Nat) (k bg:Int) (F:List Sp) (x7 x8:Os),F.length+2*r<100000->∃(P:List Sp) (ym :Int) (y7 y8:Os),P++[(ym,last)]=jF b e ea la (λk=>gV (b+k*e -ea) (b+k*e+la) hs) last r k bg/\
  forL (gN 7) c9 (aB k r) [some (.sh od),some (.sh (.lst (hs.map .int))),some (.sh (.int h)),some (.sh (.int last)),some (.sh dd),some (.own (.lst (F.map cj))),some (.sh (.int bg)),x7,x8]=
   some (.nx [some (.sh od),some (.sh (.lst (hs.map .int))),some (.sh (.int h)),some (.sh (.int last)),some (.sh dd),some (.own (.lst ((F++P).map cj))),some (.sh (.int ym)),y7,y8])
 |0,k,bg,F,x7,x8,_=> ⟨[],bg,x7,x8,rfl,by
   have e0:aB k 0=[]:=rfl;rw[e0,GaV]
   rfl⟩
 |r+1,k,bg,F,x7,x8,hz=>by
  have st:=KL (dd:=dd) (last:=last) (bg:=bg) (F:=F.map cj) (x8:=x8) (sp k) (So k) (Bc ..) (by rw[Gab];lia);have em:F.map cj++(.tup [.int bg,.int (b+k*e -ea -1)]::(if gV (b+k*e -ea) (b+k*e+la) hs then[.tup [.int (b+k*e -ea),.int (b+k*e+la)]] else[]))=(F++((bg,b+k*e -ea -1)::(if gV (b+k*e -ea) (b+k*e+la) hs then[(b+k*e -ea,b+k*e+la)] else[]))).map cj:=by
   rw[GaC,GaA];congr 1;congr 1;split<;>rfl
  rw[em] at st;obtain⟨P,ym,y7,y8,q1,q2⟩:=Ej (od:=od) (dd:=dd) (last:=last) sp So r (k+1) (b+k*e+la+1) (F++((bg,b+k*e -ea -1)::(if gV (b+k*e -ea) (b+k*e+la) hs then[(b+k*e -ea,b+k*e+la)] else[]))) (some (.sh (.int k))) (some (.sh (.tup [.int (b+k*e -ea),.int (b+k*e+la)]))) (by
   rw[Gai,Gay];split<;>simp<;>lia)
  refine⟨((bg,b+k*e -ea -1)::(if gV (b+k*e -ea) (b+k*e+la) hs then[(b+k*e -ea,b+k*e+la)] else[]))++P,ym,y7,y8, ?_, ?_⟩
  .unfold jF;rw[Gba,q1]
   rfl
  .rw[Bb,<-Gba];simp only[forL,gN,GaK,GaL,Option.bind_some,st];exact q2
theorem N5{m ym :Int}{P:List Sp}{DD:List D}(Ur:dd= .tup (.str "due"::DD))(i4:ixD od (.int 4)=some dd)(d3:ixD dd (.int 3)=some (.int m))(sm:aP m=true)(hz:P.length<100000)
  (e:forL (gN 7) c9 (aB 0 m.toNat) [some (.sh od),some (.sh (.lst (hs.map .int))),some (.sh (.int h)),some (.sh (.int last)),some (.sh dd),some (.own (.lst [])),some (.sh (.int h)),none,none]=some (.nx [some (.sh od),some (.sh (.lst (hs.map .int))),some (.sh (.int h)),some (.sh (.int last)),some (.sh dd),some (.own (.lst (P.map cj))),some (.sh (.int ym)),y7,y8])):bJ [od,.lst (hs.map .int),.int h,.int last]=some (.lst ((P++[(ym,last)]).map cj)):=by
 have z:(P.map cj).length<16777216:=by rw[Gab];lia
 have im:=qD (P++[(ym,last)]);have em:(P++[(ym,last)]).map cj=P.map cj++[.tup [.int ym,.int last]]:=by rw[GaC];rfl
 rw[em] at im⊢;have d0:ixD dd (.int 0)=some (.str "due"):=by rw[Ur];rfl
 generalize P.map cj=PP at*;generalize hs.map D.int=HS at*;refine b5 rfl ?_;unfold f9;refine(ag (e:=[some (.sh od),some (.sh (.lst HS)),some (.sh (.int h)),some (.sh (.int last)),some (.sh dd),none,none,none,none]) (by simp[bw,i4])).trans ?_;refine(ag (e:=[some (.sh od),some (.sh (.lst HS)),some (.sh (.int h)),some (.sh (.int last)),some (.sh dd),none,none,none,none]) (by simp[d0])).trans ?_;refine(ag (e:=[some (.sh od),some (.sh (.lst HS)),some (.sh (.int h)),some (.sh (.int last)),some (.sh dd),some (.own (.lst [])),none,none,none]) (by simp[a9])).trans ?_;refine(ag (e:=[some (.sh od),some (.sh (.lst HS)),some (.sh (.int h)),some (.sh (.int last)),some (.sh dd),some (.own (.lst [])),some (.sh (.int h)),none,none]) (by simp)).trans ?_;refine(ag (e:=[some (.sh od),some (.sh (.lst HS)),some (.sh (.int h)),some (.sh (.int last)),some (.sh dd),some (.own (.lst PP)),some (.sh (.int ym)),y7,y8]) (by simp[-forL,d3,sm,e,freed])).trans ?_;refine(ag (e:=[some (.sh od),some (.sh (.lst HS)),some (.sh (.int h)),some (.sh (.int last)),some (.sh dd),some (.own (.lst (PP++[.tup [.int ym,.int last]]))),some (.sh (.int ym)),y7,y8]) (by simp[a9,z])).trans ?_;generalize PP++[.tup [.int ym,.int last]]=G at*;simp[im]
theorem ID(ok:gR o.aV)(hl:hs.length<=1000):bJ [ah o,.lst (hs.map .int),.int h,.int last]=some (.lst ((dJ o.aV hs h last).map cj)):=by
 obtain⟨x,g,st,way,top,per,most,u,ts⟩:=o;cases u with
 |asked b=>
  have e0:(dJ (om.asked b) hs h last).map cj=[.tup [.int h,.int (b -1)]]:=rfl;dsimp only;rw[e0];generalize hs.map D.int=HS at*;unfold bJ f9 ah fA;simp[a9]
 |due b e m ea la=>
  obtain⟨r1,r2,⟨r3,r4⟩,r5,r6,r7,_⟩:=ok;have eo:ah ⟨x,g,st,way,top,per,most,.due b e m ea la,ts⟩=FV x (.int g) (.int st) (.tup [.str way,.int top,.int per,.int most]) b e m ea la (.tup ts):=rfl;rw[eo];obtain⟨P,ym,y7,y8,q1,q2⟩:=Ej (od:=FV x (.int g) (.int st) (.tup [.str way,.int top,.int per,.int most]) b e m ea la (.tup ts)) (dd:= .tup [.str "due",.int b,.int e,.int m,.int ea,.int la]) (hs:=hs) (h:=h) (last:=last) (b:=b) (e:=e) (ea:=ea) (la:=la) (λk=>sM (by lia) (by lia)) (λk=>CB (by lia) (by lia) hl) m.toNat 0 h [] none none (by simp;lia);rw[Gby] at q2;have pl:P.length<=2*m.toNat:=by
   have l1:∀(r:Nat) (k bg:Int),(jF b e ea la (λk=>gV (b+k*e -ea) (b+k*e+la) hs) last r k bg).length<=2*r+1:=by
    intro r;induction r with
    |zero=>intro k bg;simp[jF]
    |succ r ih=>
     intro k bg;unfold jF;have:=ih (k+1) (b+k*e+la+1);rw[Gay,Gai];split<;>simp<;>lia
   have:=l1 m.toNat 0 h;rw[<-q1,Gai] at this;simp at this;lia
  have fin:=N5 (m:=m) rfl rfl rfl (aU (by lia) (by lia)) (by lia) q2;rw[q1] at fin;exact fin
theorem FW(ns:List Int):Jx [.lst (ns.map D.int)]=some ⟨.c,.int ns.sum⟩:=by
 unfold Jx one kN;simp[uL]
theorem KN(a b x y:Int):eqB (.tup [.int a,.int b]) (.tup [.int x,.int y])=some (decide (a=x/\b=y)):=by
 show some (decide (a=x)&&(decide (b=y)&&true))=_;rw[Bool.and_true,<-Bool.decide_and]
theorem Bd{bs:List Tr}(hl:bs.length<=1000):og [.tup (bs.map trD),.int x,.int y]=some (.int (jf bs x y)):=by
 have c:=fz (g:=gN 0) (t:=az eqB (aS (a7 (ixE (vE 0) (kE (.int 0))) (a7 (ixE (vE 0) (kE (.int 1))) ae))) (vE 1)) (f:=ixE (vE 0) (kE (.int 2))) trD (λenv=>∃z,env=[z,some (.sh (.tup [.int (if y<x then y else x),.int (if y>x then y else x)]))]) (λb=>decide (b.1=(if y<x then y else x)/\b.2.1=(if y>x then y else x))) (λb=> .int b.2.2) bs [none,some (.sh (.tup [.int (if y<x then y else x),.int (if y>x then y else x)]))] ⟨none,rfl⟩ (by
  rintro b _ env ⟨z,rfl⟩;refine⟨_,rfl,⟨_,rfl⟩, ?_,λ_=> ⟨.c,by simp[trD],rfl⟩⟩;have e:=KN b.1 b.2.1 (if y<x then y else x) (if y>x then y else x);generalize (if y<x then y else x)=p at*;generalize (if y>x then y else x)=q at*;simp[trD,a9,e])
 have em:(bs.filter λb=>decide (b.1=(if y<x then y else x)/\b.2.1=(if y>x then y else x))).map (λb=>D.int b.2.2)=((bs.filter λb=>decide (b.1=(if y<x then y else x)/\b.2.1=(if y>x then y else x))).map (·.2.2)).map .int:=by rw[GaU];rfl
 rw[em] at c;have sm:=FW ((bs.filter λb=>decide (b.1=(if y<x then y else x)/\b.2.1=(if y>x then y else x))).map (·.2.2));have z:(bs.map trD).length<=16777216:=by rw[Gab];lia
 unfold jf;generalize ((bs.filter λb=>decide (b.1=(if y<x then y else x)/\b.2.1=(if y>x then y else x))).map (·.2.2)).sum=G at*;generalize ((bs.filter λb=>decide (b.1=(if y<x then y else x)/\b.2.1=(if y>x then y else x))).map (·.2.2)).map D.int=L at*;generalize bs.map trD=B at*;refine b5 rfl ?_;unfold rV;refine(ag (e:=[some (.sh (.tup B)),some (.sh (.int x)),some (.sh (.int y)),some (.sh (.tup [.int (if y<x then y else x),.int (if y>x then y else x)]))]) (by simp[bw,a9])).trans ?_;generalize (if y<x then y else x)=p at*;generalize (if y>x then y else x)=q at*;have c0:DL.compEnv 1 [3] [some (.sh (.tup B)),some (.sh (.int x)),some (.sh (.int y)),some (.sh (.tup [.int p,.int q]))]=[none,some (.sh (.tup [.int p,.int q]))]:=rfl;simp[-az,z,a9,c0,c,sm]
variable{ou:D}
theorem KO{bk:D}{g1 g2 gp:Int}(xT:wd= .tup [.tup A,.tup B,.tup C,.tup O])(hU:atD O u=some ou)(o1:ixD od (.int 1)=some (.int g1))(u1:ixD ou (.int 1)=some (.int g2))(o2:ixD od (.int 2)=some (.int s1))(u2:ixD ou (.int 2)=some (.int s2))(eg:og [.tup C,.int s1,.int s2]=some (.int gp))(hz:F.length<100000):∃y7:Os,
  d5 [some (.sh wd),some (.sh bk),some (.sh (.int n)),some (.sh od),some (.own (.lst F)),some (.sh (.tup [.int u,.int h,.int a])),x6,x7]=
   some (.nx [some (.sh wd),some (.sh bk),some (.sh (.int n)),some (.sh od),some (.own (.lst (F++if g2=g1 then[.tup [.int (h -gp+1),.int (h+gp -1)]] else[]))),some (.sh (.tup [.int u,.int h,.int a])),some (.sh ou),y7]):=by
 have w3:ixD wd (.int 3)=some (.tup O):=by rw[xT];rfl
 have w2:ixD wd (.int 2)=some (.tup C):=by rw[xT];rfl
 have z:F.length<16777216:=by lia
 clear xT;unfold d5;by_cases c:g2=g1
 .refine⟨some (.sh (.int gp)), ?_⟩;rw[Gah c];refine(ag (e:=[some (.sh wd),some (.sh bk),some (.sh (.int n)),some (.sh od),some (.own (.lst F)),some (.sh (.tup [.int u,.int h,.int a])),some (.sh ou),x7]) (by simp[w3,hU])).trans ?_;simp[u1,o1,c,w2,o2,u2,eg,a9,z]
 .refine⟨x7, ?_⟩;rw[Gag c,GaV];refine(ag (e:=[some (.sh wd),some (.sh bk),some (.sh (.int n)),some (.sh od),some (.own (.lst F)),some (.sh (.tup [.int u,.int h,.int a])),some (.sh ou),x7]) (by simp[w3,hU])).trans ?_;simp[u1,o1,c]
theorem KP{ou:Order}{u:Tr}(eu:w.orders[u.1.toNat]? =some ou):(jH w o u).map cj=if ou.aa=o.aa then[.tup [.int (u.2.1 -jf w.bN o.af ou.af+1),.int (u.2.1+jf w.bN o.af ou.af -1)]] else[]:=by
 unfold jH;rw[eu];dsimp only;split<;>rfl
theorem Ek{w:World}(W:aH w){bk:D}{n:Int}{o:Order}:∀(gv:List Tr) (F:List Sp) (x5 x6 x7:Os),bY w.orders.length gv->F.length+gv.length<10000->∃y5 y6 y7:Os,
  forL (gN 5) d5 (gv.map trD) [some (.sh (aj w)),some (.sh bk),some (.sh (.int n)),some (.sh (ah o)),some (.own (.lst (F.map cj))),x5,x6,x7]=
   some (.nx [some (.sh (aj w)),some (.sh bk),some (.sh (.int n)),some (.sh (ah o)),some (.own (.lst ((F++gv.flatMap (jH w o)).map cj))),y5,y6,y7])
 |[],F,x5,x6,x7,_,_=> ⟨x5,x6,x7,by simp⟩
 |u::gv,F,x5,x6,x7,hg,hz=>by
  rw[Gay] at hz;have b12:=W.b12;obtain⟨ou,_,_,eu,_,_,_,_,ua,_⟩:=dE W (hg u Gaf).1 (hg u Gaf).2;have eg:=Bd (bs:=w.bN) (x:=o.af) (y:=ou.af) (by lia);obtain⟨z7,st⟩:=KO (bk:=bk) (n:=n) (od:=ah o) (F:=F.map cj) (h:=u.2.1) (a:=u.2.2) (x6:=x6) (x7:=x7) (A:=w.aT.map aM) (B:=w.aw.map au) rfl ua rfl rfl rfl rfl eg (by rw[Gab];lia);rw[<-KP eu,<-GaC] at st;have gl:(jH w o u).length<=1:=by
   unfold jH;rw[eu];dsimp only;split<;>simp
  obtain⟨y5,y6,y7,e⟩:=Ek W (bk:=bk) (n:=n) (o:=o) gv (F++jH w o u) (some (.sh (trD u))) (some (.sh (ah ou))) z7 (λv hv=>hg v (Gac _ hv)) (by rw[Gai];lia);refine⟨y5,y6,y7, ?_⟩;rw[GaA,GbD,<-Gba];have ed:trD u= .tup [.int u.1,.int u.2.1,.int u.2.2]:=rfl;have ew:D.tup [.tup (w.aT.map aM),.tup (w.aw.map au),.tup (w.bN.map trD),.tup (w.orders.map ah)]=aj w:=rfl;rw[ew] at st;rw[<-ed] at st;generalize aj w=wd at*;generalize trD u=ud at*;simp only[forL,gN,GaK,GaL,Option.bind_some,st];exact e
theorem FX(W:aH w)(hg:bY w.orders.length gv)(hl:gv.length<64)(oa:atD (w.orders.map ah) n=some (ah o)):d9 [aj w,bkD ws gv,.int n]=some (.lst ((gv.flatMap (jH w o)).map cj)):=by
 obtain⟨y5,y6,y7,e⟩:=Ek W (bk:=bkD ws gv) (n:=n) (o:=o) gv [] none none none hg (by simp;lia);rw[Gby,Gdi] at e;have im:=qD (gv.flatMap (jH w o));have w3:ixD (aj w) (.int 3)=some (.tup (w.orders.map ah)):=rfl;have b1:ixD (bkD ws gv) (.int 1)=some (.tup (gv.map trD)):=rfl;generalize (gv.flatMap (jH w o)).map cj=R at*;generalize bkD ws gv=bk at*;generalize aj w=wd at*;generalize gv.map trD=G at*;generalize ah o=od at*;refine b5 rfl ?_;unfold gM;refine(ag (e:=[some (.sh wd),some (.sh bk),some (.sh (.int n)),some (.sh od),none,none,none,none]) (by simp[bw,w3,oa])).trans ?_;refine(ag (e:=[some (.sh wd),some (.sh bk),some (.sh (.int n)),some (.sh od),some (.own (.lst [])),none,none,none]) (by simp[a9])).trans ?_;refine(ag (e:=[some (.sh wd),some (.sh bk),some (.sh (.int n)),some (.sh od),some (.own (.lst R)),y5,y6,y7]) (by simp[-forL,b1,e,freed])).trans ?_;simp[im]
theorem KQ{bk:D}{g1 g2:Int}(xT:wd= .tup [.tup A,.tup B,.tup C,.tup O])(hU:atD O u=some ou)(o1:ixD od (.int 1)=some (.int g1))(u1:ixD ou (.int 1)=some (.int g2))(o2:ixD od (.int 2)=some (.int s1))(u2:ixD ou (.int 2)=some (.int s2))(hz:F.length<100000):
  gh [some (.sh wd),some (.sh bk),some (.sh (.int n)),some (.sh od),some (.own (.lst F)),some (.sh (.tup [.int u,.int h,.int a])),x6]=
   some (.nx [some (.sh wd),some (.sh bk),some (.sh (.int n)),some (.sh od),some (.own (.lst (F++if g2=g1/\s2=s1 then[.tup [.int h,.int a]] else[]))),some (.sh (.tup [.int u,.int h,.int a])),some (.sh ou)]):=by
 have w3:ixD wd (.int 3)=some (.tup O):=by rw[xT];rfl
 have z:F.length<16777216:=by lia
 clear xT;unfold gh;refine(ag (e:=[some (.sh wd),some (.sh bk),some (.sh (.int n)),some (.sh od),some (.own (.lst F)),some (.sh (.tup [.int u,.int h,.int a])),some (.sh ou)]) (by simp[w3,hU])).trans ?_;by_cases c:g2=g1
 .by_cases c2:s2=s1
  .rw[Gah ⟨c,c2⟩];simp[u1,o1,c,u2,o2,c2,a9,z]
  .rw[Gag λq=>c2 q.2,GaV];simp[u1,o1,c,u2,o2,c2]
 .rw[Gag λq=>c q.1,GaV];simp[u1,o1,c]
theorem El{w:World}(W:aH w){bk:D}{n:Int}{o:Order}:∀(gv:List Tr) (F:List (Int×Int)) (x5 x6:Os),bY w.orders.length gv->F.length+gv.length<10000->∃y5 y6:Os,
  forL (gN 5) gh (gv.map trD) [some (.sh (aj w)),some (.sh bk),some (.sh (.int n)),some (.sh (ah o)),some (.own (.lst (F.map mk2))),x5,x6]=
   some (.nx [some (.sh (aj w)),some (.sh bk),some (.sh (.int n)),some (.sh (ah o)),some (.own (.lst ((F++aA w gv (o.aa,o.af)).map mk2))),y5,y6])
 |[],F,x5,x6,_,_=> ⟨x5,x6,by simp[aA]⟩
 |u::gv,F,x5,x6,hg,hz=>by
  rw[Gay] at hz;obtain⟨ou,_,_,eu,_,_,_,_,ua,_⟩:=dE W (hg u Gaf).1 (hg u Gaf).2;have st:=KQ (bk:=bk) (n:=n) (od:=ah o) (F:=F.map mk2) (h:=u.2.1) (a:=u.2.2) (x6:=x6) (A:=w.aT.map aM) (B:=w.aw.map au) (C:=w.bN.map trD) rfl ua rfl rfl rfl rfl (by rw[Gab];lia);have tu:=Ee eu;have em:aA w (u::gv) (o.aa,o.af)=(if ou.aa=o.aa/\ou.af=o.af then[(u.2.1,u.2.2)] else[])++aA w gv (o.aa,o.af):=by
   unfold aA;by_cases c:ou.aa=o.aa/\ou.af=o.af
   .rw[Gah c,Gdp (by rw[tu,c.1,c.2];exact Gaz rfl)]
    rfl
   .rw[Gag c,Gdq (by rw[tu];intro z;have z' :=Gao z;injection z' with z1 z2;exact c ⟨z1,z2⟩)]
    rfl
  have el:F.map mk2++(if ou.aa=o.aa/\ou.af=o.af then[D.tup [.int u.2.1,.int u.2.2]] else[])=(F++if ou.aa=o.aa/\ou.af=o.af then[(u.2.1,u.2.2)] else[]).map mk2:=by
   rw[GaC];split<;>rfl
  have fl:(if ou.aa=o.aa/\ou.af=o.af then[(u.2.1,u.2.2)] else[]).length<=1:=by split<;>simp
  rw[el] at st;obtain⟨y5,y6,e⟩:=El W (bk:=bk) (n:=n) (o:=o) gv (F++if ou.aa=o.aa/\ou.af=o.af then[(u.2.1,u.2.2)] else[]) (some (.sh (trD u))) (some (.sh (ah ou))) (λv hv=>hg v (Gac _ hv)) (by rw[Gai];lia);refine⟨y5,y6, ?_⟩;rw[em,GaA,<-Gba];have ed:trD u= .tup [.int u.1,.int u.2.1,.int u.2.2]:=rfl;have ew:D.tup [.tup (w.aT.map aM),.tup (w.aw.map au),.tup (w.bN.map trD),.tup (w.orders.map ah)]=aj w:=rfl;rw[ew] at st;rw[<-ed] at st;generalize aj w=wd at*;generalize trD u=ud at*;simp only[forL,gN,GaK,GaL,Option.bind_some,st];exact e
theorem N6(l:List (Int×Int)):aC (l.map mk2)=true:=fc (λp=>by simp[mk2]) l
theorem CD(W:aH w)(hg:bY w.orders.length gv)(hl:gv.length<64)(oa:atD (w.orders.map ah) n=some (ah o)):iK [aj w,bkD ws gv,.int n]=some (.lst ((aA w gv (o.aa,o.af)).map mk2)):=by
 obtain⟨y5,y6,e⟩:=El W (bk:=bkD ws gv) (n:=n) (o:=o) gv [] none none hg (by simp;lia);rw[Gby,Gdi] at e;have im:=N6 (aA w gv (o.aa,o.af));have w3:ixD (aj w) (.int 3)=some (.tup (w.orders.map ah)):=rfl;have b1:ixD (bkD ws gv) (.int 1)=some (.tup (gv.map trD)):=rfl;generalize (aA w gv (o.aa,o.af)).map mk2=R at*;generalize bkD ws gv=bk at*;generalize aj w=wd at*;generalize gv.map trD=G at*;generalize ah o=od at*;refine b5 rfl ?_;unfold nB;refine(ag (e:=[some (.sh wd),some (.sh bk),some (.sh (.int n)),some (.sh od),none,none,none]) (by simp[bw,w3,oa])).trans ?_;refine(ag (e:=[some (.sh wd),some (.sh bk),some (.sh (.int n)),some (.sh od),some (.own (.lst [])),none,none]) (by simp[a9])).trans ?_;refine(ag (e:=[some (.sh wd),some (.sh bk),some (.sh (.int n)),some (.sh od),some (.own (.lst R)),y5,y6]) (by simp[-forL,b1,e,freed])).trans ?_;simp[im]
theorem IE(cs:List Cap):bF (gN 0) cT (bE (az eqB (ixE (vE 0) (kE (.int 0))) (kE (.str "kilo")))) (cs.map b6) [none]=some ((cs.map cQ).map D.bl):=by
 have c:=de (g:=gN 0) (f:=bE (az eqB (ixE (vE 0) (kE (.int 0))) (kE (.str "kilo")))) b6 (λenv=>∃y,env=[y]) (λc=> .bl (cQ c)) cs [none] ⟨none,rfl⟩ (by
  rintro c hc env ⟨y,rfl⟩;refine⟨_,rfl,⟨_,rfl⟩,.c, ?_,rfl⟩;cases c<;>simp[b6,cQ])
 rw[c,GaU]
 rfl
theorem wq(o1:ixD od (.int 1)=some (.int g)):bF (gN 0) (az eqB (ixE (vE 0) (kE (.int 0))) (ixE (vE 1) (kE (.int 1)))) (ixE (vE 0) (kE (.int 1))) (ws.map trD) [none,some (.sh od)]=some ((cE ws g).map .int):=by
 have c:=fz (g:=gN 0) (t:=az eqB (ixE (vE 0) (kE (.int 0))) (ixE (vE 1) (kE (.int 1)))) (f:=ixE (vE 0) (kE (.int 1))) trD (λenv=>∃y,env=[y,some (.sh od)]) (λv=>decide (v.1=g)) (λv=> .int v.2.1) ws [none,some (.sh od)] ⟨none,rfl⟩ (by
  rintro v _ env ⟨y,rfl⟩;exact⟨_,rfl,⟨_,rfl⟩,by simp[trD,o1];rfl,λ_=> ⟨.c,by simp[trD],rfl⟩⟩)
 rw[c];unfold cE;rw[GaU]
 rfl
theorem N7(l:List Int)(d:Int):mmD kO (.int d) (.lst (l.map .int))=some ⟨.c,.int (minD d l)⟩:=by
 unfold mmD kN;simp only[Option.bind_some,uL];cases l<;>rfl
variable{CS:List D}{sd:D}
theorem N8{bk gd:D}{W bl:List D}{st yg mn:Int}{kb:Bool}{L:List D}(xT:wd= .tup [.tup A,.tup B,.tup C,.tup O])(oa:atD O n=some od)(o1:ixD od (.int 1)=some (.int g))(o2:ixD od (.int 2)=some (.int st))(sa:atD B st=some sd)(s2:ixD sd (.int 2)=some (.tup CS))(s3:ixD sd (.int 3)=some (.int yg))(ga:atD A g=some gd)(g1:ixD gd (.int 1)=some (.int xb))(zc:CS.length<=1000)(zw:W.length<=1000)(b0:ixD bk (.int 0)=some (.tup W))
  (ck:bF (gN 0) cT (bE (az eqB (ixE (vE 0) (kE (.int 0))) (kE (.str "kilo")))) CS [none]=some bl)(an:anyS [.lst bl]=some ⟨.c,.bl kb⟩)(cw:bF (gN 0) (az eqB (ixE (vE 0) (kE (.int 0))) (ixE (vE 1) (kE (.int 1)))) (ixE (vE 0) (kE (.int 1))) W [none,some (.sh od)]=some L)(em:mmD kO (.int (last+1)) (.lst L)=some ⟨.c,.int mn⟩):
  cx [wd,bk,.int n,.int h,.int last]=some (.lst (.tup [.int h,.int (xb+yg -1)]::if kb then[.tup [.int h,.int (mn -1)]] else[])):=by
 have w3:ixD wd (.int 3)=some (.tup O):=by rw[xT];rfl
 have w1:ixD wd (.int 1)=some (.tup B):=by rw[xT];rfl
 have w0:ixD wd (.int 0)=some (.tup A):=by rw[xT];rfl
 have z1:CS.length<=16777216:=by lia
 have z2:W.length<=16777216:=by lia
 clear xT;refine b5 rfl ?_;unfold gO;refine(ag (e:=[some (.sh wd),some (.sh bk),some (.sh (.int n)),some (.sh (.int h)),some (.sh (.int last)),some (.sh od),none,none,none]) (by simp[bw,w3,oa])).trans ?_;refine(ag (e:=[some (.sh wd),some (.sh bk),some (.sh (.int n)),some (.sh (.int h)),some (.sh (.int last)),some (.sh od),some (.sh sd),none,none]) (by simp[w1,o2,sa])).trans ?_;refine(ag (e:=[some (.sh wd),some (.sh bk),some (.sh (.int n)),some (.sh (.int h)),some (.sh (.int last)),some (.sh od),some (.sh sd),some (.own (.lst [.tup [.int h,.int (xb+yg -1)]])),none]) (by simp[w0,o1,ga,g1,s3,a9])).trans ?_;have c0:DL.compEnv 1 [] [some (.sh wd),some (.sh bk),some (.sh (.int n)),some (.sh (.int h)),some (.sh (.int last)),some (.sh od),some (.sh sd),some (.own (.lst [.tup [.int h,.int (xb+yg -1)]])),none]=[none]:=rfl;have c1:DL.compEnv 1 [5] [some (.sh wd),some (.sh bk),some (.sh (.int n)),some (.sh (.int h)),some (.sh (.int last)),some (.sh od),some (.sh sd),some (.own (.lst [.tup [.int h,.int (xb+yg -1)]])),none]=[none,some (.sh od)]:=rfl;cases kb with
 |false=>
  rw[Gag Gal];simp[-az,-bE,s2,z1,a9,c0,ck,an]
 |true=>
  rw[Gah rfl];refine(ag (e:=[some (.sh wd),some (.sh bk),some (.sh (.int n)),some (.sh (.int h)),some (.sh (.int last)),some (.sh od),some (.sh sd),some (.own (.lst [.tup [.int h,.int (xb+yg -1)],.tup [.int h,.int (mn -1)]])),some (.own (.lst L))]) ?_).trans ?_
  .refine(QR (by simp[-az,-bE,s2,z1,a9,c0,ck,an])).trans ?_;refine(ag (e:=[some (.sh wd),some (.sh bk),some (.sh (.int n)),some (.sh (.int h)),some (.sh (.int last)),some (.sh od),some (.sh sd),some (.own (.lst [.tup [.int h,.int (xb+yg -1)]])),some (.own (.lst L))]) (by simp[-az,b0,z2,a9,c1,cw])).trans ?_;simp[em,a9]
  .simp
theorem IF{g:Str×Int}(zw:ws.length<=1000)(so:cC s)(oa:atD (w.orders.map ah) n=some (ah o))(sa:atD (w.aw.map au) o.af=some (au s))(ga:atD (w.aT.map aM) o.aa=some (aM g)):cx [aj w,bkD ws gv,.int n,.int h,.int last]=some (.lst ((fN s ws o.aa g.2 h last).map cj)):=by
 have cl:=so.cl;have an:=AG (s.ax.map cQ);have ak:(s.ax.map cQ).any id=s.ax.any cQ:=by rw[GdO];rfl
 rw[ak] at an;have e:=N8 (wd:=aj w) (bk:=bkD ws gv) (h:=h) (last:=last) (mn:=minD (last+1) (cE ws o.aa)) rfl oa rfl rfl sa rfl rfl ga rfl (by rw[Gab];lia) (by rw[Gab];exact zw) rfl (IE s.ax) an (wq rfl) (N7 ..);rw[e];unfold fN;rw[GaA];congr 2;congr 1;split<;>rfl
theorem nH:bF (gN 0) (az eqB (ixE (vE 0) (kE (.int 0))) (vE 1)) (ixE (vE 0) (kE (.int 1))) (ws.map trD) [none,some (.sh (.int g))]=some ((cE ws g).map .int):=by
 have c:=fz (g:=gN 0) (t:=az eqB (ixE (vE 0) (kE (.int 0))) (vE 1)) (f:=ixE (vE 0) (kE (.int 1))) trD (λenv=>∃y,env=[y,some (.sh (.int g))]) (λv=>decide (v.1=g)) (λv=> .int v.2.1) ws [none,some (.sh (.int g))] ⟨none,rfl⟩ (by
  rintro v _ env ⟨y,rfl⟩;exact⟨_,rfl,⟨_,rfl⟩,by simp[trD];rfl,λ_=> ⟨.c,by simp[trD],rfl⟩⟩)
 rw[c];unfold cE;rw[GaU]
 rfl
theorem uX{H:Int}(c1:ixD cd (.int 1)=some (.int H)):bF (gN 0) cT (opE av (ixE (vE 0) (kE (.int 0))) (ixE (vE 1) (kE (.int 1)))) (ms.map mk2) [none,some (.sh cd)]=some ((ms.map λp=>p.1+H).map .int):=by
 have c:=de (g:=gN 0) (f:=opE av (ixE (vE 0) (kE (.int 0))) (ixE (vE 1) (kE (.int 1)))) mk2 (λenv=>∃y,env=[y,some (.sh cd)]) (λp=> .int (p.1+H)) ms [none,some (.sh cd)] ⟨none,rfl⟩ (by
  rintro p _ env ⟨y,rfl⟩;exact⟨_,rfl,⟨_,rfl⟩,.c,by simp[mk2,c1],rfl⟩)
 rw[c,GaU]
 rfl
theorem wu:∀{ds:List D} {k:Nat} {d:D},aC ds=true->ds[k]? =some d->d.imm=true
 |[],k,d,_,e=>by simp at e
 |x::xs,0,d,h,e=>by
  unfold aC at h;rw[Gan] at h;cases e;exact h.1
 |x::xs,k+1,d,h,e=>by
  unfold aC at h;rw[Gan] at h;exact wu h.2 (by simpa using e)
theorem CF{W L1 L2:List D}{ev:Bool}{x:Str}(c0:ixD cd (.int 0)=some (.str x))(hx:eqB (.str x) (.str "ever")=some ev)(zm:M.length<=1000)(zw:W.length<=1000)(l1:L1.length<=1000)(l2:L2.length<=1000)(i1:aC L1=true)(i2:aC L2=true)(cw:bF (gN 0) (az eqB (ixE (vE 0) (kE (.int 0))) (vE 1)) (ixE (vE 0) (kE (.int 1))) W [none,some (.sh (.int g))]=some L1)
  (cm:ev=false->bF (gN 0) cT (opE av (ixE (vE 0) (kE (.int 0))) (ixE (vE 1) (kE (.int 1)))) M [none,some (.sh cd)]=some L2):gx [cd,.lst M,.tup W,.int g,.int h]=some (.lst (.int h::(L1++if ev then[] else L2))):=by
 have z1:W.length<=16777216:=by lia
 have z2:M.length<=16777216:=by lia
 have z3:1+L1.length<=16777216:=by lia
 have z4:L1.length+1+L2.length<=16777216:=by lia
 have e0:DL.compEnv 1 [3] [some (.sh cd),some (.sh (.lst M)),some (.sh (.tup W)),some (.sh (.int g)),some (.sh (.int h)),none]=[none,some (.sh (.int g))]:=rfl;refine b5 rfl ?_;unfold ly;refine(ag (e:=[some (.sh cd),some (.sh (.lst M)),some (.sh (.tup W)),some (.sh (.int g)),some (.sh (.int h)),some (.own (.lst (.int h::L1)))]) (by simp[-az,bw,z1,a9,e0,cw,z3])).trans ?_;have e1:DL.compEnv 1 [0] [some (.sh cd),some (.sh (.lst M)),some (.sh (.tup W)),some (.sh (.int g)),some (.sh (.int h)),some (.own (.lst (.int h::L1)))]=[none,some (.sh cd)]:=rfl;cases ev with
 |true=>simp[c0,hx,i1]
 |false=>
  have Te :=cm rfl;have i3:aC (L1++L2)=true:=k8 λd hd=>by
   rcases GaF.mp hd with hd|hd
   .obtain⟨k,hk⟩:=GbL hd;exact wu i1 hk
   .obtain⟨k,hk⟩:=GbL hd;exact wu i2 hk
  refine(ag (e:=[some (.sh cd),some (.sh (.lst M)),some (.sh (.tup W)),some (.sh (.int g)),some (.sh (.int h)),some (.own (.lst (.int h::L1)))]) (by simp[c0,hx])).trans ?_;simp[-opE,z2,a9,e1,Te];simp[opE,z2,a9,e1,Te,z4,i3]
theorem CG(zm:ms.length<=1000)(zw:ws.length<=1000):gx [b6 c,.lst (ms.map mk2),.tup (ws.map trD),.int g,.int h]=some (.lst ((steps c ms ws g h).map .int)):=by
 have wl:(cE ws g).length<=1000:=by
  unfold cE;rw[Gab];have:=Gbc (λv:Tr=>decide (v.1=g)) ws;lia
 have em:(steps c ms ws g h).map D.int= .int h::((cE ws g).map .int++(match mG c with
  |some H=>(ms.map λp=>p.1+H).map D.int
  |none=>[])):=by
  unfold steps cE;rw[GaA,GaC];cases mG c<;>rfl
 rw[em];cases c with
 |flat H t=>exact CF (ev:=false) (x:="flat") rfl rfl (by rw[Gab];exact zm) (by rw[Gab];exact zw) (by rw[Gab];exact wl) (by rw[Gab,Gab];exact zm) (fK _) (fK _) nH λ_=>uX rfl
 |kilo H t p=>exact CF (ev:=false) (x:="kilo") rfl rfl (by rw[Gab];exact zm) (by rw[Gab];exact zw) (by rw[Gab];exact wl) (by rw[Gab,Gab];exact zm) (fK _) (fK _) nH λ_=>uX rfl
 |ever t=>exact CF (ev:=true) (x:="ever") (L2:=[]) rfl rfl (by rw[Gab];exact zm) (by rw[Gab];exact zw) (by rw[Gab];exact wl) (by simp) (fK _) rfl nH λz=>by cases z
noncomputable def zl(f:Int->Int)(last:Int):List Int->List D
 |[]=>[]
 |[x]=>[.tup [mk2 (x,f x),.int last]]
 |x::u::R=> .tup [mk2 (x,f x),.int (u -1)]::zl f last (u::R)
theorem IG(f:Int->Int)(last:Int):∀R:List Int,GH (R.map λx=>mk2 (x,f x)) ((R.tail.map λu=>D.int (u -1))++[.int last])=zl f last R
 |[]=>rfl
 |[x]=>rfl
 |x::u::R=>by
  have ih:=IG f last (u::R);unfold zl;rw[<-ih]
  rfl
theorem KR(x:Int)(l:List Int):inB (.int x) (.lst (l.map .int))=some (l.contains x):=by
 show mJ _ _=_;unfold mJ;have p1:(l.map D.int).all (aD 10)=true:=Co 10 l;have p2:aD 10 (.int x)=true:=rfl;rw[p1,p2];show some ((l.map D.int).any λy=>eqD y (.int x))=_;rw[GdO];congr 1;rw[GdL,GbG,GdF];constructor
 .rintro⟨y,hy,e⟩;have e' :decide (y=x)=true:=e;rw[<-Gao e'];exact hy
 .intro h;exact⟨x,h,Gaz rfl⟩
noncomputable def ovO(to:Option Int)(v:Int):Bool:=match to with
 |some top=>decide (top<v)
 |none=>false
variable{GV:List D}
theorem KS{HD:D}{W E:List D}{sm en bgx:Int}{gv:List Int}{ov:Bool}{x14 x15:Os}(hH:iO c=HD)(UA:gv.map .int=GV)(ew:gr [.tup W,.int g,.int x]=some (d6 wo))(eb:i9 [cd,d6 wo]=some (d6 to))(ho:ovO to (sm+a)=ov)(hb:(if gv.contains x then(match mG c with|some H=>x -H+1|none=>h) else x)=bgx)(hz:F.length<100000):∃yd xO:Os,
  bA [some (.sh cd),some (.sh (.lst M)),some (.sh (.tup W)),some (.sh (.int g)),some (.sh (.int a)),some (.sh (.int h)),some (.sh (.int last)),some (.sh HD),some (.own (.lst GV)),some (.sh (.lst R)),some (.sh (.lst E)),some (.sh (.tup [.int x,.int sm])),some (.own (.lst F)),some (.sh (.int en)),x14,x15]=
   some (.nx [some (.sh cd),some (.sh (.lst M)),some (.sh (.tup W)),some (.sh (.int g)),some (.sh (.int a)),some (.sh (.int h)),some (.sh (.int last)),some (.sh HD),some (.own (.lst GV)),some (.sh (.lst R)),some (.sh (.lst E)),some (.sh (.tup [.int x,.int sm])),some (.own (.lst (F++if ov then[.tup [.int bgx,.int en]] else[]))),some (.sh (.int en)),yd,xO]):=by
 have z:F.length<16777216:=by lia
 have ib:=fL to;have rb:=b7 ib;have xK :=b7 (fL wo);have ig:=KR x gv;rw[UA] at ig;unfold bA;cases to with
 |none=>
  refine⟨some (.sh .non),x15, ?_⟩;have xo :false=ov:=ho;rw[<-xo,Gag Gal,GaV];simp[ew,xK,eb]
 |some top=>
  have xo :decide (top<sm+a)=ov:=ho;refine Exists.intro (some (.sh (.int top))) ?_;by_cases c1:top<sm+a
  .rw[Gaz c1] at xo;rw[<-xo,Gah rfl];cases cg:gv.contains x with
   |false=>
    rw[cg] at ig hb;rw[Gag Gal] at hb;subst hb;refine⟨some (.sh (.int x)), ?_⟩;simp[ew,xK,eb,c1,ig,a9,z]
   |true=>
    rw[cg] at ig hb;rw[Gah rfl] at hb;refine⟨some (.sh (.int bgx)), ?_⟩;subst hH;cases c with
    |flat H t=>
     have xq :x -H+1=bgx:=hb;unfold iO;simp[ew,xK,eb,c1,ig,a9,z,xq]
    |kilo H t p=>
     have xq :x -H+1=bgx:=hb;unfold iO;simp[ew,xK,eb,c1,ig,a9,z,xq]
    |ever t=>
     have xq :h=bgx:=hb;unfold iO;simp[ew,xK,eb,c1,ig,a9,z,xq]
  .rw[Gax c1] at xo;refine⟨x15, ?_⟩;rw[<-xo,Gag Gal,GaV];simp[ew,xK,eb,c1]
theorem KU{R0 E0:List D}(ok:jz c):∀(R:List Int) (F:List Sp) (h8 x13 x14 x15:Os),F.length+R.length<10000->∃xh xR yd xO:Os,
  forL (gT [11,13]) bA (zl (b4 c ms) last R) [some (.sh (b6 c)),some (.sh (.lst (ms.map mk2))),some (.sh (.tup (ws.map trD))),some (.sh (.int g)),some (.sh (.int a)),some (.sh (.int h)),some (.sh (.int last)),some (.sh (iO c)),some (.own (.lst ((ms.map (·.1)).map .int))),some (.sh (.lst R0)),some (.sh (.lst E0)),h8,some (.own (.lst (F.map cj))),x13,x14,x15]=
   some (.nx [some (.sh (b6 c)),some (.sh (.lst (ms.map mk2))),some (.sh (.tup (ws.map trD))),some (.sh (.int g)),some (.sh (.int a)),some (.sh (.int h)),some (.sh (.int last)),some (.sh (iO c)),some (.own (.lst ((ms.map (·.1)).map .int))),some (.sh (.lst R0)),some (.sh (.lst E0)),xh,some (.own (.lst ((F++iQ (cK ws c g ms a) (bgC c ms h) last R).map cj))),xR,yd,xO]):=by
 have one:∀(x en:Int) (F:List Sp) (x14 x15:Os),F.length<10000->∃yd xO:Os,
   bA [some (.sh (b6 c)),some (.sh (.lst (ms.map mk2))),some (.sh (.tup (ws.map trD))),some (.sh (.int g)),some (.sh (.int a)),some (.sh (.int h)),some (.sh (.int last)),some (.sh (iO c)),some (.own (.lst ((ms.map (·.1)).map .int))),some (.sh (.lst R0)),some (.sh (.lst E0)),some (.sh (mk2 (x,b4 c ms x))),some (.own (.lst (F.map cj))),some (.sh (.int en)),x14,x15]=
    some (.nx [some (.sh (b6 c)),some (.sh (.lst (ms.map mk2))),some (.sh (.tup (ws.map trD))),some (.sh (.int g)),some (.sh (.int a)),some (.sh (.int h)),some (.sh (.int last)),some (.sh (iO c)),some (.own (.lst ((ms.map (·.1)).map .int))),some (.sh (.lst R0)),some (.sh (.lst E0)),some (.sh (mk2 (x,b4 c ms x))),some (.own (.lst ((F++if cK ws c g ms a x then[(bgC c ms h x,en)] else[]).map cj))),some (.sh (.int en)),yd,xO]):=λx en F x14 x15 hz=>by
  obtain⟨yd,xO,e⟩:=KS (c:=c) (M:=ms.map mk2) (R:=R0) (E:=E0) (F:=F.map cj) (g:=g) (a:=a) (h:=h) (last:=last) (x:=x) (sm:=b4 c ms x) (en:=en) (gv:=ms.map (·.1)) (ov:=cK ws c g ms a x) (bgx:=bgC c ms h x) (x14:=x14) (x15:=x15) rfl rfl se (Cq ok) rfl rfl (by rw[Gab];lia);have em:F.map cj++(if cK ws c g ms a x=true then[D.tup [.int (bgC c ms h x),.int en]] else[])=(F++if cK ws c g ms a x=true then[(bgC c ms h x,en)] else[]).map cj:=by
   rw[GaC];split<;>rfl
  rw[em] at e;exact⟨yd,xO,e⟩
 intro R;induction R with
 |nil=>intro F h8 x13 x14 x15 _;exact⟨h8,x13,x14,x15,by simp[zl,iQ]⟩
 |cons x R ih=>
  intro F h8 x13 x14 x15 hz;rw[Gay] at hz;cases R with
  |nil=>
   obtain⟨yd,xO,e⟩:=one x last F x14 x15 (by lia);refine⟨some (.sh (mk2 (x,b4 c ms x))),some (.sh (.int last)),yd,xO, ?_⟩;unfold zl iQ;generalize mk2 (x,b4 c ms x)=rd at*;generalize ms.map mk2=M at*;simp only[forL,gT,gNs,GaK,GaL,Option.bind_some,e]
  |cons u R=>
   obtain⟨Tn,Tj,e⟩:=one x (u -1) F x14 x15 (by lia);obtain⟨xh,xR,yd,xO,e2⟩:=ih (F++if cK ws c g ms a x then[(bgC c ms h x,u -1)] else[]) (some (.sh (mk2 (x,b4 c ms x)))) (some (.sh (.int (u -1)))) Tn Tj (by
    rw[Gai];have:(if cK ws c g ms a x then[(bgC c ms h x,u -1)] else[]).length<=1:=by split<;>simp
    lia)
   refine⟨xh,xR,yd,xO, ?_⟩;unfold zl;have ec:iQ (cK ws c g ms a) (bgC c ms h) last (x::u::R)=(if cK ws c g ms a x then[(bgC c ms h x,u -1)] else[])++iQ (cK ws c g ms a) (bgC c ms h) last (u::R):=rfl;rw[ec,<-Gba];generalize mk2 (x,b4 c ms x)=rd at*;generalize ms.map mk2=M at*;simp only[forL,gT,gNs,GaK,GaL,Option.bind_some,e];exact e2
theorem IH{st:List Int}:b4 c (ms++st.map λs=>(s,0)) x=b4 c ms x:=by
 unfold b4;rw[GaC,List.sum_append,GaU];have:(st.map ((λp:Int×Int=>if cU c x p.1 then p.2 else 0)∘λs=>(s,0))).sum=0:=by
  induction st with
  |nil=>rfl
  |cons s st ih=>
   rw[GaA,List.sum_cons,ih];simp
 rw[this];lia
theorem CH(ms:List (Int×Int)):bF (gN 0) cT (ixE (vE 0) (kE (.int 0))) (ms.map mk2) [none]=some ((ms.map (·.1)).map .int):=by
 have c:=de (g:=gN 0) (f:=ixE (vE 0) (kE (.int 0))) mk2 (λenv=>∃y,env=[y]) (λp=> .int p.1) ms [none] ⟨none,rfl⟩ (by
  rintro p _ env ⟨y,rfl⟩;exact⟨_,rfl,⟨_,rfl⟩,.c,by simp[mk2],rfl⟩)
 rw[c,GaU]
 rfl
theorem FY(st:List Int):bF (gN 0) cT (aS (a7 (vE 0) (a7 (kE (.int 0)) ae))) (st.map .int) [none]=some ((st.map λs=>(s,0)).map mk2):=by
 have c:=de (g:=gN 0) (f:=aS (a7 (vE 0) (a7 (kE (.int 0)) ae))) D.int (λenv=>∃y,env=[y]) (λs=> .tup [.int s,.int 0]) st [none] ⟨none,rfl⟩ (by
  rintro p _ env ⟨y,rfl⟩;exact⟨_,rfl,⟨_,rfl⟩,.c,by simp[a9],rfl⟩)
 rw[c,GaU]
 rfl
theorem FZ(R:List Int)(f:Int->Int):bF (gN 0) cT (opE gI (ixE (vE 0) (kE (.int 0))) (kE (.int 1))) (R.map λx=>mk2 (x,f x)) [none]=some (R.map λu=>D.int (u -1)):=by
 refine de (g:=gN 0) (f:=opE gI (ixE (vE 0) (kE (.int 0))) (kE (.int 1))) (λx=>mk2 (x,f x)) (λenv=>∃y,env=[y]) (λu=> .int (u -1)) R [none] ⟨none,rfl⟩ ?_;rintro p _ env ⟨y,rfl⟩;exact⟨_,rfl,⟨_,rfl⟩,.c,by simp[mk2],rfl⟩
theorem N9{f g:DE}{x y r:RV}(hf:f env=some x)(hg:g env=some y)(h:av x.d y.d=some r):opE av f g env=some r:=by
 unfold opE;rw[hf,Option.bind_some,hg,Option.bind_some,h]
theorem Na{f:DE}{e:DL.Env}{r:RV}(hf:f env=some r)(hs:stored i r env=some e):ar i f env=some (.nx e):=by
 unfold ar;rw[hf,Option.bind_some,hs]
 rfl
variable{FF:List D}
theorem Nb{HD:D}{W ST SM RW RT EN ZL:List D}{xR yd xO:Os}(eh:(ifE (az eqB (ixE (vE 0) (kE (.int 0))) (kE (.str "ever"))) (kE .non) (ixE (vE 0) (kE (.int 1)))) [some (.sh cd),some (.sh (.lst M)),some (.sh (.tup W)),some (.sh (.int g)),some (.sh (.int a)),some (.sh (.int h)),some (.sh (.int last)),none,none,none,none,none,none,none,none,none]=some ⟨.c,HD⟩)(zm:M.length<=1000)(zs:ST.length<=1000)(zr:RT.length<=1000)(cg:bF (gN 0) cT (ixE (vE 0) (kE (.int 0))) M [none]=some GV)
  (es:gx [cd,.lst M,.tup W,.int g,.int h]=some (.lst ST))(cz:bF (gN 0) cT (aS (a7 (vE 0) (a7 (kE (.int 0)) ae))) ST [none]=some SM)(zz:SM.length<=1000)(er:ja [.lst (M++SM),HD]=some (.lst RW))(sl:slD (some 1) none (.lst RW)=some ⟨.tn,.lst RT⟩)(ce:bF (gN 0) cT (opE gI (ixE (vE 0) (kE (.int 0))) (kE (.int 1))) RT [none]=some EN)(ze:EN.length<=1000)(hz:GH RW (EN++[.int last])=ZL)(ir:aC FF=true)
  (e:forL (gT [11,13]) bA ZL [some (.sh cd),some (.sh (.lst M)),some (.sh (.tup W)),some (.sh (.int g)),some (.sh (.int a)),some (.sh (.int h)),some (.sh (.int last)),some (.sh HD),some (.own (.lst GV)),some (.sh (.lst RW)),some (.sh (.lst (EN++[.int last]))),none,some (.own (.lst [])),none,none,none]=some (.nx [some (.sh cd),some (.sh (.lst M)),some (.sh (.tup W)),some (.sh (.int g)),some (.sh (.int a)),some (.sh (.int h)),some (.sh (.int last)),some (.sh HD),some (.own (.lst GV)),some (.sh (.lst RW)),some (.sh (.lst (EN++[.int last]))),xh,some (.own (.lst FF)),xR,yd,xO])):
  bK [cd,.lst M,.tup W,.int g,.int a,.int h,.int last]=some (.lst FF):=by
 have z1:M.length<=16777216:=by lia
 have z2:ST.length<=16777216:=by lia
 have z3:M.length+SM.length<=16777216:=by lia
 have z4:RT.length<=16777216:=by lia
 have z5:EN.length+1<=16777216:=by lia
 refine b5 rfl ?_;unfold gP;have st0:bw 16 [cd,.lst M,.tup W,.int g,.int a,.int h,.int last]=[some (.sh cd),some (.sh (.lst M)),some (.sh (.tup W)),some (.sh (.int g)),some (.sh (.int a)),some (.sh (.int h)),some (.sh (.int last)),none,none,none,none,none,none,none,none,none]:=rfl;rw[st0];refine(ag (e:=[some (.sh cd),some (.sh (.lst M)),some (.sh (.tup W)),some (.sh (.int g)),some (.sh (.int a)),some (.sh (.int h)),some (.sh (.int last)),some (.sh HD),none,none,none,none,none,none,none,none]) (by
  unfold ar;rw[eh]
  rfl)).trans ?_
 have c0:∀(q8 q9 TF:Os),DL.compEnv 1 [] [some (.sh cd),some (.sh (.lst M)),some (.sh (.tup W)),some (.sh (.int g)),some (.sh (.int a)),some (.sh (.int h)),some (.sh (.int last)),some (.sh HD),q8,q9,TF,none,none,none,none,none]=[none]:=λ_ _ _=>rfl;refine(ag (e:=[some (.sh cd),some (.sh (.lst M)),some (.sh (.tup W)),some (.sh (.int g)),some (.sh (.int a)),some (.sh (.int h)),some (.sh (.int last)),some (.sh HD),some (.own (.lst GV)),none,none,none,none,none,none,none]) (by simp[-ixE,z1,a9,c0,cg])).trans ?_;refine(ag (e:=[some (.sh cd),some (.sh (.lst M)),some (.sh (.tup W)),some (.sh (.int g)),some (.sh (.int a)),some (.sh (.int h)),some (.sh (.int last)),some (.sh HD),some (.own (.lst GV)),some (.own (.lst RW)),none,none,none,none,none,none]) (by simp[-aS,es,z2,a9,c0,cz,z3,er])).trans ?_;refine(ag (e:=[some (.sh cd),some (.sh (.lst M)),some (.sh (.tup W)),some (.sh (.int g)),some (.sh (.int a)),some (.sh (.int h)),some (.sh (.int last)),some (.sh HD),some (.own (.lst GV)),some (.own (.lst RW)),some (.own (.lst (EN++[.int last]))),none,none,none,none,none]) (Na (r:=⟨.tn,.lst (EN++[.int last])⟩) (N9 (x:=⟨.tn,.lst EN⟩) (y:=⟨.tn,.lst [.int last]⟩) (by simp[-opE,-ixE,sl,z4,a9,c0,ce]) (by simp[a9]) (by simp[a9,z5])) (by simp))).trans ?_;refine(ag (e:=[some (.sh cd),some (.sh (.lst M)),some (.sh (.tup W)),some (.sh (.int g)),some (.sh (.int a)),some (.sh (.int h)),some (.sh (.int last)),some (.sh HD),some (.own (.lst GV)),some (.own (.lst RW)),some (.own (.lst (EN++[.int last]))),none,some (.own (.lst [])),none,none,none]) (by simp[a9])).trans ?_;refine(ag (e:=[some (.sh cd),some (.sh (.lst M)),some (.sh (.tup W)),some (.sh (.int g)),some (.sh (.int a)),some (.sh (.int h)),some (.sh (.int last)),some (.sh HD),some (.own (.lst GV)),some (.sh (.lst RW)),some (.sh (.lst (EN++[.int last]))),xh,some (.own (.lst FF)),xR,yd,xO]) (by
  generalize EN++[.int last]=EE at*;simp[-forL,hz,e,freed])).trans ?_
 simp[ir]
theorem CI(ok:jz c)(hl:2*ms.length+ws.length<60):bK [b6 c,.lst (ms.map mk2),.tup (ws.map trD),.int g,.int a,.int h,.int last]=some (.lst ((iQ (cK ws c g ms a) (bgC c ms h) last (jA (ms.map (·.1)++steps c ms ws g h))).map cj)):=by
 have sl:(steps c ms ws g h).length<=1+ws.length+ms.length:=by
  unfold steps;have:=Gbc (λv:Tr=>decide (v.1=g)) ws;rw[Gay,Gai,Gab];cases mG c with
  |none=>simp;lia
  |some H=>simp;lia
 have e1:(ms++(steps c ms ws g h).map λs=>(s,(0:Int))).map (·.1)=ms.map (·.1)++steps c ms ws g h:=by
  rw[GaC,GaU];congr 1
  conv=>rhs;rw[<-Gda (steps c ms ws g h)]
  rfl
 have er:=Ib (ms:=ms++(steps c ms ws g h).map λs=>(s,(0:Int))) ok (by rw[Gai,Gab];lia);rw[e1] at er;have rl:=(jB (ms.map (·.1)++steps c ms ws g h)).2.2;rw[Gai,Gab] at rl;generalize hR:jA (ms.map (·.1)++steps c ms ws g h)=R at*;have e2:(R.map λx=>(x,b4 c (ms++(steps c ms ws g h).map λs=>(s,(0:Int))) x)).map mk2=R.map λx=>mk2 (x,b4 c ms x):=by
  rw[GaU];refine GaT λx _=> ?_;simp only[GbE,IH]
 rw[e2,GaC] at er;obtain⟨xh,xR,yd,xO,e⟩:=KU (ws:=ws) (c:=c) (g:=g) (a:=a) (h:=h) (last:=last) (ms:=ms) (R0:=R.map λx=>mk2 (x,b4 c ms x)) (E0:=(R.tail.map λu=>D.int (u -1))++[.int last]) ok R [] none none none none (by simp;lia);rw[Gby,Gdi] at e;have cut:=Ia (R.map λx=>mk2 (x,b4 c ms x)) 0;have e3:(R.map λx=>mk2 (x,b4 c ms x)).drop (0+1)=R.tail.map λx=>mk2 (x,b4 c ms x):=by cases R<;>rfl
 rw[e3] at cut;have ln:(steps c ms ws g h).length<=1000:=by lia
 refine Nb (HD:=iO c) (ST:=(steps c ms ws g h).map .int) (SM:=((steps c ms ws g h).map λs=>(s,(0:Int))).map mk2) (RT:=R.tail.map λx=>mk2 (x,b4 c ms x)) (EN:=R.tail.map λu=>D.int (u -1)) ?_ (by rw[Gab];lia) (by rw[Gab];exact ln) (by rw[Gab,List.length_tail];lia) (CH ms) (CG (by lia) (by lia)) (FY _) (by rw[Gab,Gab];exact ln) er cut (FZ _ _) (by rw[Gab,List.length_tail];lia) (IG _ _ R) (qD _) e;cases c<;>simp[b6,iO]
theorem uY(so:cC s)(oa:atD (w.orders.map ah) n=some (ah o))(sa:atD (w.aw.map au) o.af=some (au s)):dP [aj w,.int n,.int a]=some (.bl (decide (1<=a/\a%s.part=0/\a<=o.most))):=by
 have p1:=so.p1;have p0:0<s.part:=by lia
 have w3:ixD (aj w) (.int 3)=some (.tup (w.orders.map ah)):=rfl;have w1:ixD (aj w) (.int 1)=some (.tup (w.aw.map au)):=rfl;have i2:ixD (ah o) (.int 2)=some (.int o.af):=rfl;have i3:ixD (ah o) (.int 3)=some (.tup [.str o.way,.int o.top,.int o.per,.int o.most]):=rfl;have s1:ixD (au s) (.int 1)=some (.tup (.int s.part::s.more.map .int)):=rfl;generalize aj w=wd at*;generalize ah o=od at*;generalize au s=sd at*;refine b5 rfl ?_;unfold jb;refine(ag (e:=[some (.sh wd),some (.sh (.int n)),some (.sh (.int a)),some (.sh od)]) (by simp[bw,w3,oa])).trans ?_;by_cases c1:1<=a
 .by_cases c2:a%s.part=0
  .by_cases c3:a<=o.most<;>simp[c1,c2,c3,w1,i2,sa,s1,p0,i3]
  .simp[c1,c2,w1,i2,sa,s1,p0]
 .simp[c1]
theorem G0(l:List Int):bF (gN 0) cT (aS (a7 (vE 0) (a7 (vE 0) ae))) (l.map .int) [none]=some ((l.map λx=>(x,x)).map cj):=by
 have c:=de (g:=gN 0) (f:=aS (a7 (vE 0) (a7 (vE 0) ae))) D.int (λenv=>∃y,env=[y]) (λx=> .tup [.int x,.int x]) l [none] ⟨none,rfl⟩ (by
  rintro p _ env ⟨y,rfl⟩;exact⟨_,rfl,⟨_,rfl⟩,.c,by simp[a9],rfl⟩)
 rw[c,GaU]
 rfl
theorem Be(sh:Int->Bool)(bg:Int->Int)(last:Int):∀R:List Int,(iQ sh bg last R).length<=R.length
 |[]=>by simp[iQ]
 |[x]=>by unfold iQ;split<;>simp
 |x::u::R=>by
  have:=Be sh bg last (u::R);unfold iQ;have l1:(if sh x=true then[(bg x,u -1)] else[]).length<=1:=by split<;>simp
  rw[Gai,Gay];lia
variable{HS:List D}
theorem KW{bk:D}{W:List D}(b0:ixD bk (.int 0)=some (.tup W))(o1:ixD od (.int 1)=some (.int g))(e:bK [cd,.lst M,.tup W,.int g,.int a,.int h,.int last]=some (.lst R))(hz:F.length+R.length<100000):
  bQ [some (.sh wd),some (.sh bk),some (.sh (.int n)),some (.sh (.int a)),some (.sh (.int h)),some (.sh (.int last)),some (.sh od),some (.own (.lst HS)),some (.own (.lst M)),some (.own (.lst F)),some (.sh cd)]=
   some (.nx [some (.sh wd),some (.sh bk),some (.sh (.int n)),some (.sh (.int a)),some (.sh (.int h)),some (.sh (.int last)),some (.sh od),some (.own (.lst HS)),some (.own (.lst M)),some (.own (.lst (F++R))),some (.sh cd)]):=by
 have z:F.length+R.length<=16777216:=by lia
 unfold bQ;simp[b0,o1,e,z,a9]
theorem Em{w:World}{ws gv:List Tr}{HS:List D}{n a h last:Int}{o:Order}(hl:2*(aA w gv (o.aa,o.af)).length+ws.length<60):∀(cs:List Cap) (F:List Sp) (eM:Os),(∀c∈cs,jz c)->F.length+100*cs.length<10000->∃eO:Os,
  forL (gN 10) bQ (cs.map b6) [some (.sh (aj w)),some (.sh (bkD ws gv)),some (.sh (.int n)),some (.sh (.int a)),some (.sh (.int h)),some (.sh (.int last)),some (.sh (ah o)),some (.own (.lst HS)),some (.own (.lst ((aA w gv (o.aa,o.af)).map mk2))),some (.own (.lst (F.map cj))),eM]=
   some (.nx [some (.sh (aj w)),some (.sh (bkD ws gv)),some (.sh (.int n)),some (.sh (.int a)),some (.sh (.int h)),some (.sh (.int last)),some (.sh (ah o)),some (.own (.lst HS)),some (.own (.lst ((aA w gv (o.aa,o.af)).map mk2))),some (.own (.lst ((F++cs.flatMap (fO w ws gv o a h last)).map cj))),eO])
 |[],F,eM,_,_=> ⟨eM,by simp⟩
 |c::cs,F,eM,ok,hz=>by
  rw[Gay] at hz;have e:=CI (c:=c) (ms:=aA w gv (o.aa,o.af)) (ws:=ws) (g:=o.aa) (a:=a) (h:=h) (last:=last) (ok c Gaf) hl;have sl:(fO w ws gv o a h last c).length<=100:=by
   unfold fO;have l1:=Be (cK ws c o.aa (aA w gv (o.aa,o.af)) a) (bgC c (aA w gv (o.aa,o.af)) h) last (jA ((aA w gv (o.aa,o.af)).map (·.1)++steps c (aA w gv (o.aa,o.af)) ws o.aa h));have l2:=(jB ((aA w gv (o.aa,o.af)).map (·.1)++steps c (aA w gv (o.aa,o.af)) ws o.aa h)).2.2;rw[Gai,Gab] at l2;have l3:(steps c (aA w gv (o.aa,o.af)) ws o.aa h).length<=1+ws.length+(aA w gv (o.aa,o.af)).length:=by
    unfold steps;have:=Gbc (λv:Tr=>decide (v.1=o.aa)) ws;rw[Gay,Gai,Gab];cases mG c with
    |none=>simp;lia
    |some H=>simp;lia
   lia
  have e' :bK [b6 c,.lst ((aA w gv (o.aa,o.af)).map mk2),.tup (ws.map trD),.int o.aa,.int a,.int h,.int last]=some (.lst ((fO w ws gv o a h last c).map cj)):=e;have st:=KW (wd:=aj w) (bk:=bkD ws gv) (od:=ah o) (HS:=HS) (F:=F.map cj) (n:=n) rfl rfl e' (by rw[Gab,Gab];lia);rw[<-GaC] at st;obtain⟨eO,q⟩:=Em (w:=w) (ws:=ws) (gv:=gv) (HS:=HS) (n:=n) (a:=a) (h:=h) (last:=last) (o:=o) hl cs (F++fO w ws gv o a h last c) (some (.sh (b6 c))) (λd hd=>ok d (Gac _ hd)) (by rw[Gai];lia);refine⟨eO, ?_⟩;rw[GaA,GbD,<-Gba];generalize aj w=wd at*;generalize bkD ws gv=bk at*;generalize b6 c=cd at*;simp only[forL,gN,GaK,GaL,Option.bind_some,st];exact q
theorem II(hl:gv.length<64):c6 [bkD ws gv,.int n]=some (.lst ((gv.filter λt=>decide (t.1=n)).map λt=> .int t.2.1)):=by
 have h:=fz (g:=gN 0) (t:=az eqB (ixE (vE 0) (kE (.int 0))) (vE 1)) (f:=aS (a7 (ixE (vE 0) (kE (.int 1))) (a7 (ixE (vE 0) (kE (.int 2))) ae))) trD (λe=>∃x,e=[x,some (.sh (.int n))]) (λt=>decide (t.1=n)) (λt=>D.tup [.int t.2.1,.int t.2.2]) gv [none,some (.sh (.int n))] ⟨none,rfl⟩ (by
  rintro t _ e ⟨x,rfl⟩;refine⟨_,rfl,⟨_,rfl⟩, ?_,λ_=> ⟨.c, ?_,rfl⟩⟩
  .simp[trD];rfl
  .simp[trD,a9])
 have fl:=Gbc (λt:Tr=>decide (t.1=n)) gv;generalize (gv.filter λt=>decide (t.1=n))=l at*;have i:aC (l.map λt=>D.tup [.int t.2.1,.int t.2.2])=true:=fc (f:=λt:Tr=>D.tup [.int t.2.1,.int t.2.2]) (λt=>by simp) l;have z:l.length<=16777216:=by lia
 have z2:gv.length<=16777216:=by lia
 have c0:DL.compEnv 1 [1] [some (.sh (bkD ws gv)),some (.sh (.int n))]=[none,some (.sh (.int n))]:=rfl;have b1:ixD (bkD ws gv) (.int 1)=some (.tup (gv.map trD)):=rfl;have q:i8 [bkD ws gv,.int n]=some (.lst (l.map λt=>D.tup [.int t.2.1,.int t.2.2])):=by
  generalize bkD ws gv=bk at*;unfold i8 jU;simp[b1,h,z,z2,a9,c0,i]
 have h2:=de (g:=gN 0) (f:=ixE (vE 0) (kE (.int 0))) (λt:Tr=>D.tup [.int t.2.1,.int t.2.2]) (λe=>∃x,e=[x]) (λt=>D.int t.2.1) l [none] ⟨none,rfl⟩ (by
  rintro t _ e ⟨x,rfl⟩;exact⟨_,rfl,⟨_,rfl⟩,.c,by simp,rfl⟩)
 have i2:aC (l.map λt=>D.int t.2.1)=true:=fc (f:=λt:Tr=>D.int t.2.1) (λt=>by simp) l;have c1:DL.compEnv 1 [] [some (.sh (bkD ws gv)),some (.sh (.int n))]=[none]:=rfl;generalize bkD ws gv=bk at*;unfold c6 iJ;simp[q,h2,z,a9,c1,i2]
theorem Nc{bk:D}{MS PH D1 D2 D3:List D}{st:Int}(w3:ixD wd (.int 3)=some (.tup O))(w1:ixD wd (.int 1)=some (.tup B))(oa:atD O n=some od)(o2:ixD od (.int 2)=some (.int st))(sa:atD B st=some sd)(s2:ixD sd (.int 2)=some (.tup CS))(eh:c6 [bk,.int n]=some (.lst HS))(em:iK [wd,bk,.int n]=some (.lst MS))(zh:HS.length<=1000)(cp:bF (gN 0) cT (aS (a7 (vE 0) (a7 (vE 0) ae))) HS [none]=some PH)(ed:bJ [od,.lst HS,.int h,.int last]=some (.lst D1))(eg:d9 [wd,bk,.int n]=some (.lst D2))(ea:cx [wd,bk,.int n,.int h,.int last]=some (.lst D3))(z:PH.length+D1.length+D2.length+D3.length<100000)(ir:aC FF=true)
  (e:forL (gN 10) bQ CS [some (.sh wd),some (.sh bk),some (.sh (.int n)),some (.sh (.int a)),some (.sh (.int h)),some (.sh (.int last)),some (.sh od),some (.own (.lst HS)),some (.own (.lst MS)),some (.own (.lst (PH++D1++D2++D3))),none]=some (.nx [some (.sh wd),some (.sh bk),some (.sh (.int n)),some (.sh (.int a)),some (.sh (.int h)),some (.sh (.int last)),some (.sh od),some (.own (.lst HS)),some (.own (.lst MS)),some (.own (.lst FF)),eO])):
  cN [wd,bk,.int n,.int a,.int h,.int last]=some (.lst FF):=by
 have z0:HS.length<=16777216:=by lia
 have z1:PH.length+D1.length<=16777216:=by lia
 have z2:(PH++D1).length+D2.length<=16777216:=by rw[Gai];lia
 have z3:(PH++D1++D2).length+D3.length<=16777216:=by rw[Gai,Gai];lia
 refine b5 rfl ?_;unfold fY;refine(ag (e:=[some (.sh wd),some (.sh bk),some (.sh (.int n)),some (.sh (.int a)),some (.sh (.int h)),some (.sh (.int last)),some (.sh od),none,none,none,none]) (by simp[bw,w3,oa])).trans ?_;refine(ag (e:=[some (.sh wd),some (.sh bk),some (.sh (.int n)),some (.sh (.int a)),some (.sh (.int h)),some (.sh (.int last)),some (.sh od),some (.own (.lst HS)),none,none,none]) (by simp[eh])).trans ?_;refine(ag (e:=[some (.sh wd),some (.sh bk),some (.sh (.int n)),some (.sh (.int a)),some (.sh (.int h)),some (.sh (.int last)),some (.sh od),some (.own (.lst HS)),some (.own (.lst MS)),none,none]) (by simp[em])).trans ?_;have c0:DL.compEnv 1 [] [some (.sh wd),some (.sh bk),some (.sh (.int n)),some (.sh (.int a)),some (.sh (.int h)),some (.sh (.int last)),some (.sh od),some (.own (.lst HS)),some (.own (.lst MS)),none,none]=[none]:=rfl;refine(ag (e:=[some (.sh wd),some (.sh bk),some (.sh (.int n)),some (.sh (.int a)),some (.sh (.int h)),some (.sh (.int last)),some (.sh od),some (.own (.lst HS)),some (.own (.lst MS)),some (.own (.lst PH)),none]) (by simp[-aS,z0,a9,c0,cp])).trans ?_;refine(ag (e:=[some (.sh wd),some (.sh bk),some (.sh (.int n)),some (.sh (.int a)),some (.sh (.int h)),some (.sh (.int last)),some (.sh od),some (.own (.lst HS)),some (.own (.lst MS)),some (.own (.lst (PH++D1))),none]) (by simp[ed,z1,a9])).trans ?_;generalize PH++D1=E1 at*;refine(ag (e:=[some (.sh wd),some (.sh bk),some (.sh (.int n)),some (.sh (.int a)),some (.sh (.int h)),some (.sh (.int last)),some (.sh od),some (.own (.lst HS)),some (.own (.lst MS)),some (.own (.lst (E1++D2))),none]) (by simp[eg,z2,a9])).trans ?_;generalize E1++D2=E2 at*;refine(ag (e:=[some (.sh wd),some (.sh bk),some (.sh (.int n)),some (.sh (.int a)),some (.sh (.int h)),some (.sh (.int last)),some (.sh od),some (.own (.lst HS)),some (.own (.lst MS)),some (.own (.lst (E2++D3))),none]) (by simp[ea,z3,a9])).trans ?_;generalize E2++D3=E3 at*;refine(ag (e:=[some (.sh wd),some (.sh bk),some (.sh (.int n)),some (.sh (.int a)),some (.sh (.int h)),some (.sh (.int last)),some (.sh od),some (.own (.lst HS)),some (.own (.lst MS)),some (.own (.lst FF)),eO]) (by simp[-forL,w1,o2,sa,s2,e,freed])).trans ?_;simp[ir]
theorem IJ(hl:gv.length<64):c6 [bkD ws gv,.int n]=some (.lst ((bq gv n).map .int)):=by
 rw[II hl];unfold bq;rw[GaU]
 rfl
theorem Bf(gv:List Tr)(n:Int):(bq gv n).length<=gv.length:=by
 unfold bq;rw[Gab];exact Gbc _ _
theorem G3(w:World)(gv:List Tr)(k:Int×Int):(aA w gv k).length<=gv.length:=by
 unfold aA;rw[Gab];exact Gbc _ _
theorem Bg{b e ea la last:Int}{gvn:Int->Bool}:∀(r:Nat) (k bg:Int),(jF b e ea la gvn last r k bg).length<=2*r+1
 |0,k,bg=>by simp[jF]
 |r+1,k,bg=>by
  unfold jF;have:=Bg (b:=b) (e:=e) (ea:=ea) (la:=la) (last:=last) (gvn:=gvn) r (k+1) (b+k*e+la+1);rw[Gay,Gai];split<;>simp<;>lia
theorem Bh(w:World)(o:Order):∀gv:List Tr,(gv.flatMap (jH w o)).length<=gv.length
 |[]=>by simp
 |u::gv=>by
  have:=Bh w o gv;have l1:(jH w o u).length<=1:=by
   unfold jH;split
   .split<;>simp
   .simp
  rw[GbD,Gai,Gay];lia
theorem G4(W:aH w)(hg:bY w.orders.length gv)(hl:2*gv.length+ws.length<60){g:Str×Int}(so:cC s)(du:gR o.aV)(oa:atD (w.orders.map ah) n=some (ah o))(sa:atD (w.aw.map au) o.af=some (au s))(ga:atD (w.aT.map aM) o.aa=some (aM g)):cN [aj w,bkD ws gv,.int n,.int a,.int h,.int last]=some (.lst ((ij w ws gv o s g.2 n a h last).map cj)):=by
 have ml:=G3 w gv (o.aa,o.af);have hh:=Bf gv n;have gl:=Bh w o gv;have cl:=so.cl;have dl:(dJ o.aV (bq gv n) h last).length<=121:=by
  unfold dJ;split
  .simp
  .rename_i b e m ea la eq;rw[eq] at du;obtain⟨_,_,⟨m1,m2⟩,_⟩:=du;have:=Bg (b:=b) (e:=e) (ea:=ea) (la:=la) (last:=last) (gvn:=λk=>gV (b+k*e -ea) (b+k*e+la) (bq gv n)) m.toNat 0 h;lia
 have al:(fN s ws o.aa g.2 h last).length<=2:=by
  unfold fN;rw[Gay];split<;>simp
 obtain⟨eO,e⟩:=Em (w:=w) (ws:=ws) (gv:=gv) (HS:=(bq gv n).map .int) (n:=n) (a:=a) (h:=h) (last:=last) (o:=o) (by lia) s.ax ((bq gv n).map (λx=>(x,x))++dJ o.aV (bq gv n) h last++gv.flatMap (jH w o)++fN s ws o.aa g.2 h last) none so.ok (by simp only[Gai,Gab];lia);rw[GaC,GaC,GaC] at e;exact Nc rfl rfl oa rfl sa rfl (IJ (by lia)) (CD W hg (by lia) oa) (by rw[Gab];lia) (G0 _) (ID du (by lia)) (FX W hg (by lia) oa) (IF (by lia) so oa sa ga) (by simp only[Gab];lia) (qD _) e
theorem En{e0 e1 e2 e3 e4 e5:Os}:∀(S:List Sp) (f:Int) (x7:Os),∃y7:Os,forL (gN 7) fZ (S.map cj) [e0,e1,e2,e3,e4,e5,some (.sh (.int f)),x7]=some (.nx [e0,e1,e2,e3,e4,e5,some (.sh (.int (jE S f))),y7])
 |[],f,x7=> ⟨x7,by simp[jE]⟩
 |p::S,f,x7=>by
  by_cases c:f<p.1
  .refine⟨some (.sh (cj p)), ?_⟩;have st:fZ [e0,e1,e2,e3,e4,e5,some (.sh (.int f)),some (.sh (cj p))]=some (.bk [e0,e1,e2,e3,e4,e5,some (.sh (.int f)),some (.sh (cj p))]):=by
    unfold fZ cj;simp[c]
   rw[GaA];unfold jE;rw[Gah c];generalize cj p=pd at*;simp only[forL,gN,GaK,GaL,Option.bind_some,st]
  .obtain⟨y7,e⟩:=En (e0:=e0) (e1:=e1) (e2:=e2) (e3:=e3) (e4:=e4) (e5:=e5) S (if f<=p.2 then p.2+1 else f) (some (.sh (cj p)));refine⟨y7, ?_⟩;have st:fZ [e0,e1,e2,e3,e4,e5,some (.sh (.int f)),some (.sh (cj p))]=some (.nx [e0,e1,e2,e3,e4,e5,some (.sh (.int (if f<=p.2 then p.2+1 else f))),some (.sh (cj p))]):=by
    unfold fZ cj;by_cases c2:f<=p.2<;>simp[c,c2]
   rw[GaA];unfold jE;rw[Gag c];generalize cj p=pd at*;simp only[forL,gN,GaK,GaL,Option.bind_some,st];exact e
theorem Nd{bk:D}{r:Int}{S:List D}(ef:dP [wd,.int n,.int a]=some (.bl true))(es:cN [wd,bk,.int n,.int a,.int h,.int last]=some (.lst S))(so:sortedS [.lst S]=some ⟨.tn,.lst R⟩)(e:forL (gN 7) fZ R [some (.sh wd),some (.sh bk),some (.sh (.int n)),some (.sh (.int a)),some (.sh (.int h)),some (.sh (.int last)),some (.sh (.int h)),none]=some (.nx [some (.sh wd),some (.sh bk),some (.sh (.int n)),some (.sh (.int a)),some (.sh (.int h)),some (.sh (.int last)),some (.sh (.int r)),y7])):
  lz [wd,bk,.int n,.int a,.int h,.int last]=some (d6 (if last<r then none else some r)):=by
 refine b5 rfl ?_;unfold wa;refine(ag (e:=[some (.sh wd),some (.sh bk),some (.sh (.int n)),some (.sh (.int a)),some (.sh (.int h)),some (.sh (.int last)),none,none]) (by simp[bw,ef])).trans ?_;refine(ag (e:=[some (.sh wd),some (.sh bk),some (.sh (.int n)),some (.sh (.int a)),some (.sh (.int h)),some (.sh (.int last)),some (.sh (.int h)),none]) (by simp)).trans ?_;refine(ag (e:=[some (.sh wd),some (.sh bk),some (.sh (.int n)),some (.sh (.int a)),some (.sh (.int h)),some (.sh (.int last)),some (.sh (.int r)),y7]) (by simp[-forL,es,so,e,freed])).trans ?_;by_cases c:last<r
 .rw[Gah c];simp[c]
 .rw[Gag c];simp[c]
theorem G5(so:cC s)(oa:atD (w.orders.map ah) n=some (ah o))(sa:atD (w.aw.map au) o.af=some (au s))(no:¬(1<=a/\a%s.part=0/\a<=o.most)):lz [aj w,bkD ws gv,.int n,.int a,.int h,.int last]=some .non:=by
 have ef:=uY (w:=w) (n:=n) (a:=a) so oa sa;rw[Gax no] at ef;generalize aj w=wd at*;generalize bkD ws gv=bk at*;unfold lz wa;simp[ef]
theorem G6(W:aH w)(hg:bY w.orders.length gv)(S:Snd w ws gv)(hl:2*gv.length+ws.length<60){g:Str×Int}(n0:0<=n)(n1:n<w.orders.length)(e1:w.orders[n.toNat]? =some o)(e2:w.aw[o.af.toNat]? =some s)(e3:w.aT[o.aa.toNat]? =some g)(so:cC s)(du:gR o.aV)(oa:atD (w.orders.map ah) n=some (ah o))(sa:atD (w.aw.map au) o.af=some (au s))(ga:atD (w.aT.map aM) o.aa=some (aM g))(a1:1<=a)(a2:a%s.part=0)(a3:a<=o.most)(few:(ij w ws gv o s g.2 n a h last).length<64):
  ∃r:Int,lz [aj w,bkD ws gv,.int n,.int a,.int h,.int last]=some (d6 (if last<r then none else some r))/\h<=r/\(r<=last->je n r gv=false/\Snd w ws (laid gv (n,r,a)))/\(∀t,h<=t->t<r->t<=last->¬(je n t gv=false/\Snd w ws (laid gv (n,t,a))))/\(r=h\/∃p∈ij w ws gv o s g.2 n a h last,r=p.2+1):=by
 have ef:=uY (w:=w) (n:=n) (a:=a) so oa sa;rw[Gaz ⟨a1,a2,a3⟩] at ef;have es:=G4 W hg hl (n:=n) (a:=a) (h:=h) (last:=last) so du oa sa ga;have si:=λt (ht:h<=t) (tl:t<=last)=>IC W hg S n0 n1 e1 e2 e3 so du a1 a2 a3 ht tl (t:=t) (last:=last) (h:=h);generalize ij w ws gv o s g.2 n a h last=SA at*;obtain⟨eB,q1,q2,q3⟩:=AH SA;have ss:=sk (ms:=SA) few;rw[q1] at ss;obtain⟨y7,e⟩:=En (e0:=some (.sh (aj w))) (e1:=some (.sh (bkD ws gv))) (e2:=some (.sh (.int n))) (e3:=some (.sh (.int a))) (e4:=some (.sh (.int h))) (e5:=some (.sh (.int last))) eB h none;obtain⟨k1,k2,k3,k4⟩:=sJ eB h q3;refine⟨jE eB h,Nd ef es ss e,k1,λle=> ?_,λt t1 t2 tl=> ?_, ?_⟩
 .refine Gct λz=>k2 ((B3 q2).mpr ((si _ k1 le).mpr z))
 .exact(si t t1 tl).mp ((B3 q2).mp (k3 t t1 t2))
 .rcases k4 with k4| ⟨p,hp,k4⟩
  .exact .inl k4
  .exact .inr ⟨p,q2.mem_iff.mp hp,k4⟩
def R3(far x:Int):Prop:=far∣x\/far∣x -1\/far∣x -2
theorem Rs.r3(h:Rs far x):R3 far x:=h.elim .inl λz=> .inr (.inl z)
theorem Rs.nx(h:Rs far x):R3 far (x+1):=h.elim (λz=> .inr (.inl (by rw[GdU];exact z))) λz=> .inr (.inr (by rw[show x+1 -2=x -1 by lia];exact z))
theorem Rs.add(h:Rs far x)(d:far∣y):Rs far (x+y):=h.elim (λz=> .inl (Gcl z d)) λz=> .inr (by rw[show x+y -1=x -1+y by lia];exact Gcl z d)
def Ends(far last:Int)(S:List Sp):Prop:=∀p∈S,last<p.2+1\/R3 far (p.2+1)
theorem Ends.app{S T:List Sp}(h:Ends far last S)(k:Ends far last T):Ends far last (S++T):=λp hp=>(GaF.mp hp).elim (h p) (k p)
theorem Ends.one(h:last<b+1\/R3 far (b+1)):Ends far last [(a,b)]:=λp hp=>by rw[GaJ.mp hp];exact h
theorem Ends.none:Ends far last []:=λp hp=>by cases hp
theorem Ends.flat{α:Type}{l:List α}{f:α->List Sp}(h:∀x∈l,Ends far last (f x)):Ends far last (l.flatMap f):=λp hp=>by
 obtain⟨x,hx,hp⟩:=GcX.mp hp;exact h x hx p hp
theorem wx{α β:Type}{f:α->List β}{c:Nat}:∀{l:List α},(∀x∈l,(f x).length<=c)->(l.flatMap f).length<=l.length*c
 |[],_=>by simp
 |x::l,h=>by
  have h1:=h x Gaf;have h2:=wx (l:=l) λy hy=>h y (Gac _ hy);rw[GbD,Gai,Gay,Nat.succ_mul];lia
theorem Bi{far last:Int}{sh:Int->Bool}{bg:Int->Int}:∀{R:List Int},(∀x∈R,R3 far x)->Ends far last (iQ sh bg last R)/\(iQ sh bg last R).length<=R.length
 |[],_=> ⟨.none,by simp[iQ]⟩
 |[x],_=>by
  unfold iQ;split
  .exact⟨.one (.inl (by lia)),by simp⟩
  .exact⟨.none,by simp⟩
 |x::u::R,h=>by
  have ih:=Bi (sh:=sh) (bg:=bg) (last:=last) (R:=u::R) λy hy=>h y (Gac _ hy);unfold iQ;have k:Ends far last (if sh x then[(bg x,u -1)] else[])/\(if sh x then[(bg x,u -1)] else[]).length<=1:=by
   split
   .exact⟨.one (.inr (by rw[Gco];exact h u (by simp))),by simp⟩
   .exact⟨.none,by simp⟩
  refine⟨k.1.app ih.1, ?_⟩;have k2:=k.2;have i2:=ih.2;rw[Gai,Gay];lia
theorem Bj{far b e ea la last:Int}{gvn:Int->Bool}(d1:far∣b)(d2:far∣e)(d3:far∣ea)(d4:far∣la):∀(r:Nat) (k bg:Int),Ends far last (jF b e ea la gvn last r k bg)/\(jF b e ea la gvn last r k bg).length<=2*r+1
 |0,k,bg=> ⟨.one (.inl (by lia)),by simp[jF]⟩
 |r+1,k,bg=>by
  have ih:=Bj (last:=last) (gvn:=gvn) d1 d2 d3 d4 r (k+1) (b+k*e+la+1);have dk:far∣b+k*e:=Gcl d1 (Int.dvd_trans d2 (Int.dvd_mul_left ..));unfold jF;have m:Ends far last (if gvn k then[(b+k*e -ea,b+k*e+la)] else[])/\(if gvn k then[(b+k*e -ea,b+k*e+la)] else[]).length<=1:=by
   split
   .exact⟨.one (.inr (.inr (.inl (by rw[GdU];exact Gcl dk d4)))),by simp⟩
   .exact⟨.none,by simp⟩
  refine⟨?_, ?_⟩
  .refine Ends.app (S:=[(bg,b+k*e -ea -1)]) (.one (.inr (.inl (by rw[Gco];exact Int.dvd_sub dk d3)))) (m.1.app ih.1)
  .have m2:=m.2;have i2:=ih.2;rw[Gay,Gai];lia
theorem Eo{far:Int}:∀{l:List Int},(∀x∈l,far∣x)->far∣l.sum
 |[],_=>by simp
 |x::l,h=>by
  rw[List.sum_cons];exact Gcl (h x Gaf) (Eo λy hy=>h y (Gac _ hy))
theorem Bk:∀(xs:List Int) (x:Int),kO x xs=x\/kO x xs∈xs
 |[],x=> .inl rfl
 |y::ys,x=>by
  have e:kO x (y::ys)=kO (if y<x then y else x) ys:=rfl;rw[e];rcases Bk ys (if y<x then y else x) with q|q
  .rw[q];split
   .exact .inr Gaf
   .exact .inl rfl
  .exact .inr (Gac _ q)
theorem G7(WF:jD far w)(Q:BF far i ws gv)(i6:i<=6){g:Str×Int}(mo:o∈w.orders)(ms:s∈w.aw)(mg:g∈w.aT)(c2:s.ax.length<=2)(hr:R3 far h):
  Ends far last (ij w ws gv o s g.2 n a h last)/\(ij w ws gv o s g.2 n a h last).length<64:=by
 have sm:=Q.sm;have hh:∀x∈bq gv n,Rs far x:=λx hx=>by
  obtain⟨u,hu,_,rfl⟩:=mw.mp hx;exact Q.rg u hu
 have lh:(bq gv n).length<=gv.length:=by
  unfold bq;rw[Gab];exact Gbc ..
 have A:Ends far last ((bq gv n).map λx=>(x,x)):=λp hp=>by
  obtain⟨x,hx,rfl⟩:=Gat.mp hp;exact .inr (hh x hx).nx
 have B:Ends far last (dJ o.aV (bq gv n) h last)/\(dJ o.aV (bq gv n) h last).length<=13:=by
  have df:=WF.o o mo;generalize o.aV=u at*;cases u with
  |asked b=>exact⟨.one (.inr (.inl (by rw[Gco];exact df))),by simp[dJ]⟩
  |due b e m ea la=>
   obtain⟨d1,d2,d3,d4,m6⟩:=df;have k:=Bj (last:=last) (gvn:=λk=>gV (b+k*e -ea) (b+k*e+la) (bq gv n)) d1 d2 d3 d4 m.toNat 0 h;exact⟨k.1,by have:=k.2;unfold dJ;dsimp only;lia⟩
 have gs:∀x y,far∣jf w.bN x y:=λx y=>by
  unfold jf;refine Eo λz hz=> ?_;obtain⟨b,hb,rfl⟩:=Gat.mp hz;exact WF.b b (GaO.mp hb).1
 have C:∀u∈gv,Ends far last (jH w o u)/\(jH w o u).length<=1:=λu hu=>by
  unfold jH;split
  .split
   .exact⟨.one (.inr (by rw[Gco];exact((Q.rg u hu).add (gs ..)).r3)),by simp⟩
   .exact⟨.none,by simp⟩
  .exact⟨.none,by simp⟩
 have SF:=WF.s s ms;have E:Ends far last (fN s ws o.aa g.2 h last)/\(fN s ws o.aa g.2 h last).length<=2:=by
  unfold fN;have q:last<minD (last+1) (cE ws o.aa)-1+1\/R3 far (minD (last+1) (cE ws o.aa)-1+1):=by
   rw[Gco];have hw:∀x∈cE ws o.aa,far∣x:=λx hx=>by
    unfold cE at hx;obtain⟨v,hv,rfl⟩:=Gat.mp hx;exact Q.rw v (GaO.mp hv).1
   generalize cE ws o.aa=l at*;cases l with
   |nil=>exact .inl (by show last<last+1;lia)
   |cons x xs=>
    refine .inr (.inl ?_);show far∣kO x xs;rcases Bk xs x with z|z
    .rw[z];exact hw x Gaf
    .exact hw _ (Gac _ z)
  have y:last<g.2+s.young -1+1\/R3 far (g.2+s.young -1+1):= .inr (.inl (by rw[Gco];exact Gcl (WF.g g mg) SF.2));split
  .exact⟨Ends.app (S:=[(h,g.2+s.young -1)]) (.one y) (.one q),by simp⟩
  .exact⟨.one y,by simp⟩
 have hm:∀p∈aA w gv (o.aa,o.af),Rs far p.1:=λp hp=>by
  unfold aA at hp;obtain⟨u,hu,rfl⟩:=Gat.mp hp;exact Q.rg u (GaO.mp hu).1
 have lm:(aA w gv (o.aa,o.af)).length<=gv.length:=by
  unfold aA;rw[Gab];exact Gbc ..
 have F:∀c∈s.ax,Ends far last (fO w ws gv o a h last c)/\(fO w ws gv o a h last c).length<=2*gv.length+ws.length+1:=λc hc=>by
  have cf:=SF.1 c hc;unfold fO;generalize aA w gv (o.aa,o.af)=M at*;have ok:=jB (M.map (·.1)++steps c M ws o.aa h);have k:=Bi (far:=far) (last:=last) (sh:=cK ws c o.aa M a) (bg:=bgC c M h) (R:=jA (M.map (·.1)++steps c M ws o.aa h)) λx hx=>by
   rcases GaF.mp ((ok.2.1 x).mp hx) with z|z
   .obtain⟨p,hp,rfl⟩:=Gat.mp z;exact(hm p hp).r3
   .unfold steps at z;rcases Gar.mp z with rfl|z
    .exact hr
    .rcases GaF.mp z with z|z
     .obtain⟨v,hv,rfl⟩:=Gat.mp z;exact .inl (Q.rw v (GaO.mp hv).1)
     .cases c with
      |flat H t=>
       obtain⟨p,hp,rfl⟩:=Gat.mp z;exact((hm p hp).add cf).r3
      |kilo H t q=>
       obtain⟨p,hp,rfl⟩:=Gat.mp z;exact((hm p hp).add cf).r3
      |ever t=>cases z
  refine⟨k.1,Gbf k.2 (Gbf ok.2.2 ?_)⟩;have lf:=Gbc (λv:Tr=>decide (v.1=o.aa)) ws;have ls:(steps c M ws o.aa h).length<=1+ws.length+M.length:=by
   unfold steps;cases c<;>simp[mG]<;>lia
  rw[Gai,Gab];lia
 unfold ij;refine⟨(((A.app B.1).app (.flat λu hu=>(C u hu).1)).app E.1).app (.flat λc hc=>(F c hc).1), ?_⟩;have l1:=wx λu hu=>(C u hu).2;have l2:=wx λc hc=>(F c hc).2;have l3:s.ax.length*(2*gv.length+ws.length+1)<=2*(2*gv.length+ws.length+1):=Nat.mul_le_mul_right _ c2;have b2:=B.2;have e2:=E.2;simp only[Gai,Gab];lia
theorem sO{g:DG}{body:DS}(I:DL.Env->Prop)(No:Nat->Prop)(Sl:Nat->D->Prop):∀(ds:List D) (k:Nat) (env:DL.Env),I env->(∀(i:Nat) d e,ds[i]? =some d->I e->∃e1,g d e=some e1/\((∃e2,body e1=some (.nx e2)/\I e2/\No (k+i))\/∃v,body e1=some (.ret v)/\Sl (k+i) v))->
  (∃e,forL g body ds env=some (.nx e)/\I e/\∀i,i<ds.length->No (k+i))\/∃i v,i<ds.length/\(∀j,j<i->No (k+j))/\Sl (k+i) v/\forL g body ds env=some (.ret v)
 |[],k,env,h,_=> .inl ⟨env,rfl,h,λi hi=>by cases hi⟩
 |d::ds,k,env,h,st=>by
  obtain⟨e1,h1,h2⟩:=st 0 d env rfl h;rcases h2 with⟨e2,b1,b2,b3⟩| ⟨v,b1,b2⟩
  .have ih:=sO I No Sl ds (k+1) e2 b2 λi d' e' hd hI=>by
    have:=st (i+1) d' e' hd hI;rw[show k+(i+1)=k+1+i by lia] at this;exact this
   have ev:forL g body (d::ds) env=forL g body ds e2:=by simp[forL,h1,b1]
   have no:∀(m:Nat),(∀j,j<m->No (k+1+j))->∀j,j<m+1->No (k+j):=λm q j hj=>by
    cases j with
    |zero=>exact b3
    |succ j=>
     have:=q j (by lia);rw[show k+1+j=k+(j+1) by lia] at this;exact this
   rw[ev];rcases ih with⟨e,q1,q2,q3⟩| ⟨i,v,q1,q2,q3,q4⟩
   .exact .inl ⟨e,q1,q2,no _ q3⟩
   .rw[show k+1+i=k+(i+1) by lia] at q3;exact .inr ⟨i+1,v,by rw[Gay];lia,no _ q2,q3,q4⟩
  .exact .inr ⟨0,v,by rw[Gay];lia,λj hj=>absurd hj (Nat.not_lt_zero _),b2,by simp[forL,h1,b1]⟩
theorem G8(W:aH w)(hc:∀s∈w.aw,s.ax.length<=2)(B:oF w 9 ws gv){t:Int}(n0:0<=n)(n1:n<w.orders.length):
  ∃b:Bool,iM [aj w,bkD ws gv,.int n,.int a,.int t]=some (.bl b)/\(b=true↔je n t gv=false/\Snd w ws (laid gv (n,t,a))):=by
 have gl:=B.gl;have sg:=sG (l:=gv) (by lia);have hb:=B0 n t gv;have b1:ixD (bkD ws gv) (.int 1)=some (.tup (gv.map trD)):=rfl;by_cases c:je n t gv=true
 .refine⟨false, ?_,by rw[c];exact⟨λz=>(by cases z),λz=>(by cases z.1)⟩⟩;rw[c] at hb;generalize gv.map spD=SG at*;generalize gv.map trD=GT at*;generalize bkD ws gv=bk at*;generalize aj w=wd at*;unfold iM k7;simp[b1,sg,hb,a9]
 .rw[Bool.not_eq_true] at c;obtain⟨R,lr,rq⟩:=B2 W hc (ws' :=ws) B (cR gv (n,t,a)) (by simp) (IA n0 n1) (E9 B.nd c);have ev:cH [bkD ws gv,.int n,.int t,.int a]=some (bkD ws (laid gv (n,t,a))):=uS (V:= .tup (ws.map trD)) (by have:=cD ws;simpa using this) (by lia);refine⟨decide (R.length=0), ?_, ?_⟩
  .rw[c] at hb;have rv:jM (bkD ws (laid gv (n,t,a)))=⟨.c,bkD ws (laid gv (n,t,a))⟩:=b7 (by
    have h1:=cD ws;have h2:=cD (laid gv (n,t,a));simp[bkD,h1,h2])
   generalize bkD ws (laid gv (n,t,a))=bk2 at*;generalize gv.map spD=SG at*;generalize gv.map trD=GT at*;generalize bkD ws gv=bk at*;generalize aj w=wd at*;have ln:dG [.lst R]=some ⟨.c,.int (R.length:Int)⟩:=rfl;unfold iM k7;have q0:((R.length:Int)==0)=decide (R=[]):=by
    cases R with
    |nil=>rfl
    |cons x l=>rw[Gax (by simp),beq_eq_false_iff_ne,Gay];lia
   simp[b1,sg,hb,a9,ev,rv,lr,ln,eqB,q0]
  .rw[GaM,GaW,rq];exact⟨λz=> ⟨c,z⟩,λz=>z.2⟩
def Srv(w:World)(ws gv:List Tr)(n a h last t:Int):Prop:=h<=t/\t<=last/\je n t gv=false/\Snd w ws (laid gv (n,t,a))
variable{ask:D}
theorem IK(W:aH w)(hc:∀s∈w.aw,s.ax.length<=2)(B:oF w 9 ws gv)(n0:0<=n)(n1:n<w.orders.length)(hf:far=1\/far=1000000)(m:Nat):
  (∃y9 eO:Os,forL (gN 9) bG (aB 0 m) [some (.sh (aj w)),some (.sh (bkD ws gv)),some (.sh ask),some (.sh (.int far)),some (.sh (.int n)),some (.sh (.int a)),some (.sh (.int h)),some (.sh (.int last)),some (.sh (.int u)),x9,eM]=some (.nx [some (.sh (aj w)),some (.sh (bkD ws gv)),some (.sh ask),some (.sh (.int far)),some (.sh (.int n)),some (.sh (.int a)),some (.sh (.int h)),some (.sh (.int last)),some (.sh (.int u)),y9,eO])/\∀k:Nat,k<m->¬Srv w ws gv n a h last (u*far+k))\/
  ∃k:Nat,k<m/\(∀j:Nat,j<k->¬Srv w ws gv n a h last (u*far+j))/\Srv w ws gv n a h last (u*far+k)/\forL (gN 9) bG (aB 0 m) [some (.sh (aj w)),some (.sh (bkD ws gv)),some (.sh ask),some (.sh (.int far)),some (.sh (.int n)),some (.sh (.int a)),some (.sh (.int h)),some (.sh (.int last)),some (.sh (.int u)),x9,eM]=some (.ret (.int (u*far+k))):=by
 have mf:aX u far=true:=fb (by lia) (by lia);have key:=sO (g:=gN 9) (body:=bG) (λe=>∃y9 eO:Os,e=[some (.sh (aj w)),some (.sh (bkD ws gv)),some (.sh ask),some (.sh (.int far)),some (.sh (.int n)),some (.sh (.int a)),some (.sh (.int h)),some (.sh (.int last)),some (.sh (.int u)),y9,eO]) (λk=>¬Srv w ws gv n a h last (u*far+k)) (λk v=>Srv w ws gv n a h last (u*far+k)/\v= .int (u*far+k)) (aB 0 m) 0 _ ⟨x9,eM,rfl⟩ (by
  rintro i d e hd ⟨y9,eO,rfl⟩;obtain⟨hi,rfl⟩:=aZ hd;refine⟨_,rfl, ?_⟩;rw[GaS,show(0:Int)+(i:Int)=i by lia];obtain⟨b,e1,e2⟩:=G8 W hc B (a:=a) (t:=u*far+i) n0 n1;generalize hT:u*far+(i:Int)=T at*;unfold Srv;generalize aj w=wd at*;generalize bkD ws gv=bk at*;by_cases c1:h<=T
  .by_cases c2:T<=last
   .cases b with
    |true=>exact .inr ⟨_,by unfold bG;simp[mf,hT,c1,c2,e1],⟨c1,c2,e2.mp rfl⟩,rfl⟩
    |false=>exact .inl ⟨_,by unfold bG;simp[mf,hT,c1,c2,e1];exact⟨rfl,rfl⟩,⟨_,_,rfl⟩,λz=>by have:=e2.mpr z.2.2;cases this⟩
   .exact .inl ⟨_,by unfold bG;simp[mf,hT,c1,c2];exact⟨rfl,rfl⟩,⟨_,_,rfl⟩,λz=>c2 z.2.1⟩
  .exact .inl ⟨_,by unfold bG;simp[mf,hT,c1];exact⟨rfl,rfl⟩,⟨_,_,rfl⟩,λz=>c1 z.1⟩)
 simp only[GaS,cI] at key;rcases key with⟨e,q1,⟨y9,eO,rfl⟩,q3⟩| ⟨i,v,q1,q2,⟨q3,rfl⟩,q4⟩
 .exact .inl ⟨y9,eO,q1,q3⟩
 .exact .inr ⟨i,q1,q2,q3,q4⟩
theorem Ep{src:DI}{g:DG}{o:Out}(h:src env=some ds)(k:forL g body ds env=some o):fD none src g body env=some o:=by
 have e:fD none src g body env=(src env).bind λds=>(forL g body ds env).map (freed none (pR none env)):=rfl;rw[e,h];show(forL g body ds env).map _=_;rw[k];cases o<;>rfl
theorem CJ(W:aH w)(hc:∀s∈w.aw,s.ax.length<=2)(B:oF w 9 ws gv)(n0:0<=n)(n1:n<w.orders.length)(hf:far=1\/far=1000000){M:Int}(hm:(if 3<far then 3 else far)=M)(hM:M.toNat=m)(m3:M<=3)(m0:0<=M):
  (∃y9 eO:Os,cb [some (.sh (aj w)),some (.sh (bkD ws gv)),some (.sh ask),some (.sh (.int far)),some (.sh (.int n)),some (.sh (.int a)),some (.sh (.int h)),some (.sh (.int last)),some (.sh (.int u)),x9,eM]=some (.nx [some (.sh (aj w)),some (.sh (bkD ws gv)),some (.sh ask),some (.sh (.int far)),some (.sh (.int n)),some (.sh (.int a)),some (.sh (.int h)),some (.sh (.int last)),some (.sh (.int u)),y9,eO])/\∀k:Nat,k<m->¬Srv w ws gv n a h last (u*far+k))\/
  ∃k:Nat,k<m/\(∀j:Nat,j<k->¬Srv w ws gv n a h last (u*far+j))/\Srv w ws gv n a h last (u*far+k)/\cb [some (.sh (aj w)),some (.sh (bkD ws gv)),some (.sh ask),some (.sh (.int far)),some (.sh (.int n)),some (.sh (.int a)),some (.sh (.int h)),some (.sh (.int last)),some (.sh (.int u)),x9,eM]=some (.ret (.int (u*far+k))):=by
 have s:aP M=true:=aU (by lia) (by lia);have e:∀(A1 A2 A3:D) (y9 eO:Os),cV (bZ qN (a7 (vE 3) (a7 (kE (.int 3)) ae))) [some (.sh A1),some (.sh A2),some (.sh A3),some (.sh (.int far)),some (.sh (.int n)),some (.sh (.int a)),some (.sh (.int h)),some (.sh (.int last)),some (.sh (.int u)),y9,eO]=some (aB 0 m):=λA1 A2 A3 y9 eO=>by
  simp[hm,s,hM]
 rcases IK W hc B (a:=a) (h:=h) (last:=last) (far:=far) (u:=u) (ask:=ask) (x9:=x9) (eM:=eM) n0 n1 hf m with⟨y9,eO,q1,q2⟩| ⟨k,q1,q2,q3,q4⟩
 .refine .inl ⟨y9,eO, ?_,q2⟩;unfold cb;exact Ep (e _ _ _ _ _) q1
 .refine .inr ⟨k,q1,q2,q3, ?_⟩;unfold cb;exact Ep (e _ _ _ _ _) q4
theorem CK(W:aH w)(hc:∀s∈w.aw,s.ax.length<=2)(B:oF w 9 ws gv)(n0:0<=n)(n1:n<w.orders.length)(hf:far=1\/far=1000000)(h0:0<=h)(h1:h<1000000000)(l0:0<=last)(l1:last<1000000000):
  ∃q:Option Int,gB [aj w,bkD ws gv,.tup [.int n,.int a,.int h,.int last],.int far]=some (d6 q)/\(∀t,q=some t->Srv w ws gv n a h last t/\∀t',t' <t->R3 far t' ->¬Srv w ws gv n a h last t')/\(q=none->∀t',R3 far t' ->¬Srv w ws gv n a h last t'):=by
 obtain⟨m,M,hm,hM,m3,m0,zd⟩:∃(m:Nat) (M:Int),(if 3<far then 3 else far)=M/\M.toNat=m/\M<=3/\0<=M/\(far=1/\m=1\/far=1000000/\m=3):=by
  rcases hf with e|e
  .exact⟨1,1,by rw[Gag (by lia)];exact e,rfl,by lia,by lia,.inl ⟨e,rfl⟩⟩
  .exact⟨3,3,by rw[Gah (by lia)],rfl,by lia,by lia,.inr ⟨e,rfl⟩⟩
 have f0:0<far:=by lia
 have f1:far<1073741824:=by lia
 obtain⟨lo,zP⟩:∃lo,h/far=lo:=⟨_,rfl⟩
 obtain⟨hi,Rp⟩:∃hi,last/far+1=hi:=⟨_,rfl⟩
 have bl:0<=lo/\lo<1000000001/\0<=hi/\hi<1000000001:=by
  rcases zd with⟨rfl,rfl⟩| ⟨rfl,rfl⟩<;>lia
 have s1:aP lo=true:=aU (by lia) (by lia);have s2:aP hi=true:=aU (by lia) (by lia);obtain⟨N,hN⟩:∃N:Nat,(hi -lo).toNat=N:=⟨_,rfl⟩
 have at_:∀t,R3 far t->Srv w ws gv n a h last t->∃i k:Nat,i<N/\k<m/\t=(lo+i)*far+k:=by
  rintro t r ⟨t1,t2,_⟩;refine⟨(t/far -lo).toNat,(t%far).toNat, ?_⟩;unfold R3 at r;rcases zd with⟨rfl,rfl⟩| ⟨rfl,rfl⟩<;>omega
 have ev:∀(ov:Option D) (o:Out),forL (gN 8) cb (aB lo N) [some (.sh (aj w)),some (.sh (bkD ws gv)),some (.sh (.tup [.int n,.int a,.int h,.int last])),some (.sh (.int far)),some (.sh (.int n)),some (.sh (.int a)),some (.sh (.int h)),some (.sh (.int last)),none,none,none]=some o->(match o with
   | .ret v=>some v
   | .nx _=>some .non
   |_=>none)=ov->gB [aj w,bkD ws gv,.tup [.int n,.int a,.int h,.int last],.int far]=ov:=by
  intro ov o q1 q2;generalize aj w=wd at*;generalize bkD ws gv=bk at*;unfold gB lF;cases o with
  |nx e=>simp[-forL,zP,Rp,s1,s2,hN,f0,f1,q1,freed];exact q2
  |ret v=>simp[-forL,zP,Rp,s1,s2,hN,f0,f1,q1,freed];exact q2
  |bk e=>simp[-forL,zP,Rp,s1,s2,hN,f0,f1,q1,freed];exact q2
  |ct e=>simp[-forL,zP,Rp,s1,s2,hN,f0,f1,q1,freed];exact q2
 have key:=sO (g:=gN 8) (body:=cb) (λe=>∃y8 y9 eO:Os,e=[some (.sh (aj w)),some (.sh (bkD ws gv)),some (.sh (.tup [.int n,.int a,.int h,.int last])),some (.sh (.int far)),some (.sh (.int n)),some (.sh (.int a)),some (.sh (.int h)),some (.sh (.int last)),y8,y9,eO]) (λi=>∀k:Nat,k<m->¬Srv w ws gv n a h last ((lo+i)*far+k)) (λi v=>∃k:Nat,k<m/\(∀j:Nat,j<k->¬Srv w ws gv n a h last ((lo+i)*far+j))/\Srv w ws gv n a h last ((lo+i)*far+k)/\v= .int ((lo+i)*far+k)) (aB lo N) 0 _ ⟨none,none,none,rfl⟩ (by
  rintro i d e hd ⟨y8,y9,eO,rfl⟩;obtain⟨hi,rfl⟩:=aZ hd;refine⟨_,rfl, ?_⟩;rw[GaS];rcases CJ W hc B (a:=a) (h:=h) (last:=last) (far:=far) (u:=lo+i) (ask:= .tup [.int n,.int a,.int h,.int last]) (x9:=y9) (eM:=eO) n0 n1 hf hm hM m3 m0 with⟨z9,yU,q1,q2⟩| ⟨k,q1,q2,q3,q4⟩
  .exact .inl ⟨_,q1,⟨_,_,_,rfl⟩,q2⟩
  .exact .inr ⟨_,q4,k,q1,q2,q3,rfl⟩)
 simp only[GaS,cI] at key;rcases key with⟨e,q1,_,q3⟩| ⟨i,v,q1,q2,⟨k,k1,k2,k3,rfl⟩,q4⟩
 .refine⟨none,ev _ _ q1 rfl,λt z=>(by cases z),λ_ t' r z=> ?_⟩;obtain⟨i,k,i1,k1,rfl⟩:=at_ t' r z;exact q3 i i1 k k1 z
 .refine⟨some _,ev _ _ q4 rfl,λt z=> ?_,λz=>(by cases z)⟩;cases z;refine⟨k3,λt' lt r z=> ?_⟩;obtain⟨i',k',i1,TR,rfl⟩:=at_ t' r z;have:i' <i\/i' =i/\k' <k:=by
   rcases zd with⟨rfl,rfl⟩| ⟨rfl,rfl⟩<;>lia
  rcases this with c| ⟨rfl,c⟩
  .exact q2 i' c k' TR z
  .exact k2 k' c z
variable{q:Option Int}
theorem Nf{r:Int}(hr:h<=r)(yes:r<=last->je n r gv=false/\Snd w ws (laid gv (n,r,a)))(no:∀t,h<=t->t<r->t<=last->¬(je n t gv=false/\Snd w ws (laid gv (n,t,a))))(re:last<r\/R3 far r)(q1:∀t,q=some t->Srv w ws gv n a h last t/\∀t',t' <t->R3 far t' ->¬Srv w ws gv n a h last t')(q2:q=none->∀t',R3 far t' ->¬Srv w ws gv n a h last t'):(if last<r then none else some r)=q:=by
 by_cases c:last<r
 .rw[Gah c];cases q with
  |none=>rfl
  |some t=>
   obtain⟨⟨z1,z2,z3⟩,_⟩:=q1 t rfl;exact absurd z3 (no t z1 (by lia) z2)
 .rw[Gag c];have R:R3 far r:=re.resolve_left c;have P:Srv w ws gv n a h last r:=⟨hr,by lia,yes (by lia)⟩
  cases q with
  |none=>exact absurd P (q2 rfl r R)
  |some t=>
   obtain⟨⟨z1,z2,z3⟩,z4⟩:=q1 t rfl;have e1:¬t<r:=λz=>no t z1 z z2 z3;have e2:¬r<t:=λz=>z4 r z R P;rw[show r=t by lia]
theorem Ng(W:aH w)(hc:∀s∈w.aw,s.ax.length<=2)(WF:jD far w)(B:oF w 6 ws gv)(Q:BF far 6 ws gv){g:Str×Int}(n0:0<=n)(n1:n<w.orders.length)(e1:w.orders[n.toNat]? =some o)(e2:w.aw[o.af.toNat]? =some s)(e3:w.aT[o.aa.toNat]? =some g)(so:cC s)(du:gR o.aV)(oa:atD (w.orders.map ah) n=some (ah o))(sa:atD (w.aw.map au) o.af=some (au s))(ga:atD (w.aT.map aM) o.aa=some (aM g))(hr:R3 far h)(q1:∀t,q=some t->Srv w ws gv n a h last t/\∀t',t' <t->R3 far t' ->¬Srv w ws gv n a h last t')(q2:q=none->∀t',R3 far t' ->¬Srv w ws gv n a h last t'):
  lz [aj w,bkD ws gv,.int n,.int a,.int h,.int last]=some (d6 q):=by
 have sm:=Q.sm;by_cases ok:1<=a/\a%s.part=0/\a<=o.most
 .obtain⟨a1,a2,a3⟩:=ok;obtain⟨en,few⟩:=G7 WF Q (Gaq _) (n:=n) (a:=a) (h:=h) (last:=last) (GaE e1) (GaE e2) (GaE e3) (hc s (GaE e2)) hr;obtain⟨r,w1,w2,w3,w4,w5⟩:=G6 W B.go B.sn (by lia) (h:=h) (last:=last) n0 n1 e1 e2 e3 so du oa sa ga a1 a2 a3 few;rw[w1,Nf w2 w3 w4 (far:=far) ?_ q1 q2];rcases w5 with rfl| ⟨p,hp,rfl⟩
  .exact .inr hr
  .exact en p hp
 .rw[G5 so oa sa ok];cases q with
  |none=>rfl
  |some t=>
   obtain⟨⟨_,_,_,z⟩,_⟩:=q1 t rfl;have z2:=(Ef W B.go B.sn n0 n1 e1 e2 so).mp (z.perm W (cR gv (n,t,a)));have z3:=(pE e1 e2 e3).mp z2.1;exact absurd ⟨z3.1.1.2.1,z3.1.1.2.2,z3.1.1.1.2⟩ ok
theorem Nh(W:aH w)(hc:∀s∈w.aw,s.ax.length<=2)(hm:∀o∈w.orders,pD w.aw o)(hf:far=1\/far=1000000)(WF:jD far w)(B:oF w 6 ws gv)(Q:BF far 6 ws gv)(j0:0<=j)(j1:j<2):
  ∃y5 y6 y7 y8 y9 eO xh xJ:Os,oh [some (.sh (.scr ns)),some (.sh (aj w)),some (.sh (.int far)),some (.sh (bkD ws gv)),some (.sh (.int j)),x5,x6,x7,x8,x9,eM,h8,x12]=some (.nx [some (.sh (.scr ns)),some (.sh (aj w)),some (.sh (.int far)),some (.sh (bkD ws gv)),some (.sh (.int j)),y5,y6,y7,y8,y9,eO,xh,xJ]):=by
 have m7:aX 7 j=true:=bx (by lia) (by lia);obtain⟨at_,xN⟩:∃a,2000+7*j=a:=⟨_,rfl⟩
 have ev:∀k:Int,0<=k->k<=6->a8 [.scr ns,.int (at_+k)]=some (.int (mx ns (at_+k))):=λk k0 k1=>aG (by lia) (by lia);have v0:=aG (ns:=ns) (k:=at_) (by lia) (by lia);have v1:=ev 1 (by lia) (by lia);have v2:=ev 2 (by lia) (by lia);have v3:=ev 3 (by lia) (by lia);have v4:=ev 4 (by lia) (by lia);have v5:=ev 5 (by lia) (by lia);have v6:=ev 6 (by lia) (by lia);clear ev;obtain⟨lo,n,hl,lp,hn,n0,n1⟩:=sI W (mx ns at_);obtain⟨o,s,g,o1,o2,o3,so,oo,oa,sa,ga⟩:=dE W n0 n1;obtain⟨s',c,p1,p2,p3,p4⟩:=hm o (GaE o1);rw[o2] at p1;cases p1;have pp:=so.p1;have pq:=so.p2;have TJ:0<s.part:=by lia
 have TH:s.part<1073741824:=by lia
 have dv:o.most/s.part=c:=by rw[p2];exact Int.mul_ediv_cancel_left _ (by lia)
 have c0:0<c:=by lia
 obtain⟨a0,Uu⟩:∃a0,s.part*(1+mx ns (at_+1)%c)=a0:=⟨_,rfl⟩
 obtain⟨a,ha⟩:∃a,(if mx ns (at_+2)%7=0 then a0+mx ns (at_+3)%3 -1 else a0)=a:=⟨_,rfl⟩
 obtain⟨h,hh⟩:∃h,far*(mx ns (at_+4)%40)+mx ns (at_+5)%3*(if far>1 then 1 else 0)=h:=⟨_,rfl⟩
 obtain⟨last,zQ⟩:∃l,(if h+far*(mx ns (at_+6)%20 -1)>0 then h+far*(mx ns (at_+6)%20 -1) else 0)=l:=⟨_,rfl⟩
 have hb:0<=h/\h<100000000/\R3 far h:=by
  unfold R3;rcases hf with rfl|rfl
  .rw[Gag (by lia)] at hh;lia
  .rw[Gah (by lia)] at hh;lia
 have lb:0<=last/\last<1000000000:=by
  have b1:=hb.1;have b2:=hb.2.1;clear hh hb;rcases hf with rfl|rfl
  .split at zQ<;>lia
  .split at zQ<;>lia
 obtain⟨q,f1,f2,f3⟩:=CK W hc (B.mono (by lia)) (a:=a) (h:=h) (last:=last) n0 n1 hf hb.1 (by lia) lb.1 lb.2;have wt:=Ng W hc WF B Q (a:=a) (h:=h) (last:=last) n0 n1 o1 o2 o3 so oo.du oa sa ga hb.2.2 f2 f3;clear f2 f3;have w1:ixD (aj w) (.int 1)=some (.tup (w.aw.map au)):=rfl;have w3:ixD (aj w) (.int 3)=some (.tup (w.orders.map ah)):=rfl;have r2:ixD (ah o) (.int 2)=some (.int o.af):=rfl;have r3:ixD (ah o) (.int 3)=some (.tup [.str o.way,.int o.top,.int o.per,.int o.most]):=rfl;have t1:ixD (au s) (.int 1)=some (.tup (.int s.part::s.more.map .int)):=rfl;have mp:∀i,aX i (1+mx ns (at_+1)%c)=true:=λi=>by
  have:=mxm ns (at_+1) c c0;exact fb (by lia) (by lia)
 have mf:∀i,aX far i=true:=λi=>bx (by lia) (by lia);have mi:∀i,aX i (if far>1 then 1 else 0)=true:=λi=>fb (by split<;>lia) (by split<;>lia);have vq:jM (d6 q)=⟨.c,d6 q⟩:=by cases q<;>rfl
 generalize aj w=wd at*;generalize bkD ws gv=bk at*;generalize ah o=OD at*;generalize au s=SD at*;generalize w.orders.map ah=OS at*;generalize w.aw.map au=SS at*;refine⟨some (.sh (.int at_)),some (.sh (.int n)),some (.sh (.int s.part)),some (.sh (.int a)),some (.sh (.int h)),some (.sh (.int last)),some (.sh (d6 q)),some (.sh (d6 q)), ?_⟩;unfold oh;refine(ag (e:=[some (.sh (.scr ns)),some (.sh wd),some (.sh (.int far)),some (.sh bk),some (.sh (.int j)),some (.sh (.int at_)),x6,x7,x8,x9,eM,h8,x12]) (by simp[m7,xN])).trans ?_;refine(ag (e:=[some (.sh (.scr ns)),some (.sh wd),some (.sh (.int far)),some (.sh bk),some (.sh (.int j)),some (.sh (.int at_)),some (.sh (.int n)),x7,x8,x9,eM,h8,x12]) (by simp[-qP,v0,w3,hl,lp,hn])).trans ?_;refine(ag (e:=[some (.sh (.scr ns)),some (.sh wd),some (.sh (.int far)),some (.sh bk),some (.sh (.int j)),some (.sh (.int at_)),some (.sh (.int n)),some (.sh (.int s.part)),x8,x9,eM,h8,x12]) (by simp[w1,w3,oa,r2,sa,t1])).trans ?_;refine(ag (e:=[some (.sh (.scr ns)),some (.sh wd),some (.sh (.int far)),some (.sh bk),some (.sh (.int j)),some (.sh (.int at_)),some (.sh (.int n)),some (.sh (.int s.part)),some (.sh (.int a0)),x9,eM,h8,x12]) (by simp[w3,oa,r3,TJ,TH,dv,c0,v1,mp,Uu])).trans ?_;refine(ag (e:=[some (.sh (.scr ns)),some (.sh wd),some (.sh (.int far)),some (.sh bk),some (.sh (.int j)),some (.sh (.int at_)),some (.sh (.int n)),some (.sh (.int s.part)),some (.sh (.int a)),x9,eM,h8,x12]) (by
  by_cases k:mx ns (at_+2)%7=0
  .rw[Gah k] at ha;simp[v2,v3,k,ha]
  .rw[Gag k] at ha;simp[v2,k,ha])).trans ?_
 refine(ag (e:=[some (.sh (.scr ns)),some (.sh wd),some (.sh (.int far)),some (.sh bk),some (.sh (.int j)),some (.sh (.int at_)),some (.sh (.int n)),some (.sh (.int s.part)),some (.sh (.int a)),some (.sh (.int h)),eM,h8,x12]) (by simp[v4,v5,mf,mi,hh])).trans ?_;refine(ag (e:=[some (.sh (.scr ns)),some (.sh wd),some (.sh (.int far)),some (.sh bk),some (.sh (.int j)),some (.sh (.int at_)),some (.sh (.int n)),some (.sh (.int s.part)),some (.sh (.int a)),some (.sh (.int h)),some (.sh (.int last)),h8,x12]) (by simp[v6,mf,zQ])).trans ?_;refine(ag (e:=[some (.sh (.scr ns)),some (.sh wd),some (.sh (.int far)),some (.sh bk),some (.sh (.int j)),some (.sh (.int at_)),some (.sh (.int n)),some (.sh (.int s.part)),some (.sh (.int a)),some (.sh (.int h)),some (.sh (.int last)),some (.sh (d6 q)),x12]) (by simp[a9,f1,vq])).trans ?_;refine(ag (e:=[some (.sh (.scr ns)),some (.sh wd),some (.sh (.int far)),some (.sh bk),some (.sh (.int j)),some (.sh (.int at_)),some (.sh (.int n)),some (.sh (.int s.part)),some (.sh (.int a)),some (.sh (.int h)),some (.sh (.int last)),some (.sh (d6 q)),some (.sh (d6 q))]) (by simp[wt,vq])).trans ?_;cases q with
 |none=>simp[ky,fQ,cu]
 |some t=>simp[ky,fQ,cu,neB]
theorem IL(ns:List Int)(zA:ns.length<=63):rW [.scr ns]=some (.bl true):=by
 obtain⟨far,w,hf,W,_,hc,hm,WF,ef,ew⟩:=Iu ns;obtain⟨ws,gv,⟨B,Q⟩,eb⟩:=KI W hc hm hf ef WF;obtain⟨e,h1,y4,y5,y6,y7,y8,y9,eO,xh,xJ,rfl⟩:=dI (g:=gN 4) (body:=oh) (λ_ env=>∃y4 y5 y6 y7 y8 y9 eO xh xJ:Os,env=[some (.sh (.scr ns)),some (.sh (aj w)),some (.sh (.int far)),some (.sh (bkD ws gv)),y4,y5,y6,y7,y8,y9,eO,xh,xJ]) (aB 0 2) 0 [some (.sh (.scr ns)),some (.sh (aj w)),some (.sh (.int far)),some (.sh (bkD ws gv)),none,none,none,none,none,none,none,none,none] ⟨_,_,_,_,_,_,_,_,_,rfl⟩ (by
  rintro i d env hd ⟨y4,y5,y6,y7,y8,y9,eO,xh,xJ,rfl⟩;obtain⟨hi,rfl⟩:=aZ hd;obtain⟨z5,z6,z7,z8,z9,yU,R6,Sm,k⟩:=Nh (ns:=ns) W hc hm hf WF B Q (j:=0+(i:Int)) (by lia) (by lia) (x5:=y5) (x6:=y6) (x7:=y7) (x8:=y8) (x9:=y9) (eM:=eO) (h8:=xh) (x12:=xJ);exact⟨_,_,rfl,k,_,_,_,_,_,_,_,_,_,rfl⟩)
 have s2:aP 2=true:=rfl;have TB:jM (aj w)=⟨.c,aj w⟩:=by
  have g1:=fc rZ w.aT;have g2:=fc iN w.aw;have g3:=cD w.bN;have g4:aC (w.orders.map ah)=true:=k8 λd hd=>by
   obtain⟨o,ho,rfl⟩:=Gat.mp hd;exact fB o (W.oo o ho).ti
  refine b7 ?_;simp[aj,g1,g2,g3,g4]
 have rb:jM (bkD ws gv)=⟨.c,bkD ws gv⟩:=b7 (by
  have h1:=cD ws;have h2:=cD gv;simp[bkD,h1,h2])
 generalize aj w=wd at*;generalize bkD ws gv=bk at*;unfold rW HJ;simp[-forL,ew,ef,eb,TB,rb,s2,h1,freed]
end Maths
seal L2.PE L2.PT L2.PW L2.PA L2.PS L2.PSs L2.PG L2.PGs L2.PI
namespace Der
open PySem PySem.Spec PyProof.Rows L2 DL Den
noncomputable abbrev top:=Hd.top
theorem cL{us:List Value}{n:Nat}(h:us.length=n+1):∃a t,us=a::t/\t.length=n:=by
 cases us with
 |nil=>cases h
 |cons a t=>exact⟨a,t,rfl,Nat.succ.inj h⟩
theorem all1{K:PySem.W.Frag}{fd:FuncData}{p0:Str}(h:∀v0:Value,bindArgs fd ⟨[v0],[]⟩=pure ([p0].zip [v0])):Binds K fd [p0] []:= .all λus hl=>by
 obtain⟨v0,t0,rfl,hZ⟩:=cL hl;cases GaW.mp hZ;exact h v0
variable{p1:Str}
theorem all2{K:PySem.W.Frag}{fd:FuncData}{p0:Str}(h:∀v0 v1:Value,bindArgs fd ⟨[v0,v1],[]⟩=pure ([p0,p1].zip [v0,v1])):Binds K fd [p0,p1] []:= .all λus hl=>by
 obtain⟨v0,t0,rfl,h0⟩:=cL hl;obtain⟨v1,t1,rfl,hZ⟩:=cL h0;cases GaW.mp hZ;exact h v0 v1
variable{p2:Str}
theorem IM{K:PySem.W.Frag}{fd:FuncData}{p0:Str}(h:∀v0 v1 v2:Value,bindArgs fd ⟨[v0,v1,v2],[]⟩=pure ([p0,p1,p2].zip [v0,v1,v2])):Binds K fd [p0,p1,p2] []:= .all λus hl=>by
 obtain⟨v0,t0,rfl,h0⟩:=cL hl;obtain⟨v1,t1,rfl,h1⟩:=cL h0;obtain⟨v2,t2,rfl,hZ⟩:=cL h1;cases GaW.mp hZ;exact h v0 v1 v2
variable{p3:Str}
theorem G9{K:PySem.W.Frag}{fd:FuncData}{p0:Str}(h:∀v0 v1 v2 v3:Value,bindArgs fd ⟨[v0,v1,v2,v3],[]⟩=pure ([p0,p1,p2,p3].zip [v0,v1,v2,v3])):Binds K fd [p0,p1,p2,p3] []:= .all λus hl=>by
 obtain⟨v0,t0,rfl,h0⟩:=cL hl;obtain⟨v1,t1,rfl,h1⟩:=cL h0;obtain⟨v2,t2,rfl,h2⟩:=cL h1;obtain⟨v3,t3,rfl,hZ⟩:=cL h2;cases GaW.mp hZ;exact h v0 v1 v2 v3
variable{p4:Str}
theorem KY{K:PySem.W.Frag}{fd:FuncData}{p0:Str}(h:∀v0 v1 v2 v3 v4:Value,bindArgs fd ⟨[v0,v1,v2,v3,v4],[]⟩=pure ([p0,p1,p2,p3,p4].zip [v0,v1,v2,v3,v4])):Binds K fd [p0,p1,p2,p3,p4] []:= .all λus hl=>by
 obtain⟨v0,t0,rfl,h0⟩:=cL hl;obtain⟨v1,t1,rfl,h1⟩:=cL h0;obtain⟨v2,t2,rfl,h2⟩:=cL h1;obtain⟨v3,t3,rfl,h3⟩:=cL h2;obtain⟨v4,t4,rfl,hZ⟩:=cL h3;cases GaW.mp hZ;exact h v0 v1 v2 v3 v4
variable{p5:Str}
theorem Ni{K:PySem.W.Frag}{fd:FuncData}{p0:Str}(h:∀v0 v1 v2 v3 v4 v5:Value,bindArgs fd ⟨[v0,v1,v2,v3,v4,v5],[]⟩=pure ([p0,p1,p2,p3,p4,p5].zip [v0,v1,v2,v3,v4,v5])):Binds K fd [p0,p1,p2,p3,p4,p5] []:= .all λus hl=>by
 obtain⟨v0,t0,rfl,h0⟩:=cL hl;obtain⟨v1,t1,rfl,h1⟩:=cL h0;obtain⟨v2,t2,rfl,h2⟩:=cL h1;obtain⟨v3,t3,rfl,h3⟩:=cL h2;obtain⟨v4,t4,rfl,h4⟩:=cL h3;obtain⟨v5,t5,rfl,hZ⟩:=cL h4;cases GaW.mp hZ;exact h v0 v1 v2 v3 v4 v5
theorem QS{K:PySem.W.Frag}{fd:FuncData}{p0 p6:Str}(h:∀v0 v1 v2 v3 v4 v5 v6:Value,bindArgs fd ⟨[v0,v1,v2,v3,v4,v5,v6],[]⟩=pure ([p0,p1,p2,p3,p4,p5,p6].zip [v0,v1,v2,v3,v4,v5,v6])):Binds K fd [p0,p1,p2,p3,p4,p5,p6] []:= .all λus hl=>by
 obtain⟨v0,t0,rfl,h0⟩:=cL hl;obtain⟨v1,t1,rfl,h1⟩:=cL h0;obtain⟨v2,t2,rfl,h2⟩:=cL h1;obtain⟨v3,t3,rfl,h3⟩:=cL h2;obtain⟨v4,t4,rfl,h4⟩:=cL h3;obtain⟨v5,t5,rfl,h5⟩:=cL h4;obtain⟨v6,t6,rfl,hZ⟩:=cL h5;cases GaW.mp hZ;exact h v0 v1 v2 v3 v4 v5 v6
section
variable{Pm:Params}{mg:Str->Option Value}
def Txt(Pm:Params)(mg:Str->Option Value):Prop:=∃h:Heap,(Hd.K Pm).In h/\h.Ns mainGlobals mg
variable{n:Str}
theorem Txt.at{v:Value}(T:Txt Pm mg)(e:PySem.W.nsIn (Hd.K Pm) mainGlobals n=some (some v):=by kernel_rfl):mg n=some v:=let⟨_,X,G⟩:=T;PySem.W.mg_of X G e
theorem Txt.no(T:Txt Pm mg)(e:PySem.W.nsIn (Hd.K Pm) mainGlobals n=some none:=by kernel_rfl):mg n=none:=let⟨_,X,G⟩:=T;PySem.W.mg_none_of X G e
theorem mkF{x:Str}{st:Stmt}{f:Addr}{pm cd:Value}(l:(Hd.K Pm).lookup f=some (Hd.fo (PySem.W.fnOf x x (lT st) (gW st) (bz st) .none .none .none pm none cd .none)):=by kernel_rfl)(c:PySem.W.codeIn (Hd.K Pm) cd x=true:=by kernel_rfl)(k:PySem.W.keepIn (Hd.K Pm) (.ref f)=true:=by kernel_rfl):Fun (Hd.K Pm) x x st f (PySem.W.fnOf x x (lT st) (gW st) (bz st) .none .none .none pm none cd .none):=Md l c k
abbrev Fn(Pm:Params)(x:Str)(st:Stmt)(f:Addr)(d:FuncData):Prop:=Fun (Hd.K Pm) x x st f d
theorem oH:Fn Pm "givings_of" (top 1) 19 Hd.nR:=mkF
theorem Er:Fn Pm "bound" (top 3) 26 Hd.vp:=mkF
theorem IP:Fn Pm "span" (top 5) 33 Hd.GA:=mkF
theorem Es:Fn Pm "state" (top 6) 38 Hd.D4:=mkF
theorem pZ:Fn Pm "weight_at" (top 8) 45 Hd.kH:=mkF
theorem IQ:Fn Pm "sums" (top 10) 52 Hd.BJ:=mkF
theorem lK:Fn Pm "giving_hours" (top 12) 57 Hd.iB:=mkF
theorem mO:Fn Pm "amount_fits" (top 13) 64 Hd.j7:=mkF
theorem kh:Fn Pm "due_stretches" (top 14) 71 Hd.gE:=mkF
theorem Bl:Fn Pm "gap_of" (top 15) 76 Hd.wX:=mkF
theorem kl:Fn Pm "gap_stretches" (top 16) 83 Hd.gF:=mkF
theorem km:Fn Pm "age_stretches" (top 17) 88 Hd.gG:=mkF
theorem sP:Fn Pm "marks_of" (top 18) 95 Hd.mR:=mkF
theorem qa:Fn Pm "cap_steps" (top 19) 100 Hd.pM:=mkF
theorem kn:Fn Pm "cap_stretches" (top 20) 105 Hd.gH:=mkF
theorem jI:Fn Pm "shut_stretches" (top 21) 110 Hd.jh:=mkF
theorem IS:Fn Pm "wait" (top 22) 117 Hd.BK:=mkF
theorem fC:Fn Pm "_law_mixed" (top 24) 124 Hd.kI:=mkF
theorem mz:Fn Pm "_law_far" (top 25) 131 Hd.oR:=mkF
theorem uZ:Fn Pm "_law_cap" (top 26) 138 Hd.oS:=mkF
theorem qb:Fn Pm "_law_stuff" (top 27) 145 Hd.kJ:=mkF
theorem sQ:Fn Pm "_law_dues" (top 28) 152 Hd.qK:=mkF
theorem qc:Fn Pm "_law_order" (top 29) 159 Hd.kK:=mkF
theorem qd:Fn Pm "_law_world" (top 30) 166 Hd.kL:=mkF
theorem sR:Fn Pm "_law_hour" (top 31) 173 Hd.mS:=mkF
theorem lL:Fn Pm "_law_spots" (top 32) 178 Hd.kM:=mkF
theorem oI:Fn Pm "_law_weight" (top 33) 185 Hd.nS:=mkF
theorem v8:Fn Pm "_law_due" (top 34) 192 Hd.uc:=mkF
theorem sS:Fn Pm "_law_most" (top 35) 199 Hd.qL:=mkF
theorem sT:Fn Pm "_law_caps" (top 36) 206 Hd.mT:=mkF
theorem sU:Fn Pm "_law_near" (top 37) 213 Hd.mU:=mkF
theorem va:Fn Pm "_law_own" (top 38) 218 Hd.oT:=mkF
theorem ka:Fn Pm "_law_faults" (top 39) 225 Hd.jL:=mkF
theorem nI:Fn Pm "_law_with" (top 40) 232 Hd.mV:=mkF
theorem sV:Fn Pm "_law_book" (top 41) 239 Hd.mW:=mkF
theorem sW:Fn Pm "_law_fits" (top 42) 246 Hd.qM:=mkF
theorem qe:Fn Pm "_law_first" (top 43) 253 Hd.pO:=mkF
theorem Pz:Fn Pm "law" (top 44) 260 Hd.GB:=mkF
theorem Txt.PB(T:Txt Pm mg):mg "law"=some (.ref 260):=T.at
end
seal Hd.K
section
variable{P:Program}{w:World}{Pm:Params}{mg:Str->Option Value}{base:Heap}
abbrev Sc(N:List Str)(n:Nat)(st:Stmt):Prop:=jK N (N.take n) (bz st)
theorem tN:Sc ["book","order"] 2 (top 1):=d8
noncomputable abbrev Et:List Str:=["cap","weight"]
theorem IT:Sc Et 2 (top 3):=d8
theorem KZ:Sc ["order","k","dues","hour"] 2 (top 5):=d8
theorem IU:Sc ["order","hours","k","hour","ends"] 4 (top 6):=d8
noncomputable abbrev qf:List Str:=["weights","guest","hour","found","row"]
theorem wz:Sc qf 3 (top 8):=d8
noncomputable abbrev IV:List Str:=["marks","hours","rows","found","total","gone","k","row"]
theorem L0:Sc IV 2 (top 10):=d8
noncomputable abbrev lM:List Str:=["book","order"]
theorem qq:Sc lM 2 (top 12):=d8
noncomputable abbrev mP:List Str:=["world","order","amount","row"]
theorem sX:Sc mP 3 (top 13):=d8
noncomputable abbrev ko:List Str:=["row","hours","hour","last","dues","found","begin","k","ends"]
theorem pF:Sc ko 4 (top 14):=d8
theorem Ga:Sc ["bars","stuff","other","pair"] 3 (top 15):=d8
noncomputable abbrev kq:List Str:=["world","book","order","row","found","giving","other","gap"]
theorem pG:Sc kq 3 (top 16):=d8
noncomputable abbrev kr:List Str:=["world","book","order","hour","last","row","stuff","found","weighed"]
theorem pH:Sc kr 5 (top 17):=d8
noncomputable abbrev sY:List Str:=["world","book","order","row","found","giving","other"]
theorem Bm:Sc sY 3 (top 18):=d8
theorem wA:Sc ["cap","marks","weights","guest","hour","steps"] 5 (top 19):=d8
noncomputable abbrev ku:List Str:=["cap","marks","weights","guest","amount","hour","last","hours","given","rows","ends","row","found","end","top","begin"]
theorem pI:Sc ku 7 (top 20):=d8
theorem oJ:Sc ["world","book","order","amount","hour","last","row","hours","marks","found","cap"] 6 (top 21):=d8
noncomputable abbrev IW:List Str:=["world","book","order","amount","hour","last","found","stretch"]
theorem L3:Sc IW 6 (top 22):=d8
noncomputable abbrev qg:List Str:=["_law_script","_law_k","_law_cell","_law_v"]
theorem wB:Sc qg 2 (top 24):=d8
noncomputable abbrev vb:List Str:=["_law_script"]
theorem CL:Sc vb 1 (top 25):=d8
noncomputable abbrev vc:List Str:=["_law_script","_law_k","_law_part","_law_far_here","_law_hours","_law_kind"]
theorem CM:Sc vc 4 (top 26):=d8
noncomputable abbrev qh:List Str:=["_law_script","_law_k","_law_name","_law_far_here","_law_part","_law_sizes","_law_j","_law_caps_here","_law_young"]
theorem wC:Sc qh 4 (top 27):=d8
theorem Bn:Sc ["_law_script","_law_k","_law_far_here","_law_every","_law_early","_law_late","_law_begin"] 3 (top 28):=d8
noncomputable abbrev qi:List Str:=["_law_script","_law_k","_law_name","_law_guests","_law_stuffs","_law_far_here","_law_stuff_here","_law_part","_law_most_here","_law_per","_law_top","_law_rule","_law_dues_here","_law_tapers","_law_at","_law_j","_law_den"]
theorem wD:Sc qi 6 (top 29):=d8
noncomputable abbrev qj:List Str:=["_law_script","_law_far_here","_law_names","_law_guests","_law_k","_law_stuffs","_law_bars","_law_x","_law_y","_law_gap","_law_orders"]
theorem wF:Sc qj 1 (top 30):=d8
noncomputable abbrev sZ:List Str:=["_law_script","_law_k","_law_order_here","_law_far_here","_law_dues_here","_law_by","_law_hour_here"]
theorem Bo:Sc sZ 4 (top 31):=d8
noncomputable abbrev qk:List Str:=["_law_rows"]
theorem wG:Sc qk 1 (top 32):=d8
theorem tP:Sc ["_law_weights","_law_guest","_law_hour_here","_law_found","_law_weighing"] 3 (top 33):=d8
theorem CN:Sc ["_law_order_here","_law_hour_here","_law_k","_law_at"] 2 (top 34):=d8
theorem Bp:Sc ["_law_cap_here","_law_weight_here"] 2 (top 35):=d8
noncomputable abbrev t8:List Str:=["_law_world_here","_law_book_here","_law_guest","_law_stuff_here","_law_hour_here","_law_found","_law_k","_law_cap_here","_law_total","_law_order_here","_law_at","_law_amount","_law_most_here"]
theorem Bq:Sc t8 5 (top 36):=d8
noncomputable abbrev t9:List Str:=["_law_world_here","_law_book_here","_law_order_here","_law_hour_here","_law_found","_law_one","_law_other","_law_later","_law_told","_law_pair","_law_bar"]
theorem Br:Sc t9 4 (top 37):=d8
noncomputable abbrev vd:List Str:=["_law_world_here","_law_book_here","_law_order_here","_law_hour_here","_law_amount","_law_told","_law_stuff_here","_law_k","_law_found","_law_same"]
theorem CO:Sc vd 5 (top 38):=d8
noncomputable abbrev oK:List Str:=["_law_world_here","_law_book_here","_law_found","_law_order_here","_law_hour_here","_law_amount"]
theorem tQ:Sc oK 2 (top 39):=d8
noncomputable abbrev tf:List Str:=["_law_book_here","_law_order_here","_law_hour_here","_law_amount"]
theorem Bs:Sc tf 4 (top 40):=d8
noncomputable abbrev tm:List Str:=["_law_script","_law_world_here","_law_many","_law_far_here","_law_book_here","_law_j","_law_at","_law_order_here","_law_told","_law_hour_here","_law_part","_law_amount","_law_other","_law_weighing"]
theorem Bt:Sc tm 3 (top 41):=d8
theorem Bu:Sc ["_law_world_here","_law_book_here","_law_order_here","_law_amount","_law_hour_here"] 5 (top 42):=d8
theorem wH:Sc ["_law_world_here","_law_book_here","_law_ask","_law_far_here","_law_order_here","_law_amount","_law_hour_here","_law_last","_law_unit","_law_more","_law_at"] 4 (top 43):=d8
theorem Nj:Sc ["_law_script","_law_world_here","_law_far_here","_law_book_here","_law_j","_law_at","_law_order_here","_law_part","_law_amount","_law_hour_here","_law_last","_law_due_here","_law_told"] 1 (top 44):=d8
variable{X:Cx}
theorem lN{e:Expr}{t:DT}(h:PWd X e t):PTd X e t:=PW.pt h
variable{ps:List Str}{fa:Addr}{x:Str}
theorem aO(P:Program)(w:World)(Pm:Params)(mg:Str->Option Value)(base:Heap)(k np:Nat)(body:DS){qual:Str}{sd:Stmt}{fd:FuncData}{N:List Str}(F:Fun (Hd.K Pm) x qual sd fa fd)(S:jK N ps (bz sd))(S0:ps.length=np)(hb:∀(hJ:Value) (A:Around) (outer:List PySem.Env) (s:Shared) (H:Hp) (E:XK) (hr:iA k (A.deeper (envOfC qual (bz sd) s.heap.objs.size fa hJ))),N.Nodup->(A.deeper (envOfC qual (bz sd) s.heap.objs.size fa hJ)).units+1<cLine->(A.deeper (envOfC qual (bz sd) s.heap.objs.size fa hJ)).units+20<cLine->tF (wM CX0 P w (Hd.K Pm) mg base N qual (bz sd) fa hJ A outer s H E).nox (gW sd) body):nO P w (Hd.K Pm) mg base CX0 (k+1) fa fd ps (spD (Hd.K Pm) np (cG N.length np body)):=P0 F S S0 λa b c d e f hr=>hb a b c d e f hr S.nd (Oa hr) (JN hr)
theorem cq(sp:List D->Option D){e:Expr}{pos p:Pos}{k m np:Nat}{fd:FuncData}{st:Stmt}{es:List Expr}{r:DA}(F:nO X.prog X.w X.K X.mg X.base CX0 k fa fd ps (spD X.K np sp))(hF:Fun X.K x x st fa fd)(hb:Binds X.K fd ps [])(hr:iA m X.A)(hg:Gl X x)(hm:X.mg x=some (.ref fa))(ha:PAd X (e::es) r)(hl:∀env rs,r env=some rs->rs.length=np)(hk:k<=m)(yt:(x==("__debug__":Str))=false)(he:starEach (e::es) X.env=(false,eval e X.env)::starEach es X.env)(xH:(backTo pos (starEach es X.env)).any (·.1)=false):PEd X (.Call (.Name x p) (e::es) [] pos) (ao sp r):=JJ F (hr.mono hk) hg hm hF.kp hb O9 ha hl yt he xH
abbrev Fo(P:Program)(w:World)(Pm:Params)(mg:Str->Option Value)(base:Heap)(k:Nat)(fa:Addr)(fd:FuncData)(ps:List Str)(np:Nat)(s:List D->Option D):Prop:=nO P w (Hd.K Pm) mg base CX0 k fa fd ps (spD (Hd.K Pm) np s)
theorem g0(T:Txt Pm mg):Fo P w Pm mg base 1 26 Hd.vp (Et.take 2) 2 i9/\Fo P w Pm mg base 1 45 Hd.kH (qf.take 3) 3 gr/\Fo P w Pm mg base 1 52 Hd.BJ (IV.take 2) 2 ja/\Fo P w Pm mg base 2 57 Hd.iB (lM.take 2) 2 c6/\Fo P w Pm mg base 1 64 Hd.j7 (mP.take 3) 3 dP/\Fo P w Pm mg base 3 71 Hd.gE (ko.take 4) 4 bJ:=by
 have ok_givings_of:=aO P w Pm mg base 0 2 Den.jU oH tN rfl ?_;have xn:=aO P w Pm mg base 0 2 Den.m8 Er IT rfl ?_;have ok_span:=aO P w Pm mg base 0 2 Den.Cn IP KZ rfl ?_;have ok_state:=aO P w Pm mg base 1 4 Den.w6 Es IU rfl ?_;have eY:=aO P w Pm mg base 0 3 Den.lx pZ wz rfl ?_;have xB:=aO P w Pm mg base 0 2 Den.w8 IQ L0 rfl ?_;have eN:=aO P w Pm mg base 1 2 Den.iJ lK qq rfl ?_;have eQ:=aO P w Pm mg base 0 3 Den.jb mO sX rfl ?_;have eL:=aO P w Pm mg base 2 4 Den.f9 kh pF rfl ?_;exact⟨xn,eY,xB,eN,eQ,eL⟩
 all_goals intro hJ A outer s H E hr nd hu hu20
 all_goals repeat' (first|(with_reducible apply dN)|((with_reducible apply @kP);rfl;first|exact Or.inl rfl|exact Or.inr (Or.inl rfl)|exact Or.inr (Or.inr rfl)|exact br rfl|exact bO rfl;decide;decide)|((with_reducible apply @bS);rotate_left 2;rfl)|((with_reducible apply @pU);exact hu;rotate_left 2;exactλ_ _=>rfl)|((with_reducible first|refine aW tX oY ?_ ?_ ?_|refine aW vh qt ?_ ?_ ?_|refine aW nM jO ?_ ?_ ?_|refine aW Gm BQ ?_ ?_ ?_|refine aW qr nV ?_ ?_ ?_|refine kR L5 GK ?_ ?_ ?_|refine kR nM jO ?_ ?_ ?_);rotate_left 2;exact bR _)|((with_reducible first|refine aW (gK ?_) gL ?_ ?_ ?_|refine kR (gK ?_) gL ?_ ?_ ?_);exact hu20;rotate_left 2;first|exact bR _|with_unfolding_all rfl)|(with_reducible first|apply dN|apply oW|apply qS|apply dO|apply kW|apply iZ|apply gq|apply kQ|apply mZ|apply oX|apply lU|apply n4|apply Mn|apply kU|apply n5|apply Mm|apply vG|apply nW|apply BR|apply fV|apply kS|apply Hh nM jO nM jO|apply l6|apply nX|apply p8)|(with_reducible apply lN)|rfl|exact hu|exact hu20|exact bR _|exact br rfl|exact bO rfl|exact Or.inl rfl|exact Or.inr rfl|exact Or.inr (Or.inl rfl)|exact Or.inr (Or.inr rfl)|exactλ_=>rfl|exactλ_ _=>rfl|decide|exact fu|refine fv ?_|refine cX (uw (by rfl)) ux rfl T.no Hb ?_|refine cX (iz.or fW) fX rfl T.no n8 ?_|refine cX j2 i5 rfl T.no lV ?_|refine dZ (N:=["given","ends"]) (l:=(some 1)) rfl ?_ ?_ bP ⟨λ_ _ _ _ _=>(aN (i:=0) (bT (by decide+kernel)) rfl (aK rfl) (bU rfl)),λ_ _ _ _ _=> ?_,λ_ _ _ _ _=> ?_⟩|(refine dZ (N:=["row","order"]) (l:=none) rfl ?_ ?_ bP ⟨λ_ _ _ _ _=>(aN (i:=0) (bT (by decide+kernel)) rfl (aK rfl) (bU rfl)),λ_ _ _ _ _=> ?_,λ_ _ _ _ _=> ?_⟩;exact⟨rfl,rfl,rfl,rfl,rfl,by decide,rfl,rfl⟩)|(refine dZ (N:=["row"]) (l:=none) rfl ?_ ?_ bP ⟨λ_ _ _ _ _=>(aN (i:=0) (bT (by decide+kernel)) rfl (aK rfl) (bU rfl)),λ_ _ _ _ _=> ?_,λ_ _ _ _ _=> ?_⟩;exact⟨rfl,rfl,rfl,rfl,rfl,by decide,rfl,rfl⟩)|refine aN nd rfl ?_|refine aN (bT (by decide+kernel)) rfl (aK rfl) (bU rfl)|refine qY rfl ?_|refine iu rfl T.no ?_|refine JZ rfl T.no ?_|refine iY ?_ ?_|refine kX ?_|refine kZ nd rfl ?_ ?_|refine pV ?_ ?_ ?_|refine kY ?_|refine l4 GbR rfl ?_ ?_ ?_|refine jm rfl ?_ ?_|refine GW GbR ?_ ?_|refine fV ?_ ?_|refine kS ?_ ?_|((first|(with_reducible apply cq i8);exact ok_givings_of;exact oH|(with_reducible apply cq nA);exact ok_span;exact IP|(with_reducible apply cq m9);exact ok_state;exact Es);(first|exact all2 λ_ _=>rfl|exact G9 λ_ _ _ _=>rfl);exact hr;rfl;exact T.at;rotate_left 2;decide;decide;rfl;rfl)|exact T.no|exact⟨rfl,rfl,rfl,rfl⟩|exact⟨rfl,rfl,rfl,rfl,rfl,by decide,rfl,rfl⟩)
theorem g1(T:Txt Pm mg):Fo P w Pm mg base 2 83 Hd.gF (kq.take 3) 3 d9/\Fo P w Pm mg base 1 88 Hd.gG (kr.take 5) 5 cx/\Fo P w Pm mg base 1 95 Hd.mR (sY.take 3) 3 iK/\Fo P w Pm mg base 2 105 Hd.gH (ku.take 7) 7 bK:=by
 obtain⟨xn,eY,xB,eN,eQ,eL⟩:=g0 (P:=P) (w:=w) (base:=base) T;have ok_gap_of:=aO P w Pm mg base 0 3 Den.rV Bl Ga rfl ?_;have eV:=aO P w Pm mg base 1 3 Den.gM kl pG rfl ?_;have eX:=aO P w Pm mg base 0 5 Den.gO km pH rfl ?_;have xf:=aO P w Pm mg base 0 3 Den.nB sP Bm rfl ?_;have ok_cap_steps:=aO P w Pm mg base 0 5 Den.ly qa wA rfl ?_;have eW:=aO P w Pm mg base 1 7 Den.gP kn pI rfl ?_;exact⟨eV,eX,xf,eW⟩
 all_goals intro hJ A outer s H E hr nd hu hu20
 all_goals repeat' (first|(with_reducible apply dN)|((with_reducible apply @kP);rfl;first|exact Or.inl rfl|exact Or.inr (Or.inl rfl)|exact Or.inr (Or.inr rfl)|exact br rfl|exact bO rfl;decide;decide)|((with_reducible apply @bS);rotate_left 2;rfl)|((with_reducible apply @pU);exact hu;rotate_left 2;exactλ_ _=>rfl)|((with_reducible first|refine aW tX oY ?_ ?_ ?_|refine aW vh qt ?_ ?_ ?_|refine aW qr nV ?_ ?_ ?_);rotate_left 2;exact bR _)|((with_reducible first|refine aW (gK ?_) gL ?_ ?_ ?_|refine aW (C4 ?_) C5 ?_ ?_ ?_|refine kR (gK ?_) gL ?_ ?_ ?_);exact hu20;rotate_left 2;first|exact bR _|with_unfolding_all rfl)|(with_reducible first|apply dN|apply oW|apply qS|apply dO|apply kW|apply iZ|apply ur|apply gq|apply kQ|apply oX|apply Ad|apply GN|apply kU|apply n5|apply uu|apply vG|apply nW|apply fV|apply l6|apply nX|apply p8|apply MG)|(with_reducible apply lN)|rfl|exact hu|exact hu20|exact bR _|exact br rfl|exact bO rfl|exact Or.inl rfl|exact Or.inr rfl|exact Or.inr (Or.inl rfl)|exact Or.inr (Or.inr rfl)|exactλ_=>rfl|exactλ_ _=>rfl|decide|exact fu|refine fv ?_|refine cX (uw (by rfl)) ux rfl T.no Hb ?_|refine cX (tY (by rfl)) qW rfl T.no Ha ?_|refine cX (oN (by rfl)) n6 rfl T.no vI ?_|refine cX (EY (by rfl)) F0 rfl T.no Mt ?_|refine Kj rfl rfl T.no ?_ ?_|refine dZ (N:=["weighing","guest"]) (l:=(some 2)) rfl ?_ ?_ bP ⟨λ_ _ _ _ _=>(aN (i:=0) (bT (by decide+kernel)) rfl (aK rfl) (bU rfl)),λ_ _ _ _ _=> ?_,λ_ _ _ _ _=> ?_⟩|refine dZ (N:=["bar","pair"]) (l:=(some 0)) rfl ?_ ?_ bP ⟨λ_ _ _ _ _=>(aN (i:=0) (bT (by decide+kernel)) rfl (aK rfl) (bU rfl)),λ_ _ _ _ _=> ?_,λ_ _ _ _ _=> ?_⟩|refine dZ (N:=["mark","cap"]) (l:=(some 1)) rfl ?_ ?_ bP ⟨λ_ _ _ _ _=>(aN (i:=0) (bT (by decide+kernel)) rfl (aK rfl) (bU rfl)),λ_ _ _ _ _=> ?_,λ_ _ _ _ _=> ?_⟩|refine dZ (N:=["step"]) (l:=none) rfl ?_ ?_ bP ⟨λ_ _ _ _ _=>(aN (i:=0) (bT (by decide+kernel)) rfl (aK rfl) (bU rfl)),λ_ _ _ _ _=> ?_,λ_ _ _ _ _=> ?_⟩|refine dZ (N:=["cap"]) (l:=none) rfl ?_ ?_ bP ⟨λ_ _ _ _ _=>(aN (i:=0) (bT (by decide+kernel)) rfl (aK rfl) (bU rfl)),λ_ _ _ _ _=> ?_,λ_ _ _ _ _=> ?_⟩|refine dZ (N:=["row"]) (l:=none) rfl ?_ ?_ bP ⟨λ_ _ _ _ _=>(aN (i:=0) (bT (by decide+kernel)) rfl (aK rfl) (bU rfl)),λ_ _ _ _ _=> ?_,λ_ _ _ _ _=> ?_⟩|refine qz (i:=8) (N:=["mark"]) nd rfl ?_ (l:=(some 1)) rfl ?_ ?_ bP ⟨λ_ _ _ _ _=>(aN (i:=0) (bT (by decide+kernel)) rfl (aK rfl) (bU rfl)),λ_ _ _ _ _=> ?_,λ_ _ _ _ _=> ?_⟩|refine qz (i:=8) (N:=["weighing","row"]) nd rfl ?_ (l:=none) rfl ?_ ?_ bP ⟨λ_ _ _ _ _=>(aN (i:=0) (bT (by decide+kernel)) rfl (aK rfl) (bU rfl)),λ_ _ _ _ _=> ?_,λ_ _ _ _ _=> ?_⟩|refine aN nd rfl ?_|refine aN (bT (by decide+kernel)) rfl (aK rfl) (bU rfl)|refine qY rfl ?_|refine MI rfl T.no ?_ ?_|refine iY ?_ ?_|refine kX ?_|refine kZ nd rfl ?_ ?_|refine pV ?_ ?_ ?_|refine kY ?_|refine l4 GbR rfl ?_ ?_ ?_|refine jm rfl ?_ ?_|refine fV ?_ ?_|refine kS ?_ ?_|((first|(with_reducible apply cq i9);exact xn;exact Er|(with_reducible apply cq gr);exact eY;exact pZ|(with_reducible apply cq ja);exact xB;exact IQ|(with_reducible apply cq og);exact ok_gap_of;exact Bl|(with_reducible apply cq gx);exact ok_cap_steps;exact qa);(first|exact all2 λ_ _=>rfl|exact IM λ_ _ _=>rfl|exact KY λ_ _ _ _ _=>rfl);exact hr;rfl;exact T.at;rotate_left 2;decide;decide;rfl;rfl)|exact T.no|exact⟨rfl,rfl,rfl,rfl⟩|exact⟨rfl,rfl,rfl,rfl,rfl,by decide,rfl,rfl⟩)
theorem g2(T:Txt Pm mg):Fo P w Pm mg base 5 117 Hd.BK (IW.take 6) 6 lz/\Fo P w Pm mg base 1 124 Hd.kI (qg.take 2) 2 a8/\Fo P w Pm mg base 2 131 Hd.oR (vb.take 1) 1 cy/\Fo P w Pm mg base 2 138 Hd.oS (vc.take 4) 4 g7:=by
 obtain⟨xn,eY,xB,eN,eQ,eL⟩:=g0 (P:=P) (w:=w) (base:=base) T;obtain⟨eV,eX,xf,eW⟩:=g1 (P:=P) (w:=w) (base:=base) T;have ok_shut_stretches:=aO P w Pm mg base 3 6 Den.fY jI oJ rfl ?_;have xg:=aO P w Pm mg base 4 6 Den.wa IS L3 rfl ?_;have bC:=aO P w Pm mg base 0 2 Den.lA fC wB rfl ?_;have dF:=aO P w Pm mg base 1 1 Den.pA mz CL rfl ?_;have gf:=aO P w Pm mg base 1 4 Den.jv uZ CM rfl ?_;exact⟨xg,bC,dF,gf⟩
 all_goals intro hJ A outer s H E hr nd hu hu20
 all_goals repeat' (first|(with_reducible apply dN)|((with_reducible apply @kP);rfl;first|exact Or.inl rfl|exact Or.inr (Or.inl rfl)|exact Or.inr (Or.inr rfl)|exact br rfl|exact bO rfl;decide;decide)|((with_reducible apply @bS);rotate_left 2;rfl)|((with_reducible apply @pU);exact hu;rotate_left 2;exactλ_ _=>rfl)|((with_reducible first|refine aW L5 GK ?_ ?_ ?_|refine aW tX oY ?_ ?_ ?_);rotate_left 2;exact bR _)|((with_reducible first|refine aW (gK ?_) gL ?_ ?_ ?_);exact hu20;rotate_left 2;first|exact bR _|with_unfolding_all rfl)|(with_reducible first|apply dN|apply oW|apply qS|apply dO|apply kW|apply iZ|apply gq|apply kQ|apply mZ|apply n4|apply BP|apply kU|apply n5|apply vG|apply GL|apply p8)|(with_reducible apply lN)|rfl|exact hu|exact hu20|exact bR _|exact br rfl|exact bO rfl|exact Or.inl rfl|exact Or.inr rfl|exact Or.inr (Or.inl rfl)|exact Or.inr (Or.inr rfl)|exactλ_=>rfl|exactλ_ _=>rfl|decide|exact fu|refine fv ?_|refine cX (iz.or fW) fX rfl T.no n8 ?_|refine cX j2 i5 rfl T.no lV ?_|refine qz (i:=9) (N:=["given"]) nd rfl ?_ (l:=(some 7)) rfl ?_ ?_ bP ⟨λ_ _ _ _ _=>(aN (i:=0) (bT (by decide+kernel)) rfl (aK rfl) (bU rfl)),λ_ _ _ _ _=> ?_,λ_ _ _ _ _=> ?_⟩|refine aN nd rfl ?_|refine aN (bT (by decide+kernel)) rfl (aK rfl) (bU rfl)|refine iY ?_ ?_|refine kX ?_|refine kZ nd rfl ?_ ?_|refine pV ?_ ?_ ?_|refine kY ?_|refine l4 GbR rfl ?_ ?_ ?_|refine EW rfl ?_ ?_|refine GQ|refine fV ?_ ?_|refine kS ?_ ?_|((first|(with_reducible apply cq c6);exact eN;exact lK|(with_reducible apply cq dP);exact eQ;exact mO|(with_reducible apply cq bJ);exact eL;exact kh|(with_reducible apply cq d9);exact eV;exact kl|(with_reducible apply cq cx);exact eX;exact km|(with_reducible apply cq iK);exact xf;exact sP|(with_reducible apply cq bK);exact eW;exact kn|(with_reducible apply cq cN);exact ok_shut_stretches;exact jI|(with_reducible apply cq a8);exact bC;exact fC);(first|exact all2 λ_ _=>rfl|exact IM λ_ _ _=>rfl|exact G9 λ_ _ _ _=>rfl|exact KY λ_ _ _ _ _=>rfl|exact Ni λ_ _ _ _ _ _=>rfl|exact QS λ_ _ _ _ _ _ _=>rfl);exact hr;rfl;exact T.at;rotate_left 2;decide;decide;rfl;rfl)|exact T.no|exact⟨rfl,rfl,rfl,rfl⟩|exact⟨rfl,rfl,rfl,rfl,rfl,by decide,rfl,rfl⟩)
theorem g3(T:Txt Pm mg):Fo P w Pm mg base 3 145 Hd.kJ (qh.take 4) 4 gy/\Fo P w Pm mg base 3 159 Hd.kK (qi.take 6) 6 gz:=by
 obtain⟨xg,bC,dF,gf⟩:=g2 (P:=P) (w:=w) (base:=base) T;have ke:=aO P w Pm mg base 2 4 Den.lB qb wC rfl ?_;have Bz:=aO P w Pm mg base 1 3 Den.jV sQ Bn rfl ?_;have kf:=aO P w Pm mg base 2 6 Den.lC qc wD rfl ?_;exact⟨ke,kf⟩
 all_goals intro hJ A outer s H E hr nd hu hu20
 all_goals repeat' (first|(with_reducible apply dN)|((with_reducible apply @kP);rfl;first|exact Or.inl rfl|exact Or.inr (Or.inl rfl)|exact Or.inr (Or.inr rfl)|exact br rfl|exact bO rfl;decide;decide)|((with_reducible apply @bS);rotate_left 2;rfl)|((with_reducible apply @pU);exact hu;rotate_left 2;exactλ_ _=>rfl)|((with_reducible first|refine aW Gm BQ ?_ ?_ ?_);rotate_left 2;exact bR _)|((with_reducible first|refine aW (gK ?_) gL ?_ ?_ ?_);exact hu20;rotate_left 2;first|exact bR _|with_unfolding_all rfl)|(with_reducible first|apply dN|apply oW|apply dO|apply kW|apply iZ|apply gq|apply kQ|apply mZ|apply oX|apply lU|apply n4|apply BP|apply kU|apply n5|apply Ml|apply nW|apply fV)|(with_reducible apply lN)|rfl|exact hu|exact hu20|exact bR _|exact br rfl|exact bO rfl|exact Or.inl rfl|exact Or.inr rfl|exact Or.inr (Or.inl rfl)|exact Or.inr (Or.inr rfl)|exactλ_=>rfl|exactλ_ _=>rfl|decide|exact fu|refine fv ?_|refine cX (iz.or fW) fX rfl T.no n8 ?_|refine jk gg iW rfl T.no nY ?_|refine aN nd rfl ?_|refine aN (bT (by decide+kernel)) rfl (aK rfl) (bU rfl)|refine iu rfl T.no ?_|refine iY ?_ ?_|refine kX ?_|refine kZ nd rfl ?_ ?_|refine pV ?_ ?_ ?_|refine kY ?_|refine l4 GbR rfl ?_ ?_ ?_|refine jm rfl ?_ ?_|refine fV ?_ ?_|refine kS ?_ ?_|((first|(with_reducible apply cq a8);exact bC;exact fC|(with_reducible apply cq g7);exact gf;exact uZ|(with_reducible apply cq iL);exact Bz;exact sQ);(first|exact all2 λ_ _=>rfl|exact IM λ_ _ _=>rfl|exact G9 λ_ _ _ _=>rfl);exact hr;rfl;exact T.at;rotate_left 2;decide;decide;rfl;rfl)|exact T.no|exact⟨rfl,rfl,rfl,rfl⟩|exact⟨rfl,rfl,rfl,rfl,rfl,by decide,rfl,rfl⟩)
theorem g4(T:Txt Pm mg):Fo P w Pm mg base 4 166 Hd.kL (qj.take 1) 1 gA/\Fo P w Pm mg base 2 173 Hd.mS (sZ.take 4) 4 fk/\Fo P w Pm mg base 1 178 Hd.kM (qk.take 1) 1 bX:=by
 obtain⟨xg,bC,dF,gf⟩:=g2 (P:=P) (w:=w) (base:=base) T;obtain⟨ke,kf⟩:=g3 (P:=P) (w:=w) (base:=base) T;have ik:=aO P w Pm mg base 3 1 Den.lD qd wF rfl ?_;have j4:=aO P w Pm mg base 1 4 Den.jW sR Bo rfl ?_;have fP:=aO P w Pm mg base 0 1 Den.lE lL wG rfl ?_;exact⟨ik,j4,fP⟩
 all_goals intro hJ A outer s H E hr nd hu hu20
 all_goals repeat' (first|(with_reducible apply dN)|((with_reducible apply @kP);rfl;first|exact Or.inl rfl|exact Or.inr (Or.inl rfl)|exact Or.inr (Or.inr rfl)|exact br rfl|exact bO rfl;decide;decide)|((with_reducible apply @bS);rotate_left 2;rfl)|((with_reducible apply @pU);exact hu;rotate_left 2;exactλ_ _=>rfl)|((with_reducible first|refine kR tX oY ?_ ?_ ?_);rotate_left 2;exact bR _)|((with_reducible first|refine aW (gK ?_) gL ?_ ?_ ?_|refine kR (gK ?_) gL ?_ ?_ ?_);exact hu20;rotate_left 2;first|exact bR _|with_unfolding_all rfl)|(with_reducible first|apply dN|apply oW|apply dO|apply kW|apply iZ|apply gq|apply kQ|apply mZ|apply oX|apply lU|apply n4|apply BP|apply kU|apply n5|apply p8)|(with_reducible apply lN)|rfl|exact hu|exact hu20|exact bR _|exact br rfl|exact bO rfl|exact Or.inl rfl|exact Or.inr rfl|exact Or.inr (Or.inl rfl)|exact Or.inr (Or.inr rfl)|exactλ_=>rfl|exactλ_ _=>rfl|decide|exact fu|refine fv ?_|refine cX (iz.or fW) fX rfl T.no n8 ?_|refine cX (oN (by rfl)) n6 rfl T.no vI ?_|refine jk tZ uB rfl T.no BU ?_|refine jk gg iW rfl T.no nY ?_|refine dZ (N:=["_law_row"]) (l:=(some 0)) rfl ?_ ?_ bP ⟨λ_ _ _ _ _=>(aN (i:=0) (bT (by decide+kernel)) rfl (aK rfl) (bU rfl)),λ_ _ _ _ _=> ?_,λ_ _ _ _ _=> ?_⟩|refine aN nd rfl ?_|refine aN (bT (by decide+kernel)) rfl (aK rfl) (bU rfl)|refine iu rfl T.no ?_|refine uo rfl T.no ?_ ?_|refine iY ?_ ?_|refine kX ?_|refine kZ nd rfl ?_ ?_|refine pV ?_ ?_ ?_|refine kY ?_|refine l4 GbR rfl ?_ ?_ ?_|refine jm rfl ?_ ?_|refine Fb rfl ?_ ?_ ?_|refine fV ?_ ?_|refine kS ?_ ?_|((first|(with_reducible apply cq a8);exact bC;exact fC|(with_reducible apply cq cy);exact dF;exact mz|(with_reducible apply cq gy);exact ke;exact qb|(with_reducible apply cq gz);exact kf;exact qc);(first|exact all1 λ_=>rfl|exact all2 λ_ _=>rfl|exact G9 λ_ _ _ _=>rfl|exact Ni λ_ _ _ _ _ _=>rfl);exact hr;rfl;exact T.at;rotate_left 2;decide;decide;rfl;rfl)|exact T.no|exact⟨rfl,rfl,rfl,rfl⟩|exact⟨rfl,rfl,rfl,rfl,rfl,by decide,rfl,rfl⟩)
theorem g5(T:Txt Pm mg):Fo P w Pm mg base 2 206 Hd.mT (t8.take 5) 5 g9/\Fo P w Pm mg base 1 213 Hd.mU (t9.take 4) 4 gc/\Fo P w Pm mg base 2 218 Hd.oT (vd.take 5) 5 jy:=by
 have tR:=aO P w Pm mg base 0 3 Den.jX oI tP rfl ?_;have CT:=aO P w Pm mg base 0 2 Den.ma v8 CN rfl ?_;have Bx:=aO P w Pm mg base 0 2 Den.g8 sS Bp rfl ?_;have lP:=aO P w Pm mg base 1 5 Den.nC sT Bq rfl ?_;have lQ:=aO P w Pm mg base 0 4 Den.nD sU Br rfl ?_;have nJ:=aO P w Pm mg base 1 5 Den.pB va CO rfl ?_;exact⟨lP,lQ,nJ⟩
 all_goals intro hJ A outer s H E hr nd hu hu20
 all_goals repeat' (first|(with_reducible apply dN)|((with_reducible apply @kP);rfl;first|exact Or.inl rfl|exact Or.inr (Or.inl rfl)|exact Or.inr (Or.inr rfl)|exact br rfl|exact bO rfl;decide;decide)|((with_reducible apply @bS);rotate_left 2;rfl)|((with_reducible apply @pU);exact hu;rotate_left 2;exactλ_ _=>rfl)|((with_reducible refine aW (M6 ?_) Kh ?_ ?_ ?_);exact Nat.lt_of_succ_lt hu;rotate_left 2;exact bR _)|((with_reducible first|refine aW tX oY ?_ ?_ ?_|refine aW vh qt ?_ ?_ ?_|refine aW nM jO ?_ ?_ ?_|refine aW Gm BQ ?_ ?_ ?_|refine aW qr nV ?_ ?_ ?_);rotate_left 2;exact bR _)|((with_reducible first|refine aW (gK ?_) gL ?_ ?_ ?_|refine aW (C4 ?_) C5 ?_ ?_ ?_);exact hu20;rotate_left 2;first|exact bR _|with_unfolding_all rfl)|(with_reducible first|apply dN|apply oW|apply qS|apply dO|apply kW|apply iZ|apply ur|apply gq|apply kQ|apply mZ|apply oX|apply lU|apply n4|apply Ad|apply kU|apply n5|apply uu|apply nW|apply BR|apply fV|apply kS|apply A6 nM jO nM jO|apply l6|apply nX|apply p8)|(with_reducible apply lN)|rfl|exact hu|exact hu20|exact bR _|exact br rfl|exact bO rfl|exact Or.inl rfl|exact Or.inr rfl|exact Or.inr (Or.inl rfl)|exact Or.inr (Or.inr rfl)|exactλ_=>rfl|exactλ_ _=>rfl|decide|exact fu|refine fv ?_|refine cX (iz.or fW) fX rfl T.no n8 ?_|refine cX j2 i5 rfl T.no lV ?_|refine jk gg iW rfl T.no nY ?_|refine dZ (N:=["_law_one","_law_told","_law_k"]) (l:=(some 9)) rfl ?_ ?_ bP ⟨λ_ _ _ _ _=>(aN (i:=0) (bT (by decide+kernel)) rfl (aK rfl) (bU rfl)),λ_ _ _ _ _=> ?_,λ_ _ _ _ _=> ?_⟩|refine dZ (N:=["_law_cap_here"]) (l:=none) rfl ?_ ?_ bP ⟨λ_ _ _ _ _=>(aN (i:=0) (bT (by decide+kernel)) rfl (aK rfl) (bU rfl)),λ_ _ _ _ _=> ?_,λ_ _ _ _ _=> ?_⟩|refine qz (i:=9) (N:=["_law_one","_law_order_here"]) nd rfl ?_ (l:=none) rfl ?_ ?_ bP ⟨λ_ _ _ _ _=>(aN (i:=0) (bT (by decide+kernel)) rfl (aK rfl) (bU rfl)),λ_ _ _ _ _=> ?_,λ_ _ _ _ _=> ?_⟩|refine aN nd rfl ?_|refine aN (bT (by decide+kernel)) rfl (aK rfl) (bU rfl)|refine qY rfl ?_|refine iu rfl T.no ?_|refine iY ?_ ?_|refine kX ?_|refine kZ nd rfl ?_ ?_|refine pV ?_ ?_ ?_|refine kY ?_|refine l4 GbR rfl ?_ ?_ ?_|refine jm rfl ?_ ?_|refine fV ?_ ?_|refine kS ?_ ?_|((first|(with_reducible apply cq fI);exact tR;exact oI|(with_reducible apply cq jw);exact CT;exact v8|(with_reducible apply cq dD);exact Bx;exact sS);(first|exact all2 λ_ _=>rfl|exact IM λ_ _ _=>rfl);exact hr;rfl;exact T.at;rotate_left 2;decide;decide;rfl;rfl)|exact T.no|exact⟨rfl,rfl,rfl,rfl⟩|exact⟨rfl,rfl,rfl,rfl,rfl,by decide,rfl,rfl⟩)
theorem g6(T:Txt Pm mg):Fo P w Pm mg base 3 225 Hd.jL (oK.take 2) 2 bB/\Fo P w Pm mg base 1 232 Hd.mV (tf.take 4) 4 cH/\Fo P w Pm mg base 4 239 Hd.mW (tm.take 3) 3 jZ:=by
 obtain⟨xg,bC,dF,gf⟩:=g2 (P:=P) (w:=w) (base:=base) T;obtain⟨ik,j4,fP⟩:=g4 (P:=P) (w:=w) (base:=base) T;obtain⟨lP,lQ,nJ⟩:=g5 (P:=P) (w:=w) (base:=base) T;have gk:=aO P w Pm mg base 2 2 Den.jY ka tQ rfl ?_;have j5:=aO P w Pm mg base 0 4 Den.nE nI Bs rfl ?_;have lR:=aO P w Pm mg base 3 3 Den.nF sV Bt rfl ?_;exact⟨gk,j5,lR⟩
 all_goals intro hJ A outer s H E hr nd hu hu20
 all_goals repeat' (first|(with_reducible apply dN)|((with_reducible apply @kP);rfl;first|exact Or.inl rfl|exact Or.inr (Or.inl rfl)|exact Or.inr (Or.inr rfl)|exact br rfl|exact bO rfl;decide;decide)|((with_reducible apply @bS);rotate_left 2;rfl)|((with_reducible apply @pU);exact hu;rotate_left 2;exactλ_ _=>rfl)|((with_reducible first|refine aW (gK ?_) gL ?_ ?_ ?_|refine aW (K2 ?_) K3 ?_ ?_ ?_);exact hu20;rotate_left 2;first|exact bR _|with_unfolding_all rfl)|(with_reducible first|apply dN|apply dO|apply kW|apply iZ|apply gq|apply kQ|apply Ka|apply mZ|apply lU|apply n4|apply kU|apply n5|apply l6|apply nX|apply p8)|(with_reducible apply lN)|rfl|exact hu|exact hu20|exact bR _|exact br rfl|exact bO rfl|exact Or.inl rfl|exact Or.inr rfl|exact Or.inr (Or.inl rfl)|exact Or.inr (Or.inr rfl)|exactλ_=>rfl|exactλ_ _=>rfl|decide|exact fu|refine fv ?_|refine AF rfl hu20 rfl T.no rfl T.no ?_|refine cX (iz.or fW) fX rfl T.no n8 ?_|refine cX j2 i5 rfl T.no lV ?_|refine jk gg iW rfl T.no nY ?_|refine aN nd rfl ?_|refine aN (bT (by decide+kernel)) rfl (aK rfl) (bU rfl)|refine qY rfl ?_|refine iu rfl T.no ?_|refine iY ?_ ?_|refine kX ?_|refine kZ nd rfl ?_ ?_|refine pV ?_ ?_ ?_|refine kY ?_|refine l4 GbR rfl ?_ ?_ ?_|refine fV ?_ ?_|refine kS ?_ ?_|((first|(with_reducible apply cq a8);exact bC;exact fC|(with_reducible apply cq cy);exact dF;exact mz|(with_reducible apply cq fk);exact j4;exact sR|(with_reducible apply cq bX);exact fP;exact lL|(with_reducible apply cq g9);exact lP;exact sT|(with_reducible apply cq gc);exact lQ;exact sU|(with_reducible apply cq jy);exact nJ;exact va|(with_reducible apply cq bB);exact gk;exact ka|(with_reducible apply cq cH);exact j5;exact nI);(first|exact all1 λ_=>rfl|exact all2 λ_ _=>rfl|exact G9 λ_ _ _ _=>rfl|exact KY λ_ _ _ _ _=>rfl);exact hr;rfl;exact T.at;rotate_left 2;decide;decide;rfl;rfl)|exact T.no|exact⟨rfl,rfl,rfl,rfl⟩|exact⟨rfl,rfl,rfl,rfl,rfl,by decide,rfl,rfl⟩)
theorem CP(T:Txt Pm mg):nO P w (Hd.K Pm) mg base CX0 6 260 Hd.GB ["_law_script"] (spD (Hd.K Pm) 1 rW):=by
 obtain⟨xg,bC,dF,gf⟩:=g2 (P:=P) (w:=w) (base:=base) T;obtain⟨ik,j4,fP⟩:=g4 (P:=P) (w:=w) (base:=base) T;obtain⟨gk,j5,lR⟩:=g6 (P:=P) (w:=w) (base:=base) T;have By:=aO P w Pm mg base 3 5 Den.k7 sW Bu rfl ?_;have wJ:=aO P w Pm mg base 4 4 Den.lF qe wH rfl ?_;have CP:=aO P w Pm mg base 5 1 Den.HJ Pz Nj rfl ?_;exact CP
 all_goals intro hJ A outer s H E hr nd hu hu20
 all_goals repeat' (first|(with_reducible apply dN)|((with_reducible apply @kP);rfl;first|exact Or.inl rfl|exact Or.inr (Or.inl rfl)|exact Or.inr (Or.inr rfl)|exact br rfl|exact bO rfl;decide;decide)|((with_reducible apply @bS);rotate_left 2;rfl)|((with_reducible apply @pU);exact hu;rotate_left 2;exactλ_ _=>rfl)|((with_reducible first|refine aW vh qt ?_ ?_ ?_|refine aW qr nV ?_ ?_ ?_|refine kR tX oY ?_ ?_ ?_);rotate_left 2;exact bR _)|((with_reducible first|refine aW (gK ?_) gL ?_ ?_ ?_|refine aW (C4 ?_) C5 ?_ ?_ ?_|refine aW (Mr ?_) Ms ?_ ?_ ?_|refine kR (gK ?_) gL ?_ ?_ ?_);exact hu20;rotate_left 2;first|exact bR _|with_unfolding_all rfl)|(with_reducible first|apply dN|apply OW|apply qS|apply dO|apply kW|apply iZ|apply gq|apply kQ|apply mZ|apply oX|apply lU|apply n4|apply kU|apply vG|apply GL|apply nW|apply BR|apply fV|apply kS|apply A6 nM jO nM jO|apply l6|apply nX)|(with_reducible apply lN)|rfl|exact hu|exact hu20|exact bR _|exact br rfl|exact bO rfl|exact Or.inl rfl|exact Or.inr rfl|exact Or.inr (Or.inl rfl)|exact Or.inr (Or.inr rfl)|exactλ_=>rfl|exactλ_ _=>rfl|decide|exact fu|refine fv ?_|refine cX (iz.or fW) fX rfl T.no n8 ?_|refine cX (tY (by rfl)) qW rfl T.no Ha ?_|refine cX (oN (by rfl)) n6 rfl T.no vI ?_|refine jk tZ uB rfl T.no BU ?_|refine GZ Hc ?_ rfl T.no rfl T.no JO|refine GZ JP ?_ rfl T.no rfl T.no BU|refine aN nd rfl ?_|refine aN (bT (by decide+kernel)) rfl (aK rfl) (bU rfl)|refine qY rfl ?_|refine iu rfl T.no ?_|refine uo rfl T.no ?_ ?_|refine Mp ?_ ?_|refine iY ?_ ?_|refine kX ?_|refine kZ nd rfl ?_ ?_|refine pV ?_ ?_ ?_|refine kY ?_|refine l4 GbR rfl ?_ ?_ ?_|refine fV ?_ ?_|refine kS ?_ ?_|((first|(with_reducible apply cq lz);exact xg;exact IS|(with_reducible apply cq a8);exact bC;exact fC|(with_reducible apply cq cy);exact dF;exact mz|(with_reducible apply cq gA);exact ik;exact qd|(with_reducible apply cq bX);exact fP;exact lL|(with_reducible apply cq bB);exact gk;exact ka|(with_reducible apply cq cH);exact j5;exact nI|(with_reducible apply cq jZ);exact lR;exact sV|(with_reducible apply cq iM);exact By;exact sW|(with_reducible apply cq gB);exact wJ;exact qe);(first|exact all1 λ_=>rfl|exact all2 λ_ _=>rfl|exact IM λ_ _ _=>rfl|exact G9 λ_ _ _ _=>rfl|exact KY λ_ _ _ _ _=>rfl|exact Ni λ_ _ _ _ _ _=>rfl);exact hr;rfl;exact T.at;rotate_left 2;decide;decide;rfl;rfl)|exact T.no|exact⟨rfl,rfl,rfl,rfl⟩|exact⟨rfl,rfl,rfl,rfl,rfl,by decide,rfl,rfl⟩)
end
theorem all_mk{l:PySem.W.OpenLaw}{w:World}{h:Heap}{mg:Str->Option Value}{fa:Addr}(X:(Hd.K w.params).In h)(G:h.Ns mainGlobals mg)(Ul:mg "law"=some (.ref fa)):
  ∃fd:FuncData,(∀(s:Shared) (v:Value),BindsTo s fd ⟨[v],[]⟩ [("_law_script",v)])/\∀base:Heap,(Hd.K w.params).In base->base.Ns mainGlobals mg->nO l.prog w (Hd.K w.params) mg base CX0 6 fa fd ["_law_script"] (spD (Hd.K w.params) 1 rW):=by
 have T:Txt w.params mg:=⟨h,X,G⟩
 have e:=Ul.symm.trans T.PB;cases e;exact⟨_,λs v=> .of_eq rfl,λbase _ _=>CP T⟩
theorem walk{l:PySem.W.OpenLaw}{q:Program}{loose:List Str}{XP:(Str->Option Value)->Heap->Prop}{YP:World->Heap->Prop}{d:DefRec}{K:Params->PySem.W.Frag}(hn:l.most=some 63)(zW:d.params.defaults=[])
  (hY:∀(w:World) (h:Heap),YP w h->(K w.params).In h)(zF:∀ns:List Int,ns.length<=63->rW [.scr ns]=some (.bl true))
  (F:∀(w:World) (mg:Str->Option Value) (fa:Addr) (h:Heap),(K w.params).In h->h.Ns mainGlobals mg->mg d.name=some (.ref fa)->
   ∃fd:FuncData,(∀(s:Shared) (u:Value),BindsTo s fd ⟨[u],[]⟩ [("_law_script",u)])/\∀base:Heap,(K w.params).In base->base.Ns mainGlobals mg->nO l.prog w (K w.params) mg base CX0 6 fa fd ["_law_script"] (spD (K w.params) 1 rW)):
  PySem.W.WalkO q loose XP YP l.row.toRowW d [] (λf vs=>PySem.call f vs):=
 L2.Jw (n:=63) (k:=6) (x:="_law_script") (CX:=λ_=>CX0) (sp:=λw=>spD (K w.params) 1 rW) hn (by decide) zW ⟨rfl,by decide,by decide⟩ hY F (λ_ _ a ns hl hO hS=>Mq hO hS (zF ns hl)) λ_ _ _ _ _ z=>z
end Der
open PySem PySem.W PyProof.Rows
theorem PySem.Challenge.cw_dosehouse_k66_waiting_holds : PySem.Challenge.rw_dosehouse_k66_waiting.Holds := by
 exact Hd.close λd h1 h2=>Der.walk (l:=PySem.Challenge.rw_dosehouse_k66_waiting) (K:=Hd.K) rfl h1 (λw h Y=>PySem.W.kIn_of Y) Maths.IL λw mg fa h KX G zO=>Der.all_mk KX G (h2▸zO)
