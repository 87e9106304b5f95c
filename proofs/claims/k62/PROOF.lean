import PyProof.Rows.All
import Wide.All
import OpenK.AllK
import PySem.Challenge.RW_dosehouse_k62_a_round
set_option Elab.async false
set_option linter.all false
set_option maxRecDepth 100000
set_option maxHeartbeats 0
open Option renaming some→U,none→J
open Bool renaming true→O,false→M
open PySem renaming Addr→Yd,Value→Ye,Shared→Yg,Expr→Yh,Heap→Yi,Around→Yj,Obj→Yk,Stmt→Yl,Scope→Ym,Program→Yn,FuncData→Yo,NameKind→Yp,Params→Yq
noncomputable section
set_option genSizeOf false
set_option compiler.extract_closed false
set_option genInjectivity false
def Za1(h:True:=by rfl):True:=h
def Za2(h:True:=by decide):True:=h
def Za3(h:True:=by first|exact .inl rfl|exact .inr rfl|assumption):True:=h
def Gaa:=@Option.map_eq_some_iff
def Gab:=@PySem.wpAny_bind
def Gac:=@List.getElem?_eq_getElem
def Gad:=@PySem.wpAny_pure
def Gae:=@List.length_map
def Gaf:=@List.mem_cons_of_mem
def Gag:=@PySem.Heap.get?_push_of_some
def Gah:=@if_neg
def Gai:=@Bool.and_eq_true
def Gaj:=@List.mem_cons_self
def Gak:=@List.getElem?_eq_some_iff
def Gal:=@List.length_append
def Gam:=@List.getElem?_set_ne
def Gan:=@if_pos
def Gao:=@Nat.le_refl
def Gap:=@List.getElem?_map
def Gaq:=@List.all_eq_true
def Gar:=@of_decide_eq_true
def Gas:=@List.mem_map
def Gat:=@List.mem_cons
def Gau:=@List.mem_of_getElem?
def Gav:=@List.mem_append
def Gaw:=@List.size_toArray
def Gax:=@List.map_cons
def Gay:=@PySem.Heap.get?_push_size
def Gaz:=@Bool.false_ne_true
def GaA:=@PySem.Heap.lt_size
def GaB:=@List.getElem_mem
def GaC:=@List.map_append
def GaD:=@decide_eq_true
def GaE:=@decide_eq_false
def GaF:=@List.length_cons
def GaG:=@List.set_cons_succ
def GaH:=@List.set_cons_zero
def GaI:=@Array.getElem?_eq_getElem
def GaJ:=@Int.eq_ofNat_of_zero_le
def GaK:=@Nat.ne_of_lt
def GaL:=@Nat.lt_of_lt_of_le
def GaM:=@List.getElem?_append_right
def GaN:=@List.map_map
def GaO:=@List.map_congr_left
def GaP:=@Nat.zero_add
def GaQ:=@List.mem_flatMap
def GaR:=@List.getElem?_append_left
def GaS:=@List.mem_range
def GaT:=@PySem.wpAny_setState_of
def GaU:=@List.mem_singleton
def GaV:=@List.pairwise_cons
def GaW:=@List.nodup_append
def GaX:=@Bool.or_eq_true
def GaY:=@List.flatMap_cons
def GaZ:=@Array.length_toList
def Gba:=@Nat.zero_le
def Gbb:=@List.append_nil
def Gbc:=@List.nodup_cons
def Gbd:=@PySem.wpAny_call_entry
def Gbe:=@List.append_assoc
def Gbf:=@Array.getElem?_eq_some_iff
def Gbg:=@PySem.Heap.get?_update_self
def Gbh:=@Nat.lt_or_ge
def Gbi:=@List.length_nil
def Gbj:=@List.lookup_cons
def Gbk:=@PySem.wpAny_newObj_type
def Gbl:=@List.getElem?_set_self
def Gbm:=@List.mem_filter
def Gbn:=@List.mem_append_right
def Gbo:=@List.length_eq_zero_iff
def Gbp:=@Nat.le_trans
def Gbq:=@Int.toNat_natCast
def Gbr:=@Array.getElem?_toList
def Gbs:=@PySem.wpAny_callSpecial?_slot
def Gbt:=@PySem.Obj.data_mapFields
def Gbu:=@PySem.sizeLine_eq
def Gbv:=@PySem.wpAny_truthy_bool
def Gbw:=@beq_iff_eq
def Gbx:=@List.all_map
def Gby:=@List.flatMap_eq_nil_iff
def Gbz:=@List.filter_cons
def GbA:=@Nat.lt_irrefl
def GbB:=@List.all_cons
def GbC:=@List.getElem_of_mem
def GbD:=@PySem.Heap.SameBut.update
def GbE:=@List.getElem?_eq_none
def GbF:=@List.not_mem_nil
def GbG:=@PySem.F.called_set
def GbH:=@List.any_eq_false
def GbI:=@PyProof.Rows.callWith_type1
def GbJ:=@Array.getD_eq_getD_getElem?
def GbK:=@List.nil_append
def GbL:=@Function.comp_apply
def GbM:=@PySem.wpAny_holding
def GbN:=@List.find?_eq_none
def GbO:=@List.length_filter_le
def GbP:=@Int.mul_nonneg
def GbQ:=@List.drop_eq_getElem_cons
def GbR:=@Nat.le_succ
def GbS:=@List.map_id
def GbT:=@List.mem_append_left
def GbU:=@Nat.ne_of_gt
def GbV:=@PySem.W.kia_one
def GbW:=@PySem.codeAny_builtin
def GbX:=@PySem.wpAny_ite_false
def GbY:=@Nat.lt_succ_of_lt
def GbZ:=@PySem.Heap.size_push
def Gca:=@List.any_eq_true
def Gcb:=@List.getElem_map
def Gcc:=@PySem.wpAny_mono
def Gce:=@PySem.Heap.get?_update_other
def Gcf:=@Array.getElem?_eq_none
def Gcg:=@List.append_eq_nil_iff
def Gch:=@Nat.eq_or_lt_of_le
def Gci:=@PySem.wpAny_passesOwn
def Gcj:=@Option.map_some
def Gck:=@PySem.Obj.isFreed_of_fields
def Gcl:=@List.foldl_cons
def Gcm:=@Nat.le_of_lt_succ
def Gcn:=@List.pairwise_map
def Gco:=@List.getElem?_of_mem
def Gcp:=@Int.le_refl
def Gcq:=@List.findIdx?_eq_some_iff_getElem
def Gcr:=@PySem.wpAny_seqItems
def Gcs:=@List.getElem?_take_of_lt
def Gct:=@List.length_drop
def Gcu:=@Nat.succ_pos
def Gcv:=@PySem.SetTable.toList_insertAt
def Gcw:=@List.filterMap_cons
def Gcx:=@List.flatMap_append
def Gcy:=@PyProof.Rows.slot_tuple_getitem
def Gcz:=@List.getElem?_replicate
def GcA:=@PySem.F.plainAttrs_list
def GcB:=@List.getElem?_cons_succ
def GcC:=@PySem.Calls.spliced_cons
def GcD:=@Nat.lt_of_le_of_lt
def GcE:=@PySem.wpAny_ite_split
def GcF:=@PySem.wpAny_typeNameOfWhole_itemiter
def GcG:=@Int.emod_nonneg
def GcH:=@Int.emod_lt_of_pos
def GcI:=@decide_eq_true_iff
def GcJ:=@PySem.Calls.callWith_builtin
def GcK:=@PySem.F.slot_dict_itemiterator_next
def GcL:=@List.ext_getElem?
def GcM:=@Option.some.injEq
def GcN:=@PySem.Obj.cls_mapFields
def GcO:=@Nat.le_of_lt
def GcP:=@List.map_nil
def GcQ:=@List.length_singleton
def GcR:=@Bool.and_false
def GcS:=@PySem.wpAny_setField
def GcT:=@PyProof.Rows.kmk_tree
def GcU:=@List.Pairwise.and_mem
def GcV:=@Int.not_lt
def GcW:=@List.ext_getElem
def GcX:=@Nat.mod_lt
def GcY:=@List.any_cons
def GcZ:=@List.Perm.map
def Gda:=@List.getD_eq_getElem?_getD
def Gdb:=@PySem.wpAny_of_eq
def Gdc:=@List.cons.injEq
def Gdd:=@List.pairwise_iff_getElem
def Gde:=@List.mem_of_find?_eq_some
def Gdf:=@List.mem_filterMap
def Gdg:=@PySem.wpAny_Call_Name_kw
def Gdh:=@PySem.F.args_tuple_add_2
def Gdi:=@List.getElem?_drop
def Gdj:=@PySem.wpAny_pyIter_tuple
def Gdk:=@or_false
def Gdl:=@PySem.wpAny_comprehension_free
def Gdm:=@PyProof.Rows.F.entry_set_update_loop
def Gdn:=@List.any_map
def Gdo:=@if_true
def Gdp:=@List.nodup_nil
def Gdq:=@PySem.F.slot_dict_itemiterator_iter
def Gdr:=@PySem.F.entry_tuple_add
def Gds:=@PySem.F.plainAttrs_dict
def Gdt:=@PySem.wpAny_pyIter_enum
def Gdu:=@PySem.wpAny_pyIter_slot
def Gdv:=@List.getElem?_set
def Gdw:=@PySem.F.slot_tuple_hash
def Gdx:=@PySem.F.slot_tuple_add
def Gdy:=@List.find?_cons_of_pos
def Gdz:=@PySem.plainId_quiet
def GdA:=@Nat.lt_succ_self
def GdB:=@List.take_succ_eq_append_getElem
def GdC:=@List.perm_middle
def GdD:=@List.length_replicate
def GdE:=@List.mem_iff_getElem?
def GdF:=@Array.getElem?_setIfInBounds_ne
def GdG:=@PySem.wpAny_execs_nil
def GdH:=@Array.mem_toList_iff
def GdI:=@PySem.wpAny_typeOf
def GdJ:=@PySem.Calls.evalArgs_plain
def GdK:=@List.forIn_cons
def GdL:=@Bool.eq_iff_iff
def GdM:=@Int.le_trans
def GdN:=@PySem.typeLookup_type
def GdO:=@PySem.wpAny_specialOf
def GdP:=@List.find?_some
def GdQ:=@Bool.or_eq_false_iff
def GdR:=@List.eq_nil_iff_forall_not_mem
def GdS:=@List.forall_mem_cons
def GdT:=@List.getElem?_range
def GdU:=@List.findIdx?_cons
def GdV:=@List.findIdx?_map
def GdW:=@Nat.lt_trichotomy
def GdX:=@Int.le_of_lt
abbrev VSP:=PySem.Value->PySem.Shared->Prop
abbrev LAO:=List (PySem.Addr×PySem.Obj)
set_option autoImplicit true
set_option relaxedAutoImplicit true
namespace L2
open PySem PySem.Spec PyProof.Rows
abbrev Key:=Sum Int Str
def tf:Key->Ye->Bool
 | .inl k,v=>Value.isInt k v
 | .inr x,v=>Value.isStrOf x v
noncomputable def TF(w:World):Key->Int
 | .inl k=>hashInt k
 | .inr x=>hashStr w x
theorem cy:∀{k v},tf k v=O->(∃i t,k=Sum.inl i/\v=Value.int i t)\/(∃x t,k=Sum.inr x/\v=Value.str x t)
 | .inl i,v,h=>by
  obtain⟨t,e⟩:=Value.isInt_shape h;exact .inl ⟨i,t,rfl,e⟩
 | .inr x,v,h=>by
  obtain⟨t,e⟩:=Value.isStrOf_shape h;exact .inr ⟨x,t,rfl,e⟩
def Em(i:Int)(t:Tok):tf (.inl i) (.int i t)=O:=by simp[tf,Value.isInt]
def Eo(x:Str)(t:Tok):tf (.inr x) (.str x t)=O:=by simp[tf,Value.isStrOf]
def Nc(a b:Int):decide ((Sum.inl a:Key)=Sum.inl b)=(a==b):=by
 by_cases e:a=b
 .subst e;simp
 .simp_all
def Nd(a b:Str):decide ((Sum.inr a:Key)=Sum.inr b)=decide (a=b):=by
 simp_all
def Nf(a:Int)(b:Str):decide ((Sum.inl a:Key)=Sum.inr b)=M:=GaE (λq=>nomatch q)
def Ng(a:Str)(b:Int):decide ((Sum.inr a:Key)=Sum.inl b)=M:=GaE (λq=>nomatch q)
def cJ(prog:Yn)(w:World):PySem.KeyKind prog w Key where
 is:=tf
 hash:=TF w
 inj:=λv a b ha hb=>by
  rcases cy ha with⟨i,t,rfl,rfl⟩| ⟨x,t,rfl,rfl⟩
  .rcases cy hb with⟨j,u,rfl,e⟩| ⟨y,u,rfl,e⟩
   .injection e with e1 _;rw[e1]
   .exact nomatch e
  .rcases cy hb with⟨j,u,rfl,e⟩| ⟨y,u,rfl,e⟩
   .exact nomatch e
   .injection e with e1 _;rw[e1]
 byValue:=λk v h=>by
  rcases cy h with⟨i,t,rfl,rfl⟩| ⟨x,t,rfl,rfl⟩<;>rfl
 pyHash:=λhv h=>by
  rcases cy hv with⟨i,t,rfl,rfl⟩| ⟨x,t,rfl,rfl⟩
  .exact wpAny_pyHash_int h
  .exact wpAny_pyHash_str h
 eqBool:=λhu hv h=>by
  rcases cy hu with⟨i,t,rfl,rfl⟩| ⟨x,t,rfl,rfl⟩
  .rcases cy hv with⟨j,u,rfl,rfl⟩| ⟨y,u,rfl,rfl⟩
   .rw[Nc] at h;exact wpAny_eqBool_int h
   .rw[Nf] at h;exact SeqAt.EqAt.int_str i t y u _ _ _ _ h
  .rcases cy hv with⟨j,u,rfl,rfl⟩| ⟨y,u,rfl,rfl⟩
   .rw[Ng] at h;exact SeqAt.EqAt.str_int x t j u _ _ _ _ h
   .rw[Nd] at h;exact wpAny_eqBool_str h
 «strs» :=λk x t v h=>by
  rcases cy h with⟨i,u,rfl,e⟩| ⟨y,u,rfl,e⟩
  .exact nomatch e
  .injection e with e1 _
   subst e1;cases v<;>rfl
def oG(prog:Yn)(w:World)(i:Int)(t:Tok):(cJ prog w).is (.inl i) (.int i t)=O:=Em i t
def oH(prog:Yn)(w:World)(x:Str)(t:Tok):(cJ prog w).is (.inr x) (.str x t)=O:=Eo x t
set_option genInjectivity true in
inductive V where
 |non|bl (b:Bool)|int (i:Int)|str (x:Str)|ref (a:Yd)|ty (n:String)
 deriving DecidableEq
def XO:V->Ye->Prop
 | .non,u=>u=Value.none
 | .bl b,u=>u=Value.bool b
 | .int i,u=>∃t,u=Value.int i t
 | .str x,u=>∃t,u=Value.str x t
 | .ref a,u=>u=Value.ref a
 | .ty n,u=>u=Value.type n
abbrev XQ:List V->List Ye->Prop:=Paired XO
theorem XQ.length{xs:List V}{us:List Ye}(r:XQ xs us):xs.length=us.length:=Paired.length r
theorem XQ.get:∀{xs:List V} {us:List Ye} {i:Nat} {x:V},XQ xs us->xs[i]? =U x->∃u,us[i]? =U u/\XO x u
 |_,_,_,_,.nil,e=>by simp at e
 |_,_,0,_,.cons r _,e=>by simp at e;subst e;exact⟨_,rfl,r⟩
 |_,_,i+1,x,.cons _ t,e=>by
  obtain⟨u,h1,h2⟩:=XQ.get t (by simpa using e);exact⟨u,by simpa using h1,h2⟩
theorem XQ.set(r:XO x u):∀{xs us} i,XQ xs us->XQ (xs.set i x) (us.set i u)
 |_,_,_,.nil=> .nil
 |_,_,0,.cons _ t=> .cons r t
 |_,_,i+1,.cons q t=> .cons q (XQ.set r i t)
def XQ.append(p:XQ xs us)(s:XQ ys ws):XQ (xs++ys) (us++ws):=by
 induction p with
 |nil=>exact s
 |cons r t ih=>exact .cons r ih
theorem XQ.take:∀{xs us} n,XQ xs us->XQ (xs.take n) (us.take n)
 |_,_,0,_=> .nil
 |_,_,_+1,.nil=> .nil
 |_,_,n+1,.cons r t=> .cons r (XQ.take n t)
theorem XQ.drop:∀{xs us} n,XQ xs us->XQ (xs.drop n) (us.drop n)
 |_,_,0,r=>r
 |_,_,_+1,.nil=> .nil
 |_,_,n+1,.cons _ t=>XQ.drop n t
def Ep:Option V->Option Ye->Prop
 |some v,U u=>XO v u
 |none,J=>True
 |_,_=>False
def KV{Y:Type}:List (Y×V)->List (Y×Ye)->Prop:=Paired λ(p:Y×V) (q:Y×Ye)=>p.1=q.1/\XO p.2 q.2
noncomputable def kV:Key->V
 | .inl i=> .int i
 | .inr x=> .str x
inductive HO where
 |lst (xs:List V)
 |tup (xs:List V)
 |dT (eD:List (List Key×V))
 |own (x:Yd)
 |rng (lo hi:Int)
 |frz (o:Yk) (u:HO)
 |tbl (ps:Array Ye)
 |ext (φ:Yi->Prop)
abbrev Hp:=Yd->Option HO
noncomputable def upd(H:Hp)(a:Yd)(o:HO):Hp:=λb=>if b=a then U o else H b
def aF:upd H a o a=U o:=by unfold upd;rw[Gan rfl]
def ar(h:b≠a):upd H a o b=H b:=by unfold upd;rw[Gah h]
def tm{H:Hp}(h:H a=U o)(h' :H b=U u)(d:o≠u):a≠b:=by
 intro e;subst e;rw[h] at h';simp_all
def dm{H:Hp}(h:H a=U o)(h' :H b=J):a≠b:=by
 lia
section
variable(P:Yn)(w:World)
def cI(H:Hp)(h:Yi)(a:Yd):HO->Prop
 | .lst xs=>xs.length<=sizeLine/\∃(its:List Ye) (n:Nat),XQ xs its/\h.get? a=U {cls:= .type "list",data:= .seq its.toArray n}
 | .tup xs=>xs.length<=sizeLine/\∃its:List Ye,XQ xs its/\IsTup h a its.toArray
 | .dT eD=>eD.length<=sizeLine/\(a==sysModules)=M/\∃xs:List (List Key×Yd×Ye),
   Paired (λ(p:List Key×V) (q:List Key×Yd×Ye)=>p.1=q.1/\H q.2.1=U (.tup (p.1.map kV))/\XO p.2 q.2.2) eD xs/\
   ∃o es ep,h.get? a=U o/\o.ExactDict/\o.data= .dict es ep/\es.toList=xs.map (entryOfKey (tupleKind (cJ P w)))/\(xs.map (·.1)).Nodup
 | .own _=>∃o,h.get? a=U o
 | .rng lo hi=>∃t u v,h.get? a=U {cls:= .type "range",data:= .fields #[.int lo t,.int hi u,.int 1 v]}
 | .frz o u=>h.get? a=U o/\cI H h a u
 | .tbl ps=>h.get? a=U {cls:= .none,data:= .fields ps}
 | .ext φ=>φ h/\(∃o,h.get? a=U o)/\∀h1 h2:Yi,φ h1->(∀o,h1.get? a=U o->h2.get? a=U o)->φ h2
def HOk(H:Hp)(h:Yi):Prop:=∀a o,H a=U o->cI P w H h a o
end
section
theorem cI.lt{h:Yi}(x:cI P w H h a o):a<h.objs.size:=by
 cases o with
 |lst xs=>obtain⟨_,_,_,_,e⟩:=x;exact GaA e
 |tup xs=>obtain⟨_,_,_,p⟩:=x;exact p.lt
 |dT eD=>obtain⟨_,_,_,_,o,_,_,e,_⟩:=x;exact GaA e
 |own y=>obtain⟨_,e⟩:=x;exact GaA e
 |rng lo hi=>obtain⟨_,_,_,e⟩:=x;exact GaA e
 |frz ob u=>obtain⟨e,_⟩:=x;exact GaA e
 |tbl ps=>exact GaA (show h.get? a=U _ from x)
 |ext φ=>obtain⟨_,⟨_,e⟩,_⟩:=x;exact GaA e
def Paired.K1{α β:Type}{F G:α->β->Prop}{l₁:List α}{l₂:List β}(p:Paired F l₁ l₂)(f:∀a b,F a b->G a b):Paired G l₁ l₂:=by
 induction p with
 |nil=>exact .nil
 |cons r t ih=>exact .cons (f _ _ r) ih
variable{h h' :Yi}
def cI.dN(x:cI P w H h a o)(k:∀b u,(b=a\/H b=U (.own a))->h.get? b=U u->h'.get? b=U u)
  (ho:∀b,H b=U (.own a)->H' b=U (.own a))(ht:∀b xs,H b=U (.tup xs)->H' b=U (.tup xs)):cI P w H' h' a o:=by
 induction o with
 |lst xs=>obtain⟨z,its,n,r,e⟩:=x;exact⟨z,its,n,r,k _ _ (.inl rfl) e⟩
 |tup xs=>obtain⟨z,its,r,ob,e,c⟩:=x;exact⟨z,its,r,ob,k _ _ (.inl rfl) e,c⟩
 |dT eD=>
  obtain⟨z,y,xs,r,ob,es,ep,e,c⟩:=x;exact⟨z,y,xs,Paired.K1 r λp q z=> ⟨z.1,ht _ _ z.2.1,z.2.2⟩,ob,es,ep,k _ _ (.inl rfl) e,c⟩
 |own y=>obtain⟨ob,e⟩:=x;exact⟨ob,k _ _ (.inl rfl) e⟩
 |rng lo hi=>obtain⟨t,u,v,e⟩:=x;exact⟨t,u,v,k _ _ (.inl rfl) e⟩
 |frz ob u ih=>obtain⟨e,q⟩:=x;exact⟨k _ _ (.inl rfl) e,ih q⟩
 |tbl ps=>
  have e:h.get? a=U {cls:= .none,data:= .fields ps}:=x;exact k a _ (.inl rfl) e
 |ext φ=>obtain⟨p,⟨o,e⟩,st⟩:=x;exact⟨st _ _ p λo q=>k _ _ (.inl rfl) q,⟨o,k _ _ (.inl rfl) e⟩,st⟩
theorem HOk.lt{h:Yi}(x:HOk P w H h)(e:H a=U o):a<h.objs.size:=(x a o e).lt
def HOk.fresh{a:Yd}(x:HOk P w H h)(e:h.objs.size<=a):H a=J:=by
 cases q:H a with
 |none=>rfl
 |some u=>exact absurd (GaL (x.lt q) e) (GbA _)
def HOk.kept(x:HOk P w H h)(k:∀b u,h.get? b=U u->h'.get? b=U u):HOk P w H h' :=λa o e=>
 (x a o e).dN (λb u _ q=>k b u q) (λ_ q=>q) λ_ _ q=>q
def HOk.laid{a:Yd}(x:HOk P w H h)(k:∀b u,h.get? b=U u->h'.get? b=U u)(hp:h.objs.size<=a)(new:cI P w (upd H a o) h' a o):HOk P w (upd H a o) h' :=λb u e=>by
 have hn:=x.fresh hp;by_cases hb:b=a
 .subst hb;rw[aF] at e;cases e;exact new
 .rw[ar hb] at e;exact(x b u e).dN (λc v _ q=>k c v q) (λc q=>by rw[ar (dm q hn)];exact q) λc xs q=>by rw[ar (dm q hn)];exact q
end
def Rd(H:Hp)(a:Yd)(u:HO):Prop:=H a=U u\/∃o,H a=U (.frz o u)
def Rd.ok(r:Rd H a u)(x:HOk P w H h):cI P w H h a u:=by
 rcases r with r| ⟨o,r⟩
 .exact x a u r
 .obtain⟨_,q⟩:=x a _ r;exact q
def Mut:Option HO->Prop
 |some (.lst _)=>True
 |some (.dT _)=>True
 |some (.ext _)=>True
 |_=>False
def HOk.write{h h' :Yi}(ok:HOk P w H h)(mu:Mut (H x))(he:e=x\/H e=U (.own x))(k:∀b u,b≠e->h.get? b=U u->h'.get? b=U u)(zC:∃u,h'.get? e=U u)
  (new:cI P w (upd H x o') h' x o'):HOk P w (upd H x o') h' :=λb u q=>by
 have nown:∀c y,H c=U (.own y)->c≠x:=λc y r z=>by subst z;rw[r] at mu;exact mu
 have ntup:∀c xs,H c=U (.tup xs)->c≠x:=λc xs r z=>by subst z;rw[r] at mu;exact mu
 by_cases hb:b=x
 .subst hb;rw[aF] at q;cases q;exact new
 .rw[ar hb] at q;by_cases hbe:b=e
  .have q' :H b=U (.own x):=by
    rcases he with z|z
    .exact absurd (hbe.trans z) hb
    .rw[hbe];exact z
   rw[q] at q';cases q'
   obtain⟨v,hv⟩:=zC;exact⟨v,by rw[hbe];exact hv⟩
  .refine(ok b u q).dN (λc v hc r=>k c v ?_ r) (λc r=>by rw[ar (nown c b r)];exact r) λc xs r=>by rw[ar (ntup c xs r)];exact r
   rcases hc with rfl|hc
   .exact hbe
   .rintro rfl;rcases he with z|z
    .exact nown c b hc z
    .rw[hc] at z;cases z;exact hb rfl
structure Un(fs ex:List Yd)(H H' :Hp)(h h' :Yi):Prop where
 keep:∀b o,h.get? b=U o->H b=J->b∉fs->b∉ex->h'.get? b=U o
 slot:∀b o,h.get? b=U o->H b=J->b∈fs->b∉ex->∃sl,h'.get? b=U {o with slots:=sl}
 free:∀b o,h.get? b=U o->H b=J->b∉ex->H' b=J
 there:∀b o,h.get? b=U o->b∉ex->∃o',h'.get? b=U o'
 wq:∀b xs,H b=U (.tup xs)->H' b=U (.tup xs)
 sJ:∀b o u,H b=U (.frz o u)->H' b=U (.frz o u)
 wx:∀b ps,H b=U (.tbl ps)->∃more,H' b=U (.tbl (ps++more))
section
def Un.any{h h1:Yi}(u:Un fs ex H H1 h h1)(q:h.get? b=U ob)(n:H b=J)(hx:b∉ex):∃sl,h1.get? b=U {ob with slots:=sl}:=by
 by_cases hb:b∈fs
 .exact u.slot b ob q n hb hx
 .exact⟨ob.slots,u.keep b ob q n hb hx⟩
variable{h' :Yi}
def Un.kept{h:Yi}(k:∀b u,h.get? b=U u->h'.get? b=U u):Un fs ex H H h h' :=
 ⟨λb ob q _ _ _=>k b ob q,λb ob q _ _ _=> ⟨ob.slots,k b ob q⟩,λ_ _ _ n _=>n,λb ob q _=> ⟨ob,k b ob q⟩,λ_ _ q=>q,λ_ _ _ q=>q,λ_ ps q=> ⟨#[],by rw[q];simp⟩⟩
def Un.refl:Un fs ex H H h h:=Un.kept λ_ _ q=>q
theorem Un.laid{h:Yi}{a:Yd}(k:∀b u,h.get? b=U u->h'.get? b=U u)(hp:h.objs.size<=a)(hn:H a=J):Un fs ex H (upd H a o) h h' where
 keep:=λb u q _ _ _=>k b u q
 slot:=λb u q _ _ _=> ⟨u.slots,k b u q⟩
 free:=λb u q n _=>by rw[ar (GaK (GaL (GaA q) hp))];exact n
 there:=λb u q _=> ⟨u,k b u q⟩
 wq:=λb xs q=>by rw[ar (dm q hn)];exact q
 sJ:=λb u xs q=>by rw[ar (dm q hn)];exact q
 wx:=λb ps q=> ⟨#[],by rw[ar (dm q hn),q];simp⟩
def Un.write{h:Yi}(mu:Mut (H x))(he:e=x\/H e=U (.own x))(k:∀b u,b≠e->h.get? b=U u->h'.get? b=U u)(zC:∃u,h'.get? e=U u):Un fs ex H (upd H x o) h h' :=by
 have hx:∀b,H b=J->b≠x:=λb n z=>by subst z;rw[n] at mu;exact mu
 have hb:∀b,H b=J->b≠e:=λb n z=>by
  simp_all
 have hm:∀b u,H b=U u->¬Mut (U u)->b≠x:=λb u q nm z=>by subst z;rw[q] at mu;exact nm mu
 refine⟨λb u q n _ _=>k b u (hb b n) q,λb u q n _ _=> ⟨u.slots,k b u (hb b n) q⟩,λb u q n _=>by rw[ar (hx b n)];exact n,λb u q _=> ?_,
  λb xs q=>by rw[ar (hm b _ q λz=>z)];exact q,λb u xs q=>by rw[ar (hm b _ q λz=>z)];exact q,λb ps q=> ⟨#[],by rw[ar (hm b _ q λz=>z),q];simp⟩⟩
 by_cases hbe:b=e
 .subst hbe;exact zC
 .exact⟨u,k b u hbe q⟩
end
noncomputable def trk(h:Yi)(H:Hp):List Yd:=(List.range h.objs.size).filter λa=>(H a).isSome
def wA(h:Yi)(H:Hp):Yi:=PySem.W.hideAll h (trk h H)
def Er(h:Yi)(H:Hp):(wA h H).objs.size=h.objs.size:=PySem.W.hideAll_size _ _
def Gw{h:Yi}(e:h.get? b=U o)(n:H b=J):(wA h H).get? b=U o:=
 PySem.W.hideAll_get _ e λhm=>by
  have q:=(Gbm.mp hm).2;rw[n] at q;simp at q
def K2{h:Yi}(e:(wA h H).get? b=U o):h.get? b=U o/\H b=J:=by
 have e' :=PySem.W.of_hideAll (trk h H) e;refine⟨e', ?_⟩;cases q:H b with
 |none=>rfl
 |some x=>
  have hm:b∈trk h H:=Gbm.mpr ⟨GaS.mpr (GaA e'),by simp[q]⟩;have z:(wA h H).get? b=J:=PySem.W.hideAll_none (trk h H) hm;rw[z] at e;cases e
noncomputable def K3(g h:Yi)(L:Yd):LAO:=(List.range h.objs.size).filterMap λa=>if a=L\/(g.get? a).isSome=O then J else(h.get? a).map λo=>(a,o)
def rest(g h:Yi)(L d:Yd):LAO:=(K3 g h L).filter λp=>decide (p.1≠d)
structure Mod(K:PySem.W.Frag)(mg:Str->Option Ye)(base:Yi):Prop where
 kin:K.In base
 glob:base.Ns mainGlobals mg
 blt:∃mb,base.Ns builtinsNs mb/\∀x:Str,x≠"__name__"->mb x=bootBuiltins x
 nolimit:base.NoLimit
structure Cx where
 prog:Yn
 w:World
 K:PySem.W.Frag
 mg:Str->Option Ye
 base:Yi
 A:Yj
 N:List Str
 s₀:Yg
 H0:Hp
 env:Env
 outer:List Env
 stack:List Env
 ex:List Yd
 fn:Str->Bool
 calm:Bool
 pn:LAO
 xe:VSP
noncomputable def frs(l:List Env):List Yd:=l.filterMap (·.frame)
abbrev Cx.fs (X:Cx):List Yd:=frs X.outer
def Vis(sc:Ym)(x:Str):Prop:=sc.names.lookup x=U .local\/sc.names.lookup x=U .cell\/sc.names.lookup x=U .free
def Loc(sc:Ym)(x:Str):Prop:=sc.names.lookup x=U .local\/sc.names.lookup x=U .cell
def Look(env:Env)(h:Yi)(m:Str->Option Ye)(x:Str)(u:Ye):Prop:=
 (env.kindOf x=U .local/\m x=U u)\/((env.kindOf x=U .cell\/env.kindOf x=U .free)/\∃c,env.cells.lookup x=U c/\h.IsCell c (U u))
structure Cx.Ok(X:Cx):Prop where
 mod:Mod X.K X.mg X.base
 kind:X.env.scope.kind= .function
 glob:X.env.globals=mainGlobals
 blt:X.env.builtins=builtinsNs
 above:X.s₀.heap.objs.size<=X.env.locals
 inj:∀x y c,X.env.cells.lookup x=U c->X.env.cells.lookup y=U c->x=y
 has:∀x,(X.env.kindOf x=U .cell\/X.env.kindOf x=U .free)->∃c,X.env.cells.lookup x=U c
 cab:∀x c,X.fn x=O->X.env.cells.lookup x=U c->X.s₀.heap.objs.size<=c
 hd:X.calm=O->X.A.handled=J
 frames:X.A.frames=U X.stack
 stk:X.stack=X.outer\/(X.stack=X.env::X.outer/\X.env.frame=U X.env.locals)
 exf:∀b∈X.ex,b≠X.env.locals/\∀x c,X.env.cells.lookup x=U c->c≠b
 bs:∀b o,X.base.get? b=U o->X.s₀.heap.get? b=U o/\X.H0 b=J
 bsz:X.base.objs.size<=X.s₀.heap.objs.size
 JZ:∀b o,X.base.get? b=U o->b∉X.ex
 K0:∀b∈X.ex,b∉X.fs
 qc:X.s₀.heap.FunFrames X.base X.outer
 frf:∀b∈X.fs,X.H0 b=J
structure Inv(X:Cx)(e8:LAO)(Z:List (Option V))(H:Hp)(s:Yg):Prop where
 ok:X.Ok
 os:s.os=X.s₀.os
 bare:AllBare s.gens
 base:Un X.fs X.ex X.H0 H X.s₀.heap s.heap
 loc:∃m,s.heap.Ns X.env.locals m/\∀(i:Nat) (x:Str) (v:V),X.N[i]? =U x->Z[i]? =U (U v)->Vis X.env.scope x->∃u,XO v u/\Look X.env s.heap m x u
 cell:∀x c,X.env.cells.lookup x=U c->∃v,s.heap.IsCell c v
 free:H X.env.locals=J
 jN:∀x c,X.env.cells.lookup x=U c->H c=J
 pin:∀p∈X.pn++e8,s.heap.get? p.1=U p.2/\H p.1=J/\p.1≠X.env.locals/\p.1∉X.fs/\∀v,p.2.data≠ .cell v
 hok:HOk X.prog X.w H s.heap
 len:Z.length=X.N.length
def Cx.Ok.TH{X:Cx}(ok:X.Ok)(e:X.base.get? b=U o):b∉X.fs:=λhb=>by
 have:=(ok.qc.mem hb).1;lia
theorem Inv.bs{X:Cx}{s:Yg}(I:Inv X e8 Z H s):∀b o,X.base.get? b=U o->s.heap.get? b=U o/\H b=J:=λb o e=>
 ⟨I.base.keep b o (I.ok.bs b o e).1 (I.ok.bs b o e).2 (I.ok.TH e) (I.ok.JZ b o e),I.base.free b o (I.ok.bs b o e).1 (I.ok.bs b o e).2 (I.ok.JZ b o e)⟩
def Inv.bk{X:Cx}{s:Yg}(I:Inv X e8 Z H s):∀b o,X.base.get? b=U o->s.heap.get? b=U o:=λb o e=>(I.bs b o e).1
theorem Inv.mod{X:Cx}(I:Inv X e8 Z H s):Mod X.K X.mg X.base:=I.ok.mod
def Inv.kIn{X:Cx}{s:Yg}(I:Inv X e8 Z H s):X.K.In s.heap:=I.ok.mod.kin.keeps I.bk
theorem Inv.lt{X:Cx}{s:Yg}(I:Inv X e8 Z H s):X.env.locals<s.heap.objs.size:=let⟨_,hn,_⟩:=I.loc;hn.lt
def Inv.sz{X:Cx}{s:Yg}(I:Inv X e8 Z H s):X.s₀.heap.objs.size<=s.heap.objs.size:=Gbp I.ok.above (GcO I.lt)
def Inv.TJ{X:Cx}{s:Yg}{a:Yd}(I:Inv X e8 Z H s)(h:s.heap.objs.size<=a):a∉X.fs:=λhb=>by
 obtain⟨_,o,ho,_⟩:=I.ok.qc.mem hb;exact absurd (GaL (GaA ho) (Gbp I.sz h)) (GbA _)
def Inv.cne{X:Cx}(I:Inv X e8 Z H s):∀x c,X.env.cells.lookup x=U c->c≠X.env.locals:=λx c e z=>by
 obtain⟨v,o,ho,hd⟩:=I.cell x c e;obtain⟨m,⟨o',es,ep,xk,xb,_⟩,_⟩:=I.loc;lia
theorem Inv.qc{X:Cx}{s:Yg}(I:Inv X e8 Z H s):s.heap.FunFrames X.base X.outer:=by
 have all:∀(l:List Env),(∀b∈frs l,b∈X.fs)->X.s₀.heap.FunFrames X.base l->s.heap.FunFrames X.base l:=by
  intro l;induction l with
  |nil=>intro _ _;trivial
  |cons env r ih=>
   intro hs hl;obtain⟨hk,⟨L,o,hf,hn,ho,hd⟩,hr⟩:=hl;have hL:=hs L (by unfold frs;rw[Gcw,hf];exact Gaj);obtain⟨sl,e⟩:=I.base.slot L o ho (I.ok.frf L hL) hL λz=>I.ok.K0 L z hL;exact⟨hk,⟨L,_,hf,hn,e,hd⟩,ih (λb hb=>hs b (by unfold frs;rw[Gcw,hf];exact Gaf _ hb)) hr⟩
 exact all X.outer (λ_ hb=>hb) I.ok.qc
theorem Inv.stack{X:Cx}{s:Yg}(I:Inv X e8 Z H s):s.heap.FunFrames X.base X.stack:=by
 rcases I.ok.stk with e| ⟨e,hf⟩
 .rw[e];exact I.qc
 .rw[e];obtain⟨m,hn,_⟩:=I.loc;refine .cons (by rw[I.ok.kind];decide) hf hn ?_ I.qc;exact Heap.get?_none_of_le (Gbp I.ok.bsz I.ok.above)
def Inv.Bh{X:Cx}(I:Inv X e8 Z H s):∀b∈frs X.stack,b∈X.env.locals::X.fs:=λb hb=>by
 rcases I.ok.stk with e| ⟨e,hf⟩
 .rw[e] at hb;simp_all
 .rw[e] at hb;unfold frs at hb;rw[Gcw,hf] at hb;exact hb
def Inv.Cz{X:Cx}(I:Inv X e8 Z H s):∀b∈frs X.stack,H b=J:=λb hb=>by
 rcases Gat.mp (I.Bh b hb) with e|hb
 .rw[e];exact I.free
 .obtain⟨_,o,ho,_⟩:=I.ok.qc.mem hb;exact I.base.free b o ho (I.ok.frf b hb) λz=>I.ok.K0 b z hb
def Inv.step{X:Cx}{H H' :Hp}{s:Yg}{h' :Yi}{ch:List Yd}(I:Inv X e8 Z H s)
  (xE:∀b∈ch,(b∈X.ex\/X.s₀.heap.objs.size<=b)/\b≠X.env.locals/\(∀x c,X.env.cells.lookup x=U c->c≠b)/\∀p∈X.pn++e8,p.1≠b)
  (keep:∀b o,b≠X.env.locals->b∉X.fs->b∉ch->s.heap.get? b=U o->H b=J->h'.get? b=U o)
  (slot:∀b o,b≠X.env.locals->b∈X.fs->b∉ch->s.heap.get? b=U o->H b=J->∃sl,h'.get? b=U {o with slots:=sl})(free:∀b o,b∉ch->s.heap.get? b=U o->H b=J->H' b=J)
  (there:∀b o,b∉ch->s.heap.get? b=U o->∃o',h'.get? b=U o')
  (wq:∀b xs,H b=U (.tup xs)->H' b=U (.tup xs))(sJ:∀b o u,H b=U (.frz o u)->H' b=U (.frz o u))(wx:∀b ps,H b=U (.tbl ps)->∃more,H' b=U (.tbl (ps++more)))
  (ns:∀m,s.heap.Ns X.env.locals m->h'.Ns X.env.locals m)(hok:HOk X.prog X.w H' h')(hg:AllBare g'):
  Inv X e8 Z H' {s with heap:=h',gens:=g',drawn:=d',toks:=t' }:=by
 have neL:∀b o,X.s₀.heap.get? b=U o->b≠X.env.locals:=λb o e=>GaK (GaL (GaA e) I.ok.above);have neC:∀b o,X.s₀.heap.get? b=U o->b∉X.ex->b∉ch:=λb o e hx hb=>by
  rcases(xE b hb).1 with z|z
  .exact hx z
  .exact absurd (GaL (GaA e) z) (GbA _)
 have cellK:∀x c,X.env.cells.lookup x=U c->∀v,s.heap.IsCell c v->h'.IsCell c v:=λx c e v ⟨o,ho,hd⟩=>by
  have nch:=λz=>(xE c z).2.2.1 x c e rfl;by_cases hc:c∈X.fs
  .obtain⟨sl,q⟩:=slot c o (I.cne x c e) hc nch ho (I.jN x c e);exact⟨_,q,hd⟩
  .exact⟨o,keep c o (I.cne x c e) hc nch ho (I.jN x c e),hd⟩
 refine⟨I.ok,I.os,hg,⟨λb o e n hb hx=> ?_,λb o e n hb hx=> ?_,λb o e n hx=> ?_,λb o e hx=> ?_,λb xs e=>wq b xs (I.base.wq b xs e),λb o xs e=>sJ b o xs (I.base.sJ b o xs e),λb ps e=> ?_⟩, ?_,λx c e=> ?_, ?_,λx c e=> ?_,λp hp=> ?_,hok,I.len⟩
 .exact keep b o (neL b o e) hb (neC b o e hx) (I.base.keep b o e n hb hx) (I.base.free b o e n hx)
 .obtain⟨sl,e1⟩:=I.base.slot b o e n hb hx;obtain⟨Wv,e2⟩:=slot b _ (neL b o e) hb (neC b o e hx) e1 (I.base.free b o e n hx);exact⟨Wv,e2⟩
 .obtain⟨o',e1⟩:=I.base.there b o e hx;exact free b o' (neC b o e hx) e1 (I.base.free b o e n hx)
 .obtain⟨o',e1⟩:=I.base.there b o e hx;exact there b o' (neC b o e hx) e1
 .obtain⟨m1,e1⟩:=I.base.wx b ps e;obtain⟨m2,e2⟩:=wx b _ e1;exact⟨m1++m2,by rw[e2,Array.append_assoc]⟩
 .obtain⟨m,hn,hl⟩:=I.loc;refine⟨m,ns m hn,λi x v e1 e2 e3=> ?_⟩;obtain⟨u,r,l⟩:=hl i x v e1 e2 e3;refine⟨u,r, ?_⟩;rcases l with l| ⟨k,c,e,z⟩
  .exact .inl l
  .exact .inr ⟨k,c,e,cellK x c e _ z⟩
 .obtain⟨v,z⟩:=I.cell x c e;exact⟨v,cellK x c e v z⟩
 .obtain⟨m,⟨o,_,_,ho,_⟩,_⟩:=I.loc;exact free _ o (λz=>(xE _ z).2.1 rfl) ho I.free
 .obtain⟨v,o,ho,hd⟩:=I.cell x c e;exact free c o (λz=>(xE c z).2.2.1 x c e rfl) ho (I.jN x c e)
 .obtain⟨e,n,ne,nf,d⟩:=I.pin p hp;have nch:=λz=>(xE p.1 z).2.2.2 p hp rfl;exact⟨keep p.1 p.2 ne nf nch e n,free p.1 p.2 nch e n,ne,nf,d⟩
def Inv.un{X:Cx}{s:Yg}(I:Inv X e8 Z H s)(u:Un X.fs [] H H' s.heap h')(hok:HOk X.prog X.w H' h'):Inv X e8 Z H' {s with heap:=h',toks:=t' }:=by
 obtain⟨m,⟨o,es,ep,ho,r⟩,_⟩:=id I.loc;obtain⟨sl,hL⟩:=u.any ho I.free (by simp);exact I.step (ch:=[]) (λ_ z=>nomatch z) (λb o _ hb _ e n=>u.keep b o e n hb (by simp)) (λb o _ hb _ e n=>u.slot b o e n hb (by simp)) (λb o _ e n=>u.free b o e n (by simp)) (λb o _ e=>u.there b o e (by simp)) u.wq u.sJ u.wx (λm' hm=>by
  obtain⟨o',UY,UZ,xk,r'⟩:=hm;rw[ho] at xk;cases xk;exact⟨_,UY,UZ,hL,r'⟩) hok I.bare
def Inv.call{X:Cx}{s:Yg}(I:Inv X e8 Z H s)(u:Un (frs X.stack) ch H H' s.heap h')(hok:HOk X.prog X.w H' h')(hg:AllBare g')
  (xE:∀b∈ch,(b∈X.ex\/X.s₀.heap.objs.size<=b)/\b≠X.env.locals/\(∀x c,X.env.cells.lookup x=U c->c≠b)/\∀p∈X.pn++e8,p.1≠b):
  Inv X e8 Z H' {s with heap:=h',gens:=g',drawn:=d',toks:=t' }:=by
 obtain⟨m,⟨o,es,ep,ho,r⟩,_⟩:=id I.loc;obtain⟨sl,hL⟩:=u.any ho I.free λz=>(xE _ z).2.1 rfl;exact I.step xE (λb o hL hb hc e n=>u.keep b o e n (λz=>(Gat.mp (I.Bh b z)).elim hL hb) hc) (λb o _ _ hc e n=>u.any e n hc) (λb o hc e n=>u.free b o e n hc) (λb o hc e=>u.there b o e hc) u.wq u.sJ u.wx (λm' hm=>by
  obtain⟨o',UY,UZ,xk,r'⟩:=hm;rw[ho] at xk;cases xk;exact⟨_,UY,UZ,hL,r'⟩) hok hg
def Inv.turned{X:Cx}{s:Yg}{h' :Yi}(I:Inv X e8 Z H s)(k:∀b o,b≠it->s.heap.get? b=U o->h'.get? b=U o)(hn:H it=J)(hL:it≠X.env.locals)
  (h1:it∈X.ex\/X.s₀.heap.objs.size<=it)(h2:∀x c,X.env.cells.lookup x=U c->c≠it)(h3:∀p∈X.pn++e8,p.1≠it):Inv X e8 Z H {s with heap:=h',toks:=t' }:=by
 have nit:∀b u,H b=U u->b≠it:=λb u e z=>by rw[z,hn] at e;cases e
 refine I.step (ch:=[it]) (λb hb=> ?_) (λb o _ _ hc e _=>k b o (λz=>hc (by simp[z])) e) (λb o _ _ hc e _=> ⟨o.slots,k b o (λz=>hc (by simp[z])) e⟩) (λ_ _ _ _ n=>n)
  (λb o hc e=> ⟨o,k b o (λz=>hc (by simp[z])) e⟩) (λ_ _ e=>e) (λ_ _ _ e=>e) (λb ps e=> ⟨#[],by rw[e];simp⟩) (λm hm=> ?_) (λb u e=> ?_) I.bare
 .have e:b=it:=by simpa using hb
  subst e;exact⟨h1,hL,h2,h3⟩
 .obtain⟨o,es,ep,ho,r⟩:=hm;exact⟨o,es,ep,k _ o (Ne.symm hL) ho,r⟩
 .refine(I.hok b u e).dN (λc v hc q=>k c v ?_ q) (λ_ q=>q) λ_ _ q=>q;rcases hc with z|z
  .rw[z];exact nit b u e
  .exact nit c _ z
def Inv.tok(I:Inv X e8 Z H s)(t:Nat):Inv X e8 Z H {s with toks:=t}:=I.un Un.refl I.hok
theorem Inv.kept{s:Yg}{h' :Yi}(I:Inv X e8 Z H s)(k:∀b u,s.heap.get? b=U u->h'.get? b=U u):Inv X e8 Z H {s with heap:=h',toks:=t' }:=I.un (Un.kept k) (I.hok.kept k)
theorem Inv.laid{X:Cx}{s:Yg}{h' :Yi}{a:Yd}(I:Inv X e8 Z H s)(k:∀b u,s.heap.get? b=U u->h'.get? b=U u)(hp:s.heap.objs.size<=a)(new:cI X.prog X.w (upd H a o) h' a o):
  Inv X e8 Z (upd H a o) {s with heap:=h',toks:=t' }:=I.un (Un.laid k hp (I.hok.fresh hp)) (I.hok.laid k hp new)
theorem Inv.write{X:Cx}{s:Yg}{h' :Yi}(I:Inv X e8 Z H s)(mu:Mut (H x))(he:e=x\/H e=U (.own x))(k:∀b u,b≠e->s.heap.get? b=U u->h'.get? b=U u)(zC:∃u,h'.get? e=U u)
  (new:cI X.prog X.w (upd H x o) h' x o):Inv X e8 Z (upd H x o) {s with heap:=h',toks:=t' }:=I.un (Un.write mu he k zC) (I.hok.write mu he k zC new)
def Inv.CA{X:Cx}{s:Yg}(I:Inv X e8 Z H s)(h:∀p∈pins',s.heap.get? p.1=U p.2/\H p.1=J/\p.1≠X.env.locals/\p.1∉X.fs/\∀v,p.2.data≠ .cell v):Inv X pins' Z H s:=
 ⟨I.ok,I.os,I.bare,I.base,I.loc,I.cell,I.free,I.jN,λp hp=>(Gav.mp hp).elim (λz=>I.pin p (GbT _ z)) (h p),I.hok,I.len⟩
def wB{N:List Str}{i j:Nat}(hN:N.Nodup)(a:N[i]? =U x)(b:N[j]? =U x):i=j:=by
 obtain⟨h1,e1⟩:=Gak.mp a;obtain⟨h2,e2⟩:=Gak.mp b;exact(List.getElem_inj hN).mp (e1.trans e2.symm)
def tq{X:Cx}{Z:List (Option V)}{s:Yg}(I:Inv X e8 Z H s)(hN:X.N.Nodup)(hi:X.N[i]? =U x)(hx:Loc X.env.scope x)(r:XO v u)
  (h:∀s',Inv X e8 (Z.set i (U v)) H s' ->(∃a,Heap.SameBut a s.heap s'.heap/\(a=X.env.locals\/X.env.cells.lookup x=U a))->Q () s')(hf:autoParam (X.fn x=O\/X.env.scope.names.lookup x=U .local) Za3._auto_1):wpAny XM A (storeName X.env x u) Q E s:=by
 obtain⟨m,hn,hl⟩:=id I.loc;have hcls:(X.env.scope.kind== .class||(X.env.scope.kind== .module&&X.env.locals !=X.env.globals))=M:=by rw[I.ok.kind];rfl
 have hiZ:i<Z.length:=by rw[I.len];exact(Gak.mp hi).1
 have cne:=I.cne;have tracked:∀{a:Yd} {h' :Yi},(∃o,s.heap.get? a=U o/\H a=J)->Heap.SameBut a s.heap h' ->HOk X.prog X.w H h' :=λ{a h'} ha hs b ob e=>by
  obtain⟨_,_,ya⟩:=ha;refine(I.hok b ob e).dN (λc w' hc q=>(hs.2 c ?_).trans q) (λ_ q=>q) λ_ _ q=>q;lia
 rcases hx with hk|hk
 .refine wpAny_storeName_local hk hn (λh' xd hs=> ?_) hcls;obtain⟨oL,_,_,yN,_⟩:=id hn;refine h _ ⟨I.ok,I.os,I.bare,⟨λb o e n hb hx=> ?_,λb o e n hb hx=> ?_,I.base.free,λb o e hx=> ?_,I.base.wq,I.base.sJ,I.base.wx⟩,⟨_,xd,λj y v' e1 e2 e3=> ?_⟩,λy c e=> ?_,I.free,I.jN,λp hp=> ?_,tracked ⟨oL,yN,I.free⟩ hs,by simpa using I.len⟩ ⟨_,hs,.inl rfl⟩
  .exact(hs.2 b (GaK (GaL (GaA e) I.ok.above))).trans (I.base.keep b o e n hb hx)
  .obtain⟨sl,e1⟩:=I.base.slot b o e n hb hx;exact⟨sl,(hs.2 b (GaK (GaL (GaA e) I.ok.above))).trans e1⟩
  .obtain⟨o',e1⟩:=I.base.there b o e hx;exact⟨o',(hs.2 b (GaK (GaL (GaA e) I.ok.above))).trans e1⟩
  .by_cases hj:j=i
   .subst hj;rw[hi] at e1;cases e1;rw[Gbl hiZ] at e2;cases e2;exact⟨u,r,.inl ⟨hk,by simp⟩⟩
   .rw[Gam (Ne.symm hj)] at e2;obtain⟨u',r',q⟩:=hl j y v' e1 e2 e3;refine⟨u',r', ?_⟩;rcases q with⟨k,e⟩| ⟨k,c,e,z⟩
    .refine .inl ⟨k, ?_⟩;have:y≠x:=λe=>hj (wB hN e1 (e▸hi));simp[this,e]
    .exact .inr ⟨k,c,e,z.sameBut hs (cne y c e)⟩
  .obtain⟨w',z⟩:=I.cell y c e;exact⟨w',z.sameBut hs (cne y c e)⟩
  .obtain⟨e,n,ne,nf,d⟩:=I.pin p hp;exact⟨(hs.2 p.1 ne).trans e,n,ne,nf,d⟩
 .have hfn:X.fn x=O:=by
   rcases hf with z|z
   .exact z
   .rw[z] at hk;cases hk
  obtain⟨c,hc⟩:=I.ok.has x (.inl hk);obtain⟨w',z⟩:=I.cell x c hc;refine wpAny_storeName_cell I.ok.kind hk hc z (λh' ym hs=> ?_);obtain⟨oc,W5,Vo⟩:=id z;refine h {s with heap:=h' } ⟨I.ok,I.os,I.bare,⟨λb o e n hb hx=> ?_,λb o e n hb hx=> ?_,I.base.free,λb o e hx=> ?_,I.base.wq,I.base.sJ,I.base.wx⟩,⟨m,hn.sameBut hs (Ne.symm (cne x c hc)),λj y v' e1 e2 e3=> ?_⟩,λy c' e=> ?_,I.free,I.jN,λp hp=> ?_,tracked ⟨oc,W5,I.jN x c hc⟩ hs,by simpa using I.len⟩ ⟨c,hs,.inr hc⟩
  .exact(hs.2 b (GaK (GaL (GaA e) (I.ok.cab x c hfn hc)))).trans (I.base.keep b o e n hb hx)
  .obtain⟨sl,e1⟩:=I.base.slot b o e n hb hx;exact⟨sl,(hs.2 b (GaK (GaL (GaA e) (I.ok.cab x c hfn hc)))).trans e1⟩
  .obtain⟨o',e1⟩:=I.base.there b o e hx;exact⟨o',(hs.2 b (GaK (GaL (GaA e) (I.ok.cab x c hfn hc)))).trans e1⟩
  .by_cases hj:j=i
   .subst hj;rw[hi] at e1;cases e1;rw[Gbl hiZ] at e2;cases e2;exact⟨u,r,.inr ⟨.inl hk,c,hc,ym⟩⟩
   .rw[Gam (Ne.symm hj)] at e2;obtain⟨u',r',q⟩:=hl j y v' e1 e2 e3;refine⟨u',r', ?_⟩;rcases q with q| ⟨k,c',e,z'⟩
    .exact .inl q
    .refine .inr ⟨k,c',e,z'.sameBut hs ?_⟩;rintro rfl;exact hj (wB hN e1 (I.ok.inj _ _ _ e hc▸hi))
  .by_cases hcc:c' =c
   .subst hcc;exact⟨_,ym⟩
   .obtain⟨w2,z2⟩:=I.cell y c' e;exact⟨w2,z2.sameBut hs hcc⟩
  .obtain⟨e,n,ne,nf,d⟩:=I.pin p hp;refine⟨(hs.2 p.1 ?_).trans e,n,ne,nf,d⟩;intro q;rw[q,W5] at e;have q' :=Option.some.inj e;exact d w' (by rw[<-q'];exact Vo)
def wC{X:Cx}{Z:List (Option V)}(I:Inv X e8 Z H s)(hN:X.N.Nodup)(hi:X.N[i]? =U x)(hx:Loc X.env.scope x)(r:XO v u)
  (h:∀s',Inv X e8 (Z.set i (U v)) H s' ->Q () s')(hf:autoParam (X.fn x=O\/X.env.scope.names.lookup x=U .local) Za3._auto_1):wpAny XM A (storeName X.env x u) Q E s:=
 tq I hN hi hx r (λs' I' _=>h s' I') hf
def Inv.MF{X:Cx}{s s' :Yg}(I:Inv X e8 Z H s)(ho:s'.os=s.os)(u:Un (frs X.stack) ch H H' s.heap s'.heap)(hok:HOk X.prog X.w H' s'.heap)(hg:AllBare s'.gens)
  (xE:∀b∈ch,(b∈X.ex\/X.s₀.heap.objs.size<=b)/\b≠X.env.locals/\(∀x c,X.env.cells.lookup x=U c->c≠b)/\∀p∈X.pn++e8,p.1≠b):Inv X e8 Z H' s' :=by
 obtain⟨h',g',d',t',o'⟩:=s';have e:=ho;subst e;exact I.call u hok hg xE
abbrev XK:=Ye->Option Yd->Hp->Prop
abbrev St:=List (Option V)
abbrev VK:=V->Hp->Prop
abbrev TE:=St->Hp->VK->Prop
abbrev TT:=St->Hp->(Bool->Hp->Prop)->Prop
abbrev TA:=St->Hp->(List V->Hp->Prop)->Prop
structure Ends where
 nx:St->Hp->Prop
 rt:VK
 bk:St->Hp->Prop:=λ_ _=>False
 ct:St->Hp->Prop:=λ_ _=>False
abbrev TS:=Ends->St->Hp->Prop
def EP(X:Cx)(e8:LAO)(Z:St)(Q:VK)(u:Ye)(s' :Yg):Prop:=∃v H',Inv X e8 Z H' s' /\XO v u/\Q v H'
def TP(X:Cx)(e8:LAO)(Z:St)(Q:Bool->Hp->Prop)(b:Bool)(s' :Yg):Prop:=∃H',Inv X e8 Z H' s' /\Q b H'
def AP(X:Cx)(e8:LAO)(Z:St)(Q:List V->Hp->Prop)(us:List Ye)(s' :Yg):Prop:=∃vs H',Inv X e8 Z H' s' /\XQ vs us/\Q vs H'
def SP(X:Cx)(e8:LAO)(D:Ends)(f:Flow)(s' :Yg):Prop:=
 match f with
 | .next=>∃Z' H',Inv X e8 Z' H' s' /\D.nx Z' H'
 | .brk=>∃Z' H',Inv X e8 Z' H' s' /\D.bk Z' H'
 | .cont=>∃Z' H',Inv X e8 Z' H' s' /\D.ct Z' H'
 | .ret u=>∃v Z' H',Inv X e8 Z' H' s' /\XO v u/\D.rt v H'
def PE(X:Cx)(e:Yh)(t:TE):Prop:=
 ∀(e8:LAO) (s:Yg) (Z:St) (H:Hp) (Q:VK),Inv X e8 Z H s->t Z H Q->wpAny (model X.prog X.w) X.A (eval e X.env) (EP X e8 Z Q) X.xe s
def PT(X:Cx)(e:Yh)(t:TT):Prop:=
 ∀(e8:LAO) (s:Yg) (Z:St) (H:Hp) (Q:Bool->Hp->Prop),Inv X e8 Z H s->t Z H Q->wpAny (model X.prog X.w) X.A (isTrue e X.env (eval e X.env)) (TP X e8 Z Q) X.xe s
def PW(X:Cx)(e:Yh)(t:TT):Prop:=
 ∀(whole:Sem Ye) (e8:LAO) (s:Yg) (Z:St) (H:Hp) (Q:Bool->Hp->Prop),Inv X e8 Z H s->t Z H Q->wpAny (model X.prog X.w) X.A (isTrue e X.env whole) (TP X e8 Z Q) X.xe s
def PW.pt(h:PW X e t):PT X e t:=h _
def PA(X:Cx)(es:List Yh)(t:TA):Prop:=
 ∀(pos:Pos) (e8:LAO) (s:Yg) (Z:St) (H:Hp) (Q:List V->Hp->Prop),Inv X e8 Z H s->t Z H Q->wpAny (model X.prog X.w) X.A (spliced (backTo pos (starEach es X.env))) (AP X e8 Z Q) X.xe s
def PS(X:Cx)(st:Yl)(t:TS):Prop:=
 ∀(e8:LAO) (s:Yg) (Z:St) (H:Hp) (D:Ends),Inv X e8 Z H s->t D Z H->wpAny (model X.prog X.w) X.A (exec st X.env) (SP X e8 D) X.xe s
def PSs(X:Cx)(st:List Yl)(t:TS):Prop:=
 ∀(e8:LAO) (s:Yg) (Z:St) (H:Hp) (D:Ends),Inv X e8 Z H s->t D Z H->wpAny (model X.prog X.w) X.A (execs st X.env) (SP X e8 D) X.xe s
def thn{α:Type}{t:Sem α}{Q Q' :α->Yg->Prop}(h:wpAny XM A t Q E s)(hQ:∀a s,Q a s->Q' a s):wpAny XM A t Q' E s:=Gcc h hQ λ_ _ x=>x
section
variable{X:Cx}
def QJ(i:Nat):TE:=λZ H Q=>∃v,Z[i]? =U (U v)/\Q v H
def tC(v:V):TE:=λ_ H Q=>Q v H
def ka(hN:X.N[i]? =U x)(hv:Vis X.env.scope x)(hd:autoParam ((x==("__debug__":Str))=M) Za2._auto_1)(xn:autoParam ((x==("__classdict__":Str))=M) Za2._auto_1):PE X (.Name x pos) (QJ i):=by
 intro e8 s Z H Q I h;obtain⟨v,e,h⟩:=h;obtain⟨m,hn,hl⟩:=I.loc;obtain⟨u,r,l⟩:=hl i x v hN e hv;have fin:EP X e8 Z Q u s:=⟨v,H,I,r,h⟩
 rcases l with⟨hk,hm⟩| ⟨hk,c,hc,xm⟩
 .exact wpAny_Name (wpAny_loadName_local I.ok.kind hk hn hm fin) hd
 .rcases hk with hk|hk
  .exact wpAny_Name (wpAny_loadName_cell I.ok.kind hk hc xm fin) hd
  .exact wpAny_Name (wpAny_loadName_free I.ok.kind hk hc xm fin xn) hd
def Gx:PE X (.Constant (.int i) j pos) (tC (.int i)):=λ_ _ _ H _ I h=>wpAny_Constant_int ⟨.int i,H,I.tok _,⟨_,rfl⟩,h⟩
def QK:PE X (.Constant (.bool b) j pos) (tC (.bl b)):=λ_ _ _ H _ I h=>Constant_bool ⟨.bl b,H,I,rfl,h⟩
def Nh:PE X (.Constant .none j pos) (tC .non):=λ_ _ _ H _ I h=>Constant_none ⟨.non,H,I,rfl,h⟩
def Nj:PE X (.Constant (.str x) j pos) (tC (.str x)):=λ_ _ _ H _ I h=>Calls.Constant_str ⟨.str x,H,I.tok _,⟨_,rfl⟩,h⟩
def Gl(X:Cx)(x:Str):Prop:=X.env.kindOf x=U .globalImplicit
variable{Z:St}
def K4(I:Inv X e8 Z H s)(hg:Gl X x)(hm:X.mg x=U u)(h:Q u s)
  (hd:autoParam ((x==("__debug__":Str))=M) Za2._auto_1):wpAny (model X.prog X.w) X.A (eval (.Name x pos) X.env) Q E s:=
 Calls.Name_function_global I.ok.kind hg (Calls.loadGlobal_global (by rw[I.ok.glob];exact I.mod.glob.keeps I.bk) hm h) hd
def kb(I:Inv X e8 Z H s)(hg:Gl X x)(hm:X.mg x=J)(hv:bootBuiltins x=U u)(h:Q u s)
  (hn:autoParam (x≠"__name__") Za2._auto_1)(hd:autoParam ((x==("__debug__":Str))=M) Za2._auto_1):wpAny (model X.prog X.w) X.A (eval (.Name x pos) X.env) Q E s:=by
 obtain⟨mb,h1,h2⟩:=I.mod.blt;exact Calls.Name_function_global I.ok.kind hg (Calls.loadGlobal_builtin (by rw[I.ok.glob];exact I.mod.glob.keeps I.bk) hm (by rw[I.ok.blt];exact h1.keeps I.bk) ((h2 x hn).trans hv) h) hd
def K5(hg:Gl X x)(hm:X.mg x=J)(hv:bootBuiltins x=U u)(r:XO v u)(hn:autoParam (x≠"__name__") Za2._auto_1)(hd:autoParam ((x==("__debug__":Str))=M) Za2._auto_1):PE X (.Name x pos) (tC v):=
 λ_ _ _ H _ I h=>kb I hg hm hv ⟨v,H,I,r,h⟩ hn hd
variable{ta tb:TE}
def tB(t:TE):TT:=λZ H Q=>t Z H λx H1=>∃c,x= .bl c/\Q c H1
def Nk{e:Yh}{t:TE}(h:PE X e t)(he:∀whole,isTrue e X.env whole=(do let v<-whole;standAt e.pos;holding [v] (truthy v)):=by intro _;rfl):PT X e (tB t):=by
 intro e8 s Z H Q I hw;refine isTrue_plain (thn (h e8 s Z H _ I hw) λv s1 ⟨x,H1,I1,r1,q1⟩=> ?_) (he _);obtain⟨d,rfl,q⟩:=q1;cases r1;exact Gbv ⟨H1,I1,q⟩
def TK(t u:TT):TT:=λZ H Q=>t Z H λc H1=>if c=O then u Z H1 Q else Q M H1
def tOr(t u:TT):TT:=λZ H Q=>t Z H λc H1=>if c=O then Q O H1 else u Z H1 Q
def TL(t:TT):TT:=λZ H Q=>t Z H λc H1=>Q (!c) H1
def K6(ha:PT X a tA):PW X (.BoolOp .And [a] pos) tA:=by
 intro wh e8 s Z H Q I h;refine isTrue_and (thn (ha e8 s Z H Q I h) λc s1 e=> ?_);cases c with
 |true=>exact isTrue_and_nil e
 |false=>exact e
def Nl(ha:PT X a tA):PW X (.BoolOp .Or [a] pos) tA:=by
 intro wh e8 s Z H Q I h;refine isTrue_or (thn (ha e8 s Z H Q I h) λc s1 e=> ?_);cases c with
 |false=>exact isTrue_or_nil e
 |true=>exact e
def Nm{tA:TT}{rest:List Yh}(ha:PT X a tA)(hb:PW X (.BoolOp .And (b::rest) pos) tB'):PW X (.BoolOp .And (a::b::rest) pos) (TK tA tB'):=by
 intro wh e8 s Z H Q I h;refine isTrue_and (thn (ha e8 s Z H _ I h) λc s1 ⟨H1,I1,q1⟩=> ?_);cases c with
 |true=>exact hb wh e8 s1 Z H1 Q I1 q1
 |false=>exact⟨H1,I1,q1⟩
def QL{tA:TT}{rest:List Yh}(ha:PT X a tA)(hb:PW X (.BoolOp .Or (b::rest) pos) tB'):PW X (.BoolOp .Or (a::b::rest) pos) (tOr tA tB'):=by
 intro wh e8 s Z H Q I h;refine isTrue_or (thn (ha e8 s Z H _ I h) λc s1 ⟨H1,I1,q1⟩=> ?_);cases c with
 |true=>exact⟨H1,I1,q1⟩
 |false=>exact hb wh e8 s1 Z H1 Q I1 q1
def Np(ha:PT X a tA):PT X (.UnaryOp .Not a pos) (TL tA):=by
 intro e8 s Z H Q I h;exact isTrue_not (ha e8 s Z H (λc H1=>Q (!c) H1) I h)
def QM(ta tb:TE):TE:=λZ H Q=>ta Z H λx H1=>∃c,x= .bl c/\if c=O then tb Z H1 Q else Q (.bl M) H1
def TM(ta tb:TE):TE:=λZ H Q=>ta Z H λx H1=>∃c,x= .bl c/\if c=O then Q (.bl O) H1 else tb Z H1 Q
def QN(ta:TE):TE:=λZ H Q=>ta Z H λx H1=>∃c,x= .bl c/\Q (.bl (!c)) H1
def Nq(h:PE X a t):PE X (.BoolOp op [a] pos) t:=λe8 s Z H Q I hw=>BoolOp_one (h e8 s Z H Q I hw)
def Nr{rest:List Yh}(ha:PE X a ta)(hb:PE X (.BoolOp .And (b::rest) pos) tb):PE X (.BoolOp .And (a::b::rest) pos) (QM ta tb):=by
 intro e8 s Z H Q I h;refine BoolOp_and (thn (ha e8 s Z H _ I h) λv s1 ⟨x,H1,I1,r1,q1⟩=> ?_);obtain⟨c,rfl,q1⟩:=q1;cases r1;refine Gbv ?_;cases c with
 |true=>exact hb e8 s1 Z H1 Q I1 q1
 |false=>exact⟨.bl M,H1,I1,rfl,q1⟩
def QO{rest:List Yh}(ha:PE X a ta)(hb:PE X (.BoolOp .Or (b::rest) pos) tb):PE X (.BoolOp .Or (a::b::rest) pos) (TM ta tb):=by
 intro e8 s Z H Q I h;refine BoolOp_or (thn (ha e8 s Z H _ I h) λv s1 ⟨x,H1,I1,r1,q1⟩=> ?_);obtain⟨c,rfl,q1⟩:=q1;cases r1;refine Gbv ?_;cases c with
 |false=>exact hb e8 s1 Z H1 Q I1 q1
 |true=>exact⟨.bl O,H1,I1,rfl,q1⟩
def Nt(ha:PE X a ta):PE X (.UnaryOp .Not a pos) (QN ta):=by
 intro e8 s Z H Q I h;refine UnaryOp_ (thn (ha e8 s Z H _ I h) λv s1 ⟨x,H1,I1,r1,q1⟩=> ?_);obtain⟨c,rfl,q1⟩:=q1;cases r1;exact not_of (Gbv ⟨.bl (!c),H1,I1,rfl,q1⟩)
def tIf(t:TT)(ta tb:TE):TE:=λZ H Q=>t Z H λc H1=>if c=O then ta Z H1 Q else tb Z H1 Q
def Gy(hc:PT X c tA)(ha:PE X a ta)(hb:PE X b tb):PE X (.IfExp c a b pos) (tIf tA ta tb):=by
 intro e8 s Z H Q I h;refine wpAny_IfExp (thn (hc e8 s Z H _ I h) λd s1 ⟨H1,I1,q1⟩=> ?_);cases d with
 |true=>exact ha e8 s1 Z H1 Q I1 q1
 |false=>exact hb e8 s1 Z H1 Q I1 q1
end
def SqL(K:PySem.W.Frag)(H:Hp)(a:Yd)(xs:List V):Prop:=
 Rd H a (.lst xs)\/
  ∃(o:Yk) (its:Array Ye) (n:Nat),K.lookup a=U o/\o.cls= .type "list"/\o.dict=J/\o.data= .seq its n/\its.size<=sizeLine/\XQ xs its.toList
def SqT(K:PySem.W.Frag)(H:Hp)(a:Yd)(xs:List V):Prop:=
 Rd H a (.tup xs)\/
  ∃(o:Yk) (its:Array Ye) (n:Nat),K.lookup a=U o/\o.cls= .type "tuple"/\o.data= .seq its n/\its.size<=sizeLine/\XQ xs its.toList
noncomputable def TN:Ye->Option V
 | .none=>U .non
 | .bool b=>U (.bl b)
 | .int i _=>U (.int i)
 | .str x _=>U (.str x)
 | .ref a=>U (.ref a)
 | .type n=>U (.ty n)
 |_=>J
def XO.abs(r:XO x u):TN u=U x:=by
 cases x with
 |non=>cases r;rfl
 |bl _=>cases r;rfl
 |int _=>obtain⟨t,rfl⟩:=r;rfl
 |str _=>obtain⟨t,rfl⟩:=r;rfl
 |ref _=>cases r;rfl
 |ty _=>cases r;rfl
theorem XO.inj(r:XO x u)(q:XO y u):x=y:=Option.some.inj (r.abs.symm.trans q.abs)
theorem XQ.inj(p:XQ xs us)(q:XQ ys us):xs=ys:=by
 induction p generalizing ys with
 |nil=>cases q;rfl
 |cons r t ih=>cases q with|cons r' t' =>rw[r.inj r',ih t']
section
def SqT.of{H:Hp}{K:PySem.W.Frag}(h:H a=U (.tup xs)):SqT K H a xs:= .inl (.inl h)
variable{Z:St}{X:Cx}
def Inv.list{s:Yg}{xs:List V}(I:Inv X e8 Z H s)(h:SqL X.K H a xs):∃its,XQ xs its/\PlainL s.heap a its.toArray/\xs.length<=sizeLine:=by
 rcases h with h| ⟨o,its,n,hk,hc,hd,hs,hz,r⟩
 .obtain⟨z,its,n,r,e⟩:=h.ok I.hok;exact⟨its,r,⟨_,n,e,rfl,rfl,rfl⟩,z⟩
 .refine⟨its.toList,r,⟨o,n,I.kIn a o hk,hc,hd,by simpa using hs⟩, ?_⟩;have e:=r.length;simp_all
def Inv.tuple{s:Yg}{xs:List V}(I:Inv X e8 Z H s)(h:SqT X.K H a xs):∃its,XQ xs its/\IsTup s.heap a its.toArray/\xs.length<=sizeLine:=by
 rcases h with h| ⟨o,its,n,hk,hc,hs,hz,r⟩
 .obtain⟨z,its,r,p⟩:=h.ok I.hok;exact⟨its,r,p,z⟩
 .refine⟨its.toList,r,⟨o,I.kIn a o hk,hc,n,by simpa using hs⟩, ?_⟩;have e:=r.length;simp_all
def Inv.wD(I:Inv X e8 Z H s)(h:SqL X.K H a xs)(h' :SqL X.K H a ys):xs=ys:=by
 obtain⟨its,r,⟨o,n,e,_,_,d⟩,_⟩:=I.list h;obtain⟨its',r',⟨o',n',e',_,_,d'⟩,_⟩:=I.list h';rw[e] at e';cases e'
 rw[d] at d';injection d' with d1 _
 have:its=its' :=by simpa using congrArg Array.toList d1
 subst this;exact r.inj r'
def Inv.tu(I:Inv X e8 Z H s)(h:SqT X.K H a xs)(h' :SqT X.K H a ys):xs=ys:=by
 obtain⟨its,r,⟨o,e,_,n,d⟩,_⟩:=I.tuple h;obtain⟨its',r',⟨o',e',_,n',d'⟩,_⟩:=I.tuple h';rw[e] at e';cases e'
 rw[d] at d';injection d' with d1 _
 have:its=its' :=by simpa using congrArg Array.toList d1
 subst this;exact r.inj r'
end
noncomputable abbrev Cx.sL (X:Cx) (E:VSP):Cx:={X with xe:=E}
abbrev Cx.nox (X:Cx):Cx:=X.sL λ_ _=>False
theorem Cx.Ok.sL{X:Cx}(ok:X.Ok)(E:VSP):(X.sL E).Ok:=
 ⟨ok.mod,ok.kind,ok.glob,ok.blt,ok.above,ok.inj,ok.has,ok.cab,ok.hd,ok.frames,ok.stk,ok.exf,ok.bs,ok.bsz,ok.JZ,ok.K0,ok.qc,ok.frf⟩
def Cx.Ok.kf{X:Cx}(ok:(X.sL E).Ok):X.Ok:=
 ⟨ok.mod,ok.kind,ok.glob,ok.blt,ok.above,ok.inj,ok.has,ok.cab,ok.hd,ok.frames,ok.stk,ok.exf,ok.bs,ok.bsz,ok.JZ,ok.K0,ok.qc,ok.frf⟩
theorem Inv.sL{X:Cx}{Z:St}(I:Inv X e8 Z H s)(E:VSP):Inv (X.sL E) e8 Z H s:=⟨I.ok.sL E,I.os,I.bare,I.base,I.loc,I.cell,I.free,I.jN,I.pin,I.hok,I.len⟩
theorem Inv.kf{X:Cx}{Z:St}(I:Inv (X.sL E) e8 Z H s):Inv X e8 Z H s:=⟨I.ok.kf,I.os,I.bare,I.base,I.loc,I.cell,I.free,I.jN,I.pin,I.hok,I.len⟩
theorem SP.kf{X:Cx}(h:SP (X.sL E) e8 D f s'):SP X e8 D f s' :=by
 cases f with
 |next=>obtain⟨Z',H',I,q⟩:=h;exact⟨Z',H',I.kf,q⟩
 |brk=>obtain⟨Z',H',I,q⟩:=h;exact⟨Z',H',I.kf,q⟩
 |cont=>obtain⟨Z',H',I,q⟩:=h;exact⟨Z',H',I.kf,q⟩
 |ret u=>obtain⟨v,Z',H',I,r,q⟩:=h;exact⟨v,Z',H',I.kf,r,q⟩
theorem PSs.nox{X:Cx}{st:List Yl}{t:TS}(h:PSs X.nox st t):PSs X st t:=λe8 s Z H D I hw=>
 Gcc (h e8 s Z H D (I.sL _) hw) (λ_ _ q=>q.kf) λ_ _ z=>False.elim z
section
variable{t u:TS}{te:TE}
def QP:TS:=λD Z H=>D.nx Z H
def TQ(t u:TS):TS:=λD Z H=>t {D with nx:=u D} Z H
def K7:PSs X [] QP:=λ_ _ Z H _ I h=>GdG ⟨Z,H,I,h⟩
variable{st:Yl}
def mO{rest:List Yl}(h1:PS X st t)(h2:PSs X rest u):PSs X (st::rest) (TQ t u):=by
 intro e8 s Z H D I h;refine wpAny_execs_cons (thn (h1 e8 s Z H {D with nx:=u D} I h) λf s1 q=> ?_);cases f with
 |next=>
  obtain⟨Z',H',I',q⟩:=q;exact h2 e8 s1 Z' H' D I' q
 |ret v=>exact q
 |brk=>exact q
 |cont=>exact q
def uW(h1:PS X st t):PSs X [st] t:=by
 intro e8 s Z H D I h;refine wpAny_execs_cons (thn (h1 e8 s Z H D I h) λf s1 q=> ?_);cases f with
 |next=>exact GdG q
 |ret v=>exact q
 |brk=>exact q
 |cont=>exact q
def Nu:TS:=λD Z H=>D.bk Z H
def Gz:PS X (.Break pos) Nu:=λ_ _ Z H _ I h=>wpAny_Break ⟨Z,H,I,h⟩
def Inv.quiet{X:Cx}{Z:St}(I:Inv X e8 Z H s):interactive X.env=M:=by simp[interactive,I.ok.kind]
def QQ(te:TE):TS:=λD Z H=>te Z H λ_ H1=>D.nx Z H1
def pS{X:Cx}{pos:Pos}(he:PE X e te)(hs:autoParam (swapsWith e J pos.line X.env=pure M) Za1._auto_1):PS X (.Expr e pos) (QQ te):=by
 intro e8 s Z H D I h;exact wpAny_Expr_any (thn (he e8 s Z H _ I h) λv s1 ⟨x,H1,I1,r1,q1⟩=> ⟨Z,H1,I1,q1⟩) I.quiet hs
def TR(te:TE):TS:=λD Z H=>te Z H D.rt
def GA(he:PE X e te):PS X (.Return (U e) pos) (TR te):=by
 intro e8 s Z H D I h;exact wpAny_Return_some (thn (he e8 s Z H _ I h) λv s1 ⟨x,H1,I1,r1,q1⟩=> ⟨x,Z,H1,I1,r1,q1⟩)
def TU(c:TT)(t u:TS):TS:=λD Z H=>c Z H λb H1=>if b=O then t D Z H1 else u D Z H1
def QR(hc:PT X c tc)(ha:PSs X a t)(hb:PSs X b u):PS X (.If c a b pos) (TU tc t u):=by
 intro e8 s Z H D I h;refine wpAny_If (thn (hc e8 s Z H _ I h) λd s1 ⟨H1,I1,q1⟩=> ?_);cases d with
 |true=>exact ha e8 s1 Z H1 D I1 q1
 |false=>exact hb e8 s1 Z H1 D I1 q1
end
abbrev TG:=V->St->Hp->(St->Hp->Prop)->Prop
abbrev TGs:=List V->St->Hp->(St->Hp->Prop)->Prop
def PG(X:Cx)(target:Yh)(t:TG):Prop:=
 ∀(e8:LAO) (s:Yg) (Z:St) (H:Hp) (v:V) (u:Ye) (Q:St->Hp->Prop),Inv X e8 Z H s->XO v u->t v Z H Q->
  wpAny (model X.prog X.w) X.A (assign target X.env u) (λ_ s' =>∃Z' H',Inv X e8 Z' H' s' /\Q Z' H') X.xe s
def PGs(X:Cx)(ts:List Yh)(t:TGs):Prop:=
 ∀(e8:LAO) (s:Yg) (Z:St) (H:Hp) (vs:List V) (us:List Ye) (Q:St->Hp->Prop),Inv X e8 Z H s->XQ vs us->t vs Z H Q->
  wpAny (model X.prog X.w) X.A (assignInOrder ((assignEach ts X.env).map (·.2)) us) (λ_ s' =>∃Z' H',Inv X e8 Z' H' s' /\Q Z' H') X.xe s
abbrev TV:=V->V->V->Hp->(Hp->Prop)->Prop
def TX(X:Cx)(t:TV):Prop:=
 ∀(e8:LAO) (s:Yg) (Z:St) (H:Hp) (o i v:V) (ov iv u:Ye) (Q:Hp->Prop),Inv X e8 Z H s->XO o ov->XO i iv->XO v u->t o i v H Q->
  wpAny (model X.prog X.w) X.A (setItem ov iv u) (λ_ s' =>∃H',Inv X e8 Z H' s' /\Q H') X.xe s
def MG(i:Nat):TG:=λv Z H Q=>Q (Z.set i (U v)) H
def CB{X:Cx}(hN:X.N.Nodup)(hi:X.N[i]? =U x)(hx:Loc X.env.scope x)(hf:autoParam (X.fn x=O\/X.env.scope.names.lookup x=U .local) Za3._auto_1):PG X (.Name x pos) (MG i):=by
 intro e8 s Z H v u Q I r h;exact wpAny_assign_Name (wC I hN hi hx r (λs' I' => ⟨_,H,I',h⟩) hf)
def TY:TGs:=λvs Z H Q=>vs=[]/\Q Z H
def QS(t:TG)(u:TGs):TGs:=λvs Z H Q=>∃v r,vs=v::r/\t v Z H λZ' H' =>u r Z' H' Q
def K8:PGs X [] TY:=by
 intro e8 s Z H vs us Q I r h;obtain⟨e,h⟩:=h;exact assignInOrder_nil ⟨Z,H,I,h⟩
def GB{X:Cx}(h1:PG X e t)(h2:PGs X es u)
  (hs:autoParam ((assignEach (e::es) X.env).map (·.2)=assign e X.env::(assignEach es X.env).map (·.2)) Za1._auto_1):PGs X (e::es) (QS t u):=by
 intro e8 s Z H vs us Q I r h;obtain⟨v,vr,e1,h⟩:=h;subst e1;cases r with
 |cons r rr=>
  rw[hs];refine assignInOrder_cons (thn (h1 e8 s Z H _ _ _ I r h) λ_ s1 ⟨Z1,H1,I1,q1⟩=> ?_);exact h2 e8 s1 Z1 H1 _ _ Q I1 rr q1
def TZ(K:PySem.W.Frag)(n:Nat)(t:TGs):TG:=λv Z H Q=>∃a xs,v= .ref a/\SqT K H a xs/\xs.length=n/\t xs Z H Q
def Nv{X:Cx}(hc:X.calm=O)(h:PGs X es t)
  (hn:autoParam ((assignEach es X.env).length=n) Za1._auto_1)(xZ:autoParam ((assignEach es X.env).findIdx? (·.1)=J) Za1._auto_1):PG X (.Tuple es k pos) (TZ X.K n t):=by
 intro e8 s Z H v u Q I r hw;obtain⟨a,xs,e1,hq,hl,hw⟩:=hw;subst e1;cases r;obtain⟨its,rv,ht,hz⟩:=I.tuple hq;refine assign_Tuple_tuple (I.ok.hd hc) ht (by simp[hn,<-hl,rv.length]) xZ λh' hx=> ?_;have I1:Inv X e8 Z H {s with heap:=h' }:=I.kept λb o e=>hx b o (GaK (GaA e)) e;exact h e8 _ Z H xs _ Q I1 (by simpa using rv) hw
def U0(te:TE)(g:TG):TS:=λD Z H=>te Z H λx H1=>g x Z H1 D.nx
def Bi{X:Cx}{pos:Pos}(hN:X.N.Nodup)(hi:X.N[i]? =U x)(hx:Loc X.env.scope x)(he:PE X e te)(hs:autoParam (swapsWith e (U (.Name x pos')) pos.line X.env=pure M) Za1._auto_1)(hf:autoParam (X.fn x=O\/X.env.scope.names.lookup x=U .local) Za3._auto_1):
  PS X (.Assign [.Name x pos'] e pos) (U0 te (MG i)):=by
 intro e8 s Z H D I h;refine wpAny_Assign_Name (thn (he e8 s Z H _ I h) λv s1 ⟨y,H1,I1,r1,q1⟩=> ?_) hs;exact wC I1 hN hi hx r1 (λs2 I2=> ⟨_,H1,I2,q1⟩) hf
def Nw(c:TT)(tb:TS):TS:=λD Z H=>∃W:Nat->St->Hp->Prop,(∃m,W m Z H)/\∀m Z H,W m Z H->
 c Z H λb H1=>if b=O then∃N:St->Hp->Prop,(∀Z' H',N Z' H' ->∃m',m' <m/\W m' Z' H')/\tb {D with nx:=N,ct:=N,bk:=D.nx} Z H1 else D.nx Z H1
def GC{X:Cx}(hp:PassesOwn (model X.prog X.w) X.A X.env X.xe)(hc:PT X c tc)(hb:PSs X body tb):PS X (.While c body [] pos) (Nw tc tb):=by
 intro e8 s Z H D I h;obtain⟨W,⟨m0,w0⟩,turn⟩:=h;refine wpAny_While (codeAny_whileLoop (λn s' =>∃Z' H',Inv X e8 Z' H' s' /\W n Z' H') ?_ m0 ⟨Z,H,I,w0⟩);rintro n s1 ⟨Z1,H1,I1,w1⟩;refine Gci hp (thn (hc e8 s1 Z1 H1 _ I1 (turn n Z1 H1 w1)) λb s2 ⟨H2,I2,q2⟩=> ?_);cases b with
 |true=>
  obtain⟨N,hN,q2⟩:=q2;refine Gci hp (thn (hb e8 s2 Z1 H2 _ I2 q2) λf s3 q3=> ?_);cases f with
  |next=>
   obtain⟨Z3,H3,I3,n3⟩:=q3;obtain⟨m',hm,w3⟩:=hN Z3 H3 n3;exact⟨m',hm,Z3,H3,I3,w3⟩
  |cont=>
   obtain⟨Z3,H3,I3,n3⟩:=q3;obtain⟨m',hm,w3⟩:=hN Z3 H3 n3;exact⟨m',hm,Z3,H3,I3,w3⟩
  |brk=>exact q3
  |ret v=>exact q3
 |false=>
  exact GdG ⟨Z1,H2,I2,q2⟩
structure It where
 go:Nat->Hp->Prop
 yld:Nat->Hp->V->Hp->Prop
 stop:Nat->Hp->Prop
def lV(X:Cx)(e8:LAO)(H:Hp)(b:Yd):Prop:=
 H b=J/\b≠X.env.locals/\b∉X.fs/\(b∈X.ex\/X.s₀.heap.objs.size<=b)/\(∀x c,X.env.cells.lookup x=U c->c≠b)/\∀p∈X.pn++e8,p.1≠b
def Inv.Es{Z:St}{s:Yg}{b:Yd}(I:Inv X e8 Z H s)(hb:s.heap.objs.size<=b)(hn:H' b=J):lV X e8 H' b:=by
 refine⟨hn,GbU (GaL I.lt hb),I.TJ hb,.inr (Gbp I.sz hb),λx c e z=> ?_,λp hp z=> ?_⟩
 .obtain⟨v,q⟩:=I.cell x c e;exact absurd (GaL q.lt (by rw[z];exact hb)) (GbA _)
 .exact absurd (GaL (GaA (I.pin p hp).1) (by rw[z];exact hb)) (GbA _)
structure Turn(P:Yn)(w:World)(K:PySem.W.Frag)(tg:Yh)(XI:It)(fp:List Yd)(it:Yd)(tn:Nat->Yi->Prop):Prop where
 mem:it∈fp
 obj:∀i h,tn i h->∀b∈fp,∃o,h.get? b=U o/\∀v,o.data≠ .cell v
 keep:∀i h h',tn i h->(∀b∈fp,∀o,h.get? b=U o->h'.get? b=U o)->tn i h'
 item:∀(X:Cx),X.prog=P->X.w=w->X.K=K->X.calm=O->∀(i:Nat) (e8:LAO) (s:Yg) (Z:St) (H:Hp) (E:VSP),Inv X e8 Z H s->(∀b∈fp,lV X e8 H b)->tn i s.heap->XI.go i H->
  wpAny (model P w) X.A (pyNext (.ref it)) (λr s1=>∃u,r=U u/\
   wpAny (model P w) X.A (letOwnedTupleGo tg (.ref it) u) (λ_ s2=>∃x H',Inv X e8 Z H' s2/\XO x u/\XI.yld i H x H' /\tn (i+1) s2.heap/\∀b∈fp,H' b=J) E s1) E s
 done:∀(X:Cx),X.prog=P->X.w=w->X.K=K->X.calm=O->∀(i:Nat) (e8:LAO) (s:Yg) (Z:St) (H:Hp) (E:VSP),Inv X e8 Z H s->(∀b∈fp,lV X e8 H b)->tn i s.heap->XI.stop i H->
  wpAny (model P w) X.A (pyNext (.ref it)) (λr s1=>r=J/\Inv X e8 Z H s1) E s
 self:∀(A:Yj) (i:Nat) (s:Yg) (Q:VSP) (E:VSP),tn i s.heap->Q (.ref it) s->wpAny (model P w) A (pyIter (.ref it)) Q E s
abbrev TI:=St->Hp->(It->Hp->Prop)->Prop
def PIE(X:Cx)(e8:LAO)(Z:St)(tg:Yh)(R:It->Hp->Prop)(zJ:Ye)(s2:Yg):Prop:=
 ∃(it:Yd) (fp:List Yd) (tn:Nat->Yi->Prop) (XI:It) (H' :Hp),zJ= .ref it/\Inv X e8 Z H' s2/\Turn X.prog X.w X.K tg XI fp it tn/\tn 0 s2.heap/\(∀b∈fp,lV X e8 H' b)/\R XI H'
def PI(X:Cx)(tg iter:Yh)(wi:TI):Prop:=
 ∀(e8:LAO) (s:Yg) (Z:St) (H:Hp) (R:It->Hp->Prop),Inv X e8 Z H s->wi Z H R->
  wpAny (model X.prog X.w) X.A (eval iter X.env) (λv s1=>wpAny (model X.prog X.w) X.A (pyIter v) (PIE X e8 Z tg R) X.xe s1) X.xe s
def GF{s:Yg}{o:Yk}(ho:s.heap.get? it=U o)(hc:o.cls= .type n)(hd:o.data= .fields vs)
  (hn:["enumerate","zip","dict_itemiterator","dict_reverseitemiterator","odict_iterator","itertools.zip_longest","itertools.pairwise"].contains n=M)(hQ:Q () s):wpAny XM A (letOwnedTupleGo tg (.ref it) u) Q E s:=by
 cases tg<;>first
  |exact Gad hQ
  |(cases u<;>first
    |exact Gad hQ
    |(refine Gab (wpAny_load ho ?_)
      rw[hc,hd];show wpAny XM A (if(["enumerate","zip","dict_itemiterator","dict_reverseitemiterator","odict_iterator","itertools.zip_longest","itertools.pairwise"].contains n&&vs[0]? ==U (rawInt _))=O then _ else _) Q E s;rw[Gah (by intro h;rw[hn] at h;cases h)];exact Gad hQ))
noncomputable def Itl(K:PySem.W.Frag)(a:Yd):It:=
 ⟨λi H=>∃xs x,SqL K H a xs/\xs[i]? =U x,λi H x H' =>H' =H/\∀xs,SqL K H a xs->xs[i]? =U x,λi H=>∃xs,SqL K H a xs/\xs.length<=i⟩
noncomputable def Itt(K:PySem.W.Frag)(a:Yd):It:=
 ⟨λi H=>∃xs x,SqT K H a xs/\xs[i]? =U x,λi H x H' =>H' =H/\∀xs,SqT K H a xs->xs[i]? =U x,λi H=>∃xs,SqT K H a xs/\xs.length<=i⟩
noncomputable def Itr(lo:Int)(n:Nat):It:=⟨λi _=>i<n,λi H x H' =>H' =H/\x= .int (lo+i),λi _=>n<=i⟩
theorem Et{K:PySem.W.Frag}(a it:Yd):Turn P w K tg (Itl K a) [it] it (λi h=>h.IsListIter it a i) where
 mem:=by simp
 obj:=λi h st b hb=>by
  have e:b=it:=by simpa using hb
  subst e;obtain⟨o,e,c,d⟩:=st;simp_all
 keep:=λi h h' st k=>st.at λo e=>k it (by simp) o e
 item:=by
  intro X hP hw hK hc i e8 s Z H E I hf st hg;subst hP hw hK;obtain⟨xs,x,hq,hx⟩:=hg;obtain⟨its,rv,p,hz⟩:=I.list hq;obtain⟨u,hu,ru⟩:=rv.get hx;obtain⟨f0,f1,f2,f3,f4,f5⟩:=hf it (by simp);refine wpAny_pyNext_list_item st p.isList (by simpa using hu) λh' xH sb=> ?_;have I1:Inv X e8 Z H {s with heap:=h' }:=I.turned (λb o hb e=>(sb.2 b hb).trans e) f0 f1 f3 f4 f5;obtain⟨o,e,c,d⟩:=id xH;exact⟨u,rfl,GF e c d (by decide) ⟨x,H,I1,ru,⟨rfl,λys hy=>by rw[I.wD hy hq];exact hx⟩,xH,λb hb=>(hf b hb).1⟩⟩
 done:=by
  intro X hP hw hK hc i e8 s Z H E I hf st hg;subst hP hw hK;obtain⟨xs,hq,hx⟩:=hg;obtain⟨its,rv,p,hz⟩:=I.list hq;obtain⟨f0,f1,f2,f3,f4,f5⟩:=hf it (by simp);have hl:=rv.length;exact wpAny_pyNext_list_end (I.ok.hd hc) st p.isList (by simp;lia) λh' eb=> ⟨rfl,I.turned (λb o hb e=>eb b o hb e) f0 f1 f3 f4 f5⟩
 self:=λ_ _ _ _ _ st h=>wpAny_pyIter_listiter st h
theorem Bj{K:PySem.W.Frag}(a it:Yd):Turn P w K tg (Itt K a) [it] it (λi h=>h.IsTupleIter it a i) where
 mem:=by simp
 obj:=λi h st b hb=>by
  have e:b=it:=by simpa using hb
  subst e;obtain⟨o,e,c,d⟩:=st;simp_all
 keep:=λi h h' st k=>st.at λo e=>k it (by simp) o e
 item:=by
  intro X hP hw hK hc i e8 s Z H E I hf st hg;subst hP hw hK;obtain⟨xs,x,hq,hx⟩:=hg;obtain⟨its,rv,p,hz⟩:=I.tuple hq;obtain⟨u,hu,ru⟩:=rv.get hx;obtain⟨f0,f1,f2,f3,f4,f5⟩:=hf it (by simp);refine wpAny_pyNext_tuple_item st (show s.heap.IsTuple a its.toArray from p) (by simpa using hu) λh' xH sb=> ?_;have I1:Inv X e8 Z H {s with heap:=h' }:=I.turned (λb o hb e=>(sb.2 b hb).trans e) f0 f1 f3 f4 f5;obtain⟨o,e,c,d⟩:=id xH;exact⟨u,rfl,GF e c d (by decide) ⟨x,H,I1,ru,⟨rfl,λys hy=>by rw[I.tu hy hq];exact hx⟩,xH,λb hb=>(hf b hb).1⟩⟩
 done:=by
  intro X hP hw hK hc i e8 s Z H E I hf st hg;subst hP hw hK;obtain⟨xs,hq,hx⟩:=hg;obtain⟨its,rv,p,hz⟩:=I.tuple hq;obtain⟨f0,f1,f2,f3,f4,f5⟩:=hf it (by simp);have hl:=rv.length;exact wpAny_pyNext_tuple_end (I.ok.hd hc) st (show s.heap.IsTuple a its.toArray from p) (by simp;lia) λh' eb=> ⟨rfl,I.turned (λb o hb e=>eb b o hb e) f0 f1 f3 f4 f5⟩
 self:=λ_ _ _ _ _ st h=>wpAny_pyIter_tupleiter st h
theorem Bk{K:PySem.W.Frag}(it:Yd)(lo:Int)(n:Nat):Turn P w K tg (Itr lo n) [it] it (λi h=>IsRangeIter h it (lo+(i:Nat)*1) ((n:Int)-(i:Nat)) 1) where
 mem:=by simp
 obj:=λi h st b hb=>by
  simp_all
 keep:=λi h h' st k=>k it (by simp) _ st
 item:=by
  intro X hP hw hK hc i e8 s Z H E I hf st hg;subst hP hw hK;obtain⟨f0,f1,f2,f3,f4,f5⟩:=hf it (by simp);have W:=Walks.range (prog:=X.prog) (w:=X.w) (I.ok.hd hc) it lo 1 n;refine W.item i s _ _ hg st λv h' tk hv xH kk=> ?_;obtain⟨t,rfl⟩:=hv;have I1:Inv X e8 Z H {s with heap:=h',toks:=tk}:=I.turned (λb o hb e=>kk b o (by simpa using hb) e) f0 f1 f3 f4 f5;refine⟨_,rfl,GF xH rfl rfl (by decide) ⟨.int (lo+i),H,I1,⟨t, ?_⟩,⟨rfl,rfl⟩,xH,λb hb=>(hf b hb).1⟩⟩;rw[Int.mul_one]
 done:=by
  intro X hP hw hK hc i e8 s Z H E I hf st hg;obtain⟨f0,f1,f2,f3,f4,f5⟩:=hf it (by simp);exact wpAny_pyNext_range_end (I.ok.hd hc) st (by have:n<=i:=hg;lia) λh' eb=> ⟨rfl,I.turned (λb o hb e=>eb b o hb e) f0 f1 f3 f4 f5⟩
 self:=λ_ _ _ _ _ st h=>wpAny_pyIter_rangeiter st h
section
variable{Z:St}
def kg{X:Cx}{tg:Yh}{e8:LAO}{s:Yg}{R:It->Hp->Prop}{E:VSP}{lo hi:Int}{t u v:Tok}{tk:Nat}(I:Inv X e8 Z H s)(h1: -(2^62)<=lo)(h2:lo<2^62)(h3: -(2^62)<=hi)(h4:hi<2^62)
  (q:R (Itr lo (hi -lo).toNat) H):wpAny (model X.prog X.w) X.A (pyIter (.ref s.heap.objs.size)) (PIE X e8 Z tg R) E {s with heap:=s.heap.push {cls:= .type "range",data:= .fields #[.int lo t,.int hi u,.int 1 v]},toks:=tk}:=by
 refine wpAny_pyIter_range (IsRange.new ..) (small_one h1 h2 h3 h4) ?_;have I1:Inv X e8 Z H {s with heap:=s.heap.push {cls:= .type "range",data:= .fields #[.int lo t,.int hi u,.int 1 v]},toks:=tk}:=I.kept λb o e=>Gag _ e;refine⟨(s.heap.push {cls:= .type "range",data:= .fields #[.int lo t,.int hi u,.int 1 v]}).objs.size,[(s.heap.push {cls:= .type "range",data:= .fields #[.int lo t,.int hi u,.int 1 v]}).objs.size],_,_,H,rfl,
  I1.kept (t' :=tk) λb o e=>Gag _ e,Bk _ lo (hi -lo).toNat, ?_,λb hb=> ?_,q⟩
 .have e1:lo+((0:Nat):Int)*1=lo:=by simp
  have e2:(((hi -lo).toNat:Nat):Int)-((0:Nat):Int)=Builtin.Range.rangeSize lo hi 1:=by rw[rangeSize_one];split<;>lia
  show IsRangeIter _ _ (lo+((0:Nat):Int)*1) ((((hi -lo).toNat:Nat):Int)-((0:Nat):Int)) 1;rw[e1,e2];exact Gay _ rfl
 .have e:b=(s.heap.push {cls:= .type "range",data:= .fields #[.int lo t,.int hi u,.int 1 v]}).objs.size:=by simpa using hb
  subst e;exact I1.Es (Gao _) (I1.hok.fresh (Gao _))
def QT(ta:TA):TI:=λZ H R=>ta Z H λvs H1=>∃j:Int,vs=[.int j]/\-(2^62)<=j/\j<2^62/\R (Itr 0 j.toNat) H1
def QU(ta:TA):TI:=λZ H R=>ta Z H λvs H1=>∃i j:Int,vs=[.int i,.int j]/\(-(2^62)<=i/\i<2^62/\-(2^62)<=j/\j<2^62)/\R (Itr i (j -i).toNat) H1
def Eu{X:Cx}(hg:Gl X "range")(hm:X.mg "range"=J)(ha:PA X [a] ta)(hs:autoParam (starEach [a] X.env=[(M,eval a X.env)]) Za1._auto_1):PI X tg (.Call (.Name "range" p) [a] [] pos) (QT ta):=by
 intro e8 s Z H R I h;refine Call_ (kb I hg hm boot_range (GbI (thn (ha pos e8 s Z H _ I h) λus s1 ⟨vs,H1,I1,r1,q1⟩=> ?_) hs rfl));obtain⟨j,e,q1,q2,q⟩:=q1;subst e;cases r1 with
 |cons r rr=>
  cases rr;obtain⟨t,rfl⟩:=r;exact call_range_1 (kg I1 (by lia) (by lia) q1 q2 (by simpa using q))
def Ew{X:Cx}(hg:Gl X "range")(hm:X.mg "range"=J)(ha:PA X [a,b] ta)(hs:autoParam (starEach [a,b] X.env=[(M,eval a X.env),(M,eval b X.env)]) Za1._auto_1)(xc:autoParam (starEach [b] X.env=[(M,eval b X.env)]) Za1._auto_1):
  PI X tg (.Call (.Name "range" p) [a,b] [] pos) (QU ta):=by
 intro e8 s Z H R I h;refine Call_ (kb I hg hm boot_range (GbI (thn (ha pos e8 s Z H _ I h) λus s1 ⟨vs,H1,I1,r1,q1⟩=> ?_) (by rw[hs,xc]) (by rw[xc];rfl)));obtain⟨i,j,e,⟨q1,q2,q3,q4⟩,q⟩:=q1;subst e;cases r1 with
 |cons r rr=>
  cases rr with
  |cons r' rr=>
   cases rr;obtain⟨t,rfl⟩:=r;obtain⟨t',rfl⟩:=r';exact call_range_2 (kg I1 q1 q2 q3 q4 q)
def U1(wi:TI)(g:TG)(tb:TS):TS:=λD Z H=>wi Z H λXI H1=>∃W:Nat->Nat->St->Hp->Prop,(∃m,W 0 m Z H1)/\∀i m Z H,W i m Z H->
 (XI.stop i H/\D.nx Z H)\/(XI.go i H/\∃N:St->Hp->Prop,(∀Z' H',N Z' H' ->∃m',m' <m/\W (i+1) m' Z' H')/\∀x H',XI.yld i H x H' ->g x Z H' λZ2 H2=>tb {D with nx:=N,ct:=N,bk:=D.nx} Z2 H2)
noncomputable def qd(fp:List Yd)(h:Yi):LAO:=fp.filterMap λb=>(h.get? b).map λo=>(b,o)
variable{h:Yi}
def jO(hb:b∈fp)(e:h.get? b=U o):(b,o)∈qd fp h:=Gdf.mpr ⟨b,hb,by rw[e];rfl⟩
def Ex(hp:p∈qd fp h):p.1∈fp/\h.get? p.1=U p.2:=by
 obtain⟨b,hb,e⟩:=Gdf.mp hp;cases q:h.get? b with
 |none=>rw[q] at e;cases e
 |some o=>
  rw[q] at e;have e' :=Option.some.inj e;subst e';exact⟨hb,q⟩
def Inv.pinned{s:Yg}(I:Inv X e8 Z H s)(hf:∀b∈fp,lV X e8 H b)(ho:∀b∈fp,∃o,s.heap.get? b=U o/\∀v,o.data≠ .cell v):Inv X (e8++qd fp s.heap) Z H s:=
 I.CA λp hp=>(Gav.mp hp).elim (λz=>I.pin p (Gbn _ z)) λz=>by
  obtain⟨hb,e⟩:=Ex z;obtain⟨f0,f1,f2,_⟩:=hf p.1 hb;obtain⟨o,e',d⟩:=ho p.1 hb;simp_all
def Inv.mP(I:Inv X (e8++pl) Z H s):Inv X e8 Z H s:=I.CA λp hp=>I.pin p (Gbn _ (GbT _ hp))
def GG{X:Cx}(hp:PassesOwn (model X.prog X.w) X.A X.env X.xe)(hc:X.calm=O)(hi:PI X tg iter wi)(hg:PG X tg g)(hb:PSs X body tb)
  (hs:∀x,foldedSetIterable iter X.env x=pure x:=by intro _;rfl):PS X (.For tg iter body [] pos) (U1 wi g tb):=by
 intro e8 s Z H D I h;refine wpAny_For (thn (hi e8 s Z H _ I h) λv s1 h1=>thn h1 λzJ s2 h2=> ?_) hs;obtain⟨it,fp,tn,XI,H2,e,I2,T,yX,f2,W,⟨m0,w0⟩,turn⟩:=h2;subst e;have stat:∀{H' :Hp},(∀b∈fp,H' b=J)->∀b∈fp,lV X e8 H' b:=λhn b hb=> ⟨hn b hb,(f2 b hb).2⟩;refine codeAny_forLoop_any (λn s' =>∃i Z' H',Inv X e8 Z' H' s' /\tn i s'.heap/\(∀b∈fp,H' b=J)/\W i n Z' H') ?_ m0 ⟨0,Z,H2,I2,yX,λb hb=>(f2 b hb).1,w0⟩;rintro n s3 ⟨i,Z3,H3,I3,VM,Wj,w3⟩;rcases turn i n Z3 H3 w3 with⟨stop,qn⟩| ⟨go,N,hN,step⟩
 .refine Gci hp (thn (T.done X rfl rfl rfl hc i e8 s3 Z3 H3 X.xe I3 (stat Wj) VM stop) λr s4 ⟨hr,I4⟩=> ?_);subst hr;exact GdG ⟨Z3,H3,I4,qn⟩
 .refine Gci hp (thn (T.item X rfl rfl rfl hc i e8 s3 Z3 H3 X.xe I3 (stat Wj) VM go) λr s4 ⟨u,hr,h4⟩=> ?_);subst hr;refine Gci hp (thn h4 λ_ s5 ⟨x,H5,I5,r5,y5,yW,VD⟩=> ?_);have I5' :=I5.pinned (stat VD) (T.obj _ _ yW);refine Gci hp (thn (hg _ s5 Z3 H5 x u _ I5' r5 (step x H5 y5)) λ_ s6 ⟨Z6,H6,I6,q6⟩=> ?_);refine Gci hp (thn (hb _ s6 Z6 H6 _ I6 q6) λf s7 q7=> ?_);have again:∀{Z7:St} {H7:Hp},Inv X (e8++qd fp s5.heap) Z7 H7 s7->N Z7 H7->∃m,m<n/\∃i Z' H',Inv X e8 Z' H' s7/\tn i s7.heap/\(∀b∈fp,H' b=J)/\W i m Z' H' :=λ{Z7 H7} I7 n7=>by
   obtain⟨m',hm,w7⟩:=hN Z7 H7 n7;refine⟨m',hm,i+1,Z7,H7,I7.mP,T.keep _ _ _ yW λb hb o e=>(I7.pin (b,o) (Gbn _ (Gbn _ (jO hb e)))).1,λb hb=> ?_,w7⟩;obtain⟨o,e,d⟩:=T.obj _ _ yW b hb;exact(I7.pin (b,o) (Gbn _ (Gbn _ (jO hb e)))).2.1
  cases f with
  |next=>obtain⟨Z7,H7,I7,n7⟩:=q7;exact again I7 n7
  |cont=>obtain⟨Z7,H7,I7,n7⟩:=q7;exact again I7 n7
  |brk=>obtain⟨Z7,H7,I7,q7⟩:=q7;exact⟨Z7,H7,I7.mP,q7⟩
  |ret v=>obtain⟨x7,Z7,H7,I7,r7,q7⟩:=q7;exact⟨x7,Z7,H7,I7.mP,r7,q7⟩
end
abbrev R2:=V->V->Hp->VK->Prop
def OpR(X:Cx)(f:Ye->Ye->Sem Ye)(r:R2):Prop:=
 ∀(e8:LAO) (s:Yg) (Z:St) (H:Hp) (x y:V) (v u:Ye) (Q:VK),Inv X e8 Z H s->XO x v->XO y u->r x y H Q->
  wpAny (model X.prog X.w) X.A (f v u) (EP X e8 Z Q) X.xe s
def UnR(X:Cx)(f:Ye->Sem Ye)(r:V->Hp->VK->Prop):Prop:=
 ∀(e8:LAO) (s:Yg) (Z:St) (H:Hp) (x:V) (v:Ye) (Q:VK),Inv X e8 Z H s->XO x v->r x H Q->
  wpAny (model X.prog X.w) X.A (f v) (EP X e8 Z Q) X.xe s
def fL(X:Cx)(f:Ye)(r:List V->Hp->VK->Prop):Prop:=
 ∀(e8:LAO) (s:Yg) (Z:St) (H:Hp) (xs:List V) (us:List Ye) (Q:VK),Inv X e8 Z H s->XQ xs us->r xs H Q->
  wpAny (model X.prog X.w) X.A (call f us) (EP X e8 Z Q) X.xe s
def tOp(r:R2)(ta tb:TE):TE:=λZ H Q=>ta Z H λx H1=>tb Z H1 λy H2=>r x y H2 Q
def tUn(r:V->Hp->VK->Prop)(ta:TE):TE:=λZ H Q=>ta Z H λx H1=>r x H1 Q
def rI(C:Int->Int->Prop)(g:Int->Int->V):R2:=λx y H Q=>∃i j,x= .int i/\y= .int j/\C i j/\Q (g i j) H
def rI0(g:Int->Int->V):R2:=λx y H Q=>∃i j,x= .int i/\y= .int j/\Q (g i j) H
def rU(g:Int->V):V->Hp->VK->Prop:=λx H Q=>∃i,x= .int i/\Q (g i) H
section
def Nx{X:Cx}{ta tb:TE}{Z:St}{R:V->V->Hp->Prop}{f:Ye->Ye->Sem Ye}(ha:PE X a ta)(hb:PE X b tb)(I:Inv X e8 Z H s)
  (h:ta Z H λx H1=>tb Z H1 λy H2=>R x y H2)
  (hf:∀v u s2 x y H2,Inv X e8 Z H2 s2->XO x v->XO y u->R x y H2->wpAny (model X.prog X.w) X.A (f v u) Q X.xe s2):
  wpAny (model X.prog X.w) X.A (eval a X.env) (λv s₁=>wpAny (model X.prog X.w) X.A (eval b X.env) (λu s₂=>wpAny (model X.prog X.w) X.A (f v u) Q X.xe s₂) X.xe s₁) X.xe s:=by
 refine thn (ha e8 s Z H _ I h) λv s1 ⟨x,H1,I1,r1,q1⟩=> ?_;refine thn (hb e8 s1 Z H1 _ I1 q1) λu s2 ⟨y,H2,I2,r2,q2⟩=> ?_;exact hf v u s2 x y H2 I2 r1 r2 q2
def QV(ho:OpR X (binaryOp op) r)(ha:PE X a ta)(hb:PE X b tb):PE X (.BinOp a op b pos) (tOp r ta tb):=by
 intro e8 s Z H Q I h;exact wpAny_BinOp (Nx ha hb I h λv u s2 x y H2 I2 rx ry q=>ho e8 s2 Z H2 x y v u Q I2 rx ry q)
def QW(ho:UnR X (unaryOp op) r)(ha:PE X a ta):PE X (.UnaryOp op a pos) (tUn r ta):=by
 intro e8 s Z H Q I h;exact UnaryOp_ (thn (ha e8 s Z H _ I h) λv s1 ⟨x,H1,I1,r1,q1⟩=>ho e8 s1 Z H1 x v Q I1 r1 q1)
variable{g:Int->Int->Int}
def opI{X:Cx}{f:Ye->Ye->Sem Ye}{C:Int->Int->Prop}
  (rule:∀(i j:Int) t u s Q E,C i j->Q (.int (g i j) s.toks) {s with toks:=s.toks+1}->wpAny (model X.prog X.w) X.A (f (.int i t) (.int j u)) Q E s):
  OpR X f (rI C λi j=> .int (g i j)):=by
 intro e8 s Z H x y v u Q I rx ry h;obtain⟨i,j,rfl,rfl,hc,q⟩:=h;obtain⟨t,rfl⟩:=rx;obtain⟨t',rfl⟩:=ry;exact rule i j t t' s _ _ hc ⟨.int (g i j),H,I.tok _,⟨_,rfl⟩,q⟩
def QX{X:Cx}{f:Ye->Ye->Sem Ye}
  (rule:∀(i j:Int) t u s Q E,Q (.int (g i j) s.toks) {s with toks:=s.toks+1}->wpAny (model X.prog X.w) X.A (f (.int i t) (.int j u)) Q E s):
  OpR X f (rI0 λi j=> .int (g i j)):=by
 intro e8 s Z H x y v u Q I rx ry h;obtain⟨i,j,rfl,rfl,q⟩:=h;obtain⟨t,rfl⟩:=rx;obtain⟨t',rfl⟩:=ry;exact rule i j t t' s _ _ ⟨.int (g i j),H,I.tok _,⟨_,rfl⟩,q⟩
def K9{X:Cx}{f:Ye->Ye->Sem Ye}{g:Int->Int->Bool}
  (rule:∀(i j:Int) t u s Q E,Q (.bool (g i j)) s->wpAny (model X.prog X.w) X.A (f (.int i t) (.int j u)) Q E s):
  OpR X f (rI0 λi j=> .bl (g i j)):=by
 intro e8 s Z H x y v u Q I rx ry h;obtain⟨i,j,rfl,rfl,q⟩:=h;obtain⟨t,rfl⟩:=rx;obtain⟨t',rfl⟩:=ry;exact rule i j t t' s _ _ ⟨.bl (g i j),H,I,rfl,q⟩
def QY(i j:Int):Prop:=0<j/\j<1073741824
def QZ(i j:Int):Prop:=0<=j/\j<=1000000/\i.natAbs<2^64
def Ka(i j:Int):Prop:=(-(2^64)<i/\i<2^64)\/(-(2^64)<j/\j<2^64)
def Ka.ok(h:Ka i j):IntMulOk i j:=by
 rcases h with⟨h1,h2⟩| ⟨h1,h2⟩
 .exact .of_left (intBits_le_64 h1 h2)
 .exact .of_right (intBits_le_64 h1 h2)
def Ny:OpR X (binaryOp .Add) (rI0 λi j=> .int (i+j)):=QX λ_ _ _ _ _ _ _ q=>add_int q
def Nz:OpR X (binaryOp .Sub) (rI0 λi j=> .int (i -j)):=QX λ_ _ _ _ _ _ _ q=>sub_int q
def NA:OpR X (binaryOp .Mult) (rI Ka λi j=> .int (i*j)):=opI λ_ _ _ _ _ _ _ hc q=>mul_int q hc.ok
def Kb:OpR X (binaryOp .FloorDiv) (rI QY λi j=> .int (i/j)):=opI λi j _ _ _ _ _ hc q=>by
 have h1:=hc.1;have h2:=hc.2;exact floordiv_int (by lia) (by rw[Int.fdiv_eq_ediv_of_nonneg i (by lia)];exact q) (.inl (PyProof.noPylong_small (by lia)))
def NB:OpR X (binaryOp .Mod) (rI (λ_ j=>0<j) λi j=> .int (i%j)):=opI λi j _ _ _ _ _ hc q=>by
 exact mod_int' (by lia) (by rw[Int.fmod_eq_emod_of_nonneg i (by lia)];exact q)
def NC:OpR X (binaryOp .Pow) (rI QZ λi j=> .int (i^j.toNat)):=opI λ_ _ _ _ _ _ _ hc q=>pow_int_small hc.1 hc.2.1 hc.2.2 q
def unI{X:Cx}{f:Ye->Sem Ye}{g:Int->Int}
  (rule:∀(i:Int) t s Q E,Q (.int (g i) s.toks) {s with toks:=s.toks+1}->wpAny (model X.prog X.w) X.A (f (.int i t)) Q E s):
  UnR X f (rU λi=> .int (g i)):=by
 intro e8 s Z H x v Q I rx h;obtain⟨i,rfl,q⟩:=h;obtain⟨t,rfl⟩:=rx;exact rule i t s _ _ ⟨.int (g i),H,I.tok _,⟨_,rfl⟩,q⟩
def ND:UnR X (unaryOp .USub) (rU λi=> .int (-i)):=unI λ_ _ _ _ _ q=>neg_int q
end
section
variable{ta tb tc:TE}
def GH{Z:St}(I:Inv X e8 Z H s)(q:Q (.bl k) H)(e:k=k'):EP X e8 Z Q (.bool k') s:=by
 subst e;exact⟨.bl k,H,I,rfl,q⟩
def R0:OpR X (compareOp .Lt) (rI0 λi j=> .bl (decide (i<j))):=K9 λ_ _ _ _ _ _ _ q=>lt_int q
def R4:OpR X (compareOp .LtE) (rI0 λi j=> .bl (decide (i<=j))):=K9 λ_ _ _ _ _ _ _ q=>le_int q
def R5:OpR X (compareOp .Gt) (rI0 λi j=> .bl (decide (j<i))):=K9 λ_ _ _ _ _ _ _ q=>gt_int q
def R6:OpR X (compareOp .GtE) (rI0 λi j=> .bl (decide (j<=i))):=K9 λ_ _ _ _ _ _ _ q=>ge_int q
def NF:OpR X (compareOp .Is) (λx y H Q=>y= .non/\Q (.bl (decide (x= .non))) H):=by
 intro e8 s Z H x y v u Q I rx ry h;obtain⟨rfl,q⟩:=h;cases ry;refine is_none_gen (GH I q ?_);cases x<;>first
  |(cases rx;rfl)
  |(obtain⟨t,rfl⟩:=rx;rfl)
def Kc:OpR X (compareOp .IsNot) (λx y H Q=>y= .non/\Q (.bl (!decide (x= .non))) H):=by
 intro e8 s Z H x y v u Q I rx ry h;obtain⟨rfl,q⟩:=h;cases ry;refine isnot_none_gen (GH I q ?_);cases x<;>first
  |(cases rx;rfl)
  |(obtain⟨t,rfl⟩:=rx;rfl)
def OpR.or(h:OpR X f r)(h' :OpR X f r'):OpR X f (λx y H Q=>r x y H Q\/r' x y H Q):=by
 intro e8 s Z H x y v u Q I rx ry q;rcases q with q|q
 .exact h e8 s Z H x y v u Q I rx ry q
 .exact h' e8 s Z H x y v u Q I rx ry q
def Kd(ho:OpR X (compareOp op) r)(ha:PE X a ta)(hb:PE X b tb)(hm:behindInMarks op b=M):PE X (.Compare a [op] [b] pos) (tOp r ta tb):=by
 intro e8 s Z H Q I h;exact wpAny_Compare1 (Nx ha hb I h λv u s2 x y H2 I2 rx ry q=>ho e8 s2 Z H2 x y v u Q I2 rx ry q) hm
def MH(t:TE):TT:=λZ H Q=>t Z H λx H' =>∃k,x= .bl k/\Q k H'
def Ke(ho:OpR X (compareOp op) r)(ha:PE X a ta)(hb:PE X b tb)(hm:behindInMarks op b=M):PT X (.Compare a [op] [b] pos) (MH (tOp r ta tb)):=by
 intro e8 s Z H Q I h;refine wpAny_isTrue_Compare1 (thn (ha e8 s Z H _ I h) λv s1 ⟨x,H1,I1,r1,q1⟩=>thn (hb e8 s1 Z H1 _ I1 q1) λu s2 ⟨y,H2,I2,r2,q2⟩=>
  thn (ho e8 s2 Z H2 x y v u _ I2 r1 r2 q2) λc s3 ⟨z,H3,I3,r3,k,e,q3⟩=> ?_) hm
 subst e;cases r3;exact Gbv ⟨H3,I3,q3⟩
def GI(r r' :R2)(ta tb tc:TE):TE:=λZ H Q=>ta Z H λx H1=>tb Z H1 λy H2=>r x y H2 λz H3=>∃k,z= .bl k/\
 (if k=O then tc Z H3 λw' H4=>r' y w' H4 Q else Q (.bl M) H3)
def GJ(ho:OpR X (compareOp op) r)(xk :OpR X (compareOp op') r')(ha:PE X a ta)(hb:PE X b tb)(hc:PE X c tc)
  (hm:lastMarks [op,op'] [b,c]=M:=by with_unfolding_all rfl):PE X (.Compare a [op,op'] [b,c] pos) (GI r r' ta tb tc):=by
 intro e8 s Z H Q I h;refine Compare_chain (thn (ha e8 s Z H _ I h) λv s1 ⟨x,H1,I1,r1,q1⟩=>chain_link (thn (hb e8 s1 Z H1 _ I1 q1) λu s2 ⟨y,H2,I2,r2,q2⟩=>
  thn (ho e8 s2 Z H2 x y v u _ I2 r1 r2 q2) λd s3 ⟨z,H3,I3,r3,k,e,q3⟩=> ?_)) hm
 subst e;cases r3;refine Gbv ?_;cases k with
 |false=>exact ite_ff ⟨.bl M,H3,I3,rfl,q3⟩
 |true=>exact ite_tt (chain_last (thn (hc e8 s3 Z H3 _ I3 q3) λw' s4 ⟨z',H4,I4,r4,q4⟩=>xk e8 s4 Z H4 y z' u w' Q I4 r2 r4 q4))
def GK(ho:OpR X (compareOp op) r)(xk :OpR X (compareOp op') r')(ha:PE X a ta)(hb:PE X b tb)(hc:PE X c tc)
  (hm:lastMarks [op,op'] [b,c]=M:=by with_unfolding_all rfl):PT X (.Compare a [op,op'] [b,c] pos) (MH (GI r r' ta tb tc)):=by
 intro e8 s Z H Q I h;refine isTrue_chain (thn (ha e8 s Z H _ I h) λv s1 ⟨x,H1,I1,r1,q1⟩=>test_link (thn (hb e8 s1 Z H1 _ I1 q1) λu s2 ⟨y,H2,I2,r2,q2⟩=>
  thn (ho e8 s2 Z H2 x y v u _ I2 r1 r2 q2) λd s3 ⟨z,H3,I3,r3,k,e,q3⟩=> ?_)) hm
 subst e;cases r3;refine Gbv ?_;cases k with
 |false=>
  obtain⟨k',e',q'⟩:=q3;cases e';exact ite_ff ⟨H3,I3,q'⟩
 |true=>
  refine ite_tt (test_last (thn (hc e8 s3 Z H3 _ I3 q3) λw' s4 ⟨z',H4,I4,r4,q4⟩=>thn (xk e8 s4 Z H4 y z' u w' _ I4 r2 r4 q4) λd' s5 ⟨z2,H5,I5,r5,k2,e2,q5⟩=> ?_));subst e2;cases r5;exact Gbv ⟨H5,I5,q5⟩
def Bl:(sizeLine:Nat)<2^63:=by rw[Gbu];decide
def Bm:OpR X (binaryOp .Add) (λx y H Q=>∃i j,x= .str i/\y= .str j/\i.length+j.length<=sizeLine/\Q (.str (i++j)) H):=by
 intro e8 s Z H x y v u Q I rx ry h;obtain⟨i,j,rfl,rfl,hz,q⟩:=h;obtain⟨t,rfl⟩:=rx;obtain⟨t',rfl⟩:=ry;exact add_str (λt' tk=> ⟨.str (i++j),H,I.tok _,⟨_,rfl⟩,q⟩) hz
def vals1(r:XQ [x] us):∃u,us=[u]/\XO x u:=by
 cases r with
 |cons r1 r2=>cases r2;exact⟨_,rfl,r1⟩
def vals2(r:XQ [x,y] us):∃u w',us=[u,w']/\XO x u/\XO y w' :=by
 cases r with
 |cons r1 r2=>
  cases r2 with
  |cons r3 r4=>cases r4;exact⟨_,_,rfl,r1,r3⟩
def Ey{X:Cx}(hc:X.calm=O):fL X (.builtin "min") (λxs H Q=>∃i j,xs=[.int i,.int j]/\Q (.int (if j<i then j else i)) H):=by
 intro e8 s Z H xs us Q I r h;obtain⟨i,j,rfl,q⟩:=h;obtain⟨u,w',rfl,⟨t,rfl⟩,⟨t',rfl⟩⟩:=vals2 r;refine min_two_ints (I.ok.hd hc) λh' tk k=> ⟨_,H,I.kept k, ?_,q⟩;by_cases hj:j<i
 .rw[Gan hj,Gan hj];exact⟨_,rfl⟩
 .rw[Gah hj,Gah hj];exact⟨_,rfl⟩
def Ez:fL X (.type "int") (λxs H Q=>(∃i,xs=[.int i]/\Q (.int i) H)\/∃k,xs=[.bl k]/\Q (.int (if k then 1 else 0)) H):=by
 intro e8 s Z H xs us Q I r h;rcases h with⟨i,rfl,q⟩| ⟨k,rfl,q⟩
 .obtain⟨u,rfl,t,rfl⟩:=vals1 r;exact call_int_int ⟨.int i,H,I,⟨_,rfl⟩,q⟩
 .obtain⟨u,rfl,r1⟩:=vals1 r;cases r1;exact call_int_bool ⟨.int (if k then 1 else 0),H,I.tok _,⟨_,rfl⟩,q⟩
def R7(K:PySem.W.Frag)(x:V)(H:Hp)(n:Nat):Prop:=
 match x with
 | .str y=>y.length<=sizeLine/\n=y.length
 | .ref p=>(∃xs,SqL K H p xs/\n=xs.length)\/∃xs,SqT K H p xs/\n=xs.length
 |_=>False
def GL{X:Cx}:fL X (.builtin "len") (λxs H Q=>∃x n,xs=[x]/\R7 X.K x H n/\Q (.int n) H):=by
 intro e8 s Z H xs us Q I r h;obtain⟨x,n,rfl,e,q⟩:=h;obtain⟨u,rfl,rx⟩:=vals1 r;have hs:=Gbu;cases x with
 |str y=>
  obtain⟨t,rfl⟩:=rx;obtain⟨hy,e'⟩:y.length<=sizeLine/\n=y.length:=e;subst e';exact len_str (by lia) ⟨.int _,H,I.tok _,⟨_,rfl⟩,q⟩
 |ref p=>
  cases rx;have e' :=e;rcases e' with⟨xs,hx,e'⟩| ⟨xs,hx,e'⟩
  .subst e';obtain⟨its,r',pl,hz⟩:=I.list hx;have eL:=r'.length;exact Calls.call_len_list pl.isList (by simp only[Gaw];lia) ⟨.int xs.length,H,I.tok _,⟨_,by simp only[Gaw];rw[eL]⟩,q⟩
  .subst e';obtain⟨its,r',pl,hz⟩:=I.tuple hx;have eL:=r'.length;exact len_tuple pl (by simp only[Gaw];lia) ⟨.int xs.length,H,I.tok _,⟨_,by simp only[Gaw];rw[eL]⟩,q⟩
 |_=>exact(show False from e).elim
end
structure R8(h:Yi)(x dx C:Yd)(mA:Str->Option Ye):Prop where
 obj:h.get? x=U (PySem.W.instObj C dx)
 ns:h.Ns1 dx mA
 ne:dx≠x
def EA{h:Yi}(n:h.Ns1 dx mA):∃od,h.get? dx=U od/\∀name,PySem.W.lookIn name od=U (mA name):=by
 obtain⟨o,es,ep,ho,hd,hk,_,hm⟩:=n;refine⟨o,ho,λname=> ?_⟩;have e:=hm name;unfold nsFind findBy at e;rw[<-Array.find?_toList] at e;unfold PySem.W.lookIn;rw[hd];dsimp only;split
 .simp_all
 .rename_i q;rw[q] at e;have a:es.toList.any (·.refKey)=M:=by
   rw[GbH];intro y hy;obtain⟨z,t,xw⟩:=hk y (GdH.mp hy);simp[DictEntry.refKey,xw]
  have a' :¬es.toList.any (·.refKey)=O:=by rw[a];exact Gaz
  rw[Gah a'];exact congrArg U e
def R8.look(I:R8 h x dx C mA):∃od,PySem.W.InstAt h x (PySem.W.instObj C dx) C (U od)/\∀name,PySem.W.lookIn name od=U (mA name):=
 let⟨od,ho,hl⟩:=EA I.ns
 ⟨od,⟨I.obj,rfl,rfl,ho⟩,hl⟩
structure Cls(K:PySem.W.Frag)(C:Yd):Prop where
 pg:PySem.W.plainGet K C Str.empty=O
 hd:PySem.W.hasDictIn K C=O
 po:PySem.W.plainOver K C=O
 sa:PySem.W.findIn K (.ref C) "__setattr__"=U (U (.builtin "object.__setattr__"))
def Cls.get{K:PySem.W.Frag}(c:Cls K C)(f:Str):PySem.W.plainGet K C f=O:=c.pg
section
variable{H:Hp}
inductive pF(K:PySem.W.Frag)(H:Hp):V->Ye->Prop where
 |non:pF K H .non (.type "NoneType")
 |bl (x:Bool):pF K H (.bl x) (.type "bool")
 |int (i:Int):pF K H (.int i) (.type "int")
 |str (x:Str):pF K H (.str x) (.type "str")
 |lst {a:Yd} {xs:List V} (e:H a=U (.lst xs)):pF K H (.ref a) (.type "list")
 |frz {a:Yd} {o:Yk} {xs:List V} (e:H a=U (.frz o (.lst xs))):pF K H (.ref a) (.type "list")
 |tup {a:Yd} {xs:List V} (e:H a=U (.tup xs)):pF K H (.ref a) (.type "tuple")
 |dT {a:Yd} {eD:List (List Key×V)} (e:H a=U (.dT eD)):pF K H (.ref a) (.type "dict")
def EB{X:Cx}{Z:St}(I:Inv X e8 Z H s)(rx:XO x u)(ty:pF X.K H x t)(e:PySem.W.kitOne X.K t c=U b)(h:∀tk,Q (.bool b) {s with toks:=tk}):
  wpAny (model X.prog X.w) A (call (.builtin "isinstance") [u,c]) Q E s:=by
 cases ty with
 |non=>cases(show u=Value.none from rx);exact GbV PySem.W.kitx_none I.kIn True.intro e (λz=>nomatch z) h
 |bl y=>cases(show u=Value.bool y from rx);exact GbV PySem.W.kitx_bool I.kIn True.intro e (λz=>nomatch z) h
 |int i=>obtain⟨t,q⟩:=(show∃t,u=Value.int i t from rx);cases q;exact GbV PySem.W.kitx_int I.kIn True.intro e (λz=>nomatch z) h
 |str y=>obtain⟨t,q⟩:=(show∃t,u=Value.str y t from rx);cases q;exact GbV PySem.W.kitx_str I.kIn True.intro e (λz=>nomatch z) h
 | @lst a xs ea=>
  cases(show u=Value.ref a from rx);obtain⟨_,_,n,_,h1⟩:=(show cI X.prog X.w H s.heap a (.lst xs) from I.hok a _ ea)
  exact GbV PySem.W.kitx_list I.kIn ⟨_,h1,rfl⟩ e (λz=>nomatch z) h
 | @frz a ob xs ea=>
  cases(show u=Value.ref a from rx);obtain⟨_,_,_,n,_,h1⟩:=(show cI X.prog X.w H s.heap a (.frz ob (.lst xs)) from I.hok a _ ea)
  exact GbV PySem.W.kitx_list I.kIn ⟨_,h1,rfl⟩ e (λz=>nomatch z) h
 | @tup a xs ea=>
  cases(show u=Value.ref a from rx);obtain⟨_,_,_,p⟩:=(show cI X.prog X.w H s.heap a (.tup xs) from I.hok a _ ea)
  obtain⟨o,h1,h2,_⟩:=p;exact GbV PySem.W.kitx_tuple I.kIn ⟨o,h1,h2⟩ e (λz=>nomatch z) h
 | @dT a eD ea=>
  cases(show u=Value.ref a from rx);obtain⟨_,_,xs,_,o,es,ep,h1,h2,_⟩:=(show cI X.prog X.w H s.heap a (.dT eD) from I.hok a _ ea)
  exact GbV PySem.W.kitx_dict I.kIn ⟨o,h1,h2.1⟩ e (λz=>nomatch z) h
end
structure iU(k:Nat)(A:Yj):Prop where
 hd:A.handled=J
 dp:A.depth+3*k+5<recursionLimit
 un:A.units+16*k+200<cLine
def iU.mono(r:iU k A)(h:j<=k):iU j A:=⟨r.hd,by have:=r.dp;lia,by have:=r.un;lia⟩
theorem iU.deeper{A:Yj}(r:iU (k+1) A)(env:Env):iU k (A.deeper env):=
 ⟨r.hd,by have:=r.dp;show A.depth+1+3*k+5<_;lia,by have:=r.un;show A.units+3+16*k+200<_;lia⟩
theorem iU.depth{A:Yj}(r:iU k A):A.depth<recursionLimit:=by have:=r.dp;lia
theorem iU.units{A:Yj}(r:iU k A):A.units+64<cLine:=by have:=r.un;lia
def U2:TA:=λ_ H Q=>Q [] H
def R9(ta:TE)(tr:TA):TA:=λZ H Q=>ta Z H λx H1=>tr Z H1 λxs H2=>Q (x::xs) H2
section
variable{t:TA}
def nU:PA X [] U2:=λ_ _ _ _ H Q I h=>Calls.spliced_nil ⟨[],H,I,.nil,h⟩
def kL{X:Cx}(ha:PE X e te)(hr:PA X es t)(hs:autoParam (starEach (e::es) X.env=(M,eval e X.env)::starEach es X.env) Za1._auto_1):PA X (e::es) (R9 te t):=by
 intro pos e8 s Z H Q I h;rw[hs];show wpAny _ _ (spliced ((M,eval e X.env)::backTo pos (starEach es X.env))) _ _ s;refine GcC (thn (ha e8 s Z H _ I h) λu s1 ⟨x,H1,I1,r1,q1⟩=> ?_);exact thn (hr pos e8 s1 Z H1 _ I1 q1) λus s2 ⟨xs,H2,I2,r2,q2⟩=> ⟨x::xs,H2,I2,.cons r1 r2,q2⟩
def U3(t:TA):TE:=λZ H Q=>t Z H λxs H1=>xs.length<=sizeLine/\∀p,H1 p=J->Q (.ref p) (upd H1 p (.tup xs))
def U4(t:TA):TE:=λZ H Q=>t Z H λxs H1=>xs.length<=sizeLine/\∀p,H1 p=J->Q (.ref p) (upd H1 p (.lst xs))
def NG(h:PA X es t):PE X (.Tuple es x1 pos) (U3 t):=by
 intro e8 s Z H Q I hq;refine wpAny_Tuple_spliced (thn (h pos e8 s Z H _ I hq) λus s1 ⟨xs,H1,I1,r,z,q⟩=> ⟨by rw[<-r.length];exact z, ?_⟩);have hf:=I1.hok.fresh (Gao _);refine⟨.ref s1.heap.objs.size,upd H1 s1.heap.objs.size (.tup xs),I1.laid (λb u e=>Gag _ e) (Gao _) ?_,rfl,q _ hf⟩;exact⟨z,us,r,⟨_,Gay _ rfl,rfl,_,rfl⟩⟩
def GN(h:PA X es t):PE X (.List es pos) (U4 t):=by
 intro e8 s Z H Q I hq;refine wpAny_List_spliced (thn (h pos e8 s Z H _ I hq) λus s1 ⟨xs,H1,I1,r,z,q⟩=> ⟨by rw[<-r.length];exact z, ?_⟩);have hf:=I1.hok.fresh (Gao _);refine⟨.ref s1.heap.objs.size,upd H1 s1.heap.objs.size (.lst xs),I1.laid (λb u e=>Gag _ e) (Gao _) ?_,rfl,q _ hf⟩;exact⟨z,us,0,r,Gay _ rfl⟩
end
abbrev Sp:=List V->Hp->VK->XK->Prop
abbrev CXT:=List Env->Hp->Yg->XK->VSP
structure Kf(P:Yn)(w:World)(K:PySem.W.Frag)(mg:Str->Option Ye)(base:Yi)(A:Yj)(outer:List Env)(s:Yg)(H:Hp):Prop where
 frames:A.frames=U outer
 mod:Mod K mg base
 bs:∀b o,base.get? b=U o->s.heap.get? b=U o/\H b=J
 bsz:base.objs.size<=s.heap.objs.size
 qc:s.heap.FunFrames base outer
 frf:∀b∈frs outer,H b=J
 hok:HOk P w H s.heap
 bare:AllBare s.gens
def CE(outer:List Env)(P:Yn)(w:World)(H:Hp)(s:Yg)(Q:VK)(u:Ye)(s' :Yg):Prop:=
 ∃v H',s'.os=s.os/\AllBare s'.gens/\Un (frs outer) [] H H' s.heap s'.heap/\HOk P w H' s'.heap/\XO v u/\Q v H'
def CR(CX:CXT)(outer:List Env)(P:Yn)(w:World)(H:Hp)(s:Yg)(Q:VK)(E:XK)(r:Result)(s' :Yg):Prop:=
 match r with
 | .ok (.ret u)=>CE outer P w H s Q u s'
 | .ok _=>False
 | .error e=>CX outer H s E e s'
structure jq(P:Yn)(w:World)(K:PySem.W.Frag)(mg:Str->Option Ye)(base:Yi)(CX:CXT)(k:Nat)(f:Yd)(fd:Yo)(ps:List Str)(sp:Sp):Prop where
 len:∀vs H Q E,sp vs H Q E->vs.length=ps.length
 run:∀(A:Yj) (outer:List Env) (s:Yg) (H:Hp) (args:Args) (us:List Ye) (vs:List V) (Q:VK) (E:XK),iU k A->Kf P w K mg base A outer s H->BindsTo s fd args (ps.zip us)->XQ vs us->sp vs H Q E->
  codeAny (model P w) A (.call (.ref f) args) (CR CX outer P w H s Q E) s
section
variable{Z:St}{X:Cx}
def Inv.U5(I:Inv X e8 Z H s):Kf X.prog X.w X.K X.mg X.base X.A X.stack s H:=
 ⟨I.ok.frames,I.ok.mod,I.bs,Gbp I.ok.bsz I.sz,I.stack,I.Cz,I.hok,I.bare⟩
def Inv.after(I:Inv X e8 Z H s)(h:CE X.stack X.prog X.w H s Q u s'):EP X e8 Z Q u s' :=by
 obtain⟨v,H',os,bare,un,hok,r,q⟩:=h;obtain⟨hh,g,d,t,WE⟩:=s';obtain rfl:WE =s.os:=os;exact⟨v,H',I.call un hok bare (λb z=>absurd z (by simp)),r,q⟩
end
def Ra(sp:Sp)(zD:List V)(E:XK)(t:TA):TE:=λZ H Q=>t Z H λvs H1=>sp (vs++zD) H1 Q E
def Binds(K:PySem.W.Frag)(fd:Yo)(ps:List Str)(ds:List Ye):Prop:=
 ∀(s:Yg) (us:List Ye),K.In s.heap->(us++ds).length=ps.length->BindsTo s fd ⟨us,[]⟩ (ps.zip (us++ds))
def Binds.all{K:PySem.W.Frag}{fd:Yo}{ps:List Str}(h:∀us,us.length=ps.length->bindArgs fd ⟨us,[]⟩=pure (ps.zip us)):Binds K fd ps []:=λs us _ hl=>by
 rw[Gbb] at hl⊢;exact .of_eq (h us hl)
def Passes(CX:CXT)(X:Cx)(E:XK):Prop:=∀(e8:LAO) (Z:St) (H:Hp) (s:Yg) (e:Ye) (s' :Yg),Inv X e8 Z H s->CX X.stack H s E e s' ->X.xe e s'
section
variable{X:Cx}
def NH{Z:St}(F:jq X.prog X.w X.K X.mg X.base CX k f fd ps sp)(hr:iU k X.A)(hb:Binds X.K fd ps ds)(hd:XQ zD ds)(hx:Passes CX X E)
  (I:Inv X e8 Z H s)(r:XQ vs us)(h:sp (vs++zD) H Q E):wpAny (model X.prog X.w) X.A (call (.ref f) us) (EP X e8 Z Q) X.xe s:=by
 have r2:=r.append hd;have hl:(us++ds).length=ps.length:=by rw[<-r2.length];exact F.len _ _ _ _ h
 refine wpAny_call (codeAny_mono (F.run X.A X.stack s H ⟨us,[]⟩ (us++ds) (vs++zD) Q E hr I.U5 (hb s us I.kIn hl) r2 h) λr s' hq=> ?_);cases r with
 |error e=>exact hx e8 Z H s e s' I hq
 |ok fl=>
  cases fl with
  |ret u=>exact I.after hq
  |next=>exact False.elim hq
  |brk=>exact False.elim hq
  |cont=>exact False.elim hq
def Kg(F:jq X.prog X.w X.K X.mg X.base CX k f fd ps sp)(hr:iU k X.A)(hg:Gl X x)(hm:X.mg x=U (.ref f))(hk:PySem.W.keepIn X.K (.ref f)=O)(hb:Binds X.K fd ps ds)(hd:XQ zD ds)(hx:Passes CX X E)
  (ha:PA X (e::es) t)(yt:autoParam ((x==("__debug__":Str))=M) Za2._auto_1)(he:autoParam (starEach (e::es) X.env=(M,eval e X.env)::starEach es X.env) Za1._auto_1)(xj:autoParam ((backTo pos (starEach es X.env)).any (·.1)=M) Za1._auto_1):
  PE X (.Call (.Name x p) (e::es) [] pos) (Ra sp zD E t):=by
 intro e8 s Z H Q I h;refine Gdg (K4 I hg hm ?_ yt);refine PySem.W.callWith_K I.ok.mod.kin hk (thn (ha pos e8 s Z H _ I h) λus s1 ⟨vs,H1,I1,r,q⟩=> ⟨I1.kIn, ?_⟩) he xj;exact NH F hr hb hd hx I1 r q
end
structure gP(N P:List Str)(sc:Ym):Prop where
 kind:sc.kind= .function
 co:sc.isCoroutine=M
 gen:sc.isGenerator=M
 nd:N.Nodup
 pre:N.take P.length=P
 par:∀x∈P,sc.names.lookup x=U .local\/sc.names.lookup x=U .cell
 Qp:∀y∈sc.names,y.2≠ .free
theorem tD{kindOf:Str->Option Yp}{x:Str}:∀{binds m},(∀v,(x,v)∉binds)->bindL kindOf binds m x=m x
 |[],_,_=>rfl
 |(n,v)::r,m,h=>by
  unfold bindL;rw[tD λw hw=>h w (Gaf _ hw)];split
  .have:x≠n:=by rintro rfl;exact h v Gaj
   simp[this]
  .rfl
theorem tF{kindOf:Str->Option Yp}{x:Str}:∀{binds m},(∀v,(x,v)∉binds)->bindC kindOf binds m x=m x
 |[],_,_=>rfl
 |(n,v)::r,m,h=>by
  unfold bindC;rw[tF λw hw=>h w (Gaf _ hw)];split
  .rfl
  .have:x≠n:=by rintro rfl;exact h v Gaj
   simp[this]
theorem tH{kindOf:Str->Option Yp}:∀{P:List Str} {vs:List Ye} {i:Nat} {m:Str->Option Ye},P.Nodup->P[i]? =U x->vs[i]? =U v->kindOf x=U .local->
  bindL kindOf (P.zip vs) m x=U v
 |[],_,_,_,_,h,_,_=>by simp at h
 |_::_,[],_,_,_,_,h,_=>by simp at h
 |p::P,w::vs,0,m,nd,h1,h2,hk=>by
  simp at h1 h2;subst h1;subst h2;show bindL kindOf ((p,w)::P.zip vs) m p=_;unfold bindL;rw[tD λv hv=>(Gbc.mp nd).1 (List.of_mem_zip hv).1,Gan hk];simp
 |p::P,w::vs,i+1,m,nd,h1,h2,hk=>by
  show bindL kindOf ((p,w)::P.zip vs) m x=_;exact tH (Gbc.mp nd).2 (by simpa using h1) (by simpa using h2) hk
theorem tJ{kindOf:Str->Option Yp}:∀{P:List Str} {vs:List Ye} {i:Nat} {m:Str->Option Ye},P.Nodup->P[i]? =U x->vs[i]? =U v->kindOf x≠U .local->
  bindC kindOf (P.zip vs) m x=U v
 |[],_,_,_,_,h,_,_=>by simp at h
 |_::_,[],_,_,_,_,h,_=>by simp at h
 |p::P,w::vs,0,m,nd,h1,h2,hk=>by
  simp at h1 h2;subst h1;subst h2;show bindC kindOf ((p,w)::P.zip vs) m p=_;unfold bindC;rw[tF λv hv=>(Gbc.mp nd).1 (List.of_mem_zip hv).1,Gah hk];simp
 |p::P,w::vs,i+1,m,nd,h1,h2,hk=>by
  show bindC kindOf ((p,w)::P.zip vs) m x=_;exact tJ (Gbc.mp nd).2 (by simpa using h1) (by simpa using h2) hk
noncomputable def start(N:List Str)(vs:List V):St:=vs.map U++List.replicate (N.length -vs.length) J
noncomputable def Bn(CX:CXT)(P:Yn)(w:World)(K:PySem.W.Frag)(mg:Str->Option Ye)(base:Yi)(N:List Str)(qual:Str)(scope:Ym)(f:Yd)(cd:Ye)(A:Yj)(outer:List Env)(s:Yg)(H:Hp)(E:XK):Cx where
 prog:=P
 w:=w
 K:=K
 mg:=mg
 base:=base
 A:=A.deeper (envOfC qual scope s.heap.objs.size f cd)
 N:=N
 s₀:=s
 H0:=H
 env:=envOfC qual scope s.heap.objs.size f cd
 outer:=outer
 stack:=envOfC qual scope s.heap.objs.size f cd::outer
 ex:=[]
 calm:=O
 fn:=λ_=>O
 pn:=[]
 xe:=λe s' =>wpAny (model P w) (A.deeper (envOfC qual scope s.heap.objs.size f cd)) (leaving (envOfC qual scope s.heap.objs.size f cd) e) (λ_ UJ =>CX outer H s E e UJ) (λe' UJ =>CX outer H s E e' UJ) s'
def wF{sc:Ym}(h:sc.names.lookup x=U .cell):∃c,(cellsFrom n sc.names []).lookup x=U c:=by
 have q:=PySem.W.cellsFrom_some sc.names n [] (.inl h);exact Option.isSome_iff_exists.mp q
def EC{K:PySem.W.Frag}{ps:List Str}{scope:Ym}{A:Yj}{s:Yg}{vs:List V}
  (S:gP N ps scope)(hd:A.handled=J)(e0:Kf P w K mg base A outer s H)(hl:vs.length=ps.length)(r:XQ vs us)
  (x:InCallC s s.heap.objs.size (bindL (envOfC qual scope s.heap.objs.size f cd).kindOf (ps.zip us) λ_=>J) (cellsFrom (s.heap.objs.size+1) scope.names []) (bindC (envOfC qual scope s.heap.objs.size f cd).kindOf (ps.zip us) λ_=>J) s1):
  Inv (Bn CX P w K mg base N qual scope f cd A outer s H E) [] (start N vs) H s1:=by
 have xj:ps.length<=N.length:=by have:=congrArg List.length S.pre;rw[List.length_take] at this;lia
 obtain⟨h1,tk,rfl,hk⟩:=x.done;have noA:∀b:Yd,b∉(Bn CX P w K mg base N qual scope f cd A outer s H E).ex:=λb z=>absurd (show b∈([]:List Yd) from z) (by simp);refine⟨⟨e0.mod,S.kind,rfl,rfl,Gao _,λy z c h1 h2=> ?_,λy hy=> ?_,λy c _ h=> ?_,λ_=>hd,Around.frames_deeper e0.frames,.inr ⟨rfl,rfl⟩,λb z=>absurd z (noA b),e0.bs,e0.bsz,λb _ _=>noA b,λb z=>absurd z (noA b),e0.qc,e0.frf⟩,
  rfl,e0.bare,Un.kept hk,⟨_,x.toInCall.ns,λi y v h1 h2 h3=> ?_⟩,λy c h=> ⟨_,x.cell y c h⟩,e0.hok.fresh (Gao _),λy c h=> ?_,λp hp=>absurd (show p∈([]:LAO) from hp) (by simp),e0.hok.kept hk, ?_⟩
 .exact name_of_addr x.apart (PySem.mem_of_lookup h1) (PySem.mem_of_lookup h2)
 .rcases hy with hy|hy
  .exact wF hy
  .exact absurd rfl (S.Qp _ (PySem.mem_of_lookup hy))
 .exact GcO (x.above y c (PySem.mem_of_lookup h))
 .have hi:i<vs.length:=by
   unfold start at h2;by_cases hi:i<vs.length
   .exact hi
   .rw[GaM (by simpa using hi)] at h2;rw[Gcz] at h2;lia
  have ha:vs[i]? =U v:=by
   unfold start at h2;rw[GaR (by simpa using hi),Gap] at h2;cases e:vs[i]? with
   |none=>rw[e] at h2;cases h2
   |some a=>rw[e] at h2;cases h2;rfl
  obtain⟨u,hu,rv⟩:=r.get ha;have hp:ps[i]? =U y:=by
   rw[<-S.pre,Gcs (by lia)];exact h1
  have ndP:ps.Nodup:=by rw[<-S.pre];exact S.nd.sublist (List.take_sublist _ _)
  refine⟨u,rv, ?_⟩;rcases S.par y (Gau hp) with k|k
  .exact .inl ⟨k,tH ndP hp hu k⟩
  .obtain⟨c,e⟩:=wF k;refine .inr ⟨.inl k,c,e, ?_⟩;have q:=x.cell y c e;rw[tJ ndP hp hu (by show scope.names.lookup y≠_;rw[k];decide)] at q;exact q
 .exact e0.hok.fresh (GcO (x.above y c (PySem.mem_of_lookup h)))
 .unfold start;show _=N.length;rw[Gal,Gae,GdD];lia
def Rb{K:PySem.W.Frag}{kV:Ye}{ps:List Str}{sp:Sp}
    (lk:K.lookup f=U ⟨oc,od,.func (PySem.W.fnOf name qual params body scope dV kV doc pm an xh ct),zu⟩)(xn:PySem.W.codeIn K xh qual=O)(S:gP N ps scope)
  (len:∀vs H Q E,sp vs H Q E->vs.length=ps.length)
  (xR:∀A outer s H vs Q E,iU k (A.deeper (envOfC qual scope s.heap.objs.size f xh))->sp vs H Q E->
   ∃t,PSs (Bn CX P w K mg base N qual scope f xh A outer s H E) body t/\t {nx:=λ_ H' =>Q .non H',rt:=Q} (start N vs) H):
  jq P w K mg base CX (k+1) f (PySem.W.fnOf name qual params body scope dV kV doc pm an xh ct) ps sp:=by
 refine⟨len,λA outer s H args us vs Q E hr e0 hb r yM=> ?_⟩;have hl:=len _ _ _ _ yM;have KX:=e0.mod.kin.keeps λb o e=>(e0.bs b o e).1;have lim:=e0.mod.nolimit.keeps λb o e=>(e0.bs b o e).1;have hkind:∀y∈ps.zip us,scope.names.lookup y.1=U .local\/(scope.names.lookup y.1=U .cell/\((cellsFrom (s.heap.objs.size+1) scope.names []).lookup y.1).isSome=O):=λ⟨n,v⟩ hy=>by
  rcases S.par n (List.of_mem_zip hy).1 with q|q
  .exact .inl q
  .exact .inr ⟨q,PySem.W.cellsFrom_some _ _ _ (.inl q)⟩
 refine codeAny_call_function hr.depth (KX _ _ lk) rfl S.co S.gen rfl (PySem.W.codeRec_of KX xn) (hb _ _ _ _ ?_);refine wpAny_newFunctionEnv_cells S.kind hkind λenv he s1 x=> ?_;subst he;refine⟨lim.keeps x.toInCall.keep,codeAny_func ?_⟩;obtain⟨t,ht,hq⟩:=xR A outer s H vs Q E (hr.deeper _) yM;have I:Inv (Bn CX P w K mg base N qual scope f xh A outer s H E) [] (start N vs) H s1:=EC S hr.hd e0 hl r x;refine Gcc (ht [] s1 (start N vs) H _ I hq) (λfl s' hs=> ?_) λe s' hs=>hs;have fin:∀{Z' :St} {H' :Hp} {v:V} {u:Ye},Inv (Bn CX P w K mg base N qual scope f xh A outer s H E) [] Z' H' s' ->XO v u->Q v H' ->CE outer P w H s Q u s' :=
  λ{Z' H' v u} XI rv q=> ⟨v,H',XI.os,XI.bare,XI.base,XI.hok,rv,q⟩
 cases fl with
 |ret u=>
  obtain⟨v,Z',H',XI,rv,q⟩:=hs;exact fin XI rv q
 |next=>
  obtain⟨Z',H',XI,q⟩:=hs;exact fin (v:=V.non) XI rfl q
 |brk=>
  obtain⟨_,_,_,q⟩:=hs;exact False.elim q
 |cont=>
  obtain⟨_,_,_,q⟩:=hs;exact False.elim q
section
variable{t:TA}{r:List V->Hp->VK->Prop}
def tCB(r:List V->Hp->VK->Prop)(t:TA):TE:=λZ H Q=>t Z H λvs H1=>r vs H1 Q
variable{X:Cx}
def qe{x:Str}{p pos:Pos}{e:Yh}{es:List Yh}{id:String}(hc:fL X (.builtin id) r)(hg:Gl X x)(hm:X.mg x=J)(hv:bootBuiltins x=U (.builtin id))(ha:PA X (e::es) t)(hn:autoParam (x≠"__name__") Za2._auto_1)(yt:autoParam ((x==("__debug__":Str))=M) Za2._auto_1)
  (he:autoParam (starEach (e::es) X.env=(M,eval e X.env)::starEach es X.env) Za1._auto_1)(xj:autoParam ((backTo pos (starEach es X.env)).any (·.1)=M) Za1._auto_1):PE X (.Call (.Name x p) (e::es) [] pos) (tCB r t):=by
 intro e8 s Z H Q I h;refine Gdg (kb I hg hm hv ?_ hn yt);exact PyProof.Rows.callWith_builtin1 (thn (ha pos e8 s Z H _ I h) λus s1 ⟨vs,H1,I1,r1,q1⟩=>hc e8 s1 Z H1 vs us Q I1 r1 q1) he xj
def nV(hc:fL X (.type T) r)(hg:Gl X x)(hm:X.mg x=J)(hv:bootBuiltins x=U (.type T))(ha:PA X (e::es) t)(hn:autoParam (x≠"__name__") Za2._auto_1)(yt:autoParam ((x==("__debug__":Str))=M) Za2._auto_1)
  (he:autoParam (starEach (e::es) X.env=(M,eval e X.env)::starEach es X.env) Za1._auto_1)(xj:autoParam ((backTo pos (starEach es X.env)).any (·.1)=M) Za1._auto_1):PE X (.Call (.Name x p) (e::es) [] pos) (tCB r t):=by
 intro e8 s Z H Q I h;refine Gdg (kb I hg hm hv ?_ hn yt);exact GbI (thn (ha pos e8 s Z H _ I h) λus s1 ⟨vs,H1,I1,r1,q1⟩=>hc e8 s1 Z H1 vs us Q I1 r1 q1) he xj
end
end L2
namespace HT
open PySem PyProof.Rows
noncomputable def lexLt:List Int->List Int->Bool
 |[],[]=>M
 |[],_::_=>O
 |_::_,[]=>M
 |x::xs,y::ys=>if x=y then lexLt xs ys else decide (x<y)
def Bo(x y:Int)(xs ys:List Int):lexLt (x::xs) (y::ys)=if x=y then lexLt xs ys else decide (x<y):=rfl
def sM:lexLt [] []=M:=rfl
def qf(y:Int)(ys:List Int):lexLt [] (y::ys)=O:=rfl
def qg(x:Int)(xs:List Int):lexLt (x::xs) []=M:=rfl
def GO(A:Yj)(s:Yg)(a:Int)(t:Tok)(c:Int)(u:Tok):∃e,SeqAt.EqAt A s (.int a t) (.int c u) e/\(e=O↔a=c):=
 ⟨(a==c),SeqAt.EqAt.int_int a t c u,by simp⟩
def GP(A:Yj)(s:Yg)(a:Int)(t:Tok)(c:Int)(u:Tok)(prog:Yn)(w:World)(E:VSP)(Q:VSP)(h:Q (.bool (decide (a<c))) s):
  wpAny (model prog w) A (richCompare .Lt (.int a t) (.int c u)) Q E s:=
 (PyProof.Rows.lt_int h:wpAny (model prog w) A (compareOp .Lt (.int a t) (.int c u)) Q E s)
section
open PySem.SeqAt
open PySem.AutoSeq1 (wpAny_loadPart')
open PySem.MeetsSeq PySem.MeetsSeq2 PySem.MeetsSeq3
def sN(l b:Yd)(items eZ:Array Ye)(n n2:Nat)(dd yT:Option Yd)(sl yK:Array (Option Ye))(ns ms:List Int)(hi:IntsAre items.toList ns)(hj:IntsAre eZ.toList ms):
  Meets (Builtin.«tuple.__lt__» ⟨[.ref l,.ref b],[]⟩)
   (λ_ R s=>s.heap.get? l=U {cls:= .type "tuple",dict:=dd,data:= .seq items n,slots:=sl}/\s.heap.get? b=U {cls:= .type "tuple",dict:=yT,data:= .seq eZ n2,slots:=yK}/\
    R (.ok (.ret (.bool (lexLt ns ms)))) s):=
 .of_wp λprog w A R s h=>by
  obtain⟨hp,g,d,tk,os⟩:=s;obtain⟨hl,hb,h⟩:=h
  have f2:=AutoSeq1.sub_tuple_tuple;have z1:items.size=ns.length:=by rw[<-hi.length];simp
  have z2:eZ.size=ms.length:=by rw[<-hj.length];simp
  wp_walk using wpAny_loadPart' hl,wpAny_loadPart' hb,wpAny_forIn_list _ (λrest b s' =>b.1=J/\s' =⟨hp,g,d,tk,os⟩/\∃(vs ws:List Ye) (zw xW :List Int),rest=vs.zip ws/\
   IntsAre vs zw /\IntsAre ws xW /\zw.length+eZ.size=xW.length+items.size/\R (.ok (.ret (.bool (lexLt zw xW)))) ⟨hp,g,d,tk,os⟩) _
  case turn=>
   rintro⟨y,x⟩ rest b s' ⟨xG,rfl,vs,ws,zw,xW,hz,Vf,UO,eL,hR⟩;cases Vf with
   |nil=>rw[List.zip_nil_left] at hz;cases hz
   |cons a t Ve =>
    cases UO with
    |nil=>rw[List.zip_nil_right] at hz;cases hz
    |cons c u Vc =>
     rw[List.zip_cons_cons] at hz;injection hz with hyx zP
     injection hyx with hy hx
     subst hy hx;rw[Bo] at hR;simp only[GaF] at eL;obtain⟨e,he,zU⟩:=GO A.in1 ⟨hp,g,d,tk,os⟩ a t c u;refine Gab (he prog w _ _ ?_);cases e with
     |true=>
      rw[Gan (zU.mp rfl)] at hR
      wp_walk
      exact⟨rfl,rfl,_,_,_,_,zP,Ve,Vc,by lia,hR⟩
     |false=>
      rw[Gah (λq=>absurd (zU.mpr q) Gaz)] at hR;have hri:=GP A.in1 ⟨hp,g,d,tk,os⟩ a t c u prog w
      wp_walk using hri
      exact⟨_,rfl,by simpa using hR⟩
  case fin=>
   rintro⟨b1,b2⟩ s' ⟨xG,rfl,vs,ws,zw,xW,hz,Vf,UO,eL,hR⟩;simp only at xG;subst xG;have hv:lexLt zw xW =decide (items.size<eZ.size):=by
    cases Vf with
    |nil=>
     cases UO with
     |nil=>
      simp only[Gbi] at eL;rw[sM];exact(GaE (by lia)).symm
     |cons c u hw=>
      simp only[Gbi,GaF] at eL;rw[qf];exact(GaD (by lia)).symm
    |cons a t hv=>
     cases UO with
     |nil=>
      simp only[Gbi,GaF] at eL;rw[qg];exact(GaE (by lia)).symm
     |cons c u hw=>
      rw[List.zip_cons_cons] at hz;cases hz
   rw[hv] at hR
   wp_walk
   exact⟨_,rfl,by simpa[Builtin.Tuple.tupleCompareSizes] using hR⟩
  case h=>
   exact⟨rfl,rfl,items.toList,eZ.toList,ns,ms,rfl,hi,hj,by lia,h⟩
end
section
variable{items:Array Ye}
def Bp{A:Yj}{s:Yg}{eZ:Array Ye}(hl:IsTup s.heap l items)(hb:IsTup s.heap b eZ)(hi:IntsAre items.toList ns)(hj:IntsAre eZ.toList ms)
  (hu:A.units<cLine)(h:Q (.bool (lexLt ns ms)) s):wpAny (model prog w) A (compareOp .Lt (.ref l) (.ref b)) Q E s:=by
 obtain⟨⟨cls,dd,data,sl⟩,ho,hc,n,hd⟩:=id hl;obtain⟨⟨UG,yT,data2,yK⟩,xT,yR,n2,hd2⟩:=id hb;simp only at hc hd yR hd2;subst hc hd yR hd2;exact richCompare_meets_room (op:= .Lt) ⟨_,ho,rfl⟩ ⟨_,xT,rfl⟩ PySem.F.slot_tuple_lt PySem.F.entry_tuple_lt (PySem.F.args_tuple_lt_2 _ _) (sN l b items eZ n n2 dd yT sl yK ns ms hi hj)
  ⟨ho,xT,show Value.bool (lexLt ns ms)≠Value.notImplemented/\Q (.bool (lexLt ns ms)) s from⟨(λx=>nomatch x),h⟩⟩ hu
def Kh{s:Yg}{vs ws:List Ye}(ht:IsTup s.heap t vs.toArray)(hb:IsTup s.heap b ws.toArray)(hv:vs≠[])
  (h1:ws=[]->Q (.ref t) s)(h2:ws≠[]->Q (.ref s.heap.objs.size) {s with heap:=s.heap.push {cls:= .type "tuple",data:= .seq (vs++ws).toArray}})
  (xB:vs.length+ws.length<=sizeLine):wpAny (model prog w) A (binaryOp .Add (.ref t) (.ref b)) Q E s:=by
 obtain⟨⟨cls,dd,data,sl⟩,ho,hc,n,hd⟩:=id ht;obtain⟨⟨UG,yT,data2,yK⟩,xT,yR,n2,hd2⟩:=id hb;simp only at hc hd yR hd2;subst hc hd yR hd2;have e:vs.toArray++ws.toArray=(vs++ws).toArray:=by simp
 by_cases hw:ws=[]
 .exact concat_meets ⟨_,ho,rfl⟩ ⟨_,xT,rfl⟩ noFill_tuple_add seq_tuple_add Gdx Gdr (Gdh _ _)
   (tuple_addW1 t b vs.toArray ws.toArray n n2 dd yT sl yK (by simpa using hv) (by simp[hw])) ⟨ho,xT,h1 hw⟩
 .refine concat_meets ⟨_,ho,rfl⟩ ⟨_,xT,rfl⟩ noFill_tuple_add seq_tuple_add Gdx Gdr (Gdh _ _)
   (tuple_addW2 t b vs.toArray ws.toArray n n2 dd yT sl yK (by simpa using hv) (by simpa using hw) (by rw[Gaw,Gaw];exact xB)) ⟨ho,xT, ?_⟩
  rw[e];exact h2 hw
noncomputable def sIx(n d:Nat):Option Int->Nat
 |none=>d
 |some v=>if v<0 then(v+(n:Int)).toNat else min v.toNat n
def NI(n d:Nat)(hd:d<=n)(o:Option Int):sIx n d o<=n:=by
 cases o with
 |none=>exact hd
 |some v=>
  show(if v<0 then(v+(n:Int)).toNat else min v.toNat n)<=n;by_cases hv:v<0
  .rw[Gan hv];lia
  .rw[Gah hv];exact Nat.min_le_right _ _
def CD(v:Int)(n d:Nat):(if v<0 then max (v+(n:Int)) 0 else min v (n:Int))=((sIx n d (U v):Nat):Int):=by
 show(if v<0 then max (v+(n:Int)) 0 else min v (n:Int))=(((if v<0 then(v+(n:Int)).toNat else min v.toNat n):Nat):Int);by_cases hv:v<0
 .simp only[Gan hv];lia
 .simp only[Gah hv];lia
def Bq(lo hi:Option Int)(n:Nat):Builtin.Slice.sliceAdjust lo hi 1 (n:Int)=(((sIx n 0 lo:Nat):Int),((sIx n n hi:Nat):Int)):=by
 have h1:¬((1:Int)<0):=by lia
 unfold Builtin.Slice.sliceAdjust;simp only[h1,if_false];refine Prod.ext ?_ ?_
 .cases lo with
  |none=>rfl
  |some v=>exact CD v n 0
 .cases hi with
  |none=>rfl
  |some v=>exact CD v n n
def Br(i j:Nat):Builtin.Slice.slicePlaces (i:Int) (j:Int) 1=j -i:=by
 unfold Builtin.Slice.slicePlaces;have h1:(1:Int)>0:=by lia
 simp only[h1,Gdo,Int.ediv_one];split<;>lia
def qh(p:IsPart v o)(h:Q o s):wpAny (model prog w) A (Builtin.Slice.slicePartIndex v) Q E s:=by
 cases p with
 |none=>exact slicePart_none h
 |int i t=>exact slicePart_int h
variable{lo hi:Option Int}{vl vu:Ye}{sl:Yd}
def nW{E:VSP}{s:Yg}{n:Nat}{Q:Int×Int×Nat->Yg->Prop}(hs:s.heap.IsSliceOf sl vl vu .none)(pl:IsPart vl lo)(pu:IsPart vu hi)
  (h:Q (((sIx n 0 lo:Nat):Int),1,sIx n n hi -sIx n 0 lo) s):wpAny (model prog w) A (Builtin.Slice.sliceApplied (.ref sl) (pure (n:Int))) Q E s:=by
 obtain⟨os,yd,Wb,xq⟩:=id hs;unfold Builtin.Slice.sliceApplied Builtin.Slice.sliceFields;refine Gab (Gab (wpAny_field yd xq (x:=vl) rfl (Gab (wpAny_field yd xq (x:=vu) rfl (Gab (wpAny_field yd xq (x:= .none) rfl (Gad ?_)))))));refine Gab (slicePart_none ?_);show wpAny _ _ (if((1:Int)==0)=O then _ else _) _ _ s;rw[Gah (by decide)];refine Gab (qh pl (Gab (qh pu (Gab (Gad ?_)))));show wpAny _ _ (match Builtin.Slice.sliceAdjust lo hi 1 (n:Int) with|(lo,hi)=>pure (lo,(1:Int),Builtin.Slice.slicePlaces lo hi 1)) _ _ s;rw[Bq lo hi n];show wpAny _ _ (pure (((sIx n 0 lo:Nat):Int),(1:Int),Builtin.Slice.slicePlaces ((sIx n 0 lo:Nat):Int) ((sIx n n hi:Nat):Int) 1)) _ _ s;rw[Br];exact Gad h
def GQ(xs:Array Ye)(i k:Nat):((List.range k).filterMap λ(m:Nat)=>xs[((i:Int)+(m:Int)*1).toNat]?).toArray=((xs.toList.drop i).take k).toArray:=by
 have e:(λ(m:Nat)=>xs[((i:Int)+(m:Int)*1).toNat]?)=λm=>xs[i+m]? :=by
  funext m
  have:((i:Int)+(m:Int)*1).toNat=i+m:=by lia
  rw[this]
 rw[e];have:=pick_run xs i k;rw[List.filterMap_map] at this;have e2:((λx=>xs[x]?)∘λx=>i+x)=λm=>xs[i+m]? :=rfl;rw[e2] at this;rw[this]
def mQ{E:VSP}{s:Yg}{t:Yd}{Q:VSP}(ht:IsTup s.heap t items)(hs:s.heap.IsSliceOf sl vl vu .none)(pl:IsPart vl lo)(pu:IsPart vu hi)
  (hw:¬(sIx items.size 0 lo=0/\sIx items.size items.size hi=items.size))
  (h:Q (.ref s.heap.objs.size) {s with heap:=s.heap.push {cls:= .type "tuple",data:= .seq ((items.toList.drop (sIx items.size 0 lo)).take (sIx items.size items.size hi -sIx items.size 0 lo)).toArray}})
  (xB:items.size<=sizeLine):wpAny (model prog w) A (getItem (.ref t) (.ref sl)) Q E s:=by
 have htake:sizeOk (.seq ((items.toList.drop (sIx items.size 0 lo)).take (sIx items.size items.size hi -sIx items.size 0 lo)).toArray):=by
  show((items.toList.drop (sIx items.size 0 lo)).take (sIx items.size items.size hi -sIx items.size 0 lo)).toArray.size<=sizeLine;rw[Gaw,List.length_take,Gct,GaZ];lia
 have hj:sIx items.size items.size hi<=items.size:=NI _ _ (Gao _) hi;obtain⟨os,yd,Wb,xq⟩:=id hs;have hTs:s.TypeIs (.ref sl) "slice":=⟨os,yd,Wb⟩
 unfold getItem
 try with_reducible refine GbM ?_
 first|refine Gab (Gad ?_)|skip
 refine Gab (wpAny_sequenceKey ht.typeIs (by decide) ?_);refine Gab (Gbs (name:=Str.ofString "__getitem__") ht.typeIs Gcy
  (Gbd Gcy ht.typeIs entry_tuple_getitem ?_ (args_tuple_getitem _ _)))
 show wpAny _ _ (Builtin.Tuple.tupleItemsOf (.ref t)>>=_) _ _ s;refine Gab (tupleItemsOf_ ht ?_);refine Gab (GdI hTs ?_);rw[Gan (by decide)];refine Gab (nW hs pl pu ?_);have hno:¬((((sIx items.size 0 lo:Nat):Int)==0&&(1:Int)==1&&(sIx items.size items.size hi -sIx items.size 0 lo)==items.size)=O):=by
  intro q;rw[Gai,Gai] at q;have q1:((sIx items.size 0 lo:Nat):Int)=0:=eq_of_beq q.1.1;have q2:sIx items.size items.size hi -sIx items.size 0 lo=items.size:=eq_of_beq q.2;exact hw ⟨by lia,by lia⟩
 show wpAny _ _ (if(((sIx items.size 0 lo:Nat):Int)==0&&(1:Int)==1&&(sIx items.size items.size hi -sIx items.size 0 lo)==items.size)=O then _ else _) _ _ s;rw[Gah hno,GQ]
 first
  |exact Gab (m:=Builtin.Tuple.tupleExact _) (Gbk (Gad ⟨_,rfl,Gad h⟩) htake)
  |exact Gab (m:=Builtin.Tuple.tupleExact _) (Gbk (Gab (Gad (Gad ⟨_,rfl,Gad h⟩))) htake)
  |exact Gab (Gab (m:=Builtin.Tuple.tupleExact _) (Gbk (Gad (Gad ⟨_,rfl,Gad h⟩)) htake))
  |exact Gab (Gab (m:=Builtin.Tuple.tupleExact _) (Gbk (Gad ⟨_,rfl,Gad h⟩) htake))
end
end HT
namespace L2
open PySem PySem.Spec PyProof.Rows
abbrev TO:=St->Hp->(Option Int->Hp->Prop)->Prop
def PO(X:Cx)(e:Option Yh)(t:TO):Prop:=
 ∀(e8:LAO) (s:Yg) (Z:St) (H:Hp) (Q:Option Int->Hp->Prop),Inv X e8 Z H s->t Z H Q->
  wpAny (model X.prog X.w) X.A (evalPart e X.env) (λu s' =>∃o H',Inv X e8 Z H' s' /\IsPart u o/\Q o H') X.xe s
def Ki:TO:=λ_ H Q=>Q J H
def Rf(t:TE):TO:=λZ H Q=>t Z H λx H1=>∃i,x= .int i/\Q (U i) H1
def intsAre_of{ns:List Int}:∀{us},XQ (ns.map V.int) us->IntsAre us ns:=by
 induction ns with
 |nil=>intro us r;rw[GcP] at r;cases r;exact .nil
 |cons n ns ih=>
  intro us r;cases r with
  |cons r1 r2=>
   obtain⟨t,e⟩:=r1;subst e;exact .cons n t (ih r2)
section
variable{X:Cx}{te:TE}{lo hi:Option Yh}{tl th:TO}
def Kj:PO X J Ki:=by
 intro e8 s Z H Q I h;exact Gad ⟨J,H,I,.none,h⟩
def Kk(h:PE X e te):PO X (U e) (Rf te):=by
 intro e8 s Z H Q I hw;refine thn (h e8 s Z H _ I hw) λu s1 ⟨x,H1,I1,r1,q1⟩=> ?_;obtain⟨i,rfl,q⟩:=q1;obtain⟨t,rfl⟩:=r1;exact⟨U i,H1,I1,.int i t,q⟩
def SlR(X:Cx)(r:V->Option Int->Option Int->Hp->VK->Prop):Prop:=
 ∀(e8:LAO) (s:Yg) (Z:St) (H:Hp) (x:V) (v vl vu:Ye) (lo hi:Option Int) (sl:Yd) (Q:VK),Inv X e8 Z H s->XO x v->s.heap.IsSliceOf sl vl vu .none->IsPart vl lo->IsPart vu hi->r x lo hi H Q->
  ∃T id,typeLookup (.type T) "__getitem__"=pure (U (.builtin id))/\s.TypeIs v T/\wpAny (model X.prog X.w) X.A (getItem v (.ref sl)) (EP X e8 Z Q) X.xe s
def SlR.or(h:SlR X r)(h' :SlR X r'):SlR X (λx lo hi H Q=>r x lo hi H Q\/r' x lo hi H Q):=by
 intro e8 s Z H x v vl vu lo hi sl Q I rx hs pl pu q;rcases q with q|q
 .exact h e8 s Z H x v vl vu lo hi sl Q I rx hs pl pu q
 .exact h' e8 s Z H x v vl vu lo hi sl Q I rx hs pl pu q
def tSl(r:V->Option Int->Option Int->Hp->VK->Prop)(te:TE)(tl th:TO):TE:=λZ H Q=>te Z H λx H1=>tl Z H1 λl H2=>th Z H2 λu H3=>r x l u H3 Q
def GR(hr:SlR X r)(he:PE X e te)(hl:PO X lo tl)(hu:PO X hi th):PE X (.Subscript e (.Slice lo hi J p2) pos) (tSl r te tl th):=by
 intro e8 s Z H Q I h;refine Subscript_ (thn (he e8 s Z H _ I h) λv s1 ⟨x,H1,I1,r1,q1⟩=> ?_);refine wpAny_Slice (thn (hl e8 s1 Z H1 _ I1 q1) λvl s2 ⟨l,H2,I2,pl,q2⟩=>thn (hu e8 s2 Z H2 _ I2 q2) λvu s3 ⟨u,H3,I3,pu,q3⟩=> ?_);refine Gad ?_;have I4:Inv X e8 Z H3 {s3 with heap:=s3.heap.push {cls:= .type "slice",data:= .fields #[vl,vu,.none]}}:=I3.kept λb ob q=>Gag _ q;obtain⟨T,id,hT,ht,hg⟩:=hr e8 {s3 with heap:=s3.heap.push {cls:= .type "slice",data:= .fields #[vl,vu,.none]}} Z H3 x v vl vu l u s3.heap.objs.size Q I4 r1 (Heap.IsSliceOf.new ..) pl pu q3;exact tail_any ht hT hg (by with_unfolding_all rfl)
def ED(xs:List V)(lo hi:Option Int):List V:=(xs.drop (HT.sIx xs.length 0 lo)).take (HT.sIx xs.length xs.length hi -HT.sIx xs.length 0 lo)
def oI(xs:List V)(lo hi:Option Int):(ED xs lo hi).length<=xs.length:=by
 unfold ED;rw[List.length_take,Gct];lia
def U6(K:PySem.W.Frag):V->Option Int->Option Int->Hp->VK->Prop:=λx lo hi H Q=>∃a xs,x= .ref a/\SqT K H a xs/\
 ¬(HT.sIx xs.length 0 lo=0/\HT.sIx xs.length xs.length hi=xs.length)/\∀p,H p=J->Q (.ref p) (upd H p (.tup (ED xs lo hi)))
def NJ:SlR X (U6 X.K):=by
 intro e8 s Z H x v vl vu lo hi sl Q I rx hs pl pu h;obtain⟨a,xs,rfl,hx,hw,q⟩:=h;cases rx;obtain⟨its,r,ht,hz⟩:=I.tuple hx;have eL:its.toArray.size=xs.length:=by rw[Gaw];exact r.length.symm
 refine⟨"tuple",_,Gcy.lookup,ht.typeIs, ?_⟩;refine HT.mQ ht hs pl pu (by rw[eL];exact hw) ?_ (by rw[eL];exact hz);rw[eL];refine⟨.ref s.heap.objs.size,_,I.laid (λb ob q=>Gag _ q) (Gao _) ?_,rfl,q _ (I.hok.fresh (Gao _))⟩;exact⟨Gbp (oI xs lo hi) hz,_,(r.drop (HT.sIx xs.length 0 lo)).take (HT.sIx xs.length xs.length hi -HT.sIx xs.length 0 lo),IsTup.new _ _⟩
def Rg(K:PySem.W.Frag):R2:=λx y H Q=>∃a b ns ms,x= .ref a/\y= .ref b/\SqT K H a (ns.map V.int)/\SqT K H b (ms.map V.int)/\Q (.bl (HT.lexLt ns ms)) H
def NK(hu:X.A.units<cLine):OpR X (compareOp .Lt) (Rg X.K):=by
 intro e8 s Z H x y v u Q I rx ry h;obtain⟨a,b,ns,ms,rfl,rfl,ha,hb,q⟩:=h;cases rx;cases ry;obtain⟨its,r1,p1,_⟩:=I.tuple ha;obtain⟨eN,r2,p2,_⟩:=I.tuple hb;have i1:=intsAre_of r1;have i2:=intsAre_of r2;exact HT.Bp p1 p2 i1 i2 hu ⟨.bl (HT.lexLt ns ms),H,I,rfl,q⟩
def MI(K:PySem.W.Frag):R2:=λx y H Q=>∃a b xs ys,x= .ref a/\y= .ref b/\SqT K H a xs/\SqT K H b ys/\xs≠[]/\xs.length+ys.length<=sizeLine/\
 (ys=[]->Q (.ref a) H)/\(ys≠[]->∀p,H p=J->Q (.ref p) (upd H p (.tup (xs++ys))))
def XQ.cz(r:XQ xs us):us=[]↔xs=[]:=by
 cases r with
 |nil=>simp
 |cons _ _=>simp
def Km:OpR X (binaryOp .Add) (MI X.K):=by
 intro e8 s Z H x y v u Q I rx ry h;obtain⟨a,b,xs,ys,rfl,rfl,ha,hb,hx,hz,q1,q2⟩:=h;cases rx;cases ry;obtain⟨its,r1,p1,_⟩:=I.tuple ha;obtain⟨eN,r2,p2,_⟩:=I.tuple hb;refine HT.Kh p1 p2 (λz=>hx (r1.cz.mp z)) (λz=> ⟨.ref a,H,I,rfl,q1 (r2.cz.mp z)⟩) (λz=> ?_) (by rw[<-r1.length,<-r2.length];exact hz);refine⟨.ref s.heap.objs.size,_,I.laid (λb ob q=>Gag _ q) (Gao _) ?_,rfl,q2 (λw=>z (r2.cz.mpr w)) _ (I.hok.fresh (Gao _))⟩;exact⟨by rw[Gal];exact hz,_,r1.append r2,IsTup.new _ _⟩
end
noncomputable def ixN(n:Nat)(i:Int):Option Nat:=if 0<=i then(if i<n then U i.toNat else J) else if -(n:Int)<=i then U (i+n).toNat else J
def atI{α:Type}(xs:List α)(i:Int):Option α:=(ixN xs.length i).bind λj=>xs[j]?
def Ko(h:ixN n i=U j):seqIndex? i n=U j/\j<n/\-(n:Int)<=i/\i<n:=by
 unfold ixN at h;by_cases h0:0<=i
 .rw[Gan h0] at h;by_cases h1:i<n
  .rw[Gan h1] at h;have e:=Option.some.inj h;exact⟨by rw[seqIndex_of h0 h1,e],by lia,by lia,h1⟩
  .simp_all
 .rw[Gah h0] at h;by_cases h1: -(n:Int)<=i
  .rw[Gan h1] at h;have e:=Option.some.inj h;exact⟨by rw[seqIndex_neg (by lia) h1,e],by lia,h1,by lia⟩
  .simp_all
def uX{xs:List α}(h:atI xs i=U v):∃j,seqIndex? i xs.length=U j/\xs[j]? =U v/\j<xs.length/\-(xs.length:Int)<=i/\i<xs.length:=by
 unfold atI at h;cases e:ixN xs.length i with
 |none=>rw[e] at h;cases h
 |some j=>
  rw[e] at h;obtain⟨h1,h2,h3,h4⟩:=Ko e;exact⟨j,h1,h,h2,h3,h4⟩
def uY(b:Yh):Prop:=∀o i,subscripted b M o i=operate [o,i] (getItem o i)
def IxR(X:Cx)(r:R2):Prop:=
 ∀(value slice:Yh) (e8:LAO) (s:Yg) (Z:St) (H:Hp) (x y:V) (v u:Ye) (Q:VK),Inv X e8 Z H s->XO x v->XO y u->r x y H Q->
  subscripted slice M v u=operate [v,u] (getItem v u)->wpAny (model X.prog X.w) X.A (subscriptTail value slice v u) (EP X e8 Z Q) X.xe s
def MtR(X:Cx)(id:String)(r:V->List V->Hp->VK->Prop):Prop:=
 ∀(e8:LAO) (s:Yg) (Z:St) (H:Hp) (x:V) (xs:List V) (v:Ye) (us:List Ye) (Q:VK),Inv X e8 Z H s->XO x v->XQ xs us->r x xs H Q->
  wpAny (model X.prog X.w) X.A (call (.builtin id) (v::us)) (EP X e8 Z Q) X.xe s
section
variable{a b:Yh}
def IxR.or(h:IxR X r)(h' :IxR X r'):IxR X (λx y H Q=>r x y H Q\/r' x y H Q):=by
 intro value slice e8 s Z H x y v u Q I rx ry q hs;rcases q with q|q
 .exact h value slice e8 s Z H x y v u Q I rx ry q hs
 .exact h' value slice e8 s Z H x y v u Q I rx ry q hs
def Rh(hr:IxR X r)(ha:PE X a ta)(hb:PE X b tb)(hs:uY b):PE X (.Subscript a b pos) (tOp r ta tb):=by
 intro e8 s Z H Q I h;exact Subscript_ (Nx ha hb I h λv u s2 x y H2 I2 rx ry q=>hr a b e8 s2 Z H2 x y v u Q I2 rx ry q (hs _ _))
def Ri(K:PySem.W.Frag):R2:=λx y H Q=>∃p xs i v,x= .ref p/\y= .int i/\SqL K H p xs/\atI xs i=U v/\Q v H
def Rj(K:PySem.W.Frag):R2:=λx y H Q=>∃p xs i v,x= .ref p/\y= .int i/\SqT K H p xs/\atI xs i=U v/\Q v H
def Rl:R2:=λx y H Q=>∃z i c,x= .str z/\y= .int i/\z.length<=sizeLine/\atI z.cps.toList i=U c/\Q (.str ⟨#[c]⟩) H
def Kp{X:Cx}:IxR X (Ri X.K):=by
 intro value slice e8 s Z H x y v u Q I rx ry h hs;obtain⟨p,xs,i,z,rfl,rfl,hq,he,q⟩:=h;cases rx;obtain⟨t,rfl⟩:=ry;obtain⟨its,r,pl,hz⟩:=I.list hq;obtain⟨j,h1,h2,h3,h4,h5⟩:=uX he;obtain⟨w,ew,xI⟩:=r.get h2;have hl:=r.length;have hn:=Bl;have fin:EP X e8 Z Q w s:=⟨z,H,I,xI,q⟩
 by_cases h0:0<=i
 .have hj:i.toNat=j:=by
   rw[seqIndex_of h0 h5] at h1;simp_all
  exact item_listR pl.isList h0 (by lia) (by rw[hj];simpa using ew) fin hs
 .have hj:(i+(its.toArray.size:Int)).toNat=j:=by
   rw[seqIndex_neg (by lia) h4] at h1;rw[Gaw,<-hl];exact Option.some.inj h1
  exact subscriptTail_builtinR pl.isList.typeIs slot_list_getitem.lookup
   (wpAny_getItem_list_neg pl.isList (by lia) (by rw[Gaw]<;>lia) (by lia) (by rw[hj];simpa using ew) ⟨rfl,fin⟩) hs
def NL{X:Cx}:IxR X (Rj X.K):=by
 intro value slice e8 s Z H x y v u Q I rx ry h hs;obtain⟨p,xs,i,z,rfl,rfl,hq,he,q⟩:=h;cases rx;obtain⟨t,rfl⟩:=ry;obtain⟨its,r,pl,hz⟩:=I.tuple hq;obtain⟨j,h1,h2,h3,h4,h5⟩:=uX he;obtain⟨w,ew,xI⟩:=r.get h2;have hl:=r.length;have hn:=Bl;have fin:EP X e8 Z Q w s:=⟨z,H,I,xI,q⟩
 exact subscriptTail_builtinR pl.typeIs slot_tuple_getitem.lookup
  (getItem_tuple pl (by lia) (by lia) (by rw[Gaw,<-hl];exact h1) (by simpa using ew) ⟨rfl,fin⟩) hs
def NM:IxR X Rl:=by
 intro value slice e8 s Z H x y v u Q I rx ry h hs;obtain⟨z,i,c,rfl,rfl,hz,he,q⟩:=h;obtain⟨t,rfl⟩:=rx;obtain⟨t',rfl⟩:=ry;obtain⟨j,h1,h2,h3,h4,h5⟩:=uX he;have hl:z.cps.toList.length=z.length:=by simp[Str.length]
 rw[hl] at h1 h4 h5;have hn:=Bl;exact tail_any (typeIs_str s z t) slot_str_getitem.lookup (getItem_str (by
  have e1:decide (i< -(2^63:Int))=M:=GaE (by lia);have e2:decide (i>=2^63)=M:=GaE (by lia);rw[e1,e2,Bool.or_false]) (by rw[h1];simpa using h2) ⟨.str ⟨#[c]⟩,H,I.tok _,⟨_,rfl⟩,q⟩) hs
def rIx(K:PySem.W.Frag):R2:=λx y H Q=>Ri K x y H Q\/Rj K x y H Q\/Rl x y H Q
def NN{X:Cx}:IxR X (rIx X.K):=Kp.or (NL.or NM)
theorem Inv.lst{X:Cx}{e8:LAO}{Z:St}{H:Hp}{s:Yg}{p:Yd}{xs:List V}(I:Inv X e8 Z H s)(h:H p=U (.lst xs)):
  ∃its n,XQ xs its/\s.heap.get? p=U {cls:= .type "list",data:= .seq its.toArray n}/\xs.length<=sizeLine:=by
 obtain⟨z,its,n,r,e⟩:=I.hok p _ h;exact⟨its,n,r,e,z⟩
def uZ(lo hi:Option Int)(n:Nat):(sliceBounds lo hi J n).1=((HT.sIx n 0 lo:Nat):Int)/\(sliceBounds lo hi J n).2.1=((HT.sIx n n hi:Nat):Int)/\(sliceBounds lo hi J n).2.2=1:=by
 refine⟨?_, ?_,rfl⟩
 .cases lo with
  |none=>simp[sliceBounds,HT.sIx]
  |some i=>
   simp only[sliceBounds,HT.sIx,Option.getD_none,show(1:Int)>0 by decide,Gdo];by_cases h:i<0
   .simp only[h,Gdo]<;>lia
   .simp only[h,if_false]<;>lia
 .cases hi with
  |none=>simp[sliceBounds,HT.sIx]
  |some i=>
   simp only[sliceBounds,HT.sIx,Option.getD_none,show(1:Int)>0 by decide,Gdo];by_cases h:i<0
   .simp only[h,Gdo]<;>lia
   .simp only[h,if_false]<;>lia
def sO(its:List Ye)(lo hi:Option Int):slicePick its.toArray lo hi J=((its.drop (HT.sIx its.length 0 lo)).take (HT.sIx its.length its.length hi -HT.sIx its.length 0 lo)).toArray:=by
 obtain⟨h1,h2,h3⟩:=uZ lo hi its.toArray.size;unfold slicePick;rw[h1,h2,h3];simp only[sliceRange_one,pick_run]<;>rfl
def U7(K:PySem.W.Frag):V->Option Int->Option Int->Hp->VK->Prop:=λx lo hi H Q=>∃a xs,x= .ref a/\SqL K H a xs/\∀p,H p=J->Q (.ref p) (upd H p (.lst (ED xs lo hi)))
def Kq{X:Cx}:SlR X (U7 X.K):=by
 intro e8 s Z H x v vl vu lo hi sl Q I rx hs pl pu h;obtain⟨a,xs,rfl,hx,q⟩:=h;cases rx;obtain⟨its,r,ht,hz⟩:=I.list hx;have eL:=r.length;refine⟨"list",_,slot_list_getitem.lookup,ht.isList.typeIs, ?_⟩;refine wpAny_getItem_list_slice ht.isList hs pl pu .none (by simp) ?_ (by rw[Gaw]<;>lia);rw[sO,<-eL];refine⟨.ref s.heap.objs.size,_,I.laid (λb ob q=>Gag _ q) (Gao _) ?_,rfl,q _ (I.hok.fresh (Gao _))⟩;exact⟨Gbp (oI xs lo hi) hz,_,0,(r.drop (HT.sIx xs.length 0 lo)).take (HT.sIx xs.length xs.length hi -HT.sIx xs.length 0 lo),Gay _ rfl⟩
noncomputable def tK:V->Bool
 | .non=>O
 | .bl _=>O
 | .int _=>O
 | .str _=>O
 |_=>M
noncomputable def eqV:V->V->Bool
 | .non,.non=>O
 | .bl a,.bl b=>a==b
 | .bl a,.int b=>(if a then 1 else 0)==b
 | .int a,.bl b=>a==(if b then 1 else 0)
 | .int a,.int b=>a==b
 | .str a,.str b=>a==b
 |_,_=>M
def GU(ry:XO y u)(rx:XO x v)(fy:tK y=O)(fx:tK x=O):SeqAt.EqAt A s u v (eqV y x):=by
 cases y with
 |non=>
  cases ry;cases x with
  |non=>cases rx;exact SeqAt.EqAt.same _
  |bl b=>cases rx;exact SeqAt.EqAt.none_bool b
  |int b=>obtain⟨t,rfl⟩:=rx;exact SeqAt.EqAt.none_int b t
  |str b=>obtain⟨t,rfl⟩:=rx;exact SeqAt.EqAt.none_str b t
  |_=>exact absurd (show M=O from fx) Gaz
 |bl a=>
  cases ry;cases x with
  |non=>cases rx;exact SeqAt.EqAt.bool_none a
  |bl b=>cases rx;exact SeqAt.EqAt.bool_bool a b
  |int b=>obtain⟨t,rfl⟩:=rx;exact SeqAt.EqAt.bool_int a b t
  |str b=>obtain⟨t,rfl⟩:=rx;exact SeqAt.EqAt.bool_str a b t
  |_=>exact absurd (show M=O from fx) Gaz
 |int a=>
  obtain⟨t',rfl⟩:=ry;cases x with
  |non=>cases rx;exact SeqAt.EqAt.int_none a t'
  |bl b=>cases rx;exact SeqAt.EqAt.int_bool a t' b
  |int b=>obtain⟨t,rfl⟩:=rx;exact SeqAt.EqAt.int_int a t' b t
  |str b=>obtain⟨t,rfl⟩:=rx;exact SeqAt.EqAt.int_str a t' b t
  |_=>exact absurd (show M=O from fx) Gaz
 |str a=>
  obtain⟨t',rfl⟩:=ry;cases x with
  |non=>cases rx;exact SeqAt.EqAt.str_none a t'
  |bl b=>cases rx;exact SeqAt.EqAt.str_bool a t' b
  |int b=>obtain⟨t,rfl⟩:=rx;exact SeqAt.EqAt.str_int a t' b t
  |str b=>obtain⟨t,rfl⟩:=rx;exact SeqAt.EqAt.str_str a t' b t
  |_=>exact absurd (show M=O from fx) Gaz
 |_=>exact absurd (show M=O from fy) Gaz
def fL.or(h:fL X f r)(h' :fL X f r'):fL X f (λxs H Q=>r xs H Q\/r' xs H Q):=by
 intro e8 s Z H xs us Q I rs q;rcases q with q|q
 .exact h e8 s Z H xs us Q I rs q
 .exact h' e8 s Z H xs us Q I rs q
def sP{X:Cx}:fL X (.type "tuple") (λxs H Q=>∃p ys,xs=[.ref p]/\((SqL X.K H p ys/\∀l,H l=J->Q (.ref l) (upd H l (.tup ys)))\/(SqT X.K H p ys/\Q (.ref p) H))):=by
 intro e8 s Z H xs us Q I r h;obtain⟨p,ys,rfl,h⟩:=h;obtain⟨u,rfl,rx⟩:=vals1 r;cases rx;rcases h with⟨hq,q⟩| ⟨hq,q⟩
 .obtain⟨its,r',pl,hz⟩:=I.list hq;have eL:=r'.length;refine call_tuple_list pl.isList (λh' kp=> ?_) (by simp only[Gaw]<;>lia);have I1:Inv X e8 Z H {s with heap:=h' }:=I.kept kp;have I2:Inv X e8 Z (upd H h'.objs.size (.tup ys)) {s with heap:=h'.push {cls:= .type "tuple",data:= .seq its.toArray}}:=
   I1.laid (λb o e=>Gag _ e) (Gao _) (show cI X.prog X.w _ _ _ (.tup ys) from⟨hz,its,r',IsTup.new _ _⟩)
  exact⟨.ref h'.objs.size,_,I2,rfl,q _ (I1.hok.fresh (Gao _))⟩
 .obtain⟨its,r',pl,hz⟩:=I.tuple hq;exact call_tuple_same pl ⟨.ref p,H,I,rfl,q⟩
def tyV(K:PySem.W.Frag)(T:String)(x:V)(H:Hp):Prop:=match x with
 | .str _=>T="str"
 | .int _=>T="int"
 | .ref p=>(T="list"/\∃xs,SqL K H p xs)\/(T="tuple"/\∃o,K.lookup p=U o/\o.cls= .type "tuple"/\o.dict=J)\/
   (T="dict"/\∃eD,H p=U (.dT eD))
 |_=>False
def NO{X:Cx}{Z:St}{s:Yg}(I:Inv X e8 Z H s)(r:XO x v)(ty:tyV X.K T x H):
  s.TypeIs v T/\∀a,v= .ref a->∃ob,s.heap.get? a=U ob/\ob.dict=J:=by
 cases x with
 |str z=>
  obtain⟨t,rfl⟩:=r;cases(show T="str" from ty);exact⟨typeIs_str s z t,λ_ e=>nomatch e⟩
 |int i=>
  obtain⟨t,rfl⟩:=r;cases(show T="int" from ty);exact⟨typeIs_int s i t,λ_ e=>nomatch e⟩
 |ref p=>
  cases r;rcases ty with⟨rfl,xs,hq⟩| ⟨rfl,o,hk,hc,hd⟩| ⟨rfl,eD,hk⟩
  .obtain⟨its,_,pl,_⟩:=I.list hq;refine⟨pl.isList.typeIs,λa e=> ?_⟩;cases e;obtain⟨o,n,e,c,hd,_⟩:=pl;exact⟨o,e,hd⟩
  .refine⟨⟨o,I.kIn p o hk,hc⟩,λa e=> ?_⟩;cases e;exact⟨o,I.kIn _ o hk,hd⟩
  .obtain⟨_,_,_,_,o,_,_,e,ex,_⟩:=I.hok p _ hk;refine⟨⟨o,e,ex.1⟩,λa e2=> ?_⟩;cases e2;exact⟨o,e,ex.2.1⟩
 |_=>exact False.elim ty
def tBM(K:PySem.W.Frag)(T:String)(r:V->List V->Hp->VK->Prop)(to:TE)(t:TA):TE:=λZ H Q=>to Z H λx H1=>tyV K T x H1/\t Z H1 λxs H2=>r x xs H2 Q
def CF{X:Cx}{o e:Yh}{es:List Yh}{t:TA}{name:Str}{apos eE:Pos}{T id:String}{r:V->List V->Hp->VK->Prop}(pa:PlainAttrs T)(slot:Slot T name id)(WR:typeOf (.builtin id)=pure (.type "method_descriptor"))(hm:MtR X id r)(ho:PE X o to)(ha:PA X (e::es) t)
  (eW:autoParam (attributeBase o name X.env (eval o X.env)=eval o X.env) Za1._auto_1)
  (xD:((backTo eE (starEach (e::es) X.env)).all (λx=> !x.1)&&(backToKw eE (keywordEach [] X.env)).all (λx=>x.1.isSome)
   &&decide ((e::es).length+([]:List Keyword).length+(if([]:List Keyword).isEmpty then 0 else 1)<30))=O:=by rfl)
  (eV:autoParam ((apos.endLine==eE.line)=O) Za1._auto_1)(hs:autoParam (starEach (e::es) X.env=(M,eval e X.env)::starEach es X.env) Za1._auto_1)(zd:autoParam ((backTo eE (starEach es X.env)).any (·.1)=M) Za1._auto_1):
  PE X (.Call (.Attribute o name apos) (e::es) [] eE) (tBM X.K T r to t):=by
 intro e8 s Z H Q I h;refine wpAny_Call_method_late eW xD eV rfl (thn (ho e8 s Z H _ I h) λv s1 ⟨x,H1,I1,r1,ty,q1⟩=> ?_);obtain⟨h1,h2⟩:=NO I1 r1 ty;refine⟨T,id,pa,slot,WR,h1,h2, ?_⟩;have hA:=ha eE e8 s1 Z H1 _ I1 q1;rw[hs] at hA⊢;refine GcJ (by show(M||(backTo eE (starEach es X.env)).any (·.1))=M;rw[zd]<;>rfl) (GdJ ?_);exact thn hA λus s2 ⟨vs,H2,I2,r2,q2⟩=>hm e8 s2 Z H2 x vs v us Q I2 r1 r2 q2
end
def MtM(X:Cx)(id:String)(r:V->List V->Hp->VK->Prop):Prop:=
 ∀(e8:LAO) (s:Yg) (Z:St) (H:Hp) (x:V) (xs:List V) (v:Ye) (us:List Ye) (Q:VK),Inv X e8 Z H s->XO x v->XQ xs us->r x xs H Q->
  wpAny (model X.prog X.w) X.A (call (.builtin id) (v::us)) (EP X e8 Z Q) X.xe s
def XQ.one(p:XQ [x] us):∃u,us=[u]/\XO x u:=by
 cases p with
 |cons r t=>cases t;exact⟨_,rfl,r⟩
section
variable{ys:List V}{s:Yg}{Z:St}
def Inv.NP{its its' :List Ye}(I:Inv X e8 Z H s)(hH:H l=U (.lst xs))
  (e:s.heap.get? l=U {cls:= .type "list",data:= .seq its.toArray n})(hf:f its.toArray=its'.toArray)(hv:XQ ys its')(hz:ys.length<=sizeLine):
  Inv X e8 Z (upd H l (.lst ys)) {s with heap:=s.heap.update l (Obj.mapSeq f),toks:=t' }:=by
 have q:=PySem.IsL.update e f;rw[hf] at q;refine I.write (by rw[hH];exact trivial) (.inl rfl) (λb' u hb hu=>(Gce s.heap (Obj.mapSeq f) (Ne.symm hb)).trans hu) ⟨_,q⟩ ?_;exact⟨hz,its',_,hv,q⟩
def Inv.U8{its:List Ye}(I:Inv X e8 Z H s)(hv:XQ ys its)(hz:ys.length<=sizeLine):
  Inv X e8 Z (upd H s.heap.objs.size (.lst ys)) {s with heap:=s.heap.push {cls:= .type "list",data:= .seq its.toArray},toks:=t' }:=
 I.laid (λ_ _ q=>Gag _ q) (Gao _) ⟨hz,its,0,hv,Gay _ rfl⟩
theorem Inv.fresh{Z:St}{s:Yg}(I:Inv X e8 Z H s):H s.heap.objs.size=J:=I.hok.fresh (Gao _)
def Inv.Kr{xs:List V}(I:Inv X e8 Z H s)(hH:H l=U (.lst xs)):xs.length<=sizeLine/\∃its n,XQ xs its/\xs.length=its.length/\s.heap.get? l=U {cls:= .type "list",data:= .seq its.toArray n}:=by
 obtain⟨z,its,n,r,e⟩:=I.hok l _ hH;exact⟨z,its,n,r,r.length,e⟩
def GV(h:n<=sizeLine):Builtin.List.listTooLong n=M:=by
 exact GaE (by lia)
end
def CG:V->List V->Hp->VK->Prop:=λx vs H Q=>∃l xs y,x= .ref l/\vs=[y]/\H l=U (.lst xs)/\xs.length<sizeLine/\Q .non (upd H l (.lst (xs++[y])))
def nX:MtM X "list.append" CG:=by
 intro e8 s Z H x vs v us Q I rx rv h;obtain⟨l,xs,y,rfl,rfl,hH,hz,q⟩:=h;cases rx;obtain⟨u,rfl,ru⟩:=rv.one;obtain⟨z,its,n,r,hl,e⟩:=I.Kr hH;refine call_meets F.slot_list_append ⟨_,e,rfl⟩ F.entry_list_append (F.args_list_append_2 _ _) (PySem.list_append l its.toArray n u (by rw[Gaw];lia)) ⟨e, ?_⟩;refine⟨.non,_,I.NP (its' :=its++[u]) hH e (by simp) (r.append (.cons ru .nil)) ?_,rfl,q⟩;rw[Gal,GcQ];lia
def Ks:V->List V->Hp->VK->Prop:=λx vs H Q=>∃l b xs zs,x= .ref l/\vs=[.ref b]/\H l=U (.lst xs)/\H b=U (.lst zs)/\xs.length+zs.length<=sizeLine/\Q .non (upd H l (.lst (xs++zs)))
def EF:MtM X "list.extend" Ks:=by
 intro e8 s Z H x vs v us Q I rx rv h;obtain⟨l,b,xs,zs,rfl,rfl,hH,hB,hz,q⟩:=h;cases rx;obtain⟨u,rfl,ru⟩:=rv.one;cases ru;obtain⟨z,its,n,r,hl,e⟩:=I.Kr hH;obtain⟨z2,eN,n2,r2,zS,e2⟩:=I.Kr hB;have xB:its.toArray.size+eN.toArray.size<=sizeLine:=by rw[Gaw,Gaw];lia
 have hlong:¬(!its.toArray.isEmpty&&Builtin.List.listTooLong (its.toArray.size+eN.toArray.size))=O:=by
  rw[GV xB,GcR];lia
 refine call_meets F.slot_list_extend ⟨_,e,rfl⟩ F.entry_list_extend (F.args_list_extend_2 _ _)
  (AutoSeq1.list_extend_list_list_0 l its.toArray n b eN.toArray n2 hlong (by rw[Gaw];lia) (by lia)) ⟨e,e2, ?_⟩
 refine⟨.non,_,I.NP hH e (by simp) (r.append r2) ?_,rfl,q⟩;simp_all
section
variable{Y:Type} [DecidableEq Y]
noncomputable def iV(eD:List (Y×V))(k:Y):Option V:=(eD.find? λkv=>decide (kv.1=k)).map (·.2)
noncomputable def putK(eD:List (Y×V))(k:Y)(v:V):List (Y×V):=
 if(eD.any λkv=>decide (kv.1=k))=O then eD.map (λkv=>if kv.1=k then(kv.1,v) else kv) else eD++[(k,v)]
def kh{r:List (Y×V)}(e:p.1=k):iV (p::r) k=U p.2:=by simp[iV,e]
def i9{r:List (Y×V)}(e:¬p.1=k):iV (p::r) k=iV r k:=by simp[iV,e]
theorem qi(k:Y):∀eD,(eD.any λkv=>decide (kv.1=k))=(iV eD k).isSome
 |[]=>rfl
 |p::r=>by
  rw[GcY];by_cases e:p.1=k
  .simp only[kh e,GaD e,Bool.true_or,Option.isSome_some]
  .rw[i9 e,GaE e];exact qi k r
def oJ(eD:List (Y×V))(k:Y)(v:V):(putK eD k v).length<=eD.length+1:=by
 unfold putK;split
 .simp_all
 .simp_all
def GW{eD:List (Y×V)}{k:Y}(v:V)(h:iV eD k=J):putK eD k v=eD++[(k,v)]:=by
 unfold putK;rw[qi,h];simp_all
def Ep.EG{o:Option V}{u:Option Ye}(r:Ep o u):o.isSome=u.isSome:=by
 cases o with
 |none=>cases u with
  |none=>rfl
  |some _=>exact(show False from r).elim
 |some _=>cases u with
  |none=>exact(show False from r).elim
  |some _=>rfl
theorem Ep.getD{o:Option V}{u:Option Ye}(r:Ep o u)(rd:XO d d'):XO (o.getD d) (u.getD d'):=by
 cases o with
 |none=>cases u with
  |none=>exact rd
  |some _=>exact(show False from r).elim
 |some _=>cases u with
  |none=>exact(show False from r).elim
  |some _=>exact r
def KV.val(r:KV eD vs)(k:Y):Ep (iV eD k) (valueAt vs k):=by
 induction r with
 |nil=>exact True.intro
 | @cons p q ps qs h t ih=>
  obtain⟨h1,h2⟩:=h;by_cases e:p.1=k
  .have e' :=h1.symm.trans e;have b:valueAt (q::qs) k=U q.2:=by simp[valueAt,e']
   rw[kh e,b];exact h2
  .have e' :¬q.1=k:=λz=>e (h1.trans z);have b:valueAt (q::qs) k=valueAt qs k:=by simp[valueAt,e']
   rw[i9 e,b];exact ih
theorem KV.any{eD:List (Y×V)}{vs:List (Y×Ye)}(r:KV eD vs)(k:Y):(eD.any λkv=>decide (kv.1=k))=vs.any λkv=>decide (kv.1=k):=by
 induction r with
 |nil=>rfl
 |cons h t ih=>rw[GcY,GcY,ih,h.1]
def KV.NQ{eD:List (Y×V)}{vs:List (Y×Ye)}(r:KV eD vs)(k:Y)(ry:XO y u):
  KV (eD.map λkv=>if kv.1=k then(kv.1,y) else kv) (vs.map λkv=>if kv.1=k then(kv.1,u) else kv):=by
 induction r with
 |nil=>exact .nil
 | @cons p q ps qs h t ih=>
  rw[Gax,Gax];refine .cons ?_ ih;obtain⟨h1,h2⟩:=h;by_cases e:p.1=k
  .rw[Gan e,Gan (h1.symm.trans e)];exact⟨h1,ry⟩
  .rw[Gah e,Gah (λz=>e (h1.trans z))];exact⟨h1,h2⟩
def KV.put(r:KV eD vs)(k:Y)(ry:XO y u):KV (putK eD k y) (stored vs k u):=by
 unfold putK stored;rw[r.any k];by_cases e:(vs.any λkv=>decide (kv.1=k))=O
 .rw[Gan e,Gan e];exact r.NQ k ry
 .rw[Gah e,Gah e];exact Paired.snoc r ⟨rfl,ry⟩
theorem KV.length{eD:List (Y×V)}{vs:List (Y×Ye)}(r:KV eD vs):eD.length=vs.length:=Paired.length r
end
def Rm(r:XO (kV k) u):(cJ P w).is k u=O:=by
 cases k with
 |inl i=>obtain⟨t,e⟩:=(show∃t,u=Value.int i t from r);subst e;exact oG P w i t
 |inr x=>obtain⟨t,e⟩:=(show∃t,u=Value.str x t from r);subst e;exact oH P w x t
theorem tL:∀{ks us},XQ (ks.map kV) us->ItemsAre (cJ P w) ks us
 |[],_,r=>by rw[GcP] at r;cases r;exact .nil
 |k::ks,_,r=>by
  cases r with
  |cons h t=>exact .cons (Rm h) (tL t)
abbrev KT(H:Hp):List (List Key×V)->List (List Key×Yd×Ye)->Prop:=Paired λp q=>p.1=q.1/\H q.2.1=U (.tup (p.1.map kV))/\XO p.2 q.2.2
def KT.val(r:KT H eD xs)(k:List Key):Ep (iV eD k) ((atKey xs k).map (·.2)):=by
 induction r with
 |nil=>exact True.intro
 | @cons p q ps qs h t ih=>
  obtain⟨h1,_,h2⟩:=h;by_cases e:p.1=k
  .have e' :=h1.symm.trans e;have b:atKey (q::qs) k=U q.2:=by simp[atKey,e']
   rw[kh e,b];exact h2
  .have e' :¬q.1=k:=λz=>e (h1.trans z);have b:atKey (q::qs) k=atKey qs k:=by simp[atKey,e']
   rw[i9 e,b];exact ih
def KT.NQ{eD:List (List Key×V)}{xs:List (List Key×Yd×Ye)}(r:KT H eD xs)(k:List Key)(ry:XO y u):
  KT H (eD.map λkv=>if kv.1=k then(kv.1,y) else kv) (xs.map (putAt k u)):=by
 induction r with
 |nil=>exact .nil
 | @cons p q ps qs h t ih=>
  rw[Gax];refine .cons ?_ ih;obtain⟨h1,h2,h3⟩:=h;unfold putAt;by_cases e:p.1=k
  .rw[Gan e,Gan (h1.symm.trans e)];exact⟨h1,h2,ry⟩
  .rw[Gah e,Gah (λz=>e (h1.trans z))];exact⟨h1,h2,h3⟩
def KT.put(r:KT H eD xs)(k:List Key)(hb:H b=U (.tup (k.map kV)))(ry:XO y u):
  KT H (putK eD k y) (storedH xs k b u):=by
 have e:(eD.any λkv=>decide (kv.1=k))=(atKey xs k).isSome:=by
  rw[qi,(r.val k).EG,Option.isSome_map]
 unfold putK storedH;rw[e];by_cases q:(atKey xs k).isSome=O
 .rw[Gan q,Gan q];exact r.NQ k ry
 .rw[Gah q,Gah q];exact Paired.snoc r ⟨rfl,hb,ry⟩
def KT.keeps(r:KT H eD xs)(ht:∀b ys,H b=U (.tup ys)->H' b=U (.tup ys)):KT H' eD xs:=
 Paired.K1 r λ_ _ z=> ⟨z.1,ht _ _ z.2.1,z.2.2⟩
section
def Rn(ok:HOk P w H h)(e:Rd H a u):cI P w H h a u:=e.ok ok
def nY{ks:List Key}(ok:HOk P w H h)(e:H a=U (.tup (ks.map kV))):(tupleKind (cJ P w)).is h ks a:=by
 obtain⟨_,its,r,o,h1,h2,n,h3⟩:=(show cI P w H h a (.tup (ks.map kV)) from ok a _ e)
 exact⟨o,its.toArray,n,h1,h2,h3,by simpa using tL r⟩
variable{eD:List (List Key×V)}
def GX{h:Yi}(ok:HOk P w H h)(e:Rd H a (.dT eD)):eD.length<=sizeLine/\(a==sysModules)=M/\
  ∃xs,KT H eD xs/\h.DictOfH (tupleKind (cJ P w)) a xs:=by
 obtain⟨z,y,xs,r,o,es,ep,h1,h2,h3,h4,h5⟩:=(show cI P w H h a (.dT eD) from Rn ok e)
 refine⟨z,y,xs,r,o,es,ep,h1,h2,h3,h4,λx hx=> ?_,h5⟩;have all:∀{l:List (List Key×V)} {m:List (List Key×Yd×Ye)},KT H l m->∀x∈m,(tupleKind (cJ P w)).is h x.1 x.2.1:=by
  intro l m q;induction q with
  |nil=>intro x hx;exact nomatch hx
  | @cons p q ps qs hq t ih=>
   intro x hx;rcases Gat.mp hx with e|hx
   .subst e;exact nY ok (by rw[<-hq.1];exact hq.2.1)
   .exact ih x hx
 exact all r x hx
def GY{h:Yi}(ok:HOk P w H h)(e:H a=U (.dT eD)):eD.length<=sizeLine/\(a==sysModules)=M/\
  ∃xs,KT H eD xs/\h.DictOfH (tupleKind (cJ P w)) a xs:=GX ok (.inl e)
end
def Kt(H:Hp)(a:Yd)(y:V)(r:Option V):Prop:=
 ∃eD k b,Rd H a (.dT eD)/\y= .ref b/\H b=U (.tup (k.map kV))/\r=iV eD k
def GZ(H:Hp)(a:Yd)(y v:V)(H' :Hp):Prop:=
 ∃eD k b,H a=U (.dT eD)/\y= .ref b/\H b=U (.tup (k.map kV))/\eD.length<sizeLine/\H' =upd H a (.dT (putK eD k v))
def GZ.t{eD:List (List Key×V)}{k:List Key}(e:H a=U (.dT eD))(eb:H b=U (.tup (k.map kV)))(hl:eD.length<sizeLine):
  GZ H a (.ref b) v (upd H a (.dT (putK eD k v))):=⟨eD,k,b,e,rfl,eb,hl,rfl⟩
section
variable{Z:St}
def Inv.big{s:Yg}(I:Inv X e8 Z H s):sysModules<s.heap.objs.size:=by
 have h:=(I.mod.glob.keeps I.bk).lt;exact Nat.lt_trans (by decide) h
def pT{X:Cx}{s:Yg}{h' :Yi}(I:Inv X e8 Z H s)(mu:Mut (H a))(hs:Heap.SameBut a s.heap h')(he:∃q,h'.get? a=U q)(new:cI X.prog X.w (upd H a ob) h' a ob):
  Inv X e8 Z (upd H a ob) {s with heap:=h',toks:=t' }:=
 I.write mu (.inl rfl) (λb q hb z=>(hs.2 b hb).trans z) he new
def EH{X:Cx}{A:Yj}(hu:A.units+1<cLine)(I:Inv X e8 Z H s)(g:GZ H a y v H')(ry:XO y u)(rv:XO v r)(h:∀s',Inv X e8 Z H' s' ->Q () s'):
  wpAny (model X.prog X.w) A (setItem (.ref a) u r) Q E s:=by
 obtain⟨eD,k,b,e,ey,eb,l,eH⟩:=g;subst ey eH;cases(show u=Value.ref b from ry);obtain⟨z,hd,xs,rel,dd⟩:=GY I.hok e;have hz:xs.length<=sizeLine:=by rw[<-Paired.length rel];exact z
 have hl:(putK eD k v).length<=sizeLine:=by have:=oJ eD k v;lia
 refine wpAny_setItem_heap (tupleKind_room_in1 hu) (nY I.hok eb) dd λh' VH hs=>h _ ?_;obtain⟨q,es,ep,hq,h2,h3,h4,_,h5⟩:=VH;refine pT I (by rw[e];exact True.intro) hs ⟨q,hq⟩ ⟨hl,hd,_,(rel.put k eb rv).keeps λc ys ec=> ?_,q,es,ep,hq,h2,h3,h4,h5⟩;rw[ar (tm ec e (λz=>nomatch z))];exact ec
end
def Ha(h:Yi)(hb:sysModules<h.objs.size):cI P w H (h.push {cls:= .type "dict",data:= .dict #[]}) h.objs.size (.dT []):=
 ⟨Gba _,beq_eq_false_iff_ne.mpr (Ne.symm (GaK hb)),[],.nil,_,#[],0,Gay _ rfl,⟨rfl,rfl,rfl⟩,rfl,rfl,Gdp⟩
def NR:TE:=λ_ H Q=>∀p,H p=J->Q (.ref p) (upd H p (.dT []))
def wG:PE X (.Dict [] [] pos) NR:=λe8 s Z H Q I h=>
 wpAny_Dict_empty ⟨.ref s.heap.objs.size,_,I.laid (λ_ _ q=>Gag _ q) (Gao _) (Ha s.heap I.big),rfl,h _ (I.hok.fresh (Gao _))⟩
structure M2(X:Cx)(o:Yh)(m:Str)(apos:Pos)(e f:Yh)(eE:Pos):Prop where
 base:attributeBase o m X.env (eval o X.env)=eval o X.env
 few:((backTo eE (starEach [e,f] X.env)).all (λx=> !x.1)&&(backToKw eE (keywordEach [] X.env)).all (λx=>x.1.isSome)
  &&decide (([e,f]:List Yh).length+([]:List Keyword).length+(if([]:List Keyword).isEmpty then 0 else 1)<30))=O
 line:(apos.endLine==eE.line)=O
 trees:backTo eE (starEach [e,f] X.env)=[(M,eval e X.env),(M,eval f X.env)]
def IsD(H:Hp)(a:Yd):Prop:=∃eD,Rd H a (.dT eD)
def Bs{Z:St}{s:Yg}(I:Inv X e8 Z H s)(d:IsD H a):
  s.TypeIs (.ref a) "dict"/\(∀b,Value.ref a= .ref b->∃ob,s.heap.get? b=U ob/\ob.dict=J)/\(a==sysModules)=M:=by
 obtain⟨eD,e⟩:=d;obtain⟨_,hd,xs,_,dd⟩:=GX I.hok e;refine⟨dd.typeIs,λb q=> ?_,hd⟩;cases q;obtain⟨ob,_,_,h1,h2,_⟩:=dd;exact⟨ob,h1,h2.2.1⟩
def NS{X:Cx}{Z:St}{o:Option V}{A:Yj}(hu:A.units+1<cLine)(I:Inv X e8 Z H s)(g:Kt H a y o)(ry:XO y u)(rd:XO d r)(h:∀w' s',Inv X e8 Z H s' ->XO (o.getD d) w' ->Q w' s'):
  wpAny (model X.prog X.w) A (call (.builtin "dict.get") [.ref a,u,r]) Q E s:=by
 obtain⟨eD,k,b,e,ey,eb,l⟩:=g;subst ey;cases(show u=Value.ref b from ry);obtain⟨z,hd,xs,rel,dd⟩:=GX I.hok e;refine call_meetsIn PySem.F.slot_dict_get dd.typeIs PySem.F.entry_dict_get (PySem.F.args_dict_get_3 _ _ _) (meetsH_dict_get_default (tupleKind (cJ X.prog X.w)) a b hd r) ⟨tupleKind_room_in1 hu,k,xs,nY I.hok eb,dd,h _ _ (I.tok _) ?_⟩;rw[l];exact(rel.val k).getD rd
def NT(td ty tx:TE):TE:=λZ H Q=>td Z H λx H1=>∃a,x= .ref a/\IsD H1 a/\ty Z H1 λy H2=>tx Z H2 λz H3=>∃o,Kt H3 a y o/\Q (o.getD z) H3
def Hb{X:Cx}(hu:X.A.units+1<cLine)(ho:PE X o td)(he:PE X e ty)(hf:PE X f tx)(m:M2 X o "get" apos e f eE):PE X (.Call (.Attribute o "get" apos) [e,f] [] eE) (NT td ty tx):=by
 intro e8 s Z H Q I h;refine wpAny_Call_method m.base m.few m.line Gds PySem.F.slot_dict_get PySem.F.type_dict_get (thn (ho e8 s Z H _ I h) λu s1 ⟨x,H1,I1,rx,a,ex,d,q1⟩=> ?_);subst ex;obtain rfl:u=Value.ref a:=rx;obtain⟨t1,t2,_⟩:=Bs I1 d;refine⟨t1,t2, ?_⟩;rw[m.trees];refine GcJ rfl (GdJ (GcC (thn (he e8 s1 Z H1 _ I1 q1) λiv s2 ⟨y,H2,I2,ry,q2⟩=>
  GcC (thn (hf e8 s2 Z H2 _ I2 q2) λfv s3 ⟨z,H3,I3,rz,ov,g,q3⟩=>Calls.spliced_nil ?_))))
 exact NS hu I3 g ry rz λw' s4 I4 xI => ⟨_,H3,I4,xI,q3⟩
end L2
namespace Att
open PySem PySem.W PySem.Calls PyProof.Rows
def pG:∀ns vs,WellAll P h vs (ns.map WData.int)->IntsAre vs ns:=by
 intro ns;induction ns with
 |nil=>
  intro vs w;rw[GcP] at w;cases w;exact .nil
 |cons n ns ih=>
  intro vs w;rw[Gax] at w;cases w with
  |cons a b=>
   cases a;exact .cons _ _ (ih _ b)
def EI{l:OpenLaw}{h:Yi}(hn:l.most=U n)
  (yG:l.row.toRowW.claim.pre args=O)(Vb:WellAll P h vals args):
  ∃a vs ns,vals=[Value.ref a]/\args=[WData.list (ns.map WData.int)]/\h.get? a=U {cls:= .type "list",data:= .seq vs.toArray}/\IntsAre vs ns/\ns.length<=n:=by
 have hsh:WShape.hasAll [] args [.list .int]=O:=(pre_splitW yG).1;have hc:l.pre.holds [] {args:=args}=O:=(pre_splitW yG).2;obtain⟨d,r,rfl,h1,h2⟩:=hasAllW_cons hsh;obtain rfl:=hasAllW_nil h2;obtain⟨xs,rfl,h3⟩:=hasW_list h1;obtain⟨ns,rfl⟩:=items_int h3;have eL:ns.length<=n:=by
  unfold OpenLaw.pre at hc;have h4:(WTm.not (.lt (.lit (.int (n:Int))) (.len (.arg 0)))).holds [] {args:=[.list (ns.map .int)]}=O:=by
   have h4:=(holds_andW hc).1;rw[hn] at h4;exact h4
  have h5:=condW_of h4 (w_not (w_lt w_lit (w_len_list (w_arg rfl))));rw[Gae] at h5;refine Nat.le_of_not_lt λq=> ?_;have q' :(n:Int)<((ns.length:Nat):Int):=by lia
  first
   |(rw[GaD q'] at h5;exact absurd h5 (by decide))
   |(simp at h5;lia)
 cases Vb with
 |cons w1 w2=>
  cases w2;cases w1 with
  |list ho yI=>exact⟨_,_,ns,rfl,rfl,ho,pG ns _ yI,eL⟩
def EJ(l:OpenLaw)(args:List WData):l.row.toRowW.claim.post args (.bool O) args=O:=
 postW_of (r:=l.row.toRowW) (X:=(O==O))
  (show WShape.has [] (.bool O) .bool=O by first|rfl|decide|simp[WShape.has,WShape.arms,WShape.armsAll])
  (show(WTm.eq .res (.lit (.bool O))).value [] {args:=args,res:=U (.bool O),after:=args}=U (.bool (O==O)) from w_eq_bool (w_res rfl) w_lit) rfl
def wH{l:OpenLaw}{d:DefRec}
  (hn:l.most=U n)(zX:d.params.defaults=[])
  (call:∀w s₀ s₁ mg mb fa o pm cd doc a vs ns,
   Ground q loose [] XP w s₀ mg mb s₁.heap->YP w s₁.heap->
   s₁.heap.get? fa=U o->o.data= .func (docDef d.name d.params d.body d.scope pm cd doc)->s₁.heap.CodeRec cd d.name->mg d.name=U (.ref fa)->
   s₁.heap.get? a=U {cls:= .type "list",data:= .seq vs.toArray}->IntsAre vs ns->ns.length<=n->s₁.gens=#[]->
   codeAny (model l.prog w) callerA (.call (.ref fa) ⟨[.ref a],[]⟩) (λr s' =>r= .ok (.ret (.bool O))/\OldK s₁.heap s'.heap/\s'.os=s₁.os/\AllBare s'.gens) s₁):
  WalkO q loose XP YP l.row.toRowW d [] (λf vs=>PySem.call f vs):=by
 intro w s₀ s₁ mg mb G Y fa o pm cd doc dV kV ho hd xn hD zR hg args vals as yG hlay hrd Vb hlo;obtain rfl:dV= .none:=Dflts.none hD zX;obtain rfl:kV= .none:=Dflts.noKw hD;obtain⟨a,vs,ns,rfl,rfl,zf,hints,eL⟩:=EI hn yG Vb;refine enter_call (codeAny_mono (call w s₀ s₁ mg mb fa o pm cd doc a vs ns G Y ho (fd_plain hd) xn zR zf hints eL hg) λr s' hq=> ?_);obtain⟨rfl,h2,h3,h4⟩:=hq;exact⟨.inl ⟨.bool O,.bool O,[],rfl,λ_=>rfl,.bool O,EJ l _,λ_=> ⟨List.Pairwise.nil,λ_ hm=>(nomatch hm)⟩⟩,h2,h3,h4⟩
end Att
namespace L2
open PySem PySem.Spec PyProof.Rows
def nZ{ns:List Int}(p:IntsAre vs ns):XQ (ns.map V.int) vs:=by
 induction p with
 |nil=>exact .nil
 |cons n t h ih=>exact .cons ⟨t,rfl⟩ ih
def Ku(H:Hp):Prop:=∀b,H b=J\/∃o xs,H b=U (.frz o (.lst xs))
def Hc{K:PySem.W.Frag}{s₁:Yg}{vs:List Ye}{ns:List Int}
  (KX:K.In s₁.heap)(zA:s₁.heap.Ns mainGlobals mg)(hb:s₁.heap.Ns builtinsNs mb)(Vz:∀x:Str,x≠"__name__"->mb x=bootBuiltins x)(Vu:s₁.heap.NoLimit)(hg:s₁.gens=#[])
  (ha:s₁.heap.get? a=U {cls:= .type "list",data:= .seq vs.toArray})(hi:IntsAre vs ns)(hl:ns.length<=sizeLine)(hr:iU k callerA)
  (F:∀base,K.In base->base.Ns mainGlobals mg->jq P w K mg base CX k fa fd [x] sp)(zZ:∀s u,BindsTo s fd ⟨[u],[]⟩ [(x,u)])
  (yM:∀H,Ku H->SqL K H a (ns.map V.int)->sp [.ref a] H (λv _=>v= .bl O) λ_ _ _=>False)
  (VC:∀H e s',CX [] H s₁ (λ_ _ _=>False) e s' ->False):
  codeAny (model P w) callerA (.call (.ref fa) ⟨[.ref a],[]⟩) (λr s' =>r= .ok (.ret (.bool O))/\OldK s₁.heap s'.heap/\s'.os=s₁.os/\AllBare s'.gens) s₁:=by
 have rv:=nZ hi;have lenV:=hi.length;have core:∀H:Hp,Ku H->SqL K H a (ns.map V.int)->HOk P w H s₁.heap->(∀b,H b≠J->b=a)->(H a≠J->K.lookup a=J)->
   codeAny (model P w) callerA (.call (.ref fa) ⟨[.ref a],[]⟩) (λr s' =>r= .ok (.ret (.bool O))/\OldK s₁.heap s'.heap/\s'.os=s₁.os/\AllBare s'.gens) s₁:=by
  intro H hO hS hok hA hK;have base_of:∀{b:Yd} {o:Yk},s₁.heap.get? b=U o->H b=J->(wA s₁.heap H).get? b=U o:=λe n=>Gw e n;have noA:∀{b:Yd} {o:Yk} {es:Array DictEntry} {ep:Nat},s₁.heap.get? b=U o->o.data= .dict es ep->H b=J:=λ{b o es ep} e d=>by
   cases q:H b with
   |none=>rfl
   |some u=>
    grind
  have nsK:∀{b:Yd} {m:Str->Option Ye},s₁.heap.Ns b m->(wA s₁.heap H).Ns b m:=λ{b m} ⟨o,es,ep,e,d,r⟩=> ⟨o,es,ep,base_of e (noA e d),d,r⟩;have We:=λb o e=>base_of (KX b o e) (by
   cases q:H b with
   |none=>rfl
   |some u=>
    have e' :=hA b (by rw[q];simp);subst e';rw[hK (by rw[q];simp)] at e;cases e)
  have hM:Mod K mg (wA s₁.heap H):=⟨We,nsK zA,⟨mb,nsK hb,Vz⟩,let⟨mc,h1,h2⟩:=Vu;⟨mc,nsK h1,h2⟩⟩
  have e0:Kf P w K mg (wA s₁.heap H) callerA [] s₁ H:=⟨rfl,hM,λb o e=>K2 e,Nat.le_of_eq (Er _ _),trivial,λb hb=>absurd (show b∈([]:List Yd) from hb) (by simp),hok,.of_eq hg⟩
  refine codeAny_mono ((F _ We (nsK zA)).run callerA [] s₁ H ⟨[.ref a],[]⟩ [.ref a] [.ref a] _ _ hr e0 (zZ s₁ (.ref a)) (.cons rfl .nil) (yM H hO hS)) λr s' h=> ?_;cases r with
  |error e=>exact(VC H e s' h).elim
  |ok fl=>
   cases fl with
   |next=>exact False.elim h
   |brk=>exact False.elim h
   |cont=>exact False.elim h
   |ret u=>
    obtain⟨v,H',os,bare,un,xO,r',q⟩:=h;have q' :=q;subst q';obtain rfl:u=Value.bool O:=r';refine⟨rfl,OldK.of_keep λb o e=> ?_,os,bare⟩;cases q:H b with
    |none=>exact un.keep b o e q (by intro z;exact absurd (show b∈([]:List Yd) from z) (by simp)) (by simp)
    |some u=>
     rcases hO b with z| ⟨ob,xs,z⟩
     .rw[q] at z;cases z
     .have z2:=un.sJ b ob _ z;obtain⟨e1,_⟩:=hok b _ z;obtain⟨e2,_⟩:=xO b _ z2;rw[e] at e1;cases e1;exact e2
 cases hk:K.lookup a with
 |some o=>
  have e:=KX a o hk;rw[ha] at e;cases e;refine core (λ_=>J) (λ_=> .inl rfl) (.inr ⟨_,vs.toArray,_,hk,rfl,rfl,rfl,by rw[Gaw,lenV];exact hl,by simpa using rv⟩) (λb u z=>by have z' :(J:Option HO)=U u:=z;cases z') (λb z=>absurd rfl z) λz=>absurd rfl z
 |none=>
  refine core (λb=>if b=a then U (.frz {cls:= .type "list",data:= .seq vs.toArray} (.lst (ns.map V.int))) else J) (λb=> ?_) (.inl (.inr ⟨{cls:= .type "list",data:= .seq vs.toArray},Gan rfl⟩)) (λb u z=> ?_) (λb z=> ?_) λ_=>hk
  .by_cases hb:b=a
   .exact .inr ⟨_,_,Gan hb⟩
   .exact .inl (Gah hb)
  .by_cases hb:b=a
   .have z' :=(Gan hb).symm.trans z;cases z';subst hb;exact⟨ha,by rw[Gae];exact hl,vs,_,rv,ha⟩
   .have z' :=(Gah hb).symm.trans z;cases z'
  .by_cases hb:b=a
   .exact hb
   .exact absurd (Gah hb) z
def Kv{l:PySem.W.OpenLaw}{YP:World->Yi->Prop}{d:DefRec}{K:Yq->PySem.W.Frag}{CX:World->CXT}{sp:World->Sp}{x:Str}
  (hn:l.most=U n)(Vt:n<=sizeLine)(zX:d.params.defaults=[])(hr:iU k callerA)
  (hY:∀w h,YP w h->(K w.params).In h)
  (F:∀w (mg:Str->Option Ye) fa h,(K w.params).In h->h.Ns mainGlobals mg->mg d.name=U (.ref fa)->
   ∃fd,(∀s u,BindsTo s fd ⟨[u],[]⟩ [(x,u)])/\
    ∀base,(K w.params).In base->base.Ns mainGlobals mg->jq l.prog w (K w.params) mg base (CX w) k fa fd [x] (sp w))
  (yM:∀w H a (ns:List Int),ns.length<=n->Ku H->SqL (K w.params) H a (ns.map V.int)->sp w [.ref a] H (λv _=>v= .bl O) λ_ _ _=>False)
  (VC:∀w H s e s',CX w [] H s (λ_ _ _=>False) e s' ->False):
  PySem.W.WalkO q loose XP YP l.row.toRowW d [] (λf vs=>PySem.call f vs):=by
 refine Att.wH hn zX λw s₀ s₁ mg mb fa o pm cd doc a vs ns G Y ho hd xn zR zf hints eL hg=> ?_;have KX:=hY w _ Y;obtain⟨fd,hb,hF⟩:=F w mg fa _ KX G.T.g zR;exact Hc KX G.T.g G.T.b G.T.builtins G.T.nolimit hg zf hints (Gbp eL Vt) hr hF hb (λH hO hS=>yM w H a ns eL hO hS) λH e s' =>VC w H s₁ e s'
noncomputable def kM(s:Yl):Arguments:=match s with
 | .FunctionDef _ a _ _ _ _ _ _ _ _=>a
 |_=>{posonlyargs:=[],args:=[],vararg:=J,kwonlyargs:=[],kw_defaults:=[],kwarg:=J,defaults:=[]}
noncomputable def gy(s:Yl):List Yl:=match s with
 | .FunctionDef _ _ b _ _ _ _ _ _ _=>b
 |_=>[]
noncomputable def aY(s:Yl):Ym:=match s with
 | .FunctionDef _ _ _ _ _ _ sc _ _ _=>sc
 |_=>{kind:= .function,names:=[],isGenerator:=M,isCoroutine:=M}
noncomputable abbrev CX0:CXT:=λ_ _ _ _ _ _=>False
noncomputable abbrev E0:XK:=λ_ _ _=>False
def Ro:Passes CX0 X E0:=λ_ _ _ _ _ _ _ h=>h.elim
structure Fun(K:PySem.W.Frag)(x qual:Str)(st:Yl)(f:Yd)(fd:Yo):Prop where
 ex:∃(oc:Ye) (od:Option Yd) (kV doc pm:Ye) (an:Option Yd) (xh ct:Ye) (zu:Array (Option Ye)),
  fd=PySem.W.fnOf x qual (kM st) (gy st) (aY st) .none kV doc pm an xh ct/\K.lookup f=U ⟨oc,od,.func fd,zu⟩/\PySem.W.codeIn K xh qual=O
 kp:PySem.W.keepIn K (.ref f)=O
section
variable{f:Yd}{st:Yl}{x qual:Str}
def Fun.ok{K:PySem.W.Frag}{mg:Str->Option Ye}{base:Yi}{fd:Yo}{N ps:List Str}{k:Nat}{sp:Sp}(F:Fun K x qual st f fd)(S:gP N ps (aY st))(len:∀vs H Q E,sp vs H Q E->vs.length=ps.length)
  (xR:∀xh A outer s H vs Q E,iU k (A.deeper (envOfC qual (aY st) s.heap.objs.size f xh))->sp vs H Q E->
   ∃t,PSs (Bn CX0 P w K mg base N qual (aY st) f xh A outer s H E).nox (gy st) t/\t {nx:=λ_ H' =>Q .non H',rt:=Q} (start N vs) H):jq P w K mg base CX0 (k+1) f fd ps sp:=by
 obtain⟨oc,od,kV,doc,pm,an,xh,ct,zu,rfl,lk,xn⟩:=F.ex;refine Rb lk xn S len λA outer s H vs Q E hr yM=> ?_;obtain⟨t,h,q⟩:=xR xh A outer s H vs Q E hr yM;exact⟨t,h.nox,q⟩
def NU{K:PySem.W.Frag}{oc:Ye}{od an:Option Yd}{zu:Array (Option Ye)}{kV doc pm xh ct:Ye}(l:K.lookup f=U ⟨oc,od,.func (PySem.W.fnOf x qual (kM st) (gy st) (aY st) .none kV doc pm an xh ct),zu⟩)
  (c:PySem.W.codeIn K xh qual=O)(k:PySem.W.keepIn K (.ref f)=O):Fun K x qual st f (PySem.W.fnOf x qual (kM st) (gy st) (aY st) .none kV doc pm an xh ct):=⟨⟨oc,od,kV,doc,pm,an,xh,ct,zu,rfl,l,c⟩,k⟩
end
def Rp{A:Yj}(hr:iU k A):A.units+1<cLine:=GcD (Nat.add_le_add_left (by decide:1<=64) _) hr.units
def cb(H H' :Hp):Prop:=∀b o,H b=U o->H' b=U o
def cb.trans(a:cb H H1)(b:cb H1 H2):cb H H2:=λc o h=>b c o (a c o h)
def cb.free(e:cb H H')(h:H' l=Option.none):H l=Option.none:=by
 cases q:H l with
 |none=>rfl
 |some o=>
  rw[e l o q] at h;cases h
end L2
namespace Hd
noncomputable section
open PySem PySem.W PyProof.Rows L2
abbrev p0:=PySem.Challenge.pw_dosehouse_k62_a_round
noncomputable def top(i:Nat):Yl:=p0.main.body.getD i (.Pass ⟨0,0,0,0⟩)
noncomputable def view:Yn:={p0 with main:={p0.main with body:=[1,2,3,5,7,9,10,11,12,13,15,17,19,21,22,23,24,25,26,27,28,29,31,32,33,34,35,36,38,39,40,41,42,43,44,45,46,47,48,49,50,51,52,53,54,55,56,57,58,59,60,61,62].map top}}
abbrev fd(n:Str)(i:Nat)(m:Str)(t c:Nat):Yo:=fnOf n n (kM (top i)) (gy (top i)) (aY (top i)) .none .none .none (.str m t) J (.ref c) .none
noncomputable def fo(d:Yo):Yk:=⟨.type "function",J,.func d,#[]⟩
noncomputable def co(n:Str)(t l k a:Nat)(x y:Ye)(b u:Nat):Yk:={cls:= .type "code",data:= .fields #[.str n t,.str n (t+1),.str "/claim/cut.py" (t+2),.int l 0,.int k 0,.int 0 0,.int 0 0,.int 3 0,.ref a,.bool O,.int 181 0,.ref (a+1),.none,x,y,.ref b,.int u 0,.int l 0,.str "/claim/cut.py" (u+1)]}
noncomputable def e(P:Yq)(n:Str)(t:Nat)(v:Ye):DictEntry:=⟨PyData.keyHash P n,.str n t,v⟩
noncomputable def r(P:Yq)(n:Str)(t a:Nat):DictEntry:=e P n t (.ref a)
noncomputable abbrev m0:Str:="dosehouse.books"
noncomputable abbrev m1:Str:="dosehouse.bounds"
noncomputable abbrev m2:Str:="dosehouse.doses"
noncomputable abbrev m3:Str:="dosehouse.dues"
noncomputable abbrev m4:Str:="dosehouse.faults"
noncomputable abbrev m5:Str:="dosehouse.parts"
noncomputable abbrev m6:Str:="dosehouse.rounds"
noncomputable abbrev m7:Str:="dosehouse.weights"
noncomputable abbrev m8:Str:="dosehouse.windows"
noncomputable abbrev m9:Str:="law_dosehouse_k62_a_round"
abbrev tN:=fd "laid_in" 1 m0 187 20
abbrev lA:=fd "with_giving" 2 m0 187 27
abbrev mR:=fd "givings_of" 3 m0 187 32
abbrev tP:=fd "rounded" 5 m5 213 39
abbrev He:=fd "dose" 7 m2 228 46
abbrev Hg:=fd "span" 9 m3 246 53
abbrev wI:=fd "due_of" 10 m3 246 60
abbrev wJ:=fd "astray" 11 m3 246 67
abbrev CH:=fd "state" 12 m3 246 72
abbrev qj:=fd "taper_of" 13 m3 246 79
abbrev CI:=fd "bound" 15 m1 294 86
abbrev oK:=fd "weight_at" 17 m7 304 93
abbrev Hh:=fd "sums" 19 m8 317 100
abbrev jr:=fd "goes_by_weight" 21 m4 333 105
abbrev lB:=fd "lone_faults" 22 m4 333 110
abbrev de:=fd "marks_by_target" 23 m4 333 117
abbrev mS:=fd "cap_faults" 24 m4 333 124
abbrev jt:=fd "gaps_by_stuffs" 25 m4 333 131
abbrev lC:=fd "gap_between" 26 m4 333 138
abbrev mT:=fd "gap_faults" 27 m4 333 143
abbrev kl:=fd "twice_faults" 28 m4 333 148
abbrev wK:=fd "faults" 29 m4 333 155
abbrev lD:=fd "due_numbers" 31 m6 418 162
abbrev km:=fd "giving_hours" 32 m6 418 167
abbrev tQ:=fd "dues_in" 33 m6 418 174
abbrev oM:=fd "open_dues" 34 m6 418 181
abbrev tR:=fd "dose_at" 35 m6 418 188
abbrev qk:=fd "round_at" 36 m6 418 195
abbrev oN:=fd "_law_mixed" 38 m9 491 202
abbrev tU:=fd "_law_far" 39 m9 491 209
abbrev tW:=fd "_law_cap" 40 m9 491 216
abbrev oO:=fd "_law_stuff" 41 m9 491 223
abbrev ql:=fd "_law_dues" 42 m9 491 230
abbrev oP:=fd "_law_order" 43 m9 491 237
abbrev oQ:=fd "_law_world" 44 m9 491 244
abbrev qm:=fd "_law_hour" 45 m9 491 251
abbrev oR:=fd "_law_spots" 46 m9 491 256
abbrev mU:=fd "_law_weight" 47 m9 491 263
abbrev tX:=fd "_law_due" 48 m9 491 270
abbrev qo:=fd "_law_most" 49 m9 491 277
abbrev qp:=fd "_law_caps" 50 m9 491 284
abbrev qq:=fd "_law_near" 51 m9 491 291
abbrev tY:=fd "_law_own" 52 m9 491 296
abbrev mV:=fd "_law_faults" 53 m9 491 303
abbrev qr:=fd "_law_with" 54 m9 491 310
abbrev qt:=fd "_law_book" 55 m9 491 317
abbrev qu:=fd "_law_many" 56 m9 491 324
abbrev jY:=fd "_law_dues_that" 57 m9 491 329
abbrev qv:=fd "_law_dose" 58 m9 491 336
abbrev lE:=fd "_law_planned" 59 m9 491 343
abbrev oS:=fd "_law_round" 60 m9 491 350
abbrev iY:=fd "_law_alike" 61 m9 491 355
abbrev MJ:=fd "law" 62 m9 491 362
def K(P:Yq):Frag:=[(3,{cls:= .type "dict",data:= .dict #[e P "__name__" 165 (.str "law_dosehouse_k62_a_round" 491),e P "__doc__" 166 (.none),e P "__package__" 167 (.none),e P "__loader__" 168 (.builtin "__main__.__loader__#opaque"),e P "__spec__" 169 (.none),r P "__annotations__" 170 6,r P "__builtins__" 171 4,e P "__file__" 173 (.str "/claim/cut.py" 172),e P "__cached__" 174 (.none),r P "laid_in" 196 21,r P "with_giving" 206 28,r P "givings_of" 212 33,r P "rounded" 227 40,r P "dose" 245 47,r P "span" 257 54,r P "due_of" 268 61,r P "astray" 277 68,r P "state" 283 73,r P "taper_of" 293 80,r P "bound" 303 87,r P "weight_at" 316 94,r P "sums" 332 101,r P "goes_by_weight" 340 106,r P "lone_faults" 346 111,r P "marks_by_target" 357 118,r P "cap_faults" 375 125,r P "gaps_by_stuffs" 384 132,r P "gap_between" 393 139,r P "gap_faults" 399 144,r P "twice_faults" 405 149,r P "faults" 417 156,r P "due_numbers" 427 163,r P "giving_hours" 433 168,r P "dues_in" 448 175,r P "open_dues" 457 182,r P "dose_at" 472 189,r P "round_at" 490 196,r P "_law_mixed" 502 203,r P "_law_far" 509 210,r P "_law_cap" 521 217,r P "_law_stuff" 536 224,r P "_law_dues" 549 231,r P "_law_order" 572 238,r P "_law_world" 589 245,r P "_law_hour" 602 252,r P "_law_spots" 608 257,r P "_law_weight" 619 264,r P "_law_due" 629 271,r P "_law_most" 637 278,r P "_law_caps" 656 285,r P "_law_near" 673 292,r P "_law_own" 679 297,r P "_law_faults" 691 304,r P "_law_with" 701 311,r P "_law_book" 721 318,r P "_law_many" 728 325,r P "_law_dues_that" 734 330,r P "_law_dose" 749 337,r P "_law_planned" 764 344,r P "_law_round" 780 351,r P "_law_alike" 786 356,r P "law" 798 363] 62}),
 (21,fo tN),(20,co "laid_in" 189 2 2 15 (.ref 17) (.ref 18) 19 194),
 (28,fo lA),(27,co "with_giving" 197 4 4 22 (.ref 24) (.ref 25) 26 204),
 (33,fo mR),(32,co "givings_of" 207 6 2 29 (.none) (.none) 31 210),
 (40,fo tP),(39,co "rounded" 215 9 4 34 (.ref 36) (.ref 37) 38 225),
 (47,fo He),(46,co "dose" 230 19 5 41 (.ref 43) (.ref 44) 45 243),
 (54,fo Hg),(53,co "span" 248 30 2 48 (.ref 50) (.ref 51) 52 255),
 (61,fo wI),(60,co "due_of" 258 34 2 55 (.ref 57) (.ref 58) 59 266),
 (68,fo wJ),(67,co "astray" 269 43 2 62 (.ref 64) (.ref 65) 66 275),
 (73,fo CH),(72,co "state" 278 48 4 69 (.none) (.none) 71 281),
 (80,fo qj),(79,co "taper_of" 284 57 2 74 (.ref 76) (.ref 77) 78 291),
 (87,fo CI),(86,co "bound" 296 64 2 81 (.ref 83) (.ref 84) 85 301),
 (94,fo oK),(93,co "weight_at" 306 73 3 88 (.ref 90) (.ref 91) 92 314),
 (101,fo Hh),(100,co "sums" 319 80 2 95 (.ref 97) (.ref 98) 99 330),
 (106,fo jr),(105,co "goes_by_weight" 335 94 1 102 (.none) (.none) 104 338),
 (111,fo lB),(110,co "lone_faults" 341 96 3 107 (.none) (.none) 109 344),
 (118,fo de),(117,co "marks_by_target" 347 114 2 112 (.ref 114) (.ref 115) 116 355),
 (125,fo mS),(124,co "cap_faults" 358 120 3 119 (.ref 121) (.ref 122) 123 373),
 (132,fo jt),(131,co "gaps_by_stuffs" 376 131 1 126 (.ref 128) (.ref 129) 130 382),
 (139,fo lC),(138,co "gap_between" 385 137 3 133 (.ref 135) (.ref 136) 137 391),
 (144,fo mT),(143,co "gap_faults" 394 141 2 140 (.none) (.none) 142 397),
 (149,fo kl),(148,co "twice_faults" 400 154 2 145 (.none) (.none) 147 403),
 (156,fo wK),(155,co "faults" 406 161 2 150 (.ref 152) (.ref 153) 154 415),
 (163,fo lD),(162,co "due_numbers" 420 169 1 157 (.ref 159) (.ref 160) 161 425),
 (168,fo km),(167,co "giving_hours" 428 174 2 164 (.none) (.none) 166 431),
 (175,fo tQ),(174,co "dues_in" 434 176 4 169 (.ref 171) (.ref 172) 173 446),
 (182,fo oM),(181,co "open_dues" 449 184 3 176 (.ref 178) (.ref 179) 180 455),
 (189,fo tR),(188,co "dose_at" 458 186 5 183 (.ref 185) (.ref 186) 187 470),
 (196,fo qk),(195,co "round_at" 473 194 3 190 (.ref 192) (.ref 193) 194 488),
 (203,fo oN),(202,co "_law_mixed" 493 214 2 197 (.ref 199) (.ref 200) 201 500),
 (210,fo tU),(209,co "_law_far" 503 220 1 204 (.ref 206) (.ref 207) 208 507),
 (217,fo tW),(216,co "_law_cap" 510 222 4 211 (.ref 213) (.ref 214) 215 519),
 (224,fo oO),(223,co "_law_stuff" 522 230 4 218 (.ref 220) (.ref 221) 222 534),
 (231,fo ql),(230,co "_law_dues" 537 240 3 225 (.ref 227) (.ref 228) 229 547),
 (238,fo oP),(237,co "_law_order" 550 248 6 232 (.ref 234) (.ref 235) 236 570),
 (245,fo oQ),(244,co "_law_world" 573 264 1 239 (.ref 241) (.ref 242) 243 587),
 (252,fo qm),(251,co "_law_hour" 590 283 4 246 (.ref 248) (.ref 249) 250 600),
 (257,fo oR),(256,co "_law_spots" 603 291 1 253 (.none) (.none) 255 606),
 (264,fo mU),(263,co "_law_weight" 609 293 3 258 (.ref 260) (.ref 261) 262 617),
 (271,fo tX),(270,co "_law_due" 620 299 2 265 (.ref 267) (.ref 268) 269 627),
 (278,fo qo),(277,co "_law_most" 630 306 2 272 (.ref 274) (.ref 275) 276 635),
 (285,fo qp),(284,co "_law_caps" 638 314 5 279 (.ref 281) (.ref 282) 283 654),
 (292,fo qq),(291,co "_law_near" 657 327 4 286 (.ref 288) (.ref 289) 290 671),
 (297,fo tY),(296,co "_law_own" 674 339 5 293 (.none) (.none) 295 677),
 (304,fo mV),(303,co "_law_faults" 680 358 2 298 (.ref 300) (.ref 301) 302 689),
 (311,fo qr),(310,co "_law_with" 692 365 4 305 (.ref 307) (.ref 308) 309 699),
 (318,fo qt),(317,co "_law_book" 702 367 3 312 (.ref 314) (.ref 315) 316 719),
 (325,fo qu),(324,co "_law_many" 722 387 1 319 (.ref 321) (.ref 322) 323 726),
 (330,fo jY),(329,co "_law_dues_that" 729 391 4 326 (.none) (.none) 328 732),
 (337,fo qv),(336,co "_law_dose" 735 408 5 331 (.ref 333) (.ref 334) 335 747),
 (344,fo lE),(343,co "_law_planned" 750 421 5 338 (.ref 340) (.ref 341) 342 762),
 (351,fo oS),(350,co "_law_round" 765 431 3 345 (.ref 347) (.ref 348) 349 778),
 (356,fo iY),(355,co "_law_alike" 781 445 2 352 (.none) (.none) 354 784),
 (363,fo MJ),(362,co "law" 787 459 1 357 (.ref 359) (.ref 360) 361 796)]
noncomputable def as_:List Yd:=[3,21,20,28,27,33,32,40,39,47,46,54,53,61,60,68,67,73,72,80,79,87,86,94,93,101,100,106,105,111,110,118,117,125,124,132,131,139,138,144,143,149,148,156,155,163,162,168,167,175,174,182,181,189,188,196,195,203,202,210,209,217,216,224,223,231,230,238,237,245,244,252,251,257,256,264,263,271,270,278,277,285,284,292,291,297,296,304,303,311,310,318,317,325,324,330,329,337,336,344,343,351,350,356,355,363,362]
def hook:Hook:=kHook K as_ (λ_=>rfl)
def xt(s:Yg):Bool:=xlAt view [] s&&recOk (RowW.records (OpenRow.toRowW (OpenLaw.row PySem.Challenge.rw_dosehouse_k62_a_round))) s
def left:LeftO p0 view [] xt hook.obs hook.val 3778:=λw=>by kernel_rfl
end
end Hd
section
open PySem PySem.Spec PySem.W PyProof.Rows L2
def Hd.close(hc:∀d:DefRec,d.params.defaults=[]->d.name="law"->WalkO Hd.view [] (XL Hd.view []) (Hook.says Hd.hook) PySem.Challenge.rw_dosehouse_k62_a_round.row.toRowW d [] (λf vs=>PySem.call f vs)):PySem.Challenge.rw_dosehouse_k62_a_round.Holds:=by
 refine holds_law (by kernel_rfl) λV5=> ?_;refine holds_open (q:=Hd.view) (loose:=[]) (Xt:=Hd.xt) (XP:=XL Hd.view []) (Yf:=Hook.obs Hd.hook) (Ya:=Hook.val Hd.hook) (YP:=Hook.says Hd.hook) (N:=3778) Hd.left (Hook.of Hd.hook) (Hook.keeps Hd.hook) (λs e=>xl_of s (Bool.and_eq_true_iff.mp e).1) XL.keeps (by rfl) (by rfl) (by rfl) (λs e=>recFacts_of (Bool.and_eq_true_iff.mp e).2) (by rfl) V5 (by decide+kernel) ⟨rfl,rfl,rfl,rfl,rfl,by decide+kernel⟩ ?hw ?hc
 case hw=>w_witness2
 case hc=>exact hc _ rfl rfl
end
namespace DL
open PySem
abbrev Key:=Sum Int Str
set_option genInjectivity true in
inductive D where
 |non
 |bl (b:Bool)
 |int (i:Int)
 |str (x:Str)
 |tup (ds:List D)
 |lst (ds:List D)
 |dT (eD:List (List Key×D))
 |scr (ns:List Int)
 |fl (ds:List D)
 deriving Inhabited
mutual
@[simp] def D.imm:D->Bool
 | .non=>O
 | .bl _=>O
 | .int _=>O
 | .str _=>O
 | .tup ds=>aB ds
 | .lst _=>M
 | .dT _=>M
 | .scr _=>O
 | .fl ds=>aB ds
@[simp] def aB:List D->Bool
 |[]=>O
 |d::ds=>d.imm&&aB ds
end
def D.qx:D->Bool
 | .lst ds=>aB ds
 | .dT eD=>aB (eD.map (·.2))
 |d=>d.imm
noncomputable def D.top:D->Bool
 | .lst _=>O
 | .dT _=>O
 |_=>M
noncomputable def af:Nat:=16777216
set_option genInjectivity true in
inductive Slot where
 |sh (d:D)
 |own (d:D)
 |lok (d:D)
 |bor (d:D)
abbrev Env:=List (Option Slot)
set_option genInjectivity true in
inductive Cls where
 |c|tn|to|tb
 deriving DecidableEq
set_option genInjectivity true in
structure RV where
 k:Cls
 d:D
abbrev SpF:=List D->Option D
abbrev SpV:=List D->Option RV
abbrev DE:=Env->Option RV
abbrev DT:=Env->Option Bool
abbrev DA:=Env->Option (List RV)
abbrev DG:=D->Env->Option Env
set_option genInjectivity true in
inductive Out where
 |nx (e:Env)
 |ret (d:D)
 |bk (e:Env)
 |ct (e:Env)
abbrev DS:=Env->Option Out
def ju(d:D):RV:=⟨if d.top then .tn else .c,d⟩
noncomputable def RV.free(r:RV):Bool:=match r.k with
 | .c=>O
 | .tn=>O
 |_=>M
@[simp] noncomputable def vE(i:Nat):DE:=λenv=>match env[i]? with
 |some (U (.sh d))=>U ⟨.c,d⟩
 |some (U (.own d))=>U ⟨.to,d⟩
 |some (U (.lok d))=>U ⟨.tb,d⟩
 |some (U (.bor d))=>U ⟨.tb,d⟩
 |_=>J
@[simp] noncomputable def kE(d:D):DE:=λ_=>U ⟨.c,d⟩
@[simp] noncomputable def Yc(o:D->D->Option RV)(f g:DE):DE:=λenv=>(f env).bind λx=>(g env).bind λy=>o x.d y.d
@[simp] noncomputable def unE(o:D->Option RV)(f:DE):DE:=λenv=>(f env).bind λx=>o x.d
def aI:D->D->Option RV
 | .int i,.int j=>U ⟨.c,.int (i+j)⟩
 | .str x,.str y=>if x.length+y.length<=af then U ⟨.c,.str (x++y)⟩ else J
 | .tup x,.tup y=>if x.length+y.length<=af/\0<x.length then U ⟨.c,.tup (x++y)⟩ else J
 | .lst x,.lst y=>if x.length+y.length<=af then U ⟨.tn,.lst (x++y)⟩ else J
 |_,_=>J
noncomputable def iW:D->D->Option RV
 | .int i,.int j=>U ⟨.c,.int (i -j)⟩
 |_,_=>J
noncomputable def aT(i j:Int):Bool:=decide (i.natAbs<18446744073709551616)||decide (j.natAbs<18446744073709551616)
def b6:D->D->Option RV
 | .int i,.int j=>if aT i j then U ⟨.c,.int (i*j)⟩ else J
 |_,_=>J
noncomputable def cV:D->D->Option RV
 | .int i,.int j=>if 0<j/\j<1073741824 then U ⟨.c,.int (i/j)⟩ else J
 |_,_=>J
noncomputable def bh:D->D->Option RV
 | .int i,.int j=>if 0<j then U ⟨.c,.int (i%j)⟩ else J
 |_,_=>J
noncomputable def wL:D->D->Option RV
 | .int i,.int j=>if 0<=j/\j<=1000/\i.natAbs<1000000 then U ⟨.c,.int (i^j.toNat)⟩ else J
 |_,_=>J
noncomputable def EK:D->Option RV
 | .int i=>U ⟨.c,.int (-i)⟩
 |_=>J
@[simp] noncomputable def aM:Nat->D->Bool
 |_,.non=>O
 |_,.bl _=>O
 |_,.int _=>O
 |_,.str _=>O
 |n+1,.tup ds=>ds.all (aM n)
 |n+1,.lst ds=>ds.all (aM n)
 |_,_=>M
@[simp] def D.plain(d:D):Bool:=aM 20 d
mutual
def eqD:D->D->Bool
 | .non,.non=>O
 | .bl a,.bl b=>a==b
 | .bl a,.int b=>(if a then 1 else 0)==b
 | .int a,.bl b=>a==(if b then 1 else 0)
 | .int a,.int b=>a==b
 | .str a,.str b=>a==b
 | .tup a,.tup b=>jv a b
 | .lst a,.lst b=>jv a b
 |_,_=>M
@[simp] def jv:List D->List D->Bool
 |[],[]=>O
 |a::as,b::bs=>eqD a b&&jv as bs
 |_,_=>M
end
@[simp] theorem T8:eqD .non .non=O:=rfl
@[simp] theorem U9:eqD (.bl a) (.bl b)=(a==b):=rfl
@[simp] theorem Ua:eqD (.bl a) (.int b)=((if a then 1 else 0)==b):=rfl
@[simp] theorem Ub:eqD (.int a) (.bl b)=(a==(if b then 1 else 0)):=rfl
@[simp] theorem Uc:eqD (.int a) (.int b)=(a==b):=rfl
@[simp] theorem Ud:eqD (.str a) (.str b)=(a==b):=rfl
@[simp] theorem Ue:eqD (.tup a) (.tup b)=jv a b:=rfl
@[simp] theorem Ug:eqD (.lst a) (.lst b)=jv a b:=rfl
@[simp] theorem MK:eqD .non (.int b)=M:=rfl
@[simp] theorem ML:eqD (.int a) .non=M:=rfl
@[simp] theorem MM:eqD (.int a) (.str b)=M:=rfl
@[simp] theorem MN:eqD (.str a) (.int b)=M:=rfl
@[simp] theorem MO:eqD .non (.str b)=M:=rfl
@[simp] theorem MP:eqD (.str a) .non=M:=rfl
@[simp] theorem MQ:eqD (.int a) (.tup b)=M:=rfl
@[simp] theorem MR:eqD (.tup a) (.int b)=M:=rfl
@[simp] theorem MT:eqD (.str a) (.tup b)=M:=rfl
@[simp] theorem MU:eqD (.tup a) (.str b)=M:=rfl
@[simp] theorem MV:eqD .non (.tup b)=M:=rfl
@[simp] theorem MW:eqD (.tup a) .non=M:=rfl
@[simp] theorem NV:eqD .non (.bl b)=M:=rfl
@[simp] theorem NW:eqD (.bl a) .non=M:=rfl
def eqB(x y:D):Option Bool:=if x.plain&&y.plain then U (eqD x y) else J
def neB(x y:D):Option Bool:=if x.plain&&y.plain then U (!eqD x y) else J
noncomputable def dq:D->Bool
 | .non=>O
 |_=>M
def k8(x y:D):Option Bool:=if dq y then U (dq x) else J
def iZ(x y:D):Option Bool:=if dq y then U (!dq x) else J
noncomputable def ltB:D->D->Option Bool
 | .int i,.int j=>U (decide (i<j))
 |_,_=>J
noncomputable def leB:D->D->Option Bool
 | .int i,.int j=>U (decide (i<=j))
 |_,_=>J
noncomputable def gtB:D->D->Option Bool
 | .int i,.int j=>U (decide (j<i))
 |_,_=>J
noncomputable def geB:D->D->Option Bool
 | .int i,.int j=>U (decide (j<=i))
 |_,_=>J
@[simp] noncomputable def aC(o:D->D->Option Bool)(f g:DE):DT:=λenv=>(f env).bind λx=>(g env).bind λy=>o x.d y.d
@[simp] noncomputable def bE(t:DT):DE:=λenv=>(t env).map λb=> ⟨.c,.bl b⟩
@[simp] noncomputable def l9(f:DE):DT:=λenv=>(f env).bind λx=>match x.d with
 | .bl b=>U b
 |_=>J
@[simp] noncomputable def fK(t u:DT):DT:=λenv=>(t env).bind λb=>if b then u env else U M
@[simp] noncomputable def orT(t u:DT):DT:=λenv=>(t env).bind λb=>if b then U O else u env
@[simp] noncomputable def v8(t:DT):DT:=λenv=>(t env).map (!·)
@[simp] noncomputable def jf(o p:D->D->Option Bool)(f g h:DE):DT:=λenv=>(f env).bind λx=>(g env).bind λy=>(o x.d y.d).bind λb=>if b then(h env).bind λz=>p y.d z.d else U M
@[simp] noncomputable def ifE(t:DT)(f g:DE):DE:=λenv=>(t env).bind λb=>if b then f env else g env
noncomputable def atD{α:Type}(xs:List α)(i:Int):Option α:=if 0<=i then xs[i.toNat]? else if -(xs.length:Int)<=i then xs[(i+xs.length).toNat]? else J
noncomputable def keyOf:D->Option Key
 | .int i=>U (.inl i)
 | .str x=>U (.inr x)
 |_=>J
@[simp] def keysOf:List D->Option (List Key)
 |[]=>U []
 |d::ds=>(keyOf d).bind λk=>(keysOf ds).map (k:: ·)
section
variable{Y:Type} [DecidableEq Y]
noncomputable def look(eD:List (Y×D))(k:Y):Option D:=(eD.find? λkv=>decide (kv.1=k)).map (·.2)
noncomputable def put(eD:List (Y×D))(k:Y)(v:D):List (Y×D):=
 if(eD.any λkv=>decide (kv.1=k))=O then eD.map (λkv=>if kv.1=k then(kv.1,v) else kv) else eD++[(k,v)]
end
def ixD:D->D->Option D
 | .lst xs,.int i=>atD xs i
 | .tup xs,.int i=>atD xs i
 | .str x,.int i=>if x.length<=af then(atD x.cps.toList i).map λc=> .str ⟨#[c]⟩ else J
 | .scr ns,.int i=>(atD ns i).map .int
 | .fl xs,.int i=>atD xs i
 |_,_=>J
@[simp] def Yb(f g:DE):DE:=λenv=>(f env).bind λx=>(g env).bind λy=>(ixD x.d y.d).map λd=> ⟨.c,d⟩
@[simp] noncomputable def ag:DA:=λ_=>U []
@[simp] noncomputable def aa(f:DE)(r:DA):DA:=λenv=>(f env).bind λx=>(r env).bind λxs=>U (x::xs)
@[simp] def aU(a:DA):DE:=λenv=>(a env).bind λrs=>if rs.all (·.free)&&decide (rs.length<=af) then U ⟨.c,.tup (rs.map (·.d))⟩ else J
@[simp] def dh(a:DA):DE:=λenv=>(a env).bind λrs=>if rs.all (·.free)&&decide (rs.length<=af) then U ⟨.tn,.lst (rs.map (·.d))⟩ else J
@[simp] def aq(sp:SpF)(a:DA):DE:=λenv=>(a env).bind λrs=>(sp (rs.map (·.d))).map ju
@[simp] noncomputable def bF(o:SpV)(a:DA):DE:=λenv=>(a env).bind λrs=>o (rs.map (·.d))
def cA:SpV
 |[.lst xs]=>U ⟨.c,.int xs.length⟩
 |[.tup xs]=>U ⟨.c,.int xs.length⟩
 |[.str x]=>if x.length<=af then U ⟨.c,.int x.length⟩ else J
 |[.scr ns]=>U ⟨.c,.int ns.length⟩
 |[.fl xs]=>U ⟨.c,.int xs.length⟩
 |_=>J
noncomputable def tZ:SpV
 |[.int i,.int j]=>U ⟨.c,.int (if j<i then j else i)⟩
 |_=>J
noncomputable def dw:SpV
 |[.lst xs]=>U ⟨.c,.tup xs⟩
 |[.tup xs]=>U ⟨.c,.tup xs⟩
 |_=>J
@[simp] noncomputable def qy:List D->Option (List Bool)
 |[]=>U []
 | .bl b::ds=>(qy ds).map (b:: ·)
 |_=>J
@[simp] noncomputable def CJ:List D->Option (List Int)
 |[]=>U []
 | .int i::ds=>(CJ ds).map (i:: ·)
 |_=>J
def jw:D->Option (List D)
 | .lst xs=>U xs
 | .tup xs=>U xs
 | .scr ns=>U (ns.map .int)
 |_=>J
def one(o:SpV):SpV
 |[d]=>(jw d).bind o
 |_=>J
def anyS:SpV:=one λds=>(qy ds).map λbs=> ⟨.c,.bl (bs.any id)⟩
def Bt:SpV:=one λds=>(qy ds).map λbs=> ⟨.c,.bl (bs.all id)⟩
def o5(i:Int)(ns:List Int):Int:=ns.foldl (λa b=>if b>a then b else a) i
noncomputable def sQ(T:String):D->Bool
 | .non=>T=="NoneType"
 | .bl _=>T=="bool"||T=="int"
 | .int _=>T=="int"
 | .str _=>T=="str"
 | .tup _=>T=="tuple"
 | .lst _=>T=="list"
 | .dT _=>T=="dict"
 | .scr _=>T=="list"
 | .fl _=>T=="list"
noncomputable def mW:D->Bool
 | .scr _=>O
 |_=>M
@[simp] def pH(T:String)(f:DE):DT:=λenv=>(f env).bind λx=>if mW x.d then J else U (sQ T x.d)
noncomputable def sIx(n d:Nat):Option Int->Nat
 |none=>d
 |some v=>if v<0 then(v+(n:Int)).toNat else min v.toNat n
def cutD{α:Type}(xs:List α)(lo hi:Option Int):List α:=(xs.drop (sIx xs.length 0 lo)).take (sIx xs.length xs.length hi -sIx xs.length 0 lo)
abbrev DO:=Env->Option (Option Int)
@[simp] noncomputable def noO:DO:=λ_=>U J
@[simp] noncomputable def CK(f:DE):DO:=λenv=>(f env).bind λx=>match x.d with
 | .int i=>U (U i)
 |_=>J
def slD(lo hi:Option Int):D->Option RV
 | .lst xs=>U ⟨.tn,.lst (cutD xs lo hi)⟩
 | .tup xs=>if sIx xs.length 0 lo=0/\sIx xs.length xs.length hi=xs.length then J else U ⟨.c,.tup (cutD xs lo hi)⟩
 | .scr ns=>U ⟨.tn,.lst (cutD (ns.map .int) lo hi)⟩
 |_=>J
@[simp] def slE(f:DE)(lo hi:DO):DE:=λenv=>(f env).bind λx=>(lo env).bind λl=>(hi env).bind λh=>slD l h x.d
@[simp] noncomputable def gN(i:Nat):DG:=λd env=>U (env.set i (U (.sh d)))
@[simp] noncomputable def gNs:List Nat->List D->Env->Option Env
 |[],[],env=>U env
 |i::is,d::ds,env=>gNs is ds (env.set i (U (.sh d)))
 |_,_,_=>J
@[simp] def gT(is:List Nat):DG:=λd env=>match d with
 | .tup ds=>gNs is ds env
 |_=>J
@[simp] noncomputable def aE:DS:=λenv=>U (.nx env)
@[simp] noncomputable def Hj:DS:=λ_=>J
@[simp] noncomputable def bkS:DS:=λenv=>U (.bk env)
@[simp] noncomputable def aj(f g:DS):DS:=λenv=>(f env).bind λo=>match o with
 | .nx e=>g e
 |o=>U o
noncomputable def stored(i:Nat)(r:RV)(env:Env):Option Env:=match r.k with
 | .c=>U (env.set i (U (.sh r.d)))
 | .tn=>U (env.set i (U (.own r.d)))
 |_=>J
@[simp] def av(i:Nat)(f:DE):DS:=λenv=>(f env).bind λr=>(stored i r env).map .nx
def CL(r:RV):Bool:=match r.k with
 | .c=>r.d.imm
 | .tn=>r.d.qx
 | .to=>r.d.qx
 | .tb=>M
@[simp] def XR(f:DE):DS:=λenv=>(f env).bind λr=>if CL r then U (.ret r.d) else J
@[simp] noncomputable def ifS(t:DT)(f g:DS):DS:=λenv=>(t env).bind λb=>if b then f env else g env
@[simp] noncomputable def XS(g:DG)(body:DS):List D->Env->Option Out
 |[],env=>U (.nx env)
 |d::ds,env=>(g d env).bind λe=>(body e).bind λo=>match o with
  | .nx e=>XS g body ds e
  | .ct e=>XS g body ds e
  | .bk e=>U (.nx e)
  | .ret d=>U (.ret d)
abbrev DI:=Env->Option (List D)
@[simp] noncomputable def bD(l:Option Nat)(env:Env):Env:=match l with
 |none=>env
 |some i=>match env[i]? with
  |some (U (.own d))=>env.set i (U (.lok d))
  |_=>env
@[simp] noncomputable def u0(l:Option Nat)(env:Env):Bool:=match l with
 |none=>M
 |some i=>match env[i]? with
  |some (U (.own _))=>O
  |_=>M
@[simp] noncomputable def jg(l:Option Nat)(env:Env):Env:=match l with
 |none=>env
 |some i=>match env[i]? with
  |some (U (.lok d))=>env.set i (U (.own d))
  |_=>env
def freed(l:Option Nat)(b:Bool):Out->Out
 | .nx e=> .nx (if b then jg l e else e)
 |o=>o
@[simp] def d9(l:Option Nat)(src:DI)(g:DG)(body:DS):DS:=λenv=>(src (bD l env)).bind λds=>(XS g body ds (bD l env)).map (freed l (u0 l env))
noncomputable def ie(t:DT)(body:DS):Nat->Env->Option Out
 |0,_=>J
 |n+1,env=>(t env).bind λb=>if b then(body env).bind λo=>match o with
   | .nx e=>ie t body n e
   | .ct e=>ie t body n e
   | .bk e=>U (.nx e)
   | .ret d=>U (.ret d)
  else U (.nx env)
def qz(t:DT)(body:DS):DS:=ie t body 100000
@[simp] def dz(f:DE):DI:=λenv=>(f env).bind λr=>if r.k= .to then J else match r.d with
 | .lst xs=>U xs
 | .tup xs=>U xs
 | .scr ns=>U (ns.map .int)
 |_=>J
noncomputable def aG(lo:Int)(n:Nat):List D:=(List.range n).map λ(k:Nat)=> .int (lo+(k:Int))
noncomputable def aW(i:Int):Bool:=decide (-4611686018427387904<=i)&&decide (i<4611686018427387904)
@[simp] def cK(f:DE):DI:=λenv=>(f env).bind λr=>match r.d with
 | .int j=>if aW j then U (aG 0 j.toNat) else J
 |_=>J
@[simp] def va(f g:DE):DI:=λenv=>(f env).bind λx=>(g env).bind λy=>match x.d,y.d with
 | .int i,.int j=>if aW i&&aW j then U (aG i (j -i).toNat) else J
 |_,_=>J
@[simp] noncomputable def ownAt(i:Nat)(env:Env):Option D:=match env[i]? with
 |some (U (.own d))=>U d
 |_=>J
@[simp] def dY(i:Nat)(f:DE):DS:=λenv=>(f env).bind λr=>(ownAt i env).bind λd=>match d with
 | .lst xs=>if r.free&&decide (xs.length<af) then U (.nx (env.set i (U (.own (.lst (xs++[r.d])))))) else J
 |_=>J
@[simp] def NX(i:Nat)(f:DE):DS:=λenv=>(f env).bind λr=>(ownAt i env).bind λd=>match d,r.d with
 | .lst xs,.lst ys=>if(r.k== .tn)&&decide (xs.length+ys.length<=af) then U (.nx (env.set i (U (.own (.lst (xs++ys)))))) else J
 |_,_=>J
def putD(d k v:D):Option D:=match d with
 | .dT eD=>match k with
  | .tup ks=>if eD.length<af then(keysOf ks).map λk=> .dT (put eD k v) else J
  |_=>J
 |_=>J
@[simp] noncomputable def vb:DE:=λ_=>U ⟨.tn,.dT []⟩
@[simp] def EM(i:Nat)(k v:DE):DS:=λenv=>(v env).bind λx=>(k env).bind λy=>(ownAt i env).bind λd=>if x.free then(putD d y.d x.d).map λd=> .nx (env.set i (U (.own d))) else J
noncomputable def df:Option Slot->Option Slot
 |some (.sh d)=>U (.sh d)
 |some (.own d)=>U (.bor d)
 |some (.lok d)=>U (.bor d)
 |some (.bor d)=>U (.bor d)
 |none=>J
def XT(n:Nat)(az:List Nat)(env:Env):Env:=List.replicate n J++az.map λi=>df (env[i]?.getD J)
@[simp] def cO(g:DG)(t:DT)(f:DE):List D->Env->Option (List D)
 |[],_=>U []
 |d::ds,env=>(g d env).bind λe=>(t e).bind λb=>if b then(f e).bind λr=>if r.free then(cO g t f ds e).map (r.d:: ·) else J else cO g t f ds e
@[simp] def g8(l:Option Nat)(n:Nat)(az:List Nat)(src:DI)(g:DG)(t:DT)(f:DE):DE:=λenv=>(src (bD l env)).bind λds=>if ds.length<=af then(cO g t f ds (XT n az env)).map λrs=> ⟨.tn,.lst rs⟩ else J
@[simp] noncomputable def fM:DT:=λ_=>U O
@[simp] noncomputable def fu(n:Nat)(ds:List D):Env:=ds.map (λd=>U (.sh d))++List.replicate (n -ds.length) J
@[simp] def bw(n np:Nat)(body:DS):SpF:=λds=>if ds.length=np then(body (fu n ds)).bind λo=>match o with
  | .ret d=>U d
  | .nx _=>U .non
  |_=>J
 else J
@[simp] theorem Kw:Str.ofString a=Str.ofString b↔a=b:=by
 constructor
 .intro h;rw[Str.ofString_eq_toList,Str.ofString_eq_toList] at h;have h1:a.toList.map Char.toNat=b.toList.map Char.toNat:=by
   injection h with h
   exact Array.toList_inj.mpr h|>λz=>by simpa using z
  have h2:a.toList=b.toList:=by
   have inj:∀(x y:List Char),x.map Char.toNat=y.map Char.toNat->x=y:=by
    intro x;induction x with
    |nil=>intro y e;cases y with
     |nil=>rfl
     |cons=>simp at e
    |cons c x ih=>intro y e;cases y with
     |nil=>simp at e
     |cons c' y=>
      simp only[Gax,Gdc] at e;rw[ih y e.2,Char.toNat_inj.mp e.1]
   exact inj _ _ h1
  exact String.toList_inj.mp h2
 .rintro rfl;rfl
@[simp] theorem Rq:aI (.int i) (.int j)=U ⟨.c,.int (i+j)⟩:=rfl
@[simp] theorem Rr{x y:Str}:aI (.str x) (.str y)=if x.length+y.length<=af then U ⟨.c,.str (x++y)⟩ else J:=rfl
@[simp] theorem Rt{ds es:List D}:aI (.tup ds) (.tup es)=if ds.length+es.length<=af/\0<ds.length then U ⟨.c,.tup (ds++es)⟩ else J:=rfl
@[simp] theorem Ru{ds es:List D}:aI (.lst ds) (.lst es)=if ds.length+es.length<=af then U ⟨.tn,.lst (ds++es)⟩ else J:=rfl
@[simp] theorem Rw:iW (.int i) (.int j)=U ⟨.c,.int (i -j)⟩:=rfl
@[simp] theorem Rx:b6 (.int i) (.int j)=if aT i j then U ⟨.c,.int (i*j)⟩ else J:=rfl
@[simp] theorem Qr:cV (.int i) (.int j)=if 0<j/\j<1073741824 then U ⟨.c,.int (i/j)⟩ else J:=rfl
@[simp] theorem Rz:bh (.int i) (.int j)=if 0<j then U ⟨.c,.int (i%j)⟩ else J:=rfl
@[simp] theorem RA{i j:Int}:wL (.int i) (.int j)=if 0<=j/\j<=1000/\i.natAbs<1000000 then U ⟨.c,.int (i^j.toNat)⟩ else J:=rfl
@[simp] theorem RB:EK (.int i)=U ⟨.c,.int (-i)⟩:=rfl
@[simp] theorem T9:ltB (.int i) (.int j)=U (decide (i<j)):=rfl
@[simp] theorem Ta:leB (.int i) (.int j)=U (decide (i<=j)):=rfl
@[simp] theorem Tc:gtB (.int i) (.int j)=U (decide (j<i)):=rfl
@[simp] theorem Td:geB (.int i) (.int j)=U (decide (j<=i)):=rfl
@[simp] theorem Te:eqB (.int i) (.int j)=U (i==j):=rfl
@[simp] theorem Tf:eqB (.str x) (.str y)=U (x==y):=rfl
@[simp] theorem Uh:eqB .non (.int j)=U M:=rfl
@[simp] theorem Ui:eqB (.int j) .non=U M:=rfl
@[simp] theorem Uj:eqB .non .non=U O:=rfl
@[simp] theorem Th:neB (.int i) (.int j)=U (!(i==j)):=rfl
@[simp] theorem Ti:neB (.str x) (.str y)=U (!(x==y)):=rfl
@[simp] theorem Uk:neB .non (.int j)=U O:=rfl
@[simp] theorem Ul:neB (.int j) .non=U O:=rfl
@[simp] theorem Um:neB .non .non=U M:=rfl
@[simp] theorem Qs:dq .non=O:=rfl
@[simp] theorem Qt:dq (.int i)=M:=rfl
@[simp] theorem Qu:dq (.str x)=M:=rfl
@[simp] theorem RC:dq (.bl b)=M:=rfl
@[simp] theorem Qv:dq (.tup ds)=M:=rfl
@[simp] theorem Qw:dq (.lst ds)=M:=rfl
@[simp] theorem RE:dq (.fl ds)=M:=rfl
@[simp] theorem RF:k8 d .non=U (dq d):=rfl
@[simp] theorem Qx:iZ d .non=U (!dq d):=rfl
@[simp] theorem mX{ds:List D}:cA [.lst ds]=U ⟨.c,.int ds.length⟩:=rfl
@[simp] theorem CM{ds:List D}:cA [.fl ds]=U ⟨.c,.int ds.length⟩:=rfl
@[simp] theorem wM{ds:List D}:cA [.tup ds]=U ⟨.c,.int ds.length⟩:=rfl
@[simp] theorem RG{x:Str}:cA [.str x]=if x.length<=af then U ⟨.c,.int x.length⟩ else J:=rfl
@[simp] theorem RH{ns:List Int}:cA [.scr ns]=U ⟨.c,.int ns.length⟩:=rfl
@[simp] theorem Qy:tZ [.int i,.int j]=U ⟨.c,.int (if j<i then j else i)⟩:=rfl
@[simp] theorem NY:dw [.lst ds]=U ⟨.c,.tup ds⟩:=rfl
@[simp] theorem NZ:dw [.tup ds]=U ⟨.c,.tup ds⟩:=rfl
@[simp] theorem RI:sQ T .non=(T=="NoneType"):=rfl
@[simp] theorem Tj:sQ T (.bl b)=(T=="bool"||T=="int"):=rfl
@[simp] theorem RJ:sQ T (.int i)=(T=="int"):=rfl
@[simp] theorem RK:sQ T (.str x)=(T=="str"):=rfl
@[simp] theorem RL:sQ T (.tup ds)=(T=="tuple"):=rfl
@[simp] theorem RM:sQ T (.lst ds)=(T=="list"):=rfl
@[simp] theorem Tn:sQ T (.fl ds)=(T=="list"):=rfl
@[simp] theorem Qz:mW .non=M:=rfl
@[simp] theorem RN:mW (.bl b)=M:=rfl
@[simp] theorem QA:mW (.int i)=M:=rfl
@[simp] theorem QB:mW (.str x)=M:=rfl
@[simp] theorem QC:mW (.tup ds)=M:=rfl
@[simp] theorem QD:mW (.lst ds)=M:=rfl
@[simp] theorem RO:mW (.fl ds)=M:=rfl
@[simp] theorem To:slD lo hi (.lst ds)=U ⟨.tn,.lst (cutD ds lo hi)⟩:=rfl
@[simp] theorem vc{ds:List D}:slD lo hi (.tup ds)=if sIx ds.length 0 lo=0/\sIx ds.length ds.length hi=ds.length then J else U ⟨.c,.tup (cutD ds lo hi)⟩:=rfl
@[simp] theorem Tp{ns:List Int}:slD lo hi (.scr ns)=U ⟨.tn,.lst (cutD (ns.map .int) lo hi)⟩:=rfl
@[simp] theorem RP{env:Env}:stored n ⟨.c,d⟩ env=U (env.set n (U (.sh d))):=rfl
@[simp] theorem QE{env:Env}:stored n ⟨.tn,d⟩ env=U (env.set n (U (.own d))):=rfl
@[simp] theorem Tq{d:D}:CL ⟨.c,d⟩=d.imm:=rfl
@[simp] theorem RQ{d:D}:CL ⟨.tn,d⟩=d.qx:=rfl
@[simp] theorem RS{d:D}:CL ⟨.to,d⟩=d.qx:=rfl
@[simp] theorem QF:(D.lst ds).qx=aB ds:=rfl
@[simp] theorem RT{eD:List (List Key×D)}:(D.dT eD).qx=aB (eD.map (·.2)):=rfl
@[simp] theorem RU:ju .non=⟨.c,.non⟩:=rfl
@[simp] theorem Ts:ju (.bl b)=⟨.c,.bl b⟩:=rfl
@[simp] theorem RW:ju (.int i)=⟨.c,.int i⟩:=rfl
@[simp] theorem RX:ju (.str x)=⟨.c,.str x⟩:=rfl
@[simp] theorem RY:ju (.tup ds)=⟨.c,.tup ds⟩:=rfl
@[simp] theorem RZ:ju (.lst ds)=⟨.tn,.lst ds⟩:=rfl
@[simp] theorem Tt:ju (.dT eD)=⟨.tn,.dT eD⟩:=rfl
@[simp] theorem Uo:RV.free ⟨.c,d⟩=O:=rfl
@[simp] theorem Tu:RV.free ⟨.tn,d⟩=O:=rfl
@[simp] theorem S0:freed l b (.nx env)= .nx (if b then jg l env else env):=rfl
@[simp] theorem QG:freed l b (.ret d)= .ret d:=rfl
@[simp] theorem QH:keyOf (.int i)=U (.inl i):=rfl
@[simp] theorem QI:keyOf (.str x)=U (.inr x):=rfl
@[simp] theorem Tv:ixD (.lst ds) (.int i)=atD ds i:=rfl
@[simp] theorem Uq:ixD (.fl ds) (.int i)=atD ds i:=rfl
@[simp] theorem Tw:ixD (.tup ds) (.int i)=atD ds i:=rfl
@[simp] theorem Tx:ixD (.scr ns) (.int i)=(atD ns i).map .int:=rfl
@[simp] theorem Tz{x:Str}:ixD (.str x) (.int i)=if x.length<=af then(atD x.cps.toList i).map λc=> .str ⟨#[c]⟩ else J:=rfl
def bO{α:Type}{xs:List α}{k:Nat}:atD xs (k:Int)=xs[k]? :=by
 unfold atD;simp
@[simp] theorem Uy{α:Type}{xs:List α}:atD xs 0=xs[0]? :=rfl
@[simp] theorem Uz{α:Type}{xs:List α}:atD xs 1=xs[1]? :=rfl
@[simp] theorem UA{α:Type}{xs:List α}:atD xs 2=xs[2]? :=rfl
@[simp] theorem UB{α:Type}{xs:List α}:atD xs 3=xs[3]? :=rfl
@[simp] theorem UC{α:Type}{xs:List α}:atD xs 4=xs[4]? :=rfl
@[simp] theorem UD{α:Type}{xs:List α}:atD xs 5=xs[5]? :=rfl
open PySem.Spec PyProof.Rows L2
abbrev ak:=PySem.W.Frag
abbrev St:=L2.St
def isT:HO->Prop
 | .tup _=>True
 | .frz _ _=>True
 |_=>False
def Kl(K:ak)(a:Yd)(xs:List V):Prop:=∃(o:Yk) (its:Array Ye) (n:Nat),K.lookup a=U o/\o.cls= .type "list"/\o.dict=J/\o.data= .seq its n/\its.size<=sizeLine/\XQ xs its.toList
def Scr(K:ak)(H:Hp)(a:Yd)(ns:List Int):Prop:=(∃o,H a=U (.frz o (.lst (ns.map V.int))))\/Kl K a (ns.map V.int)
inductive Rep (K:ak) (F:Yd->Prop) (H:Hp):D->V->Prop where
 |non:Rep K F H .non .non
 |bl (b:Bool):Rep K F H (.bl b) (.bl b)
 |int (i:Int):Rep K F H (.int i) (.int i)
 |str (x:Str):Rep K F H (.str x) (.str x)
 |tup {a:Yd} {vs:List V} {ds:List D} (h:H a=U (.tup vs)) (l:ds.length=vs.length) (r:∀(i:Nat) d v,ds[i]? =U d->vs[i]? =U v->Rep K F H d v):Rep K F H (.tup ds) (.ref a)
 |lst {a:Yd} {vs:List V} {ds:List D} (f:F a) (h:Rd H a (.lst vs)) (l:ds.length=vs.length) (r:∀(i:Nat) d v,ds[i]? =U d->vs[i]? =U v->Rep K F H d v):Rep K F H (.lst ds) (.ref a)
 |scr {a:Yd} {ns:List Int} (h:Scr K H a ns):Rep K F H (.scr ns) (.ref a)
 |fl {a:Yd} {o:Yk} {vs:List V} {ds:List D} (h:H a=U (.frz o (.lst vs))) (l:ds.length=vs.length) (r:∀(i:Nat) d v,ds[i]? =U d->vs[i]? =U v->Rep K F H d v):Rep K F H (.fl ds) (.ref a)
 |dT {a:Yd} {ws:List (List Key×V)} {eD:List (List Key×D)} (f:F a) (h:H a=U (.dT ws)) (l:eD.map (·.1)=ws.map (·.1)) (r:∀(i:Nat) p q,eD[i]? =U p->ws[i]? =U q->Rep K F H p.2 q.2):Rep K F H (.dT eD) (.ref a)
def aO(K:ak)(F:Yd->Prop)(H:Hp)(ds:List D)(vs:List V):Prop:=ds.length=vs.length/\∀(i:Nat) d v,ds[i]? =U d->vs[i]? =U v->Rep K F H d v
def aZ{Y:Type}(K:ak)(F:Yd->Prop)(H:Hp)(eD:List (Y×D))(ws:List (Y×V)):Prop:=eD.map (·.1)=ws.map (·.1)/\∀(i:Nat) p q,eD[i]? =U p->ws[i]? =U q->Rep K F H p.2 q.2
inductive Inn (K:ak) (F:Yd->Prop) (H:Hp):D->V->Prop where
 |non:Inn K F H .non .non
 |bl (b:Bool):Inn K F H (.bl b) (.bl b)
 |int (i:Int):Inn K F H (.int i) (.int i)
 |str (x:Str):Inn K F H (.str x) (.str x)
 |tup {a:Yd} {vs:List V} {ds:List D} (h:H a=U (.tup vs)) (r:aO K F H ds vs):Inn K F H (.tup ds) (.ref a)
 |lst {a:Yd} {vs:List V} {ds:List D} (h:Rd H a (.lst vs)) (r:aO K F H ds vs):Inn K F H (.lst ds) (.ref a)
 |scr {a:Yd} {ns:List Int} (h:Scr K H a ns):Inn K F H (.scr ns) (.ref a)
 |fl {a:Yd} {o:Yk} {vs:List V} {ds:List D} (h:H a=U (.frz o (.lst vs))) (r:aO K F H ds vs):Inn K F H (.fl ds) (.ref a)
 |dT {a:Yd} {ws:List (List Key×V)} {eD:List (List Key×D)} (h:H a=U (.dT ws)) (r:aZ K F H eD ws):Inn K F H (.dT eD) (.ref a)
section
variable{F:Yd->Prop}{H H' :Hp}
def Rep.inn{K:ak}(h:Rep K F H d v):Inn K F H d v:=by
 cases h with
 |non=>exact .non
 |bl b=>exact .bl b
 |int i=>exact .int i
 |str x=>exact .str x
 |tup h l r=>exact .tup h ⟨l,r⟩
 |lst f h l r=>exact .lst h ⟨l,r⟩
 |scr h=>exact .scr h
 |fl h l r=>exact .fl h ⟨l,r⟩
 |dT f h l r=>exact .dT h ⟨l,r⟩
def Inn.rep{K:ak}{d:D}(h:Inn K F H d v)(hf:∀a,v= .ref a->d.top=O->F a):Rep K F H d v:=by
 cases h with
 |non=>exact .non
 |bl b=>exact .bl b
 |int i=>exact .int i
 |str x=>exact .str x
 |tup h r=>exact .tup h r.1 r.2
 |lst h r=>exact .lst (hf _ rfl rfl) h r.1 r.2
 |scr h=>exact .scr h
 |fl h r=>exact .fl h r.1 r.2
 |dT h r=>exact .dT (hf _ rfl rfl) h r.1 r.2
def ij(F:Yd->Prop)(H H' :Hp):Prop:=∀b o,H b=U o->(F b\/isT o)->H' b=U o
def ij.XY(h:cb H H'):ij F H H' :=λb o e _=>h b o e
theorem ij.tup{vs:List V}{a:Yd}(s:ij F H H')(h:H a=U (.tup vs)):H' a=U (.tup vs):=s _ _ h (.inr trivial)
def ij.scr{K:ak}{a:Yd}{ns:List Int}(s:ij F H H')(h:Scr K H a ns):Scr K H' a ns:=by
 rcases h with⟨o,h⟩|h
 .exact .inl ⟨o,s _ _ h (.inr trivial)⟩
 .exact .inr h
def ij.rd(s:ij F H H')(f:F a)(h:Rd H a u):Rd H' a u:=by
 rcases h with h| ⟨o,h⟩
 .exact .inl (s _ _ h (.inl f))
 .exact .inr ⟨o,s _ _ h (.inl f)⟩
def Rd.there(h:Rd H a u):H a≠J:=by
 rcases h with h| ⟨o,h⟩<;>rw[h]<;>simp
def Rep.gen{K:ak}{F' :Yd->Prop}(s:ij F H H')(hF:∀b,F b->H b≠J->F' b)(h:Rep K F H d v):Rep K F' H' d v:=by
 induction h with
 |non=>exact .non
 |bl b=>exact .bl b
 |int i=>exact .int i
 |str x=>exact .str x
 |tup h l r ih=>exact .tup (s.tup h) l ih
 |lst f h l r ih=>exact .lst (hF _ f (Rd.there h)) (s.rd f h) l ih
 |scr h=>exact .scr (s.scr h)
 |fl h l r ih=>exact .fl (s _ _ h (.inr trivial)) l ih
 |dT f h l r ih=>exact .dT (hF _ f (by rw[h];simp)) (s _ _ h (.inl f)) l ih
def Rep.same{K:ak}(s:cb H H')(h:Rep K F H d v):Rep K F H' d v:=h.gen (.XY s) λ_ f _=>f
def Rep.imp{K:ak}{F' :Yd->Prop}(hF:∀b,F b->F' b)(h:Rep K F H d v):Rep K F' H d v:=h.gen (.XY λ_ _ e=>e) λb f _=>hF b f
theorem aO.gen{K:ak}{F' :Yd->Prop}(s:ij F H H')(hF:∀b,F b->H b≠J->F' b)(h:aO K F H ds vs):aO K F' H' ds vs:=⟨h.1,λi d v e1 e2=>(h.2 i d v e1 e2).gen s hF⟩
theorem aZ.gen{K:ak}{F' :Yd->Prop}{Y:Type}{eD:List (Y×D)}{ws:List (Y×V)}(s:ij F H H')(hF:∀b,F b->H b≠J->F' b)(h:aZ K F H eD ws):aZ K F' H' eD ws:=⟨h.1,λi p q e1 e2=>(h.2 i p q e1 e2).gen s hF⟩
theorem Inn.gen{K:ak}{F' :Yd->Prop}{d:D}(s:ij F H H')(hF:∀b,F b->H b≠J->F' b)(ht:∀a,v= .ref a->d.top=O->∀o,H a=U o->H' a=U o)(h:Inn K F H d v):Inn K F' H' d v:=by
 have rd:∀{a:Yd} {u:HO},(∀o,H a=U o->H' a=U o)->Rd H a u->Rd H' a u:=λk h=>by
  rcases h with h| ⟨o,h⟩
  .exact .inl (k _ h)
  .exact .inr ⟨o,k _ h⟩
 cases h with
 |non=>exact .non
 |bl b=>exact .bl b
 |int i=>exact .int i
 |str x=>exact .str x
 |tup h r=>exact .tup (s.tup h) (r.gen s hF)
 |lst h r=>exact .lst (rd (ht _ rfl rfl) h) (r.gen s hF)
 |scr h=>exact .scr (s.scr h)
 |fl h r=>exact .fl (s _ _ h (.inr trivial)) (r.gen s hF)
 |dT h r=>exact .dT (ht _ rfl rfl _ h) (r.gen s hF)
def Inn.same{K:ak}(s:cb H H')(h:Inn K F H d v):Inn K F H' d v:=h.gen (.XY s) (λ_ f _=>f) λ_ _ _ o e=>s _ o e
def Inn.imp{K:ak}{F' :Yd->Prop}(hF:∀b,F b->F' b)(h:Inn K F H d v):Inn K F' H d v:=h.gen (.XY λ_ _ e=>e) (λb f _=>hF b f) λ_ _ _ _ e=>e
def Inn.any{K:ak}(h:Inn K F H d v):Rep K (λ_=>True) H d v:=(h.imp λ_ _=>trivial).rep λ_ _ _=>trivial
def mY(h:aB ds=O):∀(i:Nat) d,ds[i]? =U d->d.imm=O:=by
 induction ds with
 |nil=>intro i d e;simp at e
 |cons x xs ih=>
  unfold aB at h;rw[Gai] at h;intro i d e;cases i with
  |zero=>simp at e;subst e;exact h.1
  |succ i=>exact ih h.2 i d (by simpa using e)
theorem Rep.imm{K:ak}{d:D}(h:Rep K F H d v)(hd:d.imm=O):Rep K F' H d v:=by
 induction h with
 |non=>exact .non
 |bl b=>exact .bl b
 |int i=>exact .int i
 |str x=>exact .str x
 |tup h l r ih=>
  exact .tup h l λi d v e1 e2=>ih i d v e1 e2 (mY hd i d e1)
 |lst f h l r ih=>simp at hd
 |scr h=>exact .scr h
 |fl h l r ih=>
  exact .fl h l λi d v e1 e2=>ih i d v e1 e2 (mY hd i d e1)
 |dT f h l r ih=>simp at hd
theorem Inn.imm{K:ak}{d:D}(h:Inn K F H d v)(hd:d.imm=O):Rep K F' H d v:=by
 refine Rep.imm (h.rep λa _ ht=> ?_) hd;cases d<;>simp[D.top] at ht<;>simp at hd
def aO.nil{K:ak}:aO K F H [] []:=⟨rfl,λi d v e=>by simp at e⟩
def aO.cz{K:ak}(h:aO K F H [] vs):vs=[]:=List.eq_nil_of_length_eq_zero h.1.symm
def aO.cons{K:ak}{d:D}{v:V}{ds:List D}{vs:List V}(h:Rep K F H d v)(r:aO K F H ds vs):aO K F H (d::ds) (v::vs):=by
 refine⟨by simp[r.1],λi x u e1 e2=> ?_⟩;cases i with
 |zero=>simp at e1 e2;subst e1;subst e2;exact h
 |succ i=>exact r.2 i x u (by simpa using e1) (by simpa using e2)
def aO.cons_inv{K:ak}(h:aO K F H (d::ds) vs):∃v r,vs=v::r/\Rep K F H d v/\aO K F H ds r:=by
 cases vs with
 |nil=>exact absurd h.1 (by simp)
 |cons v r=>exact⟨v,r,rfl,h.2 0 d v rfl rfl,by simpa using h.1,λi x u e1 e2=>h.2 (i+1) x u (by simpa using e1) (by simpa using e2)⟩
theorem aO.append{K:ak}:∀{ds es vs us},aO K F H ds vs->aO K F H es us->aO K F H (ds++es) (vs++us)
 |[],es,vs,us,h,r=>by rw[h.cz];exact r
 |d::ds,es,vs,us,h,r=>by
  obtain⟨v,w,rfl,h1,h2⟩:=h.cons_inv;exact .cons h1 (h2.append r)
theorem aO.take{K:ak}{ds:List D}{vs:List V}(n:Nat)(h:aO K F H ds vs):aO K F H (ds.take n) (vs.take n):=by
 refine⟨by simp[h.1],λi x u e1 e2=> ?_⟩;by_cases hi:i<n
 .rw[Gcs hi] at e1 e2;exact h.2 i x u e1 e2
 .rw[GbE (by simp;lia)] at e1;cases e1
theorem aO.drop{K:ak}{ds:List D}{vs:List V}(n:Nat)(h:aO K F H ds vs):aO K F H (ds.drop n) (vs.drop n):=by
 refine⟨by simp[h.1],λi x u e1 e2=> ?_⟩;rw[Gdi] at e1 e2;exact h.2 _ x u e1 e2
theorem aO.set{K:ak}{ds:List D}{vs:List V}(h:aO K F H ds vs)(r:Rep K F H d v)(i:Nat):aO K F H (ds.set i d) (vs.set i v):=by
 refine⟨by simp[h.1],λj x u e1 e2=> ?_⟩;by_cases hj:i=j
 .subst hj;have hi:i<ds.length:=by have:=(Gak.mp e1).1;simpa using this
  rw[Gbl hi] at e1;rw[Gbl (by rw[<-h.1];exact hi)] at e2;lia
 .rw[Gam hj] at e1 e2;exact h.2 j x u e1 e2
def aO.get{K:ak}{i:Nat}(h:aO K F H ds vs)(e:ds[i]? =U d):∃v,vs[i]? =U v/\Rep K F H d v:=by
 have hi:=(Gak.mp e).1;have xa :i<vs.length:=by rw[<-h.1];exact hi
 exact⟨vs[i],by simp,h.2 i d _ e (by simp)⟩
theorem aO.imm{K:ak}(h:aO K F H ds vs)(hd:aB ds=O):aO K F' H ds vs:=⟨h.1,λi d v e1 e2=>(h.2 i d v e1 e2).imm (mY hd i d e1)⟩
end
def b5:Option (Option Slot)->Prop
 |some (U (.own _))=>True
 |some (U (.lok _))=>True
 |some (U (.bor _))=>True
 |_=>False
def wN:Option (Option Slot)->Prop
 |some (U (.own _))=>True
 |some (U (.lok _))=>True
 |_=>False
def isO:Option (Option Slot)->Prop
 |some (U (.own _))=>True
 |_=>False
def wO:Option (Option Slot)->Prop
 |some (U (.lok _))=>True
 |some (U (.bor _))=>True
 |_=>False
def u3(h:b5 x):isO x\/wO x:=by
 match x,h with
 |some (U (.own _)),_=>exact .inl trivial
 |some (U (.lok _)),_=>exact .inr trivial
 |some (U (.bor _)),_=>exact .inr trivial
def wO.top(h:wO x):b5 x:=by
 match x,h with
 |some (U (.lok _)),_=>trivial
 |some (U (.bor _)),_=>trivial
def isO.ol(h:isO x):wN x:=by
 match x,h with
 |some (U (.own _)),_=>trivial
def wN.top(h:wN x):b5 x:=by
 match x,h with
 |some (U (.own _)),_=>trivial
 |some (U (.lok _)),_=>trivial
def Cln(eC:Yd->Prop)(env:Env)(Z:St)(a:Yd):Prop:=¬eC a/\∀i:Nat,b5 env[i]? ->Z[i]? ≠U (U (V.ref a))
def isW:HO->Prop
 | .lst _=>True
 | .dT _=>True
 |_=>False
def Wr(H:Hp)(a:Yd):Prop:=∃o,H a=U o/\isW o
def Ow(env:Env)(Z:St)(a:Yd):Prop:=∃i:Nat,isO env[i]? /\Z[i]? =U (U (.ref a))
structure aw(K:ak)(H0:Hp)(eC:Yd->Prop)(env:Env)(Z:St)(H:Hp):Prop where
 same:cb H0 H
 len:env.length=Z.length
 bad:∀a,eC a->H a≠J
 sh:∀(i:Nat) d,env[i]? =U (U (.sh d))->∃v,Z[i]? =U (U v)/\Rep K (Cln eC env Z) H d v
 ow:∀(i:Nat) d,(env[i]? =U (U (.own d))\/env[i]? =U (U (.lok d)))->∃a,Z[i]? =U (U (.ref a))/\H0 a=J/\¬eC a/\Wr H a/\d.top=O/\Inn K (Cln eC env Z) H d (.ref a)
 bo:∀(i:Nat) d,env[i]? =U (U (.bor d))->∃a,Z[i]? =U (U (.ref a))/\Wr H a/\d.top=O/\Inn K (Cln eC env Z) H d (.ref a)
 dj:∀(i j:Nat) a,wN env[i]? ->b5 env[j]? ->Z[i]? =U (U (.ref a))->Z[j]? =U (U (.ref a))->i=j
structure Stp(env:Env)(Z:St)(H:Hp)(eP :Env)(Z' :St)(H' :Hp):Prop where
 keep:∀b o,H b=U o->¬Ow env Z b->H' b=U o
 ow:∀b,Ow eP Z' b->Ow env Z b\/H b=J
 lk:∀i:Nat,wO eP[i]? ->eP[i]? =env[i]? /\Z'[i]? =Z[i]?
def Stp.refl:Stp env Z H env Z H:=⟨λ_ _ e _=>e,λ_ h=> .inl h,λ_ _=> ⟨rfl,rfl⟩⟩
def Stp.XY(s:cb H H'):Stp env Z H env Z H' :=⟨λb o e _=>s b o e,λ_ h=> .inl h,λ_ _=> ⟨rfl,rfl⟩⟩
theorem Stp.trans(a:Stp e1 s1 H1 e2 s2 H2)(b:Stp e2 s2 H2 e3 s3 H3):Stp e1 s1 H1 e3 s3 H3:=by
 refine⟨λc o e n=>b.keep c o (a.keep c o e n) λh=> ?_,λc h=> ?_,λi h=> ?_⟩
 .rcases a.ow c h with q|q
  .exact n q
  .rw[e] at q;cases q
 .rcases b.ow c h with q|q
  .exact a.ow c q
  .by_cases z:Ow e1 s1 c
   .exact .inl z
   .right
    cases e:H1 c with
    |none=>rfl
    |some o=>rw[a.keep c o e z] at q;cases q
 .obtain⟨h1,h2⟩:=b.lk i h;rw[h1] at h;obtain⟨h3,h4⟩:=a.lk i h;exact⟨h1.trans h3,h2.trans h4⟩
section
variable{K:ak}{H0 H H' :Hp}{eC:Yd->Prop}{env:Env}{Z:St}{d:D}{v:V}{a:Yd}
def Wr.same(s:cb H H')(w:Wr H a):Wr H' a:=let⟨o,h1,h2⟩:=w;⟨o,s a o h1,h2⟩
def Wr.there(w:Wr H a):H a≠J:=let⟨o,h1,_⟩:=w;by rw[h1];simp
theorem aw.mono(E:aw K H0 eC env Z H)(s:cb H H'):aw K H0 eC env Z H' where
 same:=E.same.trans s
 len:=E.len
 bad:=λa h e=>E.bad a h (s.free e)
 sh:=λi d e=>let⟨v,h1,h2⟩:=E.sh i d e;⟨v,h1,h2.same s⟩
 ow:=λi d e=>let⟨a,h1,h2,h3,h4,h5,h6⟩:=E.ow i d e;⟨a,h1,h2,h3,h4.same s,h5,h6.same s⟩
 bo:=λi d e=>let⟨a,h1,h2,h3,h4⟩:=E.bo i d e;⟨a,h1,h2.same s,h3,h4.same s⟩
 dj:=E.dj
variable{i:Nat}
def aw.S1(E:aw K H0 eC env Z H)(h:b5 env[i]?):∃d a,d.top=O/\Z[i]? =U (U (.ref a))/\Wr H a/\Inn K (Cln eC env Z) H d (.ref a):=by
 match e:env[i]?,h with
 |some (U (.own d)),_=>obtain⟨a,h1,_,_,h4,h5,h6⟩:=E.ow i d (.inl e);exact⟨d,a,h5,h1,h4,h6⟩
 |some (U (.lok d)),_=>obtain⟨a,h1,_,_,h4,h5,h6⟩:=E.ow i d (.inr e);exact⟨d,a,h5,h1,h4,h6⟩
 |some (U (.bor d)),_=>obtain⟨a,h1,h4,h5,h6⟩:=E.bo i d e;exact⟨d,a,h5,h1,h4,h6⟩
def aw.MX(E:aw K H0 eC env Z H)(h:b5 env[i]?)(e:Z[i]? =U (U (.ref a))):Wr H a:=by
 obtain⟨d,b,h1,h2,h3,h4⟩:=E.S1 h;lia
def aw.mZ(E:aw K H0 eC env Z H)(h:b5 env[i]?)(e:Z[i]? =U (U (.ref a))):H a≠J:=(E.MX h e).there
def aw.vd(E:aw K H0 eC env Z H)(h:H a=J):Cln eC env Z a:=⟨λb=>E.bad a b h,λi t e=>E.mZ t e h⟩
def iX(K:ak)(H0:Hp)(eC:Yd->Prop)(env:Env)(Z:St)(H H' :Hp)(r:RV)(v:V):Prop:=
 match r.k with
 | .c=>Rep K (Cln eC env Z) H' r.d v
 | .tn=>∃a,v= .ref a/\H a=J/\Wr H' a/\r.d.top=O/\Inn K (λb=>Cln eC env Z b/\b≠a) H' r.d v
 | .to=>∃a,v= .ref a/\H0 a=J/\Wr H' a/\r.d.top=O/\Inn K (Cln eC env Z) H' r.d v
 | .tb=>Inn K (Cln eC env Z) H' r.d v/\∀a,v= .ref a->r.d.top=O->¬Ow env Z a
theorem iX.inn{r:RV}(h:iX K H0 eC env Z H H' r v):Inn K (Cln eC env Z) H' r.d v:=by
 obtain⟨k,d⟩:=r;cases k with
 |c=>exact Rep.inn h
 |tn=>obtain⟨_,_,_,_,_,h⟩:=h;exact h.imp λ_ z=>z.1
 |to=>obtain⟨_,_,_,_,_,h⟩:=h;exact h
 |tb=>exact h.1
theorem iX.rep{r:RV}(h:iX K H0 eC env Z H H' r v)(E:aw K H0 eC env Z H)(hf:r.free=O):Rep K (Cln eC env Z) H' r.d v:=by
 obtain⟨k,d⟩:=r;cases k with
 |c=>exact h
 |tn=>
  obtain⟨a,e,h1,_,_,h2⟩:=h;exact(h2.imp λ_ z=>z.1).rep λb eb _=>by rw[e] at eb;cases eb;exact E.vd h1
 |to=>simp[RV.free] at hf
 |tb=>simp[RV.free] at hf
theorem iX.same(h:iX K H0 eC env Z H H' r v)(s:cb H' H2):iX K H0 eC env Z H H2 r v:=by
 obtain⟨k,d⟩:=r;cases k with
 |c=>exact Rep.same s h
 |tn=>obtain⟨a,e,h1,w,t,h2⟩:=h;subst e;exact⟨a,rfl,h1,w.same s,t,h2.same s⟩
 |to=>obtain⟨a,e,h1,w,t,h2⟩:=h;subst e;exact⟨a,rfl,h1,w.same s,t,h2.same s⟩
 |tb=>exact⟨h.1.same s,h.2⟩
def iX.from(s:cb H H1)(h:iX K H0 eC env Z H1 H' r v):iX K H0 eC env Z H H' r v:=by
 obtain⟨k,d⟩:=r;cases k with
 |c=>exact h
 |tn=>obtain⟨a,e,h1,w,t,h2⟩:=h;exact⟨a,e,s.free h1,w,t,h2⟩
 |to=>exact h
 |tb=>exact h
def u4(K:ak)(H0 H' :Hp)(d:D)(v:V):Prop:=
 (d.top=O->∃a,v= .ref a/\H0 a=J/\Wr H' a)/\Inn K (λb=>H0 b=J/\v≠ .ref b) H' d v
def u4.rv(E:aw K H0 eC env Z H)(h:u4 K H H' d v):iX K H0 eC env Z H H' (ju d) v:=by
 obtain⟨h1,h2⟩:=h;unfold ju;by_cases t:d.top=O
 .rw[Gan t];obtain⟨a,e,n,w⟩:=h1 t;subst e;exact⟨a,rfl,n,w,t,h2.imp λb z=> ⟨E.vd z.1,λq=>z.2 (by rw[q])⟩⟩
 .rw[Gah t];exact(h2.imp λb z=>E.vd z.1).rep λ_ _ z=>absurd z t
end
def tE(X:Cx)(f:DE):TE:=λZ H Q=>∃H0 eC env r,aw X.K H0 eC env Z H/\f env=U r/\∀v H',cb H H' ->iX X.K H0 eC env Z H H' r v->Q v H'
def tT(X:Cx)(t:DT):TT:=λZ H Q=>∃H0 eC env b,aw X.K H0 eC env Z H/\t env=U b/\∀H',cb H H' ->Q b H'
def tA(X:Cx)(a:DA):TA:=λZ H Q=>∃H0 eC env rs,aw X.K H0 eC env Z H/\a env=U rs/\∀vs H',cb H H' ->Paired (iX X.K H0 eC env Z H H') rs vs->Q vs H'
def S2(X:Cx)(H0:Hp)(eC:Yd->Prop)(env:Env)(Z:St)(H:Hp)(E:Ends):Out->Prop
 | .nx e=>∀Z' H',aw X.K H0 eC e Z' H' ->Stp env Z H e Z' H' ->E.nx Z' H'
 | .bk e=>∀Z' H',aw X.K H0 eC e Z' H' ->Stp env Z H e Z' H' ->E.bk Z' H'
 | .ct e=>∀Z' H',aw X.K H0 eC e Z' H' ->Stp env Z H e Z' H' ->E.ct Z' H'
 | .ret d=>∀v H',cb H0 H' ->u4 X.K H0 H' d v->E.rt v H'
def tS(X:Cx)(f:DS):TS:=λE Z H=>∃H0 eC env o,aw X.K H0 eC env Z H/\f env=U o/\S2 X H0 eC env Z H E o
def tG(X:Cx)(g:DG):TG:=λv Z H Q=>∃H0 eC env d eP,aw X.K H0 eC env Z H/\g d env=U eP /\Rep X.K (Cln eC env Z) H d v/\∀Z' H',aw X.K H0 eC eP Z' H' ->Stp env Z H eP Z' H' ->Q Z' H'
abbrev PEd(X:Cx)(e:Yh)(f:DE):Prop:=PE X e (tE X f)
abbrev PTd(X:Cx)(e:Yh)(t:DT):Prop:=PT X e (tT X t)
abbrev PWd(X:Cx)(e:Yh)(t:DT):Prop:=PW X e (tT X t)
abbrev PAd(X:Cx)(es:List Yh)(a:DA):Prop:=PA X es (tA X a)
abbrev PSd(X:Cx)(st:Yl)(f:DS):Prop:=PS X st (tS X f)
abbrev lh(X:Cx)(st:List Yl)(f:DS):Prop:=PSs X st (tS X f)
abbrev PGd(X:Cx)(e:Yh)(g:DG):Prop:=PG X e (tG X g)
section
variable{X:Cx}{a b:Yh}
def _root_.L2.PE.aJ(h:PE X e t')(i:∀Z H Q,t Z H Q->t' Z H Q):PE X e t:=λe8 s Z H Q I q=>h e8 s Z H Q I (i Z H Q q)
def _root_.L2.PT.aJ(h:PT X e t')(i:∀Z H Q,t Z H Q->t' Z H Q):PT X e t:=λe8 s Z H Q I q=>h e8 s Z H Q I (i Z H Q q)
def _root_.L2.PW.aJ(h:PW X e t')(i:∀Z H Q,t Z H Q->t' Z H Q):PW X e t:=λwh e8 s Z H Q I q=>h wh e8 s Z H Q I (i Z H Q q)
def _root_.L2.PA.aJ(h:PA X es t')(i:∀Z H Q,t Z H Q->t' Z H Q):PA X es t:=λpos e8 s Z H Q I q=>h pos e8 s Z H Q I (i Z H Q q)
def _root_.L2.PS.aJ{st:Yl}{t t' :TS}(h:PS X st t')(i:∀D Z H,t D Z H->t' D Z H):PS X st t:=λe8 s Z H D I q=>h e8 s Z H D I (i D Z H q)
def _root_.L2.PSs.aJ{st:List Yl}{t t' :TS}(h:PSs X st t')(i:∀D Z H,t D Z H->t' D Z H):PSs X st t:=λe8 s Z H D I q=>h e8 s Z H D I (i D Z H q)
def _root_.L2.PG.aJ(h:PG X e t')(i:∀v Z H Q,t v Z H Q->t' v Z H Q):PG X e t:=λe8 s Z H v u Q I r q=>h e8 s Z H v u Q I r (i v Z H Q q)
def bG:cb H H:=λ_ _ e=>e
def eh{α β:Type}{o:Option α}{k:α->Option β}{y:β}(h:o.bind k=U y):∃x,o=U x/\k x=U y:=Option.bind_eq_some_iff.mp h
def Hk(i:Nat)(hN:autoParam (X.N[i]? =U x) Za1._auto_1)(hv:Vis X.env.scope x:=by first|exact Or.inl rfl|exact Or.inr (Or.inl rfl)|exact Or.inr (Or.inr rfl))(hd:autoParam ((x==("__debug__":Str))=M) Za2._auto_1)
  (xn:autoParam ((x==("__classdict__":Str))=M) Za2._auto_1):PEd X (.Name x pos) (vE i):=by
 refine(ka hN hv hd xn).aJ ?_;rintro Z H Q ⟨H0,eC,env,r,E,e,k⟩;unfold vE at e
 match q:env[i]?,e with
 |some (U (.sh d)),e=>
  cases e;obtain⟨v,h1,h2⟩:=E.sh i d q;exact⟨v,h1,k v H bG h2⟩
 |some (U (.own d)),e=>
  cases e;obtain⟨a,h1,h2,h3,h4,h5,h6⟩:=E.ow i d (.inl q);exact⟨_,h1,k _ H bG ⟨a,rfl,h2,h4,h5,h6⟩⟩
 |some (U (.lok d)),e=>
  cases e;obtain⟨a,h1,h2,h3,h4,h5,h6⟩:=E.ow i d (.inr q);refine⟨_,h1,k _ H bG ⟨h6,λb eb _ ⟨j,ho,hj⟩=> ?_⟩⟩;cases eb;have:=E.dj j i a ho.ol (by rw[q];trivial) hj h1;subst this;rw[q] at ho;exact ho
 |some (U (.bor d)),e=>
  cases e;obtain⟨a,h1,h4,h5,h6⟩:=E.bo i d q;refine⟨_,h1,k _ H bG ⟨h6,λb eb _ ⟨j,ho,hj⟩=> ?_⟩⟩;cases eb;have:=E.dj j i a ho.ol (by rw[q];trivial) hj h1;subst this;rw[q] at ho;exact ho
def lW:PEd X (.Constant (.int i) j pos) (kE (.int i)):=Gx.aJ λZ H Q ⟨_,_,_,_,_,e,k⟩=>by cases e;exact k _ H bG (.int i)
def S3{b:Bool}:PEd X (.Constant (.bool b) j pos) (kE (.bl b)):=QK.aJ λZ H Q ⟨_,_,_,_,_,e,k⟩=>by cases e;exact k _ H bG (.bl b)
def O0:PEd X (.Constant .none j pos) (kE .non):=Nh.aJ λZ H Q ⟨_,_,_,_,_,e,k⟩=>by cases e;exact k _ H bG .non
def O1:PEd X (.Constant (.str x) j pos) (kE (.str x)):=Nj.aJ λZ H Q ⟨_,_,_,_,_,e,k⟩=>by cases e;exact k _ H bG (.str x)
def RvN(K:ak)(F:Yd->Prop)(H H' :Hp)(r:RV)(v:V):Prop:=
 match r.k with
 | .c=>Rep K F H' r.d v
 | .tn=>∃a,v= .ref a/\H a=J/\Wr H' a/\r.d.top=O/\Inn K (λb=>F b/\b≠a) H' r.d v
 |_=>False
def RvN.ok{K:ak}{r:RV}(h:RvN K (Cln eC env Z) H1 H' r v)(s:cb H H1):iX K H0 eC env Z H H' r v:=by
 obtain⟨k,d⟩:=r;cases k with
 |c=>exact h
 |tn=>obtain⟨a,e,h1,w,t,h2⟩:=h;exact⟨a,e,s.free h1,w,t,h2⟩
 |to=>exact(show False from h).elim
 |tb=>exact(show False from h).elim
def OpD(X:Cx)(o:D->D->Option RV)(r:R2):Prop:=∀(F:Yd->Prop) (H:Hp) (dx dy:D) (x y:V) (rv:RV) (Q:VK),Inn X.K F H dx x->Inn X.K F H dy y->o dx dy=U rv->
 (∀v H',cb H H' ->RvN X.K F H H' rv v->Q v H')->r x y H Q
def qA(ho:OpR X (binaryOp op) r)(hd:OpD X o r)(ha:PEd X a f)(hb:PEd X b g):PEd X (.BinOp a op b pos) (Yc o f g):=by
 refine(QV ho ha hb).aJ ?_;rintro Z H Q ⟨H0,eC,env,rv,E,e,k⟩;obtain⟨x,hx,e⟩:=eh e;obtain⟨y,hy,e⟩:=eh e;exact⟨H0,eC,env,x,E,hx,λvx H1 s1 R1=> ⟨H0,eC,env,y,E.mono s1,hy,λvy H2 s2 R2=>hd _ H2 x.d y.d vx vy rv Q (R1.inn.same s2) R2.inn e λv H3 s3 R3=>
  k v H3 (s1.trans (s2.trans s3)) (R3.ok (s1.trans s2))⟩⟩
variable{gi:Int->Int->Int}
def O2{o:D->D->Option RV}(h:∀dx dy rv,o dx dy=U rv->∃i j,dx= .int i/\dy= .int j/\rv=⟨.c,.int (gi i j)⟩):OpD X o (rI0 λi j=> .int (gi i j)):=by
 intro F H dx dy x y rv Q ix iy e k;obtain⟨i,j,rfl,rfl,rfl⟩:=h dx dy rv e;cases ix;cases iy
 exact⟨i,j,rfl,rfl,k _ H bG (.int _)⟩
def CN{o:D->D->Option RV}{C:Int->Int->Prop}(h:∀dx dy rv,o dx dy=U rv->∃i j,dx= .int i/\dy= .int j/\C i j/\rv=⟨.c,.int (gi i j)⟩):OpD X o (rI C λi j=> .int (gi i j)):=by
 intro F H dx dy x y rv Q ix iy e k;obtain⟨i,j,rfl,rfl,hc,rfl⟩:=h dx dy rv e;cases ix;cases iy
 exact⟨i,j,rfl,rfl,hc,k _ H bG (.int _)⟩
def Kx:OpD X iW (rI0 λi j=> .int (i -j)):=O2 λdx dy rv e=>by
 unfold iW at e;split at e
 .simp_all
 .cases e
def Ky:OpD X b6 (rI Ka λi j=> .int (i*j)):=CN λdx dy rv e=>by
 unfold b6 at e;split at e
 .split at e
  .rename_i i j q;cases e;refine⟨i,j,rfl,rfl, ?_,rfl⟩;unfold aT at q;rw[GaX] at q;rcases q with q|q
   .left;have:=Gar q;lia
   .right;have:=Gar q;lia
  .cases e
 .cases e
def Hl:OpD X cV (rI QY λi j=> .int (i/j)):=CN λdx dy rv e=>by
 unfold cV at e;split at e
 .split at e
  .rename_i i j q;cases e;exact⟨i,j,rfl,rfl,q,rfl⟩
  .cases e
 .cases e
def Kz:OpD X bh (rI (λ_ j=>0<j) λi j=> .int (i%j)):=CN λdx dy rv e=>by
 unfold bh at e;split at e
 .simp_all
 .cases e
def KA:OpD X wL (rI QZ λi j=> .int (i^j.toNat)):=CN λdx dy rv e=>by
 unfold wL at e;split at e
 .split at e
  .rename_i i j q;cases e;exact⟨i,j,rfl,rfl,⟨q.1,by lia,by lia⟩,rfl⟩
  .cases e
 .cases e
def MY:R2:=λx y H Q=>∃l b xs zs,x= .ref l/\y= .ref b/\Rd H l (.lst xs)/\Rd H b (.lst zs)/\xs.length+zs.length<=sizeLine/\∀p,H p=J->Q (.ref p) (upd H p (.lst (xs++zs)))
def KC:OpR X (binaryOp .Add) MY:=by
 intro e8 s Z H x y v u Q I rx ry h;obtain⟨l,b,xs,zs,rfl,rfl,hH,hB,hz,q⟩:=h;cases rx;cases ry;obtain⟨z,its,n,r,e⟩:=(show cI X.prog X.w H s.heap l (.lst xs) from hH.ok I.hok)
 obtain⟨z2,eN,n2,r2,e2⟩:=(show cI X.prog X.w H s.heap b (.lst zs) from hB.ok I.hok)
 have hl:=r.length;have zS:=r2.length;refine PySem.P.add_list e e2 ?_ (by rw[Gaw,Gaw];lia);have ea:its.toArray++eN.toArray=(its++eN).toArray:=by simp
 rw[ea];exact⟨.ref _,_,I.U8 (r.append r2) (by rw[Gal];lia),rfl,q _ I.fresh⟩
def eQ:af=sizeLine:=by rw[Gbu];rfl
def aX(n:H p=J):cb H (upd H p o):=λb u e=>by rw[ar (dm e n)];exact e
def fw{K:ak}{H:Hp}(n:H p=J)(r:aO K F H ds vs):Rep K F (upd H p (.tup vs)) (.tup ds) (.ref p):=by
 have r2:=r.gen (.XY (aX (o:= .tup vs) n)) λ_ f _=>f;exact .tup aF r2.1 r2.2
def fA{K:ak}{F:Yd->Prop}{H:Hp}(n:H p=J)(r:aO K F H ds vs):Inn K (λb=>F b/\b≠p) (upd H p (.lst vs)) (.lst ds) (.ref p):=
 .lst (.inl aF) (r.gen (.XY (aX n)) λb f hb=> ⟨f,λz=>hb (z▸n)⟩)
def o6:Wr (upd H p (.lst xs)) p:=⟨_,aF,trivial⟩
def Hm(K:ak):R2:=λx y H Q=>rI0 (λi j=> .int (i+j)) x y H Q\/(∃i j,x= .str i/\y= .str j/\i.length+j.length<=sizeLine/\Q (.str (i++j)) H)\/MY x y H Q\/MI K x y H Q
def CO:OpR X (binaryOp .Add) (Hm X.K):=Ny.or (Bm.or (KC.or Km))
def aO.ne{K:ak}(r:aO K F H ds vs):vs=[]↔ds=[]:=by
 constructor
 .intro z;subst z;exact List.eq_nil_of_length_eq_zero r.1
 .intro z;subst z;exact r.cz
def CP:OpD X aI (Hm X.K):=by
 intro F H dx dy x y rv Q ix iy e k;unfold aI at e;split at e
 .cases e;cases ix;cases iy;exact .inl ⟨_,_,rfl,rfl,k _ H bG (.int _)⟩
 .split at e
  .rename_i q;cases e;cases ix;cases iy;exact .inr (.inl ⟨_,_,rfl,rfl,by rw[<-eQ];exact q,k _ H bG (.str _)⟩)
  .cases e
 .split at e
  .rename_i xs ys q;cases e;cases ix with
   |tup hx rx=>
    cases iy with
    |tup hy ry=>
     refine .inr (.inr (.inr ⟨_,_,_,_,rfl,rfl,SqT.of hx,SqT.of hy, ?_, ?_, ?_, ?_⟩))
     .intro z;have:=rx.ne.mp z;simp_all
     .rw[<-rx.1,<-ry.1];exact q.1
     .intro z;have:=ry.ne.mp z;subst this;refine k _ H bG ?_;rw[Gbb];exact .tup hx rx.1 rx.2
     .intro z p n;exact k _ _ (aX n) (fw n (rx.append ry))
  .cases e
 .split at e
  .rename_i xs ys q;cases e;cases ix with
   |lst hx rx=>
    cases iy with
    |lst hy ry=>
     refine .inr (.inr (.inl ⟨_,_,_,_,rfl,rfl,hx,hy,by rw[<-rx.1,<-ry.1];exact q,λp n=> ?_⟩));exact k _ _ (aX n) ⟨p,rfl,n,o6,rfl,fA n (rx.append ry)⟩
  .cases e
 .cases e
def UnD(X:Cx)(o:D->Option RV)(r:V->Hp->VK->Prop):Prop:=∀(F:Yd->Prop) (H:Hp) (dx:D) (x:V) (rv:RV) (Q:VK),Inn X.K F H dx x->o dx=U rv->(∀v H',cb H H' ->RvN X.K F H H' rv v->Q v H')->r x H Q
def S4(ho:UnR X (unaryOp op) r)(hd:UnD X o r)(ha:PEd X a f):PEd X (.UnaryOp op a pos) (unE o f):=by
 refine(QW ho ha).aJ ?_;rintro Z H Q ⟨H0,eC,env,rv,E,e,k⟩;obtain⟨x,hx,e⟩:=eh e;exact⟨H0,eC,env,x,E,hx,λvx H1 s1 R1=>hd _ H1 x.d vx rv Q R1.inn e λv H3 s3 R3=>k v H3 (s1.trans s3) (R3.ok s1)⟩
def KD:UnD X EK (rU λi=> .int (-i)):=by
 intro F H dx x rv Q ix e k;unfold EK at e;split at e
 .cases e;cases ix;exact⟨_,rfl,k _ H bG (.int _)⟩
 .cases e
def O3(ha:PEd X a f)(hb:PEd X b g):PEd X (.BinOp a .Add b pos) (Yc aI f g):=qA CO CP ha hb
def O4(ha:PEd X a f)(hb:PEd X b g):PEd X (.BinOp a .Sub b pos) (Yc iW f g):=qA Nz Kx ha hb
def O5(ha:PEd X a f)(hb:PEd X b g):PEd X (.BinOp a .Mult b pos) (Yc b6 f g):=qA NA Ky ha hb
def KG(ha:PEd X a f)(hb:PEd X b g):PEd X (.BinOp a .FloorDiv b pos) (Yc cV f g):=qA Kb Hl ha hb
def O6(ha:PEd X a f)(hb:PEd X b g):PEd X (.BinOp a .Mod b pos) (Yc bh f g):=qA NB Kz ha hb
def O7(ha:PEd X a f)(hb:PEd X b g):PEd X (.BinOp a .Pow b pos) (Yc wL f g):=qA NC KA ha hb
def O8(ha:PEd X a f):PEd X (.UnaryOp .USub a pos) (unE EK f):=S4 ND KD ha
def OpB(X:Cx)(o:D->D->Option Bool)(r:R2):Prop:=∀(F:Yd->Prop) (H:Hp) (dx dy:D) (x y:V) (b:Bool) (Q:VK),Inn X.K F H dx x->Inn X.K F H dy y->o dx dy=U b->Q (.bl b) H->r x y H Q
def O9(ho:OpR X (compareOp op) r)(hd:OpB X o r)(ha:PEd X a f)(hb:PEd X b g)(hm:behindInMarks op b=M):PTd X (.Compare a [op] [b] pos) (aC o f g):=by
 refine(Ke ho ha hb hm).aJ ?_;rintro Z H Q ⟨H0,eC,env,bb,E,e,k⟩;obtain⟨x,hx,e⟩:=eh e;obtain⟨y,hy,e⟩:=eh e;exact⟨H0,eC,env,x,E,hx,λvx H1 s1 R1=> ⟨H0,eC,env,y,E.mono s1,hy,λvy H2 s2 R2=>hd _ H2 x.d y.d vx vy bb _ (R1.inn.same s2) R2.inn e ⟨bb,rfl,k H2 (s1.trans s2)⟩⟩⟩
def Oa(ho:OpR X (compareOp op) r)(hd:OpB X o r)(ha:PEd X a f)(hb:PEd X b g)(hm:behindInMarks op b=M):PEd X (.Compare a [op] [b] pos) (bE (aC o f g)):=by
 refine(Kd ho ha hb hm).aJ ?_;rintro Z H Q ⟨H0,eC,env,rv,E,e,k⟩;obtain⟨bb,e',rfl⟩:=Gaa.mp e;have e:=e';obtain⟨x,hx,e⟩:=eh e;obtain⟨y,hy,e⟩:=eh e;exact⟨H0,eC,env,x,E,hx,λvx H1 s1 R1=> ⟨H0,eC,env,y,E.mono s1,hy,λvy H2 s2 R2=>hd _ H2 x.d y.d vx vy bb _ (R1.inn.same s2) R2.inn e (k _ H2 (s1.trans s2) (.bl bb))⟩⟩
def CQ{o:D->D->Option Bool}{gb:Int->Int->Bool}(h:∀dx dy b,o dx dy=U b->∃i j,dx= .int i/\dy= .int j/\b=gb i j):OpB X o (rI0 λi j=> .bl (gb i j)):=by
 intro F H dx dy x y b Q ix iy e q;obtain⟨i,j,rfl,rfl,rfl⟩:=h dx dy b e;cases ix;cases iy
 exact⟨i,j,rfl,rfl,q⟩
def Ob:OpB X ltB (rI0 λi j=> .bl (decide (i<j))):=CQ λdx dy b e=>by
 unfold ltB at e;split at e<;>cases e;exact⟨_,_,rfl,rfl,rfl⟩
def Oc:OpB X leB (rI0 λi j=> .bl (decide (i<=j))):=CQ λdx dy b e=>by
 unfold leB at e;split at e<;>cases e;exact⟨_,_,rfl,rfl,rfl⟩
def Od:OpB X gtB (rI0 λi j=> .bl (decide (j<i))):=CQ λdx dy b e=>by
 unfold gtB at e;split at e<;>cases e;exact⟨_,_,rfl,rfl,rfl⟩
def Oe:OpB X geB (rI0 λi j=> .bl (decide (j<=i))):=CQ λdx dy b e=>by
 unfold geB at e;split at e<;>cases e;exact⟨_,_,rfl,rfl,rfl⟩
def u5{K:ak}(h:Inn K F H d x):decide (x= .non)=dq d:=by
 cases h<;>simp[dq]
def KH:OpB X k8 (λx y H Q=>y= .non/\Q (.bl (decide (x= .non))) H):=by
 intro F H dx dy x y b Q ix iy e q;simp only[k8] at e;split at e
 .rename_i h;cases e;cases iy<;>simp[dq] at h
  exact⟨rfl,by rw[u5 ix];exact q⟩
 .cases e
def Hn:OpB X iZ (λx y H Q=>y= .non/\Q (.bl (!decide (x= .non))) H):=by
 intro F H dx dy x y b Q ix iy e q;simp only[iZ] at e;split at e
 .rename_i h;cases e;cases iy<;>simp[dq] at h
  exact⟨rfl,by rw[u5 ix];exact q⟩
 .cases e
def Of{e:Yh}{f:DE}(h:PEd X e f)(he:∀whole,isTrue e X.env whole=(do let v<-whole;standAt e.pos;holding [v] (truthy v)):=by intro _;rfl):PTd X e (l9 f):=by
 refine(Nk h he).aJ ?_;rintro Z H Q ⟨H0,eC,env,bb,E,e,k⟩;obtain⟨x,hx,e⟩:=eh e;split at e
 .rename_i b hb;cases e;refine⟨H0,eC,env,x,E,hx,λvx H1 s1 R1=> ⟨bb, ?_,k H1 s1⟩⟩;have i:=R1.inn;rw[hb] at i;cases i;rfl
 .cases e
def wQ(h:PEd X e f):PEd X e (bE (l9 f)):=by
 refine h.aJ ?_;rintro Z H Q ⟨H0,eC,env,rv,E,e,k⟩;obtain⟨bb,e',rfl⟩:=Gaa.mp e;have e:=e';obtain⟨x,hx,e⟩:=eh e;split at e
 .rename_i b hb;cases e;refine⟨H0,eC,env,x,E,hx,λvx H1 s1 R1=>k _ H1 s1 ?_⟩;have i:=R1.inn;rw[hb] at i;cases i;exact .bl _
 .cases e
def KI(ha:PTd X a t):PWd X (.BoolOp .And [a] pos) t:=K6 ha
def Og(ha:PTd X a t):PWd X (.BoolOp .Or [a] pos) t:=Nl ha
def Oh{t:DT}{rest:List Yh}(ha:PTd X a t)(hb:PWd X (.BoolOp .And (b::rest) pos) u):PWd X (.BoolOp .And (a::b::rest) pos) (fK t u):=by
 refine(Nm ha hb).aJ ?_;rintro Z H Q ⟨H0,eC,env,bb,E,e,k⟩;obtain⟨x,hx,e⟩:=eh e;refine⟨H0,eC,env,x,E,hx,λH1 s1=> ?_⟩;cases x with
 |true=>rw[Gan rfl];rw[Gan rfl] at e;exact⟨H0,eC,env,bb,E.mono s1,e,λH2 s2=>k H2 (s1.trans s2)⟩
 |false=>rw[Gah Gaz];rw[Gah Gaz] at e;cases e;exact k H1 s1
def S5{t:DT}{rest:List Yh}(ha:PTd X a t)(hb:PWd X (.BoolOp .Or (b::rest) pos) u):PWd X (.BoolOp .Or (a::b::rest) pos) (orT t u):=by
 refine(QL ha hb).aJ ?_;rintro Z H Q ⟨H0,eC,env,bb,E,e,k⟩;obtain⟨x,hx,e⟩:=eh e;refine⟨H0,eC,env,x,E,hx,λH1 s1=> ?_⟩;cases x with
 |false=>rw[Gah Gaz];rw[Gah Gaz] at e;exact⟨H0,eC,env,bb,E.mono s1,e,λH2 s2=>k H2 (s1.trans s2)⟩
 |true=>rw[Gan rfl];rw[Gan rfl] at e;cases e;exact k H1 s1
def Oi(ha:PTd X a t):PTd X (.UnaryOp .Not a pos) (v8 t):=by
 refine(Np ha).aJ ?_;rintro Z H Q ⟨H0,eC,env,bb,E,e,k⟩;obtain⟨x,hx,rfl⟩:=Gaa.mp e;exact⟨H0,eC,env,x,E,hx,λH1 s1=>k H1 s1⟩
def Oj(ha:PEd X a (bE t)):PEd X (.BoolOp op [a] pos) (bE t):=Nq ha
def Ol{t:DT}{rest:List Yh}(ha:PEd X a (bE t))(hb:PEd X (.BoolOp .And (b::rest) pos) (bE u)):PEd X (.BoolOp .And (a::b::rest) pos) (bE (fK t u)):=by
 refine(Nr ha hb).aJ ?_;rintro Z H Q ⟨H0,eC,env,rv,E,e,k⟩;obtain⟨bb,e',rfl⟩:=Gaa.mp e;have e:=e';obtain⟨x,hx,e⟩:=eh e;refine⟨H0,eC,env,⟨.c,.bl x⟩,E,by unfold bE;rw[hx];rfl,λv H1 s1 R=> ?_⟩;have R' :=R.inn;cases R';refine⟨x,rfl, ?_⟩;cases x with
 |true=>rw[Gan rfl];rw[Gan rfl] at e;exact⟨H0,eC,env,⟨.c,.bl bb⟩,E.mono s1,by unfold bE;rw[e];rfl,λv2 H2 s2 R2=>k v2 H2 (s1.trans s2) (R2.from s1)⟩
 |false=>rw[Gah Gaz];rw[Gah Gaz] at e;cases e;exact k _ H1 s1 (.bl M)
def S6{t:DT}{rest:List Yh}(ha:PEd X a (bE t))(hb:PEd X (.BoolOp .Or (b::rest) pos) (bE u)):PEd X (.BoolOp .Or (a::b::rest) pos) (bE (orT t u)):=by
 refine(QO ha hb).aJ ?_;rintro Z H Q ⟨H0,eC,env,rv,E,e,k⟩;obtain⟨bb,e',rfl⟩:=Gaa.mp e;have e:=e';obtain⟨x,hx,e⟩:=eh e;refine⟨H0,eC,env,⟨.c,.bl x⟩,E,by unfold bE;rw[hx];rfl,λv H1 s1 R=> ?_⟩;have R' :=R.inn;cases R';refine⟨x,rfl, ?_⟩;cases x with
 |false=>rw[Gah Gaz];rw[Gah Gaz] at e;exact⟨H0,eC,env,⟨.c,.bl bb⟩,E.mono s1,by unfold bE;rw[e];rfl,λv2 H2 s2 R2=>k v2 H2 (s1.trans s2) (R2.from s1)⟩
 |true=>rw[Gan rfl];rw[Gan rfl] at e;cases e;exact k _ H1 s1 (.bl O)
def Om(ha:PEd X a (bE t)):PEd X (.UnaryOp .Not a pos) (bE (v8 t)):=by
 refine(Nt ha).aJ ?_;rintro Z H Q ⟨H0,eC,env,rv,E,e,k⟩;obtain⟨bb,e',rfl⟩:=Gaa.mp e;have e:=e';obtain⟨x,hx,rfl⟩:=Gaa.mp e;refine⟨H0,eC,env,⟨.c,.bl x⟩,E,by unfold bE;rw[hx];rfl,λv H1 s1 R=> ?_⟩;have R' :=R.inn;cases R';exact⟨x,rfl,k _ H1 s1 (.bl _)⟩
def Ho(hc:PTd X c t)(ha:PEd X a f)(hb:PEd X b g):PEd X (.IfExp c a b pos) (ifE t f g):=by
 refine(Gy hc ha hb).aJ ?_;rintro Z H Q ⟨H0,eC,env,rv,E,e,k⟩;obtain⟨x,hx,e⟩:=eh e;refine⟨H0,eC,env,x,E,hx,λH1 s1=> ?_⟩;cases x with
 |true=>rw[Gan rfl];rw[Gan rfl] at e;exact⟨H0,eC,env,rv,E.mono s1,e,λv H2 s2 R=>k v H2 (s1.trans s2) (R.from s1)⟩
 |false=>rw[Gah Gaz];rw[Gah Gaz] at e;exact⟨H0,eC,env,rv,E.mono s1,e,λv H2 s2 R=>k v H2 (s1.trans s2) (R.from s1)⟩
def Hq(ho:OpR X (compareOp op) r)(hd:OpB X o r)(xk :OpR X (compareOp op') r')(xb :OpB X p r')(ha:PEd X a f)(hb:PEd X b g)(hc:PEd X c h)
  (hm:lastMarks [op,op'] [b,c]=M:=by with_unfolding_all rfl):PTd X (.Compare a [op,op'] [b,c] pos) (jf o p f g h):=by
 refine(GK ho xk ha hb hc hm).aJ ?_;rintro Z H Q ⟨H0,eC,env,bb,E,e,k⟩;obtain⟨x,hx,e⟩:=eh e;obtain⟨y,hy,e⟩:=eh e;obtain⟨b1,h1,e⟩:=eh e;refine⟨H0,eC,env,x,E,hx,λvx H1 s1 R1=> ⟨H0,eC,env,y,E.mono s1,hy,λvy H2 s2 R2=>hd _ H2 x.d y.d vx vy b1 _ (R1.inn.same s2) R2.inn h1 ⟨b1,rfl, ?_⟩⟩⟩;cases b1 with
 |true=>
  obtain⟨z,hz,e⟩:=eh e;exact⟨H0,eC,env,z,(E.mono s1).mono s2,hz,λvz H3 s3 R3=>xb _ H3 y.d z.d vy vz bb _ (R2.inn.same s3) R3.inn e ⟨bb,rfl,k H3 (s1.trans (s2.trans s3))⟩⟩
 |false=>
  cases e;exact⟨M,rfl,k H2 (s1.trans s2)⟩
end
section
variable{X:Cx}
def Scr.sq{K:ak}{ns:List Int}(h:Scr K H a ns):SqL K H a (ns.map V.int):=by
 rcases h with⟨o,h⟩|h
 .exact .inl (.inr ⟨o,h⟩)
 .exact .inr h
def Bu{K:ak}(r:aO K F H ds vs)(e:atD ds i=U d):∃v,atI vs i=U v/\Rep K F H d v:=by
 unfold atD at e;unfold atI ixN;rw[<-r.1];split at e
 .rename_i h0;obtain⟨v,h1,h2⟩:=r.get e;have hi:=(Gak.mp e).1;refine⟨v, ?_,h2⟩;rw[Gan h0,Gan (by lia)];exact h1
 .rename_i h0;split at e
  .rename_i h1;obtain⟨v,h2,h3⟩:=r.get e;refine⟨v, ?_,h3⟩;rw[Gah h0,Gan h1];exact h2
  .cases e
theorem wR{K:ak} [DecidableEq Y]:∀{eD:List (Y×D)} {ws:List (Y×V)} {k:Y} {d:D},aZ K F H eD ws->look eD k=U d->∃v,iV ws k=U v/\Rep K F H d v
 |[],ws,k,d,_,e=>by simp[look] at e
 |p::eD,[],k,d,r,_=>absurd r.1 (by simp)
 |p::eD,q::ws,k,d,r,e=>by
  have h1:p.1=q.1/\eD.map (·.1)=ws.map (·.1):=by have:=r.1;simpa using this
  have r2:aZ K F H eD ws:=⟨h1.2,λi x y e1 e2=>r.2 (i+1) x y (by simpa using e1) (by simpa using e2)⟩
  by_cases z:p.1=k
  .have e' :look (p::eD) k=U p.2:=by simp[look,z]
   rw[e'] at e;cases e;exact⟨q.2,kh (h1.1.symm.trans z),r.2 0 p q rfl rfl⟩
  .have e' :look (p::eD) k=look eD k:=by simp[look,z]
   rw[e'] at e;obtain⟨v,h3,h4⟩:=wR r2 e;exact⟨v,by rw[i9 (λw=>z (h1.1.trans w))];exact h3,h4⟩
theorem u6{K:ak} [DecidableEq Y]:∀{eD:List (Y×D)} {ws:List (Y×V)} {k:Y},aZ K F H eD ws->look eD k=J->iV ws k=J
 |[],[],k,_,_=>rfl
 |[],q::ws,k,r,_=>absurd r.1 (by simp)
 |p::eD,[],k,r,_=>absurd r.1 (by simp)
 |p::eD,q::ws,k,r,e=>by
  have h1:p.1=q.1/\eD.map (·.1)=ws.map (·.1):=by have:=r.1;simpa using this
  have r2:aZ K F H eD ws:=⟨h1.2,λi x y e1 e2=>r.2 (i+1) x y (by simpa using e1) (by simpa using e2)⟩
  by_cases z:p.1=k
  .have e' :look (p::eD) k=U p.2:=by simp[look,z]
   rw[e'] at e;cases e
  .have e' :look (p::eD) k=look eD k:=by simp[look,z]
   rw[e'] at e;rw[i9 (λw=>z (h1.1.trans w))];exact u6 r2 e
def EO{K:ak}(i:Inn K F H d x)(e:keyOf d=U k):x=kV k:=by
 unfold keyOf at e;split at e<;>cases e<;>cases i<;>rfl
theorem j3{K:ak}:∀{ds vs ks},aO K F H ds vs->keysOf ds=U ks->vs=ks.map kV
 |[],vs,ks,r,e=>by cases e;rw[r.cz];rfl
 |d::ds,vs,ks,r,e=>by
  obtain⟨v,w,rfl,h1,h2⟩:=r.cons_inv;obtain⟨k,hk,e⟩:=eh e;obtain⟨Xy,Vv,rfl⟩:=Gaa.mp e;rw[EO h1.inn hk,j3 h2 Vv]
  rfl
def KJ{K:ak}(ix:Inn K F H d x)(iy:Inn K F H k y):
  ∀eD ks key,d= .dT eD->k= .tup ks->keysOf ks=U key->∃a ws,x= .ref a/\aZ K F H eD ws/\Kt H a y (iV ws key):=by
 intro eD ks key ed ek e;subst ed ek;cases ix with
 |dT h r=>
  cases iy with
  |tup hy ry=>exact⟨_,_,rfl,r,⟨_,key,_,.inl h,rfl,by rw[<-j3 ry e];exact hy,rfl⟩⟩
def oT(ha:PEd X a f)(hb:PEd X b g)(hs:uY b:=by exactλ_ _=>rfl):PEd X (.Subscript a b pos) (Yb f g):=by
 refine(Rh NN ha hb hs).aJ ?_;rintro Z H Q ⟨H0,eC,env,rv,E,e,k⟩;obtain⟨x,hx,e⟩:=eh e;obtain⟨y,hy,e⟩:=eh e;obtain⟨d,e',rfl⟩:=Gaa.mp e;clear e;have e:=e';clear e';refine⟨H0,eC,env,x,E,hx,λvx H1 s1 R1=> ⟨H0,eC,env,y,E.mono s1,hy,λvy H2 s2 R2=> ?_⟩⟩;have ix:=R1.inn.same s2;have iy:=R2.inn;have fin:∀v,Rep X.K (Cln eC env Z) H2 d v->Q v H2:=λv r=>k v H2 (s1.trans s2) r;generalize x.d=dx at ix e;generalize y.d=dy at iy e;unfold ixD at e;split at e
 .cases iy;cases ix with
  |lst h r=>
   obtain⟨v,h1,h2⟩:=Bu r e;exact .inl ⟨_,_,_,v,rfl,rfl,.inl h,h1,fin v h2⟩
 .cases iy;cases ix with
  |tup h r=>
   obtain⟨v,h1,h2⟩:=Bu r e;exact .inr (.inl ⟨_,_,_,v,rfl,rfl,SqT.of h,h1,fin v h2⟩)
 .split at e
  .rename_i hz;obtain⟨ch,e',rfl⟩:=Gaa.mp e;clear e;have e:=e';clear e';cases iy;cases ix
   refine .inr (.inr ⟨_,_,ch,rfl,rfl,by rw[<-eQ];exact hz, ?_,fin _ (.str _)⟩);unfold atD at e;unfold atI ixN;split at e
   .rename_i h0;have hi:=(Gak.mp e).1;rw[Gan h0,Gan (by lia)];exact e
   .rename_i h0;split at e
    .rename_i h1;rw[Gah h0,Gan h1];exact e
    .cases e
  .cases e
 .obtain⟨n,e',rfl⟩:=Gaa.mp e;clear e;have e:=e';clear e';cases iy;cases ix with
  |scr h=>
   refine .inl ⟨_,_,_,.int n,rfl,rfl,h.sq, ?_,fin _ (.int n)⟩;unfold atD at e;unfold atI ixN;rw[Gae];split at e
   .rename_i h0;have hi:=(Gak.mp e).1;rw[Gan h0,Gan (by lia)];show(List.map V.int _)[_]? =_;rw[Gap,e];rfl
   .rename_i h0;split at e
    .rename_i h1;rw[Gah h0,Gan h1];show(List.map V.int _)[_]? =_;rw[Gap,e];rfl
    .cases e
 .cases iy;cases ix with
  |fl h r=>
   obtain⟨v,h1,h2⟩:=Bu r e;exact .inl ⟨_,_,_,v,rfl,rfl,.inl (.inr ⟨_,h⟩),h1,fin v h2⟩
 .cases e
def gI:PAd X [] ag:=by
 refine nU.aJ ?_;rintro Z H Q ⟨H0,eC,env,rs,E,e,k⟩;cases e;exact k [] H bG .nil
def wU{K:ak}(s:cb H H1)(p:Paired (iX K H0 eC env Z H1 H') rs vs):Paired (iX K H0 eC env Z H H') rs vs:=L2.Paired.K1 p λ_ _ h=>h.from s
def cL(ha:PEd X e f)(hr:PAd X es r)(hs:autoParam (starEach (e::es) X.env=(M,eval e X.env)::starEach es X.env) Za1._auto_1):PAd X (e::es) (aa f r):=by
 refine(kL ha hr hs).aJ ?_;rintro Z H Q ⟨H0,eC,env,rs,E,e,k⟩;obtain⟨x,hx,e⟩:=eh e;obtain⟨xs,UN,e⟩:=eh e;cases e;exact⟨H0,eC,env,x,E,hx,λvx H1 s1 R1=> ⟨H0,eC,env,xs,E.mono s1,UN,λvs H2 s2 Rs=>k _ H2 (s1.trans s2) (.cons (R1.same s2) (wU s1 Rs))⟩⟩
def u7{K:ak}{rs:List RV}(E:aw K H0 eC env Z H)(p:Paired (iX K H0 eC env Z H H') rs vs):rs.all (·.free)=O->aO K (Cln eC env Z) H' (rs.map (·.d)) vs:=by
 induction p with
 |nil=>exactλ_=>aO.nil
 |cons h t ih=>
  intro f;rw[GbB,Gai] at f;exact aO.cons (h.rep E f.1) (ih f.2)
def Bv(ha:PAd X es r):PEd X (.Tuple es j pos) (aU r):=by
 refine(NG ha).aJ ?_;rintro Z H Q ⟨H0,eC,env,rv,E,e,k⟩;obtain⟨rs,hr,e⟩:=eh e;split at e
 .rename_i q;rw[Gai] at q;cases e;refine⟨H0,eC,env,rs,E,hr,λvs H1 s1 Rs=> ?_⟩;have rep:=u7 E Rs q.1;refine⟨by rw[<-rep.1,Gae];exact Gar q.2,λp n=> ?_⟩;exact k _ _ (s1.trans (aX n)) (fw n rep)
 .cases e
def Oo(ha:PAd X es r):PEd X (.List es pos) (dh r):=by
 refine(GN ha).aJ ?_;rintro Z H Q ⟨H0,eC,env,rv,E,e,k⟩;obtain⟨rs,hr,e⟩:=eh e;split at e
 .rename_i q;rw[Gai] at q;cases e;refine⟨H0,eC,env,rs,E,hr,λvs H1 s1 Rs=> ?_⟩;have rep:=u7 E Rs q.1;refine⟨by rw[<-rep.1,Gae];exact Gar q.2,λp n=> ?_⟩;exact k _ _ (s1.trans (aX n)) ⟨p,rfl,s1.free n,o6,rfl,fA n rep⟩
 .cases e
noncomputable def spD(K:ak)(np:Nat)(sp:SpF):Sp:=λvs H Q _=>∃ds d,ds.length=np/\aO K (λ_=>True) H ds vs/\sp ds=U d/\∀v H',cb H H' ->u4 K H H' d v->Q v H'
def ER{K:ak}{rs:List RV}(p:Paired (iX K H0 eC env Z H H') rs vs):aO K (λ_=>True) H' (rs.map (·.d)) vs:=by
 induction p with
 |nil=>exact aO.nil
 |cons h t ih=>exact aO.cons h.inn.any ih
def KN(F:jq X.prog X.w X.K X.mg X.base CX k fa fd ps (spD X.K np sp))(hr:iU k X.A)(hg:Gl X x)
  (hm:X.mg x=U (.ref fa))(hk:PySem.W.keepIn X.K (.ref fa)=O)(hb:Binds X.K fd ps [])(hx:Passes CX X E)(ha:PAd X (e::es) r)(hl:∀env rs,r env=U rs->rs.length=np)
  (yt:autoParam ((x==("__debug__":Str))=M) Za2._auto_1)(he:autoParam (starEach (e::es) X.env=(M,eval e X.env)::starEach es X.env) Za1._auto_1)(xj:autoParam ((backTo pos (starEach es X.env)).any (·.1)=M) Za1._auto_1):
  PEd X (.Call (.Name x p) (e::es) [] pos) (aq sp r):=by
 refine(Kg F hr hg hm hk hb .nil hx ha yt he xj).aJ ?_;rintro Z H Q ⟨H0,eC,env,rv,E,e,k⟩;obtain⟨rs,yj,e⟩:=eh e;obtain⟨d,hd,rfl⟩:=Gaa.mp e;refine⟨H0,eC,env,rs,E,yj,λvs H1 s1 Rs=> ⟨rs.map (·.d),d,by rw[Gae];exact hl env rs yj, ?_,hd,λv H2 s2 R2=>k v H2 (s1.trans s2) ((R2.rv (E.mono s1)).from s1)⟩⟩;rw[Gbb];exact ER Rs
def CallD(X:Cx)(o:SpV)(r:List V->Hp->VK->Prop):Prop:=∀(F:Yd->Prop) (H:Hp) (ds:List D) (vs:List V) (rv:RV) (Q:VK),Paired (Inn X.K F H) ds vs->o ds=U rv->(∀v H',cb H H' ->RvN X.K F H H' rv v->Q v H')->r vs H Q
def qB{K:ak}{rs:List RV}(p:Paired (iX K H0 eC env Z H H') rs vs):Paired (Inn K (Cln eC env Z) H') (rs.map (·.d)) vs:=by
 induction p with
 |nil=>exact .nil
 |cons h t ih=>exact .cons h.inn ih
def qC{e:Yh}{pos:Pos}{id:String}{o:SpV}{r:List V->Hp->VK->Prop}{x:Str}{p:Pos}{es:List Yh}(hc:fL X (.builtin id) r)(hd:CallD X o r)(hg:Gl X x)(hm:X.mg x=J)(hv:bootBuiltins x=U (.builtin id))(ha:PAd X (e::es) ra)
  (hn:autoParam (x≠"__name__") Za2._auto_1)(yt:autoParam ((x==("__debug__":Str))=M) Za2._auto_1)(he:autoParam (starEach (e::es) X.env=(M,eval e X.env)::starEach es X.env) Za1._auto_1)(xj:autoParam ((backTo pos (starEach es X.env)).any (·.1)=M) Za1._auto_1):
  PEd X (.Call (.Name x p) (e::es) [] pos) (bF o ra):=by
 refine(qe hc hg hm hv ha hn yt he xj).aJ ?_;rintro Z H Q ⟨H0,eC,env,rv,E,e,k⟩;obtain⟨rs,yj,e⟩:=eh e;exact⟨H0,eC,env,rs,E,yj,λvs H1 s1 Rs=>hd _ H1 _ vs rv Q (qB Rs) e λv H2 s2 R2=>k v H2 (s1.trans s2) (R2.ok s1)⟩
def wW(hc:fL X (.type T) r)(hd:CallD X o r)(hg:Gl X x)(hm:X.mg x=J)(hv:bootBuiltins x=U (.type T))(ha:PAd X (e::es) ra)
  (hn:autoParam (x≠"__name__") Za2._auto_1)(yt:autoParam ((x==("__debug__":Str))=M) Za2._auto_1)(he:autoParam (starEach (e::es) X.env=(M,eval e X.env)::starEach es X.env) Za1._auto_1)(xj:autoParam ((backTo pos (starEach es X.env)).any (·.1)=M) Za1._auto_1):
  PEd X (.Call (.Name x p) (e::es) [] pos) (bF o ra):=by
 refine(nV hc hg hm hv ha hn yt he xj).aJ ?_;rintro Z H Q ⟨H0,eC,env,rv,E,e,k⟩;obtain⟨rs,yj,e⟩:=eh e;exact⟨H0,eC,env,rs,E,yj,λvs H1 s1 Rs=>hd _ H1 _ vs rv Q (qB Rs) e λv H2 s2 R2=>k v H2 (s1.trans s2) (R2.ok s1)⟩
def ff{R:D->V->Prop}{d:D}{vs:List V}(h:Paired R [d] vs):∃v,vs=[v]/\R d v:=by
 cases h with
 |cons h t=>cases t;exact⟨_,rfl,h⟩
def KO{R:D->V->Prop}{d d2:D}{vs:List V}(h:Paired R [d,d2] vs):∃v w,vs=[v,w]/\R d v/\R d2 w:=by
 cases h with
 |cons h t=>cases t with
  |cons h2 t=>cases t;exact⟨_,_,rfl,h,h2⟩
def ES:CallD X cA (λxs H Q=>∃x n,xs=[x]/\R7 X.K x H n/\Q (.int n) H):=by
 intro F H ds vs rv Q ps e k;unfold cA at e;split at e
 .cases e;obtain⟨v,rfl,i⟩:=ff ps;cases i with
  |lst h r=>exact⟨_,_,rfl,.inl ⟨_,.inl h,r.1⟩,k _ H bG (.int _)⟩
 .cases e;obtain⟨v,rfl,i⟩:=ff ps;cases i with
  |tup h r=>exact⟨_,_,rfl,.inr ⟨_,SqT.of h,r.1⟩,k _ H bG (.int _)⟩
 .split at e
  .rename_i q;cases e;obtain⟨v,rfl,i⟩:=ff ps;cases i;exact⟨_,_,rfl,⟨by rw[<-eQ];exact q,rfl⟩,k _ H bG (.int _)⟩
  .cases e
 .cases e;obtain⟨v,rfl,i⟩:=ff ps;cases i with
  |scr h=>exact⟨_,_,rfl,.inl ⟨_,h.sq,by simp⟩,k _ H bG (.int _)⟩
 .cases e;obtain⟨v,rfl,i⟩:=ff ps;cases i with
  |fl h r=>exact⟨_,_,rfl,.inl ⟨_,.inl (.inr ⟨_,h⟩),r.1⟩,k _ H bG (.int _)⟩
 .cases e
def Bw:CallD X tZ (λxs H Q=>∃i j,xs=[.int i,.int j]/\Q (.int (if j<i then j else i)) H):=by
 intro F H ds vs rv Q ps e k;unfold tZ at e;split at e
 .cases e;obtain⟨v,w,rfl,i1,i2⟩:=KO ps;cases i1;cases i2
  exact⟨_,_,rfl,k _ H bG (.int _)⟩
 .cases e
def wX:CallD X dw (λxs H Q=>∃p ys,xs=[.ref p]/\((SqL X.K H p ys/\∀l,H l=J->Q (.ref l) (upd H l (.tup ys)))\/(SqT X.K H p ys/\Q (.ref p) H))):=by
 intro F H ds vs rv Q ps e k;unfold dw at e;split at e
 .cases e;obtain⟨v,rfl,i⟩:=ff ps;cases i with
  |lst h r=>
   refine⟨_,_,rfl,.inl ⟨.inl h,λl n=> ?_⟩⟩;exact k _ _ (aX n) (fw n r)
 .cases e;obtain⟨v,rfl,i⟩:=ff ps;cases i with
  |tup h r=>exact⟨_,_,rfl,.inr ⟨SqT.of h,k _ H bG (.tup h r.1 r.2)⟩⟩
 .cases e
end
section
def eG{α:Type}{l:List α}{i j:Nat}{x y:α}(e:(l.set i x)[j]? =U y):(i=j/\y=x)\/(i≠j/\l[j]? =U y):=by
 by_cases h:i=j
 .subst h;have hi:i<l.length:=by have:=(Gak.mp e).1;simpa using this
  simp_all
 .rw[Gam h] at e;exact .inr ⟨h,e⟩
def set_same{α:Type}{l:List α}{i:Nat}{x:α}(e:l[i]? =U x):l.set i x=l:=by
 apply GcL;intro j;by_cases h:i=j
 .subst h;rw[Gbl (Gak.mp e).1,e]
 .simp_all
def cM{α:Type}{l:List α}{i:Nat}{x:α}(h:i<l.length):(l.set i x)[i]? =U x:=Gbl h
variable{env:Env}
def ik(h:b5 (env.set i (U (.sh d)))[j]?):i≠j/\b5 env[j]? :=by
 by_cases q:i=j
 .subst q;by_cases z:i<env.length
  .rw[cM z] at h;exact h.elim
  .rw[GbE (by simpa using Nat.le_of_not_lt z)] at h;exact h.elim
 .rw[Gam q] at h;exact⟨q,h⟩
def aw.lF{K:ak}{Z:St}(E:aw K H0 eC env Z H)(r:Rep K (Cln eC env Z) H d v):aw K H0 eC (env.set i (U (.sh d))) (Z.set i (U v)) H:=by
 have xf:∀b,Cln eC env Z b->Cln eC (env.set i (U (.sh d))) (Z.set i (U v)) b:=λb ⟨h1,h2⟩=> ⟨h1,λj t e=>by
  obtain⟨q,t⟩:=ik t;rw[Gam q] at e;exact h2 j t e⟩
 refine⟨E.same,by simp[E.len],E.bad,λj dj e=> ?_,λj dj e=> ?_,λj dj e=> ?_,λj k b t1 t2 e1 e2=> ?_⟩
 .rcases eG e with⟨q,e⟩| ⟨q,e⟩
  .cases e;subst q;have hi:i<env.length:=by have:=(Gak.mp e);simpa using this.1
   exact⟨v,cM (by rw[<-E.len];exact hi),r.imp xf⟩
  .obtain⟨w,h1,h2⟩:=E.sh j dj e;exact⟨w,by rw[Gam q];exact h1,h2.imp xf⟩
 .have e' :i≠j/\(env[j]? =U (U (.own dj))\/env[j]? =U (U (.lok dj))):=by
   rcases e with e|e
   .rcases eG e with⟨q,e⟩| ⟨q,e⟩
    .cases e
    .exact⟨q,.inl e⟩
   .rcases eG e with⟨q,e⟩| ⟨q,e⟩
    .cases e
    .exact⟨q,.inr e⟩
  obtain⟨b,h1,h2,h3,h4,h5,h6⟩:=E.ow j dj e'.2;exact⟨b,by rw[Gam e'.1];exact h1,h2,h3,h4,h5,h6.imp xf⟩
 .rcases eG e with⟨q,e⟩| ⟨q,e⟩
  .cases e
  .obtain⟨b,h1,hw,h2,h3⟩:=E.bo j dj e;exact⟨b,by rw[Gam q];exact h1,hw,h2,h3.imp xf⟩
 .obtain⟨q1,yV⟩:=ik t1.top;obtain⟨q2,t2⟩:=ik t2;rw[Gam q1] at e1 t1;rw[Gam q2] at e2;exact E.dj j k b t1 t2 e1 e2
def Stp.lF{Z:St}:Stp env Z H (env.set i (U (.sh d))) (Z.set i (U v)) H:=⟨λ_ _ e _=>e,λb ⟨j,h,e⟩=>by
 have h' :=h.ol.top;obtain⟨q,_⟩:=ik h';rw[Gam q] at h e;exact .inl ⟨j,h,e⟩,λj h=>by
 obtain⟨q,_⟩:=ik h.top;rw[Gam q,Gam q];exact⟨rfl,rfl⟩⟩
def j4(h:b5 (env.set i (U (.own d)))[j]?)(hi:i<env.length):i=j\/(i≠j/\b5 env[j]?):=by
 by_cases q:i=j
 .exact .inl q
 .rw[Gam q] at h;exact .inr ⟨q,h⟩
def aw.Hr{K:ak}{H0 H H' :Hp}{eC:Yd->Prop}{Z:St}{d:D}(E:aw K H0 eC env Z H)(hi:i<env.length)(n0:H0 a=J)(nb:¬eC a)(w:Wr H' a)(t:d.top=O)(s:cb H0 H')(bd:∀b,eC b->H' b≠J)
  (ne:∀j b,j≠i->b5 env[j]? ->Z[j]? =U (U (.ref b))->b≠a/\H' b=H b)
  (inn:Inn K (Cln eC (env.set i (U (.own d))) (Z.set i (U (.ref a)))) H' d (.ref a))
  (xf:∀b,Cln eC env Z b->H b≠J->Cln eC (env.set i (U (.own d))) (Z.set i (U (.ref a))) b)
  (dN:ij (Cln eC env Z) H H'):
  aw K H0 eC (env.set i (U (.own d))) (Z.set i (U (.ref a))) H' :=by
 have keep:∀{j:Nat} {b:Yd} {dj:D},j≠i->b5 env[j]? ->Z[j]? =U (U (.ref b))->Inn K (Cln eC env Z) H dj (.ref b)->Inn K (Cln eC (env.set i (U (.own d))) (Z.set i (U (.ref a)))) H' dj (.ref b):=λ{j b dj} hj tj ej h=>
  h.gen dN xf λb' eb _ o e=>by cases eb;rw[(ne j b hj tj ej).2];exact e
 refine⟨s,by simp[E.len],bd,λj dj e=> ?_,λj dj e=> ?_,λj dj e=> ?_,λj k b t1 t2 e1 e2=> ?_⟩
 .rcases eG e with⟨q,e⟩| ⟨q,e⟩
  .cases e
  .obtain⟨u,h1,h2⟩:=E.sh j dj e;exact⟨u,by rw[Gam q];exact h1,h2.gen dN xf⟩
 .have e' :(i=j/\dj=d)\/(i≠j/\(env[j]? =U (U (.own dj))\/env[j]? =U (U (.lok dj)))):=by
   rcases e with e|e
   .rcases eG e with⟨q,e⟩| ⟨q,e⟩
    .cases e;exact .inl ⟨q,rfl⟩
    .exact .inr ⟨q,.inl e⟩
   .rcases eG e with⟨q,e⟩| ⟨q,e⟩
    .cases e
    .exact .inr ⟨q,.inr e⟩
  rcases e' with⟨q,rfl⟩| ⟨q,e'⟩
  .subst q;exact⟨a,cM (by rw[<-E.len];exact hi),n0,nb,w,t,inn⟩
  .obtain⟨b,h1,h2,h3,h4,h5,h6⟩:=E.ow j dj e';have tj:b5 env[j]? :=by rcases e' with e' |e' <;>rw[e']<;>trivial
   refine⟨b,by rw[Gam q];exact h1,h2,h3, ?_,h5,keep (Ne.symm q) tj h1 h6⟩;unfold Wr;rw[(ne j b (Ne.symm q) tj h1).2];exact h4
 .rcases eG e with⟨q,e⟩| ⟨q,e⟩
  .cases e
  .obtain⟨b,h1,hw,h2,h3⟩:=E.bo j dj e;have tj:b5 env[j]? :=by rw[e];trivial
   refine⟨b,by rw[Gam q];exact h1, ?_,h2,keep (Ne.symm q) tj h1 h3⟩;unfold Wr;rw[(ne j b (Ne.symm q) tj h1).2];exact hw
 .rcases j4 t1.top hi with q1| ⟨q1,yV⟩
  .rcases j4 t2 hi with q2| ⟨q2,V2⟩
   .rw[<-q1,<-q2]
   .subst q1;rw[cM (by rw[<-E.len];exact hi)] at e1;cases e1;rw[Gam q2] at e2;exact absurd rfl (ne k a (Ne.symm q2) V2 e2).1
  .rcases j4 t2 hi with q2| ⟨q2,V2⟩
   .subst q2;rw[cM (by rw[<-E.len];exact hi)] at e2;cases e2;rw[Gam q1] at e1;exact absurd rfl (ne j a (Ne.symm q1) yV e1).1
   .rw[Gam q1] at e1 t1;rw[Gam q2] at e2;exact E.dj j k b t1 V2 e1 e2
def wY{Z:St}(hi:i<env.length)(hs:env.length=Z.length)(h:Cln eC env Z b)(hb:b≠a):Cln eC (env.set i (U (.own d))) (Z.set i (U (.ref a))) b:=⟨h.1,λj t e=>by
 rcases j4 t hi with q| ⟨q,t⟩
 .simp_all
 .rw[Gam q] at e;exact h.2 j t e⟩
def aw.qD{K:ak}{H:Hp}{Z:St}{d:D}(E:aw K H0 eC env Z H)(s:cb H H')(hi:i<env.length)(n:H a=J)(w:Wr H' a)(t:d.top=O)(X8:Inn K (λb=>Cln eC env Z b/\b≠a) H' d (.ref a)):
  aw K H0 eC (env.set i (U (.own d))) (Z.set i (U (.ref a))) H' :=by
 have xf:∀b,Cln eC env Z b->b≠a->Cln eC (env.set i (U (.own d))) (Z.set i (U (.ref a))) b:=λb h hb=>wY hi E.len h hb;have cln' :∀b,Cln eC env Z b->H b≠J->Cln eC (env.set i (U (.own d))) (Z.set i (U (.ref a))) b:=λb h hb=>xf b h λz=>hb (z▸n);refine E.Hr hi (E.same.free n) (λb=>E.bad a b n) w t (E.same.trans s) (λb h e=>E.bad b h (s.free e)) (λj b hj tj ej=> ?_) (X8.imp λb h=>xf b h.1 h.2) cln' (.XY s);have hb:=E.mZ tj ej;refine⟨λz=>hb (z▸n), ?_⟩;cases q:H b with
 |none=>exact absurd q hb
 |some o=>exact s b o q
def Stp.qD{Z:St}(s:cb H H')(hi:i<env.length)(hs:env.length=Z.length)(n:H a=J):Stp env Z H (env.set i (U (.own d))) (Z.set i (U (.ref a))) H' :=⟨λb o e _=>s b o e,λb ⟨j,h,e⟩=>by
 by_cases q:i=j
 .simp_all
 .rw[Gam q] at h e;exact .inl ⟨j,h,e⟩,λj h=>by
 by_cases q:i=j
 .subst q;rw[cM hi] at h;exact h.elim
 .rw[Gam q,Gam q];exact⟨rfl,rfl⟩⟩
def aw.change{K:ak}{i:Nat}{d' :D}(E:aw K H0 eC env Z H)(e:env[i]? =U (U (.own d)))(ea:Z[i]? =U (U (.ref a)))(wo:isW o)(t:d'.top=O)
  (inn:Inn K (Cln eC env Z) (upd H a o) d' (.ref a)):aw K H0 eC (env.set i (U (.own d'))) Z (upd H a o)/\Stp env Z H (env.set i (U (.own d'))) Z (upd H a o):=by
 have hi:=(Gak.mp e).1;obtain⟨a',h1,h2,h3,h4,h5,h6⟩:=E.ow i d (.inl e);rw[ea] at h1;cases h1;have hZ:=set_same ea;have hU:∀j,b5 (env.set i (U (.own d')))[j]? ↔b5 env[j]? :=λj=>by
  by_cases q:i=j
  .subst q;rw[cM hi,e];exact⟨λ_=>trivial,λ_=>trivial⟩
  .simp_all
 have clnE:∀b,Cln eC env Z b->Cln eC (env.set i (U (.own d'))) Z b:=λb h=> ⟨h.1,λj tj ej=>h.2 j ((hU j).mp tj) ej⟩;have ca:∀b,Cln eC env Z b->b≠a:=λb h z=>by subst z;exact h.2 i (by rw[e];trivial) ea
 have dN:ij (Cln eC env Z) H (upd H a o):=λb x hb q=>by
  have:b≠a:=by
   rintro rfl;rcases q with q|q
   .exact ca b q rfl
   .obtain⟨y,hy,wy⟩:=h4;rw[hb] at hy;cases hy;cases x<;>simp[isT] at q<;>exact wy
  rw[ar this];exact hb
 have keepA:∀b x,H b=U x->b≠a->(upd H a o) b=U x:=λb x hb hn=>by rw[ar hn];exact hb
 refine⟨?_,⟨λb x hb n=>keepA b x hb λz=>n ⟨i,by rw[e];trivial,by rw[z];exact ea⟩,λb ⟨j,h,ej⟩=> .inl ?_,λj h=> ?_⟩⟩
 .have:=E.Hr hi h2 h3 ⟨o,aF,wo⟩ t (λb x hb=>keepA b x (E.same b x hb) λz=>by rw[z,h2] at hb;cases hb)
   (λb hb z=>by
    by_cases q:b=a
    .lia
    .rw[ar q] at z;exact E.bad b hb z)
   (λj b hj tj ej=>by
    have:b≠a:=by rintro rfl;exact hj (E.dj i j b (by rw[e];trivial) tj ea ej).symm
    exact⟨this,by rw[ar this]⟩)
   (by rw[hZ];exact inn.imp clnE) (λb h _=>by rw[hZ];exact clnE b h) dN
  rw[hZ] at this;exact this
 .by_cases q:i=j
  .subst q;exact⟨i,by rw[e];trivial,ej⟩
  .rw[Gam q] at h;exact⟨j,h,ej⟩
 .by_cases q:i=j
  .subst q;rw[cM hi] at h;exact h.elim
  .rw[Gam q];exact⟨rfl,rfl⟩
end
section
variable{X:Cx}{b:Yh}
def Oq:lh X [] aE:=by
 refine K7.aJ ?_;rintro D Z H ⟨H0,eC,env,o,E,e,k⟩;cases e;exact k Z H E .refl
variable{st:Yl}
def KP{rest:List Yl}(h1:PSd X st s1)(h2:lh X rest s2):lh X (st::rest) (aj s1 s2):=by
 refine(mO h1 h2).aJ ?_;rintro D Z H ⟨H0,eC,env,o,E,e,k⟩;obtain⟨o1,h1,e⟩:=eh e;refine⟨H0,eC,env,o1,E,h1, ?_⟩;cases o1 with
 |nx e1=>
  intro Z1 H1 E1 p1;refine⟨H0,eC,e1,o,E1,e, ?_⟩;cases o with
  |nx e2=>exactλZ2 H2 E2 p2=>k Z2 H2 E2 (p1.trans p2)
  |bk e2=>exactλZ2 H2 E2 p2=>k Z2 H2 E2 (p1.trans p2)
  |ct e2=>exactλZ2 H2 E2 p2=>k Z2 H2 E2 (p1.trans p2)
  |ret d=>exact k
 |bk e1=>cases e;exact k
 |ct e1=>cases e;exact k
 |ret d=>cases e;exact k
def Ot(h1:PSd X st s1):lh X [st] s1:=uW h1
def Hs:PSd X (.Break pos) bkS:=by
 refine Gz.aJ ?_;rintro D Z H ⟨H0,eC,env,o,E,e,k⟩;cases e;exact k Z H E .refl
variable{d:D}
def KQ{K:ak}(i:Inn K F H' d v)(hd:d.imm=O):u4 K H0 H' d v:=by
 refine⟨λt=> ?_,(i.imm hd).inn⟩;cases d<;>simp[D.top] at t<;>simp at hd
def Ur{K:ak}{eD:List (Y×D)}(r:aZ K F H eD ws)(h:aB (eD.map (·.2))=O):aZ K F' H eD ws:=
 ⟨r.1,λi p q e1 e2=>(r.2 i p q e1 e2).imm (mY h i p.2 (by rw[Gap,e1];rfl))⟩
def CT{K:ak}{H0:Hp}(i:Inn K F H' d (.ref a))(hd:d.qx=O)(n:H0 a=J)(w:Wr H' a):u4 K H0 H' d (.ref a):=by
 refine⟨λ_=> ⟨a,rfl,n,w⟩, ?_⟩;cases i with
 |tup h r=>exact(Inn.imm (.tup h r) (by exact hd)).inn
 |scr h=>exact .scr h
 |fl h r=>exact(Inn.imm (.fl h r) (by exact hd)).inn
 |lst h r=>exact .lst h (r.imm hd)
 |dT h r=>exact .dT h (Ur r hd)
def Ou(he:PEd X e f):PSd X (.Return (U e) pos) (XR f):=by
 refine(GA he).aJ ?_;rintro D Z H ⟨H0,eC,env,o,E,e,k⟩;obtain⟨r,hr,e⟩:=eh e;split at e
 .rename_i ok;cases e;refine⟨H0,eC,env,r,E,hr,λv H1 s1 R=>k v H1 (E.same.trans s1) ?_⟩;obtain⟨kd,d⟩:=r;cases kd with
  |c=>exact KQ R.inn ok
  |tn=>
   have ii:=R.inn;obtain⟨a,rfl,n,w,t,i⟩:=R;exact CT ii ok (E.same.free n) w
  |to=>
   have ii:=R.inn;obtain⟨a,rfl,n,w,t,i⟩:=R;exact CT ii ok n w
  |tb=>exact absurd (show M=O from ok) Gaz
 .cases e
def S7(hc:PTd X c t)(ha:lh X xs s1)(hb:lh X ys s2):PSd X (.If c xs ys pos) (ifS t s1 s2):=by
 refine(QR hc ha hb).aJ ?_;rintro D Z H ⟨H0,eC,env,o,E,e,k⟩;obtain⟨x,hx,e⟩:=eh e;refine⟨H0,eC,env,x,E,hx,λH1 s1=> ?_⟩;have st:Stp env Z H env Z H1:= .XY s1;have fin:∀{s:DS},s env=U o->tS X s D Z H1:=λ{s} e=> ⟨H0,eC,env,o,E.mono s1,e,by
  cases o with
  |nx e2=>exactλZ2 H2 E2 p2=>k Z2 H2 E2 (st.trans p2)
  |bk e2=>exactλZ2 H2 E2 p2=>k Z2 H2 E2 (st.trans p2)
  |ct e2=>exactλZ2 H2 E2 p2=>k Z2 H2 E2 (st.trans p2)
  |ret d=>exact k⟩
 dsimp only;cases x with
 |true=>rw[Gan rfl];rw[Gan rfl] at e;exact fin e
 |false=>rw[Gah Gaz];rw[Gah Gaz] at e;exact fin e
def Bx{X:Cx}{env:Env}{Z:St}(E:aw X.K H0 eC env Z H)(hl:Z.length=X.N.length)(hi:X.N[i]? =U x):i<env.length:=by
 rw[E.len,hl];exact(Gak.mp hi).1
def Ht{pos:Pos}(hN:X.N.Nodup)(hi:X.N[i]? =U x)(hx:Loc X.env.scope x)(he:PEd X e f)(hs:autoParam (swapsWith e (U (.Name x pos')) pos.line X.env=pure M) Za1._auto_1)
  (hf:autoParam (X.fn x=O\/X.env.scope.names.lookup x=U .local) Za3._auto_1):PSd X (.Assign [.Name x pos'] e pos) (av i f):=by
 intro e8 s Z H D I hw;have hl:=I.len;refine(Bi hN hi hx he hs hf) e8 s Z H D I ?_;obtain⟨H0,eC,env,o,E,e,k⟩:=hw;obtain⟨r,hr,e⟩:=eh e;obtain⟨e',xZ,rfl⟩:=Gaa.mp e;have hie:=Bx E hl hi;refine⟨H0,eC,env,r,E,hr,λv H1 s1 R=> ?_⟩;have st:Stp env Z H env Z H1:= .XY s1;obtain⟨kd,d⟩:=r;cases kd with
 |c=>
  cases xZ;exact k _ H1 ((E.mono s1).lF R) (st.trans .lF)
 |tn=>
  cases xZ;obtain⟨a,rfl,n,w,t,i⟩:=R;exact k _ H1 (E.qD s1 hie n w t i) (.qD s1 hie E.len n)
 |to=>cases xZ
 |tb=>cases xZ
def By(K:ak)(F N:Yd->Prop)(XI:It)(ds:List D)(H1:Hp):Prop:=
 ∀Hi:Hp,(∀b o,H1 b=U o->N b->Hi b=U o)->(∀(i:Nat) d,ds[i]? =U d->XI.go i Hi/\∀x H2,XI.yld i Hi x H2->cb Hi H2/\Rep K F H2 d x)/\XI.stop ds.length Hi
def tI(X:Cx)(src:DI):TI:=λZ H R=>∃H0 eC env ds,aw X.K H0 eC env Z H/\src env=U ds/\∀XI H',cb H H' ->By X.K (λb=>Cln eC env Z b/\H' b≠J) (λb=>¬Ow env Z b) XI ds H' ->R XI H'
abbrev PId(X:Cx)(tg iter:Yh)(src:DI):Prop:=PI X tg iter (tI X src)
def _root_.L2.PI.aJ(h:PI X tg iter w')(i:∀Z H R,w Z H R->w' Z H R):PI X tg iter w:=λe8 s Z H R I q=>h e8 s Z H R I (i Z H R q)
def aw.lock{K:ak}(E:aw K H0 eC env Z H)(l:Option Nat):aw K H0 eC (bD l env) Z H/\(∀b,Ow (bD l env) Z b->Ow env Z b)/\∀i:Nat,b5 (bD l env)[i]? ↔b5 env[i]? :=by
 cases l with
 |none=>exact⟨E,λ_ h=>h,λ_=>Iff.rfl⟩
 |some j=>
  unfold bD;dsimp only;split
  .rename_i d q;have hj:j<env.length:=(Gak.mp q).1;have hU:∀i,b5 (env.set j (U (.lok d)))[i]? ↔b5 env[i]? :=λi=>by
    by_cases z:j=i
    .subst z;rw[cM hj,q];exact⟨λ_=>trivial,λ_=>trivial⟩
    .rw[Gam z]
   have xf:∀b,Cln eC env Z b->Cln eC (env.set j (U (.lok d))) Z b:=λb h=> ⟨h.1,λi t e=>h.2 i ((hU i).mp t) e⟩;refine⟨⟨E.same,by simpa using E.len,E.bad,λi di e=> ?_,λi di e=> ?_,λi di e=> ?_,λi k b t1 t2 e1 e2=> ?_⟩,λb ⟨i,h,e⟩=> ?_,hU⟩
   .rcases eG e with⟨z,e⟩| ⟨z,e⟩
    .cases e
    .obtain⟨v,h1,h2⟩:=E.sh i di e;exact⟨v,h1,h2.imp xf⟩
   .have e' :env[i]? =U (U (.own di))\/env[i]? =U (U (.lok di)):=by
     rcases e with e|e
     .rcases eG e with⟨z,e⟩| ⟨z,e⟩
      .cases e
      .exact .inl e
     .rcases eG e with⟨z,e⟩| ⟨z,e⟩
      .cases e;subst z;exact .inl q
      .exact .inr e
    obtain⟨b,h1,h2,h3,h4,h5,h6⟩:=E.ow i di e';exact⟨b,h1,h2,h3,h4,h5,h6.imp xf⟩
   .rcases eG e with⟨z,e⟩| ⟨z,e⟩
    .cases e
    .obtain⟨b,h1,hw,h2,h3⟩:=E.bo i di e;exact⟨b,h1,hw,h2,h3.imp xf⟩
   .have yV :wN env[i]? :=by
     by_cases z:j=i
     .subst z;rw[q];trivial
     .rw[Gam z] at t1;exact t1
    exact E.dj i k b yV ((hU k).mp t2) e1 e2
   .by_cases z:j=i
    .subst z;rw[cM hj] at h;exact h.elim
    .rw[Gam z] at h;exact⟨i,h,e⟩
  .exact⟨E,λ_ h=>h,λ_=>Iff.rfl⟩
def aw.free{K:ak}(E:aw K H0 eC env Z H)(l:Option Nat):aw K H0 eC (jg l env) Z H:=by
 cases l with
 |none=>exact E
 |some j=>
  unfold jg;dsimp only;split
  .rename_i d q;have hj:=(Gak.mp q).1;have hU:∀i,b5 (env.set j (U (.own d)))[i]? ↔b5 env[i]? :=λi=>by
    by_cases z:j=i
    .subst z;rw[cM hj,q];exact⟨λ_=>trivial,λ_=>trivial⟩
    .simp_all
   have xf:∀b,Cln eC env Z b->Cln eC (env.set j (U (.own d))) Z b:=λb h=> ⟨h.1,λi t e=>h.2 i ((hU i).mp t) e⟩;refine⟨E.same,by simpa using E.len,E.bad,λi di e=> ?_,λi di e=> ?_,λi di e=> ?_,λi k b t1 t2 e1 e2=> ?_⟩
   .rcases eG e with⟨z,e⟩| ⟨z,e⟩
    .cases e
    .obtain⟨v,h1,h2⟩:=E.sh i di e;exact⟨v,h1,h2.imp xf⟩
   .have e' :env[i]? =U (U (.own di))\/env[i]? =U (U (.lok di)):=by
     rcases e with e|e
     .rcases eG e with⟨z,e⟩| ⟨z,e⟩
      .cases e;subst z;exact .inr q
      .exact .inl e
     .rcases eG e with⟨z,e⟩| ⟨z,e⟩
      .cases e
      .exact .inr e
    obtain⟨b,h1,h2,h3,h4,h5,h6⟩:=E.ow i di e';exact⟨b,h1,h2,h3,h4,h5,h6.imp xf⟩
   .rcases eG e with⟨z,e⟩| ⟨z,e⟩
    .cases e
    .obtain⟨b,h1,hw,h2,h3⟩:=E.bo i di e;exact⟨b,h1,hw,h2,h3.imp xf⟩
   .have yV :wN env[i]? :=by
     by_cases z:j=i
     .subst z;rw[q]
      trivial
     .simp_all
    exact E.dj i k b yV ((hU k).mp t2) e1 e2
  .exact E
end
section
variable{X:Cx}{a b:Yh}
def wZ(h:∀j,l=U j->j≠i):(bD l env)[i]? =env[i]? :=by
 unfold bD;split
 .rfl
 .rename_i j;split
  .simp_all
  .rfl
def Stp.loop(p:Stp (bD l env) Z H xA ZN HN)(lo:∀b,Ow (bD l env) Z b->Ow env Z b):Stp env Z H (if u0 l env then jg l xA else xA) ZN HN:=by
 have same:u0 l env=M->bD l env=env:=λh=>by
  unfold u0 at h;unfold bD;split at h
  .rfl
  .split at h
   .cases h
   .rfl
 cases ho:u0 l env with
 |false=>
  simp_all
 |true=>
  rw[Gan rfl];unfold u0 at ho;split at ho
  .cases ho
  .rename_i j;split at ho
   .rename_i d q;have hj:=(Gak.mp q).1;have lockj:(bD (U j) env)[j]? =U (U (.lok d)):=by unfold bD;simp only[q];exact cM hj
    have other:∀i,j≠i->(bD (U j) env)[i]? =env[i]? :=λi hi=>wZ λk e=>by cases e;exact hi
    refine⟨λb o e n=>p.keep b o e λz=>n (lo b z),λb ⟨i,h,e⟩=> ?_,λi h=> ?_⟩
    .by_cases z:j=i
     .subst z;unfold jg at h;dsimp only at h;split at h
      .rename_i d' q';obtain⟨h1,h2⟩:=p.lk j (by rw[q'];trivial);rw[h2] at e;exact .inl ⟨j,by rw[q];trivial,e⟩
      .rcases p.ow b ⟨j,h,e⟩ with w|w
       .exact .inl (lo b w)
       .exact .inr w
     .have h' :isO xA[i]? :=by
       unfold jg at h;dsimp only at h;split at h
       .rw[Gam z] at h;exact h
       .exact h
      rcases p.ow b ⟨i,h',e⟩ with w|w
      .exact .inl (lo b w)
      .exact .inr w
    .by_cases z:j=i
     .subst z;unfold jg at h⊢;dsimp only at h⊢;split at h
      .rename_i d' q';have hj' :=(Gak.mp q').1;rw[cM hj'] at h;exact h.elim
      .rename_i q';obtain⟨h1,_⟩:=p.lk j h;rw[lockj] at h1;exact absurd h1 (q' d)
     .have hN:(jg (U j) xA)[i]? =xA[i]? :=by
       unfold jg;dsimp only;split
       .rw[Gam z]
       .rfl
      rw[hN] at h⊢;obtain⟨h1,h2⟩:=p.lk i h;rw[other i z] at h1;exact⟨h1,h2⟩
   .cases ho
def u9{b:Yd}(p:Stp env Z H eP Z' H')(h:Cln eC env Z b)(hb:H b≠J):Cln eC eP Z' b:=⟨h.1,λi t e=>by
 rcases u3 t with o|o
 .rcases p.ow b ⟨i,o,e⟩ with⟨j,w,ej⟩|w
  .exact h.2 j w.ol.top ej
  .exact hb w
 .obtain⟨h1,h2⟩:=p.lk i o;rw[h1] at t;rw[h2] at e;exact h.2 i t e⟩
def Ov(hp:PassesOwn (model X.prog X.w) X.A X.env X.xe)(hc:X.calm=O)(hi:PId X tg iter src)(hg:PGd X tg gd)(hb:lh X body sb)
  (hs:∀x,foldedSetIterable iter X.env x=pure x:=by intro _;rfl):PSd X (.For tg iter body [] pos) (d9 l src gd sb):=by
 refine(GG hp hc hi hg hb hs).aJ ?_;rintro D Z H ⟨H0,eC,env,o,E,e,k⟩;obtain⟨ds,xq,e⟩:=eh e;obtain⟨o1,Vq,rfl⟩:=Gaa.mp e;obtain⟨EL,lo,_⟩:=E.lock l;refine⟨H0,eC,bD l env,ds,EL,xq,λXI H1 sH it=> ?_⟩;have E1:=EL.mono sH;have st1:Stp env Z H env Z H1:= .XY sH;have nxOk:∀xA ZN HN,o1= .nx xA->aw X.K H0 eC xA ZN HN->Stp (bD l env) Z H1 xA ZN HN->D.nx ZN HN:=λxA ZN HN eo EN pN=>by
  subst eo;refine k ZN HN ?_ (st1.trans (pN.loop lo));split
  .exact EN.free l
  .exact EN
 refine⟨λi m Z' H' =>m=ds.length -i/\i<=ds.length/\∃eK,aw X.K H0 eC eK Z' H' /\Stp (bD l env) Z H1 eK Z' H' /\XS gd sb (ds.drop i) eK=U o1,
  ⟨ds.length,by simp,Gba _,_,E1,.refl,by simpa using Vq⟩, ?_⟩
 rintro i m Z' H' ⟨rfl,hle,eK,Ei,pi,ei⟩;obtain⟨items,stop⟩:=it H' λb o hb n=>pi.keep b o hb n;by_cases eX:i<ds.length
 .obtain⟨go,yld⟩:=items i ds[i] (by simp);refine .inr ⟨go,λZ2 H2=>(ds.length -(i+1))=ds.length -(i+1)/\i+1<=ds.length/\∃eK,aw X.K H0 eC eK Z2 H2/\Stp (bD l env) Z H1 eK Z2 H2/\XS gd sb (ds.drop (i+1)) eK=U o1,λZ2 H2 q=> ⟨_,by lia,q⟩,λx H2 y=> ?_⟩;obtain⟨s2,rep⟩:=yld x H2 y;have hd:=GbQ eX;rw[hd] at ei;obtain⟨e2,yA,ei⟩:=eh ei;obtain⟨o2,VA,ei⟩:=eh ei;refine⟨H0,eC,eK,ds[i],e2,Ei.mono s2,yA,rep.imp λb q=>u9 pi q.1 q.2,λZ3 H3 E3 p3=> ?_⟩;have p3' :=(pi.trans (.XY s2)).trans p3;refine⟨H0,eC,e2,o2,E3,VA, ?_⟩;cases o2 with
  |nx e4=>exactλZ4 H4 E4 p4=> ⟨rfl,eX,e4,E4,p3'.trans p4,ei⟩
  |ct e4=>exactλZ4 H4 E4 p4=> ⟨rfl,eX,e4,E4,p3'.trans p4,ei⟩
  |bk e4=>
   cases ei
   exactλZ4 H4 E4 p4=>nxOk e4 Z4 H4 rfl E4 (p3'.trans p4)
  |ret d=>
   cases ei;exact k
 .have hi:i=ds.length:=by lia
  subst hi;rw[List.drop_length] at ei;cases ei;exact .inl ⟨stop,nxOk eK Z' H' rfl Ei pi⟩
def Hu(hp:PassesOwn (model X.prog X.w) X.A X.env X.xe)(hc:PTd X c t)(hb:lh X body sb):PSd X (.While c body [] pos) (qz t sb):=by
 refine(GC hp hc hb).aJ ?_;rintro D Z H ⟨H0,eC,env,o,E,e,k⟩;refine⟨λm Z' H' =>∃eK,aw X.K H0 eC eK Z' H' /\Stp env Z H eK Z' H' /\ie t sb m eK=U o,⟨100000,env,E,.refl,e⟩, ?_⟩;rintro m Z' H' ⟨eK,Ei,pi,ei⟩;cases m with
 |zero=>cases ei
 |succ m=>
  obtain⟨bb,Vz,ei⟩:=eh ei;refine⟨H0,eC,eK,bb,Ei,Vz,λH1 s1=> ?_⟩;have pi1:=pi.trans (.XY s1);cases bb with
  |true=>
   obtain⟨o2,VA,ei⟩:=eh ei;refine⟨λZ2 H2=>∃eK,aw X.K H0 eC eK Z2 H2/\Stp env Z H eK Z2 H2/\ie t sb m eK=U o,λZ2 H2 q=> ⟨m,by lia,q⟩,H0,eC,eK,o2,Ei.mono s1,VA, ?_⟩;cases o2 with
   |nx e4=>exactλZ4 H4 E4 p4=> ⟨e4,E4,pi1.trans p4,ei⟩
   |ct e4=>exactλZ4 H4 E4 p4=> ⟨e4,E4,pi1.trans p4,ei⟩
   |bk e4=>cases ei;exactλZ4 H4 E4 p4=>k Z4 H4 E4 (pi1.trans p4)
   |ret d=>cases ei;exact k
  |false=>
   cases ei;exact k Z' H1 (Ei.mono s1) pi1
def aw.fB{K:ak}{H:Hp}{b:Yd}(E:aw K H0 eC env Z H)(h:Ow env Z b)(hb:H b=U o):¬isT o:=by
 intro q;obtain⟨i,h1,h2⟩:=h;obtain⟨y,hy,wy⟩:=E.MX h1.ol.top h2;rw[hb] at hy;cases hy
 cases o<;>simp[isT] at q<;>exact wy
def aw.kN{K:ak}{H Hi:Hp}(E:aw K H0 eC env Z H)(keep:∀b o,H b=U o->¬Ow env Z b->Hi b=U o)(r:Rep K (Cln eC env Z) H d v):
  Rep K (λb=>Cln eC env Z b/\H b≠J) Hi d v:=
 r.gen (λb o hb q=>keep b o hb (by
  rcases q with q|q
  .exactλ⟨i,h1,h2⟩=>q.2 i h1.ol.top h2
  .exactλw=>E.fB w hb q)) λb q hb=> ⟨q,hb⟩
def Us(K:ak)(tl:TE):TI:=λZ H R=>tl Z H λx H1=>∃a,x= .ref a/\(((∃xs,SqL K H1 a xs)/\R (Itl K a) H1)\/((∃xs,SqT K H1 a xs)/\R (Itt K a) H1))
def Hv(hl:PE X l tl):PI X tg l (Us X.K tl):=by
 intro e8 s Z H R I h;refine thn (hl e8 s Z H _ I h) λv s1 ⟨x,H1,I1,r1,q1⟩=> ?_;obtain⟨a,e,q1⟩:=q1;subst e;cases r1;have fp:∀b∈[s1.heap.objs.size],lV X e8 H1 b:=λb hb=>by
  have e:b=s1.heap.objs.size:=by simpa using hb
  subst e;exact I1.Es (Gao _) (I1.hok.fresh (Gao _))
 rcases q1 with⟨⟨xs,hq⟩,q⟩| ⟨⟨xs,hq⟩,q⟩
 .obtain⟨its,rv,p,hz⟩:=I1.list hq;refine wpAny_pyIter_list p.isList ?_;exact⟨s1.heap.objs.size,[s1.heap.objs.size],_,_,H1,rfl,I1.kept λb o e=>Gag _ e,Et a _,⟨_,Gay _ rfl,rfl,rfl⟩,fp,q⟩
 .obtain⟨its,rv,p,hz⟩:=I1.tuple hq;refine Gdj (show s1.heap.IsTuple a its.toArray from p) ?_;exact⟨s1.heap.objs.size,[s1.heap.objs.size],_,_,H1,rfl,I1.kept λb o e=>Gag _ e,Bj a _,⟨_,Gay _ rfl,rfl,rfl⟩,fp,q⟩
theorem CU{d:D}(E:aw X.K H0 eC env Z H)(ht:d.top=O)(hk:kd≠ .to)(Rv:iX X.K H0 eC env Z H H1 ⟨kd,d⟩ v):∀a,v= .ref a->¬Ow env Z a:=λa ea=>by
 cases kd with
 |c=>
  have Rv' :=Rv;have fin:∀b,Cln eC env Z b->¬Ow env Z b:=λb f ⟨i,h1,h2⟩=>f.2 i h1.ol.top h2;cases Rv' with
  |tup h l r=>simp[D.top] at ht
  |lst f h l r=>cases ea;exact fin _ f
  |dT f h l r=>cases ea;exact fin _ f
  |non=>cases ea
  |bl b=>cases ea
  |int i=>cases ea
  |str x=>cases ea
  |scr h=>simp[D.top] at ht
  |fl _ _=>simp[D.top] at ht
 |tn=>
  obtain⟨a',e',n,_⟩:=Rv;rw[e'] at ea;cases ea
  exactλ⟨i,h1,h2⟩=>E.mZ h1.ol.top h2 n
 |to=>exact absurd rfl hk
 |tb=>exact Rv.2 a ea ht
def Ox(he:PEd X e f):PId X tg e (dz f):=by
 refine(Hv he).aJ ?_;rintro Z H R ⟨H0,eC,env,ds,E,hf,k⟩;obtain⟨⟨kd,d⟩,hr,hf⟩:=eh hf;split at hf
 .cases hf
 rename_i hk;refine⟨H0,eC,env,_,E,hr,λv H1 s1 Rv=> ?_⟩;have ii:=Rv.inn;have E1:=E.mono s1;split at hf
 .rename_i xs hd;cases hf;have xb :=hd;subst xb;have hno:=CU E rfl hk Rv;cases ii with
  | @lst la lv _ h r=>
   refine⟨_,rfl,.inl ⟨⟨_,.inl h⟩,k _ H1 s1 λHi keep=> ?_⟩⟩;have hh:Rd Hi la (.lst lv):=by
    rcases h with h| ⟨o,h⟩
    .exact .inl (keep _ _ h (hno _ rfl))
    .exact .inr ⟨o,keep _ _ h (hno _ rfl)⟩
   refine⟨λi d hd=> ?_,⟨_,.inl hh,by rw[r.1];exact Gao _⟩⟩;obtain⟨x,h1,h2⟩:=r.get hd;refine⟨⟨_,x,.inl hh,h1⟩,λy H2 ⟨e2,e3⟩=> ?_⟩;subst e2;refine⟨bG, ?_⟩;have:=e3 _ (.inl hh);rw[h1] at this;cases this;exact E1.kN keep h2
 .rename_i xs hd;cases hf;have xb :=hd;subst xb;cases ii with
  | @tup la lv _ h r=>
   refine⟨_,rfl,.inr ⟨⟨_,SqT.of h⟩,k _ H1 s1 λHi keep=> ?_⟩⟩;have hh:=keep _ _ h λw=>E1.fB w h trivial;refine⟨λi d hd=> ?_,⟨_,SqT.of hh,by rw[r.1];exact Gao _⟩⟩;obtain⟨x,h1,h2⟩:=r.get hd;refine⟨⟨_,x,SqT.of hh,h1⟩,λy H2 ⟨e2,e3⟩=> ?_⟩;subst e2;refine⟨bG, ?_⟩;have:=e3 _ (SqT.of hh);rw[h1] at this;cases this;exact E1.kN keep h2
 .rename_i ns hd;cases hf;have xb :=hd;subst xb;cases ii with
  | @scr la _ h=>
   refine⟨_,rfl,.inl ⟨⟨_,h.sq⟩,k _ H1 s1 λHi keep=> ?_⟩⟩;have hh:Scr X.K Hi la ns:=by
    rcases h with⟨o,h⟩|h
    .exact .inl ⟨o,keep _ _ h λw=>E1.fB w h trivial⟩
    .exact .inr h
   refine⟨λi d hd=> ?_,⟨_,hh.sq,by simp⟩⟩;rw[Gap] at hd;cases q:ns[i]? with
   |none=>rw[q] at hd;cases hd
   |some n=>
    rw[q] at hd;cases hd;refine⟨⟨_,.int n,hh.sq,by rw[Gap,q];rfl⟩,λy H2 ⟨e2,e3⟩=> ?_⟩;subst e2;have:=e3 _ hh.sq;rw[Gap,q] at this;cases this;exact⟨bG,.int n⟩
 .cases hf
def kg{lo:Int}{n:Nat}{F N:Yd->Prop}:By X.K F N (Itr lo n) (aG lo n) H1:=λHi _=>by
 refine⟨λi d hd=> ?_,by show n<=(aG lo n).length;simp[aG]⟩;have hi:i<n:=by have:=(Gak.mp hd).1;simpa[aG] using this
 refine⟨hi,λx H2 ⟨e1,e2⟩=> ?_⟩;subst e1 e2;have:d= .int (lo+(i:Int)):=by
  unfold aG at hd;rw[Gap,GdT hi] at hd;cases hd;rfl
 subst this;exact⟨bG,.int _⟩
def fC(h:aW i=O): -(2^62)<=i/\i<2^62:=by
 unfold aW at h;lia
def ET(hg:Gl X "range")(hm:X.mg "range"=J)(he:PEd X e f)(hs:autoParam (starEach [e] X.env=[(M,eval e X.env)]) Za1._auto_1):PId X tg (.Call (.Name "range" p) [e] [] pos) (cK f):=by
 refine(Eu hg hm (cL he gI hs) hs).aJ ?_;rintro Z H R ⟨H0,eC,env,ds,E,hf,k⟩;obtain⟨r,hr,hf⟩:=eh hf;split at hf
 .rename_i j hd;split at hf
  .rename_i hz;cases hf;refine⟨H0,eC,env,[r],E,by unfold aa ag;rw[hr];rfl,λvs H1 s1 Rs=> ?_⟩;cases Rs with
   |cons R1 t=>
    cases t;have i:=R1.inn;rw[hd] at i;cases i;exact⟨j,rfl,(fC hz).1,(fC hz).2,k _ H1 s1 kg⟩
  .cases hf
 .cases hf
def EU(hg:Gl X "range")(hm:X.mg "range"=J)(ha:PEd X a f)(hb:PEd X b g)(hs:autoParam (starEach [a,b] X.env=[(M,eval a X.env),(M,eval b X.env)]) Za1._auto_1)(xc:autoParam (starEach [b] X.env=[(M,eval b X.env)]) Za1._auto_1):
  PId X tg (.Call (.Name "range" p) [a,b] [] pos) (va f g):=by
 refine(Ew hg hm (cL ha (cL hb gI xc) (by rw[hs,xc])) hs xc).aJ ?_;rintro Z H R ⟨H0,eC,env,ds,E,hf,k⟩;obtain⟨r,hr,hf⟩:=eh hf;obtain⟨r',yk,hf⟩:=eh hf;split at hf
 .rename_i i j hd xb;split at hf
  .rename_i hz;rw[Gai] at hz;cases hf;refine⟨H0,eC,env,[r,r'],E,by simp only[aa,hr,yk];rfl,λvs H1 s1 Rs=> ?_⟩;cases Rs with
   |cons R1 t=>
    cases t with
    |cons R2 t=>
     cases t;have i1:=R1.inn;rw[hd] at i1;cases i1;have i2:=R2.inn;rw[xb] at i2;cases i2;exact⟨i,j,rfl,⟨(fC hz.1).1,(fC hz.1).2,(fC hz.2).1,(fC hz.2).2⟩,k _ H1 s1 kg⟩
  .cases hf
 .cases hf
def CV(hN:X.N.Nodup)(hi:X.N[i]? =U x)(hx:Loc X.env.scope x)(hf:autoParam (X.fn x=O\/X.env.scope.names.lookup x=U .local) Za3._auto_1):PGd X (.Name x pos) (gN i):=by
 refine(CB hN hi hx hf).aJ ?_;rintro v Z H Q ⟨H0,eC,env,d,eP,E,hg,r,k⟩;cases hg;exact k _ H (E.lF r) .lF
def tGs(X:Cx)(is:List Nat):TGs:=λvs Z H Q=>∃H0 eC env ds eP,aw X.K H0 eC env Z H/\gNs is ds env=U eP /\aO X.K (λb=>Cln eC env Z b/\H b≠J) H ds vs/\∀Z' H',aw X.K H0 eC eP Z' H' ->Stp env Z H eP Z' H' ->Q Z' H'
def _root_.L2.PGs.aJ(h:PGs X es t')(i:∀v Z H Q,t v Z H Q->t' v Z H Q):PGs X es t:=λe8 s Z H v u Q I r q=>h e8 s Z H v u Q I r (i v Z H Q q)
def KR:PGs X [] (tGs X []):=by
 refine K8.aJ ?_;rintro vs Z H Q ⟨H0,eC,env,ds,eP,E,hg,r,k⟩;cases ds with
 |nil=>cases hg;exact⟨r.cz,k Z H E .refl⟩
 |cons d ds=>cases hg
def Hw(h1:PGd X e (gN i))(h2:PGs X es (tGs X is))(hs:autoParam ((assignEach (e::es) X.env).map (·.2)=assign e X.env::(assignEach es X.env).map (·.2)) Za1._auto_1):PGs X (e::es) (tGs X (i::is)):=by
 refine(GB h1 h2 hs).aJ ?_;rintro vs Z H Q ⟨H0,eC,env,ds,eP,E,hg,r,k⟩;cases ds with
 |nil=>cases hg
 |cons d ds=>
  obtain⟨v,vr,rfl,r1,r2⟩:=r.cons_inv;refine⟨v,vr,rfl,H0,eC,env,d,_,E,rfl,r1.imp λ_ q=>q.1,λZ1 H1 E1 p1=> ?_⟩;refine⟨H0,eC,_,ds,eP,E1,hg,r2.gen (λb o hb q=>p1.keep b o hb (by
   rcases q with q|q
   .exactλ⟨j,w1,w2⟩=>q.1.2 j w1.ol.top w2
   .exactλw=>E.fB w hb q)) (λb q hb=> ⟨u9 p1 q.1 hb, ?_⟩),λZ2 H2 E2 p2=>k Z2 H2 E2 (p1.trans p2)⟩
  cases o:H b with
  |none=>exact absurd o hb
  |some x=>rw[p1.keep b x o λ⟨j,w1,w2⟩=>q.1.2 j w1.ol.top w2];simp
theorem CW:∀{is ds env eP},gNs is ds env=U eP ->ds.length=is.length
 |[],[],_,_,_=>rfl
 |[],_::_,_,_,h=>by cases h
 |_::_,[],_,_,h=>by cases h
 |i::is,d::ds,env,eP,h=>by
  have:=CW (ds:=ds) h;simp[this]
def Oy{is:List Nat}(hc:X.calm=O)(h:PGs X es (tGs X is))(hn:autoParam ((assignEach es X.env).length=n) Za1._auto_1)(xZ:autoParam ((assignEach es X.env).findIdx? (·.1)=J) Za1._auto_1)(hl:autoParam (is.length=n) Za1._auto_1):PGd X (.Tuple es j pos) (gT is):=by
 refine(Nv hc h hn xZ).aJ ?_;rintro v Z H Q ⟨H0,eC,env,d,eP,E,hg,r,k⟩;unfold gT at hg;split at hg
 .rename_i ds;cases r with
  |tup h l r=>
   refine⟨_,_,rfl,SqT.of h,by rw[<-l,CW hg,hl],H0,eC,env,ds,eP,E,hg,⟨l,λi d v e1 e2=>(r i d v e1 e2).gen (.XY bG) λb q hb=> ⟨q,hb⟩⟩,k⟩
 .cases hg
end
section
variable{b:Yh}{t:DT}
def n4(h:ownAt i env=U d):env[i]? =U (U (.own d)):=by
 unfold ownAt at h;split at h
 .simp_all
 .cases h
def kO{K:ak}{H:Hp}(w:Wr H a)(i:Inn K F H (.lst ds) (.ref a)):∃vs,H a=U (.lst vs)/\aO K F H ds vs:=by
 cases i with
 |lst h r=>
  rcases h with h| ⟨o,h⟩
  .exact⟨_,h,r⟩
  .obtain⟨y,hy,wy⟩:=w;rw[h] at hy;cases hy;exact wy.elim
variable{apos eE:Pos}{X:Cx}
def EV{pos:Pos}(hN:X.N[i]? =U x)(hv:Vis X.env.scope x)(he:PEd X e f)(hd:autoParam ((x==("__debug__":Str))=M) Za2._auto_1)(xn:autoParam ((x==("__classdict__":Str))=M) Za2._auto_1)
  (hX:autoParam (starEach [e] X.env=[(M,eval e X.env)]) Za1._auto_1)
  (eW:autoParam (attributeBase (.Name x px) "append" X.env (eval (.Name x px) X.env)=eval (.Name x px) X.env) Za1._auto_1)
  (xD:((backTo eE (starEach [e] X.env)).all (λx=> !x.1)&&(backToKw eE (keywordEach [] X.env)).all (λx=>x.1.isSome)
   &&decide (([e]:List Yh).length+([]:List Keyword).length+(if([]:List Keyword).isEmpty then 0 else 1)<30))=O:=by rfl)
  (eV:autoParam ((apos.endLine==eE.line)=O) Za1._auto_1)(hs:autoParam (swapsWith (.Call (.Attribute (.Name x px) "append" apos) [e] [] eE) J pos.line X.env=pure M) Za1._auto_1):
  PSd X (.Expr (.Call (.Attribute (.Name x px) "append" apos) [e] [] eE) pos) (dY i f):=by
 refine(pS (CF GcA PySem.F.slot_list_append PySem.F.type_list_append nX (ka hN hv hd xn) (cL he gI hX) eW xD eV hX rfl) hs).aJ ?_;rintro D Z H ⟨H0,eC,env,o,E,e,k⟩;obtain⟨r,hr,e⟩:=eh e;obtain⟨d,hd,e⟩:=eh e;have q:=n4 hd;split at e
 .rename_i xs;split at e
  .rename_i z;rw[Gai] at z;cases e;obtain⟨a,h1,h2,h3,h4,h5,h6⟩:=E.ow i _ (.inl q);obtain⟨vs,hH,rp⟩:=kO h4 h6;refine⟨_,h1,.inl ⟨rfl,vs,.inl (.inl hH)⟩,H0,eC,env,[r],E,by unfold aa ag;rw[hr];rfl,λws H2 s2 Rs=> ?_⟩;cases Rs with
   | @cons _ v _ _ R1 tl=>
    cases tl;have yn:=s2 _ _ hH;refine⟨a,vs,v,rfl,rfl,yn,by rw[<-rp.1];exact Gar z.2, ?_⟩;have E2:=E.mono s2;have rep1:=R1.rep E z.1;have rp2:=(rp.gen (.XY s2) λ_ f _=>f).append (.cons rep1 .nil);obtain⟨E3,p3⟩:=E2.change (o:= .lst (vs++[v])) q h1 trivial rfl (.lst (.inl aF) (rp2.gen (λb o hb w=>by
     have:b≠a:=by
      rintro rfl;rcases w with w|w
      .exact w.2 i (by rw[q];trivial) h1
      .rw[yn] at hb;cases hb;exact w
     rw[ar this];exact hb) λ_ f _=>f))
    exact k Z _ E3 ((Stp.XY s2).trans p3)
  .cases e
 .cases e
def EW{pos:Pos}(hN:X.N[i]? =U x)(hv:Vis X.env.scope x)(he:PEd X e f)(hd:autoParam ((x==("__debug__":Str))=M) Za2._auto_1)(xn:autoParam ((x==("__classdict__":Str))=M) Za2._auto_1)
  (hX:autoParam (starEach [e] X.env=[(M,eval e X.env)]) Za1._auto_1)
  (eW:autoParam (attributeBase (.Name x px) "extend" X.env (eval (.Name x px) X.env)=eval (.Name x px) X.env) Za1._auto_1)
  (xD:((backTo eE (starEach [e] X.env)).all (λx=> !x.1)&&(backToKw eE (keywordEach [] X.env)).all (λx=>x.1.isSome)
   &&decide (([e]:List Yh).length+([]:List Keyword).length+(if([]:List Keyword).isEmpty then 0 else 1)<30))=O:=by rfl)
  (eV:autoParam ((apos.endLine==eE.line)=O) Za1._auto_1)(hs:autoParam (swapsWith (.Call (.Attribute (.Name x px) "extend" apos) [e] [] eE) J pos.line X.env=pure M) Za1._auto_1):
  PSd X (.Expr (.Call (.Attribute (.Name x px) "extend" apos) [e] [] eE) pos) (NX i f):=by
 refine(pS (CF GcA PySem.F.slot_list_extend PySem.F.type_list_extend EF (ka hN hv hd xn) (cL he gI hX) eW xD eV hX rfl) hs).aJ ?_;rintro D Z H ⟨H0,eC,env,o,E,e,k⟩;obtain⟨⟨kd,rd⟩,hr,e⟩:=eh e;obtain⟨d,hd,e⟩:=eh e;have q:=n4 hd;split at e
 .rename_i xs ys hrd;have hrd' :=hrd;subst hrd';split at e
  .rename_i z;rw[Gai] at z;cases e;have hk:kd= .tn:=by have:=z.1;simpa using this
   subst hk;obtain⟨a,h1,h2,h3,h4,h5,h6⟩:=E.ow i _ (.inl q);obtain⟨vs,hH,rp⟩:=kO h4 h6;refine⟨_,h1,.inl ⟨rfl,vs,.inl (.inl hH)⟩,H0,eC,env,[⟨.tn,.lst ys⟩],E,by unfold aa ag;rw[hr];rfl,λws H2 s2 Rs=> ?_⟩;cases Rs with
   | @cons _ v _ _ R1 tl=>
    cases tl;obtain⟨b,rfl,nb,wb,_,ib⟩:=R1;obtain⟨us,hB,ru⟩:=kO wb ib;have yn:=s2 _ _ hH;refine⟨a,b,vs,us,rfl,rfl,yn,hB,by rw[<-rp.1,<-ru.1];exact Gar z.2, ?_⟩;have E2:=E.mono s2;have rp2:=(rp.gen (.XY s2) λ_ f _=>f).append (ru.gen (.XY bG) λ_ f _=>f.1);obtain⟨E3,p3⟩:=E2.change (o:= .lst (vs++us)) q h1 trivial rfl (.lst (.inl aF) (rp2.gen (λb o hb w=>by
     have:b≠a:=by
      rintro rfl;rcases w with w|w
      .exact w.2 i (by rw[q];trivial) h1
      .rw[yn] at hb;cases hb;exact w
     rw[ar this];exact hb) λ_ f _=>f))
    exact k Z _ E3 ((Stp.XY s2).trans p3)
  .cases e
 .cases e
def Ut(K:ak):List V->Hp->VK->Prop:=λxs H Q=>∃x T t b,xs=[x,.ty T]/\pF K H x (.type t)/\PySem.W.kitOne K (.type t) (.type T)=U b/\Q (.bl b) H
def Hx:fL X (.builtin "isinstance") (Ut X.K):=by
 intro e8 s Z H xs us Q I r h;obtain⟨x,T,t,bb,rfl,ty,hk,q⟩:=h;obtain⟨u,w',rfl,r1,r2⟩:=vals2 r;cases r2;exact EB I r1 ty hk λtk=> ⟨.bl bb,H,I.tok _,rfl,q⟩
def qE(K:ak)(T:String):Prop:=∀t∈["NoneType","bool","int","str","tuple","list","dict"],PySem.W.kitOne K (.type t) (.type T)=U (T==t||(t=="bool"&&T=="int"))
def KS{K:ak}(i:Inn K F H d x)(hs:mW d=M):∃t∈["NoneType","bool","int","str","tuple","list","dict"],pF K H x (.type t)/\∀S,sQ S d=(S==t||(t=="bool"&&S=="int")):=by
 have rdl:∀{a:Yd} {vs:List V},Rd H a (.lst vs)->pF K H (.ref a) (.type "list"):=λh=>by
  rcases h with h| ⟨o,h⟩
  .exact .lst h
  .exact .frz h
 cases i with
 |non=>exact⟨"NoneType",by simp,.non,λS=>by simp⟩
 |bl b=>exact⟨"bool",by simp,.bl b,λS=>by simp⟩
 |int i=>exact⟨"int",by simp,.int i,λS=>by simp⟩
 |str x=>exact⟨"str",by simp,.str x,λS=>by simp⟩
 |tup h r=>exact⟨"tuple",by simp,.tup h,λS=>by simp⟩
 |lst h r=>exact⟨"list",by simp,rdl h,λS=>by simp⟩
 |dT h r=>exact⟨"dict",by simp,.dT h,λS=>by simp[sQ]⟩
 |scr h=>cases hs
 |fl h r=>exact⟨"list",by simp,.frz h,λS=>by simp⟩
def Oz(WH:qE X.K T)(he:PEd X e f)(hg:Gl X "isinstance")(hm:X.mg "isinstance"=J)(yA:Gl X x)(zi:X.mg x=J)(WQ:bootBuiltins x=U (.type T))(Vt:autoParam (x≠"__name__") Za2._auto_1)(hd2:autoParam ((x==("__debug__":Str))=M) Za2._auto_1)
  (hX:autoParam (starEach [e,.Name x p2] X.env=(M,eval e X.env)::starEach [.Name x p2] X.env) Za1._auto_1)(xc:autoParam (starEach [.Name x p2] X.env=(M,eval (.Name x p2) X.env)::starEach [] X.env) Za1._auto_1)(xj:autoParam ((backTo pos (starEach [.Name x p2] X.env)).any (·.1)=M) Za1._auto_1):
  PEd X (.Call (.Name "isinstance" p) [e,.Name x p2] [] pos) (bE (pH T f)):=by
 have ht:PE X (.Name x p2) (tC (.ty T)):=K5 yA zi WQ rfl Vt hd2;refine(qe Hx hg hm (by decide+kernel) (kL he (kL ht nU xc) hX) (by decide) (by decide) hX xj).aJ ?_;rintro Z H Q ⟨H0,eC,env,rv,E,e,k⟩;obtain⟨bb,e',rfl⟩:=Gaa.mp e;have e:=e';obtain⟨r,hr,e⟩:=eh e;split at e
 .cases e
 .rename_i hs;cases e;refine⟨H0,eC,env,r,E,hr,λv H1 s1 R=> ?_⟩;obtain⟨t,ht,ty,hb⟩:=KS R.inn (by simpa using hs);exact⟨v,T,t,_,rfl,ty,WH t ht,by rw[<-hb T];exact k _ H1 s1 (.bl _)⟩
def KU:∀env rs,ag env=U rs->rs.length=0:=λenv rs h=>by cases h;rfl
def Hy(h:∀env rs,r env=U rs->rs.length=n):∀env rs,aa f r env=U rs->rs.length=n+1:=λenv rs e=>by
 obtain⟨x,_,e⟩:=eh e;obtain⟨xs,hx,e⟩:=eh e;cases e;rw[GaF,h env xs hx]
theorem aw.start{K:ak}{N:List Str}{ds:List D}(hl:ds.length<=N.length)(r:aO K (λ_=>True) H ds vs):aw K H (λ_=>False) (fu N.length ds) (start N vs) H:=by
 have nt:∀i:Nat,¬b5 (fu N.length ds)[i]? :=λi h=>by
  unfold fu at h;by_cases hi:i<ds.length
  .rw[GaR (by simpa using hi),Gap] at h;cases q:ds[i]? with
   |none=>rw[q] at h;exact h
   |some d=>rw[q] at h;exact h
  .rw[GaM (by simpa using hi),Gcz] at h;split at h<;>exact h
 have no:∀{i:Nat} {s:Slot},(fu N.length ds)[i]? =U (U s)->b5 (U (U s))->False:=λ{i s} e h=>nt i (by rw[e];exact h);refine⟨λ_ _ e=>e,by simp[fu,L2.start,r.1],λ_ h=>h.elim,λi d e=> ?_,λi d e=> ?_,λi d e=> ?_,λi j a t _ _ _=>(nt i t.top).elim⟩
 .unfold fu at e;by_cases hi:i<ds.length
  .rw[GaR (by simpa using hi),Gap] at e;cases q:ds[i]? with
   |none=>rw[q] at e;cases e
   |some d' =>
    rw[q] at e;have e' :d' =d:=by simpa using e
    subst e';obtain⟨v,h1,h2⟩:=r.get q;refine⟨v, ?_,h2.imp λb _=> ⟨λz=>z,λj t=>(nt j t).elim⟩⟩;unfold L2.start;rw[GaR (by rw[Gae,<-r.1];exact hi),Gap,h1];rfl
  .rw[GaM (by simpa using hi),Gcz] at e;split at e<;>cases e
 .rcases e with e|e
  .exact(no e trivial).elim
  .exact(no e trivial).elim
 .exact(no e trivial).elim
def Hz{K:ak}{fd:Yo}{N ps:List Str}(F:Fun K x qual sd fa fd)(S:gP N ps (aY sd))(zQ:ps.length=np)
  (xR:∀xh A outer s H E,iU k (A.deeper (envOfC qual (aY sd) s.heap.objs.size fa xh))->
   lh (Bn CX0 P w K mg base N qual (aY sd) fa xh A outer s H E).nox (gy sd) body):jq P w K mg base CX0 (k+1) fa fd ps (spD K np (bw N.length np body)):=by
 refine F.ok S (λvs H Q E h=> ?_) λxh A outer s H vs Q E hr h=> ⟨_,xR xh A outer s H E hr, ?_⟩
 .obtain⟨ds,d,h1,h2,_⟩:=h;rw[<-h2.1,h1,zQ]
 .obtain⟨ds,d,h1,h2,h3,k⟩:=h;unfold bw at h3;rw[Gan h1] at h3;obtain⟨o,ho,h3⟩:=eh h3;have hl:ds.length<=N.length:=by
   have:=congrArg List.length S.pre
   grind
  refine⟨H,λ_=>False,fu N.length ds,o,aw.start hl h2,ho, ?_⟩;cases o with
  |ret d' =>cases h3;exactλv H' s' R=>k v H' s' R
  |nx e=>cases h3;exactλZ' H' E' p' =>k .non H' E'.same ⟨λt=>(by cases t),.non⟩
  |bk e=>cases h3
  |ct e=>cases h3
def OC{K:ak}{ns:List Int}{sp:SpF}(hO:Ku H)(hS:SqL K H a (ns.map V.int))(h:sp [.scr ns]=U (.bl O)):spD K 1 sp [.ref a] H (λv _=>v= .bl O) E:=by
 refine⟨[.scr ns],.bl O,rfl,aO.cons (.scr ?_) .nil,h,λv H' _ R=> ?_⟩
 .rcases hS with(z|z)|z
  .rcases hO a with q| ⟨o,xs,q⟩<;>rw[z] at q<;>cases q
  .exact .inl z
  .exact .inr z
 .have i:=R.2;cases i;rfl
end
def plain_all{ds:List D}{i:Nat}(h:ds.all (aM n)=O)(e:ds[i]? =U d):aM n d=O:=Gaq.mp h d (Gau e)
inductive Bz (K:ak) (F:Yd->Prop) (H:Hp):D->V->Prop where
 |non:Bz K F H .non .non
 |bl (b:Bool):Bz K F H (.bl b) (.bl b)
 |int (i:Int):Bz K F H (.int i) (.int i)
 |str (x:Str):Bz K F H (.str x) (.str x)
 |tup {a:Yd} {vs:List V} {ds:List D} (h:H a=U (.tup vs)) (l:ds.length=vs.length) (r:∀(i:Nat) d v,ds[i]? =U d->vs[i]? =U v->Rep K F H d v):Bz K F H (.tup ds) (.ref a)
 |lst {a:Yd} {vs:List V} {ds:List D} (f:F a) (h:Rd H a (.lst vs)) (l:ds.length=vs.length) (r:∀(i:Nat) d v,ds[i]? =U d->vs[i]? =U v->Rep K F H d v):Bz K F H (.lst ds) (.ref a)
def bS{K:ak}(p:aM n d=O)(r:Rep K F H d v):Bz K F H d v:=by
 cases r with
 |non=>exact .non
 |bl b=>exact .bl b
 |int i=>exact .int i
 |str x=>exact .str x
 |tup h l r=>exact .tup h l r
 |lst f h l r=>exact .lst f h l r
 |_=>cases n<;>exact(Gaz p).elim
def qF:∀n d,aM n d=O->eqD d d=O:=by
 intro n;induction n with
 |zero=>intro d h;cases d<;>simp at h<;>simp
 |succ n ih=>
  have all:∀ds:List D,ds.all (aM n)=O->jv ds ds=O:=by
   intro ds;induction ds with
   |nil=>intro _;rfl
   |cons d ds ih2=>
    intro h;rw[GbB,Gai] at h;simp[ih d h.1,ih2 h.2]
  intro d h;cases d<;>simp only[aM] at h<;>first
   |(simp;done)
   |exact all _ h
   |cases h
theorem ip:∀{ds es},ds.length≠es.length->jv ds es=M
 |[],[],h=>absurd rfl h
 |[],_::_,_=>rfl
 |_::_,[],_=>rfl
 |d::ds,e::es,h=>by
  unfold jv;rw[ip (by simpa using h),GcR]
theorem fD:∀{ds es},ds.length=es.length->(List.range ds.length).all (λj=>eqD (ds.getD j .non) (es.getD j .non))=jv ds es
 |[],[],_=>rfl
 |[],_::_,h=>by simp at h
 |_::_,[],h=>by simp at h
 |d::ds,e::es,h=>by
  have ih:=fD (by simpa using h);unfold jv;rw[GaF,List.range_succ_eq_map,GbB,Gbx,<-ih]
  rfl
section
def ve{K:ak}:∀n {d d' v},aM n d=O->aM n d' =O->Rep K F H d v->Rep K G H d' v->d=d' :=by
 intro n;induction n with
 |zero=>intro d d' v h1 h2 r1 r2;cases bS h1 r1<;>first|exact(Gaz h1).elim|(cases bS h2 r2;rfl)
 |succ n ih=>
  have all:∀{ds es:List D} {vs:List V},ds.all (aM n)=O->es.all (aM n)=O->ds.length=vs.length->es.length=vs.length->(∀(i:Nat) d v,ds[i]? =U d->vs[i]? =U v->Rep K F H d v)->(∀(i:Nat) d v,es[i]? =U d->vs[i]? =U v->Rep K G H d v)->ds=es:=by
   intro ds es vs p1 p2 l1 l2 r1 r2;apply GcL;intro i;by_cases hi:i<vs.length
   .have e1:ds[i]? =U ds[i]:=by simp
    have e2:es[i]? =U es[i]:=by simp
    have e3:vs[i]? =U vs[i]:=by simp
    rw[e1,e2,ih (plain_all p1 e1) (plain_all p2 e2) (r1 i _ _ e1 e3) (r2 i _ _ e2 e3)]
   .rw[GbE (by lia),GbE (by lia)]
  intro d d' v h1 h2 r1 r2;cases bS h1 r1 with
  |non=>cases bS h2 r2;rfl
  |bl b=>cases bS h2 r2;rfl
  |int i=>cases bS h2 r2;rfl
  |str x=>cases bS h2 r2;rfl
  |tup h l r=>
   cases bS h2 r2 with
   |tup h' l' r' =>
    rw[h] at h';cases h';rw[all (by simpa[aM] using h1) (by simpa[aM] using h2) l l' r r']
   |lst f h' l' r' =>rcases h' with h' | ⟨o,h'⟩<;>rw[h] at h' <;>cases h'
  |lst f h l r=>
   cases bS h2 r2 with
   |tup h' l' r' =>rcases h with h| ⟨o,h⟩<;>rw[h] at h' <;>cases h'
   |lst f' h' l' r' =>
    have:∀{xs ys:List V} {a:Yd},Rd H a (.lst xs)->Rd H a (.lst ys)->xs=ys:=λz1 z2=>by
     rcases z1 with z1| ⟨o,z1⟩<;>rcases z2 with z2| ⟨o',z2⟩<;>rw[z1] at z2<;>cases z2<;>rfl
    cases this h h';rw[all (by simpa[aM] using h1) (by simpa[aM] using h2) l l' r r']
def item_at{ds:List D}{vs:List V}{its:List Ye}{K:ak}{j:Nat}(l:ds.length=vs.length)(r:∀(i:Nat) d v,ds[i]? =U d->vs[i]? =U v->Rep K F H d v)(rv:XQ vs its)(h:j<its.toArray.size):
  ∃d v,ds[j]? =U d/\ds.getD j .non=d/\Rep K F H d v/\XO v its.toArray[j]:=by
 have hj:j<its.length:=by simpa using h
 have hv:j<vs.length:=by rw[rv.length];exact hj
 have hd:j<ds.length:=by rw[l];exact hv
 obtain⟨u,e1,e2⟩:=rv.get (i:=j) (x:=vs[j]) (by simp);refine⟨ds[j],vs[j],by simp,by simp[hd],r j _ _ (by simp) (by simp), ?_⟩;simp_all
def in1_units{A:Yj}(h:A.units+(n+1)<cLine):A.in1.units+n<cLine:=by
 lia
variable{Z:St}{X:Cx}
def qG(I:Inv X e8 Z H s):∀n {dx dy x y v u A},aM n dx=O->aM n dy=O->Rep X.K F H dx x->Rep X.K G H dy y->XO x v->XO y u->A.units+n<cLine->SeqAt.EqAt A s v u (eqD dx dy):=by
 have flat:∀{dx dy:D} {x y:V} {v u:Ye} {A:Yj},Rep X.K F H dx x->Rep X.K G H dy y->XO x v->XO y u->tK x=O->tK y=O->SeqAt.EqAt A s v u (eqD dx dy):=by
  intro dx dy x y v u A r1 r2 rv ru fx fy;have e:eqD dx dy=eqV x y:=by
   cases r1<;>first|exact(Gaz fx).elim|(cases r2<;>first|exact(Gaz fy).elim|rfl)
  rw[e];exact GU rv ru fx fy
 intro n;induction n with
 |zero=>
  intro dx dy x y v u A p1 p2 r1 r2 rv ru hu;refine flat r1 r2 rv ru ?_ ?_
  .cases bS p1 r1<;>first|rfl|exact(Gaz p1).elim
  .cases bS p2 r2<;>first|rfl|exact(Gaz p2).elim
 |succ n ih=>
  intro dx dy x y v u A p1 p2 r1 r2 rv ru hu;have hu0:A.units<cLine:=by lia
  cases bS p1 r1 with
  | @tup a vs1 ds1 h l r=>
   cases rv;obtain⟨its,xg,ht,_⟩:=I.tuple (SqT.of h);cases bS p2 r2 with
   |non=>cases ru;exact SeqAt.EqAt.tuple_none ht hu0
   |bl b=>cases ru;exact SeqAt.EqAt.tuple_bool b ht hu0
   |int i=>obtain⟨t,rfl⟩:=ru;exact SeqAt.EqAt.tuple_int i t ht hu0
   |str z=>obtain⟨t,rfl⟩:=ru;exact SeqAt.EqAt.tuple_str z t ht hu0
   |lst f' h' l' r' =>
    cases ru;obtain⟨eN,eY,pl,_⟩:=I.list (.inl h');exact SeqAt.EqAt.tuple_list ht pl.isList hu0
   | @tup b vs2 ds2 h' l' r' =>
    cases ru;by_cases hab:a=b
    .subst hab;have:=ve (n+1) p1 p2 (Rep.tup h l r) (Rep.tup h' l' r');rw[<-this,qF _ _ p1];exact SeqAt.EqAt.same _
    .obtain⟨eN,eY,hJ,_⟩:=I.tuple (SqT.of h');have hX:its.toArray.size=ds1.length:=by rw[Gaw,<-xg.length,l]
     have xc:eN.toArray.size=ds2.length:=by rw[Gaw,<-eY.length,l']
     have key:=SeqAt.RcAt.tuples (e:=λj=>eqD (ds1.getD j .non) (ds2.getD j .non)) ht hJ hu0 λj h1 h2=>by
      obtain⟨d1,v1,q1,q2,q3,q4⟩:=item_at l r xg h1;obtain⟨d2,v2,w1,w2,w3,w4⟩:=item_at l' r' eY h2;rw[q2,w2];exact ih (plain_all (by simpa[aM] using p1) q1) (plain_all (by simpa[aM] using p2) w1) q3 w3 q4 w4 (in1_units hu)
     refine SeqAt.EqAt.of_refs hab ?_;show SeqAt.RcAt A s (.ref a) (.ref b) (jv ds1 ds2);rw[hX,xc] at key;by_cases hl:ds1.length=ds2.length
     .rw[<-hl,Nat.min_self,fD hl] at key
      simpa using key
     .rw[ip hl];have:(ds1.length==ds2.length)=M:=by simpa using hl
      rw[this,GcR] at key;exact key
  | @lst a vs1 ds1 f h l r=>
   cases rv;obtain⟨its,xg,pl,_⟩:=I.list (.inl h);have ht:=pl.isList;cases bS p2 r2 with
   |non=>cases ru;exact SeqAt.EqAt.list_none ht hu0
   |bl b=>cases ru;exact SeqAt.EqAt.list_bool b ht hu0
   |int i=>obtain⟨t,rfl⟩:=ru;exact SeqAt.EqAt.list_int i t ht hu0
   |str z=>obtain⟨t,rfl⟩:=ru;exact SeqAt.EqAt.list_str z t ht hu0
   |tup h' l' r' =>
    cases ru;obtain⟨eN,eY,hJ,_⟩:=I.tuple (SqT.of h');exact SeqAt.EqAt.list_tuple ht hJ hu0
   | @lst b vs2 ds2 f' h' l' r' =>
    cases ru;by_cases hab:a=b
    .subst hab;have:=ve (n+1) p1 p2 (Rep.lst f h l r) (Rep.lst f' h' l' r');rw[<-this,qF _ _ p1];exact SeqAt.EqAt.same _
    .obtain⟨eN,eY,yq,_⟩:=I.list (.inl h');have hJ:=yq.isList;have hX:its.toArray.size=ds1.length:=by rw[Gaw,<-xg.length,l]
     have xc:eN.toArray.size=ds2.length:=by rw[Gaw,<-eY.length,l']
     refine SeqAt.EqAt.of_refs hab ?_;show SeqAt.RcAt A s (.ref a) (.ref b) (jv ds1 ds2);by_cases hl:ds1.length=ds2.length
     .have key:=SeqAt.RcAt.lists (e:=λj=>eqD (ds1.getD j .non) (ds2.getD j .non)) ht hJ (by rw[hX,xc,hl]) hu0 λj h1 h2=>by
       obtain⟨d1,v1,q1,q2,q3,q4⟩:=item_at l r xg h1;obtain⟨d2,v2,w1,w2,w3,w4⟩:=item_at l' r' eY h2;rw[q2,w2];exact ih (plain_all (by simpa[aM] using p1) q1) (plain_all (by simpa[aM] using p2) w1) q3 w3 q4 w4 (in1_units hu)
      rw[hX,fD hl] at key;exact key
     .rw[ip hl];exact SeqAt.RcAt.lists_lengths ht hJ (by rw[hX,xc];simpa using hl) hu0
  |non=>
   cases rv;cases bS p2 r2 with
   |tup h' l' r' =>cases ru;obtain⟨eN,eY,hJ,_⟩:=I.tuple (SqT.of h');exact SeqAt.EqAt.none_tuple hJ hu0
   |lst f' h' l' r' =>cases ru;obtain⟨eN,eY,yq,_⟩:=I.list (.inl h');exact SeqAt.EqAt.none_list yq.isList hu0
   |_=>exact flat .non (by first|exact .non|exact .bl _|exact .int _|exact .str _) rfl ru rfl rfl
  |bl b=>
   cases bS p2 r2 with
   |tup h' l' r' =>cases rv;cases ru;obtain⟨eN,eY,hJ,_⟩:=I.tuple (SqT.of h');exact SeqAt.EqAt.bool_tuple b hJ hu0
   |lst f' h' l' r' =>cases rv;cases ru;obtain⟨eN,eY,yq,_⟩:=I.list (.inl h');exact SeqAt.EqAt.bool_list b yq.isList hu0
   |_=>exact flat (.bl b) (by first|exact .non|exact .bl _|exact .int _|exact .str _) rv ru rfl rfl
  |int i=>
   cases bS p2 r2 with
   |tup h' l' r' =>obtain⟨t,rfl⟩:=rv;cases ru;obtain⟨eN,eY,hJ,_⟩:=I.tuple (SqT.of h');exact SeqAt.EqAt.int_tuple i t hJ hu0
   |lst f' h' l' r' =>obtain⟨t,rfl⟩:=rv;cases ru;obtain⟨eN,eY,yq,_⟩:=I.list (.inl h');exact SeqAt.EqAt.int_list i t yq.isList hu0
   |_=>exact flat (.int i) (by first|exact .non|exact .bl _|exact .int _|exact .str _) rv ru rfl rfl
  |str z=>
   cases bS p2 r2 with
   |tup h' l' r' =>obtain⟨t,rfl⟩:=rv;cases ru;obtain⟨eN,eY,hJ,_⟩:=I.tuple (SqT.of h');exact SeqAt.EqAt.str_tuple z t hJ hu0
   |lst f' h' l' r' =>obtain⟨t,rfl⟩:=rv;cases ru;obtain⟨eN,eY,yq,_⟩:=I.list (.inl h');exact SeqAt.EqAt.str_list z t yq.isList hu0
   |_=>exact flat (.str z) (by first|exact .non|exact .bl _|exact .int _|exact .str _) rv ru rfl rfl
def A0{A:Yj}(I:Inv X e8 Z H s)(p1:aM n dx=O)(p2:aM n dy=O)(r1:Rep X.K F H dx x)(r2:Rep X.K G H dy y)(rv:XO x v)(ru:XO y u)(hu:A.units+n<cLine):
  SeqAt.RcAt A s v u (eqD dx dy)/\SeqAt.RcNeAt A s v u (!eqD dx dy):=by
 have hu0:A.units<cLine:=by lia
 have tupAt:∀{a:Yd} {vs:List V},H a=U (.tup vs)->∃its:List Ye,s.heap.IsTuple a its.toArray:=λh=>let⟨its,_,ht,_⟩:=I.tuple (SqT.of h);⟨its,ht⟩
 have lstAt:∀{a:Yd} {vs:List V},Rd H a (.lst vs)->∃its:List Ye,s.heap.IsList a its.toArray:=λh=>let⟨its,_,pl,_⟩:=I.list (.inl h);⟨its,pl.isList⟩
 cases bS p1 r1 with
 |non=>
  cases rv;cases bS p2 r2 with
  |non=>cases ru;exact⟨.none_none,.none_none⟩
  |bl b=>cases ru;exact⟨.none_bool b,.none_bool b⟩
  |int i=>obtain⟨t,rfl⟩:=ru;exact⟨.none_int i t,.none_int i t⟩
  |str z=>obtain⟨t,rfl⟩:=ru;exact⟨.none_str z t,.none_str z t⟩
  |tup h' l' r' =>cases ru;obtain⟨its,ht⟩:=tupAt h';exact⟨.none_tuple ht hu0,.none_tuple ht hu0⟩
  |lst f' h' l' r' =>cases ru;obtain⟨its,ht⟩:=lstAt h';exact⟨.none_list ht hu0,.none_list ht hu0⟩
 |bl b=>
  cases rv;cases bS p2 r2 with
  |non=>cases ru;exact⟨.bool_none b,.bool_none b⟩
  |bl b' =>cases ru;exact⟨.bool_bool b b',.bool_bool b b'⟩
  |int i=>obtain⟨t,rfl⟩:=ru;exact⟨.bool_int b i t,.bool_int b i t⟩
  |str z=>obtain⟨t,rfl⟩:=ru;exact⟨.bool_str b z t,.bool_str b z t⟩
  |tup h' l' r' =>cases ru;obtain⟨its,ht⟩:=tupAt h';exact⟨.bool_tuple b ht hu0,.bool_tuple b ht hu0⟩
  |lst f' h' l' r' =>cases ru;obtain⟨its,ht⟩:=lstAt h';exact⟨.bool_list b ht hu0,.bool_list b ht hu0⟩
 |int i=>
  obtain⟨t,rfl⟩:=rv;cases bS p2 r2 with
  |non=>cases ru;exact⟨.int_none i t,.int_none i t⟩
  |bl b' =>cases ru;exact⟨.int_bool i t b',.int_bool i t b'⟩
  |int j=>obtain⟨t',rfl⟩:=ru;exact⟨.int_int i t j t',.int_int i t j t'⟩
  |str z=>obtain⟨t',rfl⟩:=ru;exact⟨.int_str i t z t',.int_str i t z t'⟩
  |tup h' l' r' =>cases ru;obtain⟨its,ht⟩:=tupAt h';exact⟨.int_tuple i t ht hu0,.int_tuple i t ht hu0⟩
  |lst f' h' l' r' =>cases ru;obtain⟨its,ht⟩:=lstAt h';exact⟨.int_list i t ht hu0,.int_list i t ht hu0⟩
 |str z=>
  obtain⟨t,rfl⟩:=rv;cases bS p2 r2 with
  |non=>cases ru;exact⟨.str_none z t,.str_none z t⟩
  |bl b' =>cases ru;exact⟨.str_bool z t b',.str_bool z t b'⟩
  |int j=>obtain⟨t',rfl⟩:=ru;exact⟨.str_int z t j t',.str_int z t j t'⟩
  |str z' =>obtain⟨t',rfl⟩:=ru;exact⟨.str_str z t z' t',.str_str z t z' t'⟩
  |tup h' l' r' =>cases ru;obtain⟨its,ht⟩:=tupAt h';exact⟨.str_tuple z t ht hu0,.str_tuple z t ht hu0⟩
  |lst f' h' l' r' =>cases ru;obtain⟨its,ht⟩:=lstAt h';exact⟨.str_list z t ht hu0,.str_list z t ht hu0⟩
 | @tup a vs1 ds1 h l r=>
  cases n with
  |zero=>simp[aM] at p1
  |succ n=>
   cases rv;obtain⟨its,xg,ht,_⟩:=I.tuple (SqT.of h);cases bS p2 r2 with
   |non=>cases ru;exact⟨.tuple_none ht hu0,.tuple_none ht hu0⟩
   |bl b=>cases ru;exact⟨.tuple_bool b ht hu0,.tuple_bool b ht hu0⟩
   |int i=>obtain⟨t,rfl⟩:=ru;exact⟨.tuple_int i t ht hu0,.tuple_int i t ht hu0⟩
   |str z=>obtain⟨t,rfl⟩:=ru;exact⟨.tuple_str z t ht hu0,.tuple_str z t ht hu0⟩
   |lst f' h' l' r' =>cases ru;obtain⟨eN,hJ⟩:=lstAt h';exact⟨.tuple_list ht hJ hu0,.tuple_list ht hJ hu0⟩
   | @tup b vs2 ds2 h' l' r' =>
    cases ru;obtain⟨eN,eY,hJ,_⟩:=I.tuple (SqT.of h');have hX:its.toArray.size=ds1.length:=by rw[Gaw,<-xg.length,l]
    have xc:eN.toArray.size=ds2.length:=by rw[Gaw,<-eY.length,l']
    have items:∀j (h1:j<its.toArray.size) (h2:j<eN.toArray.size),SeqAt.EqAt A.in1 s its.toArray[j] eN.toArray[j] ((λj=>eqD (ds1.getD j .non) (ds2.getD j .non)) j):=λj h1 h2=>by
     obtain⟨d1,v1,q1,q2,q3,q4⟩:=item_at l r xg h1;obtain⟨d2,v2,w1,w2,w3,w4⟩:=item_at l' r' eY h2;dsimp only;rw[q2,w2];exact qG I n (plain_all (by simpa[aM] using p1) q1) (plain_all (by simpa[aM] using p2) w1) q3 w3 q4 w4 (in1_units hu)
    have k1:=SeqAt.RcAt.tuples ht hJ hu0 items;have k2:=SeqAt.RcNeAt.tuples ht hJ hu0 items;have e:((List.range (min its.toArray.size eN.toArray.size)).all (λj=>eqD (ds1.getD j .non) (ds2.getD j .non))&&its.toArray.size==eN.toArray.size)=jv ds1 ds2:=by
     rw[hX,xc];by_cases hl:ds1.length=ds2.length
     .rw[<-hl,Nat.min_self,fD hl];simp
     .rw[ip hl];have:(ds1.length==ds2.length)=M:=by simpa using hl
      rw[this,GcR]
    rw[e] at k1 k2;exact⟨k1,k2⟩
 | @lst a vs1 ds1 f h l r=>
  cases n with
  |zero=>simp[aM] at p1
  |succ n=>
   cases rv;obtain⟨its,xg,pl,_⟩:=I.list (.inl h);have ht:=pl.isList;cases bS p2 r2 with
   |non=>cases ru;exact⟨.list_none ht hu0,.list_none ht hu0⟩
   |bl b=>cases ru;exact⟨.list_bool b ht hu0,.list_bool b ht hu0⟩
   |int i=>obtain⟨t,rfl⟩:=ru;exact⟨.list_int i t ht hu0,.list_int i t ht hu0⟩
   |str z=>obtain⟨t,rfl⟩:=ru;exact⟨.list_str z t ht hu0,.list_str z t ht hu0⟩
   |tup h' l' r' =>cases ru;obtain⟨eN,hJ⟩:=tupAt h';exact⟨.list_tuple ht hJ hu0,.list_tuple ht hJ hu0⟩
   | @lst b vs2 ds2 f' h' l' r' =>
    cases ru;obtain⟨eN,eY,yq,_⟩:=I.list (.inl h');have hJ:=yq.isList;have hX:its.toArray.size=ds1.length:=by rw[Gaw,<-xg.length,l]
    have xc:eN.toArray.size=ds2.length:=by rw[Gaw,<-eY.length,l']
    have items:∀j (h1:j<its.toArray.size) (h2:j<eN.toArray.size),SeqAt.EqAt A.in1 s its.toArray[j] eN.toArray[j] ((λj=>eqD (ds1.getD j .non) (ds2.getD j .non)) j):=λj h1 h2=>by
     obtain⟨d1,v1,q1,q2,q3,q4⟩:=item_at l r xg h1;obtain⟨d2,v2,w1,w2,w3,w4⟩:=item_at l' r' eY h2;dsimp only;rw[q2,w2];exact qG I n (plain_all (by simpa[aM] using p1) q1) (plain_all (by simpa[aM] using p2) w1) q3 w3 q4 w4 (in1_units hu)
    show SeqAt.RcAt A s (.ref a) (.ref b) (jv ds1 ds2)/\SeqAt.RcNeAt A s (.ref a) (.ref b) (!jv ds1 ds2);by_cases hl:ds1.length=ds2.length
    .have k1:=SeqAt.RcAt.lists ht hJ (by rw[hX,xc,hl]) hu0 items;have k2:=SeqAt.RcNeAt.lists ht hJ (by rw[hX,xc,hl]) hu0 items;rw[hX,fD hl] at k1 k2;exact⟨k1,k2⟩
    .rw[ip hl];exact⟨SeqAt.RcAt.lists_lengths ht hJ (by rw[hX,xc];simpa using hl) hu0,SeqAt.RcNeAt.lists_lengths ht hJ (by rw[hX,xc];simpa using hl) hu0⟩
end
section
def KW(K:ak)(neg:Bool):R2:=λx y H Q=>∃F dx dy,Inn K F H dx x/\Inn K F H dy y/\dx.plain=O/\dy.plain=O/\Q (.bl (if neg then !eqD dx dy else eqD dx dy)) H
variable{X:Cx}
def OE(hu:X.A.units+20<cLine):OpR X (compareOp .Eq) (KW X.K M):=by
 intro e8 s Z H x y v u Q I rx ry h;obtain⟨F,dx,dy,i1,i2,p1,p2,q⟩:=h;exact(A0 I p1 p2 i1.any i2.any rx ry hu).1 X.prog X.w _ _ ⟨.bl (eqD dx dy),H,I,rfl,q⟩
def OF(hu:X.A.units+20<cLine):OpR X (compareOp .NotEq) (KW X.K O):=by
 intro e8 s Z H x y v u Q I rx ry h;obtain⟨F,dx,dy,i1,i2,p1,p2,q⟩:=h;exact(A0 I p1 p2 i1.any i2.any rx ry hu).2 X.prog X.w _ _ ⟨.bl (!eqD dx dy),H,I,rfl,q⟩
def OG:OpB X eqB (KW X.K M):=by
 intro F H dx dy x y b Q ix iy e q;unfold eqB at e;split at e
 .rename_i z;rw[Gai] at z;cases e;exact⟨F,dx,dy,ix,iy,z.1,z.2,q⟩
 .cases e
def OH:OpB X neB (KW X.K O):=by
 intro F H dx dy x y b Q ix iy e q;unfold neB at e;split at e
 .rename_i z;rw[Gai] at z;cases e;exact⟨F,dx,dy,ix,iy,z.1,z.2,q⟩
 .cases e
def KY{A:Yj}(hr:iU k A):A.units+20<cLine:=GcD (Nat.add_le_add_left (by decide:20<=64) _) hr.units
def OI:bootBuiltins "len"=U (.builtin "len"):=by decide+kernel
def OJ:bootBuiltins "min"=U (.builtin "min"):=by decide+kernel
def OK:bootBuiltins "max"=U (.builtin "max"):=by decide+kernel
def OL:bootBuiltins "any"=U (.builtin "any"):=by decide+kernel
def OM:bootBuiltins "all"=U (.builtin "all"):=by decide+kernel
def EX:bootBuiltins "sorted"=U (.builtin "sorted"):=by decide+kernel
def HA:bootBuiltins "int"=U (.type "int"):=by decide+kernel
def KZ:bootBuiltins "bool"=U (.type "bool"):=by decide+kernel
def ON:bootBuiltins "str"=U (.type "str"):=by decide+kernel
def A1:bootBuiltins "tuple"=U (.type "tuple"):=by decide+kernel
def CY:bootBuiltins "list"=U (.type "list"):=by decide+kernel
def vf:bootBuiltins "enumerate"=U (.type "enumerate"):=by decide+kernel
def L0{K:ak}:qE K "int":=by
 intro t ht;simp only[Gat,GbF,Gdk] at ht;rcases ht with rfl|rfl|rfl|rfl|rfl|rfl|rfl<;>rfl
def L1{K:ak}:qE K "str":=by
 intro t ht;simp only[Gat,GbF,Gdk] at ht;rcases ht with rfl|rfl|rfl|rfl|rfl|rfl|rfl<;>rfl
def kit_tuple{K:ak}:qE K "tuple":=by
 intro t ht;simp only[Gat,GbF,Gdk] at ht;rcases ht with rfl|rfl|rfl|rfl|rfl|rfl|rfl<;>rfl
def HB{K:ak}:qE K "list":=by
 intro t ht;simp only[Gat,GbF,Gdk] at ht;rcases ht with rfl|rfl|rfl|rfl|rfl|rfl|rfl<;>rfl
def HC{K:ak}:qE K "bool":=by
 intro t ht;simp only[Gat,GbF,Gdk] at ht;rcases ht with rfl|rfl|rfl|rfl|rfl|rfl|rfl<;>rfl
end
section
variable{X:Cx}
def pU(i:Nat)(x:Str)(k:(∀pos,PEd X (.Name x pos) (vE i))->lh X sts f)(hN:autoParam (X.N[i]? =U x) Za1._auto_1)(hv:Vis X.env.scope x:=by first|exact Or.inl rfl|exact Or.inr (Or.inl rfl)|exact Or.inr (Or.inr rfl))(hd:autoParam ((x==("__debug__":Str))=M) Za2._auto_1)
  (xn:autoParam ((x==("__classdict__":Str))=M) Za2._auto_1):lh X sts f:=k λ_=>Hk i hN hv hd xn
def L3(i:Nat)(x:Str)(k:Loc X.env.scope x->lh X sts f)(hx:Loc X.env.scope x:=by first|exact Or.inl rfl|exact Or.inr rfl):lh X sts f:=k hx
end
theorem lX{env:PySem.Env}:∀(names:List (Str×Yp)),(∀y∈names,y.2= .free->∃c,env.cells.lookup y.1=U c)->∀(cs:List (Str×Yd)),(∀n c,cs.lookup n=U c->env.cells.lookup n=U c)->
  ∃cl:List (Str×Yd),(forIn names cs λx r=>(do
    if(x.2==NameKind.free)=O then pure (ForInStep.yield ((x.1,<-cellOf env x.1)::r)) else pure (ForInStep.yield r):Sem (ForInStep (List (Str×Yd)))))=pure cl/\
   (∀n c,cl.lookup n=U c->env.cells.lookup n=U c)/\(∀y∈names,y.2= .free->∃c,cl.lookup y.1=U c)/\∀n c,cs.lookup n=U c->∃c',cl.lookup n=U c'
 |[],_,cs,h=>by
  refine⟨cs,rfl,h, ?_,λn c e=> ⟨c,e⟩⟩;intro y hy;cases hy
 |(x,k)::names,hf,cs,h=>by
  by_cases hk:k= .free
  .subst hk;obtain⟨c,hc⟩:=hf (x,.free) Gaj rfl;have xm:cellOf env x=pure c:=by unfold cellOf;rw[hc]<;>rfl
   obtain⟨cl,h1,h2,h3,h4⟩:=lX names (λy hy=>hf y (Gaf _ hy)) ((x,c)::cs) (λn c' e=>by
    by_cases z:n=x
    .simp_all
    .have z' :(n==x)=M:=by simpa using z
     simp[Gbj,z'] at e;exact h n c' e)
   refine⟨cl, ?_,h2,λy hy UM=> ?_,λn c' e=> ?_⟩
   .rw[GdK];simp only[xm];exact h1
   .rcases Gat.mp hy with rfl|hy
    .exact h4 x c (by simp)
    .exact h3 y hy UM
   .by_cases z:n=x
    .simp_all
    .have z' :(n==x)=M:=by simpa using z
     exact h4 n c' (by simp[Gbj,z',e])
  .have xu :(k==NameKind.free)=M:=by simpa using hk
   obtain⟨cl,h1,h2,h3,h4⟩:=lX names (λy hy=>hf y (Gaf _ hy)) cs h;refine⟨cl, ?_,h2,λy hy UM=> ?_,h4⟩
   .rw[GdK];simp only[xu];exact h1
   .rcases Gat.mp hy with rfl|hy
    .exact absurd UM hk
    .exact h3 y hy UM
def jh{env:PySem.Env}{scope:Ym}(hf:∀y∈scope.names,y.2= .free->∃c,env.cells.lookup y.1=U c):
  ∃cl,closureFor scope env=pure cl/\(∀n c,cl.lookup n=U c->env.cells.lookup n=U c)/\∀y∈scope.names,y.2= .free->∃c,cl.lookup y.1=U c:=by
 obtain⟨cl,h1,h2,h3,_⟩:=lX scope.names hf [] (λn c e=>by simp at e);refine⟨cl, ?_,h2,h3⟩;exact(congrArg (λm=>m>>=pure) h1).trans (by rfl)
theorem mem_of_lookup:∀{l:List (Str×Yp)},l.lookup x=U k->(x,k)∈l
 |[],h=>by simp at h
 |(n,k')::r,h=>by
  rw[Gbj] at h;cases hx:x==n with
  |true=>rw[hx] at h;cases h;rw[Gbw] at hx;subst hx;exact Gaj
  |false=>rw[hx] at h;exact Gaf _ (mem_of_lookup h)
theorem lY{env:PySem.Env}:∀{names:List (Str×Yp)},(∀y∈names,y.2≠ .cell)->((names.map λ(n,k)=>if(k==NameKind.free&&env.scope.kind== .function&&env.kindOf n==U .cell) then(n,NameKind.cell) else(n,k)).lookup x=U .cell\/
   (names.map λ(n,k)=>if(k==NameKind.free&&env.scope.kind== .function&&env.kindOf n==U .cell) then(n,NameKind.cell) else(n,k)).lookup x=U .free)->(x,NameKind.free)∈names
 |[],_,h=>by simp at h
 |(n,k)::r,hc,h=>by
  have hk:=hc (n,k) Gaj;rw[Gax] at h;dsimp only at h;split at h
  .rename_i q;have q1:k= .free:=by
    simp_all
   subst q1;rw[Gbj] at h;cases hx:x==n with
   |true=>rw[Gbw] at hx;subst hx;exact Gaj
   |false=>rw[hx] at h;exact Gaf _ (lY (λy hy=>hc y (Gaf _ hy)) h)
  .rw[Gbj] at h;cases hx:x==n with
   |true=>
    simp_all
   |false=>rw[hx] at h;exact Gaf _ (lY (λy hy=>hc y (Gaf _ hy)) h)
theorem fN{env:PySem.Env}:∀{names:List (Str×Yp)},names.lookup x=U .free->((names.map λ(n,k)=>if(k==NameKind.free&&env.scope.kind== .function&&env.kindOf n==U .cell) then(n,NameKind.cell) else(n,k)).lookup x=U .cell\/
   (names.map λ(n,k)=>if(k==NameKind.free&&env.scope.kind== .function&&env.kindOf n==U .cell) then(n,NameKind.cell) else(n,k)).lookup x=U .free)
 |[],h=>by simp at h
 |(n,k)::r,h=>by
  rw[Gbj] at h;rw[Gax];dsimp only;cases hx:x==n with
  |true=>
   rw[hx] at h;cases h
   split
   .left;rw[Gbj,hx]
   .right;rw[Gbj,hx]
  |false=>
   rw[hx] at h;split
   .rw[Gbj,hx];exact fN h
   .rw[Gbj,hx];exact fN h
noncomputable def blk(X:Cx)(scope:Ym)(cl:List (Str×Yd))(C:Yd)(N:List Str)(s:Yg)(H:Hp)(ex:List Yd):Cx:=
 {X with N:=N,s₀:=s,H0:=H,env:=compEnvC scope cl C X.env,outer:=X.stack,ex:=ex,fn:=λ_=>M,pn:=[],xe:=λ_ _=>False}
def A2:Option Yp->Bool
 |some .cell=>O
 |some .free=>O
 |_=>M
structure iq(X:Cx)(scope:Ym)(N:List Str)(n:Nat)(az:List Nat):Prop where
 cell:(scope.names.all λy=>y.2 != .cell)=O
 kind:scope.kind= .function
 names:(scope.names.all λy=>y.2 != .local||scope.names.lookup y.1==U .local)=O
 free:(scope.names.all λy=>y.2 != .free||A2 (X.env.kindOf y.1))=O
 cap:N.drop n=az.map λi=>(X.N[i]?).getD ("":Str)
 le:n<=N.length
 lt:(az.all λi=>decide (i<X.N.length))=O
 fr:((N.drop n).all λx=>scope.names.lookup x==U .free)=O
def pV(X:Cx)(ifs:List Yh)(tt:TT):Prop:=∀(e8:LAO) (s:Yg) (Z:St) (H:Hp) (Q:Bool->Hp->Prop),Inv X e8 Z H s->tt Z H Q->
 wpAny (model X.prog X.w) X.A (forIn ifs O λc r=>if r=O then do let ok<-isTrue c X.env (eval c X.env);pure (ForInStep.yield ok) else pure (ForInStep.yield r)) (TP X e8 Z Q) X.xe s
def EY:pV X [] (tT X fM):=λe8 s Z H Q I ⟨_,_,_,_,_,e,k⟩=>by
 cases e;exact wpAny_tests_nil ⟨H,I,k H bG⟩
def EZ(h:PTd X c t):pV X [c] (tT X t):=λe8 s Z H Q I q=>wpAny_tests_one (h e8 s Z H Q I q)
def pW{az:List Nat}{n j:Nat}{α:Type}{f:Nat->Option α}{y:α}(h:(List.replicate n (J:Option α)++az.map f)[j]? =U (U y)):∃i,az[j -n]? =U i/\n<=j/\f i=U y:=by
 by_cases hj:j<n
 .rw[GaR (by simpa using hj),Gcz] at h;lia
 .rw[GaM (by simp;lia),GdD,Gap] at h;cases q:az[j -n]? with
  |none=>rw[q] at h;cases h
  |some i=>rw[q] at h;simp only[Gcj,GcM] at h;exact⟨i,rfl,by lia,h⟩
def HE{az:List Nat}{j:Nat}{α:Type}{f:Nat->Option α}(h1:az[j -n]? =U i)(h2:n<=j):(List.replicate n (J:Option α)++az.map f)[j]? =U (f i):=by
 rw[GaM (by simp;lia),GdD,Gap,h1];rfl
noncomputable def kn(n:Nat)(az:List Nat)(Z:St):St:=List.replicate n J++az.map λi=>Z[i]?.getD J
def lG(eC:Yd->Prop)(env:Env)(Z:St)(p:Yd):Yd->Prop:=λa=>a=p\/¬Cln eC env Z a
theorem getD_some{α:Type}{o:Option (Option α)}{y:α}(h:o.getD J=U y):o=U (U y):=by
 cases o with
 |none=>cases h
 |some z=>simp only[Option.getD_some] at h;rw[h]
def A3(e:(XT n az env)[j]? =U (U sl)):∃i,az[j -n]? =U i/\n<=j/\df (env[i]?.getD J)=U sl:=pW e
def CZ{j:Nat}(t:b5 (XT n az env)[j]?)(e:(kn n az Z)[j]? =U (U (.ref a))):∃i:Nat,b5 env[i]? /\Z[i]? =U (U (.ref a)):=by
 cases q:(XT n az env)[j]? with
 |none=>rw[q] at t;exact t.elim
 |some z=>
  cases z with
  |none=>rw[q] at t;exact t.elim
  |some sl=>
   obtain⟨i,e1,e2,e3⟩:=A3 q;obtain⟨i',yJ,_,Xq⟩:=pW e;rw[e1] at yJ;cases yJ
   refine⟨i, ?_,getD_some Xq⟩;rw[q] at t;cases r:env[i]? with
   |none=>rw[r] at e3;cases e3
   |some z=>cases z with
    |none=>rw[r] at e3;cases e3
    |some z=>
     rw[r] at e3;cases z with
     |sh d=>cases e3;exact t.elim
     |own d=>trivial
     |lok d=>trivial
     |bor d=>trivial
theorem L4{j:Nat}:¬isO (XT n az env)[j]? :=λt=>by
 match q:(XT n az env)[j]?,t with
 |some (U (.own d)),_=>
  obtain⟨i,_,_,e3⟩:=A3 q;cases q:env[i]?.getD J with
  |none=>rw[q] at e3;cases e3
  |some z=>rw[q] at e3;cases z<;>cases e3
variable{H:Hp}
def aw.block{K:ak}(E:aw K H0 eC env Z H)(n:Nat)(az:List Nat)(hp:H p=J):
  aw K H (lG eC env Z p) (XT n az env) (kn n az Z) (upd H p (.lst [])):=by
 have sm:cb H (upd H p (.lst [])):=aX hp;have slot:∀(j:Nat) (sl:Slot),(XT n az env)[j]? =U (U sl)->∃i,az[j -n]? =U i/\n<=j/\df (env[i]?.getD J)=U sl:=λj sl e=>pW e;have noO:∀(j:Nat) d,(XT n az env)[j]? ≠U (U (.own d))/\(XT n az env)[j]? ≠U (U (.lok d)):=λj d=>by
  constructor<;>
  .intro e;obtain⟨i,_,_,e3⟩:=slot j _ e;cases q:env[i]?.getD J with
   |none=>rw[q] at e3;cases e3
   |some z=>rw[q] at e3;cases z<;>cases e3
 have topAd:∀(j:Nat) a,b5 (XT n az env)[j]? ->(kn n az Z)[j]? =U (U (.ref a))->∃i:Nat,b5 env[i]? /\Z[i]? =U (U (.ref a)):=λj a t e=>CZ t e;have xf:∀b,Cln eC env Z b->H b≠J->Cln (lG eC env Z p) (XT n az env) (kn n az Z) b:=λb h hb=>by
  refine⟨λz=> ?_,λj t e=> ?_⟩
  .rcases z with z|z
   .subst z;exact hb hp
   .exact z h
  .obtain⟨i,t',e'⟩:=topAd j b t e;exact h.2 i t' e'
 refine⟨sm, ?_, ?_, ?_, ?_, ?_, ?_⟩
 .simp[XT,kn]
 .intro a ha;rcases ha with ha|ha
  .subst ha;rw[aF];simp
  .intro z;refine ha ⟨λb=>E.bad a b (sm.free z),λi t e=>E.mZ t e (sm.free z)⟩
 .intro j d e;obtain⟨i,e1,e2,e3⟩:=slot j _ e;have q:env[i]? =U (U (.sh d)):=by
   cases r:env[i]? with
   |none=>rw[r] at e3;cases e3
   |some z=>cases z with
    |none=>rw[r] at e3;cases e3
    |some z=>rw[r] at e3;cases z<;>cases e3;rfl
  obtain⟨v,h1,h2⟩:=E.sh i d q;refine⟨v, ?_,h2.gen (.XY sm) xf⟩;unfold kn;rw[HE e1 e2,h1];rfl
 .intro j d e;rcases e with e|e
  .exact absurd e (noO j d).1
  .exact absurd e (noO j d).2
 .intro j d e;obtain⟨i,e1,e2,e3⟩:=slot j _ e;have q:b5 env[i]? /\(env[i]? =U (U (.own d))\/env[i]? =U (U (.lok d))\/env[i]? =U (U (.bor d))):=by
   cases r:env[i]? with
   |none=>rw[r] at e3;cases e3
   |some z=>cases z with
    |none=>rw[r] at e3;cases e3
    |some z=>
     rw[r] at e3;cases z with
     |sh d=>cases e3
     |own d=>cases e3;exact⟨trivial,.inl rfl⟩
     |lok d=>cases e3;exact⟨trivial,.inr (.inl rfl)⟩
     |bor d=>cases e3;exact⟨trivial,.inr (.inr rfl)⟩
  have fact:∃a,Z[i]? =U (U (.ref a))/\Wr H a/\d.top=O/\Inn K (Cln eC env Z) H d (.ref a):=by
   rcases q.2 with q|q|q
   .obtain⟨a,h1,_,_,h4,h5,h6⟩:=E.ow i d (.inl q);exact⟨a,h1,h4,h5,h6⟩
   .obtain⟨a,h1,_,_,h4,h5,h6⟩:=E.ow i d (.inr q);exact⟨a,h1,h4,h5,h6⟩
   .exact E.bo i d q
  obtain⟨a,h1,h4,h5,h6⟩:=fact;refine⟨a, ?_,h4.same sm,h5,h6.gen (.XY sm) xf λ_ _ _ o e=>sm _ o e⟩;unfold kn;rw[HE e1 e2,h1];rfl
 .intro j k a t;exfalso;cases q:(XT n az env)[j]? with
  |none=>rw[q] at t;exact t
  |some z=>cases z with
   |none=>rw[q] at t;exact t
   |some z=>cases z with
    |sh d=>rw[q] at t;exact t
    |own d=>exact(noO j d).1 q
    |lok d=>exact(noO j d).2 q
    |bor d=>rw[q] at t;exact t
def aw.grow{K:ak}{H0:Hp}{eC:Yd->Prop}(E:aw K H0 eC env Z H)(hb:eC p)(h0:H0 p=J)(hp:H p=U (.lst vs))(hl:∀i:Nat,wO env[i]? ->Z[i]? ≠U (U (.ref p))):aw K H0 eC env Z (upd H p (.lst us)):=by
 have dN:ij (Cln eC env Z) H (upd H p (.lst us)):=λb o e q=>by
  refine(ar ?_).trans e;rintro rfl;rcases q with q|q
  .exact q.1 hb
  .rw[hp] at e;cases e;exact q
 have wr:∀{a},Wr H a->Wr (upd H p (.lst us)) a:=λ{a} ⟨o,h1,h2⟩=>by
  by_cases z:a=p
  .subst z;exact⟨_,aF,trivial⟩
  .exact⟨o,(ar z).trans h1,h2⟩
 refine⟨λb o e=>(ar λz=>by subst z;rw[h0] at e;cases e).trans (E.same b o e),E.len,λa ha=> ?_,λi d e=> ?_,λi d e=> ?_,λi d e=> ?_,E.dj⟩
 .by_cases z:a=p
  .subst z;rw[aF];simp
  .rw[ar z];exact E.bad a ha
 .obtain⟨v,h1,h2⟩:=E.sh i d e;exact⟨v,h1,h2.gen dN λ_ f _=>f⟩
 .obtain⟨a,h1,h2,h3,h4,h5,h6⟩:=E.ow i d e;refine⟨a,h1,h2,h3,wr h4,h5,h6.gen dN (λ_ f _=>f) λb eb _ o q=> ?_⟩;cases eb;exact(ar (λz:a=p=>h3 (by rw[z];exact hb))).trans q
 .obtain⟨a,h1,h4,h5,h6⟩:=E.bo i d e;refine⟨a,h1,wr h4,h5,h6.gen dN (λ_ f _=>f) λb eb _ o q=> ?_⟩;cases eb;exact(ar (λz:a=p=>hl i (by rw[e];trivial) (by rw[<-z];exact h1))).trans q
def ex7{a b c d e f g:Type}{P:a->b->c->d->e->f->g->Prop}{G:Prop}(h:∀x1 x2 x3 x4 x5 x6 x7,P x1 x2 x3 x4 x5 x6 x7->G):(∃x1 x2 x3 x4 x5 x6 x7,P x1 x2 x3 x4 x5 x6 x7)->G:=λ⟨x1,x2,x3,x4,x5,x6,x7,q⟩=>h x1 x2 x3 x4 x5 x6 x7 q
structure CoI(X:Cx)(scope:Ym)(cl:List (Str×Yd))(C:Yd)(N:List Str)(s:Yg)(H:Hp)(fp:List Yd)(tn:Nat->Yi->Prop)(eC:Yd->Prop)(env:Env)(Z:St)(p:Yd)(gd:DG)(t:DT)(f:DE)(ds rs:List D)(m:Nat)(s' :Yg)(i:Nat)(Zi:St)(Hi:Hp)(eK:Env)(vs:List V)(done rest:List D):Prop where
 em:m=ds.length -i
 hi:i<=ds.length
 Ii:Inv (blk X scope cl C N s H fp) [] Zi Hi s'
 sti:tn i s'.heap
 fri:∀b∈fp,Hi b=J
 Ei:aw X.K H (lG eC env Z p) eK Zi Hi
 hpi:Hi p=U (.lst vs)
 ri:aO X.K (λb=>Cln eC env Z b/\b≠p) Hi done vs
 owi:∀j:Nat,¬isO eK[j]?
 lbi:∀(j:Nat) a,wO eK[j]? ->Zi[j]? =U (U (.ref a))->¬Cln eC env Z a
 dl:done.length<=i
 ci:cO gd t f (ds.drop i) eK=U rest
 eqi:done++rest=rs
section
def iu{scope:Ym}(h:scope.names.lookup x=U .local):(relabel scope env).names.lookup x=U .local:=lookup_relabel_local h
def F4{scope:Ym}(h:scope.names.lookup x=U .local):Vis (blk X scope cl C N s H ex).env.scope x:= .inl (iu h)
def F5{scope:Ym}(h:scope.names.lookup x=U .local):Loc (blk X scope cl C N s H ex).env.scope x:= .inl (iu h)
def HF{scope:Ym}(h:scope.names.lookup x=U .free):Vis (blk X scope cl C N s H ex).env.scope x:= .inr (fN h)
variable{Z:St}
def F6{X:Cx}{scope:Ym}{cl:List (Str×Yd)}{s:Yg}{h₁:Yi}{C:Yd}(S:iq X scope N n az)(I:Inv X e8 Z H s)
  (yQ:∀x c,cl.lookup x=U c->X.env.cells.lookup x=U c)(UT:∀y∈scope.names,y.2= .free->∃c,cl.lookup y.1=U c)(hf:∀b∈fp,lV X e8 H b)(UU:∀b∈fp,b<s.heap.objs.size)
  (hC:s.heap.objs.size+1=C)(zA:h₁.Ns C λ_=>J)(old:∀b o,s.heap.get? b=U o->h₁.get? b=U o)(yf:h₁.get? s.heap.objs.size=U {cls:= .type "list",data:= .seq ([]:List Ye).toArray}):
  Inv (blk X scope cl C N s H fp) [] (kn n az Z) (upd H s.heap.objs.size (.lst [])) {s with heap:=h₁,toks:=tk}:=by
 have zb:=I.fresh;have hCn:H C=J:=I.hok.fresh (by lia);have xy:C≠s.heap.objs.size:=λz=>by rw[z] at hC;exact Nat.succ_ne_self _ hC
 have xm:∀y∈scope.names,y.2≠ .cell:=λy hy z=>by
  have:=Gaq.mp S.cell y hy;rw[z] at this;simp at this
 have cells:∀x c,cl.lookup x=U c->∃v,s.heap.IsCell c v:=λx c e=>I.cell x c (yQ x c e);have cNe:∀x c,cl.lookup x=U c->c≠s.heap.objs.size:=λx c e z=>by
  obtain⟨v,q⟩:=cells x c e;exact absurd q.lt (by rw[z];exact GbA _)
 refine⟨⟨I.ok.mod,S.kind,I.ok.glob,I.ok.blt,by show s.heap.objs.size<=C;lia,λx y c e1 e2=>I.ok.inj x y c (yQ x c e1) (yQ y c e2),λx hx=> ?_,λx c e=>(by cases e),I.ok.hd,I.ok.frames,.inl rfl,λb hb=> ⟨?_,λx c e=>(hf b hb).2.2.2.2.1 x c (yQ x c e)⟩,
  I.bs,Gbp I.ok.bsz I.sz,λb o e hb=> ?_,λb hb hs=> ?_,I.stack,I.Cz⟩,rfl,I.bare,Un.laid old (Gao _) zb,⟨_,zA,λj x v e1 e2 e3=> ?_⟩,λx c e=> ?_,(ar xy).trans hCn,λx c e=>(ar (cNe x c e)).trans (I.jN x c (yQ x c e)),λp hp=> ?_, ?_, ?_⟩
 .obtain⟨c,hc⟩:=UT (x,.free) (lY xm hx) rfl;exact⟨c,hc⟩
 .intro z;have:=UU b hb;have z' :b=C:=z;rw[z',<-hC] at this;exact GbA _ (Nat.lt_of_succ_lt this)
 .rcases(hf b hb).2.2.2.1 with z|z
  .exact I.ok.JZ b o e z
  .exact absurd (GaL (GaA e) (Gbp I.ok.bsz z)) (GbA _)
 .have xM :b∈frs X.stack:=hs;rcases Gat.mp (I.Bh b xM) with z|z
  .exact(hf b hb).2.1 z
  .exact(hf b hb).2.2.1 z
 ·
  obtain⟨i,f1,f2,f3⟩:=pW e2;have f3' :=getD_some f3;have yJ :N[j]? =U x:=e1;have hd:(N.drop n)[j -n]? =U x:=by rw[Gdi];rw[show n+(j -n)=j by lia];exact yJ
  have hxf:scope.names.lookup x=U .free:=by
   have:=Gaq.mp S.fr x (Gau hd)
   simpa using this
  rw[S.cap,Gap,f1] at hd;have hi:i<X.N.length:=Gar (Gaq.mp S.lt i (Gau f1));have hXN:X.N[i]? =U x:=by
   simp only[Gcj,GcM] at hd;rw[Gac hi] at hd⊢
   simpa using hd
  have hk:A2 (X.env.kindOf x)=O:=by
   have:=Gaq.mp S.free (x,.free) (mem_of_lookup hxf)
   simpa using this
  have xu :X.env.kindOf x=U .cell\/X.env.kindOf x=U .free:=by
   cases q:X.env.kindOf x with
   |none=>rw[q] at hk;cases hk
   |some z=>rw[q] at hk;cases z<;>first|(cases hk;done)|exact .inl rfl|exact .inr rfl
  obtain⟨m,hm,look⟩:=I.loc;have hv:Vis X.env.scope x:= .inr xu;obtain⟨u,ru,l⟩:=look i x v hXN f3' hv;refine⟨u,ru,.inr ⟨?_, ?_⟩⟩
  .exact fN hxf
  .rcases l with⟨l,_⟩| ⟨_,c,hc,o,ho,yB⟩
   .rcases xu with z|z<;>rw[l] at z<;>cases z
   .obtain⟨c',ym⟩:=UT (x,.free) (mem_of_lookup hxf) rfl;have:=yQ x c' ym;rw[hc] at this;cases this
    exact⟨c,ym,o,old _ _ ho,yB⟩
 .obtain⟨v,o,ho,yB⟩:=cells x c e;exact⟨v,o,old _ _ ho,yB⟩
 .cases hp
 .exact I.hok.laid old (Gao _) ⟨Gba _,[],0,.nil,yf⟩
 .show(kn n az Z).length=N.length;have:=congrArg List.length S.cap;rw[Gct,Gae] at this;have:=S.le;simp[kn];lia
def L5{Z' :St}(I:Inv X e8 Z H s)(hf:∀b∈fp,lV X e8 H b)
  (I' :Inv (blk X scope cl C N s H fp) pins' Z' H' s'):Inv X e8 Z H' s' :=
 I.MF I'.os I'.base I'.hok I'.bare λb hb=> ⟨(hf b hb).2.2.2.1,(hf b hb).2.1,(hf b hb).2.2.2.2.1,(hf b hb).2.2.2.2.2⟩
def S8(K:ak)(H H' :Hp)(F:Yd->Prop)(p:Yd)(rs:List D):Prop:=cb H H' /\H p=J/\∃vs,H' p=U (.lst vs)/\aO K (λb=>F b/\b≠p) H' rs vs
def oU(gd:DG):Prop:=∀d e e',gd d e=U e' ->(∀j:Nat,¬isO e[j]?)->∀j:Nat,¬isO e'[j]?
def D0{e:Env}(h:∀j:Nat,¬isO e[j]?):∀j:Nat,¬isO (e.set i (U (.sh d)))[j]? :=λj z=>by
 by_cases q:i=j
 .subst q;by_cases hl:i<e.length
  .rw[Gbl hl] at z;exact z
  .rw[GbE (by simp;lia)] at z;exact z
 .simp_all
def HG:oU (gN i):=λd e e' h n=>by cases h;exact D0 n
theorem ua:∀(is:List Nat) (ds:List D) e e',gNs is ds e=U e' ->(∀j:Nat,¬isO e[j]?)->∀j:Nat,¬isO e'[j]?
 |[],[],e,e',h,n=>by cases h;exact n
 |i::is,d::ds,e,e',h,n=>ua is ds _ e' h (D0 n)
 |[],_::_,_,_,h,_=>by cases h
 |_::_,[],_,_,h,_=>by cases h
def HH:oU (gT is):=λd e e' h n=>by
 unfold gT at h;split at h
 .exact ua is _ e e' h n
 .cases h
def o7{X:Cx}{scope:Ym}{cl:List (Str×Yd)}{H:Hp}{s:Yg}{fp:List Yd}{tn:Nat->Yi->Prop}{t:DT}{ds:List D}{RR:Ye->Yd->Result->Yg->Prop}
      (hc:X.calm=O)(S:iq X scope N n az)(I:Inv X e8 Z H s)
  (yQ:∀x c,cl.lookup x=U c->X.env.cells.lookup x=U c)(UT:∀y∈scope.names,y.2= .free->∃c,cl.lookup y.1=U c)(hf:∀b∈fp,lV X e8 H b)(T:Turn X.prog X.w X.K tg XI fp it tn)(st:tn 0 s.heap)
  (hg:∀C s' H',PGd (blk X scope cl C N s' H' fp) tg gd)(ht:∀C s' H',pV (blk X scope cl C N s' H' fp) ifs (tT X t))(he:∀C s' H',PEd (blk X scope cl C N s' H' fp) elt f)
  (EE:aw X.K H0 eC env Z H)(io:By X.K (λb=>Cln eC env Z b/\H b≠J) (λb=>¬Ow env Z b) XI ds H)(yH:oU gd)(hz:ds.length<=af)(hl:cO gd t f ds (XT n az env)=U rs)
  (Xj:∀p C s' H' m,Inv X e8 Z H' s' ->s'.heap.Ns C m->s.heap.objs.size<=C->lV X e8 H' C->S8 X.K H H' (Cln eC env Z) p rs->RR (.ref p) C (.ok .next) s'):
  wpAny (model X.prog X.w) X.A (newList []) (λacc s₃=>wpAny (model X.prog X.w) X.A (newFunctionEnv scope X.env.globals cl [] X.env.qual J .none (U X.env)) (λUH s₄=>
   codeAny (model X.prog X.w) X.A (.compStart (.ListComp elt [⟨tg,iter,ifs,0⟩] scope pos) 0 (.ref it) acc {UH with scope:=relabel scope X.env}) (RR acc UH.locals) s₄) E s₃) E s:=by
 have xm:∀y∈scope.names,y.2≠ .cell:=λy hy z=>by
  have:=Gaq.mp S.cell y hy;rw[z] at this;simp at this
 refine Gbk (wpAny_newFunctionEnv xm (by intro y hy;simp at hy) (λh₁ hns₁ hsb₁=> ?_) S.kind);dsimp only at hns₁ hsb₁⊢;generalize yn:s.heap.push {cls:= .type "list",dict:=J,data:= .seq ([]:List Ye).toArray}=H2 at hns₁ hsb₁⊢;have hC:s.heap.objs.size+1=H2.objs.size:=by rw[<-yn,GbZ]
 have hDC:s.heap.objs.size≠H2.objs.size:=by rw[<-hC];exact GaK (GdA _)
 have hCle:s.heap.objs.size<=H2.objs.size:=by rw[<-hC];exact GbR _
 have old:∀b o,s.heap.get? b=U o->h₁.get? b=U o:=λb o e=>hsb₁.extBut b o (by rw[<-hC];exact GaK (GbY (GaA e))) (Gag _ (yn▸Gag _ e));have yf:h₁.get? s.heap.objs.size=U {cls:= .type "list",data:= .seq ([]:List Ye).toArray}:=hsb₁.extBut _ _ hDC (Gag _ (yn▸Gay _ rfl));have UU:∀b∈fp,b<s.heap.objs.size:=λb hb=>by obtain⟨o,e,_⟩:=T.obj 0 _ st b hb;exact GaA e
 have st₁:tn 0 h₁:=T.keep 0 _ _ st λb _ o e=>old b o e;have zb:=I.fresh;generalize hC' :H2.objs.size=C at*;have I1:Inv (blk X scope cl C N s H fp) [] (kn n az Z) (upd H s.heap.objs.size (.lst [])) {s with heap:=h₁,toks:=s.toks+([]:List (Str×Ye)).length}:=F6 S I yQ UT hf UU hC (by
  have z:(λx:Str=>([]:List (Str×Ye)).reverse.lookup x)=λ_=>J:=by funext x;rfl
  rw[z] at hns₁;exact hns₁) old yf
 have E1:=EE.block n az zb;generalize hp:s.heap.objs.size=p at*;have loop:codeAny (model X.prog X.w) X.A (.compLoop (.ListComp elt [⟨tg,iter,ifs,0⟩] scope pos) 0 (.ref it) (.ref p) (compEnvC scope cl C X.env)) (RR (.ref p) C) {s with heap:=h₁,toks:=s.toks+([]:List (Str×Ye)).length}:=by
  refine codeAny_loop rfl (λm s' =>∃i Zi Hi eK vs done rest,CoI X scope cl C N s H fp tn eC env Z p gd t f ds rs m s' i Zi Hi eK vs done rest) ?_ ds.length ?_
  .refineλm s' =>ex7 λi Zi Hi eK vs done rest J0=> ?_
   have e0:=J0.em;subst e0;have hi:=J0.hi;have Ii:=J0.Ii;have sti:=J0.sti;have fri:=J0.fri;have Ei:=J0.Ei;have hpi:=J0.hpi;have ri:=J0.ri;have owi:=J0.owi;have lbi:=J0.lbi;have dl:=J0.dl;have ci:=J0.ci;have eqi:=J0.eqi;have hfi:∀{H' :Hp},(∀b∈fp,H' b=J)->∀b∈fp,lV (blk X scope cl C N s H fp) [] H' b:=λhn b hb=>by
    refine⟨hn b hb,(Ii.ok.exf b hb).1,Ii.ok.K0 b hb,.inl hb,(Ii.ok.exf b hb).2,λq hq=>(by cases hq)⟩
   have xY:∀b o,H b=U o->Hi b=U o:=Ei.same;obtain⟨items,stop⟩:=io Hi λb o hb _=>xY b o hb;show wpAny _ X.A ((compTurn (.ListComp elt [⟨tg,iter,ifs,0⟩] scope pos) 0 (.ref it) (.ref p) (compEnvC scope cl C X.env)).onRaise (λx=>do noteFrame x (compEnvC scope cl C X.env);theTreesLotGoes x)) _ _ s';refine wpAny_noted ?_;rw[compTurn_list];refine Gab (wpAny_standAt (Gab ?_));by_cases eX:i<ds.length
   .obtain⟨go,yld⟩:=items i ds[i] (by simp[eX]);refine thn (T.item (blk X scope cl C N s H fp) rfl rfl rfl hc i [] s' Zi Hi _ Ii (hfi fri) sti go) λr s4 ⟨u,hr,h4⟩=> ?_;subst hr;refine Gab (thn h4 λ_ s5 ⟨x,H5,I5,r5,y5,yW,VD⟩=> ?_);obtain⟨s2,rep⟩:=yld x H5 y5;have I5' :=I5.pinned (hfi VD) (T.obj _ _ yW);have hd:ds.drop i=ds[i]::ds.drop (i+1):=GbQ eX;rw[hd] at ci;unfold cO at ci;obtain⟨e2,yA,ci⟩:=eh ci;obtain⟨bb,hJ,ci⟩:=eh ci;have clnIn:∀b,Cln eC env Z b/\H b≠J->Cln (lG eC env Z p) eK Zi b:=λb ⟨q1,q2⟩=>by
     refine⟨λz=>z.elim (λz=>q2 (by rw[z];exact zb)) λz=>z q1,λj tj ej=> ?_⟩;rcases u3 tj with o|o
     .exact owi j o
     .exact lbi j b o ej q1
    refine Gab (thn (Gcc (hg C s H _ s5 Zi H5 x u (λZ6 H6=>aw X.K H (lG eC env Z p) e2 Z6 H6/\Stp eK Zi H5 e2 Z6 H6) I5' r5 ⟨H,lG eC env Z p,eK,ds[i],e2,Ei.mono s2,yA,rep.imp clnIn,λZ' H' E' p' => ⟨E',p'⟩⟩) (λ_ _ q=>q) λ_ _ q=>q.elim) λ_ s6 ⟨Z6,H6,I6,E6,p6⟩=> ?_);have V9:=yH _ _ _ yA owi;have s56:cb H5 H6:=λb o e=>p6.keep b o e λ⟨j,z,_⟩=>owi j z;have VR:∀(j:Nat) a,wO e2[j]? ->Z6[j]? =U (U (.ref a))->¬Cln eC env Z a:=λj a z ej=>by
     obtain⟨q1,q2⟩:=p6.lk j z;rw[q1] at z;rw[q2] at ej
     exact lbi j a z ej
    have again:∀{H7:Hp} {s7:Yg} {UI :List V} {xS xJ :List D},Inv (blk X scope cl C N s H fp) ([]++qd fp s5.heap) Z6 H7 s7->aw X.K H (lG eC env Z p) e2 Z6 H7->H7 p=U (.lst UI)->aO X.K (λb=>Cln eC env Z b/\b≠p) H7 xS UI ->
      xS.length<=i+1->cO gd t f (ds.drop (i+1)) e2=U xJ ->xS ++xJ =rs->
      ∃m,m<ds.length -i/\∃i Zi Hi eK vs done rest,CoI X scope cl C N s H fp tn eC env Z p gd t f ds rs m s7 i Zi Hi eK vs done rest:=by
     intro H7 s7 UI xS xJ I7 E7 UQ r7 Xs c7 q7;refine⟨ds.length -(i+1),by lia,i+1,Z6,H7,e2,UI,xS,xJ,⟨rfl,eX,I7.mP,T.keep _ _ _ yW λb hb o e=>(I7.pin (b,o) (Gbn _ (Gbn _ (jO hb e)))).1,λb hb=> ?_,E7,UQ,r7,V9,VR,Xs,c7,q7⟩⟩;obtain⟨o,e,d⟩:=T.obj _ _ yW b hb;exact(I7.pin (b,o) (Gbn _ (Gbn _ (jO hb e)))).2.1
    refine Gab (thn (Gcc (ht C s H _ s6 Z6 H6 (λb' H7=>b' =bb/\cb H6 H7) I6 ⟨H,lG eC env Z p,e2,bb,E6,hJ,λH' s' => ⟨rfl,s'⟩⟩) (λ_ _ q=>q) λ_ _ q=>q.elim) λok s7 ⟨H7,I7,hok,VO⟩=> ?_);subst hok;have sAll:cb Hi H7:=s2.trans (s56.trans VO);have E7:=E6.mono VO;have UQ:H7 p=U (.lst vs):=sAll _ _ hpi;have r7:=ri.gen (F' :=λb=>Cln eC env Z b/\b≠p) (.XY sAll) λ_ q _=>q;cases ok with
    |false=>
     rw[Gah Gaz] at ci;exact Gad ⟨rfl,again I7 E7 UQ r7 (Nat.le_succ_of_le dl) ci eqi⟩
    |true=>
     rw[Gan rfl] at ci;obtain⟨r,hr,ci⟩:=eh ci;split at ci
     .rename_i ya;obtain⟨xJ,c8,rfl⟩:=Gaa.mp ci;refine Gab (Gab (thn (Gcc (he C s H _ s7 Z6 H7 (λv H8=>cb H7 H8/\iX X.K H (lG eC env Z p) e2 Z6 H7 H8 r v) I7 ⟨H,lG eC env Z p,e2,r,E7,hr,λv H' s' R=> ⟨s',R⟩⟩) (λ_ _ q=>q) λ_ _ q=>q.elim) λy s8 ⟨v,H8,I8,ry,V6,R⟩=> ?_));have E8:=E7.mono V6;have Vl:H8 p=U (.lst vs):=V6 _ _ UQ;have r8:=(r7.gen (F' :=λb=>Cln eC env Z b/\b≠p) (.XY V6) λ_ q _=>q)
      have vr:Rep X.K (λb=>Cln eC env Z b/\b≠p) H8 r.d v:=(R.rep E7 ya).imp λb q=> ⟨Classical.byContradiction λz=>q.1 (.inr z),λz=>q.1 (.inl z)⟩;have eL:vs.length<sizeLine:=by
       rw[<-eQ,<-ri.1];lia
      refine Gab (thn (Gcc (nX (X:=blk X scope cl C N s H fp) _ s8 Z6 H8 (.ref p) [v] (.ref p) [y] (λ_ H9=>H9=upd H8 p (.lst (vs++[v]))) I8 rfl (.cons ry .nil) ⟨p,vs,v,rfl,rfl,Vl,eL,rfl⟩) (λ_ _ q=>q) λ_ _ q=>q.elim) λ_ s9 ⟨_,H9,I9,_,h9⟩=> ?_);subst h9;have lbp:∀j:Nat,wO e2[j]? ->Z6[j]? ≠U (U (.ref p)):=λj z ej=>VR j p z ej (EE.vd zb);have dN:ij (λb=>Cln eC env Z b/\b≠p) H8 (upd H8 p (.lst (vs++[v]))):=λb o e q=>by
       refine(ar ?_).trans e;rintro rfl;rcases q with q|q
       .exact q.2 rfl
       .rw[Vl] at e;cases e;exact q
      refine Gad (Gad ⟨rfl,again I9 (E8.grow (.inl rfl) zb Vl lbp) aF ((r8.append (aO.cons vr .nil)).gen dN λ_ q _=>q) (by simp;lia) c8 ?_⟩);rw[<-eqi,Gbe];rfl
     .cases ci
   .have xa :i=ds.length:=by lia
    subst xa;rw[List.drop_length] at ci;cases ci;rw[Gbb] at eqi;subst eqi;refine thn (T.done (blk X scope cl C N s H fp) rfl rfl rfl hc ds.length [] s' Zi Hi _ Ii (hfi fri) sti stop) λr s4 ⟨hr,I4⟩=> ?_;subst hr;obtain⟨m,hm,_⟩:=I4.loc;have IX:=L5 I hf I4;exact Gad (Xj p C s4 Hi m IX hm hCle ⟨I4.free,(I.Es (by rw[hp];exact hCle) (I.hok.fresh (by rw[hp];exact hCle))).2⟩ ⟨xY,zb,vs,hpi,ri⟩)
  .exact⟨0,_,_,_,[],[],rs,⟨by simp,Gba _,I1,st₁,λb hb=>(ar (by rintro rfl;exact GbA _ (UU _ hb))).trans (hf b hb).1,E1,aF,aO.nil,λj=>L4,λj a z e=>by
    obtain⟨i,t1,t2⟩:=CZ z.top e
    exactλq=>q.2 i t1 t2,Gao _,by simpa using hl,rfl⟩⟩
 exact codeAny_compStart_list loop (T.self X.A 0 _ _ _ st₁ loop)
end
section
variable{X:Cx}
def n5:XT n az (bD l env)=XT n az env:=by
 cases l with
 |none=>rfl
 |some j=>
  unfold bD;dsimp only;split
  .rename_i d q;unfold XT;congr 1;apply GaO;intro i _;by_cases z:j=i
   .subst z;rw[Gbl (Gak.mp q).1,q]
    rfl
   .simp_all
  .rfl
theorem iq.cells{scope:Ym}{Z:St}(S:iq X scope N n az)(I:Inv X e8 Z H s):∀y∈scope.names,y.2= .free->∃c,X.env.cells.lookup y.1=U c:=λy hy hf=>by
 have hk:=Gaq.mp S.free y hy;rw[hf] at hk;refine I.ok.has y.1 ?_;cases q:X.env.kindOf y.1 with
 |none=>rw[q] at hk;cases hk
 |some z=>rw[q] at hk;cases z<;>first|(cases hk;done)|exact .inl rfl|exact .inr rfl
def iq.BA{scope:Ym}(S:iq X scope N n az):∀y∈scope.names,y.2= .local->scope.names.lookup y.1=U .local:=λy hy hl=>by
 have:=Gaq.mp S.names y hy;simp_all
structure Blk(X:Cx)(scope:Ym)(N:List Str)(tg elt:Yh)(ifs:List Yh)(gd:DG)(t:DT)(f:DE):Prop where
 g:∀cl C s H ex,PGd (blk X scope cl C N s H ex) tg gd
 t:∀cl C s H ex,pV (blk X scope cl C N s H ex) ifs (tT X t)
 e:∀cl C s H ex,PEd (blk X scope cl C N s H ex) elt f
def _root_.L2.Inv.HI{s:Yg}(I:Inv X e8 Z H s)(F:lV X e8 H C)(hs:Heap.SameBut C s.heap h'):Inv X e8 Z H {s with heap:=h' }:=
 I.turned (λb o hb e=>(hs.2 b hb).trans e) F.1 F.2.1 F.2.2.2.1 F.2.2.2.2.1 F.2.2.2.2.2
def L6(hc:X.calm=O)(S:iq X scope N n az)(hi:PId X tg iter src)(yH:oU gd)(B:Blk X scope N tg elt ifs gd t f)
  (hs:∀x,foldedSetIterable iter X.env x=pure x:=by intro _;rfl):PEd X (.ListComp elt [⟨tg,iter,ifs,0⟩] scope pos) (g8 l n az src gd t f):=by
 intro e8 s Z H Q I hw;obtain⟨H0,eC,env,r,E,e,k⟩:=hw;obtain⟨ds,xq,e⟩:=eh e;split at e
 .rename_i hz;obtain⟨rs,yj,rfl⟩:=Gaa.mp e;obtain⟨EL,lo,hU⟩:=E.lock l;obtain⟨cl,h1,h2,h3⟩:=jh (S.cells I);refine Gdl rfl hs h1 S.kind S.BA ?_;refine thn (hi e8 s Z H (λXI H' =>cb H H' /\By X.K (λb=>Cln eC (bD l env) Z b/\H' b≠J) (λb=>¬Ow (bD l env) Z b) XI ds H') I ⟨H0,eC,bD l env,ds,EL,xq,λXI H' s' io=> ⟨s',io⟩⟩) λv s1 q1=>thn q1 λzJ s2 q2=> ?_;obtain⟨it,fp,tn,XI,H2,e,I2,T,yX,f2,sH,io⟩:=q2;subst e;refine o7 hc S I2 h2 h3 f2 T yX (λC s' H' =>B.g cl C s' H' fp) (λC s' H' =>B.t cl C s' H' fp) (λC s' H' =>B.e cl C s' H' fp) (EL.mono sH) io yH hz (by rw[n5];exact yj) ?_;intro p C s' H' m IX hm hC hF G;refine⟨m,hm,λh' xM => ⟨.ref p,H',IX.HI hF xM,rfl, ?_⟩⟩;obtain⟨g1,g2,vs,g3,g4⟩:=G;exact k _ H' (sH.trans g1) ⟨p,rfl,sH.free g2,⟨_,g3,trivial⟩,rfl,.lst (.inl g3) (g4.gen (.XY bG) λb q _=> ⟨⟨q.1.1,λi ti ei=>q.1.2 i ((hU i).mpr ti) ei⟩,q.2⟩)⟩
 .cases e
def L7{pos:Pos}(hN:X.N.Nodup)(xa :X.N[i]? =U x)(hx:Loc X.env.scope x)(hc:X.calm=O)(S:iq X scope N n az)
  (hi:PId X tg iter src)(yH:oU gd)(B:Blk X scope N tg elt ifs gd t f)
  (WT:autoParam (swapsWith (.ListComp elt [⟨tg,iter,ifs,0⟩] scope lpos) (U (.Name x pos')) pos.line X.env=pure O) Za1._auto_1)(hs:∀x,foldedSetIterable iter X.env x=pure x:=by intro _;rfl)
  (hf:autoParam (X.fn x=O\/X.env.scope.names.lookup x=U .local) Za3._auto_1):PSd X (.Assign [.Name x pos'] (.ListComp elt [⟨tg,iter,ifs,0⟩] scope lpos) pos) (av i (g8 l n az src gd t f)):=by
 intro e8 s Z H D I hw;have hl:=I.len;obtain⟨H0,eC,env,o,E,e,k⟩:=hw;obtain⟨r,hr,e⟩:=eh e;obtain⟨e',xZ,rfl⟩:=Gaa.mp e;have hie:=Bx E hl xa;obtain⟨ds,xq,hr⟩:=eh hr;split at hr
 .rename_i hz;obtain⟨rs,yj,rfl⟩:=Gaa.mp hr;cases xZ;obtain⟨EL,lo,hU⟩:=E.lock l;obtain⟨cl,h1,h2,h3⟩:=jh (S.cells I);rw[exec_Assign_Name_used _ _ _ _ WT];refine Gab (wpAny_standAt (Gab ?_));refine Gab (Gcc (Gdl rfl hs h1 S.kind S.BA ?_) (λ_ s' hq=>Gad (Gad hq)) λ_ _ e=>e);refine thn (hi e8 s Z H (λXI H' =>cb H H' /\By X.K (λb=>Cln eC (bD l env) Z b/\H' b≠J) (λb=>¬Ow (bD l env) Z b) XI ds H') I ⟨H0,eC,bD l env,ds,EL,xq,λXI H' s' io=> ⟨s',io⟩⟩) λv s1 q1=>thn q1 λzJ s2 q2=> ?_;obtain⟨it,fp,tn,XI,H2,e,I2,T,yX,f2,sH,io⟩:=q2;subst e;refine o7 hc S I2 h2 h3 f2 T yX (λC s' H' =>B.g cl C s' H' fp) (λC s' H' =>B.t cl C s' H' fp) (λC s' H' =>B.e cl C s' H' fp) (EL.mono sH) io yH hz (by rw[n5];exact yj) ?_;intro p C s' H' m IX hm hC hF G;obtain⟨g1,g2,vs,g3,g4⟩:=G;refine wpAny_assign_Name (tq IX hN xa hx (v:= .ref p) rfl (λUJ I'' ⟨a,WU,ha⟩=> ?_) hf);have hCa:C≠a:=by
   rcases ha with ha|ha
   .rw[ha];exact hF.2.1
   .exactλz=>hF.2.2.2.2.1 x a ha z.symm
  refine⟨m,hm.sameBut WU hCa,λh' xM => ⟨_,H',I''.HI hF xM, ?_⟩⟩;exact k _ H' (E.qD (sH.trans g1) hie (sH.free g2) ⟨_,g3,trivial⟩ rfl (.lst (.inl g3) (g4.gen (.XY bG) λb q _=> ⟨⟨q.1.1,λi ti ei=>q.1.2 i ((hU i).mpr ti) ei⟩,q.2⟩))) (.qD (sH.trans g1) hie E.len (sH.free g2))
 .cases hr
end
theorem lZ{env:PySem.Env}:∀{names:List (Str×Yp)},names.lookup x=U .globalImplicit->(names.map λ(n,k)=>if(k==NameKind.free&&env.scope.kind== .function&&env.kindOf n==U .cell) then(n,NameKind.cell) else(n,k)).lookup x=U .globalImplicit
 |[],h=>by simp at h
 |(n,k)::r,h=>by
  rw[Gbj] at h;rw[Gax];dsimp only;cases hx:x==n with
  |true=>
   simp_all
  |false=>
   rw[hx] at h;split
   .rw[Gbj,hx];exact lZ h
   .rw[Gbj,hx];exact lZ h
section
variable{scope:Ym}
def OO(h:scope.names.lookup x=U .globalImplicit):Gl (blk X scope cl C N s H ex) x:=lZ h
def OP(h:scope.names.lookup x=U .local):(blk X scope cl C N s H ex).fn x=O\/(blk X scope cl C N s H ex).env.scope.names.lookup x=U .local:= .inr (iu h)
end
section
variable{X:Cx}
def tO(X:Cx)(o:DO):TO:=λZ H Q=>∃H0 eC env i,aw X.K H0 eC env Z H/\o env=U i/\∀H',cb H H' ->Q i H'
def _root_.L2.PO.aJ(h:PO X e t')(i:∀Z H Q,t Z H Q->t' Z H Q):PO X e t:=λe8 s Z H Q I q=>h e8 s Z H Q I (i Z H Q q)
def F7:PO X J (tO X noO):=Kj.aJ λZ H Q ⟨_,_,_,_,_,e,k⟩=>by cases e;exact k H bG
def F8(he:PEd X e f):PO X (U e) (tO X (CK f)):=by
 refine(Kk he).aJ ?_;rintro Z H Q ⟨H0,eC,env,o,E,ho,k⟩;obtain⟨r,hr,ho⟩:=eh ho;split at ho
 .rename_i i hd;cases ho;refine⟨H0,eC,env,r,E,hr,λv H1 s1 R=> ?_⟩;have q:=R.inn;rw[hd] at q;cases q;exact⟨i,rfl,k H1 s1⟩
 .cases ho
def qH{K:ak}{F:Yd->Prop}{ds:List D}{vs:List V}{lo hi:Option Int}(r:aO K F H ds vs):aO K F H (cutD ds lo hi) (ED vs lo hi):=by
 unfold cutD ED;rw[<-r.1];exact(r.drop _).take _
theorem A4{K:ak}:∀{ns:List Int},aO K F H (ns.map .int) (ns.map V.int)
 |[]=> .nil
 |n::ns=> .cons (.int n) A4
def HJ{e:Yh}{pos:Pos}{lo hi:Option Yh}{p2:Pos}(he:PEd X e f)(hl:PO X lo (tO X l))(hu:PO X hi (tO X u)):PEd X (.Subscript e (.Slice lo hi J p2) pos) (slE f l u):=by
 refine(GR (Kq.or NJ) he hl hu).aJ ?_;rintro Z H Q ⟨H0,eC,env,rv,E,hf,k⟩;obtain⟨r,hr,hf⟩:=eh hf;obtain⟨lv,zj,hf⟩:=eh hf;obtain⟨uv,xK,hf⟩:=eh hf;refine⟨H0,eC,env,r,E,hr,λv H1 s1 R=> ⟨H0,eC,env,lv,E.mono s1,zj,λH2 s2=> ⟨H0,eC,env,uv,(E.mono s1).mono s2,xK,λH3 s3=> ?_⟩⟩⟩;have i3:=(R.inn.same s2).same s3;have s13:=s1.trans (s2.trans s3);unfold slD at hf;split at hf
 .rename_i xs hd;cases hf;rw[hd] at i3;cases i3 with
  |lst hh rr=>exact .inl ⟨_,_,rfl,.inl hh,λp n=>k _ _ (s13.trans (aX n)) ⟨p,rfl,s13.free n,o6,rfl,fA n (qH rr)⟩⟩
 .rename_i xs hd;split at hf
  .cases hf
  .rename_i hw;cases hf;rw[hd] at i3;cases i3 with
   |tup hh rr=>exact .inr ⟨_,_,rfl,SqT.of hh,by rw[<-rr.1];exact hw,λp n=>k _ _ (s13.trans (aX n)) (fw n (qH rr))⟩
 .rename_i ns hd;cases hf;rw[hd] at i3;cases i3 with
  |scr hh=>exact .inl ⟨_,_,rfl,hh.sq,λp n=>k _ _ (s13.trans (aX n)) ⟨p,rfl,s13.free n,o6,rfl,fA n (qH A4)⟩⟩
 .cases hf
def qI{Z:St}{ys:List V}(hc:X.calm=O)(I:Inv X e8 Z H s)(h:SqL X.K H p ys\/SqT X.K H p ys)
  (k:∀It fp wr P St s₂,Walks X.prog X.w X.A.in1 It fp wr ys.length P St->St 0 s₂.heap->(∀b∈fp,b<s₂.heap.objs.size)->(∀i v,P i v->∃y,ys[i]? =U y/\XO y v)->
   (∀h' tk,(∀b o,b∉wr->s₂.heap.get? b=U o->h'.get? b=U o)->Inv X e8 Z H {s₂ with heap:=h',toks:=tk})->Q (.ref It) s₂):wpAny (model X.prog X.w) X.A.in1 (pyIter (.ref p)) Q E s:=by
 have hh:X.A.in1.handled=J:=I.ok.hd hc;have kept:∀{oi:Yk} {h' :Yi} {tk:Nat},(∀b o,b∉[s.heap.objs.size]->(s.heap.push oi).get? b=U o->h'.get? b=U o)->Inv X e8 Z H {s with heap:=h',toks:=tk}:=λ{oi h' tk} hk=>
  I.kept λb o e=>hk b o (by simp only[GaU];exact GaK (GaA e)) (Gag _ e)
 have get:∀{its:List Ye},XQ ys its->∀(i:Nat) v,its.toArray[i]? =U v->∃y,ys[i]? =U y/\XO y v:=λ{its} r i v e=>by
  have e' :its[i]? =U v:=by simpa using e
  obtain⟨hi,_⟩:=Gak.mp e';have xa :i<ys.length:=by rw[r.length];exact hi
  obtain⟨u,hu,ru⟩:=r.get (x:=ys[i]) (i:=i) (by simp);simp_all
 have lts:∀{oi:Yk},p<s.heap.objs.size->∀b∈[s.heap.objs.size,p],b<(s.heap.push oi).objs.size:=λ{oi} hp b hb=>by
  rw[GbZ];rcases Gat.mp hb with rfl|hb
  .simp_all
  .rcases Gat.mp hb with rfl|hb
   .exact GbY hp
   .cases hb
 rcases h with hq|hq
 .obtain⟨its,rv,pl,hz⟩:=I.list hq;have eX:p<s.heap.objs.size:=by obtain⟨_,e,_⟩:=pl.isList;exact GaA e
  have W:=Walks.list (prog:=X.prog) (w:=X.w) hh s.heap.objs.size p (GaK eX) its.toArray;have xB:its.toArray.size=ys.length:=by rw[Gaw,rv.length]
  rw[xB] at W;exact wpAny_pyIter_list pl.isList (k _ _ _ _ _ _ W ⟨⟨_,Gay _ rfl,rfl,rfl⟩,pl.isList.push _⟩ (lts eX) (get rv) λh' tk hk=>kept hk)
 .obtain⟨its,rv,pl,hz⟩:=I.tuple hq;have pl' :s.heap.IsTuple p its.toArray:=pl;have eX:p<s.heap.objs.size:=by obtain⟨_,e,_⟩:=pl';exact GaA e
  have W:=Walks.tuple (prog:=X.prog) (w:=X.w) hh s.heap.objs.size p (GaK eX) its.toArray;have xB:its.toArray.size=ys.length:=by rw[Gaw,rv.length]
  rw[xB] at W;exact Gdj pl' (k _ _ _ _ _ _ W ⟨⟨_,Gay _ rfl,rfl,rfl⟩,pl'.at λo e=>Gag _ e⟩ (lts eX) (get rv) λh' tk hk=>kept hk)
def range_any(bs:List Bool):(List.range bs.length).any (λi=>bs[i]?.getD M)=bs.any id:=by
 rw[GdL];simp only[Gca,GaS];constructor
 .rintro⟨i,hi,h⟩;rw[Gac hi] at h;exact⟨bs[i],GaB hi,h⟩
 .rintro⟨b,hb,h⟩;obtain⟨i,hi,rfl⟩:=GbC hb;exact⟨i,hi,by rw[Gac hi];exact h⟩
def range_all(bs:List Bool):(List.range bs.length).all (λi=>bs[i]?.getD M)=bs.all id:=by
 rw[GdL];simp only[Gaq,GaS];constructor
 .intro h b hb;obtain⟨i,hi,rfl⟩:=GbC hb;have:=h i hi;rw[Gac hi] at this;exact this
 .intro h i hi;rw[Gac hi];exact h _ (GaB hi)
def oV{bs:List Bool}(hP:∀i v,P i v->∃y,(bs.map V.bl)[i]? =U y/\XO y v):TruthOf X.prog X.w A P (λi=>bs[i]?.getD M):=by
 intro i v s Q E p q;obtain⟨y,hy,r⟩:=hP i v p;rw[Gap] at hy;cases hb:bs[i]? with
 |none=>rw[hb] at hy;cases hy
 |some b=>
  rw[hb] at hy;cases hy;cases r;refine Gbv ?_;simp_all
def F9(hc:X.calm=O):fL X (.builtin "any") (λxs H Q=>∃(p:Yd) (bs:List Bool),xs=[.ref p]/\(SqL X.K H p (bs.map V.bl)\/SqT X.K H p (bs.map V.bl))/\Q (.bl (bs.any id)) H):=by
 intro e8 s Z H xs us Q I rv h;obtain⟨p,bs,rfl,hq,q⟩:=h;obtain⟨u,rfl,ru⟩:=rv.one;cases ru;refine call_any_walk (qI hc I hq λIt fp wr P St s₂ W st lt hP kept=> ⟨It,fp,wr,_,P,St,_,rfl,W,st,oV hP,λh' tk hk=> ?_⟩);rw[Gae,range_any];exact⟨.bl (bs.any id),H,kept h' tk hk,rfl,q⟩
def Fb(hc:X.calm=O):fL X (.builtin "all") (λxs H Q=>∃(p:Yd) (bs:List Bool),xs=[.ref p]/\(SqL X.K H p (bs.map V.bl)\/SqT X.K H p (bs.map V.bl))/\Q (.bl (bs.all id)) H):=by
 intro e8 s Z H xs us Q I rv h;obtain⟨p,bs,rfl,hq,q⟩:=h;obtain⟨u,rfl,ru⟩:=rv.one;cases ru;refine call_all_walk (qI hc I hq λIt fp wr P St s₂ W st lt hP kept=> ⟨It,fp,wr,_,P,St,_,rfl,W,st,oV hP,λh' tk hk=> ?_⟩);rw[Gae,range_all];exact⟨.bl (bs.all id),H,kept h' tk hk,rfl,q⟩
def vg(ns:List Int)(i:Nat):Int:=ns[i]?.getD 0
def A5{P:Nat->Ye->Prop}{ns:List Int}(hP:∀i v,P i v->∃y,(ns.map V.int)[i]? =U y/\XO y v):∀i v,P i v->∃t,v= .int (vg ns i) t:=by
 intro i v p;obtain⟨y,hy,r⟩:=hP i v p;rw[Gap] at hy;cases hb:ns[i]? with
 |none=>rw[hb] at hy;cases hy
 |some n=>
  rw[hb] at hy;cases hy
  obtain⟨t,rfl⟩:=r;exact⟨t,by unfold vg;rw[hb];rfl⟩
def Fc{f:Int->Int->Int}{i:Int}{ns:List Int}(hk:k<ns.length):(ns.take (k+1)).foldl f i=f ((ns.take k).foldl f i) (ns[k]):=by
 rw[GdB hk,List.foldl_append];rfl
theorem HK{n:Int}{ns:List Int}:∀k,k<=ns.length->vg (n::ns) (argBest (λi j=>decide (vg (n::ns) i>vg (n::ns) j)) k)=(ns.take k).foldl (λa b=>if b>a then b else a) n
 |0,_=>by simp[argBest,vg]
 |k+1,hk=>by
  have ih:= @HK n ns k (by lia);rw[Fc (by lia),argBest];have e:vg (n::ns) (k+1)=ns[k]:=by simp[vg,show k<ns.length by lia]
  rw[ih,e];simp only[decide_eq_true_eq];split
  .exact e
  .exact ih
theorem qJ{K:ak}:∀{ds vs bs},aO K F H ds vs->qy ds=U bs->vs=bs.map V.bl
 |[],vs,bs,r,e=>by cases e;exact r.cz
 |d::ds,vs,bs,r,e=>by
  obtain⟨v,w,rfl,h1,h2⟩:=r.cons_inv;cases d<;>try (cases e;done)
  obtain⟨xi,e',rfl⟩:=Gaa.mp e;cases h1;rw[qJ h2 e'];rfl
theorem D1{K:ak}:∀{ds vs bs},aO K F H ds vs->CJ ds=U bs->vs=bs.map V.int
 |[],vs,bs,r,e=>by cases e;exact r.cz
 |d::ds,vs,bs,r,e=>by
  obtain⟨v,w,rfl,h1,h2⟩:=r.cons_inv;cases d<;>try (cases e;done)
  obtain⟨xi,e',rfl⟩:=Gaa.mp e;cases h1;rw[D1 h2 e'];rfl
def vh{K:ak}(i:Inn K F H d v)(e:jw d=U ds):∃p vs,v= .ref p/\(SqL K H p vs\/SqT K H p vs)/\aO K F H ds vs:=by
 unfold jw at e;split at e
 .cases e;cases i with
  |lst h r=>exact⟨_,_,rfl,.inl (.inl h),r⟩
 .cases e;cases i with
  |tup h r=>exact⟨_,_,rfl,.inr (SqT.of h),r⟩
 .rename_i ns;cases e;cases i with
  |scr h=>
   refine⟨_,_,rfl,.inl h.sq,by simp,λi d v e1 e2=> ?_⟩;rw[Gap] at e1 e2;cases q:ns[i]? with
   |none=>rw[q] at e1;cases e1
   |some n=>rw[q] at e1 e2;cases e1;cases e2;exact .int n
 .cases e
def BB(h:one o ds=U rv):∃d xs,ds=[d]/\jw d=U xs/\o xs=U rv:=by
 unfold one at h;split at h
 .obtain⟨xs,h1,h2⟩:=eh h;exact⟨_,xs,rfl,h1,h2⟩
 .cases h
def Fd:CallD X anyS (λxs H Q=>∃(p:Yd) (bs:List Bool),xs=[.ref p]/\(SqL X.K H p (bs.map V.bl)\/SqT X.K H p (bs.map V.bl))/\Q (.bl (bs.any id)) H):=by
 intro F H ds vs rv Q ps e k;obtain⟨d,xs,rfl,h1,h2⟩:=BB e;obtain⟨bs,hb,rfl⟩:=Gaa.mp h2;obtain⟨v,rfl,i⟩:=ff ps;obtain⟨p,vs,rfl,hs,r⟩:=vh i h1;rw[qJ r hb] at hs;exact⟨p,bs,rfl,hs,k _ H bG (.bl _)⟩
def Fe:CallD X Bt (λxs H Q=>∃(p:Yd) (bs:List Bool),xs=[.ref p]/\(SqL X.K H p (bs.map V.bl)\/SqT X.K H p (bs.map V.bl))/\Q (.bl (bs.all id)) H):=by
 intro F H ds vs rv Q ps e k;obtain⟨d,xs,rfl,h1,h2⟩:=BB e;obtain⟨bs,hb,rfl⟩:=Gaa.mp h2;obtain⟨v,rfl,i⟩:=ff ps;obtain⟨p,vs,rfl,hs,r⟩:=vh i h1;rw[qJ r hb] at hs;exact⟨p,bs,rfl,hs,k _ H bG (.bl _)⟩
def HL(ho:OpR X (compareOp op) r)(hd:OpB X o r)(xk :OpR X (compareOp op') r')(xb :OpB X p r')(ha:PEd X a f)(hb:PEd X b g)(hc:PEd X c h)
  (hm:lastMarks [op,op'] [b,c]=M:=by with_unfolding_all rfl):PEd X (.Compare a [op,op'] [b,c] pos) (bE (jf o p f g h)):=by
 refine(GJ ho xk ha hb hc hm).aJ ?_;rintro Z H Q ⟨H0,eC,env,rv,E,e,k⟩;obtain⟨bb,e',rfl⟩:=Gaa.mp e;have e:=e';obtain⟨x,hx,e⟩:=eh e;obtain⟨y,hy,e⟩:=eh e;obtain⟨b1,h1,e⟩:=eh e;refine⟨H0,eC,env,x,E,hx,λvx H1 s1 R1=> ⟨H0,eC,env,y,E.mono s1,hy,λvy H2 s2 R2=>hd _ H2 x.d y.d vx vy b1 _ (R1.inn.same s2) R2.inn h1 ⟨b1,rfl, ?_⟩⟩⟩;cases b1 with
 |true=>
  obtain⟨z,hz,e⟩:=eh e;exact⟨H0,eC,env,z,(E.mono s1).mono s2,hz,λvz H3 s3 R3=>xb _ H3 y.d z.d vy vz bb _ (R2.inn.same s3) R3.inn e (k _ H3 (s1.trans (s2.trans s3)) (.bl bb))⟩
 |false=>
  cases e;exact k _ H2 (s1.trans s2) (.bl M)
end
section
variable{a:Yh}
def aZ.cons{Y:Type}{K:ak}{F:Yd->Prop}{H:Hp}{eD:List (Y×D)}{ws:List (Y×V)}{k:Y}{d:D}{v:V}(h:Rep K F H d v)(r:aZ K F H eD ws):aZ K F H ((k,d)::eD) ((k,v)::ws):=by
 refine⟨by simp[r.1],λi x u e1 e2=> ?_⟩;cases i with
 |zero=>simp at e1 e2;subst e1;subst e2;exact h
 |succ i=>exact r.2 i x u (by simpa using e1) (by simpa using e2)
def aZ.cons_inv{Y:Type}{K:ak}{eD:List (Y×D)}{ws:List (Y×V)}{k:Y}(h:aZ K F H ((k,d)::eD) ws):∃v r,ws=(k,v)::r/\Rep K F H d v/\aZ K F H eD r:=by
 cases ws with
 |nil=>exact absurd h.1 (by simp)
 |cons q r=>
  obtain⟨k',v⟩:=q;have h1:k=k' /\eD.map (·.1)=r.map (·.1):=by have:=h.1;simpa using this
  obtain⟨rfl,h2⟩:=h1;exact⟨v,r,rfl,h.2 0 (k,d) (k,v) rfl rfl,h2,λi x y e1 e2=>h.2 (i+1) x y (by simpa using e1) (by simpa using e2)⟩
def aZ.nil{K:ak}:aZ K F H ([]:List (Y×D)) []:=⟨rfl,λi p q e=>by simp at e⟩
def aZ.cz{Y:Type}{K:ak}{ws:List (Y×V)}(h:aZ K F H [] ws):ws=[]:=by
 cases ws with
 |nil=>rfl
 |cons q r=>exact absurd h.1 (by simp)
def aZ.len{K:ak}{eD:List (Y×D)}{ws:List (Y×V)}(h:aZ K F H eD ws):eD.length=ws.length:=by
 have:=congrArg List.length h.1
 simpa using this
theorem aZ.over{K:ak} [DecidableEq Y](hv:Rep K F H d v):∀{eD:List (Y×D)} {ws:List (Y×V)},aZ K F H eD ws->
  aZ K F H (eD.map λkv=>if kv.1=k then(kv.1,d) else kv) (ws.map λkv=>if kv.1=k then(kv.1,v) else kv)
 |[],ws,r=>by rw[r.cz];exact .nil
 |(k',d')::eD,ws,r=>by
  obtain⟨v',w,rfl,h1,h2⟩:=r.cons_inv;rw[Gax,Gax];split
  .exact .cons hv (aZ.over hv h2)
  .exact .cons h1 (aZ.over hv h2)
theorem aZ.snoc{K:ak}(hv:Rep K F H d v):∀{eD ws},aZ K F H eD ws->aZ K F H (eD++[(k,d)]) (ws++[(k,v)])
 |[],ws,r=>by rw[r.cz];exact .cons hv .nil
 |(k',d')::eD,ws,r=>by
  obtain⟨v',w,rfl,h1,h2⟩:=r.cons_inv;exact .cons h1 (aZ.snoc hv h2)
theorem aZ.any{K:ak} [DecidableEq Y]:∀{eD:List (Y×D)} {ws:List (Y×V)},aZ K F H eD ws->(eD.any λkv=>decide (kv.1=k))=(ws.any λkv=>decide (kv.1=k))
 |[],ws,r=>by rw[r.cz];rfl
 |(k',d')::eD,ws,r=>by
  obtain⟨v',w,rfl,h1,h2⟩:=r.cons_inv;rw[GcY,GcY,aZ.any h2]
theorem aZ.put{Y:Type}{K:ak}{F:Yd->Prop}{eD:List (Y×D)}{ws:List (Y×V)}{k:Y}{d:D}{v:V} [DecidableEq Y](r:aZ K F H eD ws)(hv:Rep K F H d v):aZ K F H (put eD k d) (putK ws k v):=by
 unfold DL.put putK;rw[r.any];split
 .exact r.over hv
 .exact r.snoc hv
def OQ{K:ak}{H:Hp}{a:Yd}(i:Inn K F H (.dT eD) (.ref a)):∃ws,H a=U (.dT ws)/\aZ K F H eD ws:=by
 cases i with
 |dT h r=>exact⟨_,h,r⟩
def MZ:V->V->V->Hp->(Hp->Prop)->Prop:=λo i v H Q=>∃a H4,o= .ref a/\GZ H a i v H4/\Q H4
def L8{X:Cx}(hu:X.A.units+1<cLine):TX X MZ:=by
 intro e8 s Z H o i v ov iv u Q I ro ri rv h;obtain⟨a,H4,rfl,g,q⟩:=h;cases ro;exact EH hu I g ri rv λs4 I4=> ⟨H4,I4,q⟩
def Uu(td ty tv:TE):TS:=λD Z H=>tv Z H λv H1=>td Z H1 λx H2=>ty Z H2 λy H3=>MZ x y v H3 λH4=>D.nx Z H4
def OR{X:Cx}{pos:Pos}(hu:X.A.units+1<cLine)(ho:PE X o td)(hi:PE X i ty)(hv:PE X value tv)(hs:swapsWith value (U (.Subscript o i pos')) pos.line X.env=pure M):PS X (.Assign [.Subscript o i pos'] value pos) (Uu td ty tv):=by
 intro e8 s Z H D I h;refine wpAny_Assign_Subscript (thn (hv e8 s Z H _ I h) λr s1 ⟨v,H1,I1,rv,q1⟩=>thn (ho e8 s1 Z H1 _ I1 q1) λu s2 ⟨x,H2,I2,rx,q2⟩=>thn (hi e8 s2 Z H2 _ I2 q2) λiv s3 ⟨y,H3,I3,ry,q3⟩=> ?_) hs;exact thn (L8 hu e8 s3 Z H3 x y v u iv r _ I3 rx ry rv q3) λ_ s4 ⟨H4,I4,q4⟩=> ⟨Z,H4,I4,q4⟩
def HM{H:Hp}{i:Nat}{a:Yd}(q:env[i]? =U (U (.own d)))(h1:Z[i]? =U (U (.ref a)))(hH:H a=U o')(hw:isW o'):ij (Cln eC env Z) H (upd H a o):=λb x hb w=>by
 have:b≠a:=by
  rintro rfl;rcases w with w|w
  .exact w.2 i (by rw[q];trivial) h1
  .rw[hH] at hb;cases hb
   cases o' <;>simp[isT] at w<;>exact hw
 rw[ar this];exact hb
def OT{X:Cx}{pos:Pos}(hu:X.A.units+1<cLine)(hN:X.N[i]? =U x)(hv:Vis X.env.scope x)(hk:PEd X k fk)(he:PEd X value fv)(hd:autoParam ((x==("__debug__":Str))=M) Za2._auto_1)(xn:autoParam ((x==("__classdict__":Str))=M) Za2._auto_1)
  (hs:autoParam (swapsWith value (U (.Subscript (.Name x px) k pos')) pos.line X.env=pure M) Za1._auto_1):PSd X (.Assign [.Subscript (.Name x px) k pos'] value pos) (EM i fk fv):=by
 refine(OR hu (ka hN hv hd xn) hk he hs).aJ ?_;rintro D Z H ⟨H0,eC,env,o,E,e,kk⟩;obtain⟨r,hr,e⟩:=eh e;obtain⟨y,hy,e⟩:=eh e;obtain⟨d,hd,e⟩:=eh e;have q:=n4 hd;split at e
 .rename_i ya;obtain⟨d',hp,rfl⟩:=Gaa.mp e;refine⟨H0,eC,env,r,E,hr,λv H1 s1 R=> ?_⟩;have E1:=E.mono s1;obtain⟨a,h1,h2,h3,h4,h5,h6⟩:=E1.ow i _ (.inl q);refine⟨_,h1,H0,eC,env,y,E1,hy,λvy H3 s3 Ry=> ?_⟩;have E3:=E1.mono s3;have rep:=(R.rep E ya).same s3;have i6:=h6.same s3;have iy:=Ry.inn;have fin:∀(o' :HO) (V8 :HO),H3 a=U V8 ->isW V8 ->isW o' ->d'.top=O->Inn X.K (Cln eC env Z) (upd H3 a o') d' (.ref a)->D.nx Z (upd H3 a o'):=λo' V8 hH hw WO ht inn=>by
   obtain⟨E4,p4⟩:=E3.change (d' :=d') (o:=o') q h1 WO ht inn;exact kk Z _ E4 (((Stp.XY s1).trans (.XY s3)).trans p4)
  unfold putD at hp;split at hp
  .rename_i eD;split at hp
   .rename_i ks Vv;split at hp
    .rename_i hz;obtain⟨key,xw,rfl⟩:=Gaa.mp hp;obtain⟨ws,hH,rp⟩:=OQ i6;rw[Vv] at iy;cases iy with
     |tup hb rb=>
      have:=j3 rb xw;subst this;refine⟨a,_,rfl,GZ.t hH hb (by rw[<-rp.len,<-eQ];exact hz),fin _ _ hH trivial trivial rfl ?_⟩;exact .dT aF ((rp.put rep).gen (HM q h1 hH trivial) λ_ f _=>f)
    .cases hp
   .cases hp
  .cases hp
 .cases e
def HP:PEd X (.Dict [] [] pos) vb:=wG.aJ λZ H Q ⟨_,_,_,_,E,e,k⟩ p n=>by
 cases e;exact k _ _ (aX n) ⟨p,rfl,n,⟨_,aF,trivial⟩,rfl,.dT aF .nil⟩
end
open PySem.W (KasT kas_rev kas_asc kas_desc kas_tail3 kas_descPart kas_count kas_place kas_bin kas_sort)
section
variable{rk:Nat->Int}{N:Nat}
def Asks(rk:Nat->Int)(N:Nat){α:Type}:KasT α->(α->Prop)->Prop
 | .ret a,Q=>Q a
 | .ask i j k,Q=>i<N/\j<N/\Asks rk N (k (decide (rk i<rk j))) Q
theorem Asks.mono{Q Q' :α->Prop}(hq:∀a,Q a->Q' a):∀t,Asks rk N t Q->Asks rk N t Q'
 | .ret a,h=>hq a h
 | .ask i j k,h=> ⟨h.1,h.2.1,Asks.mono hq _ h.2.2⟩
theorem Asks.then{β:Type}{f:α->KasT β}{Q:β->Prop}:∀t,Asks rk N t (λa=>Asks rk N (f a) Q)->Asks rk N (t.bind f) Q
 | .ret a,h=>h
 | .ask i j k,h=> ⟨h.1,h.2.1,Asks.then _ h.2.2⟩
theorem Asks.wp{cmp:Nat->Nat->(Bool->Yg->Prop)->Yg->Prop}{Q:α->Prop}{G:α->Yg->Prop}(hc:∀i j C,i<N->j<N->C (decide (rk i<rk j)) s->cmp i j C s)(hG:∀a,Q a->G a s):
  ∀t,Asks rk N t Q->t.kasWp cmp G s
 | .ret a,h=>hG a h
 | .ask i j k,h=>hc i j _ h.1 h.2.1 (Asks.wp hc hG _ h.2.2)
def Ord(N:Nat)(p:Array Nat):Prop:=p.toList.Perm (List.range N)
theorem Ord.size{p:Array Nat}(h:Ord N p):p.size=N:=by
 have:=List.Perm.length_eq h
 simpa using this
def Ord.lt{p:Array Nat}(h:Ord N p)(hN:0<N):p.getD i 0<N:=by
 by_cases hi:i<p.size
 .have e:p.getD i 0=p[i]:=by simp[hi]
  rw[e];have m:p[i]∈p.toList:=by simp
  exact GaS.mp (h.mem_iff.mp m)
 .have e:p.getD i 0=0:=by simp[Array.getD,hi]
  rw[e];exact hN
def Ord.D2{p' :Array Nat}(h:Ord N p)(q:p'.Perm p):Ord N p' :=List.Perm.trans (Array.perm_iff_toList_perm.mp q) h
noncomputable def cw(rk:Nat->Int)(p:Array Nat)(i:Nat):Int:=rk (p.getD i 0)
def iz(h:p'[i]? =p[j]?):cw rk p' i=cw rk p j:=by
 unfold cw;simp_all
def Up(rk:Nat->Int)(p:Array Nat)(k:Nat):Prop:=∀u v,u<=v->v<k->cw rk p u<=cw rk p v
def Down(rk:Nat->Int)(p:Array Nat)(k:Nat):Prop:=∀u v,u<=v->v<k->cw rk p v<=cw rk p u
def BC{p:Array Nat}(hj:j<=p.size)(k:Nat):cw rk (kas_rev p i j) k=if i<=k/\k<j then cw rk p (i+j -1 -k) else cw rk p k:=by
 have g:=getElem?_mirror_all (i:=i) hj k;split
 .rename_i c;rw[Gan c] at g;exact iz g
 .rename_i c;rw[Gah c] at g;exact iz g
def jy{p:Array Nat}(hj:j<=p.size)(he:∀k,i<=k->k<j->cw rk p k=cw rk p (j -1))(k:Nat):cw rk (kas_rev p i j) k=cw rk p k:=by
 rw[BC hj]
 grind
def n6(h:Ord N p):Ord N (kas_rev p i j):=h.D2 (mirror_perm p i j ((j -i)/2))
theorem BD(hp:Ord N p)(hN:0<N):∀f n,1<=n->Up rk p n->Asks rk N (kas_asc p f n) λm=>n<=m/\m<=n+f/\Up rk p m/\(m=n+f\/cw rk p m<cw rk p (m -1))
 |0,n,h1,hu=> ⟨Gao n,Gao n,hu,.inl rfl⟩
 |f+1,n,h1,hu=>by
  refine⟨hp.lt hN,hp.lt hN, ?_⟩;by_cases c:rk (p.getD n 0)<rk (p.getD (n -1) 0)
  .rw[GaD c];exact⟨Gao n,by lia,hu,.inr c⟩
  .rw[GaE c];have nxt:Up rk p (n+1):=λu v xK hv=>by
    rcases Gbh v n with hvn|hvn
    .exact hu u v xK hvn
    .have ev:v=n:=by lia
     subst ev;have c' :=GcV.mp c;rcases Gch xK with e|e
     .simp_all
     .exact GdM (hu u (v -1) (by lia) (by lia)) c'
   refine Asks.mono (λm hm=> ?_) _ (BD hp hN f (n+1) (by lia) nxt)
   grind
def Down.snoc(hd:Down rk p k)(hk:1<=k)(e:∀i,cw rk p' i=cw rk p i)(c:cw rk p k<=cw rk p (k -1)):Down rk p' (k+1):=λu v xK hv=>by
 rw[e,e];rcases Gbh v k with hvk|hvk
 .exact hd u v xK hvk
 .have ev:v=k:=by lia
  subst ev;rcases Gch xK with q|q
  .simp_all
  .exact GdM c (hd u (v -1) (by lia) (by lia))
theorem pX(hN:0<N):∀f p n q,Ord N p->1<=n->n+f<=N->Down rk p n->q+1<=n->(∀i,n -(q+1)<=i->i<n->cw rk p i=cw rk p (n -1))->
  Asks rk N (kas_desc f p n q) λr=>Ord N r.1/\n<=r.2.1/\r.2.1<=n+f/\Down rk r.1 r.2.1/\r.2.2+1<=r.2.1/\∀i,r.2.1 -(r.2.2+1)<=i->i<r.2.1->cw rk r.1 i=cw rk r.1 (r.2.1 -1)
 |0,p,n,q,hp,h1,zB,hd,hq,he=> ⟨hp,Gao n,Gao n,hd,hq,he⟩
 |f+1,p,n,q,hp,h1,zB,hd,hq,he=>by
  have sz:=hp.size;refine⟨hp.lt hN,hp.lt hN, ?_⟩;by_cases c:rk (p.getD n 0)<rk (p.getD (n -1) 0)
  .rw[GaD c];have c' :=GdX c;by_cases z:q>0
   .rw[Gan z];have eq:=λk=>jy (by lia) he k;exact Asks.mono (λr ⟨a1,a2,a3,a4⟩=> ⟨a1,by lia,by lia,a4⟩) _ (pX hN f _ (n+1) 0 (n6 hp) (by lia) (by lia) (hd.snoc h1 eq c') (by lia) λi i1 i2=>by rw[show i=n+1 -1 by lia])
   .rw[Gah z];exact Asks.mono (λr ⟨a1,a2,a3,a4⟩=> ⟨a1,by lia,by lia,a4⟩) _ (pX hN f p (n+1) 0 hp (by lia) (by lia) (hd.snoc h1 (λ_=>rfl) c') (by lia) λi i1 i2=>by rw[show i=n+1 -1 by lia])
  .rw[GaE c];refine⟨hp.lt hN,hp.lt hN, ?_⟩;by_cases g:rk (p.getD (n -1) 0)<rk (p.getD n 0)
   .rw[GaD g];exact⟨hp,Gao n,Nat.le_add_right n (f+1),hd,hq,he⟩
   .rw[GaE g];have eq:cw rk p n=cw rk p (n -1):=Int.le_antisymm (GcV.mp g) (GcV.mp c);refine Asks.mono (λr ⟨a1,a2,a3,a4⟩=> ⟨a1,by lia,by lia,a4⟩) _ (pX hN f p (n+1) (q+1) hp (by lia) (by lia) (hd.snoc h1 (λ_=>rfl) (Int.le_of_eq eq)) (by lia) λi i1 i2=> ?_);rcases Gbh i n with hi|hi
    .rw[he i (by lia) hi,show n+1 -1=n by lia,eq]
    .rw[show i=n+1 -1 by lia]
def D3(hp:Ord N p)(hN:0<N)(h1:1<=n)(hn:n<=XM)(hM:XM<=N)(hd:Down rk p n):Asks rk N (kas_tail3 n XM p) λr=>Ord N r.2/\1<=r.1/\r.1<=XM/\Up rk r.2 r.1:=by
 have sz:=hp.size;refine Asks.then _ (Asks.mono (λm ⟨a1,a2,a3,_⟩=> ⟨n6 hp,by lia,by lia,a3⟩) _ (BD (n6 hp) hN (XM -n) n h1 λu v xK hv=> ?_));rw[BC (by lia),BC (by lia),Gan ⟨Gba _,by lia⟩,Gan ⟨Gba _,hv⟩];exact hd _ _ (by lia) (by lia)
def oW(hp:Ord N p)(hN:0<N)(h1:1<=n)(hn:n+1<=XM)(hM:XM<=N)(hd:Down rk p (n+1)):Asks rk N (kas_descPart n XM p) λr=>Ord N r.2/\1<=r.1/\r.1<=XM/\Up rk r.2 r.1:=by
 refine Asks.then _ (Asks.mono (λr ⟨a1,a2,a3,a4,a5,a6⟩=> ?_) _ (pX hN (XM -(n+1)) p (n+1) 0 hp (by lia) (by lia) hd (by lia) λi i1 i2=>by rw[show i=n+1 -1 by lia]));have s1:=a1.size;split
 .refine D3 (n6 a1) hN (by lia) (by lia) hM λu v xK hv=> ?_;rw[jy (by lia) a6,jy (by lia) a6];exact a4 u v xK hv
 .exact D3 a1 hN (by lia) (by lia) hM a4
def HQ(hp:Ord N p)(XC:1<=XM)(hM:XM<=N):Asks rk N (kas_count XM p) λr=>Ord N r.2/\1<=r.1/\r.1<=XM/\Up rk r.2 r.1:=by
 have hN:0<N:=by lia
 have sz:=hp.size;refine Asks.then _ (Asks.mono (λn ⟨a1,a2,a3,a4⟩=> ?_) _ (BD hp hN (XM -1) 1 (Gao 1) λu v xK hv=>by rw[show u=v by lia];exact Gcp _));by_cases c:(n==XM)=O
 .rw[Gan c];exact⟨hp,a1,by lia,a3⟩
 .rw[Gah c];have fall:cw rk p n<cw rk p (n -1):=by
   rcases a4 with z|z
   .lia
   .exact z
  by_cases g:n>1
  .rw[Gan g];refine⟨hp.lt hN,hp.lt hN, ?_⟩;by_cases r:rk (p.getD 0 0)<rk (p.getD (n -1) 0)
   .rw[GaD r];exact⟨hp,a1,by lia,a3⟩
   .rw[GaE r];have all:∀k,0<=k->k<n->cw rk p k=cw rk p (n -1):=λk _ hk=>by
     have b1:=a3 0 k (Gba _) hk;have b2:=a3 k (n -1) (by lia) (by lia);have b3:cw rk p (n -1)<=cw rk p 0:=GcV.mp r;lia
    refine oW (n6 hp) hN a1 (by lia) hM λu v xK hv=> ?_;rw[jy (by lia) all,jy (by lia) all];rcases Gbh v n with hvn|hvn
    .rw[all u (Gba _) (by lia),all v (Gba _) hvn];exact Gcp _
    .have ev:v=n:=by lia
     subst ev;rcases Gch xK with q|q
     .subst q;exact Gcp _
     .rw[all u (Gba _) q];exact GdX fall
  .have en:n=1:=by lia
   subst en;refine oW hp hN (Gao 1) (by lia) hM λu v xK hv=> ?_;rcases Gch xK with q|q
   .subst q;exact Gcp _
   .have eu:u=0:=by lia
    have ev:v=1:=by lia
    subst eu ev;exact GdX fall
theorem qK(hp:Ord N p)(hN:0<N)(hu:Up rk p k):∀f l r,l<=r->r<=k->r -l<=f->(∀i,i<l->cw rk p i<=cw rk p k)->(∀i,r<=i->i<k->cw rk p k<cw rk p i)->
  Asks rk N (kas_place p k f l r) λm=>m<=k/\(∀i,i<m->cw rk p i<=cw rk p k)/\∀i,m<=i->i<k->cw rk p k<cw rk p i
 |0,l,r,h1,h2,h3,h4,h5=>by
  have e:l=r:=by lia
  subst e;exact⟨h2,h4,h5⟩
 |f+1,l,r,h1,h2,h3,h4,h5=>by
  unfold kas_place;by_cases c:l>=r
  .rw[Gan c];have e:l=r:=by lia
   subst e;exact⟨h2,h4,h5⟩
  .rw[Gah c];refine⟨hp.lt hN,hp.lt hN, ?_⟩;by_cases g:rk (p.getD k 0)<rk (p.getD ((l+r)/2) 0)
   .rw[GaD g];exact qK hp hN hu f l ((l+r)/2) (by lia) (by lia) (by lia) h4 λi i1 i2=>Int.lt_of_lt_of_le g (hu ((l+r)/2) i i1 i2)
   .rw[GaE g];exact qK hp hN hu f ((l+r)/2+1) r (by lia) h2 (by lia) (λi i1=>GdM (hu i ((l+r)/2) (by lia) (by lia)) (GcV.mp g)) h5
def OU{p:Array Nat}(hk:k<p.size)(hd:d<=k)(i:Nat):cw rk (bubble p k d) i=if i=k -d then cw rk p k else if k -d<i/\i<=k then cw rk p (i -1) else cw rk p i:=by
 have g:=getElem?_bubble hk d hd i;split
 .rename_i c;rw[Gan c] at g;exact iz g
 .rename_i c;rw[Gah c] at g;split
  .rename_i c2;rw[Gan c2] at g;exact iz g
  .rename_i c2;rw[Gah c2] at g;exact iz g
theorem HR(hN:0<N):∀f p k,Ord N p->k+f=N->Up rk p k->Asks rk N (kas_bin f p k) λr=>Ord N r/\Up rk r N
 |0,p,k,hp,hk,hu=>by
  have e:k=N:=by lia
  subst e;exact⟨hp,hu⟩
 |f+1,p,k,hp,hk,hu=>by
  have sz:=hp.size;refine Asks.then _ (Asks.mono (λm ⟨a1,a2,a3⟩=> ?_) _ (qK hp hN hu k 0 k (Gba _) (Gao _) (by lia) (λi hi=>by lia) λi i1 i2=>by lia));refine HR hN f _ (k+1) (hp.D2 (bubble_perm p k (k -m))) (by lia) λu v xK hv=> ?_;have B:=λi=>OU (rk:=rk) (p:=p) (k:=k) (d:=k -m) (by lia) (by lia) i;rw[B u,B v];have em:k -(k -m)=m:=by lia
  rw[em];by_cases u1:u=m
  .rw[Gan u1];by_cases v1:v=m
   .rw[Gan v1];exact Gcp _
   .rw[Gah v1];rw[Gan ⟨by lia,by lia⟩];exact GdX (a3 (v -1) (by lia) (by lia))
  .rw[Gah u1];by_cases u2:m<u/\u<=k
   .rw[Gan u2,Gah (show¬v=m by lia),Gan ⟨by lia,by lia⟩];exact hu (u -1) (v -1) (by lia) (by lia)
   .rw[Gah u2];by_cases v1:v=m
    .rw[Gan v1];exact a2 u (by lia)
    .rw[Gah v1];by_cases v2:m<v/\v<=k
     .rw[Gan v2];exact hu u (v -1) (by lia) (by lia)
     .rw[Gah v2];exact hu u v xK (by lia)
def L9(hN:1<=N):Asks rk N (kas_sort N) λr=>Ord N r/\Up rk r N:=by
 have h0:Ord N (List.toArray (List.range N)):=List.Perm.refl _;refine Asks.then _ (Asks.mono (λr ⟨a1,a2,a3,a4⟩=> ?_) _ (HQ h0 hN (Gao N)));split
 .exact HR (by lia) _ _ _ a1 (by lia) (by rw[show max r.1 1=r.1 by lia];exact a4)
 .have e:r.1=N:=by lia
  rw[e] at a4;exact⟨a1,a4⟩
end
def FO(h:Yi)(a:Yd)(T:String)(vs:Array Ye):Prop:=∃o,h.get? a=U o/\o.cls= .type T/\o.data= .fields vs
def HS(h:Yi)(d:Yd)(es:Array DictEntry)(ep:Nat):Prop:=∃o,h.get? d=U o/\o.ExactDict/\o.data= .dict es ep
section
def HU{z:Yg}(x:HS z.heap d es ep)(h:Q es z):wpAny (model prog w) A (dictEntries d p) Q E z:=let⟨_,ho,_,hd⟩:=x;wpAny_dictEntries ho hd h
def N0{z:Yg}(x:HS z.heap d es ep)(h:Q ep z):wpAny (model prog w) A (dictEpoch d p) Q E z:=let⟨_,ho,_,hd⟩:=x;wpAny_dictEpoch ho hd h
def FO.ty{z:Yg}(x:FO z.heap a T vs):z.TypeIs (.ref a) T:=let⟨o,ho,hc,_⟩:=x;⟨o,ho,hc⟩
def vk{z:Yg}(x:FO z.heap a T vs)(h:Q vs z):wpAny (model prog w) A (fieldsOf (.ref a)) Q E z:=let⟨_,ho,_,hd⟩:=x;wpAny_fieldsOf ho hd h
def fO{z:Yg}{vs:Array Ye}(f:FO z.heap a T vs)(h:∀h',FO h' a T (vs.setIfInBounds k x)/\Heap.SameBut a z.heap h' ->Q () {z with heap:=h' })(hk:k<vs.size):
  wpAny (model prog w) A (setField (.ref a) k x) Q E z:=by
 obtain⟨⟨c,dc,dt,sl⟩,ho,hc,hd⟩:=f;cases hc;cases hd
 exact GcS ho rfl hk (h _ ⟨⟨_,Gbg _ ho rfl,rfl,rfl⟩,GbD ..⟩)
variable{h:Yi}
def FO.at{h' :Yi}(x:FO h a T vs)(k:∀o,h.get? a=U o->h'.get? a=U o):FO h' a T vs:=let⟨o,q,r⟩:=x;⟨o,k o q,r⟩
def FO.lt(x:FO h a T vs):a<h.objs.size:=let⟨_,q,_⟩:=x;GaA q
def jP{z:Yg}(f:FO z.heap a T vs)(e:vs[i]? =U x)(h:Q x z):wpAny (model prog w) A (field (.ref a) i) Q E z:=let⟨_,ho,_,hd⟩:=f;wpAny_field ho hd e h
def HV{A:Yj}{z:Yg}(hh:A.handled=J)(h:∀h' a,(∀b o,z.heap.get? b=U o->h'.get? b=U o)/\(∃o,h'.get? a=U o/\o.cls= .type "StopIteration")->E (.ref a) {z with heap:=h' }):
  wpAny (model prog w) A (newExc (.type "StopIteration") []>>=λe=>(raiseNew e:Sem α)) Q E z:=by
 .unfold raiseNew
  wp_walk
  exact h _ _ ⟨λb o e=>Gag _ (Gag _ e),_,Gay _ rfl,rfl⟩
 all_goals size_fits
def vm{z:Yg}(x:∃o,z.heap.get? e=U o/\o.cls= .type "StopIteration")(h:Q O z):wpAny (model prog w) A (isInstance (.ref e) (.type "StopIteration")) Q E z:=
 wpAny_isInstance x isSubtype_stop h
def S9(es:Array DictEntry)(i:Nat):(if(i:Int)<0 then J else es[(i:Int).toNat]?)=es[i]? :=by simp;lia
def Emp(h:Yi)(S:Yd):Prop:=∃c,h.get? S=U {cls:= .type "list",data:= .seq #[] c}
def on{α:Type}{t:Sem α}{Q Q' :α->Yg->Prop}(h:wpAny (model prog w) A t Q E z)(k:∀a s,Q a s->Q' a s):wpAny (model prog w) A t Q' E z:=Gcc h k λ_ _ x=>x
def touched{z:Yg}(e:Emp z.heap S)(h:∀h2,Emp h2 S/\(∀b o,b≠S->z.heap.get? b=U o->h2.get? b=U o)->Q () {z with heap:=h2}):wpAny (model prog w) A (Builtin.List.listTouch (.ref S)) Q E z:=by
 obtain⟨c,e⟩:=e;have e1:=Gbg (Obj.mapSeq (·.push Value.none)) e rfl;refine Gab (wpAny_updateSeq e rfl (wpAny_updateSeq e1 rfl (h _ ⟨⟨_,Gbg (Obj.mapSeq (·.pop)) e1 rfl⟩,λb o n k=> ?_⟩)));rw[Gce _ _ (Ne.symm n),Gce _ _ (Ne.symm n),k]
def HW{A:Yj}{z:Yg}(hT:z.TypeIs v T)(n1:(Value.type T== .type "list")=M)(n2:(Value.type T== .type "tuple")=M)(n3:Builtin.List.listSameRef (.ref S) v=M)
  (h:wpAny (model prog w) A.in1 (pyIter v) (λi s1=>wpAny (model prog w) A.in1 (Builtin.List.listLengthHint v) (λ_ s2=>Emp s2.heap S/\∀h2,Emp h2 S->(∀b o,b≠S->s2.heap.get? b=U o->h2.get? b=U o)->
   codeAny (model prog w) A (.builtin "list.extend.loop" ⟨[.ref S,i,res],[]⟩) R {s2 with heap:=h2}) (λe s' =>R (.error e) s') s1) (λe s' =>R (.error e) s') z):
  wpAny (model prog w) A.in1 (Builtin.List.listExtendWith (.ref S) v res) (λfin s' =>match fin with| .done f=>R (.ok f) s' | .again c' =>c'.quiet=O/\codeAny (model prog w) A c' R s') (λe s' =>R (.error e) s') z:=by
 wp_walk using GdI hT,on h
 intro i s1 q
 wp_walk using on q
 rintro b s2 ⟨e,q⟩;have quiet:Code.quiet (.builtin "list.extend.loop" ⟨[.ref S,i,res],[]⟩)=O:=Gdz F.plain_extend_loop _;apply GcE<;>intro _
 .wp_walk using touched e
  exactλh2 k=>Gad ⟨quiet,q h2 k.1 k.2⟩
 .exact Gad ⟨quiet,q _ e λ_ _ _ k=>k⟩
def La(h:∀R,(∀v s',Q v s' ->R (.ok (.ret v)) s')->codeAny (model prog w) A c R z):wpAny (model prog w) A (runValue c) Q E z:=wpAny_runValue (h _ λ_ _ q=>q)
def gather{A:Yj}{z:Yg}
  (h:∀R,(∀s' acc c,s'.heap.get? z.heap.objs.size=U {cls:= .type "list",dict:=J,data:= .seq acc c,slots:=#[]}->Q acc.toList s' ->R (.ok (.ret (.ref z.heap.objs.size))) s')->
   wpAny (model prog w) A.in1 (Builtin.List.listExtendWith (.ref z.heap.objs.size) v (.ref z.heap.objs.size)) (λfin s' =>match fin with| .done f=>R (.ok f) s' | .again c' =>c'.quiet=O/\codeAny (model prog w) A c' R s') (λe s' =>R (.error e) s') {z with heap:=z.heap.push (seqObj "list" #[] 0)}):
  wpAny (model prog w) A (collect v) Q E z:=by
 unfold collect;apply Gab;apply La;intro R r;apply GbW entry_proto_collect';apply Gab;refine wpAny_newList (Gad ⟨Code.quiet_builtin _ (by decide+kernel), ?_⟩);apply GbW entry_list_iadd';exact h R λs' acc c k q=>r _ _ (Gab (wpAny_load k (Gad q)))
def vn{A:Yj}{z:Yg}
  (h:∀h1,Emp h1 z.heap.objs.size->(∀b o,z.heap.get? b=U o->h1.get? b=U o)->∀R,
   (∀s' acc c,s'.heap.get? z.heap.objs.size=U {cls:= .type "list",dict:=J,data:= .seq acc c,slots:=#[]}->Q acc.toList s' ->R (.ok (.ret (.ref z.heap.objs.size))) s')->
   wpAny (model prog w) A.in1 (Builtin.List.listExtendWith (.ref z.heap.objs.size) v (.ref z.heap.objs.size)) (λfin s' =>match fin with| .done f=>R (.ok f) s' | .again c' =>c'.quiet=O/\codeAny (model prog w) A c' R s') (λe s' =>R (.error e) s') {z with heap:=h1}):
  wpAny (model prog w) A (collect v) Q E z:=gather (h _ ⟨0,Gay _ rfl⟩ λb o=>Gag _)
def A6(h:Yi)(S:Yd)(acc:Array Ye):Prop:=∃c,h.get? S=U {cls:= .type "list",dict:=J,data:= .seq acc c,slots:=#[]}
end
noncomputable def b7:D->List Int
 | .non=>[0]
 | .int i=>[1,i]
 | .str x=>2::x.cps.toList.map Int.ofNat
 |_=>[3]
noncomputable def dO{α:Type} [DecidableEq α](lt:α->α->Bool):List α->List α->Bool
 |[],[]=>M
 |[],_::_=>O
 |_::_,[]=>M
 |a::as,b::bs=>if a=b then dO lt as bs else lt a b
noncomputable def ltI(a b:Int):Bool:=decide (a<b)
def ltC:List (List Int)->List (List Int)->Bool:=dO (dO ltI)
def code:D->List (List Int)
 | .tup ds=>ds.map b7
 |d=>[b7 d]
def Ff(d:D):List D->List D
 |[]=>[d]
 |e::es=>if ltC (code d) (code e) then d::e::es else e::Ff d es
def bH:List D->List D
 |[]=>[]
 |d::ds=>Ff d (bH ds)
noncomputable def tyD:D->Nat
 | .non=>0
 | .int _=>1
 | .str _=>2
 |_=>3
def lj(d:D):Bool:=tyD d !=3
def lH:List D->List D->Bool
 |a::as,b::bs=>if b7 a=b7 b then lH as bs else(tyD a==tyD b&&(tyD a==1||tyD a==2))
 |_,_=>O
noncomputable def Fg:D->Bool
 | .int _=>O
 |_=>M
def lu(t:Nat):D->Bool
 | .tup (f::r)=>tyD f==t&&r.all lj
 |_=>M
def A7:D->D->Bool
 | .tup a,.tup b=>lH a b
 |_,_=>M
def XX(ds:List D):Bool:=ds.all Fg||((ds.all (lu 1)||ds.all (lu 2))&&ds.all λx=>ds.all λy=>A7 x y)
def XU:SpV:=one λds=>if decide (ds.length<64)&&XX ds then U ⟨.tn,.lst (bH ds)⟩ else J
structure vo{α:Type}(lt:α->α->Bool):Prop where
 irr:∀a,lt a a=M
 tr:∀a b c,lt a b=O->lt b c=O->lt a c=O
 tot:∀a b,lt a b=M->lt b a=M->a=b
def Uv:vo ltI:=⟨λa=>by simp[ltI],λa b c h1 h2=>by simp[ltI] at*;lia,λa b h1 h2=>by simp[ltI] at*;lia⟩
section
variable{α:Type} [DecidableEq α]
def vo.lex{lt:α->α->Bool}(L:vo lt):vo (dO lt):=by
 refine⟨λa=> ?_,λa=> ?_,λa=> ?_⟩
 .induction a with
  |nil=>rfl
  |cons x xs ih=>simp[dO,ih]
 .induction a with
  |nil=>
   intro b c h1 h2;cases c with
   |nil=>cases b<;>simp[dO] at h1 h2
   |cons z zs=>rfl
  |cons x xs ih=>
   intro b c h1 h2;cases b with
   |nil=>simp[dO] at h1
   |cons y ys=>
    cases c with
    |nil=>simp[dO] at h2
    |cons z zs=>
     unfold dO at h1 h2⊢;by_cases e1:x=y
     .subst e1;rw[Gan rfl] at h1;by_cases e2:x=z
      .subst e2;rw[Gan rfl] at h2⊢;exact ih ys zs h1 h2
      .simp_all
     .rw[Gah e1] at h1;by_cases e2:y=z
      .simp_all
      .rw[Gah e2] at h2;by_cases e3:x=z
       .subst e3;have:=L.tr x y x h1 h2;rw[L.irr] at this;cases this
       .rw[Gah e3];exact L.tr x y z h1 h2
 .induction a with
  |nil=>
   intro b h1 h2;cases b with
   |nil=>rfl
   |cons y ys=>simp[dO] at h1
  |cons x xs ih=>
   intro b h1 h2;cases b with
   |nil=>simp[dO] at h2
   |cons y ys=>
    unfold dO at h1 h2;by_cases e:x=y
    .subst e;rw[Gan rfl] at h1 h2;rw[ih ys h1 h2]
    .rw[Gah e] at h1;rw[Gah (Ne.symm e)] at h2;exact absurd (L.tot x y h1 h2) e
def vo.nt{lt:α->α->Bool}{k x y:α}(L:vo lt)(h1:lt k y=O)(h2:lt x y=M):lt k x=O:=by
 cases h:lt y x with
 |true=>exact L.tr k y x h1 h
 |false=>rw[L.tot x y h2 h];exact h1
def vo.Uw{lt:α->α->Bool}{x y:α}(L:vo lt)(h:lt x y=O):lt y x=M:=by
 cases q:lt y x with
 |false=>rfl
 |true=>have:=L.tr x y x h q;rw[L.irr] at this;cases this
end
def Fh:vo ltC:=Uv.lex.lex
def rank(cs:List (List (List Int)))(i:Nat):Int:=((cs.filter λc=>ltC c (cs[i]?.getD [])).length:Nat)
theorem ma{α:Type}{p q:α->Bool}:∀{l:List α},(∀x∈l,p x=O->q x=O)->(l.filter p).length<=(l.filter q).length
 |[],_=>Gao _
 |x::l,h=>by
  have ih:=ma λy hy=>h y (Gaf _ hy);have hx:=h x Gaj;cases hp:p x with
  |false=>
   rw[Gbz,hp];refine Gbp ih ?_;rw[Gbz];split
   .simp_all
   .exact Gao _
  |true=>rw[Gbz,Gbz,hp,hx hp];simp;exact ih
theorem lI{α:Type}{p q:α->Bool}:∀{l:List α} {z:α},z∈l->p z=M->q z=O->(∀x∈l,p x=O->q x=O)->(l.filter p).length<(l.filter q).length
 |[],z,hz,_,_,_=>by cases hz
 |x::l,z,hz,h1,h2,h=>by
  rcases Gat.mp hz with e|hz
  .subst e;have:=ma λy hy=>h y (Gaf _ hy);rw[Gbz,Gbz,h1,h2];simp;lia
  .have ih:=lI hz h1 h2 λy hy=>h y (Gaf _ hy);have hx:=h x Gaj;cases hp:p x with
   |false=>
    rw[Gbz,hp];simp only[Bool.false_eq_true,if_false];rw[Gbz];split
    .rw[GaF];lia
    .exact ih
   |true=>rw[Gbz,Gbz,hp,hx hp];simp;exact ih
def D4{cs:List (List (List Int))}(hi:i<cs.length)(hj:j<cs.length):decide (rank cs i<rank cs j)=ltC cs[i] cs[j]:=by
 unfold rank;rw[Gac hi,Gac hj];cases h:ltC cs[i] cs[j] with
 |true=>
  refine GaD (Int.ofNat_lt.mpr ?_);exact lI (GaB hi) (Fh.irr _) h λc _ hc=>Fh.tr _ _ _ hc h
 |false=>
  refine GaE (GcV.mpr (Int.ofNat_le.mpr ?_));exact ma λc _ hc=>Fh.nt hc h
def fg(ds:List D):Prop:=ds.Pairwise λa b=>ltC (code b) (code a)=M
theorem o8(d:D):∀es,(Ff d es).Perm (d::es)
 |[]=>List.Perm.refl _
 |e::es=>by
  unfold Ff;split
  .exact List.Perm.refl _
  .exact((o8 d es).cons e).trans (List.Perm.swap d e es)
theorem bT:∀ds,(bH ds).Perm ds
 |[]=>List.Perm.refl _
 |d::ds=>(o8 d _).trans ((bT ds).cons d)
theorem oX(d:D):∀{es},fg es->fg (Ff d es)
 |[],_=>List.pairwise_singleton _ _
 |e::es,h=>by
  have h' :=GaV.mp h;unfold Ff;split
  .rename_i c;refine GaV.mpr ⟨λb hb=> ?_,h⟩;rcases Gat.mp hb with q|q
   .subst q;exact Fh.Uw c
   .cases z:ltC (code b) (code d) with
    |false=>rfl
    |true=>have:=Fh.tr _ _ _ z c;rw[h'.1 b q] at this;cases this
  .rename_i c;refine GaV.mpr ⟨λb hb=> ?_,oX d h'.2⟩;rcases Gat.mp ((o8 d es).mem_iff.mp hb) with q|q
   .subst q;simpa using c
   .exact h'.1 b q
theorem cQ:∀ds,fg (bH ds)
 |[]=>List.Pairwise.nil
 |d::ds=>oX d (cQ ds)
theorem gz:∀{xs ys},xs.Perm ys->fg xs->fg ys->(∀a∈xs,∀b∈xs,code a=code b->a=b)->xs=ys
 |[],ys,hp,_,_,_=>(List.nil_perm.mp hp).symm
 |x::xs,ys,hp,hx,hy,hi=>by
  cases ys with
  |nil=>exact absurd (List.perm_nil.mp hp) (by simp)
  |cons y ys=>
   have px:=GaV.mp hx;have py:=GaV.mp hy;have e:x=y:=by
    have mx:=hp.mem_iff.mp Gaj;have my:=hp.mem_iff.mpr Gaj;rcases Gat.mp mx with q|q
    .exact q
    .rcases Gat.mp my with r|r
     .exact r.symm
     .exact hi x Gaj y my (Fh.tot _ _ (py.1 x q) (px.1 y r)).symm.symm
   subst e;rw[gz (List.perm_cons x|>.mp hp) px.2 py.2 λa ha b hb=>hi a (Gaf _ ha) b (Gaf _ hb)]
@[simp] noncomputable def fG:Nat->List D->List D
 |_,[]=>[]
 |i,x::xs=> .tup [.int i,x]::fG (i+1) xs
@[simp] def ub(f:DE):DI:=λenv=>(f env).bind λr=>if r.k= .to then J else match r.d with
 | .lst xs=>U (fG 0 xs)
 | .tup xs=>U (fG 0 xs)
 |_=>J
theorem gW:∀i xs,(fG i xs).length=xs.length
 |_,[]=>rfl
 |i,x::xs=>by simp[gW (i+1) xs]
theorem gX:∀(k:Nat) (xs:List D) (i:Nat),(fG k xs)[i]? =(xs[i]?).map λx=> .tup [.int ((k+i:Nat)),x]
 |_,[],i=>by simp
 |k,x::xs,i=>by
  cases i with
  |zero=>simp
  |succ i=>
   simp only[fG,GcB];rw[gX (k+1) xs i,show k+1+i=k+(i+1) by lia]
def oY(x:D)(ds:List D):Option Bool:=if aM 10 x&&ds.all (aM 10) then U (ds.any λy=>eqD y x) else J
def inB(x y:D):Option Bool:=match y with
 | .lst ds=>oY x ds
 | .tup ds=>oY x ds
 |_=>J
def A8(x y:D):Option Bool:=(inB x y).map (!·)
noncomputable def A9:SpV
 |[.int i]=>U ⟨.c,.int i⟩
 |[.bl b]=>U ⟨.c,.int (if b then 1 else 0)⟩
 |_=>J
@[simp] theorem Sa:A9 [.int i]=U ⟨.c,.int i⟩:=rfl
@[simp] theorem TB:A9 [.bl b]=U ⟨.c,.int (if b then 1 else 0)⟩:=rfl
noncomputable def iA{α:Type}(xs:List α)(i:Int)(y:α):List α:=xs.take (if i<0 then(i+(xs.length:Int)).toNat else min i.toNat xs.length)++y::xs.drop (if i<0 then(i+(xs.length:Int)).toNat else min i.toNat xs.length)
def uc(xs:List α)(i:Int)(y:α):(iA xs i y).length=xs.length+1:=by
 unfold iA
 grind
def BE(xs:List α)(i:Int)(y:α):(iA xs i y).Perm (y::xs):=by
 refine GdC.trans ?_;simp_all
@[simp] def OV(i:Nat)(k v:DE):DS:=λenv=>(k env).bind λx=>(v env).bind λr=>(ownAt i env).bind λd=>match d,x.d with
 | .lst xs,.int j=>if r.free&&(decide (xs.length<af)&&aW j) then U (.nx (env.set i (U (.own (.lst (iA xs j r.d)))))) else J
 |_,_=>J
@[simp] def HX(f:DE):DE:=λenv=>(f env).bind λr=>match r.d with
 | .int j=>if j<=af/\-1000000<=j then U ⟨.tn,.lst (aG 0 j.toNat)⟩ else J
 |_=>J
def mmD(best:Int->List Int->Int)(dv:D)(d:D):Option RV:=(jw d).bind λds=>(CJ ds).map λns=>match ns with
 |[]=> ⟨.c,dv⟩
 |n::ns=> ⟨.c,.int (best n ns)⟩
@[simp] def mmE(best:Int->List Int->Int)(dv:D)(f:DE):DE:=λenv=>(f env).bind λr=>mmD best dv r.d
noncomputable def isInt:D->Bool
 | .int _=>O
 |_=>M
noncomputable def unI:D->Int
 | .int i=>i
 |_=>0
noncomputable def OW:Key->D
 | .inl i=> .int i
 | .inr x=> .str x
def Fj:D->D->Option (Option D)
 | .dT eD,.tup ks=>(keysOf ks).map λk=>look eD k
 |_,_=>J
@[simp] def HY(o k d:DE):DE:=λenv=>(o env).bind λx=>(k env).bind λy=>(d env).bind λr=>if r.k= .c then(Fj x.d y.d).map λv=> ⟨.c,v.getD r.d⟩ else J
@[simp] theorem TC:Fj (.dT eD) (.tup ks)=(keysOf ks).map λk=>look eD k:=rfl
def cP(eD:List (List Key×D)):List D:=eD.map λp=> .tup [.tup (p.1.map OW),p.2]
@[simp] noncomputable def D5(vw:List (List Key×D)->List D)(f:DE):DI:=λenv=>(f env).bind λr=>if r.k= .tn then match r.d with
 | .dT eD=>U (vw eD)
 |_=>J
 else J
@[simp] noncomputable def Sb(i:Nat)(env:Env):Bool:=(List.range env.length).all λj=>j==i||match env[j]? with
 |some (U (.bor _))=>M
 |_=>O
@[simp] def dictAt(i:Nat)(env:Env):Option (List (List Key×D)):=match env[i]? with
 |some (U (.own (.dT eD)))=>U eD
 |some (U (.lok (.dT eD)))=>U eD
 |some (U (.bor (.dT eD)))=>if Sb i env then U eD else J
 |_=>J
@[simp] def vp(vw:List (List Key×D)->List D)(i n:Nat)(az:List Nat)(g:DG)(t:DT)(f:DE):DE:=λenv=>(dictAt i env).bind λeD=>
 if(vw eD).length<=af then(cO g t f (vw eD) (XT n az (env.set i J))).map λrs=> ⟨.tn,.lst rs⟩ else J
noncomputable def vq:D->Bool
 | .tup (_::_)=>O
 |_=>M
abbrev DN:=Env->List (List D)->Option (Env×List (List D))
@[simp] noncomputable def HZ(env:Env):Bool:=env.all λz=>match z with
 |some (.bor _)=>M
 |_=>O
noncomputable def dd1(ks:List Int)(k:Int):List Int:=if k∈ks then ks else ks++[k]
def ddF(ns:List Int):List Int:=ns.foldl dd1 []
abbrev Rws:=List (List Key×D)
abbrev DM:=Env->Rws->Option (Env×Rws)
@[simp] noncomputable def Sd(f g:DM):DM:=λenv eA=>(f env eA).bind λq=>g q.1 q.2
@[simp] noncomputable def setM(j:Nat)(f:DE):DM:=λenv eA=>(f env).bind λr=>match r.k with
 | .c=>U (env.set j (U (.sh r.d)),eA)
 |_=>J
def I0(eD:Rws)(k:List Key)(d:D):Option Rws:=if eD.length<af then match eD.findIdx? (λp=>decide (p.1=k)) with
 |some j=>match eD[j]? with
  |some (_,.lst ds)=>if ds.length<af then U (eD.set j (k,.lst (ds++[d]))) else J
  |_=>J
 |none=>U (eD++[(k,.lst [d])])
 else J
@[simp] def Se(k f:DE):DM:=λenv eA=>(k env).bind λy=>(f env).bind λr=>match y.d with
 | .tup ks=>if r.d.imm&&HZ env then(keysOf ks).bind λk=>(I0 eA k r.d).map λyp =>(env,yp) else J
 |_=>J
@[simp] noncomputable def qL(j:Nat)(f:DM):List D->DM
 |[],env,eA=>U (env,eA)
 |d::ds,env,eA=>(f (env.set j (U (.sh d))) eA).bind λq=>qL j f ds q.1 q.2
@[simp] def N5(j:Nat)(e:DE)(f:DM):DM:=λenv eA=>(e env).bind λr=>match r.d with
 | .tup xs=>if aB xs then qL j f xs env eA else J
 |_=>J
@[simp] noncomputable def Ia(i:Nat)(f:DM):DS:=λenv=>(f (env.set i J) []).bind λq=>U (.ret (.dT q.2))
open PySem.W (KatLex KatTups kas_sort kas_ask kat_kind kat_lt kat_one kat_run kat_snds BoolBack kat_lt_int)
def FlV:D->Ye->Prop
 | .non,v=>v= .none
 | .int i,v=>∃t,v= .int i t
 | .str x,v=>∃t,v= .str x t
 |_,_=>False
def jQ(h:Yi):D->Ye->Prop
 | .int i,v=>∃t,v= .int i t
 | .tup fs,v=>∃a o n us,v= .ref a/\h.get? a=U o/\o.cls= .type "tuple"/\o.data= .seq (List.toArray us) n/\Paired FlV fs us
 |_,_=>False
def jQ.keep{h h' :Yi}{d:D}{v:Ye}(k:jQ h d v)(e:∀b o,h.get? b=U o->h'.get? b=U o):jQ h' d v:=by
 cases d with
 |int i=>exact k
 |tup fs=>obtain⟨a,o,n,us,h1,h2,h3⟩:=k;exact⟨a,o,n,us,h1,e _ _ h2,h3⟩
 |_=>exact k
def ko{α β:Type}{R S:α->β->Prop}{xs:List α}{ys:List β}(h:∀a b,R a b->S a b)(p:Paired R xs ys):Paired S xs ys:=L2.Paired.K1 p h
def Lb{xs ys:List Nat}(h:xs.map Int.ofNat=ys.map Int.ofNat):xs=ys:=by
 induction xs generalizing ys with
 |nil=>cases ys with
  |nil=>rfl
  |cons=>simp at h
 |cons x xs ih=>cases ys with
  |nil=>simp at h
  |cons y ys=>
   simp only[Gax,Gdc] at h;rw[ih h.2,Int.ofNat_inj.mp h.1]
def Lc{x y:Str}(h:x.cps.toList=y.cps.toList):x=y:=by
 cases x;simp_all
def o9(ha:lj a=O)(hb:lj b=O)(h:b7 a=b7 b):a=b:=by
 cases a<;>cases b<;>simp[lj,tyD] at ha hb<;>simp[b7] at h
 .rfl
 .rw[h]
 .have:=Lc (Lb h);rw[this]
theorem ud:∀{as bs:List D},as.all lj=O->bs.all lj=O->as.map b7=bs.map b7->as=bs
 |[],[],_,_,_=>rfl
 |[],_::_,_,_,h=>by simp at h
 |_::_,[],_,_,h=>by simp at h
 |a::as,b::bs,ha,hb,h=>by
  rw[GbB,Gai] at ha hb;simp only[Gax,Gdc] at h;rw[o9 ha.1 hb.1 h.1,ud ha.2 hb.2 h.2]
def OX(h:(tyD a==t)=O)(ht:t≠3):lj a=O:=by
 unfold lj;simp_all
def kP(ht:t≠3)(h:lu t d=O):∃f r,d= .tup (f::r)/\tyD f=t/\(f::r).all lj=O:=by
 unfold lu at h;split at h
 .rename_i f r;rw[Gai] at h;refine⟨f,r,rfl,Gbw.mp h.1, ?_⟩;rw[GbB,Gai];exact⟨OX h.1 ht,h.2⟩
 .cases h
def jz(h:Fg d=O):∃i,d= .int i:=by
 unfold Fg at h;split at h
 .exact⟨_,rfl⟩
 .cases h
def Aa(h:XX ds=O):∀a∈ds,∀b∈ds,code a=code b->a=b:=by
 intro a ha b hb e;unfold XX at h;rw[GaX,Gai,GaX] at h;have tup:∀t,t≠3->ds.all (lu t)=O->a=b:=λt ht hk=>by
  obtain⟨f,r,rfl,_,q1⟩:=kP ht (Gaq.mp hk a ha);obtain⟨f',r',rfl,_,q2⟩:=kP ht (Gaq.mp hk b hb);rw[ud q1 q2 e]
 rcases h with h| ⟨h|h,_⟩
 .obtain⟨i,rfl⟩:=jz (Gaq.mp h a ha);obtain⟨j,rfl⟩:=jz (Gaq.mp h b hb);simp[code,b7] at e;rw[e]
 .exact tup 1 (by decide) h
 .exact tup 2 (by decide) h
def D6:dO ltI (b7 (.int i)) (b7 (.int j))=decide (i<j):=by
 unfold b7;simp only[dO];by_cases e:i=j
 .subst e;simp
 .rw[Gah e]
  rfl
theorem D7:∀(xs ys:List Nat),dO ltI (xs.map Int.ofNat) (ys.map Int.ofNat)=decide (xs<ys)
 |[],[]=>by simp[dO]
 |[],y::ys=>by simp[dO]
 |x::xs,[]=>by simp[dO]
 |x::xs,y::ys=>by
  simp only[Gax,dO];by_cases e:x=y
  .subst e;rw[D7 xs ys];simp
  .rw[Gah (λz:Int.ofNat x=Int.ofNat y=>e (Int.ofNat_inj.mp z))];have:(x::xs<y::ys)↔x<y:=by rw[List.cons_lt_cons_iff];simp[e]
   unfold ltI;simp[this]
def Ld{x y:Str}:dO ltI (b7 (.str x)) (b7 (.str y))=decide (x.cps.toList<y.cps.toList):=by
 exact D7 _ _
section
variable{prog:Yn}{w:World}{A:Yj}{E:VSP}{s:Yg}
def Sf(ha:FlV a u)(hb:FlV b v)(ht:tyD a=tyD b)(h:Q (decide (b7 a=b7 b)) s):wpAny (model prog w) A (eqBool u v) Q E s:=by
 cases a<;>cases b<;>simp[tyD] at ht<;>try exact ha.elim
 .cases ha;cases hb;exact Gab (wpAny_rule (Gad h))
 .obtain⟨t,rfl⟩:=ha;obtain⟨t',rfl⟩:=hb;refine wpAny_eqBool_int ?_;rename_i i j;have e:decide (b7 (.int i)=b7 (.int j))=(i==j):=by
   simp only[b7];by_cases q:i=j
   .subst q;simp
   .simp[q]
  rw[e] at h;exact h
 .obtain⟨t,rfl⟩:=ha;obtain⟨t',rfl⟩:=hb;refine eqBool_str ?_;rename_i i j;have e:decide (b7 (.str i)=b7 (.str j))=(i==j):=by
   by_cases q:i=j
   .subst q;simp
   .have:¬b7 (.str i)=b7 (.str j):=λz=>q (by
     have:=o9 rfl rfl z;cases this
     rfl)
    simp[q,this]
  rw[e] at h;exact h
def Sg{one:Bool}{Q:Bool->Yg->Prop}(ha:FlV a u)(hb:FlV b v)(ht:tyD a=tyD b)(hk:tyD a=1\/tyD a=2)(h:Q (dO ltI (b7 a) (b7 b)) s):wpAny (model prog w) A (oneLt' one u v) Q E s:=by
 cases a<;>cases b<;>simp[tyD] at ht hk
 .obtain⟨t,rfl⟩:=ha;obtain⟨t',rfl⟩:=hb;rw[D6] at h;cases one with
  |true=>exact oneLt_int h
  |false=>exact kat_one _ _ (PyProof.Rows.lt_int h)
 .obtain⟨t,rfl⟩:=ha;obtain⟨t',rfl⟩:=hb;rw[Ld] at h;cases one with
  |true=>exact oneLt_str h
  |false=>exact kat_one _ _ (PyProof.Rows.lt_str h)
def OY:∀{as bs us vs} i,Paired FlV as us->Paired FlV bs vs->lH as bs=O->fin=decide (as.length<bs.length)->Q (ltC (as.map b7) (bs.map b7)) s->KatLex prog w A b fin Q (us.zip vs) i s:=by
 intro as;induction as with
 |nil=>
  intro bs us vs i p1 p2 _ hf h;have h' :Q fin s:=by
   rw[hf];cases p2 with
   |nil=>exact h
   |cons _ _=>rw[GaD (by simp)];exact h
  cases p1;exact h'
 |cons a as ih=>
  intro bs us vs i p1 p2 hc hf h;cases p1 with
  | @cons _ u _ us ha ta=>
  cases p2 with
  |nil=>
   have h' :Q fin s:=by rw[hf];exact h
   exact h'
  | @cons c v cs vs hb tb=>
  unfold lH at hc;have h0:ltC ((a::as).map b7) ((c::cs).map b7)=if b7 a=b7 c then ltC (as.map b7) (cs.map b7) else dO ltI (b7 a) (b7 c):=rfl
  rw[h0] at h;have ht:tyD a=tyD c:=by
   split at hc
   .rename_i e;cases a<;>first|exact ha.elim|(cases c<;>first|exact hb.elim|rfl|(simp[b7] at e;done))
   .rw[Gai] at hc;exact Gbw.mp hc.1
  refine Sf ha hb ht ?_;by_cases e:b7 a=b7 c
  .rw[GaD e];rw[Gan e] at h hc;exact ih (i+1) ta tb hc (by rw[hf];simp) h
  .rw[GaE e];rw[Gah e] at h hc;rw[Gai,GaX] at hc;exact Sg ha hb ht (hc.2.imp Gbw.mp Gbw.mp) h
variable{ds:List D}
def Ab(hK:Paired (jQ s.heap) ds vs)(hok:XX ds=O)(hY:(ds.all Fg=O/\Y=oneType')\/((ds.all (lu 1)||ds.all (lu 2))=O/\(ds.all λx=>ds.all λy=>A7 x y)=O/\Y=tuples' O)):
  ∀i j C,i<ds.length->j<ds.length->C (decide (rank (ds.map code) i<rank (ds.map code) j)) s->kas_ask prog w A Y vs i j C s:=by
 intro i j C hi hj h;have hl:=hK.length;rw[D4 (by simpa using hi) (by simpa using hj)] at h;simp only[Gcb] at h;unfold kas_ask;have gi:vs.getD i Value.none=vs[i]:=by simp[<-hl,hi]
 have gj:vs.getD j Value.none=vs[j]:=by simp[<-hl,hj]
 rw[gi,gj];have at_:∀{ds:List D} {vs:List Ye},Paired (jQ s.heap) ds vs->∀(i:Nat) (h1:i<ds.length) (h2:i<vs.length),jQ s.heap ds[i] vs[i]:=by
  intro ds vs hK;induction hK with
  |nil=>intro i h1;simp at h1
  |cons h t ih=>
   intro i h1 h2;cases i with
   |zero=>exact h
   |succ i=>exact ih i (by simpa using h1) (by simpa using h2)
 have ki:=at_ hK i hi (by lia);have kj:=at_ hK j hj (by lia);rcases hY with⟨a1,rfl⟩| ⟨a1,a2,rfl⟩
 .obtain⟨x,hx⟩:=jz (Gaq.mp a1 ds[i] (GaB hi));obtain⟨y,hy⟩:=jz (Gaq.mp a1 ds[j] (GaB hj));rw[hx] at ki h;rw[hy] at kj h;obtain⟨t,ei⟩:=ki;obtain⟨t',ej⟩:=kj;rw[ei,ej];refine kat_lt_int ?_;have e:ltC (code (.int x)) (code (.int y))=decide (x<y):=by
   show dO (dO ltI) [b7 (.int x)] [b7 (.int y)]=_;unfold dO;split
   .rename_i z;have:=o9 (a:= .int x) (b:= .int y) rfl rfl z;cases this;simp[dO]
   .exact D6
  rw[e] at h;exact h
 .have tup:∀d∈ds,∃fs,d= .tup fs:=λd hd=>by
   rw[GaX] at a1;rcases a1 with a1|a1
   .obtain⟨f,r,e,_⟩:=kP (by decide) (Gaq.mp a1 d hd);exact⟨_,e⟩
   .obtain⟨f,r,e,_⟩:=kP (by decide) (Gaq.mp a1 d hd);exact⟨_,e⟩
  have cm:=Gaq.mp (Gaq.mp a2 ds[i] (GaB hi)) ds[j] (GaB hj);obtain⟨xs,hx⟩:=tup ds[i] (GaB hi);obtain⟨ys,hy⟩:=tup ds[j] (GaB hj);rw[hx] at ki h cm;rw[hy] at kj h cm;obtain⟨a,o,n,us,ei,h1,h2,h3,h4⟩:=ki;obtain⟨a',o',n',Xx,ej,xF,zo,Xm,Wg⟩:=kj;rw[ei,ej];refine kat_lt h1 h3 xF Xm ?_;exact OY 0 h4 Wg cm (by rw[Gaw,Gaw,h4.length,Wg.length]) h
def ue{vs:List Ye}(ht:t≠3)(p:Paired (jQ s.heap) ds vs):ds.all (lu t)=O->∃fs,∃gs,KatTups s.heap vs fs/\Paired FlV gs fs/\(∀g∈gs,tyD g=t)/\fs.length=vs.length:=by
 induction p with
 |nil=>exactλ_=> ⟨[],[],trivial,.nil,(by intro g hg;cases hg),rfl⟩
 |cons h tl ih=>
  intro hk;rw[GbB,Gai] at hk;obtain⟨fs,gs,h1,h2,h3,h4⟩:=ih hk.2;obtain⟨f,r,rfl,q1,q2⟩:=kP ht hk.1;obtain⟨a,o,n,us,rfl,g1,g2,g3,g4⟩:=h;cases g4 with
  |cons p t=>
   refine⟨_::fs,f::gs,KatTups.cons g1 g2 g3 (by simp) h1,.cons p h2,λg hg=> ?_,by simp[h4]⟩;rcases Gat.mp hg with e|e
   .subst e;exact q1
   .exact h3 g e
def D8(hd:FlV d v)(ht:tyD d=t):(t=1->PySem.W.Looks XM h (typeOf v) (.type "int"))/\(t=2->PySem.W.Looks XM h (typeOf v) (.type "str")):=by
 subst ht;cases d<;>simp[tyD]<;>try exact hd.elim
 .obtain⟨u,rfl⟩:=hd;exact PySem.W.Looks.of_pure rfl
 .obtain⟨u,rfl⟩:=hd;exact PySem.W.Looks.of_pure rfl
def uf{vs:List Ye}(hK:Paired (jQ s.heap) ds vs)(hok:XX ds=O)(h2:2<=ds.length)
  (h:∀Y,((ds.all Fg=O/\Y=oneType')\/((ds.all (lu 1)||ds.all (lu 2))=O/\(ds.all λx=>ds.all λy=>A7 x y)=O/\Y=tuples' O))->Q Y s):wpAny (model prog w) A (keyKind' vs.toArray) Q E s:=by
 have hl:=hK.length;unfold XX at hok;rw[GaX,Gai] at hok;rcases hok with hok| ⟨hok,hc⟩
 .have ia:∀{ds:List D} {vs:List Ye},Paired (jQ s.heap) ds vs->ds.all Fg=O->∃ns,IntsAre vs ns:=by
   intro ds vs hK;induction hK with
   |nil=>intro _;exact⟨[],.nil⟩
   |cons p t ih=>
    intro hk;rw[GbB,Gai] at hk;obtain⟨ns,q⟩:=ih hk.2;obtain⟨i,rfl⟩:=jz hk.1;obtain⟨u,rfl⟩:=p;exact⟨i::ns,.cons i u q⟩
  obtain⟨ns,q⟩:=ia hK hok
  match vs,hl,q with
  |[],e,_=>rw[Gbi] at e;lia
  |[_],e,_=>rw[GcQ] at e;lia
  |v1::v2::vr,_,q=>
   rw[keyKind_ints q];exact Gad (h _ (.inl ⟨hok,rfl⟩))
 .have xO :=hok;rw[GaX] at xO;rcases xO with a1|a1
  .obtain⟨fs,gs,q1,q2,q3,q4⟩:=ue (by decide) hK a1;refine kat_kind (T:= .type "int") q1 (by rw[q4,<-hl];lia) (λv hv=> ?_) (by rfl) (h _ (.inr ⟨hok,hc,rfl⟩));obtain⟨g,hg,Vw⟩:∃g∈gs,FlV g v:=by
    clear q1 q3 q4;induction q2 with
    |nil=>cases hv
    |cons p t ih=>
     rcases Gat.mp hv with e|e
     .simp_all
     .obtain⟨g,h1,h2⟩:=ih e;exact⟨g,Gaf _ h1,h2⟩
   exact(D8 Vw (q3 g hg)).1 rfl
  .obtain⟨fs,gs,q1,q2,q3,q4⟩:=ue (by decide) hK a1;refine kat_kind (T:= .type "str") q1 (by rw[q4,<-hl];lia) (λv hv=> ?_) (by rfl) (h _ (.inr ⟨hok,hc,rfl⟩));obtain⟨g,hg,Vw⟩:∃g∈gs,FlV g v:=by
    clear q1 q3 q4;induction q2 with
    |nil=>cases hv
    |cons p t ih=>
     rcases Gat.mp hv with e|e
     .subst e;exact⟨_,Gaj,p⟩
     .obtain⟨g,h1,h2⟩:=ih e;exact⟨g,Gaf _ h1,h2⟩
   exact(D8 Vw (q3 g hg)).2 rfl
def Ib(vs:List Ye):(vs.toArray.zip vs.toArray).map (·.2)=vs.toArray:=by
 apply Array.toList_inj.mp;rw[Array.toList_map,Array.toList_zip];exact List.map_snd_zip (Gao _)
def BF{vs:List Ye}{P:PySem.Fin->Yg->Prop}{Ok:Array Ye->Prop}(ho:s.heap.get? a=U (seqObj "list" vs.toArray n))(sz:vs.length<=sizeLine)(one:vs.length<2->Ok vs.toArray)(len:∀out,Ok out->out.size=vs.length)
  (big:∀G,(∀b o,b≠a->s.heap.get? b=U o->G.get? b=U o)->2<=vs.length->wpAny (model prog w) A (keyKind' vs.toArray) (λY s1=>wpAny (model prog w) A (sortRuns'.run (SortSt.mk' Y (vs.toArray.zip vs.toArray) #[] 7 J)) (λr s2=>s2={s with heap:=G}/\failedOf r.2=J/\Ok ((arrOf r.2).map (·.2))) E s1) E {s with heap:=G})
  (h:∀out,Ok out->P (.done (.ret .none)) {s with heap:=sortedHeap s.heap a vs out}):wpAny (model prog w) A (Builtin.«list.sort» ⟨[.ref a],[]⟩) P E s:=by
 have⟨ep,e1⟩:∃ep,(s.heap.update a (Obj.mapSeq λ_=>(#[]:Array Ye))).get? a=U (seqObj "list" #[] ep):=⟨_,get?_update_seq ho _⟩
 rw[list_sort_plain];refine Gab (listItems_at ho rfl (Gab (listUpdate_at ho rfl (Gab (seqEpoch_at e1 rfl (Gab (wpAny_newTuple (Gab (wpAny_newList (GbM ?_) (Gba _))) sz)))) (by simpa using sz) (Gba _))));have e2:=Gag (seqObj "list" #[] 0) (Gag (seqObj "tuple" vs.toArray 0) e1);have last:∀st:SortSt,failedOf st=J->Ok ((arrOf st).map (·.2))->wpAny (model prog w) A (do
   let touched:=(<-seqEpoch a) !=ep
   Builtin.List.listUpdate (.ref a) λ_=>(arrOf st).map (·.2)
   if let U e:=failedOf st then rule "list.sort.comparison-raised";throw e
   if touched then rule "list.sort.modified";raiseError "ValueError" "list modified during sort"
   ret .none) P E {s with heap:=((s.heap.update a (Obj.mapSeq λ_=>(#[]:Array Ye))).push (seqObj "tuple" vs.toArray 0)).push (seqObj "list" #[] 0)}:=λst f ok=>by
  refine Gab (seqEpoch_at e2 rfl (Gab (listUpdate_at e2 rfl ?_ (Gba _) (by rw[len _ ok];lia))));rw[f]
  wp_walk
  exact h _ ok
 by_cases c:vs.length<2
 .have c' :vs.toArray.size<2:=by simpa using c
  rw[Gan c',Gan c'];refine Gab (Gad (Gab (Gad (last (SortSt.mk' general' (vs.toArray.zip vs.toArray) #[] 7 J) rfl ?_))));rw[Ib];exact one c
 .have c' :¬vs.toArray.size<2:=by simpa using c
  rw[Gah c',Gah c'];refine Gab (on (big _ (λb o n q=>Gag _ (Gag _ ((Gce _ _ (Ne.symm n)).trans q))) (by lia)) λY s1 q=>Gab (on q ?_));rintro⟨⟨⟩,st⟩ s2 ⟨rfl,f,ok⟩;exact last st f ok
def kQ(cs:List (List (List Int)))(vs:List Ye)(out:Array Ye):Prop:=∃p:Array Nat,Ord vs.length p/\Up (rank cs) p vs.length/\out=List.toArray (p.toList.map λi=>vs.getD i Value.none)
def kQ.len{vs:List Ye}{out:Array Ye}(x:kQ cs vs out):out.size=vs.length:=by
 obtain⟨p,h1,_,rfl⟩:=x;rw[Gaw,Gae,GaZ,h1.size]
def kQ.one{vs:List Ye}(c:vs.length<2):kQ cs vs vs.toArray:=by
 refine⟨List.toArray (List.range vs.length),List.Perm.refl _,λu v q r=> ?_, ?_⟩
 .rw[show u=v by lia];exact Gcp _
 .rcases vs with _| ⟨x,_| ⟨y,t⟩⟩
  .rfl
  .rfl
  .exact absurd c (by simp)
def vt(prog:Yn)(w:World)(A:Yj)(E:VSP)(s:Yg)(cs:List (List (List Int)))(vs:List Ye):Prop:=
 2<=vs.length->∀Q:SortKind->Yg->Prop,(∀Y,(∀i j C,i<vs.length->j<vs.length->C (decide (rank cs i<rank cs j)) s->kas_ask prog w A Y vs i j C s)->Q Y s)->wpAny (model prog w) A (keyKind' vs.toArray) Q E s
def lJ{vs:List Ye}(ho:s.heap.get? a=U (seqObj "list" vs.toArray n))(yS:vs.length<64)
  (hK:∀G,(∀b o,b≠a->s.heap.get? b=U o->G.get? b=U o)->vt prog w A E {s with heap:=G} cs vs)
  (h:∀p,Ord vs.length p->Up (rank cs) p vs.length->P (.done (.ret .none)) {s with heap:=sortedHeap s.heap a vs (List.toArray (p.toList.map λi=>vs.getD i Value.none))}):wpAny (model prog w) A (Builtin.«list.sort» ⟨[.ref a],[]⟩) P E s:=by
 refine BF ho (by rw[Gbu];lia) kQ.one (λ_ q=>q.len) (λG kp c=>hK G kp c _ λY hY=> ?_) λ_ ⟨p,h1,h2,e⟩=>e▸h p h1 h2;refine Gcc (kat_run (Q:=λst s2=>s2={s with heap:=G}/\failedOf st=J/\kQ cs vs ((arrOf st).map (·.2))) (G:=λp s' =>s' ={s with heap:=G}/\Ord vs.length p/\Up (rank cs) p vs.length) rfl (by lia) yS (λp st s' q1 q2 q3 q4=> ?_) (Asks.wp (λi j C hi hj=>hY i j C hi hj) (λp hp=> ⟨rfl,hp.1,hp.2⟩) _ (L9 (by lia)))) (λr s' q=>q) λ_ _ e=>e;exact⟨q4.1,q3,p,q4.2.1,q4.2.2,kat_snds rfl q2⟩
def vA{vs:List Ye}(ho:s.heap.get? a=U (seqObj "list" vs.toArray n))(yS:vs.length<64)(hK:Paired (jQ s.heap) ds vs)(hok:XX ds=O)
  (h:∀p,Ord vs.length p->Up (rank (ds.map code)) p vs.length->P (.done (.ret .none)) {s with heap:=sortedHeap s.heap a vs (List.toArray (p.toList.map λi=>vs.getD i Value.none))}):wpAny (model prog w) A (Builtin.«list.sort» ⟨[.ref a],[]⟩) P E s:=by
 have hl:=hK.length;refine lJ ho yS (λG kp c Q q=> ?_) h;have one:∀{d:D} {v:Ye},jQ s.heap d v->jQ G d v:=λ{d v} k=>by
  cases d with
  |tup fs=>
   obtain⟨b,o,m,us,h1,h2,h3,h4⟩:=k;refine⟨b,o,m,us,h1,kp b o (λz=> ?_) h2,h3,h4⟩;lia
  |_=>exact k
 have hKG:=ko (λ_ _=>one) hK;exact uf hKG hok (by lia) λY hY=>q Y λi j C hi hj hc=>Ab hKG hok hY i j C (by lia) (by lia) hc
def Ac{o:Yk}{vs:List Ye}(ho:s.heap.get? l=U o)(hc:o.cls= .type T)(hT:T="list"\/T="tuple")(hd:o.data= .seq vs.toArray n)
  (h:Q vs {s with heap:=(s.heap.push (seqObj "list" #[] 0)).update s.heap.objs.size (Obj.mapSeq (· ++vs.toArray))})(xB:vs.length<=sizeLine):wpAny (model prog w) A (collect (.ref l)) Q E s:=by
 have e0:(s.heap.push (seqObj "list" #[] 0)).get? s.heap.objs.size=U (seqObj "list" #[] 0):=Gay _ rfl;have el:=Gag (seqObj "list" #[] 0) ho;have up:(#[]++vs.toArray:Array Ye)=vs.toArray:=by simp
 have ek:((s.heap.push (seqObj "list" #[] 0)).update s.heap.objs.size (Obj.mapSeq (· ++vs.toArray))).get? s.heap.objs.size=U (seqObj "list" (#[]++vs.toArray) _):=get?_update_seq e0 _;rw[up] at ek;refine gather λR r=> ?_;have c:(Builtin.List.listSameRef (.ref s.heap.objs.size) (.ref l)||Value.type T== .type "list"||Value.type T== .type "tuple")=O:=by rcases hT with rfl|rfl<;>rw[GaX]<;>simp
 exact Gab (GdI ⟨o,el,hc⟩ (wpAny_ite_true (by rw[c];rfl) (Gab (listItems_at el hd (Gab (listItems_at e0 rfl (GbX (by simp) (Gab (listUpdate_at e0 rfl (Gad (r _ vs.toArray _ ek h)) (Gba _) (by rw[up,Gaw];lia))))))))))
def Fl{o:Yk}{vs:List Ye}(ho:s.heap.get? l=U o)(hc:o.cls= .type T)(hT:T="list"\/T="tuple")(hd:o.data= .seq vs.toArray n)(yS:vs.length<64)(hK:Paired (jQ s.heap) ds vs)(hok:XX ds=O)
  (h:∀p,Ord vs.length p->Up (rank (ds.map code)) p vs.length->Q (.ref (s.heap.objs.size+1)) {s with heap:=sortedAll s.heap vs (List.toArray (p.toList.map λi=>vs.getD i Value.none))}):wpAny (model prog w) A (call (.builtin "sorted") [.ref l]) Q E s:=by
 have szl:vs.length<=sizeLine:=by rw[Gbu];lia
 refine Calls.call_function_entry kind_sorted plain_sorted entry_sorted (args_sorted1 _) ?_;unfold Builtin.«sorted»;refine Gab (m:=checkCount "sorted" 1 1 _) (Gad (Gab (Ac ho hc hT hd ?_ szl)));refine Gab (wpAny_newList ?_ szl);generalize hG:(s.heap.push (seqObj "list" #[] 0)).update s.heap.objs.size (Obj.mapSeq (· ++vs.toArray))=G;have xB:G.objs.size=s.heap.objs.size+1:=by rw[<-hG,Heap.size_update,size_push']
 have yN:(G.push (seqObj "list" vs.toArray 0)).get? (s.heap.objs.size+1)=U (seqObj "list" vs.toArray 0):=by rw[<-xB];exact Gay _ rfl
 have keep:∀b o,s.heap.get? b=U o->(G.push (seqObj "list" vs.toArray 0)).get? b=U o:=λb o e=>by
  have eX:=GaA e;refine Gag _ ?_;rw[<-hG,Heap.get?_update_ne _ _ _ _ (GaK eX)];exact Gag _ e
 have hKG:Paired (jQ (G.push (seqObj "list" vs.toArray 0))) ds vs:=by
  exact ko (λ_ _ p=>p.keep keep) hK
 show wpAny _ _ _ _ _ {s with heap:=G.push (seqObj "list" vs.toArray 0)};rw[xB];refine Gab (GbM (Gbd slot_list_sort ⟨_,yN,rfl⟩ entry_list_sort (vA (s:={s with heap:=G.push (seqObj "list" vs.toArray 0)}) yN yS hKG hok λp h1 h2=> ⟨_,rfl, ?_⟩) (args_list_sort _)));have:=h p h1 h2;unfold sortedAll at this;rw[hG] at this;exact Gad ⟨_,rfl,this⟩
end
section
def Sh{K:ak}(r:Rep K F H d v)(hf:lj d=O)(ru:XO v u):FlV d u:=by
 cases r<;>simp[lj,tyD] at hf
 .cases ru;rfl
 .exact ru
 .exact ru
theorem Ic{K:ak}:∀{ds vs us},aO K F H ds vs->ds.all lj=O->XQ vs us->Paired FlV ds us
 |[],vs,us,r,_,ru=>by
  have:=r.cz;subst this;cases ru;exact .nil
 |d::ds,vs,us,r,hf,ru=>by
  obtain⟨v,w,rfl,h1,h2⟩:=r.cons_inv;rw[GbB,Gai] at hf;cases ru with
  |cons r1 r2=>exact .cons (Sh h1 hf.1 r1) (Ic h2 hf.2 r2)
def isKey(d:D):Bool:=match d with
 | .int _=>O
 | .tup fs=>fs.all lj
 |_=>M
variable{X:Cx}
def nY{Z:St}{s:Yg}(I:Inv X e8 Z H s)(r:Rep X.K F H d v)(hk:isKey d=O)(ru:XO v u):jQ s.heap d u:=by
 cases r<;>simp[isKey] at hk
 .exact ru
 .rename_i a vs fs h l r;cases ru;obtain⟨its,rv,⟨o,h1,h2,n,h3⟩,_⟩:=I.tuple (SqT.of h);exact⟨a,o,n,its,rfl,h1,h2,h3,Ic ⟨l,r⟩ (Gaq.mpr hk) rv⟩
theorem vB{X:Cx}{Z:St}{s:Yg}(I:Inv X e8 Z H s):∀{ds vs us},aO X.K F H ds vs->ds.all isKey=O->XQ vs us->Paired (jQ s.heap) ds us
 |[],vs,us,r,_,ru=>by
  have:=r.cz;subst this;cases ru;exact .nil
 |d::ds,vs,us,r,hf,ru=>by
  obtain⟨v,w,rfl,h1,h2⟩:=r.cons_inv;rw[GbB,Gai] at hf;cases ru with
  |cons r1 r2=>exact .cons (nY I h1 hf.1 r1) (vB I h2 hf.2 r2)
def Ad{ds:List D}(h:XX ds=O):ds.all isKey=O:=by
 unfold XX at h;rw[GaX,Gai,GaX] at h;refine Gaq.mpr λd hd=> ?_;have tup:∀t,t≠3->ds.all (lu t)=O->isKey d=O:=λt ht hk=>by
  obtain⟨f,r,rfl,_,q1⟩:=kP ht (Gaq.mp hk d hd);exact q1
 rcases h with h| ⟨h|h,_⟩
 .obtain⟨i,rfl⟩:=jz (Gaq.mp h d hd);rfl
 .exact tup 1 (by decide) h
 .exact tup 2 (by decide) h
def range_getD{α:Type}{xs:List α}{d:α}:(List.range xs.length).map (λi=>xs.getD i d)=xs:=by
 apply GcW
 .simp
 .intro i h1 h2;simp[h2]
variable{p:Array Nat}
def jA{α:Type}{xs:List α}{d:α}(h:Ord xs.length p):(p.toList.map λi=>xs.getD i d).Perm xs:=by
 have:=GcZ (λi=>xs.getD i d) h;rw[range_getD] at this;exact this
def Ie(h:Ord n p)(hi:i<p.toList.length):p.toList[i]<n:=GaS.mp (h.mem_iff.mp (GaB hi))
def qM{ds:List D}(h:Ord ds.length p)(hu:Up (rank (ds.map code)) p ds.length):fg (p.toList.map λi=>ds.getD i .non):=by
 refine Gdd.mpr λi j hi hj yl=> ?_;rw[Gae] at hi hj;rw[Gcb,Gcb];have bi:=Ie h hi;have bj:=Ie h hj;have hs:=h.size;have xa :i<p.size:=by simpa using hi
 have hj' :j<p.size:=by simpa using hj
 have u:=hu i j (GcO yl) (by lia);unfold cw at u;have ei:p.getD i 0=p.toList[i]:=by simp[xa]
 have ej:p.getD j 0=p.toList[j]:=by simp[hj']
 rw[ei,ej] at u;have r:=D4 (cs:=ds.map code) (i:=p.toList[j]) (j:=p.toList[i]) (by simpa using bj) (by simpa using bi);rw[GaE (GcV.mpr u)] at r;simp only[Gcb] at r;have gd:∀{k:Nat} (hk:k<ds.length),ds.getD k .non=ds[k]:=λ{k} hk=>by simp[hk]
 have gi:=gd bi;have gj:=gd bj;rw[gi,gj];exact r.symm
def Ae{K:ak}{ds:List D}{vs:List V}(h:Ord ds.length p)(r:aO K F H ds vs):aO K F H (p.toList.map λi=>ds.getD i .non) (p.toList.map λi=>vs.getD i .non):=by
 refine⟨by simp,λi d v e1 e2=> ?_⟩;rw[Gap] at e1 e2;cases q:p.toList[i]? with
 |none=>rw[q] at e1;cases e1
 |some k=>
  rw[q] at e1 e2;have hk:=GaS.mp (h.mem_iff.mp (Gau q));have xP:k<vs.length:=by rw[<-r.1];exact hk
  cases e1;cases e2;exact r.2 k _ _ (by simp[hk]) (by simp[xP])
def Af{vs:List V}{us:List Ye}(h:Ord vs.length p)(r:XQ vs us):XQ (p.toList.map λi=>vs.getD i .non) (p.toList.map λi=>us.getD i Value.none):=by
 have all:∀(l:List Nat),(∀i∈l,i<vs.length)->XQ (l.map λi=>vs.getD i .non) (l.map λi=>us.getD i Value.none):=by
  intro l;induction l with
  |nil=>intro _;exact .nil
  |cons i l ih=>
   intro hm;have hi:=hm i Gaj;obtain⟨u,hu,ru⟩:=r.get (x:=vs[i]) (i:=i) (by simp);refine .cons ?_ (ih λj hj=>hm j (Gaf _ hj));simp_all
 exact all _ λi hi=>GaS.mp (h.mem_iff.mp hi)
def D9(K:ak):List V->Hp->VK->Prop:=λxs H Q=>∃(p:Yd) (ds:List D) (vs:List V) (F:Yd->Prop),xs=[.ref p]/\(SqL K H p vs\/SqT K H p vs)/\aO K F H ds vs/\ds.length<64/\XX ds=O/\
 ∀l out,H l=J->(∀F',aO K F' H ds vs->aO K F' H (bH ds) out)->Q (.ref l) (upd H l (.lst out))
def Ah:fL X (.builtin "sorted") (D9 X.K):=by
 intro e8 s Z H xs us Q I rv h;obtain⟨p,ds,vs,F,rfl,hq,hr,yS,hok,q⟩:=h;obtain⟨u,rfl,ru⟩:=rv.one;cases ru;obtain⟨o,T,n,its,ho,hc,hT,hd,xg⟩:∃(o:Yk) (T:String) (n:Nat) (its:List Ye),s.heap.get? p=U o/\o.cls= .type T/\(T="list"\/T="tuple")/\o.data= .seq its.toArray n/\XQ vs its:=by
  rcases hq with hq|hq
  .obtain⟨its,xg,pl,_⟩:=I.list hq;obtain⟨o,h1,h2,n,h3⟩:=pl.isList;exact⟨o,"list",n,its,h1,h2,.inl rfl,h3,xg⟩
  .obtain⟨its,xg,⟨o,h1,h2,n,h3⟩,_⟩:=I.tuple hq;exact⟨o,"tuple",n,its,h1,h2,.inr rfl,h3,xg⟩
 have e1:its.length=ds.length:=by rw[<-xg.length,hr.1]
 have hK:=vB I hr (Ad hok) xg;refine Fl ho hc hT hd (by lia) hK hok λod h1 h2=> ?_;have xF :Ord ds.length od:=by rw[<-e1];exact h1
 have zo :Up (rank (ds.map code)) od ds.length:=by rw[<-e1];exact h2
 have uniq:=gz ((jA xF).trans (bT ds).symm) (qM xF zo) (cQ ds) λa ha b hb=>Aa hok a ((jA xF).mem_iff.mp ha) b ((jA xF).mem_iff.mp hb);obtain⟨c,xx⟩:=sortedAll_at s.heap its (List.toArray (od.toList.map λi=>its.getD i Value.none));have fresh:=I.hok.fresh (GbR _);have h1v:Ord vs.length od:=by rw[<-hr.1];exact xF
 refine⟨.ref (s.heap.objs.size+1),_,I.laid (o:= .lst (od.toList.map λi=>vs.getD i .non)) (λb ob e=>sortedAll_old e) (GbR _) ?_,rfl,q _ _ fresh λF' r=> ?_⟩
 .refine⟨?_,_,c,Af h1v xg,xx⟩;rw[Gae,GaZ,h1v.size,<-hr.1,Gbu];lia
 .rw[<-uniq];exact Ae xF r
def vC:CallD X XU (D9 X.K):=by
 intro F H ds vs rv Q ps e k;obtain⟨d,xs,rfl,h1,h2⟩:=BB e;split at h2
 .rename_i c;rw[Gai] at c;cases h2;obtain⟨v,rfl,i⟩:=ff ps;obtain⟨p,vs,rfl,hs,r⟩:=vh i h1;exact⟨p,xs,vs,F,rfl,hs,r,Gar c.1,c.2,λl out hl hr=>k _ _ (aX hl) ⟨l,rfl,hl,o6,rfl,fA hl (hr F r)⟩⟩
 .cases h2
end
section
variable{X:Cx}
def _root_.L2.Inv.qN{s s' :Yg}{ch:List Yd}(I:Inv X e8 Z H s)(hf:∀b∈ch,lV X e8 H b)(yd:s'.os=s.os)(hg:s'.gens=s.gens)
  (k:∀b u,b∉ch->s.heap.get? b=U u->s'.heap.get? b=U u)(hT:s.heap.objs.size<=T)(new:cI X.prog X.w (upd H T o) s'.heap T o):Inv X e8 Z (upd H T o) s' :=by
 have hn:H T=J:=I.hok.fresh hT;have ne:∀{b u},H b=U u->b≠T:=λ{b u} q=>dm q hn;refine I.MF (ch:=ch) yd ⟨λb ob q _ _ hx=>k b ob hx q,λb ob q _ _ hx=> ⟨ob.slots,k b ob hx q⟩,λb ob q n _=> ?_,λb ob q hx=> ⟨ob,k b ob hx q⟩,λb xs q=> ?_,λb ob u q=> ?_,λb ps q=> ⟨#[], ?_⟩⟩ ?_ (by rw[hg];exact I.bare) λb hb=> ⟨(hf b hb).2.2.2.1,(hf b hb).2.1,(hf b hb).2.2.2.2.1,(hf b hb).2.2.2.2.2⟩
 .rw[ar (GaK (GaL (GaA q) hT))];exact n
 .rw[ar (ne q)];exact q
 .rw[ar (ne q)];exact q
 .rw[ar (ne q),q];simp
 .intro b u q;by_cases hb:b=T
  .subst hb;rw[aF] at q;cases q;exact new
  .rw[ar hb] at q;have tr:∀{c v},H c=U v->c∉ch:=λ{c v} z hc=>by rw[(hf c hc).1] at z;cases z
   refine(I.hok b u q).dN (λc v hc z=>k c v ?_ z) (λc z=>by rw[ar (ne z)];exact z) λc xs z=>by rw[ar (ne z)];exact z
   rcases hc with hc|hc
   .rw[hc];exact tr q
   .exact tr hc
def Ite(K:ak)(l:Yd):It:=
 ⟨λi H=>∃xs x,SqL K H l xs/\xs[i]? =U x,λi H x H' =>∃p y,H p=J/\x= .ref p/\H' =upd H p (.tup [.int i,y])/\∀xs,SqL K H l xs->xs[i]? =U y,λi H=>∃xs,SqL K H l xs/\xs.length<=i⟩
theorem Fm{K:ak}(en it l:Yd)(xy:en≠it):Turn P w K (.Tuple elts x1 tp) (Ite K l) [en,it] en (λi h=>(∃old,IsEnum h en it i old)/\h.IsListIter it l i) where
 mem:=by simp
 obj:=λi h st b hb=>by
  obtain⟨⟨old,he⟩,o,e,c,d⟩:=st;rcases Gat.mp hb with z|z
  .simp_all
  .simp_all
 keep:=λi h h' st k=> ⟨let⟨old,he⟩:=st.1;⟨old,k en (by simp) _ he⟩,st.2.at λo e=>k it (by simp) o e⟩
 item:=by
  intro X hP hw hK hc i e8 s Z H E I hf st hg;subst hP hw hK;obtain⟨⟨old,he⟩,hit⟩:=st;obtain⟨xs,x,hq,hx⟩:=hg;obtain⟨its,rv,p,hz⟩:=I.list hq;obtain⟨u,hu,ru⟩:=rv.get hx;refine wpAny_pyNext_enum_item he hit p.isList (by simpa using hu) xy λh' ho xC hT xB kk=> ⟨_,rfl, ?_⟩;refine wpAny_letOwnedTupleGo_enum ho λh2 xQ sb=> ?_;have hltE:=GaA he;have kept:∀b o,b∉[en,it]->s.heap.get? b=U o->h2.get? b=U o:=λb o hb e=>by
   have b1:b≠en:=λz=>hb (by simp[z]);have b2:b≠it:=λz=>hb (by simp[z]);exact(sb.2 b b1).trans (kk b o b1 b2 e)
  have UE:h2.get? s.heap.objs.size=U {cls:= .type "tuple",data:= .seq #[.int i s.toks,u]}:=(sb.2 _ (GbU hltE)).trans hT;have I1:Inv X e8 Z (upd H s.heap.objs.size (.tup [.int i,x])) {s with heap:=h2,toks:=s.toks+1}:=I.qN hf rfl rfl kept (Gao _) (by
   refine⟨by simp[Gbu],[.int i s.toks,u],.cons ⟨_,rfl⟩ (.cons ru .nil),_,UE,rfl,0,rfl⟩)
  refine⟨.ref s.heap.objs.size,_,I1,rfl,⟨_,x,I.fresh,rfl,rfl,λys hy=>by rw[I.wD hy hq];exact hx⟩,⟨⟨u,by simpa using xQ⟩,xC.at λo e=>(sb.2 it (Ne.symm xy)).trans e⟩,λb hb=> ?_⟩;obtain⟨o,ob,_⟩:∃o,s.heap.get? b=U o/\True:=by
   rcases Gat.mp hb with z|z
   .subst z;exact⟨_,he,trivial⟩
   .have z' :b=it:=by simpa using z
    subst z';obtain⟨o,e,_⟩:=hit;exact⟨o,e,trivial⟩
  rw[ar (GaK (GaA ob))];exact(hf b hb).1
 done:=by
  intro X hP hw hK hc i e8 s Z H E I hf st hg;subst hP hw hK;obtain⟨⟨old,he⟩,hit⟩:=st;obtain⟨xs,hq,hx⟩:=hg;obtain⟨its,rv,p,hz⟩:=I.list hq;obtain⟨f0,f1,f2,f3,f4,f5⟩:=hf it (by simp);have hl:=rv.length;exact wpAny_pyNext_enum_end (I.ok.hd hc) he hit p.isList (by simp;lia) λh' eb=> ⟨rfl,I.turned (λb o hb e=>eb b o hb e) f0 f1 f3 f4 f5⟩
 self:=λ_ _ _ _ _ st h=>let⟨old,he⟩:=st.1;Gdt he h
def qO{A:Yj}{z:Yg}(hh:A.handled=J)(hit:z.heap.IsTupleIter it t i)(ht:z.heap.IsTuple t its)
  (hQ:∀x h',its[i]? =U x->h'.IsTupleIter it t (i+1)->Heap.SameBut it z.heap h' ->Q x {z with heap:=h' })
  (hE:∀h' e,its[i]? =J->Heap.ExtBut it z.heap h' ->(∃o,h'.get? e=U o/\o.cls= .type "StopIteration")->E (.ref e) {z with heap:=h' }):wpAny (model prog w) A (Builtin.SmallTypes.nextOf (.ref it)) Q E z:=by
 have f:FO z.heap it _ _:=hit;obtain⟨ol,X2,_,nl,Xd⟩:=ht
 wp_walk using Gbs f.ty F.slot_tuple_iterator_next,Gbd F.slot_tuple_iterator_next f.ty F.entry_tuple_iterator_next (ha:=F.args_tuple_iterator_next_1 _),jP (i:=0) (x:= .ref t) f rfl,jP (i:=1) (x:= .int i 0) f rfl,Gcr X2 Xd
 rw[show its[(i:Int).toNat]? =its[i]? by simp];cases h:its[i]? with
 |some x=>
  wp_walk using fO f
  .exactλh' k=>Gad ⟨_,rfl,Gad (hQ x h' h k.1 k.2)⟩
  .show _<2;decide
 |none=>
  wp_walk using fO f
  .exactλh1 k=>HV hh λh' a q=>hE h' a h (λb o n e=>q.1 b o (k.2.extBut b o n e)) q.2
  .show _<2;decide
theorem Fn{A:Yj}(hh:A.handled=J)(it l:Yd)(xy:l≠it)(its:Array Ye):Draws prog w A it [it,l] its.size (λi v=>its[i]? =U v) (λi h=>h.IsTupleIter it l i/\h.IsTuple l its) where
 live:=λ_ _ st=>let⟨o,ho,_⟩:=st.1;⟨o,ho⟩
 frame:=λ_ _ _ st hk=> ⟨st.1.at λo e=>hk it (by simp) o e,let⟨o,ho,r⟩:=st.2;⟨o,hk l (by simp) _ ho,r⟩⟩
 item:=λi z Q E hi st hQ=>qO hh st.1 st.2 (λx h' hx xC xM =>hQ x h' z.toks hx ⟨xC,let⟨o,ho,r⟩:=st.2;⟨o,xM.extBut _ _ xy ho,r⟩⟩ xM) λ_ _ q=>absurd hi (by simpa using q)
 done:=λz Q E st hE=>qO hh st.1 st.2 (λ_ _ q=>absurd (Gbf.mp q).1 (GbA _)) λh' e _=>hE h' e
def Si(K:ak)(l:Yd):It:=
 ⟨λi H=>∃xs x,SqT K H l xs/\xs[i]? =U x,λi H x H' =>∃p y,H p=J/\x= .ref p/\H' =upd H p (.tup [.int i,y])/\∀xs,SqT K H l xs->xs[i]? =U y,λi H=>∃xs,SqT K H l xs/\xs.length<=i⟩
theorem BG{K:ak}(en it l:Yd)(xy:en≠it)(hle:l≠en)(X7:l≠it):Turn P w K (.Tuple elts x1 tp) (Si K l) [en,it] en (λi h=>(∃old,IsEnum h en it i old)/\h.IsTupleIter it l i) where
 mem:=by simp
 obj:=λi h st b hb=>by
  obtain⟨⟨old,he⟩,o,e,c,d⟩:=st;rcases Gat.mp hb with z|z
  .subst z;exact⟨_,he,λv z=>by
    have z' :Data.fields _=Data.cell v:=z;cases z'⟩
  .have z' :b=it:=by simpa using z
   subst z';exact⟨o,e,λv z=>by rw[d] at z;cases z⟩
 keep:=λi h h' st k=> ⟨let⟨old,he⟩:=st.1;⟨old,k en (by simp) _ he⟩,st.2.at λo e=>k it (by simp) o e⟩
 item:=by
  intro X hP hw hK hc i e8 s Z H E I hf st hg;subst hP hw hK;obtain⟨⟨old,he⟩,hit⟩:=st;obtain⟨xs,x,hq,hx⟩:=hg;obtain⟨its,rv,p,hz⟩:=I.tuple hq;obtain⟨u,hu,ru⟩:=rv.get hx;have hi:i<its.toArray.size:=by
   have:=(Gak.mp hu).1
   simpa using this
  refine wpAny_pyNext_enum_itemD (Fn (A:=X.A.in1) (I.ok.hd hc) it l X7 its.toArray) he ⟨hit,p⟩ hi xy (by simp[xy,Ne.symm hle]) λu' h' tk VX ho xC hT xB kk=> ⟨_,rfl, ?_⟩;have hit1:=xC.1;have eu:u' =u:=by
   have zO:its.toArray[i]? =U u:=by simpa using hu
   rw[zO] at VX;cases VX;rfl
  subst eu;refine wpAny_letOwnedTupleGo_enum (s:={s with heap:=h',toks:=tk+1}) ho λh2 xQ sb=> ?_;have hltE:en<s.heap.objs.size:=GaA he;have kept:∀b o,b∉[en,it]->s.heap.get? b=U o->h2.get? b=U o:=λb o hb e=>by
   have b1:b≠en:=λz=>hb (by simp[z]);have b2:b≠it:=λz=>hb (by simp[z]);exact(sb.2 b b1).trans (kk b o b1 b2 e)
  have UE:h2.get? s.heap.objs.size=U {cls:= .type "tuple",data:= .seq #[.int i tk,u']}:=(sb.2 _ (GbU hltE)).trans hT;have I1:Inv X e8 Z (upd H s.heap.objs.size (.tup [.int i,x])) {s with heap:=h2,toks:=tk+1}:=I.qN (ch:=[en,it]) hf rfl rfl kept (Gao _) (by
   refine⟨by simp[Gbu],[.int i tk,u'],.cons ⟨_,rfl⟩ (.cons ru .nil),_,UE,rfl,0,rfl⟩)
  refine⟨.ref s.heap.objs.size,_,I1,rfl,⟨_,x,I.fresh,rfl,rfl,λys hy=>by rw[I.tu hy hq];exact hx⟩,⟨⟨u',by simpa using xQ⟩,hit1.at λo e=>(sb.2 it (Ne.symm xy)).trans e⟩,λb hb=> ?_⟩;obtain⟨o,ob,_⟩:∃o,s.heap.get? b=U o/\True:=by
   rcases Gat.mp hb with z|z
   .subst z;exact⟨_,he,trivial⟩
   .have z' :b=it:=by simpa using z
    subst z';obtain⟨o,e,_⟩:=hit;exact⟨o,e,trivial⟩
  rw[ar (GaK (GaA ob))];exact(hf b hb).1
 done:=by
  intro X hP hw hK hc i e8 s Z H E I hf st hg;subst hP hw hK;obtain⟨⟨old,he⟩,hit⟩:=st;obtain⟨xs,hq,hx⟩:=hg;obtain⟨its,rv,p,hz⟩:=I.tuple hq;obtain⟨f0,f1,f2,f3,f4,f5⟩:=hf it (by simp);have hl:=rv.length;have fe:FO s.heap en "enumerate" _:=⟨_,he,rfl,rfl⟩
  have pt:s.heap.IsTuple l its.toArray:=p
  wp_walk using Gbs fe.ty F.slot_enumerate_next,Gbd F.slot_enumerate_next fe.ty F.entry_enumerate_next (ha:=F.args_enumerate_next_1 _),jP (i:=2) (x:= .ref it) fe rfl,qO (A:=X.A.in1) (I.ok.hd hc) hit pt
  .exactλx h' q=>absurd (Gbf.mp q).1 (by simp;lia)
  .exactλh' e _ eb q=>Gab (vm q (Gad ⟨rfl,I.turned (t' :=s.toks) (λb o hb e=>eb b o hb e) f0 f1 f3 f4 f5⟩))
 self:=λ_ _ _ _ _ st h=>let⟨old,he⟩:=st.1;Gdt he h
def Ig{b:Bool}{Q:Bool->Yg->Prop}(h:∀b,Q b z):wpAny (model prog w) A (pure b) Q E z:=Gad (h b)
def Ai(l:Yd)(items:Array Ye):
  Meets (Builtin.«enumerate.__new__» ⟨[.type "enumerate",.ref l],[]⟩) (λ_ R s=>s.heap.IsTuple l items/\
   R (.ok (.ret (.ref (s.heap.objs.size+1)))) {s with heap:=(s.heap.push {cls:= .type "tuple_iterator",data:= .fields #[.ref l,.int 0 0]}).push {cls:= .type "enumerate",data:= .fields #[.none,.bool M,.ref s.heap.objs.size,rawInt 0,.none,.none]}}):=by
 apply Meets.of_wp;rintro prog w A R s ⟨hl,h⟩;have sub:=sub_enumerate
 wp_walk using Gdj hl,wpAny_stack_any
 intro st;refine Ig λshort=> ?_;have sz:(s.heap.push {cls:= .type "tuple_iterator",data:= .fields #[.ref l,.int 0 0]}).objs.size=s.heap.objs.size+1:=GbZ ..;rw[<-sz] at h;cases short<;>wp_walk using Gdj hl<;>exact⟨_,rfl,h⟩
def BH{z:Yg}(hL:z.heap.IsTuple l items)
  (h:∀h',IsEnum h' (z.heap.objs.size+1) z.heap.objs.size 0 .none->h'.IsTupleIter z.heap.objs.size l 0->(∀b o,z.heap.get? b=U o->h'.get? b=U o)->Q (.ref (z.heap.objs.size+1)) {z with heap:=h' }):
  wpAny (model prog w) A (call (.type "enumerate") [.ref l]) Q E z:=by
 have sz:(z.heap.push {cls:= .type "tuple_iterator",data:= .fields #[.ref l,.int 0 0]}).objs.size=z.heap.objs.size+1:=GbZ ..;have en:IsEnum ((z.heap.push {cls:= .type "tuple_iterator",data:= .fields #[.ref l,.int 0 0]}).push {cls:= .type "enumerate",data:= .fields #[.none,.bool M,.ref z.heap.objs.size,rawInt 0,.none,.none]}) (z.heap.objs.size+1) z.heap.objs.size 0 .none:=sz▸Gay _ rfl;exact callType_new F.called_enumerate (by decide) (F.typeCall_enumerate_1 _) (F.newCall_enumerate_1 _) (λ_=>F.args_object_init_2 _ _) F.entry_enumerate_new (Ai l items) ⟨hL,⟨_,en,rfl⟩,h _ en ⟨_,Gag _ (Gay _ rfl),rfl,rfl⟩ λb o q=>Gag _ (Gag _ q)⟩
def Sj(K:ak)(tl:TA):TI:=λZ H R=>tl Z H λvs H1=>∃l,vs=[.ref l]/\(((∃xs,SqL K H1 l xs)/\R (Ite K l) H1)\/((∃xs,SqT K H1 l xs)/\R (Si K l) H1))
def Le(hg:Gl X "enumerate")(hm:X.mg "enumerate"=J)(ha:PA X [a] ta)(hs:autoParam (starEach [a] X.env=[(M,eval a X.env)]) Za1._auto_1):PI X (.Tuple elts x1 tp) (.Call (.Name "enumerate" p) [a] [] pos) (Sj X.K ta):=by
 intro e8 s Z H R I h;refine Call_ (kb I hg hm vf (GbI (thn (ha pos e8 s Z H _ I h) λus s1 ⟨vs,H1,I1,r1,q1⟩=> ?_) hs rfl));obtain⟨l,e,q1⟩:=q1;subst e;cases r1 with
 |cons r rr=>
  cases rr;cases r;have Wk:∀b∈[s1.heap.objs.size+1,s1.heap.objs.size],lV X e8 H1 b:=λb hb=>by
   rcases Gat.mp hb with z|z
   .subst z;exact I1.Es (GbR _) (I1.hok.fresh (GbR _))
   .have z' :b=s1.heap.objs.size:=by simpa using z
    subst z';exact I1.Es (Gao _) (I1.hok.fresh (Gao _))
  rcases q1 with⟨⟨xs,hq⟩,q⟩| ⟨⟨xs,hq⟩,q⟩
  .obtain⟨its,rv,pl,hz⟩:=I1.list hq;refine call_enumerate_list pl.isList λh' he hit xB kk=> ?_;refine Gdt he ?_;exact⟨s1.heap.objs.size+1,[s1.heap.objs.size+1,s1.heap.objs.size],_,_,H1,rfl,I1.kept kk,Fm _ _ l (Nat.succ_ne_self _),⟨⟨.none,he⟩,hit⟩,Wk,q⟩
  .obtain⟨its,rv,pl,hz⟩:=I1.tuple hq;have eX:=pl.lt;refine BH (show s1.heap.IsTuple l its.toArray from pl) λh' he hit kk=> ?_;refine Gdt he ?_;exact⟨s1.heap.objs.size+1,[s1.heap.objs.size+1,s1.heap.objs.size],_,_,H1,rfl,I1.kept kk,BG _ _ l (Nat.succ_ne_self _) (GaK (GbY eX)) (GaK eX),⟨⟨.none,he⟩,hit⟩,Wk,q⟩
def Lf(hg:Gl X "enumerate")(hm:X.mg "enumerate"=J)(he:PEd X e f)(hs:autoParam (starEach [e] X.env=[(M,eval e X.env)]) Za1._auto_1):PId X (.Tuple elts x1 tp) (.Call (.Name "enumerate" p) [e] [] pos) (ub f):=by
 refine(Le hg hm (cL he gI hs) hs).aJ ?_;rintro Z H R ⟨H0,eC,env,ds,E,hf,k⟩;obtain⟨⟨kd,d⟩,hr,hf⟩:=eh hf;split at hf
 .cases hf
 rename_i hk;split at hf
 .rename_i xs hd;have xb :=hd;subst xb;cases hf;refine⟨H0,eC,env,[⟨kd,.lst xs⟩],E,by unfold aa ag;rw[hr];rfl,λvs H1 s1 Rs=> ?_⟩;cases Rs with
  |cons Rv tl=>
   cases tl;have ii:=Rv.inn;have hno:=CU E rfl hk Rv;have E1:=E.mono s1;cases ii with
   | @lst la lv _ h r=>
    refine⟨_,rfl,.inl ⟨⟨_,.inl h⟩,k _ H1 s1 λHi keep=> ?_⟩⟩;have hh:Rd Hi la (.lst lv):=by
     rcases h with h| ⟨o,h⟩
     .exact .inl (keep _ _ h (hno _ rfl))
     .exact .inr ⟨o,keep _ _ h (hno _ rfl)⟩
    refine⟨λi d hd=> ?_,⟨_,.inl hh,by rw[gW,r.1];exact Gao _⟩⟩;rw[gX] at hd;obtain⟨y,hy,rfl⟩:=Gaa.mp hd;obtain⟨v,h1,h2⟩:=r.get hy;refine⟨⟨_,v,.inl hh,h1⟩,λz H2 ⟨p,w,hp,ez,eH,ew⟩=> ?_⟩;subst ez eH;have:=ew _ (.inl hh);rw[h1] at this;cases this;refine⟨aX hp, ?_⟩;have rp:=E1.kN keep h2;rw[show(((0+i:Nat)):Int)=(i:Int) by simp];exact fw hp (.cons (.int _) (.cons rp .nil))
 .rename_i xs hd;have xb :=hd;subst xb;cases hf;refine⟨H0,eC,env,[⟨kd,.tup xs⟩],E,by unfold aa ag;rw[hr];rfl,λvs H1 s1 Rs=> ?_⟩;cases Rs with
  |cons Rv tl=>
   cases tl;have ii:=Rv.inn;have E1:=E.mono s1;cases ii with
   | @tup la lv _ h r=>
    refine⟨_,rfl,.inr ⟨⟨_,SqT.of h⟩,k _ H1 s1 λHi keep=> ?_⟩⟩;have hh:=keep _ _ h λw=>E1.fB w h trivial;refine⟨λi d hd=> ?_,⟨_,SqT.of hh,by rw[gW,r.1];exact Gao _⟩⟩;rw[gX] at hd;obtain⟨y,hy,rfl⟩:=Gaa.mp hd;obtain⟨v,h1,h2⟩:=r.get hy;refine⟨⟨_,v,SqT.of hh,h1⟩,λz H2 ⟨p,w,hp,ez,eH,ew⟩=> ?_⟩;subst ez eH;have:=ew _ (SqT.of hh);rw[h1] at this;cases this;refine⟨aX hp, ?_⟩;have rp:=E1.kN keep h2;rw[show(((0+i:Nat)):Int)=(i:Int) by simp];exact fw hp (.cons (.int _) (.cons rp .nil))
 .cases hf
end
section
variable{a b:Yh}
def Lg{K:ak}(n:Nat)(p:aM n d=O)(q:aM n d' =O)(r:Rep K F H d v)(t:Rep K F H d' v):d=d' :=ve n p q r t
noncomputable def Sk:Ye->V
 | .bool b=> .bl b
 | .int i _=> .int i
 | .str x _=> .str x
 | .ref a=> .ref a
 | .type n=> .ty n
 |_=> .non
def Aj(h:XO v u):Sk u=v:=by
 cases v<;>first|(obtain⟨t,rfl⟩:=h;rfl)|(have h' :=h;unfold XO at h';subst h';rfl)
def Ih(h:XO v u)(h' :XO v' u):v=v' :=(Aj h).symm.trans (Aj h')
def Ak(K:ak)(neg:Bool):R2:=λx y H Q=>∃p xs dx ds,y= .ref p/\(SqL K H p xs\/SqT K H p xs)/\aM 10 dx=O/\ds.all (aM 10)=O/\Rep K (λ_=>True) H dx x/\aO K (λ_=>True) H ds xs/\Q (.bl (if neg then !ds.any (λy=>eqD y dx) else ds.any (λy=>eqD y dx))) H
variable{X:Cx}
def n8{Z:L2.St}{its:List Ye}{ds:List D}(I:Inv X e8 Z H z)(hu:X.A.units+20<cLine)(r:XQ xs its)(hx:aM 10 dx=O)(hs:ds.all (aM 10)=O)
  (rx:Rep X.K (λ_=>True) H dx x)(rs:aO X.K (λ_=>True) H ds xs)(rv:XO x v):∃ev,(∀w∈its,SeqAt.EqAt X.A.in1 z w v (ev w))/\its.any ev=ds.any λy=>eqD y dx:=by
 classical
 have hll:=r.length;have tri:∀(i:Nat) (w:Ye),its[i]? =U w->∃d u,ds[i]? =U d/\xs[i]? =U u/\XO u w/\Rep X.K (λ_=>True) H d u/\aM 10 d=O:=λi w hw=>by
  have hi:i<its.length:=(Gak.mp hw).1;have hd:ds[i]? =U (ds[i]'(by rw[rs.1,hll];exact hi)):=Gac _;obtain⟨u,hu1,zO⟩:=rs.get hd;obtain⟨w',VU,WN⟩:=r.get hu1;rw[hw] at VU;cases VU
  exact⟨_,u,hd,hu1,WN,zO,Gaq.mp hs _ (Gau hd)⟩
 refine⟨λw=>decide (∃(i:Nat) (d:D),its[i]? =U w/\ds[i]? =U d/\eqD d dx=O),λw hw=> ?_, ?_⟩
 .obtain⟨i,hi⟩:=Gco hw;obtain⟨d,u,h1,h2,h3,h4,h5⟩:=tri i w hi;have key:decide (∃(i:Nat) (d:D),its[i]? =U w/\ds[i]? =U d/\eqD d dx=O)=eqD d dx:=by
   cases q:eqD d dx with
   |true=>exact GaD ⟨i,d,hi,h1,q⟩
   |false=>
    refine GaE ?_;rintro⟨j,d',g1,g2,g3⟩;obtain⟨d2,u2,k1,k2,k3,k4,k5⟩:=tri j w g1;rw[g2] at k1;cases k1
    have eu:=Ih h3 k3;subst eu;rw[Lg 10 h5 k5 h4 k4] at q;rw[q] at g3;cases g3
  show SeqAt.EqAt X.A.in1 z w v (decide _);rw[key];exact qG I 10 h5 hx h4 rx h3 rv (by show X.A.units+1+10<_;lia)
 .rw[GdL,Gca,Gca];constructor
  .rintro⟨w,hw,e⟩;obtain⟨i,d,_,h2,h3⟩:=Gar e;exact⟨d,Gau h2,h3⟩
  .rintro⟨d,hd,e⟩;obtain⟨i,hi⟩:=Gco hd;have hl:i<its.length:=by rw[<-hll,<-rs.1];exact(Gak.mp hi).1
   exact⟨its[i],GaB hl,GaD ⟨i,d,Gac hl,hi,e⟩⟩
def OZ(hu:X.A.units+20<cLine):OpR X (compareOp .In) (Ak X.K M):=by
 intro e8 z Z H x y v u Q I rx ry h;obtain⟨p,xs,dx,ds,rfl,hq,fx,fs,r1,r2,q⟩:=h;cases ry;rcases hq with hq|hq
 .obtain⟨its,r,pl,hz⟩:=I.list hq;obtain⟨ev,e1,e2⟩:=n8 I hu r fx fs r1 r2 rx;refine SeqAt.in_listAt ev pl.isList (λw hw=>e1 w (by simpa using hw)) ⟨.bl _,H,I,rfl, ?_⟩;simp_all
 .obtain⟨its,r,pl,hz⟩:=I.tuple hq;obtain⟨ev,e1,e2⟩:=n8 I hu r fx fs r1 r2 rx;refine SeqAt.in_tupleAt ev pl (λw hw=>e1 w (by simpa using hw)) ⟨.bl _,H,I,rfl, ?_⟩;simp_all
def Lh(hu:X.A.units+20<cLine):OpR X (compareOp .NotIn) (Ak X.K O):=by
 intro e8 z Z H x y v u Q I rx ry h;obtain⟨p,xs,dx,ds,rfl,hq,fx,fs,r1,r2,q⟩:=h;cases ry;rcases hq with hq|hq
 .obtain⟨its,r,pl,hz⟩:=I.list hq;obtain⟨ev,e1,e2⟩:=n8 I hu r fx fs r1 r2 rx;refine SeqAt.notIn_listAt ev pl.isList (λw hw=>e1 w (by simpa using hw)) ⟨.bl _,H,I,rfl, ?_⟩;simp_all
 .obtain⟨its,r,pl,hz⟩:=I.tuple hq;obtain⟨ev,e1,e2⟩:=n8 I hu r fx fs r1 r2 rx;refine SeqAt.notIn_tupleAt ev pl (λw hw=>e1 w (by simpa using hw)) ⟨.bl _,H,I,rfl, ?_⟩;simp_all
def P0(hu:X.A.units+20<cLine):OpR X (compareOp .In) (Ak X.K M):=OZ hu
def Li(hu:X.A.units+20<cLine):OpR X (compareOp .NotIn) (Ak X.K O):=Lh hu
def Dc{b:Bool}(ix:Inn X.K F H dx x)(iy:Inn X.K F H dy y)(e:inB dx dy=U b)(q:Q (.bl (if neg then !b else b)) H):Ak X.K neg x y H Q:=by
 have seq:∀{ds:List D} {p:Yd} {vs:List V},y= .ref p->(SqL X.K H p vs\/SqT X.K H p vs)->aO X.K F H ds vs->oY dx ds=U b->Ak X.K neg x y H Q:=λ{ds p vs} ey hs r hb=>by
  unfold oY at hb;split at hb
  .rename_i c;rw[Gai] at c;cases hb;exact⟨p,vs,dx,ds,ey,hs,c.1,c.2,ix.any,⟨r.1,λi d v e1 e2=>(r.2 i d v e1 e2).inn.any⟩,q⟩
  .cases hb
 unfold inB at e;split at e
 .cases iy with
  |lst h r=>exact seq rfl (.inl (.inl h)) r e
 .cases iy with
  |tup h r=>exact seq rfl (.inr (SqT.of h)) r e
 .cases e
def Pa:OpB X inB (Ak X.K M):=λF H dx dy x y b Q ix iy e q=>Dc ix iy e q
def Lj:OpB X A8 (Ak X.K O):=λF H dx dy x y b Q ix iy e q=>by
 obtain⟨b',e',rfl⟩:=Gaa.mp e;exact Dc ix iy e' q
end
namespace Fr
end Fr
def Fo:CallD X A9 (λxs H Q=>(∃i,xs=[.int i]/\Q (.int i) H)\/∃k,xs=[.bl k]/\Q (.int (if k then 1 else 0)) H):=by
 intro F H ds vs rv Q ps e k;unfold A9 at e;split at e
 .cases e;obtain⟨v,rfl,i⟩:=ff ps;cases i;exact .inl ⟨_,rfl,k _ H bG (.int _)⟩
 .cases e;obtain⟨v,rfl,i⟩:=ff ps;cases i;exact .inr ⟨_,rfl,k _ H bG (.int _)⟩
 .cases e
def Ij(r:XQ xs its)(hx:XO x u)(j:Int):XQ (iA xs j x) (PySem.W.kl_ins its j u):=by
 have hl:=r.length;unfold iA PySem.W.kl_ins;rw[hl];have tk:∀{xs:List V} {its:List Ye} (r:XQ xs its) (n:Nat),XQ (xs.take n) (its.take n):=by
  intro xs its r;induction r with
  |nil=>intro n;simp;exact .nil
  |cons h t ih=>intro n;cases n with
   |zero=>exact .nil
   |succ n=>exact .cons h (ih n)
 have dr:∀{xs:List V} {its:List Ye} (r:XQ xs its) (n:Nat),XQ (xs.drop n) (its.drop n):=by
  intro xs its r;induction r with
  |nil=>intro n;simp;exact .nil
  |cons h t ih=>intro n;cases n with
   |zero=>exact .cons h t
   |succ n=>exact ih n
 exact(tk r _).append (.cons hx (dr r _))
def Lk:V->List V->Hp->VK->Prop:=λx vs H Q=>∃l xs j y,x= .ref l/\vs=[.int j,y]/\H l=U (.lst xs)/\xs.length<sizeLine/\-(2^62)<=j/\j<2^62/\Q .non (upd H l (.lst (iA xs j y)))
def Fp:MtM X "list.insert" Lk:=by
 intro e8 z Z H x vs v us Q I rx rv h;obtain⟨l,xs,j,y,rfl,rfl,hH,hz,h1,h2,q⟩:=h;cases rx;cases rv with
 |cons r1 t1=>
  cases t1 with
  |cons r2 t2=>
   cases t2;obtain⟨t,rfl⟩:=r1;rename_i u;obtain⟨_,its,n,r,hl,e⟩:=I.Kr hH;have hfit:Builtin.List.listFitsIndex j=O:=by simp[Builtin.List.listFitsIndex];lia
   refine call_meets F.slot_list_insert ⟨_,e,rfl⟩ F.entry_list_insert (F.args_list_insert_3 _ _ _) (PySem.AutoSeq1.list_insert_list_int_val_1 l its.toArray n j t u (by simp[hfit]) (by rw[Gaw];lia)) ⟨e, ?_⟩;refine⟨.non,_,I.NP (its' :=PySem.W.kl_ins its j u) hH e ?_ (Ij r r2 j) ?_,rfl,q⟩
   .rw[PySem.W.kl_ins_eq]
    rfl
   .rw[uc];lia
def Fq{X:Cx}{pos apos eE:Pos}(hN:X.N[i]? =U x)(hv:Vis X.env.scope x)(he:PEd X e f)(ha:PEd X a g)(hd:autoParam ((x==("__debug__":Str))=M) Za2._auto_1)(xn:autoParam ((x==("__classdict__":Str))=M) Za2._auto_1)
  (hX:autoParam (starEach [e,a] X.env=(M,eval e X.env)::starEach [a] X.env) Za1._auto_1)(xc:autoParam (starEach [a] X.env=[(M,eval a X.env)]) Za1._auto_1)
  (eW:autoParam (attributeBase (.Name x px) "insert" X.env (eval (.Name x px) X.env)=eval (.Name x px) X.env) Za1._auto_1)
  (xD:((backTo eE (starEach [e,a] X.env)).all (λx=> !x.1)&&(backToKw eE (keywordEach [] X.env)).all (λx=>x.1.isSome)
   &&decide (([e,a]:List Yh).length+([]:List Keyword).length+(if([]:List Keyword).isEmpty then 0 else 1)<30))=O:=by rfl)
  (eV:autoParam ((apos.endLine==eE.line)=O) Za1._auto_1)(hs:autoParam (swapsWith (.Call (.Attribute (.Name x px) "insert" apos) [e,a] [] eE) J pos.line X.env=pure M) Za1._auto_1):
  PSd X (.Expr (.Call (.Attribute (.Name x px) "insert" apos) [e,a] [] eE) pos) (OV i f g):=by
 refine(pS (CF GcA PySem.F.slot_list_insert PySem.F.type_list_insert Fp (ka hN hv hd xn) (cL he (cL ha gI xc) hX) eW xD eV hX (by rw[xc];rfl)) hs).aJ ?_;rintro D Z H ⟨H0,eC,env,o,E,e,k⟩;obtain⟨r,hr,e⟩:=eh e;obtain⟨r2,WX,e⟩:=eh e;obtain⟨d,hd,e⟩:=eh e;have q:=n4 hd;obtain⟨kd,rd⟩:=r;split at e
 .rename_i xs j hj;have hj' :=hj;split at e
  .rename_i z;rw[Gai,Gai] at z;obtain⟨z1,z2,z3⟩:=z;cases e;subst hj';obtain⟨a,h1,h2,h3,h4,h5,h6⟩:=E.ow i _ (.inl q);obtain⟨vs,hH,rp⟩:=kO h4 h6;refine⟨_,h1,.inl ⟨rfl,vs,.inl (.inl hH)⟩,H0,eC,env,[⟨kd,.int j⟩,r2],E,by unfold aa ag;rw[hr,WX];rfl,λws H2 s2 Rs=> ?_⟩;cases Rs with
   | @cons _ v _ _ R1 tl=>
    cases tl with
    | @cons _ v2 _ _ R2 tl=>
    cases tl;have i1:=R1.inn;cases i1;have yn:=s2 _ _ hH;have sj:=fC z3;refine⟨a,vs,j,v2,rfl,rfl,yn,by rw[<-rp.1];exact Gar z2,sj.1,sj.2, ?_⟩;have E2:=E.mono s2;have rep1:=R2.rep E z1;have rp1:=rp.gen (.XY s2) λ_ f _=>f;have rp2:aO X.K (Cln eC env Z) H2 (iA xs j r2.d) (iA vs j v2):=by
     unfold iA;rw[<-rp1.1];exact(rp1.take _).append (.cons rep1 (rp1.drop _))
    obtain⟨E3,p3⟩:=E2.change (o:= .lst (iA vs j v2)) q h1 trivial rfl (.lst (.inl aF) (rp2.gen (λb o hb w=>by
     have:b≠a:=by
      rintro rfl;rcases w with w|w
      .exact w.2 i (by rw[q];trivial) h1
      .rw[yn] at hb;cases hb;exact w
     rw[ar this];exact hb) λ_ f _=>f))
    exact k Z _ E3 ((Stp.XY s2).trans p3)
  .cases e
 .cases e
theorem qP:∀{xs:List α} {ys:List β},xs.length=ys.length->(∀(i:Nat) x y,xs[i]? =U x->ys[i]? =U y->F x y)->Paired F xs ys
 |[],[],_,_=> .nil
 |[],_::_,h,_=>by cases h
 |_::_,[],h,_=>by cases h
 |x::xs,y::ys,h,g=> .cons (g 0 x y rfl rfl) (qP (by simpa using h) λi a b ha hb=>g (i+1) a b (by simpa using ha) (by simpa using hb))
def Sl(ta:TA):TE:=λZ H Q=>ta Z H λvs H1=>∃j:Int,vs=[.int j]/\∀p,H1 p=J->Q (.ref p) (upd H1 p (.rng 0 j))
def Fs{X:Cx}(hg:Gl X "range")(hm:X.mg "range"=J)(ha:PA X [a] ta)(hs:autoParam (starEach [a] X.env=[(M,eval a X.env)]) Za1._auto_1):PE X (.Call (.Name "range" p) [a] [] pos) (Sl ta):=by
 intro e8 z Z H Q I h;refine Call_ (kb I hg hm boot_range (GbI (thn (ha pos e8 z Z H _ I h) λus s1 ⟨vs,H1,I1,r1,q1⟩=> ?_) hs rfl));obtain⟨j,e,q⟩:=q1;subst e;cases r1 with
 |cons r rr=>
  cases rr;obtain⟨t,rfl⟩:=r;refine call_range_1 ?_;exact⟨.ref s1.heap.objs.size,_,I1.laid (o:= .rng 0 j) (λb o e=>Gag _ e) (Gao _) ⟨_,_,_,Gay _ rfl⟩,rfl,q _ I1.fresh⟩
def sS{X:Cx}(hc:X.calm=O):fL X (.type "list") (λxs H Q=>∃p j,xs=[.ref p]/\H p=U (.rng 0 j)/\j<=sizeLine/\-(2^62)<=j/\∀l,H l=J->Q (.ref l) (upd H l (.lst ((List.range j.toNat).map λ(k:Nat)=>V.int ((0:Int)+(k:Int)))))):=by
 intro e8 z Z H xs us Q I r h;obtain⟨p,j,rfl,hp,hj,zT,q⟩:=h;obtain⟨u,rfl,rx⟩:=vals1 r;cases rx;obtain⟨t,u,v,ho⟩:=(show cI X.prog X.w H z.heap p (.rng 0 j) from I.hok p _ hp)
 have hsl:=Gbu;have hn:Builtin.Range.rangeSize 0 j 1=(j.toNat:Int):=by rw[rangeSize_one];split<;>lia
 refine call_list_range (I.ok.hd hc) ho (small_one (by lia) (by lia) (by lia) (by lia)) hn (by lia) λh' tk xX c' hk hS yf=> ?_;refine⟨.ref z.heap.objs.size,_,I.laid (o:= .lst ((List.range j.toNat).map λ(k:Nat)=>V.int ((0:Int)+(k:Int)))) hk (Gao _) ⟨by simp;lia,xX.toList,c', ?_,by simpa using hS⟩,rfl,q _ I.fresh⟩;refine qP (by simp[yf.1]) λi x y hx hy=> ?_;rw[Gap] at hx;have hi:i<j.toNat:=by
  rcases Gbh i j.toNat with h|h
  .exact h
  .simp_all
 rw[GdT hi] at hx;cases hx;obtain⟨t,rfl⟩:=yf.2 i y (by simpa using hy);exact⟨t,by simp⟩
theorem qQ{K:ak}{α:Type}{dd:α->D}{vv:α->V}(h:∀n,Rep K F H (dd n) (vv n)):∀{l:List α},aO K F H (l.map dd) (l.map vv)
 |[]=> .nil
 |x::l=> .cons (h x) (qQ h)
def Ft{X:Cx}(hc:X.calm=O)(hg:Gl X "list")(hm:X.mg "list"=J)(yA:Gl X "range")(zi:X.mg "range"=J)(he:PEd X e f)(hs:autoParam (starEach [e] X.env=[(M,eval e X.env)]) Za1._auto_1)
  (xc:autoParam (starEach [.Call (.Name "range" p2) [e] [] pos2] X.env=[(M,eval (.Call (.Name "range" p2) [e] [] pos2) X.env)]) Za1._auto_1):
  PEd X (.Call (.Name "list" p) [.Call (.Name "range" p2) [e] [] pos2] [] pos) (HX f):=by
 refine(nV (sS hc) hg hm CY (kL (Fs yA zi (cL he gI hs) hs) nU xc) (by decide) (by decide) xc rfl).aJ ?_;rintro Z H Q ⟨H0,eC,env,rv,E,e,k⟩;obtain⟨r,hr,e⟩:=eh e;split at e
 .rename_i j hd;split at e
  .rename_i hz;cases e;refine⟨H0,eC,env,[r],E,by unfold aa ag;rw[hr];rfl,λvs H1 s1 Rs=> ?_⟩;cases Rs with
   |cons R1 t=>
    cases t;have i:=R1.inn;rw[hd] at i;cases i;refine⟨j,rfl,λp hp=> ?_⟩;refine⟨p,j,rfl,aF,by rw[<-eQ];exact hz.1,by lia,λl hl=> ?_⟩;have s12:=s1.trans (aX (o:=HO.rng 0 j) hp);exact k _ _ (s12.trans (aX hl)) ⟨l,rfl,s12.free hl,o6,rfl,fA hl (qQ λn=> .int _)⟩
  .cases e
 .cases e
def Fu:lh X b Hj:=by
 rintro e8 z Z H D I ⟨H0,eC,env,o,E,e,k⟩;cases e
def Sm(prog:Yn)(w:World)(A:Yj)(op:CmpOp)(G:Yg->Prop)(P:Nat->Ye->Prop)(bt:Nat->Nat->Bool):Prop:=
 ∀i j vi vj (z:Yg) (Q:VSP) (E:VSP),G z->P i vi->P j vj->Q (.bool (bt i j)) z->wpAny (model prog w) A (richCompare op vi vj) Q E z
def mmO(mx:Bool):CmpOp:=bif mx then .Gt else .Lt
def mmN(mx:Bool):String:=bif mx then "max.loop" else "min.loop"
noncomputable def jB:Option Ye->Array Ye
 |none=>#[]
 |some v=>#[v,v]
section
variable{prog:Yn}{w:World}{A:Yj}{I:Yd}
def vD{z:Yg}(e:A6 z.heap B (jB old))(h:∀h',A6 h' B (jB v)->(∀b o,b≠B->z.heap.get? b=U o->h'.get? b=U o)->Q () {z with heap:=h' }):
  wpAny (model prog w) A (updateSeq B λ_=>jB v) Q E z:=by
 obtain⟨c,e⟩:=e;have l1:(jB old).size<=2:=by cases old<;>simp[jB]
 have l2:(jB v).size<=2:=by cases v<;>simp[jB]
 have:=Gbu;refine wpAny_updateSeq e rfl (h _ ⟨_,Gbg _ e rfl⟩ λb o n q=> ?_) (by lia) (by lia);rw[Gce _ _ (Ne.symm n),q]
def Dd{z:Yg}(mx:Bool)
  (h:wpAny (model prog w) A.in1 (pyNext (.ref I)) (λr s' =>A6 s'.heap B (jB old)/\match r,old with
   |none,U v=>∀h',(∀b o,b≠B->s'.heap.get? b=U o->h'.get? b=U o)->R (.ok (.ret v)) {s' with heap:=h' }
   |none,J=>∃k d t,kw=(k,d)::t/\R (.ok (.ret d)) s'
   |some x,U v=>∃bt:Bool,(∀Q E,Q (.bool bt) s' ->wpAny (model prog w) A.in1 (richCompare (mmO mx) x v) Q E s')/\∀h',A6 h' B (jB (U (if bt then x else v)))->(∀b o,b≠B->s'.heap.get? b=U o->h'.get? b=U o)->codeAny (model prog w) A (.builtin (mmN mx) ⟨[.ref I,.none,.ref B],kw⟩) R {s' with heap:=h' }
   |some x,J=>∀h',A6 h' B (jB (U x))->(∀b o,b≠B->s'.heap.get? b=U o->h'.get? b=U o)->codeAny (model prog w) A (.builtin (mmN mx) ⟨[.ref I,.none,.ref B],kw⟩) R {s' with heap:=h' }) (λ_ _=>False) z)(hB:A6 z.heap B (jB old)):
  codeAny (model prog w) A (.builtin (mmN mx) ⟨[.ref I,.none,.ref B],kw⟩) R z:=by
 obtain⟨c,e⟩:=id hB;have quiet:Code.quiet (.builtin (mmN mx) ⟨[.ref I,.none,.ref B],kw⟩)=O:=by cases mx<;>exact Gdz (by decide+kernel) _
 cases mx
 all_goals
  first
  |(apply GbW F.entry_min_loop;rw[Around.under_plainId F.plain_min_loop])
  |(apply GbW F.entry_max_loop;rw[Around.under_plainId F.plain_max_loop])
  refine Gab (Gcr e rfl (Gab (wpAny_tryCatch (Gcc h (λr s' q=> ?_) λ_ _ q=>q.elim))));obtain⟨e',q⟩:=q;rcases r with _|x<;>rcases old with _|v
  .obtain⟨k,d,t,rfl,q⟩:=q;exact Gab (wpAny_rule (Gad q))
  .exact Gab (vD (v:=J) e' λh' _ k=>Gab (wpAny_letGo (Gad (q h' k))))
  .exact Gab (Gad (Gab (vD (v:=U x) e' λh' l k=>Gad ⟨quiet,q h' l k⟩)))
  .obtain⟨bt,q1,q2⟩:=q;refine Gab (Gad (Gab (wpAny_tryCatch (GbM (Gab (q1 _ _ (Gab (GbM (Gbv (Gab (wpAny_letGo (Gad ?_))))))))))));cases bt
   .exact Gab (wpAny_letGo (Gad ⟨quiet,q2 _ e' λ_ _ _ k=>k⟩))
   .exact Gab (vD (v:=U x) e' λh' l k=>Gab (wpAny_letGo (Gad ⟨quiet,q2 h' l k⟩)))
variable{fp wr:List Yd}{n:Nat}{P:Nat->Ye->Prop}{St:Nat->Yi->Prop}{G:Yg->Prop}
theorem De{z:Yg}(mx:Bool)(W:Walks prog w A.in1 I fp wr n P St)(bt:Nat->Nat->Bool)(zY:Sm prog w A.in1 (mmO mx) G P bt)(hf:B∉fp)
  (hG:∀h' tk,(∀b o,b∉wr->b≠B->z.heap.get? b=U o->h'.get? b=U o)->G {z with heap:=h',toks:=tk})
  (hE:n=0->∃k d t,kw=(k,d)::t/\∀h' tk,(∀b o,b∉wr->b≠B->z.heap.get? b=U o->h'.get? b=U o)->R (.ok (.ret d)) {z with heap:=h',toks:=tk})
  (hR:0<n->∀v h' tk,P (argBest bt (n -1)) v->(∀b o,b∉wr->b≠B->z.heap.get? b=U o->h'.get? b=U o)->R (.ok (.ret v)) {z with heap:=h',toks:=tk}):
  ∀k i old h tk,i+k=n->St i h->A6 h B (jB old)->(∀b o,b∉wr->b≠B->z.heap.get? b=U o->h.get? b=U o)->(match old with|none=>i=0|some v=>0<i/\P (argBest bt (i -1)) v)->
   codeAny (model prog w) A (.builtin (mmN mx) ⟨[.ref I,.none,.ref B],kw⟩) R {z with heap:=h,toks:=tk}
 |0,i,old,h,tk,hk,st,l,kp,ho=>by
  cases hk;refine Dd mx (W.done {z with heap:=h,toks:=tk} _ _ st λh' yh k=> ⟨let⟨c,e⟩:=l;⟨c,k B _ (λm=>hf (W.sub _ m)) e⟩, ?_⟩) l;have kp' :=λb o q1 q2 q=>k b o q1 (kp b o q1 q2 q);cases old with
  |none=>
   obtain⟨a,d,t,q1,q2⟩:=hE ho;exact⟨a,d,t,q1,q2 h' yh kp'⟩
  |some v=>exactλh2 k2=>hR ho.1 v h2 yh ho.2 λb o q1 q2 q=>k2 b o q2 (kp' b o q1 q2 q)
 |k+1,i,old,h,tk,hk,st,l,kp,ho=>by
  refine Dd mx (W.item i {z with heap:=h,toks:=tk} _ _ (by lia) st λx h' yh hP xH k' => ⟨let⟨c,e⟩:=l;⟨c,k' B _ (λm=>hf (W.sub _ m)) e⟩, ?_⟩) l;have kp' :=λb o q1 q2 q=>k' b o q1 (kp b o q1 q2 q);have go:∀v h2,A6 h2 B (jB (U v))->(∀b o,b≠B->h'.get? b=U o->h2.get? b=U o)->P (argBest bt i) v->codeAny (model prog w) A (.builtin (mmN mx) ⟨[.ref I,.none,.ref B],kw⟩) R {z with heap:=h2,toks:=yh }:=λv h2 l2 k2 hv=>
   De mx W bt zY hf hG hE hR k (i+1) (U v) h2 yh (by lia) (W.frame _ _ _ xH λb m o q=>k2 b o (λe=>hf (e▸m)) q) l2 (λb o q1 q2 q=>k2 b o q2 (kp' b o q1 q2 q)) ⟨Gcu _,hv⟩
  cases old with
  |none=>
   cases ho
   exactλh2 l2 k2=>go x h2 l2 k2 hP
  |some v=>
   obtain⟨pos,hv⟩:=ho;obtain⟨j,rfl⟩:∃j,i=j+1:=⟨i -1,by lia⟩
   refine⟨bt (j+1) (argBest bt j),λQ E q=>zY _ _ x v _ Q E (hG h' yh kp') hP hv q,λh2 l2 k2=>go _ h2 l2 k2 ?_⟩;show P (if bt (j+1) (argBest bt j)=O then j+1 else argBest bt j) _;split
   .exact hP
   .exact hv
def BI(a d:Ye):argsOk "min" ⟨[a],[(Str.ofString "default",d)]⟩:=by unfold argsOk;kernel_rfl
def BJ(a d:Ye):argsOk "max" ⟨[a],[(Str.ofString "default",d)]⟩:=by unfold argsOk;kernel_rfl
def mmF(mx:Bool):String:=bif mx then "max" else "min"
abbrev MMs(prog:Yn)(w:World)(A:Yj)(mx:Bool)(od:Option Ye)(Q:VSP)(it:Ye)(s₂:Yg):Prop:=∃I fp wr n P St bt G,it= .ref I/\Walks prog w A.in1 I fp wr n P St/\St 0 s₂.heap/\(∀b∈fp,b<s₂.heap.objs.size)/\Sm prog w A.in1 (mmO mx) G P bt/\
 (∀h' tk,(∀b o,b∉wr->s₂.heap.get? b=U o->h'.get? b=U o)->G {s₂ with heap:=h',toks:=tk})/\(n=0->∃d,od=U d/\∀h' tk,(∀b o,b∉wr->s₂.heap.get? b=U o->h'.get? b=U o)->Q d {s₂ with heap:=h',toks:=tk})/\
 (0<n->∀v h' tk,P (argBest bt (n -1)) v->(∀b o,b∉wr->s₂.heap.get? b=U o->h'.get? b=U o)->Q v {s₂ with heap:=h',toks:=tk})
def n9{E Q:VSP}{it:Ye}{s₂:Yg}(mx:Bool)(od:Option Ye)(q:MMs prog w A mx od Q it s₂):codeAny (model prog w) A (.builtin (mmN mx) ⟨[it,.none,.ref s₂.heap.objs.size],od.toList.map λd=>(Str.ofString "default",d)⟩) (λr s' =>match r with| .ok (.ret v)=>Q v s' | .ok _=>False| .error e=>E e s') {s₂ with heap:=s₂.heap.push {cls:= .type "list",data:= .seq #[]}}:=by
 obtain⟨I,fp,wr,n,P,St,bt,G,rfl,W,st,lt,hc,hG,h0,hv⟩:=q;have up:∀{h' :Yi},(∀b o,b∉wr->b≠s₂.heap.objs.size->s₂.heap.get? b=U o->h'.get? b=U o)->∀b o,b∉wr->s₂.heap.get? b=U o->h'.get? b=U o:=λk b o q e=>k b o q (GaK (GaA e)) e;refine De mx W bt hc (λm=>GbA _ (lt _ m)) (λh' tk k=>hG h' tk (up k)) (λn0=> ?_) (λp v h' tk hp k=>hv p v h' tk hp (up k)) n 0 J _ s₂.toks (GaP _) (W.frame _ _ _ st λb _ o e=>Gag _ e) ⟨0,Gay _ rfl⟩ (λb o _ _ e=>Gag _ e) rfl;obtain⟨d,rfl,hd⟩:=h0 n0;exact⟨_,d,_,rfl,λh' tk k=>hd h' tk (up k)⟩
def Ll(mx:Bool)(od:Option Ye)(h:wpAny (model prog w) A.in1 (pyIter x) (MMs prog w A mx od Q) E z):wpAny (model prog w) A (call (.builtin (mmF mx)) [x] (od.toList.map λd=>(Str.ofString "default",d))) Q E z:=by
 have quiet:∀a,Code.quiet (.builtin (mmN mx) a)=O:=λa=>by cases mx<;>exact Gdz (by decide+kernel) _
 cases mx<;>cases od
 .exact GcT F.kind_min F.plain_min F.entry_min (F.args_min1 _) (Gab (Gdb (a:=[J,J]) rfl (Gab (Gad (Gab (on h λ_ _ q=>Gab (Gbk (Gad ⟨quiet _,n9 _ _ q⟩))))))))
 .exact GcT F.kind_min F.plain_min F.entry_min (BI _ _) (Gab (Gdb (a:=[J,U _]) rfl (Gab (Gad (Gab (on h λ_ _ q=>Gab (Gbk (Gad ⟨quiet _,n9 _ _ q⟩))))))))
 .exact GcT F.kind_max F.plain_max F.entry_max (F.args_max1 _) (Gab (Gdb (a:=[J,J]) rfl (Gab (Gad (Gab (on h λ_ _ q=>Gab (Gbk (Gad ⟨quiet _,n9 _ _ q⟩))))))))
 .exact GcT F.kind_max F.plain_max F.entry_max (BJ _ _) (Gab (Gdb (a:=[J,U _]) rfl (Gab (Gad (Gab (on h λ_ _ q=>Gab (Gbk (Gad ⟨quiet _,n9 _ _ q⟩))))))))
end
section
def Pb(K:ak)(dv:V)(t:TA):TE:=λZ H Q=>t Z H λvs H1=>∃(p:Yd) (ns:List Int),vs=[.ref p]/\(SqL K H1 p (ns.map V.int)\/SqT K H1 p (ns.map V.int))/\Q (match ns with|[]=>dv|n::ns=> .int (o5 n ns)) H1
variable{X:Cx}
def Lm(hc:X.calm=O)(hg:Gl X "max")(hm:X.mg "max"=J)(ha:PA X [e] t)(hd:PE X dx (tC dv))(hs:autoParam (starEach [e] X.env=[(M,eval e X.env)]) Za1._auto_1):PE X (.Call (.Name "max" p) [e] [⟨U "default",dx,kp⟩] pos) (Pb X.K dv t):=by
 intro e8 z Z H Q I h;refine Gdg (kb I hg hm OK ?_);refine PyProof.Rows.callWith_kw (thn (ha pos e8 z Z H _ I h) λus s1 ⟨vs,H1,I1,r1,q1⟩=> ?_) (by rw[hs];rfl) (by rw[hs];rfl) rfl rfl;obtain⟨l,ns,e1,hq,q⟩:=q1;subst e1;cases r1 with
 |cons r rr=>
  cases rr;cases r;refine PyProof.Rows.kws_cons (thn (hd e8 s1 Z H1 (λv H2=>v=dv/\H2=H1) I1 ⟨rfl,rfl⟩) λdu s2 ⟨v,H2,I2,r2,e2,e3⟩=>PyProof.Rows.kws_nil ?_);subst e2 e3;refine Ll O (U du) (qI hc I2 hq λIt fp wr P St s₃ W st lt hP kept=> ⟨It,fp,wr,_,P,St,_,λ_=>True,rfl,W,st,lt,λi j vi vj zz Q' E' _ hi hj WZ =>CmpOf.ints_gt (vg ns) (A5 hP) i j vi vj zz Q' E' hi hj WZ,λ_ _ _=>trivial,λhn=> ⟨du,rfl,λh' tk hk=> ?_⟩,λhn u h' tk hu hk=> ?_⟩)
  .cases ns with
   |nil=>exact⟨v,H2,kept h' tk hk,r2,q⟩
   |cons n ns=>simp at hn
  .cases ns with
   |nil=>simp at hn
   |cons n ns=>
    obtain⟨t,rfl⟩:=A5 hP _ _ hu;rw[show((n::ns).map V.int).length -1=ns.length by simp,HK _ (Gao _),List.take_length];exact⟨.int (o5 n ns),H2,kept h' tk hk,⟨t,rfl⟩,q⟩
def Ln{dd:D}(hc:X.calm=O)(hg:Gl X "max")(hm:X.mg "max"=J)(he:PEd X e f)(hd:PE X dx (tC dv))(Xc:∀K F H,Inn K F H dd dv)(ht:dd.top=M)(hs:autoParam (starEach [e] X.env=[(M,eval e X.env)]) Za1._auto_1):PEd X (.Call (.Name "max" p) [e] [⟨U "default",dx,kp⟩] pos) (mmE o5 dd f):=by
 refine(Lm hc hg hm (cL he gI hs) hd hs).aJ ?_;rintro Z H Q ⟨H0,eC,env,rv,E,e,k⟩;obtain⟨r,hr,e⟩:=eh e;refine⟨H0,eC,env,[r],E,by unfold aa ag;rw[hr];rfl,λvs H1 s1 Rs=> ?_⟩;cases Rs with
 |cons R1 tl=>
  cases tl;obtain⟨ds,h1,e⟩:=eh e;obtain⟨ns,h2,e⟩:=Gaa.mp e;obtain⟨p,vs,rfl,hq,rr⟩:=vh R1.inn h1;rw[D1 rr h2] at hq;refine⟨p,ns,rfl,hq, ?_⟩;subst e;cases ns with
  |nil=>exact k _ _ s1 ((Xc _ _ _).rep λa _ w=>by rw[ht] at w;cases w)
  |cons n ns=>exact k _ _ s1 (.int _)
end
def Lo{K:ak}(k:Key):Rep K F H (OW k) (kV k):=by
 cases k with
 |inl i=>exact .int i
 |inr x=>exact .str x
def Pc{K:ak}(i:Inn K F H d v)(e:Fj d k=U o):∃p,v= .ref p/\IsD H p:=by
 unfold Fj at e;split at e
 .cases i with
  |dT h r=>exact⟨_,rfl,_,.inl h⟩
 .cases e
def Ik{K:ak}{rd:D}{o' :Option D}(ix:Inn K F H dx (.ref p))(iy:Inn K F H dy y)(e:Fj dx dy=U o')(rz:Rep K F H rd vz):∃o,Kt H p y o/\Rep K F H (o'.getD rd) (o.getD vz):=by
 have fin:∀{Y:Type} [DecidableEq Y] {eD:List (Y×D)} {ws:List (Y×V)} {k:Y},aZ K F H eD ws->Rep K F H ((look eD k).getD rd) ((iV ws k).getD vz):=λ{Y _ eD ws k} rp=>by
  cases z:look eD k with
  |none=>rw[u6 rp z];exact rz
  |some d=>obtain⟨v,h1,h2⟩:=wR rp z;rw[h1];exact h2
 unfold Fj at e;split at e
 .obtain⟨k',hk,rfl⟩:=Gaa.mp e;obtain⟨q,ws,eq,rp,gg⟩:=KJ ix iy _ _ k' rfl rfl hk;cases eq;exact⟨_,gg,fin rp⟩
 .cases e
def Lp{X:Cx}(hu:X.A.units+1<cLine)(ho:PEd X o f)(he:PEd X a g)(hd:PEd X b h)(m:M2 X o "get" apos a b eE):PEd X (.Call (.Attribute o "get" apos) [a,b] [] eE) (HY f g h):=by
 refine(Hb hu ho he hd m).aJ ?_;rintro Z H Q ⟨H0,eC,env,rv,E,e,k⟩;obtain⟨x,hx,e⟩:=eh e;obtain⟨y,hy,e⟩:=eh e;obtain⟨r,hr,e⟩:=eh e;split at e
 .rename_i hc;obtain⟨o',e',rfl⟩:=Gaa.mp e;refine⟨H0,eC,env,x,E,hx,λvx H1 s1 R1=> ?_⟩;obtain⟨p,rfl,hD⟩:=Pc R1.inn e';refine⟨p,rfl,hD,H0,eC,env,y,E.mono s1,hy,λvy H2 s2 R2=> ⟨H0,eC,env,r,(E.mono s1).mono s2,hr,λvz H3 s3 R3=> ?_⟩⟩;have rz:=R3.rep ((E.mono s1).mono s2) (by unfold RV.free;rw[hc]);obtain⟨ov,gg,rp⟩:=Ik ((R1.inn.same s2).same s3) (R2.inn.same s3) e' rz;exact⟨ov,gg,k _ H3 (s1.trans (s2.trans s3)) rp⟩
 .cases e
section
def pI(d:Yd)(hd:(d==sysModules)=M):MeetsIn prog w (Builtin.«dict.items» ⟨[.ref d],[]⟩) (λ_ R s=>s.TypeIs (.ref d) "dict"/\R (.ok (.ret (.ref s.heap.objs.size))) {s with heap:=s.heap.push {cls:= .type "dict_items",data:= .fields #[.ref d]}}):=by
 apply MeetsIn.of_wp;rintro A R s ⟨hm,h⟩
 wp_walk using wpAny_notOrdered_dict hm,Gbk
 .exact⟨_,rfl,h⟩
 .size_fits
variable{s:Yg}
def qR{es:Array DictEntry}(hv:s.heap.IsItemsView v d)(hm:HS s.heap d es ep)
  (hQ:Q (.ref s.heap.objs.size) {s with heap:=s.heap.push {cls:= .type "dict_itemiterator",data:= .fields #[.none,.bool M,.ref d,.int 0 0,.int es.size 0,.int ep 0,.none,.none]}}):wpAny (model prog w) A (pyIter (.ref v)) Q E s:=by
 have f:FO s.heap v _ _:=hv;apply Gdu f.ty F.slot_dict_items_iter;apply Gbd F.slot_dict_items_iter f.ty F.entry_dict_items_iter
 wp_walk using jP f rfl,HU hm,N0 hm,Gbk
 .exact⟨_,rfl,_,_,⟨_,Gay _ rfl,rfl⟩,GcK.lookup,hQ⟩
 .simp[sizeOk,Builtin.Dict_items.ownsTuple,Builtin.Dict_items.ownedTupleFields,Gbu]
abbrev ItI(h:Yi)(it d:Yd)(i n ep:Nat)(f0 f1 ok ov:Ye):Prop:=FO h it "dict_itemiterator" #[f0,f1,.ref d,.int i 0,.int n 0,.int ep 0,ok,ov]
def Kept(h:Yi)(it:Yd)(f0 f1:Ye):Prop:=f0= .none\/∃(a:Yd) (oa:Yk) (f:Bool),f0=rawInt a/\f1= .bool f/\h.get? a=U oa/\a≠it
def Fv(f:FO s.heap it "dict_itemiterator" #[f0,f1,x2,x3,x4,x5,ok,ov])(hf:Kept s.heap it f0 f1)
  (h:∀h' g0 g1 zv zt,FO h' it "dict_itemiterator" #[g0,g1,x2,x3,x4,x5,zv,zt]->((f0= .none/\g0=rawInt s.heap.objs.size/\g1= .bool M)\/(f0≠ .none/\g0=f0/\g1= .bool O))->
   h'.get? s.heap.objs.size=U {cls:= .type "tuple",data:= .seq #[k,v]}->h'.objs.size=s.heap.objs.size+1->(∀b o,b≠it->s.heap.get? b=U o->h'.get? b=U o)->Q (.ref s.heap.objs.size) {s with heap:=h' }):
  wpAny (model prog w) A (Builtin.Dict_items.pairFromOwner (.ref it) 6 k v) Q E s:=by
 have ne:s.heap.objs.size≠it:=GbU f.lt;apply Gab;refine wpAny_newTuple ?_;have f2:=f.at λo=>Gag {cls:= .type "tuple",data:= .seq #[k,v]};have t2:(s.heap.push {cls:= .type "tuple",data:= .seq #[k,v]}).get? s.heap.objs.size=_:=Gay _ rfl;have k2:∀b o,s.heap.get? b=U o->(s.heap.push {cls:= .type "tuple",data:= .seq #[k,v]}).get? b=U o:=λb o=>Gag _;have z2:(s.heap.push {cls:= .type "tuple",data:= .seq #[k,v]}).objs.size=s.heap.objs.size+1:=GbZ ..;generalize s.heap.push {cls:= .type "tuple",data:= .seq #[k,v]}=p at*;have fin:∀h',Heap.SameBut it p h' ->h'.get? s.heap.objs.size=U {cls:= .type "tuple",data:= .seq #[k,v]}/\h'.objs.size=s.heap.objs.size+1/\∀b o,b≠it->s.heap.get? b=U o->h'.get? b=U o:=λh' sb=> ⟨sb.extBut _ _ ne t2,sb.1.trans z2,λb o n e=>sb.extBut b o n (k2 b o e)⟩;rcases hf with rfl| ⟨a,oa,b,rfl,rfl,ha,XB⟩
 .wp_walk using jP (i:=0) (x:= .none) f2 rfl,jP (i:=6) (x:=ok) f2 rfl,jP (i:=7) (x:=ov) f2 rfl,fO f2
  .rintro h3 ⟨f3,s3⟩;refine Gab (fO f3 (λh4 ⟨f4,s4⟩=>Gab (fO f4 (λh5 ⟨f5,s5⟩=>Gab (fO f5 (λh6 ⟨f6,s6⟩=>Gab (wpAny_letGo (Gad ?_))) (by simp))) (by simp))) (by simp));obtain⟨q1,q2,q3⟩:=fin h6 (((s3.trans s4).trans s5).trans s6);exact h h6 _ _ _ _ f6 (.inl ⟨rfl,rfl,rfl⟩) q1 q2 q3
  .show _<8;decide
 .wp_walk using jP (i:=0) (x:=rawInt a) f2 rfl,PySem.W.kdx_alive (k2 a oa ha),jP (i:=1) (x:= .bool b) f2 rfl
  have q1:(Value.bool b !=Value.bool O)= !b:=by cases b<;>rfl
  rw[q1];have no:rawInt (a:Int)≠Value.none:=by simp[rawInt]
  cases b with
  |true=>
   wp_walk
   obtain⟨q1,q2,q3⟩:=fin p (Heap.SameBut.refl _ _);exact h p _ _ _ _ f2 (.inr ⟨no,rfl,rfl⟩) q1 q2 q3
  |false=>
   wp_walk using fO f2
   .rintro h3 ⟨f3,s3⟩
    wp_walk
    obtain⟨q1,q2,q3⟩:=fin h3 s3;exact h h3 _ _ _ _ f3 (.inr ⟨no,rfl,rfl⟩) q1 q2 q3
   .show _<8;decide
def kq{A:Yj}{es:Array DictEntry}(hh:A.handled=J)(hit:ItI s.heap it d i es.size ep f0 f1 ok ov)(hm:HS s.heap d es ep)(hf:Kept s.heap it f0 f1)
  (hQ:∀e h' g0 g1 zv zt,es[i]? =U e->ItI h' it d (i+1) es.size ep g0 g1 zv zt ->((f0= .none/\g0=rawInt s.heap.objs.size/\g1= .bool M)\/(f0≠ .none/\g0=f0/\g1= .bool O))->
   h'.get? s.heap.objs.size=U {cls:= .type "tuple",data:= .seq #[e.key,e.val]}->(∀b o,b≠it->s.heap.get? b=U o->h'.get? b=U o)->Q (U (.ref s.heap.objs.size)) {s with heap:=h' })
  (hE:∀h',es.size<=i->Heap.ExtBut it s.heap h' ->Q J {s with heap:=h' }):wpAny (model prog w) A (pyNext (.ref it)) Q E s:=by
 have hT:=hit.ty
 wp_walk using Gbs hT GcK,Gbd GcK hT F.entry_dict_itemiterator_next (ha:=F.args_dict_itemiterator_next_1 _),HU hm,N0 hm,vk hit,GcF hT
 rw[S9];cases h:es[i]? with
 |some e=>
  wp_walk using GcF hT,wpAny_isOneOf_itemiter hT,fO hit
  .rintro h1 ⟨f,hs⟩;replace f:ItI h1 it d (i+1) es.size ep f0 f1 ok ov:=f;have kp:Kept h1 it f0 f1:=hf.imp id λ⟨a,o,b,q1,q2,q3,q4⟩=> ⟨a,o,b,q1,q2,hs.extBut a o q4 q3,q4⟩
   wp_walk using wpAny_isOneOf_itemiter f.ty,Fv f kp
   intro h' g0 g1 zv zt f' g t _ k;rw[show h1.objs.size=s.heap.objs.size from hs.1] at*;exact Gad ⟨_,rfl,Gad (hQ e h' g0 g1 zv zt h f' g t λb o n q=>k b o n (hs.extBut b o n q))⟩
  .show _<8;decide
 |none=>
  wp_walk using GcF hT,fO hit
  .rintro h' ⟨f,hs⟩;exact HV hh λh2 a k=>Gab (vm k.2 (Gad (hE h2 (by simpa using h) λb o n e=>k.1 b o (hs.extBut b o n e))))
  .show _<8;decide
def Il{E:VSP}{elts:List Yh}{pos:Pos}{it d a:Yd}{i n ep:Nat}{f1 ok ov:Ye}{Q:Unit->Yg->Prop}(he:ItI s.heap it d i n ep (rawInt a) f1 ok ov)
  (hQ:∀h',ItI h' it d i n ep .none f1 ok ov->Heap.SameBut it s.heap h' ->Q () {s with heap:=h' }):
  wpAny (model prog w) A (letOwnedTupleGo (.Tuple elts x1 pos) (.ref it) (.ref a)) Q E s:=by
 obtain⟨⟨c,dc,dt,sl⟩,ho,hc,hd⟩:=id he;cases hc;cases hd;apply Gab;apply wpAny_load ho;apply GcE<;>intro hi
 .exact Gab (wpAny_rule (fO he (λh' k=>hQ h' k.1 k.2) (by simp)))
 .simp_all
end
section
variable{X:Cx}{b:Yh}{Z:St}{H:Hp}
def _root_.L2.Inv.freeze{s:Yg}(I:Inv X e8 Z H s)(e:H d=U (.dT eD))(ho:s.heap.get? d=U o):Inv X e8 Z (upd H d (.frz o (.dT eD))) s:=by
 have:=pT (t' :=s.toks) (ob:= .frz o (.dT eD)) I (by rw[e];trivial) (Heap.SameBut.refl _ _) ⟨o,ho⟩
  ⟨ho,(I.hok d _ e).dN (λb u _ q=>q) (λb q=>by rw[ar (tm q e (by simp))];exact q) λb xs q=>by rw[ar (tm q e (by simp))];exact q⟩
 exact this
def _root_.L2.Inv.Pd(I:Inv X e8 Z H s)(e:H d=U (.frz o (.dT eD)))(hn:∀o u,X.H0 d≠U (.frz o u)):Inv X e8 Z (upd H d (.dT eD)) s:=by
 have ne:∀{b:Yd},H b=J->b≠d:=λq z=>by rw[z,e] at q;cases q
 have nt:∀{b:Yd} {u:HO},H b=U u->u≠ .frz o (.dT eD)->b≠d:=λq hu z=>by rw[z,e] at q;cases q;exact hu rfl
 refine⟨I.ok,I.os,I.bare,⟨I.base.keep,I.base.slot,λb ob q n hx=> ?_,I.base.there,λb xs q=> ?_,λb ob u q=> ?_,λb ps q=> ?_⟩,I.loc,I.cell, ?_,λx c q=> ?_,λp hp=> ?_,λb u q=> ?_,I.len⟩
 .have:=I.base.free b ob q n hx;rw[ar (ne this)];exact this
 .have:=I.base.wq b xs q;rw[ar (nt this (by simp))];exact this
 .have:=I.base.sJ b ob u q;rw[ar (λz=>hn ob u (by rw[<-z];exact q))];exact this
 .obtain⟨more,q'⟩:=I.base.wx b ps q;exact⟨more,by rw[ar (nt q' (by simp))];exact q'⟩
 .rw[ar (ne I.free)];exact I.free
 .rw[ar (ne (I.jN x c q))];exact I.jN x c q
 .obtain⟨h1,h2,h3⟩:=I.pin p hp;exact⟨h1,by rw[ar (ne h2)];exact h2,h3⟩
 .have st:∀{b:Yd} {u:HO},cI X.prog X.w H s.heap b u->cI X.prog X.w (upd H d (.dT eD)) s.heap b u:=λx=>
   x.dN (λ_ _ _ q=>q) (λc q=>by rw[ar (nt q (by simp))];exact q) λc xs q=>by rw[ar (nt q (by simp))];exact q
  by_cases hb:b=d
  .subst hb;rw[aF] at q;cases q
   exact st (I.hok b _ e).2
  .rw[ar hb] at q;exact st (I.hok b _ q)
def Df{s:Yg}{eD:List (List Key×V)}{o:Yk}{es:Array DictEntry}(I:Inv X e8 Z H s)(e:H d=U (.frz o (.dT eD)))(hd:o.data= .dict es ep):HS s.heap d es ep/\es.size=eD.length/\
  ∀(i:Nat) p,eD[i]? =U p->∃b en,es[i]? =U en/\en.key= .ref b/\H b=U (.tup (p.1.map kV))/\XO p.2 en.val:=by
 obtain⟨ho,h1,h2,xs,kt,o',UY,UZ,xk,hx,xb,he,_⟩:=I.hok d _ e;rw[ho] at xk;cases xk;rw[hd] at xb;cases xb;have hl:=Paired.length kt;have hs:es.size=xs.length:=by rw[<-GaZ,he,Gae]
 refine⟨⟨o,ho,hx,hd⟩,by lia,λi p hp=> ?_⟩;have hi:i<xs.length:=by rw[<-hl];exact(Gak.mp hp).1
 have rel:∀{l:List (List Key×V)} {m:List (List Key×Yd×Ye)},Paired (λ(p:List Key×V) (q:List Key×Yd×Ye)=>p.1=q.1/\H q.2.1=U (.tup (p.1.map kV))/\XO p.2 q.2.2) l m->∀(i:Nat) p q,l[i]? =U p->m[i]? =U q->H q.2.1=U (.tup (p.1.map kV))/\XO p.2 q.2.2:=by
  intro l m q;induction q with
  |nil=>intro i p q h;simp at h
  |cons hq t ih=>
   intro i p' q' h1 h2;cases i with
   |zero=>simp at h1 h2;subst h1 h2;exact hq.2
   |succ i=>exact ih i p' q' (by simpa using h1) (by simpa using h2)
 obtain⟨r1,r2⟩:=rel kt i p xs[i] hp (by simp);refine⟨xs[i].2.1,entryOfKey (tupleKind (cJ X.prog X.w)) xs[i], ?_,rfl,r1,r2⟩;have:es.toList[i]? =U (entryOfKey (tupleKind (cJ X.prog X.w)) xs[i]):=by rw[he];simp[hi]
 simpa using this
def Pe(d:Yd)(o:Yk)(eD:List (List Key×V)):It:=
 ⟨λi H=>H d=U (.frz o (.dT eD))/\i<eD.length,λi H x H' =>∃p b q,eD[i]? =U p/\H b=U (.tup (p.1.map kV))/\H q=J/\x= .ref q/\H' =upd H q (.tup [.ref b,p.2]),λi H=>H d=U (.frz o (.dT eD))/\eD.length<=i⟩
def BK{s:Yg}(hit:ItI s.heap it d i n ep f0 f1 ok ov)(h:Q (.ref it) s):wpAny (model prog w) A (pyIter (.ref it)) Q E s:=by
 have hT:=hit.ty;apply Gdu hT Gdq;apply Gbd Gdq hT PySem.W.kcp_entry (ha:=PySem.F.args_dict_itemiterator_iter_1 _);exact Gad ⟨_,rfl,_,_,hT,PySem.F.slot_dict_itemiterator_next.lookup,h⟩
theorem BL{K:ak}(it d:Yd)(o:Yk)(eD:List (List Key×V))(es:Array DictEntry)(ep:Nat)(hd:o.data= .dict es ep)(xy:d≠it):
  Turn P w K (.Tuple elts x1 tp) (Pe d o eD) [it] it (λi h=>∃f1 ok ov,ItI h it d i es.size ep .none f1 ok ov) where
 mem:=by simp
 obj:=λi h st b hb=>by
  have e:b=it:=by simpa using hb
  subst e;obtain⟨f1,ok,ov,o,e,c,d⟩:=st;simp_all
 keep:=λi h h' st k=>let⟨f1,ok,ov,e⟩:=st;⟨f1,ok,ov,e.at (k it (by simp))⟩
 item:=by
  intro X hP hw hK hc i e8 s Z H E I hf st hg;obtain⟨he,hi⟩:=hg;obtain⟨hr,hz,hx⟩:=Df I he hd;obtain⟨f1,ok,ov,hit⟩:=st;obtain⟨b,en,q1,q2,q3,q4⟩:=hx i eD[i] (by simp);refine kq (I.ok.hd hc) hit hr (.inl rfl) (λXG h' g0 g1 zv zt UK xC hg hT kk=> ⟨_,rfl, ?_⟩) λ_ hl _=>absurd hl (by lia);cases q1.symm.trans UK;have Vx:g0=rawInt s.heap.objs.size:=by
   rcases hg with⟨_,z,_⟩| ⟨z,_⟩
   .exact z
   .exact absurd rfl z
  subst Vx;refine Il xC λh2 xQ sb=> ?_;have eX:=hit.lt;have kept:∀b o,b∉[it]->s.heap.get? b=U o->h2.get? b=U o:=λb o hb e=>by
   have b1:b≠it:=λz=>hb (by simp[z]);exact(sb.2 b b1).trans (kk b o b1 e)
  have UE:h2.get? s.heap.objs.size=U {cls:= .type "tuple",data:= .seq #[en.key,en.val]}:=(sb.2 _ (GbU eX)).trans hT;have I1:Inv X e8 Z (upd H s.heap.objs.size (.tup [.ref b,eD[i].2])) {s with heap:=h2}:=I.qN hf rfl rfl kept (Gao _) (by
   refine⟨by simp[Gbu],[en.key,en.val],.cons q2 (.cons q4 .nil),_,UE,rfl,0,rfl⟩)
  refine⟨.ref s.heap.objs.size,_,I1,rfl,⟨eD[i],b,_,by simp,q3,I.fresh,rfl,rfl⟩,⟨_,_,_,xQ⟩,λb' hb=> ?_⟩;have z:b' =it:=by simpa using hb
  subst z;rw[ar (GaK eX)];exact(hf b' hb).1
 done:=by
  intro X hP hw hK hc i e8 s Z H E I hf st hg;obtain⟨he,hi⟩:=hg;obtain⟨hr,hz,hx⟩:=Df I he hd;obtain⟨f0,f1,f2,f3,f4,f5⟩:=hf it (by simp);obtain⟨XF,ok,ov,hit⟩:=st;exact kq (I.ok.hd hc) hit hr (.inl rfl) (λ_ _ _ _ _ _ q=>absurd (Gbf.mp q).1 (by lia)) λh' _ eb=> ⟨rfl,I.turned (λb o hb e=>eb b o hb e) f0 f1 f3 f4 f5⟩
 self:=λ_ _ _ _ _ st h=>let⟨_,_,_,e⟩:=st;BK e h
def Io(X:Cx)(XI:Yd->Yk->List (List Key×V)->It)(to:TE):TI:=λZ H R=>to Z H λx H1=>∃d eD,x= .ref d/\H1 d=U (.dT eD)/\∀o,(∀o u,X.H0 d≠U (.frz o u))->R (XI d o eD) (upd H1 d (.frz o (.dT eD)))
def Al{apos eE:Pos}(ho:PE X o to)(eW:autoParam (attributeBase o "items" X.env (eval o X.env)=eval o X.env) Za1._auto_1)(eV:autoParam ((apos.endLine==eE.line)=O) Za1._auto_1):PI X (.Tuple elts x1 tp) (.Call (.Attribute o "items" apos) [] [] eE) (Io X Pe to):=by
 intro e8 s Z H R I h;refine wpAny_Call_method0_late eW eV (thn (ho e8 s Z H _ I h) λv s1 ⟨x,H1,I1,r1,d,eD,ex,hd,q1⟩=> ?_);subst ex;cases r1;obtain⟨_,xq,xs,kt,ob,es,ep,Vp,hx,yB,he,_⟩:=GY I1.hok hd;obtain⟨t1,t2,_⟩:=Bs I1 ⟨eD,.inl hd⟩;refine⟨"dict","dict.items",Gds,PySem.F.slot_dict_items,PySem.F.type_dict_items,t1,t2,GcJ rfl (PySem.evalArgs_none ?_)⟩;refine call_meetsIn PySem.F.slot_dict_items t1 PySem.F.entry_dict_items (PySem.F.args_dict_items_1 _) (pI d xq) ⟨t1, ?_⟩;generalize hh1:s1.heap.push {cls:= .type "dict_items",data:= .fields #[.ref d]}=h1;have hv:h1.IsItemsView s1.heap.objs.size d:=by rw[<-hh1];exact⟨_,Gay _ rfl,rfl,rfl⟩
 have k1:∀b u,s1.heap.get? b=U u->h1.get? b=U u:=λb u q=>by rw[<-hh1];exact Gag _ q
 have I2:Inv X e8 Z H1 {s1 with heap:=h1}:=I1.kept (t' :=s1.toks) k1;refine qR (s:={s1 with heap:=h1}) hv ⟨ob,k1 _ _ Vp,hx,yB⟩ ?_;have I3:Inv X e8 Z H1 {s1 with heap:=h1.push {cls:= .type "dict_itemiterator",data:= .fields #[.none,.bool M,.ref d,.int 0 0,.int es.size 0,.int ep 0,.none,.none]}}:=I2.kept (t' :=s1.toks) λb u q=>Gag _ q;have I4:=I3.freeze hd (o:=ob) (Gag _ (k1 _ _ Vp));have eX:d<h1.objs.size:=GaA (k1 _ _ Vp);have fresh:(upd H1 d (.frz ob (.dT eD))) h1.objs.size=J:=by
  rw[ar (GbU eX)];exact I2.fresh
 refine⟨h1.objs.size,[h1.objs.size],_,_,_,rfl,I4,BL _ d ob eD es ep yB (GaK eX),⟨_,_,_,_,Gay _ rfl,rfl,rfl⟩,λb hb=> ?_,q1 ob λo u z=> ?_⟩
 .have z:b=h1.objs.size:=by simpa using hb
  subst z;exact I2.Es (Gao _) fresh
 .have:=I1.base.sJ d o u z;rw[hd] at this;cases this
end
section
variable{a b:Yh}
def BM(XI:Yd->Yk->List (List Key×V)->It)(vw:List (List Key×D)->List D):Prop:=
 ∀{K:ak} {Hf:Hp} {a:Yd} {o:Yk} {ws:List (List Key×V)} {eD:List (List Key×D)} {F F' Nn:Yd->Prop},Hf a=U (.frz o (.dT ws))->aZ K F Hf eD ws->
  (∀b u,Hf b=U u->(F b\/isT u)->Nn b)->(∀b,F b->Hf b≠J->F' b)->By K F' Nn (XI a o ws) (vw eD) Hf
def ug{K:ak}{eD:List (Y×D)}{ws:List (Y×V)}(r:aZ K F H eD ws):eD.length=ws.length:=by
 have:=congrArg List.length r.1
 simpa using this
def Fw{Y:Type}{K:ak}{eD:List (Y×D)}{ws:List (Y×V)}{i:Nat}{p:Y×D}(r:aZ K F H eD ws)(e:eD[i]? =U p):∃q,ws[i]? =U q/\p.1=q.1/\Rep K F H p.2 q.2:=by
 have hi:i<ws.length:=by rw[<-ug r];exact(Gak.mp e).1
 have hq:=Gac hi;refine⟨ws[i],hq, ?_,r.2 i p _ e hq⟩;have:=congrArg (λl=>l[i]?) r.1;simp only[Gap,e,hq,Gcj,GcM] at this;exact this
def qS:BM Pe cP:=by
 intro K Hf a o ws eD F F' Nn hA r hN hF Hi keep;have Wf:=keep a _ hA (hN a _ hA (.inr trivial));have r' :=r.gen (λb u hb q=>keep b u hb (hN b u hb q)) hF;refine⟨λi d hd=> ?_,Wf,by unfold cP;rw[Gae,ug r];exact Gao _⟩;unfold cP at hd;rw[Gap] at hd;obtain⟨p,hp,rfl⟩:=Gaa.mp hd;obtain⟨q,h1,h2,h3⟩:=Fw r' hp;refine⟨⟨Wf,(Gak.mp h1).1⟩,λx H2 ⟨q',b,t,e2,e3,e4,e5,e6⟩=> ?_⟩;subst e5 e6;rw[h1] at e2;cases e2;refine⟨aX e4,fw e4 (.cons ?_ (.cons h3 .nil))⟩;have rs:aO K F' Hi (p.1.map OW) (q.1.map kV):=by rw[h2];exact qQ λk=>Lo k
 exact .tup e3 rs.1 rs.2
def Lq(hi:PI X tg iter (Io X XI (tE X f)))(hv:BM XI vw):PId X tg iter (D5 vw f):=by
 refine hi.aJ ?_;rintro Z H R ⟨H0,eC,env,ds,E,hf,k⟩;obtain⟨⟨kd,d⟩,hr,hf⟩:=eh hf;split at hf
 .rename_i hk;have xu :kd= .tn:=hk;subst xu;split at hf
  .rename_i eD hd;have xb :d= .dT eD:=hd;subst xb;cases hf;refine⟨H0,eC,env,⟨.tn,.dT eD⟩,E,hr,λv H1 s1 Rv=> ?_⟩;obtain⟨a,ev,hn,wr,_,ii⟩:=Rv;subst ev;cases ii with
   | @dT _ ws _ h r=>
    refine⟨a,ws,rfl,h,λo zB=> ?_⟩;have sm:cb H (upd H1 a (.frz o (.dT ws))):=λb u q=>by
     rw[ar (dm q hn)];exact s1 b u q
    have E1:=E.mono sm;refine k _ _ sm (hv aF (r.gen (λb u hb q=> ?_) λb q _=>q) (λb u hb q=> ?_) λb q hb=> ⟨q.1,hb⟩)
    .have:b≠a:=by
      rcases q with q|q
      .exact q.2
      .intro z;subst z;rw[h] at hb;cases hb;exact q
     rw[ar this];exact hb
    .rcases q with q|q
     .exactλ⟨i,h1,h2⟩=>q.1.2 i h1.ol.top h2
     .exactλw=>E1.fB w hb q
  .cases hf
 .cases hf
variable{apos eE:Pos}
def Ip{X:Cx}(ho:PEd X o f)(eW:autoParam (attributeBase o "items" X.env (eval o X.env)=eval o X.env) Za1._auto_1)(eV:autoParam ((apos.endLine==eE.line)=O) Za1._auto_1):PId X (.Tuple elts x1 tp) (.Call (.Attribute o "items" apos) [] [] eE) (D5 cP f):=Lq (Al ho eW eV) qS
def jC{env:Env}(h:(env.set i J)[j]? =U (U sl)):j≠i/\env[j]? =U (U sl):=by
 by_cases z:i=j
 .subst z;rw[Gdv] at h;simp at h
 .rw[Gam z] at h;exact⟨Ne.symm z,h⟩
def nh{env:Env}(h:b5 (env.set i J)[j]?):j≠i/\b5 env[j]? :=by
 by_cases z:i=j
 .subst z;rw[Gdv] at h;split at h
  .split at h<;>exact h.elim
  .simp_all
 .rw[Gam z] at h;exact⟨Ne.symm z,h⟩
def Am{env:Env}(h:wN (env.set i J)[j]?):j≠i/\wN env[j]? :=by
 by_cases z:i=j
 .subst z;rw[Gdv] at h;split at h
  .split at h<;>exact h.elim
  .simp_all
 .rw[Gam z] at h;exact⟨Ne.symm z,h⟩
def aw.Sn{K:ak}{eC:Yd->Prop}{env:Env}{H:Hp}{i:Nat}{a:Yd}{ws:List (List Key×V)}(E:aw K H0 eC env Z H)(ti:b5 env[i]?)(ea:Z[i]? =U (U (.ref a)))
  (yD:∀j,j≠i->b5 env[j]? ->Z[j]? ≠U (U (.ref a)))(hH:H a=U (.dT ws)):
  aw K (λb=>if b=a then J else H0 b) (λb=>eC b\/b=a) (env.set i J) Z (upd H a (.frz o (.dT ws)))/\∀b,Cln (λb=>eC b\/b=a) (env.set i J) Z b↔Cln eC env Z b:=by
 have cl:∀b,Cln (λb=>eC b\/b=a) (env.set i J) Z b↔Cln eC env Z b:=λb=>by
  constructor
  .intro q;refine⟨λz=>q.1 (.inl z),λj tj ej=> ?_⟩;by_cases z:j=i
   .subst z;rw[ea] at ej;cases ej;exact q.1 (.inr rfl)
   .exact q.2 j (by rw[Gam (Ne.symm z)];exact tj) ej
  .intro q;refine⟨λz=> ?_,λj tj ej=>q.2 j (nh tj).2 ej⟩;rcases z with z|z
   .exact q.1 z
   .subst z;exact q.2 i ti ea
 have na:¬Cln eC env Z a:=λq=>q.2 i ti ea;have dN:ij (Cln eC env Z) H (upd H a (.frz o (.dT ws))):=λb u hb q=>by
  have:b≠a:=by
   rcases q with q|q
   .intro z;subst z;exact na q
   .intro z;subst z;rw[hH] at hb;cases hb;exact q
  rw[ar this];exact hb
 have hF:∀b,Cln eC env Z b->H b≠J->Cln (λb=>eC b\/b=a) (env.set i J) Z b:=λb q _=>(cl b).mpr q;refine⟨⟨λb u q=> ?_,by rw[List.length_set];exact E.len,λb q=> ?_,λj d q=> ?_,λj d q=> ?_,λj d q=> ?_,λj k b tj tk ej ek=> ?_⟩,cl⟩
 .by_cases z:b=a
  .subst z;rw[Gan rfl] at q;cases q
  .rw[Gah z] at q;rw[ar z];exact E.same b u q
 .rcases q with q|q
  .by_cases z:b=a
   .subst z;rw[aF];simp
   .rw[ar z];exact E.bad b q
  .subst q;rw[aF];simp
 .obtain⟨v,h1,h2⟩:=E.sh j d (jC q).2;exact⟨v,h1,h2.gen dN hF⟩
 .have q' :j≠i/\(env[j]? =U (U (.own d))\/env[j]? =U (U (.lok d))):=by
   rcases q with q|q
   .exact⟨(jC q).1,.inl (jC q).2⟩
   .exact⟨(jC q).1,.inr (jC q).2⟩
  have tj:b5 env[j]? :=by rcases q'.2 with z|z<;>rw[z]<;>trivial
  obtain⟨a',h1,h2,h3,h4,h5,h6⟩:=E.ow j d q'.2;have ne:a' ≠a:=λz=>yD j q'.1 tj (by rw[h1,z]);refine⟨a',h1,by rw[Gah ne];exact h2,λz=>z.elim h3 ne, ?_,h5,h6.gen dN hF λb eb _ u hu=> ?_⟩
  .obtain⟨u,hu,wu⟩:=h4;exact⟨u,by rw[ar ne];exact hu,wu⟩
  .cases eb;rw[ar ne];exact hu
 .have q' :=jC q;have tj:b5 env[j]? :=by rw[q'.2];trivial
  obtain⟨a',h1,h4,h5,h6⟩:=E.bo j d q'.2;have ne:a' ≠a:=λz=>yD j q'.1 tj (by rw[h1,z]);refine⟨a',h1, ?_,h5,h6.gen dN hF λb eb _ u hu=> ?_⟩
  .obtain⟨u,hu,wu⟩:=h4;exact⟨u,by rw[ar ne];exact hu,wu⟩
  .cases eb;rw[ar ne];exact hu
 .exact E.dj j k b (Am tj).2 (nh tk).2 ej ek
def Rep.Pd{K:ak}{F:Yd->Prop}{H:Hp}{a:Yd}{ws:List (List Key×V)}(hH:H a=U (.frz o (.dT ws)))(nf:¬F a)(r:Rep K F H d v):Rep K F (upd H a (.dT ws)) d v:=by
 induction r with
 |non=>exact .non
 |bl b=>exact .bl b
 |int i=>exact .int i
 |str x=>exact .str x
 | @tup b vs ds h l r ih=>
  refine .tup ?_ l ih;rw[ar λz=>by subst z;rw[hH] at h;cases h];exact h
 | @lst b vs ds f h l r ih=>
  have ne:b≠a:=λz=>by subst z;exact nf f
  refine .lst f ?_ l ih;rcases h with h| ⟨o',h⟩
  .exact .inl (by rw[ar ne];exact h)
  .exact .inr ⟨o',by rw[ar ne];exact h⟩
 | @fl b o' vs ds h l r ih=>exact .fl (by rw[ar λz=>by subst z;rw[hH] at h;cases h];exact h) l ih
 | @scr b ns h=>
  refine .scr ?_;rcases h with⟨o',h⟩|h
  .exact .inl ⟨o',by rw[ar λz=>by subst z;rw[hH] at h;cases h];exact h⟩
  .exact .inr h
 | @dT b ws' eD f h l r ih=>exact .dT f (by rw[ar λz=>by subst z;exact nf f];exact h) l ih
def N6{H:Hp}{a:Yd}{K:ak}(ii:Inn K F H (.dT eD) (.ref a)):∃ws,H a=U (.dT ws)/\aZ K F H eD ws:=by
 cases ii with
 |dT h r=>exact⟨_,h,r⟩
def Fx{K:ak}{H:Hp}{i:Nat}(E:aw K H0 eC env Z H)(e:dictAt i env=U eD):
  ∃a ws,b5 env[i]? /\Z[i]? =U (U (.ref a))/\(∀j,j≠i->b5 env[j]? ->Z[j]? ≠U (U (.ref a)))/\H a=U (.dT ws)/\aZ K (Cln eC env Z) H eD ws:=by
 unfold dictAt at e;have own:∀{d:D},(env[i]? =U (U (.own d))\/env[i]? =U (U (.lok d)))->d= .dT eD->∃a ws,b5 env[i]? /\Z[i]? =U (U (.ref a))/\(∀j:Nat,j≠i->b5 env[j]? ->Z[j]? ≠U (U (.ref a)))/\H a=U (.dT ws)/\aZ K (Cln eC env Z) H eD ws:=by
  intro d q hd;subst hd;obtain⟨a,h1,h2,h3,h4,h5,h6⟩:=E.ow i _ q;obtain⟨ws,g1,g2⟩:=N6 h6;refine⟨a,ws,by rcases q with z|z<;>rw[z]<;>trivial,h1,λj hj tj ej=>hj (E.dj i j a (by rcases q with z|z<;>rw[z]<;>trivial) tj h1 ej).symm,g1,g2⟩
 split at e
 .rename_i q;cases e;exact own (.inl q) rfl
 .rename_i q;cases e;exact own (.inr q) rfl
 .rename_i q;split at e
  .rename_i hs;cases e;obtain⟨a,h1,h4,h5,h6⟩:=E.bo i _ q;obtain⟨ws,g1,g2⟩:=N6 h6;refine⟨a,ws,by rw[q];trivial,h1,λj hj tj ej=> ?_,g1,g2⟩;have eX:j<env.length:=by
    rcases Gbh j env.length with z|z
    .exact z
    .rw[GbE z] at tj;exact tj.elim
   have hsj:=Gaq.mp hs j (GaS.mpr eX);cases hq:env[j]? with
   |none=>rw[hq] at tj;exact tj.elim
   |some sl=>
    cases sl with
    |none=>rw[hq] at tj;exact tj.elim
    |some sl=>
     cases sl with
     |sh d=>rw[hq] at tj;exact tj.elim
     |own d=>exact hj (E.dj j i a (by rw[hq];trivial) (by rw[q];trivial) ej h1)
     |lok d=>exact hj (E.dj j i a (by rw[hq];trivial) (by rw[q];trivial) ej h1)
     |bor d=>rw[hq] at hsj;simp[hj] at hsj
  .cases e
 .cases e
def Iq{X:Cx}(hc:X.calm=O)(S:iq X scope N n az)
  (hi:PI X tg iter (Io X XI (QJ i)))(hv:BM XI vw)(yH:oU gd)(B:Blk X scope N tg elt ifs gd t f)
  (hs:∀x,foldedSetIterable iter X.env x=pure x:=by intro _;rfl):PEd X (.ListComp elt [⟨tg,iter,ifs,0⟩] scope pos) (vp vw i n az gd t f):=by
 intro e8 s Z H Q I hw;obtain⟨H0,eC,env,r,E,e,k⟩:=hw;obtain⟨eD,hk,e⟩:=eh e;split at e
 .rename_i hz;obtain⟨rs,yj,rfl⟩:=Gaa.mp e;obtain⟨a,ws,ti,ea,yD,hH,rp⟩:=Fx E hk;obtain⟨cl,h1,h2,h3⟩:=jh (S.cells I);refine Gdl rfl hs h1 S.kind S.BA ?_;refine thn (hi e8 s Z H (λJ' H' =>∃o,(∀o u,X.H0 a≠U (.frz o u))/\J' =XI a o ws/\H' =upd H a (.frz o (.dT ws))) I ⟨.ref a,ea,a,ws,rfl,hH,λo zB=> ⟨o,zB,rfl,rfl⟩⟩) λv s1 q1=>thn q1 λzJ s2 q2=> ?_;obtain⟨it,fp,tn,J2,H2,e,I2,T,yX,f2,o,zB,eJ,eH⟩:=q2;subst e eJ eH;obtain⟨E2,VI⟩:=E.Sn (o:=o) ti ea yD hH;have na:¬Cln eC env Z a:=λq=>q.2 i ti ea;have dN:ij (Cln eC env Z) H (upd H a (.frz o (.dT ws))):=λb u hb q=>by
   have:b≠a:=by
    rcases q with q|q
    .lia
    .intro z;subst z;rw[hH] at hb;cases hb;exact q
   rw[ar this];exact hb
  have io:By X.K (λb=>Cln (λb=>eC b\/b=a) (env.set i J) Z b/\(upd H a (.frz o (.dT ws))) b≠J) (λb=>¬Ow (env.set i J) Z b) (XI a o ws) (vw eD) (upd H a (.frz o (.dT ws))):=
   hv aF (rp.gen dN λb q _=>(VI b).mpr q) (λb u hb q=>by
    rcases q with q|q
    .exactλ⟨j,h1,h2⟩=>q.2 j h1.ol.top h2
    .exactλw=>E2.fB w hb q) λb q hb=> ⟨q,hb⟩
  refine o7 hc S I2 h2 h3 f2 T yX (λC s' H' =>B.g cl C s' H' fp) (λC s' H' =>B.t cl C s' H' fp) (λC s' H' =>B.e cl C s' H' fp) E2 io yH hz yj ?_;intro p C s' H' m IX hm hC hF G;obtain⟨g1,g2,vs,g3,g4⟩:=G;have hA:=g1 a _ aF;have y1:p≠a:=λz=>by subst z;rw[aF] at g2;cases g2
  refine⟨m,hm,λh' xM => ⟨.ref p,upd H' a (.dT ws),(IX.HI hF xM).Pd hA zB,rfl, ?_⟩⟩;have sm:cb H (upd H' a (.dT ws)):=λb u q=>by
   by_cases z:b=a
   .subst z;rw[aF,<-q,hH]
   .rw[ar z];exact g1 b u (by rw[ar z];exact q)
  have Wi :(upd H' a (.dT ws)) p=U (.lst vs):=by rw[ar y1];exact g3
  refine k _ _ sm ⟨p,rfl,by rw[ar y1] at g2;exact g2,⟨_,Wi,trivial⟩,rfl,.lst (.inl Wi) ⟨g4.1,λj d v e1 e2=> ?_⟩⟩;have r1:=Rep.Pd hA (λq=>na ((VI a).mp q.1)) (g4.2 j d v e1 e2);exact r1.imp λb q=> ⟨(VI b).mp q.1,q.2⟩
 .cases e
def vF{X:Cx}(hN:X.N[i]? =U x)(hv:Vis X.env.scope x)(hc:X.calm=O)(S:iq X scope N n az)
  (yH:oU gd)(B:Blk X scope N (.Tuple elts x1 tp) elt ifs gd t f)(hd:autoParam ((x==("__debug__":Str))=M) Za2._auto_1)(xn:autoParam ((x==("__classdict__":Str))=M) Za2._auto_1)
  (eW:autoParam (attributeBase (.Name x px) "items" X.env (eval (.Name x px) X.env)=eval (.Name x px) X.env) Za1._auto_1)(eV:autoParam ((apos.endLine==eE.line)=O) Za1._auto_1)
  (hs:∀y,foldedSetIterable (.Call (.Attribute (.Name x px) "items" apos) [] [] eE) X.env y=pure y:=by intro _;rfl):
  PEd X (.ListComp elt [⟨.Tuple elts x1 tp,.Call (.Attribute (.Name x px) "items" apos) [] [] eE,ifs,0⟩] scope pos) (vp cP i n az gd t f):=Iq hc S (Al (ka hN hv hd xn) eW eV) qS yH B hs
end
section
variable{es:Array DictEntry}
def Prs(es:Array DictEntry)(lo:Yd)(h:Yi)(as:List Yd):Prop:=as.Nodup/\∀(j:Nat) (a:Yd),as[j]? =U a->lo<a/\∃en,es[j]? =U en/\h.get? a=U {cls:= .type "tuple",data:= .seq #[en.key,en.val]}
def Prs.lt{lo a:Yd}{h:Yi}{as:List Yd}(x:Prs es lo h as)(m:a∈as):a<h.objs.size:=by
 obtain⟨j,hj⟩:=GdE.mp m;obtain⟨_,_,_,q⟩:=x.2 j a hj;exact GaA q
end
open PySem.W (KatLex KatTups kas_sort kas_ask kat_kind kat_lt kat_one kat_run kat_snds BoolBack kat_lt_int)
def Ir{k:Nat}(nb:HZ env=O)(e:env[k]? =U (U (.bor d))):False:=by
 have:=Gaq.mp nb _ (Gau e);cases this
def aw.Iu{K:ak}{H0 H:Hp}{eC:Yd->Prop}(E:aw K H0 eC env Z H)(hb:eC a)(h0:H0 a=J)(h:H a=U o)(ho:¬isT o)(nb:HZ env=O):aw K H0 eC env Z (upd H a o'):=by
 have dN:ij (Cln eC env Z) H (upd H a o'):=λb x hx q=>by
  have:b≠a:=by
   rintro rfl;rcases q with q|q
   .exact q.1 hb
   .rw[h] at hx;cases hx;exact ho q
  rw[ar this];exact hx
 refine⟨λb x hx=> ?_,E.len,λb q z=> ?_,λk dk e=> ?_,λk dk e=> ?_,λk dk e=>(Ir nb e).elim,E.dj⟩
 .have:b≠a:=by rintro rfl;rw[h0] at hx;cases hx
  rw[ar this];exact E.same b x hx
 .by_cases m:b=a
  .subst m;rw[aF] at z;cases z
  .rw[ar m] at z;exact E.bad b q z
 .obtain⟨u,h1,h2⟩:=E.sh k dk e;exact⟨u,h1,h2.gen dN λ_ f _=>f⟩
 .obtain⟨b,h1,h2,h3,h4,h5,h6⟩:=E.ow k dk e;have m:b≠a:=λz=>h3 (z▸hb);refine⟨b,h1,h2,h3, ?_,h5,h6.gen dN (λ_ f _=>f) λc ec _ x hx=> ?_⟩
  .unfold Wr;rw[ar m];exact h4
  .cases ec;rw[ar m];exact hx
def aw.hide{K:ak}{env:Env}{Z:St}(E:aw K H0 eC env Z H)(i:Nat)(v:V):aw K H0 eC (env.set i J) (Z.set i (U v)) H:=by
 have hU:∀{k:Nat},b5 (env.set i J)[k]? ->i≠k/\b5 env[k]? :=λ{k} t=>by
  by_cases q:i=k
  .subst q;by_cases z:i<env.length
   .rw[cM z] at t;exact t.elim
   .rw[GbE (by simpa using Nat.le_of_not_lt z)] at t;exact t.elim
  .simp_all
 have xf:∀b,Cln eC env Z b->Cln eC (env.set i J) (Z.set i (U v)) b:=λb h=> ⟨h.1,λk t e=>by
  obtain⟨q,t⟩:=hU t;rw[Gam q] at e;exact h.2 k t e⟩
 refine⟨E.same,by simp[E.len],E.bad,λk dk e=> ?_,λk dk e=> ?_,λk dk e=> ?_,λk l b t1 t2 e1 e2=> ?_⟩
 .rcases eG e with⟨q,e⟩| ⟨q,e⟩
  .cases e
  .obtain⟨u,h1,h2⟩:=E.sh k dk e;exact⟨u,by rw[Gam q];exact h1,h2.imp xf⟩
 .have e' :i≠k/\(env[k]? =U (U (.own dk))\/env[k]? =U (U (.lok dk))):=by
   rcases e with e|e
   .rcases eG e with⟨q,e⟩| ⟨q,e⟩
    .cases e
    .exact⟨q,.inl e⟩
   .rcases eG e with⟨q,e⟩| ⟨q,e⟩
    .cases e
    .exact⟨q,.inr e⟩
  obtain⟨b,h1,h2,h3,h4,h5,h6⟩:=E.ow k dk e'.2;exact⟨b,by rw[Gam e'.1];exact h1,h2,h3,h4,h5,h6.imp xf⟩
 .rcases eG e with⟨q,e⟩| ⟨q,e⟩
  .cases e
  .obtain⟨b,h1,hw,h2,h3⟩:=E.bo k dk e;exact⟨b,by rw[Gam q];exact h1,hw,h2,h3.imp xf⟩
 .obtain⟨q1,yV⟩:=hU t1.top;obtain⟨q2,t2⟩:=hU t2;rw[Gam q1] at e1 t1;rw[Gam q2] at e2;exact E.dj k l b t1 t2 e1 e2
def aw.Dg{K:ak}{H H' :Hp}{eC New:Yd->Prop}(E:aw K H0 eC env Z H)(s:cb H H')(h1:∀b,New b->H b=J)(h2:∀b,New b->H' b≠J):aw K H0 (λb=>eC b\/New b) env Z H' :=by
 have xf:∀b,Cln eC env Z b->H b≠J->Cln (λb=>eC b\/New b) env Z b:=λb h n=> ⟨λq=>q.elim h.1 λz=>n (h1 b z),h.2⟩;refine⟨E.same.trans s,E.len,λb q z=>q.elim (λq=>E.bad b q (s.free z)) λq=>h2 b q z,λk dk e=> ?_,λk dk e=> ?_,λk dk e=> ?_,E.dj⟩
 .obtain⟨u,q1,q2⟩:=E.sh k dk e;exact⟨u,q1,q2.gen (.XY s) xf⟩
 .obtain⟨b,q1,q2,q3,q4,q5,q6⟩:=E.ow k dk e;exact⟨b,q1,q2,λz=>z.elim q3 λz=>q4.there (h1 b z),q4.same s,q5,q6.gen (.XY s) xf λc ec _ x hx=>s c x hx⟩
 .obtain⟨b,q1,qw,q2,q3⟩:=E.bo k dk e;exact⟨b,q1,qw.same s,q2,q3.gen (.XY s) xf λc ec _ x hx=>s c x hx⟩
abbrev SM:=StateT SortSt Sem
open PySem.W (kas_item)
def So(it:Array Keyed)(a:Array Keyed)(p:List Nat):Prop:=a=(p.map (kas_item it)).toArray/\∀i∈p,i<it.size
def So.lt{it:Array Keyed}{k:Nat}(R:So it a p)(h:p[k]? =U i):i<it.size:=R.2 i (Gau h)
open PySem.W (kas_item kas_swaps_map)
structure SS(Y:SortKind)(it:Array Keyed)(z:SortSt)(p:Array Nat):Prop where
 kind:kindOf z=Y
 arr:arrOf z=p.map (kas_item it)
 fail:failedOf z=J
 ok:∀i∈p.toList,i<it.size
noncomputable def Rk(rk:Nat->Int)(p:Array Nat)(i:Nat):Int:=rk (p.getD i 0)
structure Ag(lo hi:Nat)(p p' :Array Nat):Prop where
 perm:p'.Perm p
 out:∀k,k<lo\/hi<=k->p'[k]? =p[k]?
theorem Ag.rk{rk:Nat->Int}{lo hi k:Nat}{p q:Array Nat}(a:Ag lo hi p q)(h:k<lo\/hi<=k):Rk rk q k=Rk rk p k:=by
 unfold Rk;have:=a.out k h;simp_all
def vG{s:Yg}{ds:List D}(hK:Paired (jQ s.heap) ds vs)(hok:XX ds=O):vt prog w A E s (ds.map code) vs:=λh2 Q hQ=>by
 have hl:=hK.length;exact uf hK hok (by lia) λY hY=>hQ Y λi j C hi hj hc=>Ab hK hok hY i j C (by lia) (by lia) hc
def Fy{h G:Yi}(kG:∀b o,h.get? b=U o->G.get? b=U o)(k:jQ h d v):jQ G d v:=by
 cases d with
 |int i=>exact k
 |tup fs=>
  obtain⟨b,o,m,us,h1,h2,h3,h4⟩:=k;exact⟨b,o,m,us,h1,kG b o h2,h3,h4⟩
 |_=>exact k
def Ris(xs:Array Nat):Prop:=∀i j:Nat,i<j->∀x y,xs[i]? =U x->xs[j]? =U y->x<y
def Bel(xs:Array Nat)(j r:Nat):Prop:=r<=xs.size/\(∀(i x:Nat),i<r->xs[i]? =U x->x<j)/\∀(i x:Nat),r<=i->xs[i]? =U x->j<=x
theorem qT{xs:Array Nat}(hr:Ris xs):∀f lo hi,lo<=hi->hi<=xs.size->hi -lo<=f->(∀i x,i<lo->xs[i]? =U x->x<j)->(∀i x,hi<=i->xs[i]? =U x->j<=x)->Bel xs j (SetTable.below.go xs j f lo hi)
 |0,lo,hi,h1,h2,h3,h4,h5=>by
  have e:lo=hi:=by lia
  subst e;exact⟨h2,h4,h5⟩
 |f+1,lo,hi,h1,h2,h3,h4,h5=>by
  unfold SetTable.below.go;by_cases c:lo<hi
  .rw[Gan c];have hm:(lo+hi)/2<xs.size:=by lia
   have gm:=GaI hm;have gd:xs.getD ((lo+hi)/2) j=xs[(lo+hi)/2]:=by simp[hm]
   dsimp only;rw[gd];by_cases c2:xs[(lo+hi)/2]<j
   .rw[Gan c2];refine qT hr f _ _ (by lia) h2 (by lia) (λi x xa hx=> ?_) h5;rcases Gbh i ((lo+hi)/2) with q|q
    .have:=hr i _ q x _ hx gm;lia
    .rw[show i=(lo+hi)/2 by lia,gm] at hx;cases hx;exact c2
   .rw[Gah c2];refine qT hr f _ _ (by lia) (by lia) (by lia) h4 (λi x xa hx=> ?_);rcases Gbh ((lo+hi)/2) i with q|q
    .have:=hr _ i q _ x gm hx;lia
    .rw[show i=(lo+hi)/2 by lia,gm] at hx;cases hx;lia
  .rw[Gah c];have e:lo=hi:=by lia
   subst e;exact⟨h2,h4,h5⟩
def jD(hr:Ris xs):Bel xs j (SetTable.below xs j):=
 qT hr xs.size 0 xs.size (Gba _) (Gao _) (by lia) (λi x hi=>by lia) (λi x hi hx=>by
  rw[Gcf hi] at hx;cases hx)
def vH{xs:Array Nat}(hp:p<=xs.size):(SetTable.insertAt xs p j)[i]? =if i<p then xs[i]? else if i=p then U j else xs[i -1]? :=by
 have e:(SetTable.insertAt xs p j)[i]? =(SetTable.insertAt xs p j).toList[i]? :=by simp
 rw[e,Gcv];have l1:(xs.toList.take p).length=p:=by simp;lia
 by_cases c:i<p
 .rw[Gan c,GaR (by rw[l1];exact c),Gcs c];simp
 .rw[Gah c,GaM (by rw[l1];lia),l1];by_cases c2:i=p
  .simp_all
  .rw[Gah c2,show i -p=(i -p -1)+1 by lia,GcB,Gdi,show p+(i -p -1)=i -1 by lia];simp
def BN(hr:Ris xs)(hn:xs[SetTable.below xs j]? ≠U j):Ris (SetTable.insertAt xs (SetTable.below xs j) j):=by
 obtain⟨b1,b2,b3⟩:=jD (j:=j) hr;generalize SetTable.below xs j=p at*;have b3' :∀(i x:Nat),p<=i->xs[i]? =U x->j<x:=λi x hi hx=>by
  have h1:=b3 i x hi hx;rcases Gbh j x with q|q
  .exact q
  .have e:x=j:=by lia
   subst e;rcases Gbh p i with c|c
   .obtain⟨y,hy⟩:∃y,xs[p]? =U y:=⟨xs[p]'(by
     have:i<xs.size:=by
      rcases Gbh i xs.size with z|z
      .exact z
      .rw[Gcf z] at hx;cases hx
     lia),GaI _⟩
    have h2:=b3 p y (Gao _) hy;have h3:=hr p i c y x hy hx;lia
   .rw[show i=p by lia] at hx;exact absurd hx hn
 intro i k hik x y hx hy;rw[vH b1] at hx hy;by_cases c1:i<p
 .rw[Gan c1] at hx;by_cases c2:k<p
  .rw[Gan c2] at hy;exact hr i k hik x y hx hy
  .rw[Gah c2] at hy;have h1:=b2 i x c1 hx;by_cases c3:k=p
   .rw[Gan c3] at hy;cases hy;exact h1
   .rw[Gah c3] at hy;have:=b3' (k -1) y (by lia) hy;lia
 .rw[Gah c1,] at hx;rw[Gah (by lia)] at hy;by_cases c2:i=p
  .rw[Gan c2] at hx;cases hx
   rw[Gah (by lia)] at hy;exact b3' (k -1) y (by lia) hy
  .rw[Gah c2] at hx;rw[Gah (by lia)] at hy;exact hr (i -1) (k -1) (by lia) x y hx hy
def Tb(bt:Bool)(t:SetTable):Prop:=t.led= !bt/\(t.plain=O->Ris t.place)
def An{g:Nat->Option Nat}:Ris (((List.range n).filterMap λj=>(g j).map λk=>(j,k)).map (·.1)).toArray:=by
 have pw:∀(l:List Nat),l.Pairwise (· < ·)->((l.filterMap λj=>(g j).map λk=>(j,k)).map (·.1)).Pairwise (· < ·):=by
  intro l;induction l with
  |nil=>intro _;exact List.Pairwise.nil
  |cons a l ih=>
   intro h;have h' :=GaV.mp h;rw[Gcw];cases hg:g a with
   |none=>simpa[hg] using ih h'.2
   |some k=>
    refine GaV.mpr ⟨λb hb=> ?_,ih h'.2⟩;obtain⟨q,hq,rfl⟩:=Gas.mp hb;obtain⟨j,hj,e⟩:=Gdf.mp hq;cases hgj:g j with
    |none=>rw[hgj] at e;cases e
    |some k' =>rw[hgj] at e;cases e;exact h'.1 j hj
 have:=pw (List.range n) List.pairwise_lt_range;intro i j yl x y hx hy;generalize ((List.range n).filterMap λj=>(g j).map λk=>(j,k)).map (·.1)=l at*;have zK :l[i]? =U x:=by simpa using hx
 have hy' :l[j]? =U y:=by simpa using hy
 obtain⟨h1,rfl⟩:=Gak.mp zK;obtain⟨h2,rfl⟩:=Gak.mp hy';exact Gdd.mp this i j h1 h2 yl
def SAt(g:Yi)(a:Yd)(es:Array (Int×Ye))(t:SetTable):Prop:=∃o ep,g.get? a=U o/\o.ExactSet/\o.data= .set es ep t
def Dh{z:Yg}{fs:Array (Int×Ye)}(x:SAt z.heap a es t)(b:fs.size<=sizeLine)(h:∀g,SAt g a fs u/\Heap.SameBut a z.heap g->Q () {z with heap:=g}):wpAny (model prog w) A (storeSet a fs u) Q E z:=by
 obtain⟨o,ep,ho,hx,hd⟩:=x;have q:=Gbg (Obj.putSet fs u) ho (by rw[putSet_of fs u hd];rfl);rw[putSet_of fs u hd] at q;exact wpAny_storeSet_of ho hd (h _ ⟨⟨_,_,q,hx,rfl⟩,GbD ..⟩) b
theorem uh{A:Yj}(XI:Nat->Yg->Prop)
  (step:∀i s Q E,i<n->XI i s->(∀v s',(∀Q' E',(∀b y,XI (i+1) y->Q' b y)->wpAny (model prog w) A.in1 (setAdd S v) Q' E' s')->Q (U v) s')->wpAny (model prog w) A.in1 (pyNext (.ref I)) Q E s)
  (stop:∀s Q E,XI n s->(∀s',R (.ok (.ret .none)) s' ->Q J s')->wpAny (model prog w) A.in1 (pyNext (.ref I)) Q E s):
  ∀k i s,i+k=n->XI i s->codeAny (model prog w) A (.builtin "set.update.loop" ⟨[.ref S,.ref I],[]⟩) R s
 |0,i,s,hk,j=>by
  subst hk;apply GbW Gdm;exact Gab (stop s _ _ j λs' r=>Gad r)
 |k+1,i,s,hk,j=>by
  apply GbW Gdm;exact Gab (step i s _ _ (by lia) j λv s' add=>Gab (GbM (add _ _ λb y q=>Gad ⟨Gdz PyProof.Rows.F.plain_set_update_loop _,uh XI step stop k (i+1) y (by lia) q⟩)))
noncomputable def lx(w:World):Bool:=w.params.followText "set-order"
section
variable{w:World}
abbrev qU(w:World):Yk:={cls:= .type "set",dict:=J,data:= .set #[] 0 (.fresh 0 0 (!lx w))}
def after(h:codeAny (model prog w) A c (wants Q E) z)(k:∀v s',Q v s' ->R (.ok (.ret v)) s')(e:∀x s',E x s' ->R (.error x) s'):codeAny (model prog w) A c R z:=by
 refine codeAny_mono h ?_;rintro(x|(v|_|_|_)) s' q
 .exact e x s' q
 all_goals first|exact k _ s' q|exact q.elim
def Iv{z:Yg}(a:Ye)(h:R (.ref z.heap.objs.size) {z with heap:=z.heap.push (qU w)}):codeAny (model prog w) A (.call (.builtin "set.__new__") ⟨[.type "set",a],[]⟩) (wants R E) z:=by
 have c:=PySem.F.newCall_set_1 a;have q:Code.quiet (.builtin "set.__new__" ⟨[.type "set",a],[]⟩)=O:=Gdz PySem.F.plain_set_new _;have sub:=PySem.sub_set_self;apply codeAny_of_tree;refine Gab (Gdb c (Gad ⟨q,GbW PySem.F.entry_set_new ?_⟩))
 wp_walk using wpAny_askSetting
 exact h
def Pf{A:Yj}{z:Yg}(hl:z.heap.IsList l items)
  (h:∀h1,h1.get? z.heap.objs.size=U (qU w)->h1.IsListIter (z.heap.objs.size+1) l 0->(∀b o,z.heap.get? b=U o->h1.get? b=U o)->
   codeAny (model prog w) A.in1.in1 (.builtin "set.update.loop" ⟨[.ref z.heap.objs.size,.ref (z.heap.objs.size+1)],[]⟩) (wants (λ_ s' =>R (.ref z.heap.objs.size) s') E) {z with heap:=h1}):
  wpAny (model prog w) A (call (.type "set") [.ref l]) R E z:=by
 obtain⟨c,tl,mro⟩:=GbG.mro;have made:=GbG.made;have sub:=GbG.sub;have nt:=GbG.notType;have cc:=GbG.canCreate;have ct:=PySem.F.typeCall_set_1 (.ref l);apply wpAny_call;apply codeAny_of_tree;refine Gad ⟨Code.quiet_builtin _ (by decide+kernel), ?_⟩;apply GbW PySem.F.entry_type_call;rw[Around.under_plain (weight_type_call_type "set" [.ref l] []) rfl]
 wp_walk
 refine after (Iv (.ref l) (R:=λo y=>o= .ref z.heap.objs.size/\y={z with heap:=z.heap.push (qU w)}) ⟨rfl,rfl⟩) ?_ λ_ _ q=>q;rintro _ _ ⟨rfl,rfl⟩;have eS:(z.heap.push (qU w)).get? z.heap.objs.size=U (qU w):=Gay _ rfl;have tS:Shared.TypeIs {z with heap:=z.heap.push (qU w)} (.ref z.heap.objs.size) "set":=⟨_,eS,rfl⟩
 have lo:=GbG.init.lookup;have bi:=GbG.init.bind (.ref z.heap.objs.size)
 wp_walk
 refine after (Q:=λr s' =>r= .none/\R (.ref z.heap.objs.size) s') (E:=E) ?_ (λv s' q=> ?_) λ_ _ q=>q
 .apply codeAny_call_builtin GbG.init.plain PySem.F.entry_set_init;apply PySem.check_set_init_1 tS;obtain⟨⟨oc,od,dt,sl⟩,ho,hc,n,hd⟩:=hl;cases hc;cases hd
  have el:=Gag (qU w) ho;have s1:=PySem.F.sub_list_set;have s2:=PySem.F.sub_list_frozenset;have nd:(Value.type "list"==Value.type "dict")=M:=rfl;have il:(z.heap.push (qU w)).IsList l items:=⟨_,el,rfl,n,rfl⟩
  clear mro made nt cc ct lo bi
  wp_walk using wpAny_pyIter_list il
  have sz:(z.heap.push (qU w)).objs.size=z.heap.objs.size+1:=GbZ ..;rw[show Shared.heap {z with heap:=z.heap.push (qU w)}=z.heap.push (qU w) from rfl,sz];exact after (h _ (Gag _ eS) ⟨_,sz▸Gay _ rfl,rfl,rfl⟩ λb o q=>Gag _ (Gag _ q)) (λv s' q=>Gad (Gad ⟨rfl,q⟩)) λ_ _ q=>q
 .obtain⟨rfl,q⟩:=q
  wp_walk
  exact q
end
namespace Fr
def ui:Manifest.owners.lookup (String.ofList ['r', 'o', 't', 'a', 'r', 'e', 't', 'i', '_', 't', 'e', 's'].reverse)=U Manifest.sig_set_iterator:=by kernel_rfl
def qV:isSubtype (.type "set_iterator") (.type "set_iterator")=pure O:=by rw[isSubtype_type];kernel_rfl
def cg:PySem.Slot "set_iterator" "__next__" "set_iterator.__next__":=
 .of (n:="__next__") (by rw[GdN];kernel_rfl) (by decide+kernel) (by decide+kernel) (by decide+kernel) (.inl (by decide+kernel)) qV
def dP:entryFor table "set_iterator.__next__"=U Builtin.«set_iterator.__next__» :=entryFor_of_tree (by kernel_rfl)
def fh(a:Ye):argsOk "set_iterator.__next__" ⟨[a],[]⟩:=by
 unfold argsOk;rw[signature?_of (n:=['_', '_', 't', 'x', 'e', 'n', '_', '_']) (by kernel_rfl) ui]
 kernel_rfl
def qW:PySem.Slot "set_iterator" "__iter__" "set_iterator.__iter__":=
 .of (n:="__iter__") (by rw[GdN];kernel_rfl) (by decide+kernel) (by decide+kernel) (by decide+kernel) (.inl (by decide+kernel)) qV
def pJ(a:Ye):argsOk "set_iterator.__iter__" ⟨[a],[]⟩:=by
 unfold argsOk;rw[signature?_of (n:=['_', '_', 'r', 'e', 't', 'i', '_', '_']) (by kernel_rfl) ui]
 kernel_rfl
def oe:entryFor table "set_iterator.__iter__"=U Builtin.«dict_keyiterator.__iter__» :=
 entryFor_alias (id' :="dict_keyiterator.__iter__") (by kernel_rfl) (by decide+kernel) (by decide+kernel) (by kernel_rfl)
def qX:isSubtype (.type "set") (.type "set")=pure O:=by rw[isSubtype_type];kernel_rfl
def Lr:Manifest.owners.lookup (String.ofList ['t', 'e', 's'].reverse)=U Manifest.sig_set:=by kernel_rfl
def Ao:PySem.Slot "set" "__iter__" "set.__iter__":=
 .of (n:="__iter__") (by rw[GdN];kernel_rfl) (by decide+kernel) (by decide+kernel) (by decide+kernel) (.inl (by decide+kernel)) qX
def Ls:PySem.Slot "set" "__len__" "set.__len__":=
 .of (n:="__len__") (by rw[GdN];kernel_rfl) (by decide+kernel) (by decide+kernel) (by decide+kernel) (.inl (by decide+kernel)) qX
def sT(a:Ye):argsOk "set.__iter__" ⟨[a],[]⟩:=by
 unfold argsOk;rw[signature?_of (n:=['_', '_', 'r', 'e', 't', 'i', '_', '_']) (by kernel_rfl) Lr]
 kernel_rfl
def qY:entryFor table "set.__iter__"=U Builtin.«frozenset.__iter__» :=
 entryFor_alias (id' :="frozenset.__iter__") (by kernel_rfl) (by decide+kernel) (by decide+kernel) (by kernel_rfl)
end Fr
theorem md{α:Type}:∀(xs:List α) (i:Nat) h,(xs[i]::xs.eraseIdx i).Perm xs
 |x::xs,0,h=>by simp
 |x::xs,i+1,h=>by
  have h' :i<xs.length:=by simpa using h
  exact(List.Perm.swap _ _ _).trans ((md xs i h').cons x)
theorem Di:∀(f k:Nat) (left:List α) (out:Array α),left.length=f->(pickOrder.go next f k left out).toList.Perm (out.toList++left)
 |0,k,left,out,e=>by
  have:left=[]:=Gbo.mp e;subst this;simp[pickOrder.go]
 |f+1,k,left,out,e=>by
  have hl:next k%left.length<left.length:=GcX _ (by lia);unfold pickOrder.go;rw[Gac hl];refine(Di f (k+1) _ _ (by rw[List.length_eraseIdx_of_lt hl];lia)).trans ?_;rw[Array.toList_push,Gbe];refine List.Perm.append_left _ ?_;exact(md _ _ hl)
def uj(next:Nat->Nat)(xs:Array α):(pickOrder next xs).toList.Perm xs.toList:=by
 have:=Di (next:=next) xs.size 0 xs.toList #[] (by simp)
 simpa[pickOrder] using this
section
variable{w:World}
def vI(n:Nat):∀(xs:List α) z (Q:List α->Yg->Prop),xs.length=n->(∀ys d,ys.Perm xs->Q ys {z with drawn:=d})->wpAny (model prog w) A (drawOrder n xs) Q E z:=by
 induction n with
 |zero=>
  intro xs z Q e h;have:xs=[]:=Gbo.mp e;subst this;exact Gad (h [] z.drawn (List.Perm.refl _))
 |succ n ih=>
  intro xs z Q e h;cases xs with
  |nil=>cases e
  |cons x xs=>
  refine Gab (λΓ p hΓ=> ⟨Nat.succ_ne_zero _, ?_⟩)
  suffices hs:∀(i:Nat),i<(x::xs).length->wpAny (model prog w) A (match(x::xs)[i]? with|some y=>(do return y::(<-drawOrder n ((x::xs).eraseIdx i)))|none=>unsupported "internal:drawOrder") Q E {z with drawn:=z.drawn.bump .order} from hs _ (GcX _ (Gcu _))
  intro i hi;rw[Gac hi];refine Gab (ih _ _ _ (by rw[List.length_eraseIdx_of_lt hi];lia) λys d hp=> ?_);exact Gad (h _ d ((hp.cons _).trans (md _ _ hi)))
def mh(h:Yi)(a:Yd)(es:Array (Int×Ye))(ep:Nat)(t:SetTable):Prop:=∃o,h.get? a=U o/\o.ExactSet/\o.data= .set es ep t
def mh.at{h h' :Yi}(x:mh h a es ep t)(e:∀o,h.get? a=U o->h'.get? a=U o):mh h' a es ep t:=let⟨o,ho,r⟩:=x;⟨o,e _ ho,r⟩
def mh.ty{z:Yg}(x:mh z.heap a es ep t):z.TypeIs (.ref a) "set":=let⟨o,ho,hc,_⟩:=x;⟨o,ho,hc.1⟩
inductive Way (w:World) (a:Yd) (es:Array (Int×Ye)) (ep:Nat) (t:SetTable) (h:Yi) (tp:Yd):Ye->Nat->List (Int×Ye)->Prop
 |text {i:Nat}:lx w=O->Way w a es ep t h tp (rawInt 0) i (pickOrder (w.params.setOrder a ep) es).toList
 |drawn {i:Nat} {ps:List Nat}:IsTup h tp (ps.map λ(j:Nat)=>rawInt j).toArray->ps.Perm (List.range es.size)->Way w a es ep t h tp (.ref tp) i (ps.map λj=>es.getD j (0,.none))
 |plain {i:Nat} {s:Nat}:lx w=M->¬(t.plain=M/\es.size>1)->Ris t.place->t.led=O->(s=if i=0 then 0 else t.place.getD (i -1) 0+1)->Way w a es ep t h tp (rawInt s) i es.toList
def gQ(w:World)(h:Yi)(it a tp:Yd)(es:Array (Int×Ye))(ep:Nat)(t:SetTable)(xs:List (Int×Ye))(i:Nat):Prop:=
 ∃o first,h.get? it=U o/\o.cls= .type "set_iterator"/\o.data= .fields #[first,rawInt i,.ref a,rawInt es.size,rawInt ep]/\Way w a es ep t h tp first i xs
def Way.perm{es:Array (Int×Ye)}{xs:List (Int×Ye)}(x:Way w a es ep t h tp f i xs):xs.Perm es.toList:=by
 cases x with
 |text _=>exact uj _ _
 |drawn _ hp=>
  refine(hp.map _).trans ?_;have:(List.range es.size).map (λj=>es.getD j (0,Value.none))=es.toList:=by
   apply GcW
   .simp
   .intro i h1 h2;simp at h1 h2⊢;simp[h2]
  rw[this]
 |plain _ _ _ _ _=>exact List.Perm.refl _
def below_at{xs:Array Nat}(hr:Ris xs)(hi:i<=xs.size):SetTable.below xs (if i=0 then 0 else xs.getD (i -1) 0+1)=i:=by
 obtain⟨h1,h2,h3⟩:=jD hr;generalize SetTable.below xs (if i=0 then 0 else xs.getD (i -1) 0+1)=r at*;by_cases c:i=0
 .subst c;rcases Nat.eq_zero_or_pos r with q|q
  .exact q
  .have:=h2 0 xs[0] q (GaI _);simp_all
 .have hg:xs.getD (i -1) 0=xs[i -1]'(by lia):=by simp[show i -1<xs.size by lia]
  rw[hg] at h2 h3;have g1:xs[i -1]? =U (xs[i -1]'(by lia)):=GaI _;have a1:i<=r:=by
   rcases Gbh r i with q|q
   .have:=h3 (i -1) _ (by lia) g1;lia
   .exact q
  have a2:r<=i:=by
   rcases Gbh i r with q|q
   .have g2:xs[i]? =U (xs[i]'(by lia)):=GaI _;have b1:=h2 i _ q g2;have b2:=hr (i -1) i (by lia) _ _ g1 g2;lia
   .exact q
  lia
def gQ.ty{z:Yg}(x:gQ w z.heap it a tp es ep t xs i):z.TypeIs (.ref it) "set_iterator":=let⟨o,f,ho,hc,_⟩:=x;⟨o,ho,hc⟩
def kR(h:Q (lx w) z):wpAny (model prog w) A setsByText Q E z:=Gab (wpAny_askSetting (Gad h))
def qZ{z:Yg}{es:Array (Int×Ye)}{t:SetTable}(hm:mh z.heap a es ep t)(hf:t.fits es.size=O)
  (h1:lx w=M)(h2:¬(t.plain=M/\es.size>1))(h3:Ris t.place)(h4:t.led=O)(hi:i<=es.size)(hs:s=if i=0 then 0 else t.place.getD (i -1) 0+1)
  (h:Q (es[i]?.map λe=>(e.2,t.place.getD i 0+1)) z):wpAny (model prog w) A (setNext a s i ep) Q E z:=by
 obtain⟨o,ho,hx,hd⟩:=hm;have xB:t.place.size=es.size:=by
  unfold SetTable.fits at hf;lia
 refine Gab (GaT ho hd hf (Gab (kR ?_)));rw[h1];show wpAny _ _ (if(!t.plain&&decide (es.size>1))=O then _ else _) _ _ z;rw[Gah (by intro q;simp at q;exact h2 q)];show wpAny _ _ ((if(!t.led&& !es.isEmpty)=O then unsupported "set:maker-not-led" else pure ())>>=_) _ _ z;rw[Gah (by rw[h4];simp)];have hb:SetTable.below t.place s=i:=by rw[hs];exact below_at h3 (by lia)
 rw[hb];refine Gad ?_;rcases Gbh i es.size with c|c
 .simp_all
 .rw[Gcf c] at h⊢;exact h
def uk{z:Yg}{es:Array (Int×Ye)}{t:SetTable}(hm:mh z.heap a es ep t)(hf:t.fits es.size=O)
  (h1:lx w=O)(h:Q ((pickOrder (w.params.setOrder a ep) es)[i]?.map λe=>(e.2,s)) z):wpAny (model prog w) A (setNext a s i ep) Q E z:=by
 obtain⟨o,ho,hx,hd⟩:=hm;refine Gab (GaT ho hd hf (Gab (kR ?_)));rw[h1];simp only[Gdo];rw[Gah (by simp)];refine Gab ?_;refine Gab (GaT ho hd hf (Gab (kR ?_)));rw[h1];refine Gab (wpAny_askSetting (Gad ?_));exact Gad h
def BO{z:Yg}{es:Array (Int×Ye)}{t:SetTable}(hm:mh z.heap a es ep t)(hf:t.fits es.size=O)(hj:j<es.size)
  (h:Q es[j].2 z):wpAny (model prog w) A (setNextDrawn a j ep) Q E z:=by
 obtain⟨o,ho,hx,hd⟩:=hm;refine Gab (GaT ho hd hf ?_)
 try dsimp only
 rw[Gah (by simp),GaI hj];exact Gad h
def Fz(x:IsTup h tp vs)(xy:tp≠it)(sb:Heap.SameBut it h h'):IsTup h' tp vs:=by
 obtain⟨o,ho,r⟩:=x;exact⟨o,(sb.2 tp xy).trans ho,r⟩
def Iw{z:Yg}{es:Array (Int×Ye)}{t:SetTable}(hit:gQ w z.heap it a tp es ep t xs i)(hm:mh z.heap a es ep t)(hf:t.fits es.size=O)(xy:tp≠it)(hx:xs[i]? =U e)
  (hQ:∀h',gQ w h' it a tp es ep t xs (i+1)->Heap.SameBut it z.heap h' ->Q (U e.2) {z with heap:=h' }):wpAny (model prog w) A (pyNext (.ref it)) Q E z:=by
 obtain⟨o,first,ho,hc,hd,hw⟩:=id hit;obtain⟨os,yd,UN,xq⟩:=id hm;have hl:i<es.size:=by
  have h1:=(Gak.mp hx).1;have:=hw.perm.length_eq;simp at this;lia
 unfold pyNext;refine Gab (wpAny_attempt (Gbs (name:=Str.ofString "__next__") hit.ty Fr.cg (Gbd Fr.cg hit.ty Fr.dP ?_ (Fr.fh _))));refine Gab (Gdb (a:=(Value.ref it,[])) rfl ?_);refine Gab (wpAny_fieldsOf ho hd ?_);refine Gab (Gab (GaT yd xq hf (Gad ?_)));rw[Gah (by simp)];have up:∀(f:Ye),Way w a es ep t z.heap tp f (i+1) xs->∀h' o',h'.get? it=U o' ->o'.cls= .type "set_iterator"->o'.data= .fields #[f,rawInt ((i+1:Nat):Int),.ref a,rawInt es.size,rawInt ep]->Heap.SameBut it z.heap h' ->gQ w h' it a tp es ep t xs (i+1):=λf Xb h' o' g1 g2 g3 sb=>by
  refine⟨o',f,g1,g2,g3, ?_⟩;cases Xb with
  |text q=>exact .text q
  |drawn q1 q2=>exact .drawn (Fz q1 xy sb) q2
  |plain q1 q2 q3 q4 q5=>exact .plain q1 q2 q3 q4 q5
 cases hw with
 |text hb=>
  refine Gab (uk hm hf hb ?_);have zK :(pickOrder (w.params.setOrder a ep) es)[i]? =U e:=by simpa using hx
  simp only[Gbq,zK,Gcj];refine Gab (GcS ho hd (by simp) ?_);have xT:=Gbg (Obj.mapFields (·.setIfInBounds 0 (rawInt ((Int.toNat 0:Nat):Int)))) ho (Gck (Gbt hd _));have hd2:=Gbt hd (·.setIfInBounds 0 (rawInt ((Int.toNat 0:Nat):Int)));refine Gab (GcS (s:={z with heap:=_}) xT hd2 (by simp) ?_);have sb:=(GbD z.heap it (Obj.mapFields (·.setIfInBounds 0 (rawInt ((Int.toNat 0:Nat):Int))))).trans (GbD _ it (Obj.mapFields (·.setIfInBounds 1 (rawInt ((i:Int)+1)))));refine Gad ⟨e.2,rfl,Gad (hQ _ (up (rawInt 0) (.text hb) _ _ (Gbg _ xT (Gck (Gbt hd2 _))) ((GcN ..).trans ((GcN ..).trans hc)) (by rw[Gbt hd2];simp[rawInt]) sb) sb)⟩
 | @drawn _ ps ht hp=>
  obtain⟨p,hpi,rfl⟩:∃p,ps[i]? =U p/\es.getD p (0,Value.none)=e:=by
   rw[Gap] at hx;obtain⟨p,h1,h2⟩:=Gaa.mp hx;exact⟨p,h1,h2⟩
  have xj:p<es.size:=by
   have:=hp.mem_iff.mp (Gau hpi)
   simpa using this
  obtain⟨ot,Vn,Xe,n,yB⟩:=id ht;refine Gab (Gcr Vn yB ?_);have hq:(List.map (λ(j:Nat)=>rawInt j) ps).toArray[i]? =U (rawInt p):=by simp[hpi]
  simp only[Gbq,hq];refine Gab (BO hm hf xj ?_);refine Gab (GcS ho hd (by simp) ?_);have sb:=(GbD z.heap it (Obj.mapFields (·.setIfInBounds 1 (rawInt ((i:Int)+1)))))
  have eg:es.getD p (0,Value.none)=es[p]:=by simp[Array.getD,xj]
  rw[eg] at hQ;refine Gad ⟨es[p].2,rfl,Gad (hQ _ (up (.ref tp) (.drawn ht hp) _ _ (Gbg _ ho (Gck (Gbt hd _))) ((GcN ..).trans hc) (by rw[Gbt hd];simp[rawInt]) sb) sb)⟩
 | @plain _ s q1 q2 q3 q4 q5=>
  dsimp only[rawInt];simp only[Gbq];have zK :es[i]? =U e:=by simpa using hx
  refine Gab (qZ hm hf q1 q2 q3 q4 (GcO hl) q5 ?_);rw[zK];refine Gab (GcS ho hd (by simp) ?_);have xT:=Gbg (Obj.mapFields (·.setIfInBounds 0 (rawInt ((t.place.getD i 0+1:Nat):Int)))) ho (Gck (Gbt hd _));have hd2:=Gbt hd (·.setIfInBounds 0 (rawInt ((t.place.getD i 0+1:Nat):Int)));refine Gab (GcS (s:={z with heap:=_}) xT hd2 (by simp) ?_);have sb:=(GbD z.heap it (Obj.mapFields (·.setIfInBounds 0 (rawInt ((t.place.getD i 0+1:Nat):Int))))).trans (GbD _ it (Obj.mapFields (·.setIfInBounds 1 (rawInt ((i:Int)+1)))));refine Gad ⟨e.2,rfl,Gad (hQ _ (up (rawInt ((t.place.getD i 0+1:Nat):Int)) (.plain q1 q2 q3 q4 (by simp)) _ _ (Gbg _ xT (Gck (Gbt hd2 _))) ((GcN ..).trans ((GcN ..).trans hc)) (by rw[Gbt hd2];simp[rawInt]) sb) sb)⟩
end
section
variable{z:Yg}
def Lu{A:Yj}{es:Array (Int×Ye)}{t:SetTable}(hh:A.handled=J)(hit:gQ w z.heap it a tp es ep t xs i)(hm:mh z.heap a es ep t)(hf:t.fits es.size=O)(hi:i=es.size)
  (hQ:∀h',Heap.ExtBut it z.heap h' ->Q J {z with heap:=h' }):wpAny (model prog w) A (pyNext (.ref it)) Q E z:=by
 obtain⟨o,first,ho,hc,hd,hw⟩:=id hit;obtain⟨os,yd,UN,xq⟩:=id hm;have f:FO z.heap it "set_iterator" _:=⟨o,ho,hc,hd⟩
 have out:∀h1 (P:PySem.Fin->Yg->Prop),Heap.SameBut it z.heap h1->wpAny (model prog w) A.in1 (newExc (.type "StopIteration") []>>=λe=>(raiseNew e:Sem PySem.Fin)) P (λe s' =>wpAny (model prog w) A (isInstance e (.type "StopIteration")>>=λb=>if b=O then pure J else throw e) Q E s') {z with heap:=h1}:=λh1 P sb=>
  HV hh λh2 e k=>Gab (vm k.2 (Gad (hQ h2 λb o n q=>k.1 b o (sb.extBut b o n q))))
 cases hw with
 |text hb=>
  have no:(pickOrder (w.params.setOrder a ep) es)[i]? =J:=Gcf (by
   have:=(uj (w.params.setOrder a ep) es).length_eq;simp only[GaZ] at this;lia)
  have r:∀{Q' :Option (Ye×Nat)->Yg->Prop} {E'},Q' J z->wpAny (model prog w) A.in1 (setNext a (Int.toNat 0) (i:Int).toNat (ep:Int).toNat) Q' E' z:=λq=>uk (i:=(i:Int).toNat) hm hf hb (by simp only[Gbq,no,Option.map_none];exact q)
  wp_walk using Gbs f.ty Fr.cg,Gbd Fr.cg f.ty Fr.dP (ha:=Fr.fh _),vk f,GaT yd xq hf,r,fO f
  .exactλh1 k=>out h1 _ k.2
  .show _<5;decide
 | @drawn _ ps ht hp=>
  obtain⟨ot,Vn,Xe,n,yB⟩:=id ht;have no:(List.map (λ(j:Nat)=>rawInt j) ps).toArray[(i:Int).toNat]? =J:=by
   have:=hp.length_eq;simp at this;simp;lia
  wp_walk using Gbs f.ty Fr.cg,Gbd Fr.cg f.ty Fr.dP (ha:=Fr.fh _),vk f,GaT yd xq hf,Gcr Vn yB
  rw[no];exact Gab (fO f (λh1 ⟨f1,s1⟩=>Gab (fO f1 (λh2 ⟨f2,s2⟩=>out h2 _ (s1.trans s2)) (by simp))) (by simp))
 | @plain _ s q1 q2 q3 q4 q5=>
  have r:∀{Q' :Option (Ye×Nat)->Yg->Prop} {E'},Q' J z->wpAny (model prog w) A.in1 (setNext a (s:Int).toNat (i:Int).toNat (ep:Int).toNat) Q' E' z:=λq=>qZ (i:=i) hm hf q1 q2 q3 q4 (Nat.le_of_eq hi) q5 (by rw[Gcf (by lia)];exact q)
  wp_walk using Gbs f.ty Fr.cg,Gbd Fr.cg f.ty Fr.dP (ha:=Fr.fh _),vk f,GaT yd xq hf,r,fO f
  .exactλh1 k=>out h1 _ k.2
  .show _<5;decide
def BP(hit:gQ w z.heap it a tp es ep t xs i)(h:Q (.ref it) z):wpAny (model prog w) A (pyIter (.ref it)) Q E z:=
 Gdu hit.ty Fr.qW (Gbd Fr.qW hit.ty Fr.oe (Gad ⟨_,rfl,_,_,hit.ty,Fr.cg.lookup,h⟩) (Fr.pJ _))
def Way.at{h h' :Yi}(x:Way w a es ep t h tp f i xs)(k:∀o,h.get? tp=U o->h'.get? tp=U o):Way w a es ep t h' tp f i xs:=by
 cases x with
 |text q=>exact .text q
 |drawn q1 q2=>
  obtain⟨o,ho,r⟩:=q1;exact .drawn ⟨o,k o ho,r⟩ q2
 |plain q1 q2 q3 q4 q5=>exact .plain q1 q2 q3 q4 q5
theorem FA{A:Yj}(hh:A.handled=J)(I a tp:Yd)(xy:a≠I)(X3:tp≠I)(es:Array (Int×Ye))(ep:Nat)(t:SetTable)(hf:t.fits es.size=O)(xs:List (Int×Ye))(UN:xs.length=es.size):
  Walks prog w A I [I,a,tp] [I] es.size (λi v=>∃e,xs[i]? =U e/\v=e.2) (λi h=>gQ w h I a tp es ep t xs i/\mh h a es ep t) where
 sub:=λb hb=>by simp at hb;simp[hb]
 frame:=λi h h' st hk=>by
  obtain⟨⟨o,f,ho,hc,hd,hw⟩,hs⟩:=st;exact⟨⟨o,f,hk I (by simp) o ho,hc,hd,hw.at λo e=>hk tp (by simp) o e⟩,hs.at λo e=>hk a (by simp) o e⟩
 item:=λi z Q E hi st hQ=>by
  have hx:xs[i]? =U (xs[i]'(by lia)):=Gac _;exact Iw st.1 st.2 hf X3 hx λh' xC xM =>hQ _ h' z.toks ⟨_,hx,rfl⟩ ⟨xC,st.2.at λo e=>xM.extBut a o xy e⟩ λb o hb e=>xM.extBut b o (λh=>hb (by simp[h])) e
 done:=λz Q E st hQ=>Lu hh st.1 st.2 hf rfl λh' zW =>hQ h' z.toks λb o hb e=>zW b o (λh=>hb (by simp[h])) e
 self:=λ_ _ _ _ st hQ=>BP st.1 hQ
def Iy{es:Array (Int×Ye)}{t:SetTable}(hm:mh z.heap a es ep t)(hf:t.fits es.size=O)(hT:Tb (lx w) t)(eL:es.size<=sizeLine)
  (hQ:∀(h' :Yi) (it tp:Yd) (d:Drawn) (xs:List (Int×Ye)),z.heap.objs.size<=it->tp≠it->z.heap.objs.size<=tp->(∀b o,z.heap.get? b=U o->h'.get? b=U o)->gQ w h' it a tp es ep t xs 0->xs.length=es.size->xs.Perm es.toList->Q (.ref it) {z with heap:=h',drawn:=d}):
  wpAny (model prog w) A (pyIter (.ref a)) Q E z:=by
 obtain⟨o,ho,hx,hd⟩:=id hm;have hTy:z.TypeIs (.ref a) "set":=hm.ty;have xB:t.place.size=es.size:=by
  unfold SetTable.fits at hf;simp at hf;lia
 refine Gdu hTy Fr.Ao (Gbd Fr.Ao hTy Fr.qY ?_ (Fr.sT _));refine Gab (m:=Builtin.Frozenset.slot0 "__iter__" ⟨[.ref a],[]⟩) (Gdb (a:=a) rfl ?_);refine Gab (Gab (Gab (GaT ho hd hf (Gad (Gad ?_)))));refine Gab ?_;refine Gab (GaT ho hd hf (Gab (kR ?_)));refine Gad ?_;by_cases c:(!lx w&&(!t.plain&&decide (es.size>1)))=O
 .show wpAny _ _ (if(!lx w&&(!t.plain&&decide (es.size>1)))=O then _ else _) _ _ z;rw[Gan c];refine Gab (vI es.size (List.range es.size) z _ (by simp) λps d hp=> ?_);have xj:ps.length=es.size:=by rw[hp.length_eq];simp
  refine Gab (wpAny_newTuple ?_ (by rw[Gae];lia));have Vq:(z.heap.push {cls:= .type "tuple",data:= .seq (ps.map λ(i:Nat)=>rawInt i).toArray}).get? a=U o:=Gag _ ho;refine Gab (m:=setEpoch a) (Gab (GaT (s:={z with heap:=_,drawn:=d}) Vq hd hf (Gad ?_)));refine Gab (Gbk (Gad ⟨_,rfl,"set_iterator",_,⟨_,Gay _ rfl,rfl⟩,Fr.cg.lookup, ?_⟩) (by size_fits));refine hQ _ _ z.heap.objs.size d (ps.map λj=>es.getD j (0,.none)) (by rw[GbZ];exact GbR _) (by rw[GbZ];exact GaK (GdA _)) (Gao _) (λb o e=>Gag _ (Gag _ e)) ?_ (by simp[xj]) (Way.perm (w:=w) (a:=a) (ep:=ep) (i:=0) (t:=t) (.drawn (h:=z.heap.push {cls:= .type "tuple",data:= .seq (ps.map λ(i:Nat)=>rawInt i).toArray}) (tp:=z.heap.objs.size) ⟨_,Gay _ rfl,rfl,0,rfl⟩ hp));exact⟨_,_,Gay _ rfl,rfl,rfl,.drawn ⟨_,Gag _ (Gay _ rfl),rfl,0,rfl⟩ hp⟩
 .show wpAny _ _ (if(!lx w&&(!t.plain&&decide (es.size>1)))=O then _ else _) _ _ z;rw[Gah c];refine Gab (m:=setEpoch a) (Gab (GaT ho hd hf (Gad ?_)));refine Gab (Gbk (Gad ⟨_,rfl,"set_iterator",_,⟨_,Gay _ rfl,rfl⟩,Fr.cg.lookup, ?_⟩) (by size_fits));obtain⟨xs,hW⟩:∃xs,Way w a es ep t (z.heap.push {cls:= .type "set_iterator",data:= .fields #[rawInt 0,rawInt 0,.ref a,rawInt es.size,rawInt ep]}) (z.heap.objs.size+1) (rawInt 0) 0 xs:=by
   cases hb:lx w with
   |true=>exact⟨_,.text hb⟩
   |false=>
    have c' :¬(t.plain=M/\es.size>1):=λq=>c (by rw[hb,q.1];simp[q.2]);refine⟨_,.plain (s:=0) hb c' ?_ (by rw[hT.1,hb];rfl) (by simp)⟩;cases hp:t.plain with
    |true=>exact hT.2 hp
    |false=>
     intro i j yl x y hx hy;have h2:=(Gbf.mp hy).1;lia
  exact hQ _ _ (z.heap.objs.size+1) z.drawn xs (Gao _) (GbU (GdA _)) (GbR _) (λb o e=>Gag _ e) ⟨_,_,Gay _ rfl,rfl,rfl,hW⟩ (by have:=hW.perm.length_eq;simpa using this) hW.perm
def Iz(hT:z.TypeIs (.ref d) "set")(h:Q M z):wpAny (model prog w) A (Builtin.List.listLengthHint (.ref d)) Q E z:=by
 have sp:splitId "set.__len__"=U ("set","__len__"):=by decide+kernel
 apply Gab;apply GdO hT Fr.Ls.lookup;dsimp only;rw[sp]
 wp_walk using wpAny_isInstance hT Fr.qX,GdI hT
 exact h
def BQ{A:Yj}{es:Array (Int×Ye)}{t:SetTable}(hh:A.handled=J)(hm:mh z.heap a es ep t)(hf:t.fits es.size=O)(hT:Tb (lx w) t)(eL:es.size<=sizeLine)(S:Yd)(res:Ye)(hS:Emp z.heap S)(VB:S≠a)
  (hR:∀h' tk d xX c' (xs:List (Int×Ye)),(∀b o,b≠S->z.heap.get? b=U o->h'.get? b=U o)->h'.get? S=U {cls:= .type "list",dict:=J,data:= .seq xX c',slots:=#[]}->xs.Perm es.toList->xX.toList=xs.map (·.2)->R (.ok (.ret res)) {z with heap:=h',toks:=tk,drawn:=d}):
  wpAny (model prog w) A.in1 (Builtin.List.listExtendWith (.ref S) (.ref a) res) (λfin s' =>match fin with| .done f=>R (.ok f) s' | .again c' =>c'.quiet=O/\codeAny (model prog w) A c' R s') (λe s' =>R (.error e) s') z:=by
 have lS:=let⟨_,e⟩:=hS
 GaA e
 have la:=let⟨o,ho,_⟩:=hm
 GaA ho
 refine HW hm.ty rfl rfl (by simp[Builtin.List.listSameRef,VB]) (Iy hm hf hT eL λh1 it tp d xs gi ne gt k1 hI xl xp=>Iz (let⟨o,ho,hc,_⟩:=hm;⟨o,k1 _ _ ho,hc.1⟩) ⟨let⟨c,e⟩:=hS;⟨c,k1 _ _ e⟩,λh2 ⟨c,e⟩ k=> ?_⟩);have W:=(FA (prog:=prog) (w:=w) (A:=A.in1) hh it a tp (GaK (GaL la gi)) ne es ep t hf xs xl).toS;have nit:=GbU (GaL lS gi);have ntp:=GbU (GaL lS gt);refine codeAny_extend_loopS W eL S (by simp[Ne.symm nit,Ne.symm ntp,VB]) res es.size 0 _ #[] c rfl (Gba _) ⟨let⟨o,f,ho,hc,hd,hw⟩:=hI;⟨o,f,k it o nit ho,hc,hd,hw.at λo=>k tp o ntp⟩,hm.at λo q=>k a o (Ne.symm VB) (k1 _ _ q)⟩ e (ItemsOf.nil _) λs' xX c' mv e' items=> ?_;rw[Moved.eq_with mv];refine hR s'.heap s'.toks d xX c' xs (λb o n q=>mv.heap b o (λm=> ?_) (k b o n (k1 _ _ q))) e' xp (GcL λi=> ?_)
 .have lb:=GaA q
  grind
 .rw[Gbr,Gap];cases q:xX[i]? with
  |some v=>
   obtain⟨en,h1,rfl⟩:=items.2 i v q;rw[h1]
   rfl
  |none=>
   have:es.size<=i:=by rw[<-items.1];simpa using q
   simp_all
def Ap{A:Yj}{es:Array (Int×Ye)}{t:SetTable}(hh:A.handled=J)(hm:mh z.heap a es ep t)(hf:t.fits es.size=O)(hT:Tb (lx w) t)(eL:es.size<=sizeLine)
  (h:∀h' tk d (xs:List (Int×Ye)),z.heap.objs.size<h'.objs.size->(∀b o,z.heap.get? b=U o->h'.get? b=U o)->xs.Perm es.toList->Q (xs.map (·.2)) {z with heap:=h',toks:=tk,drawn:=d}):wpAny (model prog w) A (collect (.ref a)) Q E z:=by
 have old:∀{b o},z.heap.get? b=U o->b≠z.heap.objs.size:=λe=>GaK (GaA e);refine vn λh1 e k R r=>BQ hh (hm.at (k a)) hf hT eL _ _ e (let⟨o,ho,_⟩:=hm;Ne.symm (old ho)) λh' tk d acc c xs k' e' xp ha=> ?_;exact r _ acc c e' (ha▸h h' tk d xs (GaA e') (λb o q=>k' b o (old q) (k b o q)) xp)
end
def _root_.L2.Inv.draw(I:Inv X e8 Z H s)(d:Drawn):Inv X e8 Z H {s with drawn:=d}:=⟨I.ok,I.os,I.bare,I.base,I.loc,I.cell,I.free,I.jN,I.pin,I.hok,I.len⟩
theorem nZ:∀{ns us},XQ (ns.map V.int) us->IntsAre us ns
 |[],_,.nil=> .nil
 |n::ns,_,.cons h t=>by
  obtain⟨k,rfl⟩:=h;exact .cons n k (nZ t)
namespace Fr
end Fr
section
variable{b:Yh}{H:Hp}
def gone(H:Hp)(it l:Yd)(o:HO):Hp:=λb=>if b=it then J else upd H l o b
end
section
variable{K:Type} [DecidableEq K]
variable{s:Yg}
def IA{knd:HeapKind prog w K}{o:Yk}{es:Array DictEntry}{ys:List (K×Yd×Ye)}(ho:s.heap.get? d=U o)(hc:o.ExactDict)(hd:o.data= .dict es ep)(he:(f es).toList=ys.map (entryOfKey knd))
  (UR:∀x∈ys,knd.is s.heap x.1 x.2.1)(hn:(ys.map (·.1)).Nodup)(hz:es.size<=sizeLine)(hf:(f es).size<=es.size+1)(h:∀h',h'.DictOfH knd d ys->Heap.SameBut d s.heap h' ->Q () {s with heap:=h' }):wpAny (model prog w) A (updateDictKeys d f p) Q E s:=by
 have sb:=GbD s.heap d (Obj.mapDictKeys f);refine wpAny_updateDictKeys ho hd (h _ ⟨_,f es,ep+1,Gbg _ ho ?_,hc.mapDictKeys _,Obj.data_mapDictKeys hd _,he,λx m=>knd.keeps (UR x m) ho hd sb,hn⟩ sb) hz hf;exact Obj.isFreed_of_dict (Obj.data_mapDictKeys hd _)
def pK{knd:HeapKind prog w K}{xs:List (K×Yd×Ye)}(hu:knd.room A)(xw:knd.is s.heap k a)(hm:s.heap.DictOfH knd d xs)
  (za:∀p,atKey xs k=U p->Q p.2 {s with toks:=s.toks+knd.draws k})
  (Vs:atKey xs k=J->∀h',h'.DictOfH knd d (storedH xs k a v)->Heap.SameBut d s.heap h' ->Q v {s with heap:=h',toks:=s.toks+knd.draws k})
  (xB:xs.length<=sizeLine):
  wpAny (model prog w) A (dictSetDefault d (.ref a) v) Q E s:=by
 obtain⟨o,es,ep,ho,hc,hd,he,UR,hn⟩:=hm;have sz:=size_of_entries he
 wp_walk using knd.pyHash hu xw,wpAny_dictFind_heap (s:={s with toks:=s.toks+knd.draws k}) hu xw ho hd he UR hn
 .intro no;have none' :=atKey_none_of_get no;have ys:=storedH_new none' a v;refine Gab (wpAny_rule (Gab (IA (knd:=knd) (ys:=storedH xs k a v) (s:={s with toks:=s.toks+knd.draws k}) ho hc hd ?_ ?_ ?_ (by lia) (by simp) λh' q1 q2=>Gad (Vs none' h' q1 q2))))
  .rw[ys,Array.toList_push,he,GaC];rfl
  .rw[ys];intro x m;rcases Gav.mp m with m|m
   .exact UR x m
   .rw[GaU.mp m];exact xw
  .rw[ys,GaC,GaW];exact⟨hn,by simp,λx m y n=>by simp at n;rw[n];exactλe=>not_mem_keys_of_get no (e▸m)⟩
 .intro j p at_;have e:=entry_at he j;rw[at_] at e
  wp_walk using wpAny_dictEntries (s:={s with toks:=s.toks+knd.draws k}) ho hd
  rw[e]
  wp_walk
  exact za p (atKey_of_get hn at_)
def ni{knd:HeapKind prog w K}(d a:Yd)(hd:(d==sysModules)=M)(dflt:Ye):
  MeetsIn prog w (Builtin.«dict.setdefault» ⟨[.ref d,.ref a,dflt],[]⟩) (λA R s=>knd.room A.in1/\∃k xs,knd.is s.heap k a/\s.heap.DictOfH knd d xs/\xs.length<=sizeLine/\
   (∀p,atKey xs k=U p->R (.ok (.ret p.2)) {s with toks:=s.toks+knd.draws k})/\
   (atKey xs k=J->∀h',h'.DictOfH knd d (storedH xs k a dflt)->Heap.SameBut d s.heap h' ->R (.ok (.ret dflt)) {s with heap:=h',toks:=s.toks+knd.draws k})):=by
 apply MeetsIn.of_wp;rintro A R s ⟨hu,k,xs,xw,hm,xB,h1,h2⟩
 wp_walk using wpAny_notOrdered_dict hm.typeIs,pK hu xw hm
 .exactλp q=>Gad ⟨_,rfl,h1 p q⟩
 .exactλq h' q1 q2=>Gad ⟨_,rfl,h2 q h' q1 q2⟩
 .exact xB
end
def vJ{X:Cx}{Z:St}{A:Yj}{eD:List (List Key×V)}{k:List Key}(hu:A.units+1<cLine)(I:Inv X e8 Z H s)(e:H a=U (.dT eD))(eb:H b=U (.tup (k.map kV)))(hl:eD.length<sizeLine)(rd:XO d r)
  (h1:∀v w' s',iV eD k=U v->Inv X e8 Z H s' ->XO v w' ->Q w' s')(h2:∀s',iV eD k=J->Inv X e8 Z (upd H a (.dT (putK eD k d))) s' ->Q r s'):
  wpAny (model X.prog X.w) A (call (.builtin "dict.setdefault") [.ref a,.ref b,r]) Q E s:=by
 obtain⟨z,hd,xs,rel,dd⟩:=GY I.hok e;have hz:xs.length<=sizeLine:=by rw[<-Paired.length rel];exact z
 refine call_meetsIn PySem.F.slot_dict_setdefault dd.typeIs PySem.F.entry_dict_setdefault (PySem.F.args_dict_setdefault_3 _ _ _) (ni a b hd r) ⟨tupleKind_room_in1 hu,k,xs,L2.nY I.hok eb,dd,hz,λp hp=> ?_,λhn h' VH hs=> ?_⟩
 .have rv:=rel.val k;rw[hp] at rv;cases hv:iV eD k with
  |none=>rw[hv] at rv;exact rv.elim
  |some v=>rw[hv] at rv;exact h1 v _ _ hv (I.tok _) rv
 .have rv:=rel.val k;rw[hn] at rv;cases hv:iV eD k with
  |some v=>rw[hv] at rv;exact rv.elim
  |none=>
   refine h2 _ hv ?_;have yz :(putK eD k d).length<=sizeLine:=by have:=oJ eD k d;lia
   obtain⟨q,es,ep,hq,g2,g3,g4,_,g5⟩:=VH;refine pT I (by rw[e];exact True.intro) hs ⟨q,hq⟩ ⟨yz,hd,_,(rel.put k eb rd).keeps λc ys ec=> ?_,q,es,ep,hq,g2,g3,g4,g5⟩;rw[ar (tm ec e (λz=>nomatch z))];exact ec
def Pg(td ty tx:TE):TE:=λZ H Q=>td Z H λx H1=>∃a,x= .ref a/\IsD H1 a/\ty Z H1 λy H2=>tx Z H2 λz H3=>∃eD k b,H3 a=U (.dT eD)/\y= .ref b/\H3 b=U (.tup (k.map kV))/\eD.length<sizeLine/\
 (∀v,iV eD k=U v->Q v H3)/\(iV eD k=J->Q z (upd H3 a (.dT (putK eD k z))))
def IB{X:Cx}(hu:X.A.units+1<cLine)(ho:PE X o td)(he:PE X e ty)(hf:PE X f tx)(m:M2 X o "setdefault" apos e f eE):PE X (.Call (.Attribute o "setdefault" apos) [e,f] [] eE) (Pg td ty tx):=by
 intro e8 s Z H Q I h;refine wpAny_Call_method m.base m.few m.line Gds PySem.F.slot_dict_setdefault PySem.F.type_dict_setdefault (thn (ho e8 s Z H _ I h) λu s1 ⟨x,H1,I1,rx,a,ex,d,q1⟩=> ?_);subst ex;obtain rfl:u=Value.ref a:=rx;obtain⟨t1,t2,_⟩:=Bs I1 d;refine⟨t1,t2, ?_⟩;rw[m.trees];refine GcJ rfl (GdJ (GcC (thn (he e8 s1 Z H1 _ I1 q1) λiv s2 ⟨y,H2,I2,ry,q2⟩=>
  GcC (thn (hf e8 s2 Z H2 _ I2 q2) λfv s3 ⟨z,H3,I3,rz,eD,k,b,e1,e2,e3,e4,e5,e6⟩=>Calls.spliced_nil ?_))))
 subst e2;cases(show iv=Value.ref b from ry);exact vJ hu I3 e1 e3 e4 rz (λv w' s4 hv I4 rv=> ⟨_,H3,I4,rv,e5 v hv⟩) λs4 hv I4=> ⟨_,_,I4,rz,e6 hv⟩
def gF(eC:Yd->Prop)(p:Yd)(ws:List (List Key×V))(b:Yd):Prop:=eC b\/b=p\/V.ref b∈ws.map (·.2)
structure dX(K:ak)(eC:Yd->Prop)(env:Env)(Z:St)(H:Hp)(i:Nat)(p:Yd)(ws:List (List Key×V))(eD:Rws):Prop where
 at_:Z[i]? =U (U (.ref p))
 hid:env[i]? =U J
 top:H p=U (.dT ws)
 keys:eD.map (·.1)=ws.map (·.1)
 row:∀(j:Nat) k v d,ws[j]? =U (k,v)->eD[j]? =U (k,d)->∃a ds vs,v= .ref a/\d= .lst ds/\a≠p/\H a=U (.lst vs)/\aO K (λ_=>False) H ds vs
 inj:∀(j j' :Nat) k k' a,ws[j]? =U (k,V.ref a)->ws[j']? =U (k',V.ref a)->j=j'
def mi(H H' :Hp):Prop:=∀b o,H b=U o->isT o->H' b=U o
def mi.trans(a:mi H H1)(b:mi H1 H2):mi H H2:=λc o e t=>b c o (a c o e t) t
def mi.same(s:cb H H1):mi H H1:=λc o e _=>s c o e
theorem mi.upd(h:H a=U o)(n:¬isT o):mi H (upd H a o'):=λc x e t=>by
 have:c≠a:=by rintro rfl;rw[h] at e;cases e;exact n t
 rw[ar this];exact e
theorem dX.mono{K:ak}(N:dX K eC env Z H i p ws eD)(s:cb H H'):dX K eC env Z H' i p ws eD where
 at_:=N.at_
 hid:=N.hid
 top:=s _ _ N.top
 keys:=N.keys
 row:=λj k v d h1 h2=>let⟨a,ds,vs,e1,e2,e3,e4,e5⟩:=N.row j k v d h1 h2;⟨a,ds,vs,e1,e2,e3,s _ _ e4,e5.gen (.XY s) λ_ f _=>f⟩
 inj:=N.inj
theorem dX.lF{K:ak}{env:Env}{Z:St}(N:dX K eC env Z H i p ws eD)(yl:i≠j):dX K eC (env.set j (U (.sh d))) (Z.set j (U v)) H i p ws eD where
 at_:=by rw[Gam (Ne.symm yl)];exact N.at_
 hid:=by rw[Gam (Ne.symm yl)];exact N.hid
 top:=N.top
 keys:=N.keys
 row:=λj k v d h1 h2=>let⟨a,ds,vs,e1,e2,e3,e4,e5⟩:=N.row j k v d h1 h2;⟨a,ds,vs,e1,e2,e3,e4,e5⟩
 inj:=N.inj
def dX.Ph{K:ak}(N:dX K eC env Z H i p ws eD):dX K Bad' env Z H i p ws eD:=⟨N.at_,N.hid,N.top,N.keys,N.row,N.inj⟩
def dX.app{K:ak}{H:Hp}{eC:Yd->Prop}{d:D}{v:V}{j:Nat}{eD:Rws}(N:dX K eC env Z H i p ws eD)(ba:eC a)(ha:ws[j]? =U (k,.ref a))(hd:eD[j]? =U (k,.lst ds))(hv:H a=U (.lst vs))(rp:aO K (λ_=>False) H (ds++[d]) (vs++[v])):
  dX K eC env Z (upd H a (.lst (vs++[v]))) i p ws (eD.set j (k,.lst (ds++[d]))):=by
 have dN:ij (λ_=>False) H (upd H a (.lst (vs++[v]))):=λb x hx q=>by
  have:b≠a:=by
   rintro rfl;rcases q with q|q
   .exact q
   .rw[hv] at hx;cases hx;exact q
  rw[ar this];exact hx
 have y1:p≠a:=by
  obtain⟨a',_,_,e1,_,e3,_⟩:=N.row j k _ _ ha hd;lia
 have zl:=(Gak.mp hd).1;refine⟨N.at_,N.hid,by rw[ar y1];exact N.top, ?_,λj' k' v' d' h1 h2=> ?_,N.inj⟩
 .rw[List.map_set,<-N.keys];apply GcL;intro m;by_cases q:j=m
  .subst q;rw[Gbl (by simpa using zl),Gap,hd]
   rfl
  .simp_all
 .by_cases q:j=j'
  .subst q;rw[ha] at h1;cases h1;rw[Gbl zl] at h2;cases h2;exact⟨a,_,_,rfl,rfl,Ne.symm y1,aF,rp.gen dN λ_ f _=>f⟩
  .rw[Gam q] at h2;obtain⟨a',xr,us,e1,e2,e3,e4,e5⟩:=N.row j' k' v' d' h1 h2;subst e1;have na:a' ≠a:=by
    rintro rfl;exact q (N.inj j j' _ _ _ ha h1)
   exact⟨a',xr,us,rfl,e2,e3,by rw[ar na];exact e4,e5.gen dN λ_ f _=>f⟩
def dX.make{K:ak}{H:Hp}{eC:Yd->Prop}{ws:List (List Key×V)}(N:dX K eC env Z H i p ws eD)(bp:eC p)(ba:eC a)(hn:V.ref a∉ws.map (·.2))(y1:a≠p)(hv:H a=U (.lst [])):dX K eC env Z (upd H p (.dT (ws++[(k,.ref a)]))) i p (ws++[(k,.ref a)]) (eD++[(k,.lst [])]):=by
 have dN:ij (λ_=>False) H (upd H p (.dT (ws++[(k,.ref a)]))):=λb x hx q=>by
  have:b≠p:=by
   rintro rfl;rcases q with q|q
   .exact q
   .rw[N.top] at hx;cases hx;exact q
  rw[ar this];exact hx
 have eL:eD.length=ws.length:=by have:=congrArg List.length N.keys;simpa using this
 refine⟨N.at_,N.hid,aF,by rw[GaC,GaC,N.keys];rfl,λj' k' v' d' h1 h2=> ?_,λj1 j2 k1 k2 b h1 h2=> ?_⟩
 .by_cases q:j' <ws.length
  .rw[GaR q] at h1;rw[GaR (by lia)] at h2;obtain⟨a',xr,us,e1,e2,e3,e4,e5⟩:=N.row j' k' v' d' h1 h2;exact⟨a',xr,us,e1,e2,e3,by rw[ar e3];exact e4,e5.gen dN λ_ f _=>f⟩
  .rw[GaM (by lia)] at h1;rw[GaM (by lia)] at h2;rw[eL] at h2;cases hz:j' -ws.length with
   |zero=>
    rw[hz] at h1 h2;cases h1;cases h2
    exact⟨a,[],[],rfl,rfl,y1,by rw[ar y1];exact hv,.nil⟩
   |succ n=>rw[hz] at h1;simp at h1
 .by_cases q1:j1<ws.length
  .rw[GaR q1] at h1;by_cases q2:j2<ws.length
   .rw[GaR q2] at h2;exact N.inj j1 j2 _ _ _ h1 h2
   .rw[GaM (by lia)] at h2;cases hz:j2 -ws.length with
    |zero=>
     rw[hz] at h2;cases h2
     exact absurd (Gas.mpr ⟨_,Gau h1,rfl⟩) hn
    |succ n=>rw[hz] at h2;simp at h2
  .rw[GaM (by lia)] at h1;cases hz:j1 -ws.length with
   |succ n=>rw[hz] at h1;simp at h1
   |zero=>
    rw[hz] at h1;cases h1
    by_cases q2:j2<ws.length
    .rw[GaR q2] at h2;exact absurd (Gas.mpr ⟨_,Gau h2,rfl⟩) hn
    .rw[GaM (by lia)] at h2;cases hz2:j2 -ws.length with
     |succ n=>rw[hz2] at h2;simp at h2
     |zero=>lia
def FrW(H0:Hp)(eC:Yd->Prop)(p:Yd)(ws:List (List Key×V)):Prop:=∀b,(b=p\/V.ref b∈ws.map (·.2))->H0 b=J/\¬eC b
def vK{eD:Rws}{ws:List (List Key×V)}(h:eD.map (·.1)=ws.map (·.1)):eD.findIdx? (λp=>decide (p.1=k))=ws.findIdx? (λp=>decide (p.1=k)):=by
 have h1:(eD.map (·.1)).findIdx? (λq=>decide (q=k))=eD.findIdx? (λp=>decide (p.1=k)):=by rw[GdV];rfl
 have h2:(ws.map (·.1)).findIdx? (λq=>decide (q=k))=ws.findIdx? (λp=>decide (p.1=k)):=by rw[GdV];rfl
 rw[<-h1,<-h2,h]
theorem find_some:∀{ws:List (List Key×V)} {k:List Key} {j:Nat},ws.findIdx? (λp=>decide (p.1=k))=U j->∃v,ws[j]? =U (k,v)/\iV ws k=U v
 |[],k,j,h=>by simp at h
 |p::ws,k,j,h=>by
  rw[GdU] at h;by_cases c:p.1=k
  .rw[GaD c] at h;cases h;exact⟨p.2,by rw[<-c];rfl,kh c⟩
  .rw[GaE c] at h;obtain⟨j',hj,rfl⟩:=Gaa.mp h;obtain⟨v,h1,h2⟩:=find_some hj;exact⟨v,by rw[GcB];exact h1,by rw[i9 c];exact h2⟩
theorem find_none:∀{ws:List (List Key×V)} {k:List Key},ws.findIdx? (λp=>decide (p.1=k))=J->iV ws k=J
 |[],k,h=>rfl
 |p::ws,k,h=>by
  rw[GdU] at h;by_cases c:p.1=k
  .simp_all
  .rw[GaE c] at h;rw[i9 c];exact find_none (Option.map_eq_none_iff.mp h)
def BR{eD:Rws}{ws:List (List Key×V)}{j:Nat}(h:eD.map (·.1)=ws.map (·.1))(h1:eD[j]? =U q)(h2:ws[j]? =U (k,v)):q.1=k:=by
 have e1:(eD.map (·.1))[j]? =U q.1:=by rw[Gap,h1];rfl
 simp_all
def tM(X:Cx)(i:Nat)(f:DM):TS:=λD Z H=>∃H0 eC env p ws eD q,aw X.K H0 (gF eC p ws) env Z H/\dX X.K (gF eC p ws) env Z H i p ws eD/\FrW H0 eC p ws/\f env eD=U q/\
 ∀Z' H' ws',aw X.K H0 (gF eC p ws') q.1 Z' H' ->dX X.K (gF eC p ws') q.1 Z' H' i p ws' q.2->FrW H0 eC p ws' ->mi H H' ->D.nx Z' H'
section
variable{st:Yl}
def Lv(h1:PS X st (tM X i n1)):PSs X [st] (tM X i n1):=uW h1
def IC{rest:List Yl}{i:Nat}(h1:PS X st (tM X i n1))(h2:PSs X rest (tM X i n2)):PSs X (st::rest) (tM X i (Sd n1 n2)):=by
 refine(mO h1 h2).aJ ?_;rintro D Z H ⟨H0,eC,env,p,ws,eD,q,E,N,h0,e,k⟩;obtain⟨q1,hq,e⟩:=eh e;exact⟨H0,eC,env,p,ws,eD,q1,E,N,h0,hq,λZ' H' ws' E' N' f' t' => ⟨H0,eC,q1.1,p,ws',q1.2,q,E',N',f',e,λZ2 H2 yu E2 N2 f2 t2=>k Z2 H2 yu E2 N2 f2 (t'.trans t2)⟩⟩
def Pj{X:Cx}{pos:Pos}(hN:X.N.Nodup)(hj:X.N[j]? =U x)(hx:Loc X.env.scope x)(yl:i≠j)(he:PEd X e f)(hs:autoParam (swapsWith e (U (.Name x pos')) pos.line X.env=pure M) Za1._auto_1)
  (hf:autoParam (X.fn x=O\/X.env.scope.names.lookup x=U .local) Za3._auto_1):PS X (.Assign [.Name x pos'] e pos) (tM X i (setM j f)):=by
 refine(Bi hN hj hx he hs hf).aJ ?_;rintro D Z H ⟨H0,eC,env,p,ws,eD,q,E,N,h0,e,k⟩;obtain⟨⟨kr,d⟩,hr,e⟩:=eh e;cases kr with
 |c=>
  cases e;refine⟨H0,_,env,_,E,hr,λv H1 s1 R=> ?_⟩;exact k _ _ ws ((E.mono s1).lF R) ((N.mono s1).lF yl) h0 (.same s1)
 |tn=>cases e
 |to=>cases e
 |tb=>cases e
def bindM{α β:Type}{o:Option α}{f:α->Option β}{b:β}(h:o.bind f=U b):∃a,o=U a/\f a=U b:=eh h
def Pk{X:Cx}{pos apos eE:Pos}(hu:X.A.units+1<cLine)(hN:X.N[i]? =U x)(hv:Vis X.env.scope x)(hk:PEd X ke g)(he:PEd X e f)(hd:autoParam ((x==("__debug__":Str))=M) Za2._auto_1)(xn:autoParam ((x==("__classdict__":Str))=M) Za2._auto_1)
  (m:M2 X (.Name x px) "setdefault" ap ke (.List [] lp) cp:=by exact⟨rfl,rfl,rfl,rfl⟩)
  (hX:autoParam (starEach [e] X.env=[(M,eval e X.env)]) Za1._auto_1)
  (eW:autoParam (attributeBase (.Call (.Attribute (.Name x px) "setdefault" ap) [ke,.List [] lp] [] cp) "append" X.env (eval (.Call (.Attribute (.Name x px) "setdefault" ap) [ke,.List [] lp] [] cp) X.env)=eval (.Call (.Attribute (.Name x px) "setdefault" ap) [ke,.List [] lp] [] cp) X.env) Za1._auto_1)
  (xD:((backTo eE (starEach [e] X.env)).all (λx=> !x.1)&&(backToKw eE (keywordEach [] X.env)).all (λx=>x.1.isSome)
   &&decide (([e]:List Yh).length+([]:List Keyword).length+(if([]:List Keyword).isEmpty then 0 else 1)<30))=O:=by rfl)
  (eV:autoParam ((apos.endLine==eE.line)=O) Za1._auto_1)(hs:autoParam (swapsWith (.Call (.Attribute (.Call (.Attribute (.Name x px) "setdefault" ap) [ke,.List [] lp] [] cp) "append" apos) [e] [] eE) J pos.line X.env=pure M) Za1._auto_1):
  PS X (.Expr (.Call (.Attribute (.Call (.Attribute (.Name x px) "setdefault" ap) [ke,.List [] lp] [] cp) "append" apos) [e] [] eE) pos) (tM X i (Se g f)):=by
 refine(pS (CF GcA PySem.F.slot_list_append PySem.F.type_list_append nX (IB hu (ka hN hv hd xn) hk (GN nU) m) (cL he gI hX) eW xD eV hX rfl) hs).aJ ?_;rintro D Z H ⟨H0,eC,env,p,ws,eD,q,E,N,h0,e,kk⟩;obtain⟨⟨ky,dy⟩,hy,e⟩:=bindM e;obtain⟨r,hr,e⟩:=bindM e;cases dy with
 |tup ks=>
  dsimp only at e;split at e
  .rename_i z;rw[Gai] at z;obtain⟨key,xw,e⟩:=bindM e;obtain⟨yZ,yi,e⟩:=Gaa.mp e;cases e;have bp:gF eC p ws p:= .inr (.inl rfl);refine⟨_,N.at_,p,rfl,⟨ws,.inl N.top⟩,H0,_,env,_,E,hy,λvy H1 s1 Ry=> ?_⟩;have iy:Inn X.K (Cln (gF eC p ws) env Z) H1 (.tup ks) vy:=Ry.inn;cases iy with
   | @tup bk kv _ hb rb=>
    have ekv:=j3 rb xw;subst ekv;have E1:=E.mono s1;have N1:=N.mono s1;refine⟨Gba _,λa1 yY => ?_⟩;have sA:cb H1 (upd H1 a1 (.lst [])):=aX yY;have Xf:upd H1 a1 (.lst []) bk=U (.tup (key.map kV)):=sA _ _ hb;have N2:=N1.mono sA;have E2:=E1.mono sA;have eL:eD.length=ws.length:=by have:=congrArg List.length N.keys;simpa using this
    have szk:eD.length<af/\((∃jj ds k0,eD.findIdx? (λp=>decide (p.1=key))=U jj/\eD[jj]? =U (k0,.lst ds)/\ds.length<af/\yZ =eD.set jj (key,.lst (ds++[r.d])))\/(eD.findIdx? (λp=>decide (p.1=key))=J/\yZ =eD++[(key,.lst [r.d])])):=by
     unfold I0 at yi;split at yi
     .rename_i hz;refine⟨hz, ?_⟩;split at yi
      .rename_i jj ye;split at yi
       .rename_i k0 ds xq;split at yi
        .rename_i hl;cases yi;exact .inl ⟨jj,ds,k0,ye,xq,hl,rfl⟩
        .cases yi
       .cases yi
      .rename_i ye;cases yi;exact .inr ⟨ye,rfl⟩
     .cases yi
    have fin:∀(H2:Hp) (yu:List (List Key×V)) (yE:Rws) (jj:Nat) (a:Yd) (ds:List DL.D),aw X.K H0 (gF eC p yu) env Z H2->dX X.K (gF eC p yu) env Z H2 i p yu yE->FrW H0 eC p yu->mi H H2->yu[jj]? =U (key,.ref a)->yE[jj]? =U (key,.lst ds)->ds.length<af->yZ =yE.set jj (key,.lst (ds++[r.d]))->
      tyV X.K "list" (.ref a) H2/\tA X (aa f ag) Z H2 λvs H3=>CG (.ref a) vs H3 λ_ H4=>D.nx Z H4:=by
     intro H2 yu yE jj a ds E2 N2 F2 T2 hw hkv hl ek;obtain⟨a',xr,vs,e1,e2,e3,VV,rp⟩:=N2.row jj _ _ _ hw hkv;cases e1;cases e2
     have ba:gF eC p yu a:= .inr (.inr (Gas.mpr ⟨_,Gau hw,rfl⟩));refine⟨.inl ⟨rfl,vs,.inl (.inl VV)⟩,H0,_,env,[r],E2,by unfold aa ag;rw[hr];rfl,λus H3 s3 Rs=> ?_⟩;cases Rs with
     | @cons _ v _ _ R1 tl=>
      cases tl;have yF:=s3 _ _ VV;have N3:=N2.mono s3;have E3:=E2.mono s3;refine⟨_,vs,v,rfl,rfl,yF,by rw[<-rp.1,<-eQ];exact hl, ?_⟩;have rep1:Rep X.K (λ_=>False) H3 r.d v:=R1.inn.imm z.1;have rp3:aO X.K (λ_=>False) H3 (ds++[r.d]) (vs++[v]):=(rp.gen (.XY s3) λ_ f _=>f).append (.cons rep1 .nil);have N4:=N3.app ba hw hkv yF rp3;rw[<-ek] at N4;exact kk Z _ yu (E3.Iu ba (F2 a (.inr (Gas.mpr ⟨_,Gau hw,rfl⟩))).1 yF (λz=>z) z.2) N4 F2 ((T2.trans (.same s3)).trans (.upd yF λz=>z))
    refine⟨ws,key,bk,N2.top,rfl,Xf,by rw[<-eL,<-eQ];exact szk.1,λv hv=> ?_,λhv=> ?_⟩
    .rcases szk.2 with⟨jj,ds,k0,ye,xq,hl,ek⟩| ⟨ye,_⟩
     .rw[vK N.keys] at ye;obtain⟨v',hw,zN⟩:=find_some ye;rw[hv] at zN;cases zN
      have hk0:k0=key:=BR N.keys xq hw;subst hk0;obtain⟨a',_,_,e1,_⟩:=N.row jj _ _ _ hw xq;subst e1;exact fin _ ws eD jj a' ds E2 N2 h0 ((mi.same s1).trans (.same sA)) hw xq hl ek
     .rw[vK N.keys] at ye;rw[find_none ye] at hv;cases hv
    .rcases szk.2 with⟨jj,ds,k0,ye,xq,hl,ek⟩| ⟨ye,ek⟩
     .rw[vK N.keys] at ye;obtain⟨v',hw,zN⟩:=find_some ye;rw[hv] at zN;cases zN
     .have hn:V.ref a1∉ws.map (·.2):=λhm=>by
       obtain⟨⟨k1,v1⟩,X6,zi⟩:=Gas.mp hm;have hm2' :v1=V.ref a1:=zi;subst hm2';obtain⟨j1,yO⟩:=GdE.mp X6;have hj1' :j1<eD.length:=by rw[eL];exact(Gak.mp yO).1
       have hk1:eD[j1]? =U eD[j1]:=Gac hj1';have xP:eD[j1].1=k1:=BR N.keys hk1 yO;obtain⟨a',_,us,e1,_,_,e4,_⟩:=N1.row j1 k1 _ eD[j1].2 yO (by rw[hk1,<-xP]);cases e1;rw[yY] at e4;cases e4
      have y1:a1≠p:=λq=>by subst q;rw[N1.top] at yY;cases yY
      rw[GW _ hv];have eB:(λb=>gF eC p ws b\/b=a1)=gF eC p (ws++[(key,V.ref a1)]):=by
       funext b
       apply propext;unfold gF;rw[GaC,Gav];simp only[Gax,GcP,GaU,V.ref.injEq];constructor
       .rintro((h|h|h)|h)
        .exact .inl h
        .exact .inr (.inl h)
        .exact .inr (.inr (.inl h))
        .exact .inr (.inr (.inr h))
       .rintro(h|h|h|h)
        .exact .inl (.inl h)
        .exact .inl (.inr (.inl h))
        .exact .inl (.inr (.inr h))
        .exact .inr h
      have E3:aw X.K H0 (gF eC p (ws++[(key,V.ref a1)])) env Z (upd H1 a1 (.lst [])):=by
       rw[<-eB];exact E1.Dg (New:=λb=>b=a1) sA (λb hb=>by rw[hb];exact yY) λb hb=>by rw[hb,aF];simp
      have N3:dX X.K (gF eC p (ws++[(key,V.ref a1)])) env Z (upd H1 a1 (.lst [])) i p ws eD:=by
       exact N1.Ph.mono sA
      have F3:FrW H0 eC p (ws++[(key,V.ref a1)]):=λb hb=>by
       rw[GaC,Gav] at hb;simp only[Gax,GcP,GaU,V.ref.injEq] at hb;rcases hb with h|h|h
       .exact h0 b (.inl h)
       .exact h0 b (.inr h)
       .subst h;exact⟨E1.same.free yY,λq=>E1.bad b (.inl q) yY⟩
      have bp' :gF eC p (ws++[(key,V.ref a1)]) p:= .inr (.inl rfl);have ba' :gF eC p (ws++[(key,V.ref a1)]) a1:= .inr (.inr (by rw[GaC,Gav];exact .inr Gaj));have N4:=N3.make (k:=key) bp' ba' hn y1 aF;have E4:=E3.Iu (o' := .dT (ws++[(key,V.ref a1)])) bp' (F3 p (.inl rfl)).1 N3.top (λz=>z) z.2;have lw:(ws++[(key,V.ref a1)])[ws.length]? =U (key,V.ref a1):=by rw[GaM (Gao _),Nat.sub_self];rfl
      have lk:(eD++[(key,DL.D.lst [])])[ws.length]? =U (key,DL.D.lst []):=by rw[<-eL,GaM (Gao _),Nat.sub_self];rfl
      refine fin _ _ (eD++[(key,DL.D.lst [])]) ws.length a1 [] E4 N4 F3 (((mi.same s1).trans (.same sA)).trans (.upd N3.top λz=>z)) lw lk (by rw[eQ,Gbu];exact(by decide:(0:Nat)<16777216)) ?_;rw[ek,<-eL,List.set_append_right _ _ (Gao _),Nat.sub_self]
      rfl
  .cases e
 |_=>cases e
def Pl{X:Cx}(hp:PassesOwn (model X.prog X.w) X.A X.env X.xe)(hc:X.calm=O)(he:PEd X e f)(hN:X.N.Nodup)(hj:X.N[j]? =U x)(hx:Loc X.env.scope x)(yl:i≠j)(hb:PSs X body (tM X i n1))
  (hs:∀x,foldedSetIterable e X.env x=pure x:=by intro _;rfl)
  (hf:autoParam (X.fn x=O\/X.env.scope.names.lookup x=U .local) Za3._auto_1):
  PS X (.For (.Name x px) e body [] pos) (tM X i (N5 j f n1)):=by
 refine(GG hp hc (Hv he) (CB hN hj hx hf) hb hs).aJ ?_;rintro D Z H ⟨H0,eC,env,p,ws,eD,q,E,N,h0,e,k⟩;obtain⟨⟨kr,d⟩,hr,e⟩:=bindM e;split at e
 .rename_i xs hd;have xb :d= .tup xs:=hd;subst xb;split at e
  .rename_i him;refine⟨H0,_,env,_,E,hr,λv H1 s1 R=> ?_⟩;have i1:Inn X.K (Cln (gF eC p ws) env Z) H1 (.tup xs) v:=R.inn;cases i1 with
   | @tup la lv _ zk rr=>
    have hll:xs.length=lv.length:=rr.1;refine⟨_,rfl,.inr ⟨⟨_,SqT.of zk⟩, ?_⟩⟩;refine⟨λc n Z' H' =>n=xs.length -c/\c<=xs.length/\mi H1 H' /\∃eK yc z0,aw X.K H0 (gF eC p yc) eK Z' H' /\dX X.K (gF eC p yc) eK Z' H' i p yc z0/\FrW H0 eC p yc/\qL j n1 (xs.drop c) eK z0=U q,
     ⟨xs.length,by simp,Gba _,λ_ _ e _=>e,env,ws,eD,E.mono s1,N.mono s1,h0,by simpa using e⟩, ?_⟩
    rintro c n Z' H' ⟨rfl,hle,tS,eK,yc,z0,Ei,Ni,Fi,ei⟩;have hla' :H' la=U (.tup lv):=tS _ _ zk trivial;by_cases eX:c<xs.length
    .have hd:xs.drop c=xs[c]::xs.drop (c+1):=GbQ eX;rw[hd] at ei;obtain⟨q1,hq,ei⟩:=bindM ei;have zj:lv[c]? =U (lv[c]'(by lia)):=Gac _;refine .inr ⟨⟨lv,_,SqT.of hla',zj⟩,λZ2 H2=>mi H1 H2/\∃eK yc z0,aw X.K H0 (gF eC p yc) eK Z2 H2/\dX X.K (gF eC p yc) eK Z2 H2 i p yc z0/\FrW H0 eC p yc/\qL j n1 (xs.drop (c+1)) eK z0=U q,λZ2 H2 z=> ⟨xs.length -(c+1),by lia,rfl,eX,z⟩,λy H2 ⟨e2,e3⟩=> ?_⟩;subst e2;have ey:=e3 _ (SqT.of hla');rw[zj] at ey;cases ey;have rep0:=rr.2 c _ _ (Gac eX) zj;have rep1:Rep X.K (λ_=>False) H1 xs[c] lv[c]:=rep0.imm (mY him c _ (Gac eX));have rep2:Rep X.K (Cln (gF eC p yc) eK Z') H2 xs[c] lv[c]:=rep1.gen (λb o hb w=>w.elim (λz=>z.elim) λw=>tS b o hb w) λ_ z _=>z.elim;refine⟨H0,eC,eK.set j (U (.sh xs[c])),p,yc,z0,q1,Ei.lF rep2,Ni.lF yl,Fi,hq,λZ3 H3 Wt E3 N3 F3 t3=> ?_⟩;exact⟨tS.trans t3,q1.1,Wt,q1.2,E3,N3,F3,ei⟩
    .have ym :c=xs.length:=by lia
     subst ym;rw[List.drop_length] at ei;cases ei;exact .inl ⟨⟨lv,SqT.of hla',by lia⟩,k Z' H' yc Ei Ni Fi ((mi.same s1).trans tS)⟩
  .cases e
 .cases e
def FC{X:Cx}{pos:Pos}{i:Nat}{x:Str}{pos' dp px rp:Pos}(hN:X.N.Nodup)(hi:X.N[i]? =U x)(hx:Loc X.env.scope x)(hv:Vis X.env.scope x)(h1:PS X st (tM X i n1))(hd:autoParam ((x==("__debug__":Str))=M) Za2._auto_1)(xn:autoParam ((x==("__classdict__":Str))=M) Za2._auto_1)
  (hs:autoParam (swapsWith (.Dict [] [] dp) (U (.Name x pos')) pos.line X.env=pure M) Za1._auto_1)
  (hf:autoParam (X.fn x=O\/X.env.scope.names.lookup x=U .local) Za3._auto_1):
  lh X [.Assign [.Name x pos'] (.Dict [] [] dp) pos,st,.Return (U (.Name x px)) rp] (Ia i n1):=by
 intro e8 z Z H D I hw;have hl:=I.len;refine(mO (Bi hN hi hx wG hs hf) (mO h1 (uW (GA (ka hi hv hd xn))))) e8 z Z H D I ?_;obtain⟨H0,eC,env,o,E,e,k⟩:=hw;obtain⟨q,hq,e⟩:=bindM e;cases e;have hie:=Bx E hl hi;have hie' :i<Z.length:=by rw[<-E.len];exact hie
 intro p np;have eB:(λb=>eC b\/b=p)=gF eC p []:=by
  unfold gF;simp
 have E1:aw X.K H0 (gF eC p []) (env.set i J) (Z.set i (U (.ref p))) (upd H p (.dT [])):=by
  rw[<-eB];exact(E.hide i (.ref p)).Dg (aX np) (λb hb=>by rw[hb];exact np) λb hb=>by rw[hb,aF];simp
 have N1:dX X.K (gF eC p []) (env.set i J) (Z.set i (U (.ref p))) (upd H p (.dT [])) i p [] []:=
  ⟨cM hie',cM hie,aF,rfl,λj k v d h=>by simp at h,λj j' k k' a h=>by simp at h⟩
 have F1:FrW H0 eC p []:=λb hb=>by
  rcases hb with rfl|hb
  .exact⟨E.same.free np,λq=>E.bad b q np⟩
  .simp at hb
 refine⟨H0,eC,env.set i J,p,[],[],q,E1,N1,F1,hq,λZ' H' ws' E' N' F' _=> ?_⟩;refine⟨.ref p,N'.at_,k (.ref p) H' E'.same ⟨λ_=> ⟨p,rfl,(F' p (.inl rfl)).1,⟨_,N'.top,trivial⟩⟩,.dT N'.top ⟨N'.keys,λj pd wd e1 e2=> ?_⟩⟩⟩;obtain⟨kd,dd⟩:=pd;obtain⟨kw,vw⟩:=wd;have ek:=BR N'.keys e1 e2;subst ek;obtain⟨a,ds,vs,r1,r2,r3,r4,r5⟩:=N'.row j kd vw dd e2 e1;subst r1 r2;have fa:=F' a (.inr (Gas.mpr ⟨_,Gau e2,rfl⟩));exact .lst ⟨fa.1,λz=>r3 (by cases z;rfl)⟩ (.inl r4) r5.1 λj' d v h1 h2=>(r5.2 j' d v h1 h2).imp λ_ z=>z.elim
end
def Lw{N P:List Str}{sc:Ym}(a:autoParam (sc.kind= .function) Za1._auto_1)(b:autoParam (sc.isCoroutine=M) Za1._auto_1)(c:autoParam (sc.isGenerator=M) Za1._auto_1)(d:N.Nodup:=by decide+kernel)(e:autoParam (N.take P.length=P) Za1._auto_1)(f:∀x∈P,sc.names.lookup x=U .local\/sc.names.lookup x=U .cell:=by decide+kernel)(g:∀y∈sc.names,y.2≠ .free:=by decide+kernel):gP N P sc:=⟨a,b,c,d,e,f,g⟩
def g9:D->D->Option RV
 | .tup [],.tup y=>U ⟨.c,.tup y⟩
 |x,y=>aI x y
noncomputable def Pn:Key->Option Int
 | .inl i=>U (hashInt i)
 | .inr _=>J
def Dj:List Key->Option (List Int)
 |[]=>U []
 |k::ks=>match Pn k,Dj ks with
  |some h,U hs=>U (h::hs)
  |_,_=>J
def keyHash(ks:List Key):Option Int:=(Dj ks).map λhs=>reduceHash (Builtin.Tuple.tupleHashOf hs)
def ID(i:Nat)(env:Env):Bool:=(List.range env.length).all λj=>j==i||match env[j]? with
 |some J=>O
 |some (U (.sh d))=>d.imm
 |_=>M
section
variable{a b:Yh}
def IE{z:Yg}{b:Yd}{ws:List Ye}(ht:IsTup z.heap t #[])(hb:IsTup z.heap b ws.toArray)(h:Q (.ref b) z):wpAny (model prog w) A (binaryOp .Add (.ref t) (.ref b)) Q E z:=by
 obtain⟨⟨cls,dd,data,sl⟩,ho,hc,n,hd⟩:=id ht;obtain⟨⟨UG,yT,data2,yK⟩,xT,yR,n2,hd2⟩:=id hb;subst hc hd yR hd2;exact concat_meets ⟨_,ho,rfl⟩ ⟨_,xT,rfl⟩ noFill_tuple_add seq_tuple_add Gdx Gdr (Gdh _ _)
  (tuple_addW0 t b #[] ws.toArray n n2 dd yT sl yK (by simp)) ⟨ho,xT,h⟩
def N7(K:ak):R2:=λx y H Q=>∃a b ys,x= .ref a/\y= .ref b/\SqT K H a []/\SqT K H b ys/\Q (.ref b) H
def Lx{X:Cx}:OpR X (binaryOp .Add) (N7 X.K):=by
 intro e8 s Z H x y v u Q I rx ry h;obtain⟨a,b,ys,rfl,rfl,ha,hb,q⟩:=h;cases rx;cases ry;obtain⟨its,r1,p1,_⟩:=I.tuple ha;obtain⟨eN,r2,p2,_⟩:=I.tuple hb;have e:=r1.cz.mpr rfl;subst e;exact IE p1 p2 ⟨.ref b,H,I,rfl,q⟩
def IF{X:Cx}:OpD X g9 (λx y H Q=>N7 X.K x y H Q\/Hm X.K x y H Q):=by
 intro F H dx dy x y rv Q ix iy e k;unfold g9 at e;split at e
 .cases e;cases ix with
  |tup hx rx=>
   cases iy with
   |tup hy ry=>
    have:=rx.ne.mpr rfl;subst this;exact .inl ⟨_,_,_,rfl,rfl,SqT.of hx,SqT.of hy,k _ H bG (.tup hy ry.1 ry.2)⟩
 .exact .inr (CP F H dx dy x y rv Q ix iy e k)
def Ly(ha:PEd X a f)(hb:PEd X b g):PEd X (.BinOp a .Add b pos) (Yc g9 f g):=qA (Lx.or CO) IF ha hb
end
inductive Im (h:Yi):Nat->D->Ye->Prop where
 |int (n:Nat) (i:Int) (t:Tok):Im h n (.int i) (.int i t)
 |str (n:Nat) (x:Str) (t:Tok):Im h n (.str x) (.str x t)
 |tup {n m:Nat} {a:Yd} {o:Yk} {items:Array Ye} {ds:List D} (ho:h.get? a=U o) (hc:o.cls= .type "tuple") (hd:o.data= .seq items m) (hl:ds.length=items.toList.length) (hi:∀(i:Nat) d v,ds[i]? =U d->items.toList[i]? =U v->Im h n d v):Im h (n+1) (.tup ds) (.ref a)
noncomputable def bz(w:World):Nat->D->Int
 |_,.int i=>hashInt i
 |_,.str x=>hashStr w x
 |n+1,.tup ds=>reduceHash (Builtin.Tuple.tupleHashOf (ds.map (bz w n)))
 |_,_=>0
section
variable{prog:Yn}{w:World}{A:Yj}{E:VSP}{s:Yg}
def vL(prog:Yn)(w:World)(A:Yj)(s:Yg)(v:Ye)(h:Int):Prop:=∀(tk:Nat) (R:Int->Yg->Prop) (E:VSP),(∀yh,tk<=yh ->R h {s with toks:=yh })->wpAny (model prog w) A (pyHash v) R E {s with toks:=tk}
theorem r9:∀{vs:List Ye} {ds:List D} (acc:Array Int) (tk:Nat) {Q:Array Int->Yg->Prop},ds.length=vs.length->(∀(i:Nat) d v,ds[i]? =U d->vs[i]? =U v->vL prog w A s v (bz w n d))->(∀yh,tk<=yh ->Q (acc++(ds.map (bz w n)).toArray) {s with toks:=yh })->
  wpAny (model prog w) A (forIn vs acc λx hs=>pyHash x>>=λh=>pure (ForInStep.yield (hs.push h))) Q E {s with toks:=tk}
 |[],[],acc,tk,Q,_,_,h=>Gad (by simpa using h tk (Gao _))
 |v::vs,d::ds,acc,tk,Q,hl,hi,h=>by
  rw[GdK];refine Gab (Gab (hi 0 d v rfl rfl tk _ _ λVL le=>Gad ?_));refine r9 (acc.push (bz w n d)) VL (by simpa using hl) (λi d v e1 e2=>hi (i+1) d v e1 e2) λWu UL=> ?_;have:=h Wu (Gbp le UL)
  simpa using this
def BS{o:Yk}{items:Array Ye}{ds:List D}(hu:A.units<cLine)(ho:s.heap.get? a=U o)(hc:o.cls= .type "tuple")(hd:o.data= .seq items m)(hl:ds.length=items.toList.length)
  (hi:∀(i:Nat) d v,ds[i]? =U d->items.toList[i]? =U v->vL prog w A.in1 s v (bz w n d)):vL prog w A s (.ref a) (bz w (n+1) (.tup ds)):=by
 intro tk Q E h;have hT:({s with toks:=tk}:Yg).TypeIs (.ref a) "tuple":=⟨o,ho,hc⟩
 have nn:(U (Value.builtin "tuple.__hash__")==U Value.none)=M:=beq_builtin_none _;unfold pyHash
 wp_walk using wpAny_cRoomFor_or (.inr hu),GdO hT Gdw.lookup,wpAny_callSpecialIfBoundUnlessNone?_slot hT Gdw,Gbd Gdw hT F.entry_tuple_hash (ha:=F.args_tuple_hash_1 _),wpAny_tupleItemsOf ho hd
 rw[hd];refine Gad (Gad (Gab ?_));rw[<-Array.forIn_toList];refine r9 #[] tk hl hi λVL le=>wpAny_ret_mkInt ?_;rw[show(#[]++(ds.map (bz w n)).toArray:Array Int).toList=ds.map (bz w n) by simp];have q:∀t,tk<=t->Q (reduceHash (Builtin.Tuple.tupleHashOf (ds.map (bz w n)))) {s with toks:=t}:=h;unfold reduceHash at q;have UL:=Nat.le_succ_of_le le;refine GcE (λc=>Gad ?_) (λc=>Gab (wpAny_rule (Gad ?_)))
 .rw[Gan c] at q
  first|exact q _ UL|exact q _ le
 .rw[Gah c] at q
  first|exact q _ UL|exact q _ le
def Lz(p:Im s.heap n d v):∀{A},A.units+n<cLine->vL prog w A s v (bz w n d):=by
 induction p with
 |int n i t=>
  intro A hu tk R E h;have e:bz w n (.int i)=(cJ prog w).hash (.inl i):=by cases n<;>rfl
  rw[e] at h;exact(cJ prog w).pyHash (oG prog w i t) (h _ (by first|exact Gao _|exact GbR _))
 |str n x t=>
  intro A hu tk R E h;have e:bz w n (.str x)=(cJ prog w).hash (.inr x):=by cases n<;>rfl
  rw[e] at h;exact(cJ prog w).pyHash (oH prog w x t) (h _ (by first|exact Gao _|exact GbR _))
 | @tup n _ _ _ _ _ ho hc hd hl hi ih=>exactλhu=>BS (by lia) ho hc hd hl λi d v e1 e2=>ih i d v e1 e2 (by rename_i A;show A.units+1+n<cLine;lia)
end
section
variable{items:Array Ye}
def og(step:∀v∈items.toList,∀P:ForInStep β->Yg->Prop,P (.yield b0) s->(∀b,Q b s->P (.done b) s)->wpAny (model prog w) A (body v b0) P E s)(fin:Q b0 s):wpAny (model prog w) A (forIn items b0 body) Q E s:=by
 rw[<-Array.forIn_toList]
 suffices∀l:List Ye,(∀v∈l,v∈items.toList)->wpAny (model prog w) A (forIn l b0 body) Q E s from this _ λ_ q=>q
 intro l;induction l with
 |nil=>exactλ_=>Gad fin
 |cons v l ih=>
  intro all;rw[GdK];exact Gab (step v (all v Gaj) _ (ih λx m=>all x (Gaf _ m)) λb q=>Gad q)
def Im.item{s:Yg}{ds:List D}(hl:ds.length=items.toList.length)(hi:∀(i:Nat) d v,ds[i]? =U d->items.toList[i]? =U v->Im s.heap n d v)(m:v∈items.toList):∃d,Im s.heap n d v:=by
 obtain⟨i,h⟩:=GdE.mp m;have lt:i<ds.length:=by rw[hl];exact(Gak.mp h).1
 exact⟨_,hi i ds[i] v (Gac lt) h⟩
theorem rf{s:Yg}:∀n {k d v E Q},Im s.heap n d v->n<=k->Q O s->wpAny (model prog w) A (eqIsQuiet k v) Q E s
 |_,_,_,_,_,_,.int ..,_,h=>by rw[eqIsQuiet_byValue _ rfl];exact Gad h
 |_,_,_,_,_,_,.str ..,_,h=>by rw[eqIsQuiet_byValue _ rfl];exact Gad h
 |n+1,k+1,_,.ref a,_,_,.tup ho hc hd hl hi,hk,h=>by
  have hT:s.TypeIs (.ref a) "tuple":=⟨_,ho,hc⟩
  unfold eqIsQuiet;apply Gab;apply GdO hT F.slot_tuple_eq.lookup;refine Gab (wpAny_isInstance hT isSubtype_tuple_tuple (GbX rfl (Gab (Gcr ho hd (Gab (og (λv m P yes _=> ?_) ?_))))))
  .obtain⟨d,im⟩:=Im.item hl hi m;exact Gab (rf n im (by lia) (GbX rfl (Gad yes)))
  .exact Gad h
theorem rg{s:Yg}:∀n {k d v E Q},Im s.heap n d v->n<=k->Q M s->wpAny (model prog w) A (ofAClassStatement k v) Q E s
 |_,_,_,_,_,_,.int ..,_,h=>by unfold ofAClassStatement;exact Gad h
 |_,_,_,_,_,_,.str ..,_,h=>by unfold ofAClassStatement;exact Gad h
 |n+1,k+1,_,.ref a,_,_,.tup ho hc hd hl hi,hk,h=>by
  have hT:s.TypeIs (.ref a) "tuple":=⟨_,ho,hc⟩
  unfold ofAClassStatement;refine Gab (GdI hT (wpAny_ite_true rfl (Gab (Gad (GbX rfl (Gab (Gcr ho hd (Gab (og (λv m P yes _=> ?_) ?_)))))))))
  .obtain⟨d,im⟩:=Im.item hl hi m;exact Gab (rg n im (by lia) (GbX rfl (Gad yes)))
  .exact Gad h
theorem IG{s:Yg}:∀n {k d v E Q},Im s.heap n d v->n<=k->(∀b,Q b s)->wpAny (model prog w) A (hashByValue k v) Q E s
 |_,k,_,_,_,_,.int ..,_,h=>by cases k<;>exact Gad (h _)
 |_,k,_,_,_,_,.str ..,_,h=>by cases k<;>exact Gad (h _)
 |n+1,k+1,_,.ref a,_,_,.tup ho hc hd hl hi,hk,h=>by
  have hT:s.TypeIs (.ref a) "tuple":=⟨_,ho,hc⟩
  apply Gab;apply GdO hT Gdw.lookup;refine Gab (Gcr ho hd (Gab (og (λv m P yes no=> ?_) ?_)))
  .obtain⟨d,im⟩:=Im.item hl hi m;refine Gab (IG n im (by lia) λb=> ?_);cases b
   .exact wpAny_ite_true rfl (Gad (no _ (Gad (h _))))
   .exact GbX rfl (Gad yes)
  .exact Gad (h _)
end
section
variable{s:Yg}
def IH(n:Nat):∀{d v},Im s.heap n d v->aM n d=O:=by
 induction n with
 |zero=>
  intro d v im;cases im<;>rfl
 |succ n ih=>
  intro d v im;cases im with
  |int _ i t=>rfl
  |str _ x t=>rfl
  | @tup _ m a o items ds ho hc hd hl hi=>
   show ds.all (aM n)=O;rw[Gaq];intro d hdm;obtain⟨i,X9,rfl⟩:=GbC hdm;exact ih (hi i ds[i] items.toList[i] (Gac X9) (Gac (by lia)))
def rh(n:Nat):∀{d e v},Im s.heap n d v->Im s.heap n e v->d=e:=by
 induction n with
 |zero=>
  intro d e v i1 i2;cases i1<;>cases i2<;>rfl
 |succ n ih=>
  intro d e v i1 i2;cases i1 with
  |int _ i t=>cases i2;rfl
  |str _ x t=>cases i2;rfl
  | @tup _ m a o items ds ho hc hd hl hi=>
   cases i2 with
   | @tup _ m' _ o' items' xr xk ym xb yz xa =>
    rw[ho] at xk;cases xk;rw[hd] at xb;cases xb;congr 1;apply GcW (by lia);intro i h1 h2;exact ih (hi i _ items.toList[i] (Gac h1) (Gac (by lia))) (xa i _ _ (Gac h2) (Gac (by lia)))
def Sq(n:Nat):∀{dx dy v u A},Im s.heap n dx v->Im s.heap n dy u->A.units+n<cLine->SeqAt.EqAt A s v u (eqD dx dy):=by
 have flat:∀{x y:V} {v u:Ye} {A:Yj} {b:Bool},XO x v->XO y u->tK x=O->tK y=O->b=eqV x y->SeqAt.EqAt A s v u b:=by
  intro x y v u A b rv ru fx fy e;rw[e];exact GU rv ru fx fy
 induction n with
 |zero=>
  intro dx dy v u A i1 i2 hu;cases i1 with
  |int _ i t=>
   cases i2 with
   |int _ j t' =>exact flat (x:= .int i) (y:= .int j) ⟨t,rfl⟩ ⟨t',rfl⟩ rfl rfl rfl
   |str _ y t' =>exact flat (x:= .int i) (y:= .str y) ⟨t,rfl⟩ ⟨t',rfl⟩ rfl rfl rfl
  |str _ x t=>
   cases i2 with
   |int _ j t' =>exact flat (x:= .str x) (y:= .int j) ⟨t,rfl⟩ ⟨t',rfl⟩ rfl rfl rfl
   |str _ y t' =>exact flat (x:= .str x) (y:= .str y) ⟨t,rfl⟩ ⟨t',rfl⟩ rfl rfl rfl
 |succ n ih=>
  intro dx dy v u A i1 i2 hu;have hu0:A.units<cLine:=by lia
  cases i1 with
  |int _ i t=>
   cases i2 with
   |int _ j t' =>exact flat (x:= .int i) (y:= .int j) ⟨t,rfl⟩ ⟨t',rfl⟩ rfl rfl rfl
   |str _ y t' =>exact flat (x:= .int i) (y:= .str y) ⟨t,rfl⟩ ⟨t',rfl⟩ rfl rfl rfl
   |tup ho hc hd hl hi=>exact SeqAt.EqAt.int_tuple i t ⟨_,ho,hc,_,hd⟩ hu0
  |str _ x t=>
   cases i2 with
   |int _ j t' =>exact flat (x:= .str x) (y:= .int j) ⟨t,rfl⟩ ⟨t',rfl⟩ rfl rfl rfl
   |str _ y t' =>exact flat (x:= .str x) (y:= .str y) ⟨t,rfl⟩ ⟨t',rfl⟩ rfl rfl rfl
   |tup ho hc hd hl hi=>exact SeqAt.EqAt.str_tuple x t ⟨_,ho,hc,_,hd⟩ hu0
  | @tup _ m a o items ds ho hc hd hl hi=>
   have ht:IsTup s.heap a items:=⟨_,ho,hc,_,hd⟩
   have i1' :Im s.heap (n+1) (.tup ds) (.ref a):= .tup ho hc hd hl hi;cases i2 with
   |int _ j t' =>exact SeqAt.EqAt.tuple_int j t' ht hu0
   |str _ y t' =>exact SeqAt.EqAt.tuple_str y t' ht hu0
   | @tup _ m' b o' items' xr xk ym xb yz xa =>
    have i2' :Im s.heap (n+1) (.tup xr) (.ref b):= .tup xk ym xb yz xa;by_cases hab:a=b
    .subst hab;have:=rh (n+1) i1' i2';rw[<-this,qF _ _ (IH _ i1')];exact SeqAt.EqAt.same _
    .have hJ:IsTup s.heap b items' :=⟨_,xk,ym,_,xb⟩
     have hX:items.size=ds.length:=by rw[hl];simp
     have xc:items'.size=xr.length:=by rw[yz];simp
     have key:=SeqAt.RcAt.tuples (e:=λj=>eqD (ds.getD j .non) (xr.getD j .non)) ht hJ hu0 λj h1 h2=>by
      have e1:ds.getD j .non=ds[j]'(by lia):=by rw[Gda,Gac (by lia)];rfl
      have e2:xr.getD j .non=xr[j]'(by lia):=by rw[Gda,Gac (by lia)];rfl
      rw[e1,e2];exact ih (hi j _ _ (Gac (by lia)) (by rw[Gbr];exact GaI h1)) (xa j _ _ (Gac (by lia)) (by rw[Gbr];exact GaI h2)) (in1_units hu)
     refine SeqAt.EqAt.of_refs hab ?_;show SeqAt.RcAt A s (.ref a) (.ref b) (jv ds xr);rw[hX,xc] at key;by_cases hll:ds.length=xr.length
     .rw[<-hll,Nat.min_self,fD hll] at key
      simpa using key
     .rw[ip hll];have:(ds.length==xr.length)=M:=by simpa using hll
      rw[this,GcR] at key;exact key
end
noncomputable def gL(mask:Nat):Nat->Nat×Nat->Nat×Nat
 |0,x=>x
 |n+1,x=>gL mask n (SetTable.leap mask x.1 x.2)
theorem um(mask:Nat):∀m n x,gL mask (m+n) x=gL mask n (gL mask m x)
 |0,n,x=>by rw[GaP];rfl
 |m+1,n,x=>by
  rw[Nat.succ_add];exact um mask m n (SetTable.leap mask x.1 x.2)
noncomputable def lcg(mask:Nat):Nat->Nat->Nat
 |0,i=>i
 |n+1,i=>lcg mask n ((i*5+1)%(mask+1))
theorem Aq(mask:Nat):∀n i,gL mask n (i,0)=(lcg mask n i,0)
 |0,i=>rfl
 |n+1,i=>by
  show gL mask n (SetTable.leap mask i 0)=_;have:SetTable.leap mask i 0=((i*5+1)%(mask+1),0):=by simp[SetTable.leap]
  rw[this,Aq mask n]
  rfl
theorem nj(mask:Nat):∀n x,(gL mask n x).2=x.2/32^n
 |0,x=>by simp[gL]
 |n+1,x=>by
  show(gL mask n (SetTable.leap mask x.1 x.2)).2=_;rw[nj mask n];show x.2/32/32^n=_;rw[Nat.div_div_eq_div_mul,Nat.pow_succ,Nat.mul_comm]
theorem Dk(mask:Nat):∀n x,x.1<=mask->(gL mask n x).1<=mask
 |0,x,h=>h
 |n+1,x,h=>Dk mask n _ (Gcm (GcX _ (Gcu _)))
noncomputable def uo(mask:Nat):Nat->Nat->List Nat
 |0,_=>[]
 |n+1,i=>i::uo mask n ((i*5+1)%(mask+1))
theorem Ar(mask:Nat):∀n i m,m<n->(uo mask n i)[m]? =U (lcg mask m i)
 |0,i,m,h=>by lia
 |n+1,i,0,h=>rfl
 |n+1,i,m+1,h=>by
  exact Ar mask n _ m (by lia)
theorem As(mask:Nat):∀n i,(uo mask n i).length=n
 |0,i=>rfl
 |n+1,i=>by show(uo mask n _).length+1=n+1;rw[As mask n]
theorem pY(mask:Nat):∀m n i,lcg mask (m+n) i=lcg mask n (lcg mask m i)
 |0,n,i=>by rw[GaP];rfl
 |m+1,n,i=>by
  rw[Nat.succ_add];exact pY mask m n _
def cR(mask:Nat):Bool:=((List.range (mask+1)).all λe=>(uo mask (mask+1) 0).contains e)&&lcg mask (mask+1) 0==0
def Sr:cR 31=O:=by decide+kernel
def Po:cR 127=O:=by decide+kernel
def II(h:cR mask=O)(he:e<=mask):∃m,m<=mask/\lcg mask m 0=e:=by
 unfold cR at h;rw[Gai] at h;have h2:=Gaq.mp h.1 e (GaS.mpr (by lia));have h3:e∈uo mask (mask+1) 0:=by simpa using h2
 obtain⟨m,hm,e1⟩:=GbC h3;rw[As] at hm;refine⟨m,by lia, ?_⟩;have:=Ar mask (mask+1) 0 m hm;simp_all
def Pp(h:cR mask=O)(hi:i<=mask)(he:e<=mask):∃m,m<=mask/\lcg mask m i=e:=by
 obtain⟨a,ha,ea⟩:=II h hi;obtain⟨b,hb,eb⟩:=II h he;by_cases c:a<=b
 .refine⟨b -a,by lia, ?_⟩;rw[<-ea,<-pY,show a+(b -a)=b by lia];exact eb
 .refine⟨mask+1 -a+b,by lia, ?_⟩;have z:lcg mask (mask+1) 0=0:=by
   unfold cR at h;rw[Gai] at h
   simpa using h.2
  have e0:lcg mask (mask+1 -a) i=0:=by
   rw[<-ea,<-pY,show a+(mask+1 -a)=mask+1 by lia];exact z
  rw[pY,e0];exact eb
def uq(h:cR mask=O)(hi:i<=mask)(hp:p<2^64)(he:e<=mask):∃n,1<=n/\n<=mask+13/\(gL mask n (i,p)).1=e:=by
 have z:(gL mask 13 (i,p)).2=0:=by
  rw[nj];exact Nat.div_eq_of_lt (GaL hp (by decide))
 have l:=Dk mask 13 (i,p) hi;obtain⟨m,hm,e1⟩:=Pp h l he;refine⟨13+m,by lia,by lia, ?_⟩;rw[um];have:gL mask 13 (i,p)=((gL mask 13 (i,p)).1,0):=Prod.ext rfl z;rw[this,Aq];exact e1
def oh(mask i:Nat):SetTable.runEnd mask i -i<=9:=by
 unfold SetTable.runEnd;split<;>lia
structure POk(t:SetTable)(p:SetTable.Probe):Prop where
 i:p.i<=t.mask
 more:p.more<=9
 Qq:p.perturb<2^64
def POk.start(t:SetTable)(h:Int):POk t (t.probeStart h):=by
 refine⟨?_,oh _ _, ?_⟩
 .exact Gcm (GcX _ (Gcu _))
 .show SetTable.bits h<2^64;unfold SetTable.bits;lia
def POk.adv{t:SetTable}(h:POk t p):POk t (t.advance p):=by
 unfold SetTable.advance;split
 .exact⟨h.i,by show p.more -1<=9;have:=h.more;lia,h.Qq⟩
 .refine⟨?_,oh _ _, ?_⟩
  .exact Gcm (GcX _ (Gcu _))
  .exact GcD (Nat.div_le_self _ _) h.Qq
def FD(t:SetTable)(p:SetTable.Probe)(d:Option Nat):(t.advance {p with dummy:=d})={t.advance p with dummy:=d}:=by
 unfold SetTable.advance;split<;>rfl
theorem rj{t:SetTable}(he:t.slot e= .empty):∀fuel n p,1<=n->p.more<=9->(gL t.mask n (p.i,p.perturb)).1=e->p.more+10*(n -1)+1<fuel->(SetTable.probe.go t hashAt h fuel p).isSome=O
 |0,n,p,_,_,_,hf=>by lia
 |fuel+1,n,p,hn,hm,hl,hf=>by
  have rec_:∀d:Option Nat,(SetTable.probe.go t hashAt h fuel {t.advance p with dummy:=d}).isSome=O:=λd=>by
   by_cases c:p.more>0
   .have ea:t.advance p={p with j:=p.j+1,more:=p.more -1}:=by
     unfold SetTable.advance;rw[Gan c]
    rw[ea];exact rj he fuel n _ hn (by show p.more -1<=9;lia) hl (by show p.more -1+10*(n -1)+1<fuel;lia)
   .have ea:t.advance p={p with j:=(SetTable.leap t.mask p.i p.perturb).1,more:=SetTable.runEnd t.mask (SetTable.leap t.mask p.i p.perturb).1 -(SetTable.leap t.mask p.i p.perturb).1,i:=(SetTable.leap t.mask p.i p.perturb).1,perturb:=(SetTable.leap t.mask p.i p.perturb).2}:=by
     unfold SetTable.advance;rw[Gah c]
    rw[ea];have hr:=oh t.mask (SetTable.leap t.mask p.i p.perturb).1;by_cases c1:n=1
    .subst c1;have hj:(SetTable.leap t.mask p.i p.perturb).1=e:=hl;cases fuel with
     |zero=>lia
     |succ fuel=>
      unfold SetTable.probe.go;rw[hj,he]
      rfl
    .obtain⟨n',rfl⟩:∃n',n=n' +1:=⟨n -1,by lia⟩
     refine rj he fuel n' _ (by lia) hr hl ?_;lia
  unfold SetTable.probe.go;cases q:t.slot p.j with
  |empty=>rfl
  |dummy=>
   rw[FD];exact rec_ _
  |live i=>
   dsimp only;split
   .rfl
   .simp_all
def BU{t:SetTable}(hc:cR t.mask=O)(hp:POk t p)(he:t.slot e= .empty)(zV:e<=t.mask):(t.probe hashAt h p).isSome=O:=by
 obtain⟨n,h1,h2,h3⟩:=uq hc hp.i hp.Qq zV;unfold SetTable.probe SetTable.turns;exact rj he _ n p h1 hp.more h3 (by have:=hp.more;lia)
theorem rA(he:owner[e]? =U J):∀fuel n i p,n<fuel->(gL mask n (i,p)).1=e->∃j,SetTable.layClean.free mask owner fuel i p=U j/\owner[j]? =U J
 |0,n,i,p,hf,_=>by lia
 |fuel+1,n,i,p,hf,hl=>by
  unfold SetTable.layClean.free;cases q:(List.range (SetTable.runEnd mask i+1 -i)).find? λk=>(owner.getD (i+k) (U 0)).isNone with
  |some k=>
   refine⟨i+k,rfl, ?_⟩;have h1:(owner.getD (i+k) (U 0)).isNone=O:=by simpa using GdP q
   rw[GbJ] at h1;cases z:owner[i+k]? with
   |none=>rw[z] at h1;simp at h1
   |some o=>
    rw[z] at h1;simp at h1;rw[h1]
  |none=>
   cases n with
   |zero=>
    have hi:i=e:=hl;have:=GbN.mp q 0 (GaS.mpr (by unfold SetTable.runEnd;split<;>lia));simp_all
   |succ n=>exact rA he fuel n _ _ (by lia) hl
def FE(hc:cR mask=O)(he:owner[e]? =U J)(zV:e<=mask):∃j,SetTable.layClean.free mask owner (SetTable.turns mask) (SetTable.bits h%(mask+1)) (SetTable.bits h)=U j/\owner[j]? =U J:=by
 have hp:SetTable.bits h<2^64:=by
  unfold SetTable.bits;lia
 obtain⟨n,h1,h2,h3⟩:=uq hc (Gcm (GcX _ (Gcu _))) hp zV;exact rA he _ n _ _ (by unfold SetTable.turns;lia) h3
theorem Dl:∀{l:List (Option Nat)} {j m:Nat},l[j]? =U J->((l.set j (U m)).filterMap id).Perm (m::l.filterMap id)
 |[],j,m,h=>by simp at h
 |x::l,0,m,h=>by
  simp at h;subst h;simp
 |x::l,j+1,m,h=>by
  have h' :l[j]? =U J:=by simpa using h
  have ih:=Dl (m:=m) h';cases x with
  |none=>simpa using ih
  |some y=>
   exact(List.Perm.cons y ih).trans (List.Perm.swap m y _)
theorem has_none:∀{l:List (Option Nat)},(l.filterMap id).length<l.length->∃e:Nat,l[e]? =U J
 |[],h=>by simp at h
 |none::l,_=> ⟨0,rfl⟩
 |some x::l,h=>by
  have:(l.filterMap id).length<l.length:=by
   simpa using h
  obtain⟨e,he⟩:=has_none this;exact⟨e+1,by simpa using he⟩
structure Laid(mask m:Nat)(owner:Array (Option Nat)):Prop where
 size:owner.size=mask+1
 occ:(owner.toList.filterMap id).Perm (List.range m)
def BV(mask:Nat):Laid mask 0 (Array.replicate (mask+1) J):=by
 refine⟨by simp, ?_⟩;simp_all
def FF(owner:Array (Option Nat)):∀n,n=owner.size->((List.range n).filterMap λj=>(owner.getD j J).map λk=>(j,k)).map (·.2)=owner.toList.filterMap id:=by
 intro n hn;subst hn;have e:owner.toList=(List.range owner.size).map λj=>owner.getD j J:=by
  apply GcL;intro i;rw[Gap,Gbr];by_cases c:i<owner.size
  .rw[GdT c,Gcj,GbJ,GaI c]
   rfl
  .simp_all
 rw[e,List.filterMap_map,List.map_filterMap];congr 1
 funext j
 show Option.map _ (Option.map _ _)=id (owner.getD j J);cases owner.getD j J<;>rfl
noncomputable def bu(t:SetTable):Nat->SetTable.Probe->SetTable.Probe
 |0,p=>p
 |n+1,p=>bu t n (t.advance p)
theorem jE(t:SetTable):∀m n p,bu t (m+n) p=bu t n (bu t m p)
 |0,n,p=>by rw[GaP];rfl
 |m+1,n,p=>by
  rw[Nat.succ_add];exact jE t m n _
def jF(t:SetTable)(n:Nat)(p:SetTable.Probe):bu t (n+1) p=t.advance (bu t n p):=jE t n 1 p
structure TOk(t:SetTable)(n:Nat):Prop where
 cov:cR t.mask=O
 odd:t.mask%2=1
 dum:t.dummies=#[]
 size:t.place.size=n
 few:n<=t.mask
def jR{t:SetTable}(h:t.dummies=#[])(j:Nat):t.slot j= .empty\/∃i,t.slot j= .live i/\t.place[i]? =U j:=by
 unfold SetTable.slot;dsimp only;split
 .rename_i c;exact .inr ⟨_,rfl,by simpa using c⟩
 .rw[h]
  left
  have:SetTable.has #[] j=M:=by
   unfold SetTable.has;simp
  rw[this];simp
theorem Dm:∀(N:Nat) (l:List Nat),l.length<N->∃e,e<N/\e∉l
 |0,l,h=>by lia
 |N+1,l,h=>by
  by_cases c:N∈l
  .obtain⟨e,he,hn⟩:=Dm N (l.erase N) (by rw[List.length_erase_of_mem c];have:=List.length_pos_of_mem c;lia);refine⟨e,by lia,λz=>hn ?_⟩;exact(List.mem_erase_of_ne (by lia)).mpr z
  .exact⟨N,by lia,c⟩
def TOk.hole{t:SetTable}(h:TOk t n):∃e,e<=t.mask/\t.slot e= .empty:=by
 obtain⟨e,he,hn⟩:=Dm (t.mask+1) t.place.toList (by rw[GaZ,h.size];have:=h.few;lia);refine⟨e,by lia, ?_⟩;rcases jR h.dum e with q| ⟨i,_,hp⟩
 .exact q
 .exfalso;apply hn;have:t.place.toList[i]? =U e:=by rw[Gbr];exact hp
  exact Gau this
theorem j5{t:SetTable}(hd:t.dummies=#[]):∀fuel p met,p.dummy=J->SetTable.probe.go t hashAt h fuel p=U met->
  ∃m,m<fuel/\(∀m',m' <m->∃i,t.slot (bu t m' p).j= .live i/\hashAt i≠h)/\((met= .empty (bu t m p).j J/\t.slot (bu t m p).j= .empty)\/∃i,met= .candidate (bu t m p).j i (t.advance (bu t m p))/\t.slot (bu t m p).j= .live i/\hashAt i=h)
 |0,p,met,_,e=>by cases e
 |fuel+1,p,met,hp,e=>by
  unfold SetTable.probe.go at e;rcases jR hd p.j with q| ⟨i,q,_⟩
  .rw[q] at e;cases e;exact⟨0,by lia,λm' h=>by lia,.inl ⟨by rw[hp];rfl,q⟩⟩
  .rw[q] at e;dsimp only at e;split at e
   .rename_i c;cases e;exact⟨0,by lia,λm' h=>by lia,.inr ⟨i,rfl,q,by simpa using c⟩⟩
   .rename_i c;have xy:hashAt i≠h:=by simpa using c
    have xN :(t.advance p).dummy=J:=by
     unfold SetTable.advance;split<;>exact hp
    obtain⟨m,h0,h1,h2⟩:=j5 hd fuel (t.advance p) met xN e;refine⟨m+1,by lia,λm' yx => ?_,h2⟩;cases m' with
    |zero=>exact⟨i,q,xy⟩
    |succ m' =>exact h1 m' (by lia)
def rB{t:SetTable}{p:SetTable.Probe}(T:TOk t n)(hp:POk t p)(hd:p.dummy=J):∃met m,m<10*SetTable.turns t.mask/\t.probe hashAt h p=U met/\(∀m',m' <m->∃i,t.slot (bu t m' p).j= .live i/\hashAt i≠h)/\
  ((met= .empty (bu t m p).j J/\t.slot (bu t m p).j= .empty)\/∃i,met= .candidate (bu t m p).j i (t.advance (bu t m p))/\t.slot (bu t m p).j= .live i/\hashAt i=h):=by
 obtain⟨e,he,hs⟩:=T.hole;have hsome:=BU (hashAt:=hashAt) (h:=h) T.cov hp hs he;obtain⟨met,hm⟩:=Option.isSome_iff_exists.mp hsome;obtain⟨m,h0,h1,h2⟩:=j5 T.dum _ p met hd hm;exact⟨met,m,h0,hm,h1,h2⟩
theorem POk.bu(h:POk t p):∀n,POk t (bu t n p)
 |0=>h
 |n+1=>by
  rw[jF];exact(POk.bu h n).adv
def IJ{t:SetTable}(T:TOk t n)(h:Int):∃K,K<10*SetTable.turns t.mask/\t.slot (bu t K (t.probeStart h)).j= .empty/\∀k,k<K->∃i,t.slot (bu t k (t.probeStart h)).j= .live i:=by
 obtain⟨met,m,h0,_,h1,h2⟩:=rB (hashAt:=λ_=>h+1) (h:=h) T (.start t h) rfl;refine⟨m,h0, ?_,λk hk=> ?_⟩
 .rcases h2 with⟨_,q⟩| ⟨i,_,_,q⟩
  .exact q
  .lia
 .simp_all
def IK(t:SetTable)(h:Int)(j:Nat):Prop:=∃k,(bu t k (t.probeStart h)).j=j/\∀k',k' <k->∃i,t.slot (bu t k' (t.probeStart h)).j= .live i
section
variable{w:World}
def LA{s:Yg}{stored:List Ye}{Q:Bool->Yg->Prop}(hx:Im s.heap n dx x)(hs:∀y∈stored,∃d,Im s.heap n d y)(hn:n<=8)(h:Q M s):wpAny (model prog w) A (searchCouldBeSeen x stored) Q E s:=by
 refine Gab ?_;refine wpAny_forIn_list _ (λrest r s' =>r.1=J/\s' =s/\∀y∈rest,y∈stored) _ ?_ ?_ _ _ ⟨rfl,rfl,λy hy=>hy⟩
 .rintro y rest r s' ⟨hr,xM,yI⟩;obtain⟨d,hy⟩:=hs y (yI y Gaj);have more:=λz hz=>yI z (Gaf _ hz);rw[xM];dsimp only;split
  all_goals
   split
   .exact Gad ⟨rfl,rfl,more⟩
   .refine Gab (rf n hx hn ?_);refine Gab (rf n hy hn ?_);refine Gab (rg n hx hn ?_);refine Gab (rg n hy hn ?_);exact Gad ⟨rfl,rfl,more⟩
 .rintro⟨r1,r2⟩ s' ⟨hr,xM,_⟩;subst hr;rw[xM];exact Gad h
structure mj(w:World)(g:Yi)(n:Nat)(es:Array (Int×Ye))(t:SetTable):Prop where
 tok:TOk t es.size
 el:∀(i:Nat) h v,es[i]? =U (h,v)->∃b d,v= .ref b/\Im g n d v/\h=bz w n d
 ris:Ris t.place
 way:∀(i:Nat) h v j,es[i]? =U (h,v)->t.place[i]? =U j->IK t h j
end
section
noncomputable def storedAt(es:Array (Int×Ye))(i:Nat):Int:=(es[i]?.map (·.1)).getD 0
theorem Au(t:SetTable)(h:Int):∀k,(bu t k (t.probeStart h)).dummy=J
 |0=>rfl
 |k+1=>by
  have ih:=Au t h k;rw[jF];unfold SetTable.advance;split<;>exact ih
def mq(g:Yi)(n:Nat)(es:Array (Int×Ye))(dx:D)(i:Nat):Prop:=∀h v d,es[i]? =U (h,v)->Im g n d v->eqD d dx=M
def vM{t:SetTable}(hr:Ris t.place)(h:t.place[i]? =U j):t.slot j= .live i:=by
 obtain⟨_,b2,b3⟩:=jD hr;have e:SetTable.below t.place j=i:=by
  rcases GdW i (SetTable.below t.place j) with z|z|z
  .exact absurd (b2 i j z h) (GbA _)
  .exact z.symm
  .have hi:=(Gbf.mp h).1;have g:t.place[SetTable.below t.place j]? =U (t.place[SetTable.below t.place j]'(by lia)):=GaI (by lia);have h1:=b3 _ _ (Gao _) g;have h2:=hr _ _ z _ _ g h;lia
 unfold SetTable.slot;simp_all
variable{s:Yg}
def Dn(n:Nat):∀{d e v u},Im s.heap n d v->Im s.heap n e u->eqD d e=O->d=e:=by
 induction n with
 |zero=>
  intro d e v u i1 i2 h;cases i1<;>cases i2<;>simp at h<;>simp[h]
 |succ n ih=>
  intro d e v u i1 i2 h;cases i1 with
  |int _ i t=>cases i2<;>simp at h<;>simp[h]
  |str _ x t=>cases i2<;>simp at h<;>simp[h]
  | @tup _ m a o items ds ho hc hd hl hi=>
   cases i2 with
   |int _ i t=>simp at h
   |str _ x t=>simp at h
   | @tup _ m' b o' items' xr xk ym xb yz xa =>
    have h' :jv ds xr =O:=by simpa using h
    have hll:ds.length=xr.length:=by
     rcases Nat.decEq ds.length xr.length with z|z
     .rw[ip z] at h';cases h'
     .exact z
    rw[<-fD hll] at h';congr 1;refine GcW hll λi h1 h2=> ?_;have:=Gaq.mp h' i (GaS.mpr h1);have e1:ds.getD i .non=ds[i]:=by simp[h1]
    have e2:xr.getD i .non=xr[i]:=by simp[h2]
    rw[e1,e2] at this;exact ih (hi i _ items.toList[i] (Gac h1) (Gac (by lia))) (xa i _ items'.toList[i] (Gac h2) (Gac (by lia))) this
def BW{t:SetTable}(X:mj w s.heap n es t)(hx:Im s.heap n dx x)(hk:t.slot (bu t k (t.probeStart (bz w n dx))).j= .empty)
  (past:∀k',k' <k->∃i,t.slot (bu t k' (t.probeStart (bz w n dx))).j= .live i/\mq s.heap n es dx i)(i:Nat):mq s.heap n es dx i:=by
 intro h v d he im;cases hq:eqD d dx with
 |false=>rfl
 |true=>
  have ed:=Dn n im hx hq;subst ed;have hi:i<t.place.size:=by
   rw[X.tok.size];exact(Gbf.mp he).1
  have hp:=GaI hi;obtain⟨b,d',hv,yL,hh⟩:=X.el i h v he;have:=rh n im yL;subst this;subst hh;obtain⟨k2,e2,before⟩:=X.way i _ v _ he hp;have sl:=vM X.ris hp;rcases GdW k2 k with z|z|z
  .obtain⟨i',q,un⟩:=past k2 z;rw[e2,sl] at q;cases q;have:=un _ v d he im;lia
  .simp_all
  .obtain⟨i',q⟩:=before k z;rw[hk] at q;cases q
def Av{A:Yj}{o:Yk}{es:Array (Int×Ye)}{t:SetTable}{R:SetFound->Yg->Prop}{K:Nat}(ho:s.heap.get? a=U o)(hd:o.data= .set es ep t)(hf:t.fits es.size=O)(X:mj w s.heap n es t)(hx:Im s.heap n dx (.ref b))(hn:n<=8)(hu:A.units+n<cLine)
   (hK:t.slot (bu t K (t.probeStart (bz w n dx))).j= .empty)
  (h1:(∃i,¬mq s.heap n es dx i)->R (.there J) s)
  (h2:∀k,t.slot (bu t k (t.probeStart (bz w n dx))).j= .empty->(∀k',k' <k->∃i,t.slot (bu t k' (t.probeStart (bz w n dx))).j= .live i)->(∀i,mq s.heap n es dx i)->R (.free (bu t k (t.probeStart (bz w n dx))).j M) s):
  ∀fuel k stand,stand.getD (t.probeStart (bz w n dx))=bu t k (t.probeStart (bz w n dx))->K -k<fuel->(∀k',k' <k->∃i,t.slot (bu t k' (t.probeStart (bz w n dx))).j= .live i/\mq s.heap n es dx i)->
   wpAny (model prog w) A (setSearchFrom a (.ref b) (bz w n dx) O fuel stand) R E s:=by
 have hK' :=hK;have na:=λk=>BW (k:=k) X hx;generalize hhe:bz w n dx=hh at*;intro fuel;induction fuel with
 |zero=>intro k stand _ eX;lia
 |succ fuel ih=>
  intro k stand xZ eX past;have hkK:k<=K:=by
   rcases Gbh K k with z|z
   .obtain⟨i,q,_⟩:=past K z;rw[hK] at q;cases q
   .exact z
  unfold setSearchFrom;refine Gab (GaT ho hd hf ?_);dsimp only;have gw:t.gaveWay=M:=by
   unfold SetTable.gaveWay;rw[X.tok.odd]
   rfl
  rw[gw];simp only[Bool.false_eq_true,if_false];rw[xZ];have pk:POk t (bu t k (t.probeStart hh)):=(POk.start t _).bu k;obtain⟨met,m,_,hm,p1,p2⟩:=rB (hashAt:=storedAt es) (h:=hh) X.tok pk (Au t hh k)
  erw[hm]
  rw[<-jE] at p2;have past2:∀k',k' <k+m->∃i,t.slot (bu t k' (t.probeStart hh)).j= .live i/\mq s.heap n es dx i:=λk' xu =>by
   rcases Gbh k' k with z|z
   .exact past k' z
   .obtain⟨i,q,xy⟩:=p1 (k' -k) (by lia);rw[<-jE,show k+(k' -k)=k' by lia] at q;refine⟨i,q,λh v d he im=> ?_⟩;cases hq:eqD d dx with
    |false=>rfl
    |true=>
     exfalso;have ed:=Dn n im hx hq;subst ed;obtain⟨b',d',hv,yL,US⟩:=X.el i h v he;have:=rh n im yL;subst this;apply xy;unfold storedAt;rw[he,<-hhe,<-US]
     rfl
  rcases p2 with⟨rfl,q⟩| ⟨i,rfl,q,hi⟩
  .dsimp only;exact Gad (h2 _ q (λk' z=>let⟨i,q,_⟩:=past2 k' z;⟨i,q⟩) (na _ q past2))
  .have hj:t.place[i]? =U (bu t (k+m) (t.probeStart hh)).j:=by
    rcases jR X.tok.dum (bu t (k+m) (t.probeStart hh)).j with z| ⟨i',z,hp⟩
    .rw[q] at z;cases z
    .rw[q] at z;cases z;exact hp
   have hlt2:i<es.size:=by
    have:=(Gbf.mp hj).1;rw[X.tok.size] at this;exact this
   have yr:es[i]? =U (es[i].1,es[i].2):=GaI hlt2;obtain⟨c,d,hv,im,US⟩:=X.el i _ _ yr;have hkm:k+m<K:=by
    rcases GdW (k+m) K with z|z|z
    .exact z
    .rw[z,hK] at q;cases q
    .obtain⟨i',q',_⟩:=past2 K z;rw[hK] at q';cases q'
   have sm:t.sameMemory t.moves t.mask=U O:=by
    unfold SetTable.sameMemory;simp
   have nx:t.advance (bu t (k+m) (t.probeStart hh))=bu t (k+m+1) (t.probeStart hh):=(jF t _ _).symm;have hseen:∀y∈((es.filter (·.1==hh)).toList.map (·.2)),∃d,Im s.heap n d y:=λy hy=>by
    obtain⟨e,he,rfl⟩:=Gas.mp hy;have zW :e∈es:=(Array.mem_filter.mp (GdH.mp he)).1;obtain⟨i',xa,rfl⟩:=Array.getElem_of_mem zW;obtain⟨_,d',_,yL,_⟩:=X.el i' es[i'].1 es[i'].2 (GaI xa);exact⟨d',yL⟩
   dsimp only;rw[yr,nx];rw[hv] at im;dsimp only;rw[hv];refine GcE (λ_=>Gab (LA hx hseen hn ?_)) (λ_=> ?_)
   all_goals
    refine Gab (GbM (Sq n im hx hu prog w _ _ ?_));refine Gab (GaT ho hd hf ?_);cases hq:eqD d dx with
    |true=>
     refine Gad (h1 ⟨i,λz=> ?_⟩);have:=z _ _ d yr (by rw[hv];exact im);rw[hq] at this;cases this
    |false=>
     rw[sm];simp only[Gdo];rw[q];dsimp only;rw[yr];rw[hv];refine Gab (wpAny_isSame_ref_self (Gab (Gad ?_)));refine ih (k+m+1) _ rfl (by lia) λk' xu => ?_;rcases Gbh k' (k+m) with z|z
     .exact past2 k' z
     .refine⟨i,by rw[show k' =k+m by lia];exact q,λh v d' he yL => ?_⟩;rw[yr] at he;cases he;rw[hv] at yL;have:=rh n im yL;rw[<-this];exact hq
end
theorem kS{t u:SetTable}(h:t.mask=u.mask):∀n p,bu t n p=bu u n p
 |0,p=>rfl
 |n+1,p=>by
  have e:t.advance p=u.advance p:=by
   unfold SetTable.advance;rw[h]
  show bu t n (t.advance p)=bu u n (u.advance p);rw[e];exact kS h n _
def mr{t u:SetTable}(h:t.mask=u.mask)(x:Int):t.probeStart x=u.probeStart x:=by
 unfold SetTable.probeStart;rw[h]
def Aw{t u:SetTable}(hm:t.mask=u.mask)(hk:∀j i,t.slot j= .live i->∃i',u.slot j= .live i')(x:IK t h j):IK u h j:=by
 obtain⟨k,e,b⟩:=x;refine⟨k,by rw[<-kS hm,<-mr hm];exact e,λk' xu => ?_⟩;obtain⟨i,q⟩:=b k' xu;rw[<-kS hm,<-mr hm];exact hk _ _ q
def kT{xs:Array α}(hp:p<=xs.size):(SetTable.insertAt xs p j)[i]? =if i<p then xs[i]? else if i=p then U j else xs[i -1]? :=by
 have e:(SetTable.insertAt xs p j)[i]? =(SetTable.insertAt xs p j).toList[i]? :=by simp
 rw[e,Gcv];have l1:(xs.toList.take p).length=p:=by simp;lia
 by_cases c:i<p
 .rw[Gan c,GaR (by rw[l1];exact c),Gcs c];simp
 .rw[Gah c,GaM (by rw[l1];lia),l1];by_cases c2:i=p
  .simp_all
  .rw[Gah c2,show i -p=(i -p -1)+1 by lia,GcB,Gdi,show p+(i -p -1)=i -1 by lia];simp
def mw{xs:Array α}(hp:p<=xs.size):(SetTable.insertAt xs p j).size=xs.size+1:=by
 have:(SetTable.insertAt xs p j).size=(SetTable.insertAt xs p j).toList.length:=by simp
 rw[this,Gcv];simp;lia
def BX{xs:Array α}:(SetTable.insertAt xs p j).toList.Perm (j::xs.toList):=by
 rw[Gcv];refine GdC.trans (List.Perm.cons j ?_);simp_all
def LB{t:SetTable}(h:t.dummies=#[]):(t.put j).1.dummies=#[]:=by
 unfold SetTable.put;rw[h]
 rfl
def BY{t:SetTable}(h:t.slot j= .empty):t.place[SetTable.below t.place j]? ≠U j:=by
 intro e;unfold SetTable.slot at h;simp_all
def Pq{t:SetTable}(T:TOk t n)(hr:Ris t.place)(hj:t.slot j= .empty)(hn:n+1<=t.mask):TOk (t.put j).1 (n+1)/\Ris (t.put j).1.place/\∀j' i,t.slot j' = .live i->∃i',(t.put j).1.slot j' = .live i' :=by
 have bl:=(jD (j:=j) hr).1;have yk :=BN hr (BY hj);refine⟨⟨T.cov,T.odd,LB T.dum, ?_,hn⟩,yk,λj' i q=> ?_⟩
 .show(SetTable.insertAt t.place _ j).size=_;rw[mw bl,T.size]
 .rcases jR T.dum j' with z| ⟨i',z,hp⟩
  .rw[q] at z;cases z
  .have xN :(t.put j).1.place[if i' <SetTable.below t.place j then i' else i' +1]? =U j' :=by
    show(SetTable.insertAt t.place _ j)[_]? =_;rw[kT bl];by_cases c:i' <SetTable.below t.place j
    .rw[Gan c,Gan c];exact hp
    .rw[Gah c,Gah (by lia),Gah (by lia)];exact hp
   exact⟨_,vM yk xN⟩
section
theorem mj.put{es:Array (Int×Ye)}{t:SetTable}(X:mj w g n es t)(hx:Im g n d (.ref b))(hk:t.slot (bu t k (t.probeStart (bz w n d))).j= .empty)
  (past:∀k',k' <k->∃i,t.slot (bu t k' (t.probeStart (bz w n d))).j= .live i)(hn:es.size+1<=t.mask):
  mj w g n (SetTable.insertAt es (t.put (bu t k (t.probeStart (bz w n d))).j).2 (bz w n d,.ref b)) (t.put (bu t k (t.probeStart (bz w n d))).j).1:=by
 generalize hj:(bu t k (t.probeStart (bz w n d))).j=j at*;have bl:=(jD (j:=j) X.ris).1;have bl2:SetTable.below t.place j<=es.size:=by rw[<-X.tok.size];exact bl
 obtain⟨T,R,keep⟩:=Pq X.tok X.ris hk hn;have e2:(t.put j).2=SetTable.below t.place j:=rfl;rw[e2];have wn:IK t (bz w n d) j:=⟨k,hj,past⟩
 refine⟨by rw[mw bl2];exact T,λi h v he=> ?_,R,λi h v j' he hp=> ?_⟩
 .rw[kT bl2] at he;split at he
  .exact X.el i h v he
  .split at he
   .cases he;exact⟨b,d,rfl,hx,rfl⟩
   .exact X.el (i -1) h v he
 .have xN :(SetTable.insertAt t.place (SetTable.below t.place j) j)[i]? =U j' :=hp;rw[kT bl] at xN;rw[kT bl2] at he;refine Aw (t:=t) rfl keep ?_;split at he
  .rename_i c;rw[Gan c] at xN;exact X.way i h v j' he xN
  .rename_i c;rw[Gah c] at xN;split at he
   .lia
   .rename_i c2;rw[Gah c2] at xN;exact X.way (i -1) h v j' he xN
end
noncomputable def T0(mask:Nat):SetTable:={SetTable.fresh 0 0 M with mask:=mask}
theorem nq{p:SetTable.Probe}:∀k,k<=p.more->bu t k p={p with j:=p.j+k,more:=p.more -k}
 |0,_=>rfl
 |k+1,h=>by
  rw[jF,nq k (by lia)];unfold SetTable.advance;rw[Gan (by lia),Nat.sub_sub,Nat.add_assoc]
def Tkn(owner:Array (Option Nat))(j:Nat):Prop:=∃m,owner[j]? =U (U m)
def IL(mask:Nat)(owner:Array (Option Nat))(h:Int)(j:Nat):Prop:=∃k,(bu (T0 mask) k ((T0 mask).probeStart h)).j=j/\∀k',k' <k->Tkn owner (bu (T0 mask) k' ((T0 mask).probeStart h)).j
def FG(h:i<=mask):i<=SetTable.runEnd mask i/\SetTable.runEnd mask i<=mask:=by
 unfold SetTable.runEnd;split<;>lia
def IM{owner:Array (Option Nat)}(hj:j<owner.size)(h:(owner.getD j (U 0)).isNone=M):Tkn owner j:=by
 rw[GbJ,GaI hj] at h;cases q:owner[j] with
 |none=>simp[q] at h
 |some m=>exact⟨m,by rw[GaI hj,q]⟩
theorem Ax{owner:Array (Option Nat)}(hs:owner.size=mask+1):∀fuel i p j,i<=mask->SetTable.layClean.free mask owner fuel i p=U j->
  ∃k,(bu (T0 mask) k {j:=i,more:=SetTable.runEnd mask i -i,i:=i,perturb:=p,dummy:=J}).j=j/\∀k',k' <k->Tkn owner (bu (T0 mask) k' {j:=i,more:=SetTable.runEnd mask i -i,i:=i,perturb:=p,dummy:=J}).j
 |0,i,p,j,_,e=>by cases e
 |fuel+1,i,p,j,hi,e=>by
  have re:=FG hi;unfold SetTable.layClean.free at e;cases q:(List.range (SetTable.runEnd mask i+1 -i)).find? λk=>(owner.getD (i+k) (U 0)).isNone with
  |some k=>
   rw[q] at e;cases e;have hk:=GaS.mp (Gde q);refine⟨k, ?_,λk' xu => ?_⟩
   .rw[nq k (by show k<=SetTable.runEnd mask i -i;lia)]
   .rw[nq k' (by show k' <=SetTable.runEnd mask i -i;lia)];have:=(List.find?_range_eq_some.mp q).2.2 k' xu;exact IM (by lia) (by simpa using this)
  |none=>
   rw[q] at e;obtain⟨k,h1,h2⟩:=Ax hs fuel (SetTable.leap mask i p).1 (SetTable.leap mask i p).2 j (Gcm (GcX _ (Gcu _))) e;have all:∀k',k' <=SetTable.runEnd mask i -i->Tkn owner (i+k'):=λk' xu =>by
    have:=GbN.mp q k' (GaS.mpr (by lia));exact IM (by lia) (Bool.eq_false_iff.mpr this)
   have step:bu (T0 mask) (SetTable.runEnd mask i -i+1) {j:=i,more:=SetTable.runEnd mask i -i,i:=i,perturb:=p,dummy:=J}={j:=(SetTable.leap mask i p).1,more:=SetTable.runEnd mask (SetTable.leap mask i p).1 -(SetTable.leap mask i p).1,i:=(SetTable.leap mask i p).1,perturb:=(SetTable.leap mask i p).2,dummy:=J}:=by
    rw[jF,nq (SetTable.runEnd mask i -i) (Gao _)];unfold SetTable.advance;rw[Gah (by lia)]
    rfl
   refine⟨SetTable.runEnd mask i -i+1+k, ?_,λk' xu => ?_⟩
   .rw[jE,step];exact h1
   .rcases Gbh k' (SetTable.runEnd mask i -i+1) with z|z
    .rw[nq k' (by show k' <=SetTable.runEnd mask i -i;lia)];exact all k' (by lia)
    .have:=h2 (k' -(SetTable.runEnd mask i -i+1)) (by lia);rw[<-step,<-jE,show SetTable.runEnd mask i -i+1+(k' -(SetTable.runEnd mask i -i+1))=k' by lia] at this;exact this
def IL.mono(x:IL mask ow h j)(k:∀j,Tkn ow j->Tkn ow' j):IL mask ow' h j:=let⟨n,e,b⟩:=x;⟨n,e,λk' xu =>k _ (b k' xu)⟩
def Pr(mask:Nat)(all:List Int)(owner:Array (Option Nat)):Prop:=∀(j k:Nat),owner[j]? =U (U k)->∃h,all[k]? =U h/\IL mask owner h j
theorem Ay(hc:cR mask=O):∀hs pre owner,Laid mask pre.length owner->Pr mask (pre++hs) owner->(pre++hs).length<=mask->∃xv,Laid mask (pre++hs).length xv /\Pr mask (pre++hs) xv /\
  hs.foldl (λacc h=>do
   let(owner,k)<-acc
   let j<-SetTable.layClean.free mask owner (SetTable.turns mask) (SetTable.bits h%(mask+1)) (SetTable.bits h)
   pure (owner.setIfInBounds j (U k),k+1)) (U (owner,pre.length))=U (xv,(pre++hs).length)
 |[],pre,owner,L,W,_=>by
  rw[Gbb] at W⊢;exact⟨owner,L,W,rfl⟩
 |h::hs,pre,owner,L,W,hl=>by
  have yz :pre.length+(hs.length+1)<=mask:=by simpa using hl
  have lt:(owner.toList.filterMap id).length<owner.toList.length:=by
   have e1:owner.toList.length=mask+1:=by rw[GaZ];exact L.size
   rw[L.occ.length_eq,List.length_range];lia
  obtain⟨e,he⟩:=has_none lt;have zW :owner[e]? =U J:=by rw[<-Gbr];exact he
  have zV:e<=mask:=by
   have:=(Gak.mp he).1;rw[GaZ,L.size] at this;lia
  obtain⟨j,hj,hn⟩:=FE hc zW zV;have xd :owner.toList[j]? =U J:=by rw[Gbr];exact hn
  have hjs:=(Gbf.mp hn).1;have wj:IL mask owner h j:=Ax L.size _ _ _ j (Gcm (GcX _ (Gcu _))) hj;have L' :Laid mask (pre++[h]).length (owner.setIfInBounds j (U pre.length)):=by
   refine⟨by simpa using L.size, ?_⟩;rw[Array.toList_setIfInBounds];refine(Dl xd).trans ?_;rw[Gal,GcQ,List.range_succ];exact(List.Perm.cons pre.length L.occ).trans (List.perm_append_comm (l₁:=[pre.length]))
  have mono:∀x,Tkn owner x->Tkn (owner.setIfInBounds j (U pre.length)) x:=λx ⟨m,hm⟩=>by
   by_cases c:j=x
   .subst c;rw[hn] at hm;cases hm
   .exact⟨m,by rw[GdF c];exact hm⟩
  have W' :Pr mask ((pre++[h])++hs) (owner.setIfInBounds j (U pre.length)):=by
   intro x k hx;rw[Gbe];by_cases c:j=x
   .subst c;rw[Array.getElem?_setIfInBounds_self_of_lt hjs] at hx;cases hx;exact⟨h,by simp,wj.mono mono⟩
   .rw[GdF c] at hx;obtain⟨h',e1,e2⟩:=W x k hx;exact⟨h',e1,e2.mono mono⟩
  obtain⟨xv,L2,W2,e2⟩:=Ay hc hs (pre++[h]) _ L' W' (by simpa using hl);rw[Gbe,List.singleton_append] at L2 W2 e2;refine⟨xv,L2,W2, ?_⟩;rw[Gcl,<-e2];congr 1;show(SetTable.layClean.free mask owner (SetTable.turns mask) (SetTable.bits h%(mask+1)) (SetTable.bits h)).bind _=_;rw[hj,Gal]
  rfl
def FH{plain:Bool}{hashes:Array Int}(hc:cR mask=O)(hl:hashes.size<=mask):∃t order,SetTable.laid mask finger moves led plain hashes=U (t,order)/\order.toList.Perm (List.range hashes.size)/\t.mask=mask/\t.place.size=hashes.size/\t.dummies=#[]/\t.plain=plain/\t.led=led/\Ris t.place/\
  ∀(i k j:Nat),order[i]? =U k->t.place[i]? =U j->∃h,hashes[k]? =U h/\IK t h j:=by
 obtain⟨owner,L,W,e⟩:=Ay hc hashes.toList [] (Array.replicate (mask+1) J) (BV mask) (λj k h=>by
  rw[Array.getElem?_replicate] at h;split at h<;>cases h) (by simpa using hl)
 rw[GbK] at L W e;rw[GaZ] at L e;have el:SetTable.layClean mask hashes=U owner:=by
  unfold SetTable.layClean;simp_all
 have r:=FF owner (mask+1) L.size.symm;unfold SetTable.laid;rw[el];refine⟨_,_,rfl, ?_,rfl, ?_,rfl,rfl,rfl,An, ?_⟩
 .exact(by rw[r];exact L.occ:(((List.range (mask+1)).filterMap λj=>(owner.getD j J).map λk=>(j,k)).map (·.2)).Perm (List.range hashes.size))
 .rw[Gaw,Gae];have:=congrArg List.length r;rw[Gae] at this;rw[this,L.occ.length_eq,List.length_range]
 .intro i k j hk hj;have hris:=An (n:=mask+1) (g:=λj=>owner.getD j J);generalize zj:((List.range (mask+1)).filterMap λj=>(owner.getD j J).map λk=>(j,k))=live at*;have xu :(live.map (·.2))[i]? =U k:=by simpa using hk
  have hj' :(live.map (·.1))[i]? =U j:=by simpa using hj
  have hmem:∀x m,(x,m)∈live↔owner[x]? =U (U m):=λx m=>by
   rw[<-zj,Gdf];constructor
   .rintro⟨a,_,h2⟩;cases q:owner.getD a J with
    |none=>rw[q] at h2;cases h2
    |some c=>
     rw[q] at h2;cases h2;rw[GbJ] at q;cases z:owner[x]? with
     |none=>rw[z] at q;cases q
     |some o=>rw[z] at q;rw[<-q];rfl
   .intro h;have hx:=(Gbf.mp h).1;refine⟨x,GaS.mpr (by rw[<-L.size];exact hx), ?_⟩;rw[GbJ,h]
    rfl
  obtain⟨q,hq,rfl⟩:∃q,live[i]? =U q/\q.1=j:=by
   rw[Gap] at hj';exact Gaa.mp hj'
  have hq2:q.2=k:=by
   rw[Gap,hq] at xu;exact Option.some.inj xu
  have ho:=(hmem q.1 q.2).mp (Gau hq);rw[hq2] at ho;obtain⟨h,e1,k0,e2,b⟩:=W _ _ ho;have am:∀u:SetTable,u.mask=mask->∀n,bu u n (u.probeStart h)=bu (T0 mask) n ((T0 mask).probeStart h):=λu hu n=>by rw[kS (u:=T0 mask) hu,mr (u:=T0 mask) hu]
  refine⟨h,by rw[<-Gbr];exact e1,k0, ?_,λk' xu => ?_⟩
  .rw[<-e2];exact congrArg (λz:SetTable.Probe=>z.j) (am {mask:=mask,place:=_,dummies:=#[],finger:=finger,led:=led,moves:=moves,plain:=plain} rfl k0)
  .obtain⟨m,hm⟩:=b k' xu;obtain⟨i',xa,e'⟩:=GbC ((hmem _ _).mpr hm);rw[am _ rfl];refine⟨i',vM hris ?_⟩;simp[xa,e']
def Im.mono{g g' :Yi}(hk:∀b o,g.get? b=U o->g'.get? b=U o)(p:Im g n d v):Im g' n d v:=by
 induction p with
 |int n i t=>exact .int n i t
 |str n x t=>exact .str n x t
 |tup ho hc hd hl hi ih=>exact .tup (hk _ _ ho) hc hd hl ih
theorem mj.mono{g g' :Yi}(hk:∀b o,g.get? b=U o->g'.get? b=U o)(X:mj w g n es t):mj w g' n es t:=⟨X.tok,λi h v e=>let⟨b,d,h1,h2,h3⟩:=X.el i h v e;⟨b,d,h1,h2.mono hk,h3⟩,X.ris,X.way⟩
def mj.off(X:mj w g n es t):mj w g n es {t with plain:=M}:=
 ⟨⟨X.tok.cov,X.tok.odd,X.tok.dum,X.tok.size,X.tok.few⟩,X.el,X.ris,λi h v j e p=>Aw (t:=t) rfl (λj i q=> ⟨i,q⟩) (X.way i h v j e p)⟩
theorem TOk.fits{t:SetTable}(T:TOk t n):t.fits n=O:=by
 unfold SetTable.fits SetTable.fill;rw[T.dum,T.size];have:=T.few
 simpa using this
def TOk.full{t:SetTable}(T:TOk t n):t.tooFull=decide (n*5>=t.mask*3):=by
 unfold SetTable.tooFull SetTable.fill;rw[T.dum,T.size]
 rfl
def Big(m n:Nat):Prop:=m=7/\n<=4\/m=31/\n<=18\/m=127/\n<=76
structure SIx(w:World)(bt:Bool)(g0:Yi)(n:Nat)(its:List Ye)(ix:List Nat)(es:Array (Int×Ye))(t:SetTable):Prop where
 ok:mj w g0 n es t
 vals:(es.toList.map (·.2)).Perm (ix.map λi=>its.getD i .none)
 big:Big t.mask es.size
 led:t.led= !bt
def vN(w:World)(bt:Bool)(g0:Yi)(n:Nat)(its:List Ye)(g:Yi)(a:Yd)(ix:List Nat):Prop:=
 ∃o es ep t,g.get? a=U o/\o.ExactSet/\o.data= .set es ep t/\SIx w bt g0 n its ix es t
theorem SIx.size{ix:List Nat}{es:Array (Int×Ye)}(h:SIx w bt g0 n its ix es t):es.size=ix.length:=by
 have:=h.vals.length_eq
 simpa using this
def Dp(g0:Yi)(n:Nat)(ds:List D)(its:List Ye):Prop:=∀i,i<its.length->∃b,its.getD i .none= .ref b/\Im g0 n (ds.getD i .non) (.ref b)
theorem rC{α:Type}{es:Array α}{z:α}:∀{l:List Nat},(∀k∈l,k<es.size)->l.filterMap (λk=>es[k]?)=l.map λk=>es.getD k z
 |[],_=>rfl
 |k::l,h=>by
  have hk:=h k Gaj;rw[Gcw,rC (z:=z) λx hx=>h x (Gaf _ hx)];simp[hk]
def BZ{α:Type}(es:Array α):(List.range es.size).filterMap (λk=>es[k]?)=es.toList:=by
 cases hs:es.toList with
 |nil=>
  have:es.size=0:=by rw[<-GaZ,hs];rfl
  rw[this]
  rfl
 |cons z _=>
  rw[<-hs,rC (z:=z) λk hk=>GaS.mp hk];apply GcW
  .simp
  .intro i h1 h2;simp at h1 h2⊢;simp[h2]
def LC{es:Array (Int×Ye)}{t:SetTable}(X:mj w g0 n es t)(hM:SetTable.sizeAbove wanted=XM+1)(hc:cR XM=O)(ze:XM%2=1)(hl:es.size<=XM):
  ∃t' order,t.relaid (es.map (·.1)) wanted=U (t',order)/\(order.filterMap (es[·]?)).toList.Perm es.toList/\t'.mask=XM/\t'.led=t.led/\mj w g0 n (order.filterMap (es[·]?)) t' :=by
 unfold SetTable.relaid;rw[hM];obtain⟨t',order,e,hp,m1,m2,m3,m4,m5,m6,m7⟩:=FH (hashes:=es.map (·.1)) hc (by simpa using hl);rw[Array.size_map] at hp m2;have eX:∀k∈order.toList,k<es.size:=λk hk=>GaS.mp (hp.mem_iff.mp hk);have pm:(order.filterMap (es[·]?)).toList.Perm es.toList:=by
  rw[Array.toList_filterMap];exact(hp.filterMap _).trans (by rw[BZ])
 have sz:(order.filterMap (es[·]?)).size=es.size:=by
  have:=pm.length_eq;exact this
 have at_:∀(i:Nat) e,(order.filterMap (es[·]?))[i]? =U e->∃k:Nat,order[i]? =U k/\es[k]? =U e:=λi e he=>by
  rw[<-Gbr,Array.toList_filterMap,rC (z:=(0,Value.none)) eX,Gap] at he;obtain⟨k,hk,rfl⟩:=Gaa.mp he;have xP:=eX k (Gau hk);simp_all
 refine⟨t',order,e,pm,m1,m5,⟨⟨by rw[m1];exact hc,by rw[m1];exact ze,m3,by rw[m2,sz],by rw[sz,m1];exact hl⟩,λi h v he=> ?_,m6,λi h v j he hj=> ?_⟩⟩
 .obtain⟨k,_,hk⟩:=at_ i _ he;exact X.el k h v hk
 .obtain⟨k,ho,hk⟩:=at_ i _ he;obtain⟨h',e1,e2⟩:=m7 i k j ho hj;simp_all
def LD{A:Yj}{z:Yg}{g0:Yi}{ds:List D}{its:List Ye}{ix:List Nat}(hS:vN w bt g0 n its z.heap a ix)(hI:Dp g0 n ds its)(hold:∀b o,g0.get? b=U o->z.heap.get? b=U o)(W7:∀i∈ix,i<its.length)(hk:k<its.length)(hb:its.getD k .none= .ref b)(W0:ix.length<76)(hn:n<=8)(hu:A.units+n<cLine)
  (h:∀r g,Heap.SameBut a z.heap g->vN w bt g0 n its g a (if ix.any (λi=>eqD (ds.getD i .non) (ds.getD k .non)) then ix else ix++[k])->R r {z with heap:=g}):
  wpAny (model prog w) A (setAddHashed a (.ref b) (bz w n (ds.getD k .non))) R E z:=by
 obtain⟨o,es,ep,t,ho,hex,hd,hE⟩:=hS;obtain⟨b',xG,VS⟩:=hI k hk;rw[hb] at xG;cases xG;generalize hdx:ds.getD k .non=dx at*;have im:Im z.heap n dx (.ref b):=VS.mono hold;have X:=hE.ok.mono hold;have hf:=X.tok.fits;have bg:=hE.big;have sz:=hE.size;obtain⟨K,XE,hK,_⟩:=IJ X.tok (bz w n dx);have hsl:sizeLine=16777216:=Gbu;have hm127:t.mask<=127:=by rcases bg with q|q|q<;>lia
 unfold setAddHashed setAddHashedIn;refine GbM (Gab (GaT ho hd hf ?_));dsimp only;rw[Gah (by show¬(byScan (.ref b) es=O);unfold byScan;simp[Value.scannable])];unfold setSearch;refine Gab (Av ho hd hf X im hn hu hK ?_ ?_ 100000 0 J rfl ?_ ?_)
 .rintro⟨i,VW⟩;dsimp only;have hany:ix.any (λi=>eqD (ds.getD i .non) dx)=O:=by
   simp only[mq,Classical.not_forall] at VW;obtain⟨hh,v,d,e1,e2,e3⟩:=VW;have hv:v∈es.toList.map (·.2):=Gas.mpr ⟨(hh,v),by rw[GdH];exact Array.mem_of_getElem? e1,rfl⟩;obtain⟨i',xa,rfl⟩:=Gas.mp (hE.vals.mem_iff.mp hv);obtain⟨b2,VF,Va⟩:=hI i' (W7 i' xa);rw[VF] at e2;have:=rh n e2 (Va.mono hold);subst this;exact Gca.mpr ⟨i',xa,by simpa using e3⟩
  rw[Gan hany] at h;refine Gad ?_;have e:z={z with heap:=z.heap}:=by cases z;rfl
  rw[e];exact h _ z.heap (Heap.SameBut.refl a z.heap) ⟨o,es,ep,t,ho,hex,hd,hE⟩
 .intro k0 hk0 past un;dsimp only;have hany:ix.any (λi=>eqD (ds.getD i .non) dx)=M:=by
   rw[GbH];intro i hi hq;obtain⟨b2,VF,Va⟩:=hI i (W7 i hi);have hv:its.getD i .none∈es.toList.map (·.2):=hE.vals.mem_iff.mpr (Gas.mpr ⟨i,hi,rfl⟩);obtain⟨e,he,W9⟩:=Gas.mp hv;obtain⟨j,hj,rfl⟩:=GbC he;rw[Array.getElem_toList] at W9;have hj' :j<es.size:=by simpa using hj
   have:=un j es[j].1 es[j].2 (ds.getD i .non) (GaI hj') (by rw[W9,VF];exact Va.mono hold);rw[this] at hq;cases hq
  rw[hany,Gah Gaz] at h;have hn1:es.size+1<=t.mask:=by rcases bg with q|q|q<;>lia
  have X1:=hE.ok.put VS hk0 past hn1;have bl:(t.put (bu t k0 (t.probeStart (bz w n dx))).j).2<=es.size:=by
   have:=(jD (j:=(bu t k0 (t.probeStart (bz w n dx))).j) X.ris).1;rw[X.tok.size] at this;exact this
  have ml:(t.put (bu t k0 (t.probeStart (bz w n dx))).j).1.mask=t.mask:=rfl;have ll:(t.put (bu t k0 (t.probeStart (bz w n dx))).j).1.led=t.led:=rfl;refine Gab (GaT ho hd hf ?_);dsimp only;generalize t.put (bu t k0 (t.probeStart (bz w n dx))).j=tp at*;obtain⟨t1,p⟩:=tp;dsimp only at*;generalize hes1:SetTable.insertAt es p (bz w n dx,Value.ref b)=es1 at*;have V4:es1.size=es.size+1:=by rw[<-hes1];exact mw bl
  have pv:(es1.toList.map (·.2)).Perm ((ix++[k]).map λi=>its.getD i .none):=by
   rw[<-hes1];refine(BX.map _).trans ?_;rw[Gax,GaC,List.map_singleton,hb];exact(List.Perm.cons _ hE.vals).trans (List.perm_append_comm (l₁:=[Value.ref b]))
  have s0:SAt z.heap a es t:=⟨o,ep,ho,hex,hd⟩
  have fin:∀u:SetTable,mj w g0 n es1 u->u.mask=t.mask->u.led=t.led->wpAny (model prog w) A (do
    storeSet a es1 u
    if(!M&&u.tooFull)=O then do
      setRelay a (SetTable.grown (es.size+1))
      pure O
     else pure O) R E z:=by
   intro u XH hum hul;refine Gab (Dh s0 (by lia) λg ⟨s1,VN⟩=> ?_);rw[Bool.not_false,Bool.true_and,XH.tok.full,V4,hum];refine GcE (λc=> ?_) (λc=> ?_)
   .have c' :=Gar c;obtain⟨XM,hM,hc,ze,XA,Wc⟩:∃XM,SetTable.sizeAbove (SetTable.grown (es.size+1))=XM+1/\cR XM=O/\XM%2=1/\es.size+1<=XM/\Big XM (es.size+1):=by
     rcases bg with⟨q1,q2⟩| ⟨q1,q2⟩| ⟨q1,q2⟩
     .have:es.size=4:=by lia
      rw[this];exact⟨31,by decide,Sr,rfl,by lia,.inr (.inl ⟨rfl,by lia⟩)⟩
     .have:es.size=18:=by lia
      rw[this];exact⟨127,by decide,Po,rfl,by lia,.inr (.inr ⟨rfl,by lia⟩)⟩
     .lia
    obtain⟨t',order,e1,pm,m1,m5,X'⟩:=LC XH hM hc ze (by lia);have V3:(order.filterMap (es1[·]?)).size=es1.size:=by
     have:=pm.length_eq;rw[GaZ,GaZ] at this;exact this
    have hM127:XM<=127:=by rcases Wc with q|q|q<;>lia
    obtain⟨o1,Wl,g1,g2,g3⟩:=id s1;refine Gab (Gab (GaT (s:={z with heap:=g}) g1 g3 XH.tok.fits (GbX (by rw[hM];simp;lia) ?_)));rw[e1];refine Gab (GbX (by rw[V3];simp) (Gad (Dh (z:={z with heap:=g}) s1 (by rw[V3];lia) λg' ⟨⟨o2,Xp,r1,r2,r3⟩,Ww⟩=>Gad (h _ _ (VN.trans Ww) ⟨o2,_,Xp,_,r1,r2,r3,X',(pm.map _).trans pv, ?_, ?_⟩))))
    .rw[m1,V3,V4];exact Wc
    .rw[m5,hul];exact hE.led
   .obtain⟨o1,Wl,g1,g2,g3⟩:=s1;refine Gad (h _ _ VN ⟨o1,_,Wl,_,g1,g2,g3,XH,pv, ?_,by rw[hul];exact hE.led⟩);rw[hum,V4];rcases bg with⟨q1,q2⟩| ⟨q1,q2⟩| ⟨q1,q2⟩
    .exact .inl ⟨q1,by lia⟩
    .exact .inr (.inl ⟨q1,by lia⟩)
    .exact .inr (.inr ⟨q1,by lia⟩)
  refine GcE (λ_=>Gab (IG n im hn λbv=> ?_)) (λ_=>Gab (Gad ?_))
  .cases bv with
   |true=>
    exact fin t1 X1 ml ll
   |false=>
    exact fin _ X1.off ml ll
  .exact fin t1 X1 ml ll
 .have:SetTable.turns t.mask=t.mask+15:=rfl;lia
 .lia
noncomputable def imN:Nat->D->Bool
 |_,.int _=>O
 |_,.str _=>O
 |n+1,.tup ds=>ds.all (imN n)
 |_,_=>M
def ku(acc:List D)(d:D):List D:=if acc.any (λe=>eqD e d) then acc else acc++[d]
def oj(ds:List D):List D:=ds.foldl ku []
def mz(ds:List D):Nat->List Nat
 |0=>[]
 |i+1=>if(mz ds i).any (λj=>eqD (ds.getD j .non) (ds.getD i .non)) then mz ds i else mz ds i++[i]
theorem pZ(ds:List D):∀i,∀j∈mz ds i,j<i
 |0,j,h=>by cases h
 |i+1,j,h=>by
  unfold mz at h;split at h
  .exact GbY (pZ ds i j h)
  .rcases Gav.mp h with q|q
   .exact GbY (pZ ds i j q)
   .simp_all
theorem nr(ds:List D):∀i,(mz ds i).length<=i
 |0=>Gao _
 |i+1=>by
  have:=nr ds i;unfold mz;split
  .lia
  .simp_all
theorem Az(ds:List D):∀i,i<=ds.length->(mz ds i).map (λj=>ds.getD j .non)=oj (ds.take i)
 |0,_=>rfl
 |i+1,h=>by
  have ih:=Az ds i (by lia);have hi:i<ds.length:=by lia
  have e:ds.getD i .non=ds[i]:=by simp[hi]
  have step:oj (ds.take (i+1))=ku (oj (ds.take i)) ds[i]:=by
   unfold oj;rw[<-List.take_append_getElem hi,List.foldl_append]
   rfl
  rw[step,<-ih];unfold ku;rw[Gdn];show List.map _ (if(mz ds i).any (λj=>eqD (ds.getD j .non) (ds.getD i .non)) then _ else _)=if(mz ds i).any (λj=>eqD (ds.getD j .non) ds[i]) then _ else _
  rw[e];split
  .rfl
  .rw[GaC,List.map_singleton,e]
def vN.at{g g' :Yi}(h:vN w bt g0 n its g a ix)(e:∀o,g.get? a=U o->g'.get? a=U o):vN w bt g0 n its g' a ix:=let⟨o,es,ep,t,ho,r⟩:=h;⟨o,es,ep,t,e o ho,r⟩
def FI{A:Yj}{R:Result->Yg->Prop}{fp:List Yd}{P:Nat->Ye->Prop}{St:Nat->Yg->Prop}{g0:Yi}{its:List Ye}(W:WalksS prog w A.in1 I fp wr G n P St)(S:Yd)(Wd:S∉fp)(hI:Dp g0 m ds its)(zA:its.length=n)(Vg:∀i v,P i v->its[i]? =U v)(hb:n<76)(hm:m<=8)(hu:A.units+1+m<cLine)
  (Xi:g0.get? S=J)(WM:∀b∈wr,g0.get? b=J):
  ∀k i z,n -i=k->i<=n->St i z->(∀b o,g0.get? b=U o->z.heap.get? b=U o)->vN w bt g0 m its z.heap S (mz ds i)->
   (∀y,Moved (S::wr) G z y->vN w bt g0 m its y.heap S (mz ds n)->R (.ok (.ret .none)) y)->codeAny (model prog w) A (.builtin "set.update.loop" ⟨[.ref S,.ref I],[]⟩) R z:=by
 have out:=λh=>Wd (W.sub _ h);intro k i z hk hi st old hS hR;refine uh (n:=n) (λi y=>St i y/\Moved (S::wr) G z y/\(∀b o,g0.get? b=U o->y.heap.get? b=U o)/\vN w bt g0 m its y.heap S (mz ds i)) ?_ ?_ k i z (by lia) ⟨st,Moved.refl W.grefl,old,hS⟩
 .rintro i y Q E lt ⟨st,mv,old,hS⟩ up;refine W.item i y Q E lt st λv y' hP xH zy => ?_;have li:i<its.length:=by lia
  have gv:its.getD i .none=v:=by rw[Gda,Vg i v hP];rfl
  obtain⟨b,xG,im⟩:=hI i li;cases gv.symm.trans xG;have old' :=λb o e=>zy.heap b o (λq=>by rw[WM b q] at e;cases e) (old b o e);refine up _ _ λQ' E' q=>GbM (Gab (Lz (im.mono old') (show A.units+1+m<cLine from hu) y'.toks _ _ λtk le=>LD (hS.at λo=>zy.heap S o out) hI old' (λj hj=>Nat.lt_trans (pZ ds i j hj) li) li gv (by have:=nr ds i;lia) hm (show A.units+1+m<cLine from hu) λr g sb Xh=>q r _ ⟨?_, ?_,λb o e=> ?_,Xh⟩))
  .exact W.frame _ y' g tk xH le λb q o e=>sb.extBut b o (λe=>Wd (e▸q)) e
  .exact(mv.trans W.gtrans (zy.mono λ_=> .tail _)).trans W.gtrans ⟨λb o nb e=>sb.extBut b o (λe=>nb (e▸.head _)) e,W.grefl _,rfl,rfl,le⟩
  .exact sb.extBut b o (λq=>by rw[q,Xi] at e;cases e) (old' b o e)
 .rintro y Q E ⟨st,mv,old,hS⟩ fin;exact W.done y Q E st λy' zy =>fin y' (hR y' (mv.trans W.gtrans (zy.mono λ_=> .tail _)) (hS.at λo=>zy.heap S o out))
def FJ(b:Bool):TOk (.fresh 0 0 b) 0:=⟨by show cR 7=O;decide,by show(7:Nat)%2=1;decide,rfl,rfl,Gba _⟩
def FK:SIx w bt g0 m its [] #[] (.fresh 0 0 (!bt)):=
 ⟨⟨FJ _,λi h v e=>by simp at e,λi j _ x y hx _=>by simp[SetTable.fresh] at hx,λi h v j e _=>by simp at e⟩,List.Perm.nil,.inl ⟨rfl,by decide⟩,rfl⟩
def Dq{g:Yi}{b:Yd}(h:g.objs.size<=b):g.get? b=J:=by
 cases e:g.get? b with
 |none=>rfl
 |some o=>exact absurd (GaA e) (Nat.not_lt.mpr h)
def FL{A:Yj}{z:Yg}{its:List Ye}(hh:A.handled=J)(hl:z.heap.IsList l its.toArray)(hI:Dp z.heap m ds its)(hb:its.length<76)(X5:m<=8)(hu:A.units+3+m<cLine)
  (h:∀g tk,vN w (lx w) z.heap m its g z.heap.objs.size (mz ds its.length)->(∀b o,b<z.heap.objs.size->z.heap.get? b=U o->g.get? b=U o)->R (.ref z.heap.objs.size) {z with heap:=g,toks:=tk}):
  wpAny (model prog w) A (call (.type "set") [.ref l]) R E z:=by
 have ll:=let⟨_,q,_⟩:=hl
 GaA q
 refine Pf hl λh1 eS it k=>FI (Walks.list (by simp[hh]) (z.heap.objs.size+1) l (GaK (GbY ll)) its.toArray).toS z.heap.objs.size (by simp[GbU ll]) hI (by simp) (λi v hv=>by simpa using hv) (by simpa using hb) X5 (show A.units+2+1+m<cLine from hu) (Dq (Gao _)) (λb q=>by rw[GaU.mp q];exact Dq (GbR _))
  its.toArray.size 0 _ (Nat.sub_zero _) (Gba _) ⟨it,let⟨o,q,r⟩:=hl;⟨o,k l o q,r⟩⟩ k ⟨_,#[],0,_,eS,⟨rfl,rfl,rfl⟩,rfl,FK⟩ λy mv hS=> ?_
 rw[Moved.eq_with mv];exact h y.heap y.toks (by simpa using hS) λb o lt q=>mv.heap b o (by simp[GaK lt,GaK (GbY lt)]) (k b o q)
theorem ur{α β:Type}{f:α->β}:∀{ys:List β} {xs:List α},ys.Perm (xs.map f)->∃zs:List α,zs.Perm xs/\ys=zs.map f
 |[],xs,h=>by
  simp_all
 |y::ys,xs,h=>by
  obtain⟨x,hx,rfl⟩:=Gas.mp (h.mem_iff.mp Gaj);obtain⟨s,t,rfl⟩:=List.append_of_mem hx;have e:=h.trans ((GdC).map f);obtain⟨zs,h1,h2⟩:=ur e.cons_inv;exact⟨x::zs,(h1.cons x).trans GdC.symm,by rw[h2];rfl⟩
def AA{A:Yj}{z:Yg}{es:Array (Int×Ye)}{t:SetTable}(hh:A.handled=J)(hm:mh z.heap a es ep t)(hf:t.fits es.size=O)(hT:Tb (lx w) t)(yS:es.size<64)
  (h:∀ws,ws.Perm (es.toList.map (·.2))->∃cs,(∀G tk d,(∀b o,z.heap.get? b=U o->G.get? b=U o)->∀A',A'.units=A.units+2->vt prog w A' E {z with heap:=G,toks:=tk,drawn:=d} cs ws)/\
   ∀l h' tk d c p,Ord ws.length p->Up (rank cs) p ws.length->z.heap.objs.size<=l->(∀b o,z.heap.get? b=U o->h'.get? b=U o)->h'.get? l=U (seqObj "list" (p.toList.map λi=>ws.getD i Value.none).toArray c)->Q (.ref l) {z with heap:=h',toks:=tk,drawn:=d}):
  wpAny (model prog w) A (call (.builtin "sorted") [.ref a]) Q E z:=by
 have hsl:=Gbu;refine Calls.call_function_entry kind_sorted plain_sorted entry_sorted (args_sorted1 _) ?_;refine Gab (Gad (Gab (Ap hh hm hf hT (by lia) λh' tk d xs eX hk hp=> ?_)));obtain⟨cs,hK,h⟩:=h (xs.map (·.2)) (hp.map _);have hxl:(xs.map (·.2)).length=es.size:=by rw[Gae,hp.length_eq];simp
 generalize xs.map (·.2)=ws at*;refine Gab (wpAny_newList ?_ (by lia));have yN:(h'.push (seqObj "list" ws.toArray 0)).get? h'.objs.size=U (seqObj "list" ws.toArray 0):=Gay _ rfl;have keep:∀b o,z.heap.get? b=U o->(h'.push (seqObj "list" ws.toArray 0)).get? b=U o:=λb o e=>Gag _ (hk b o e);have zle:=GcO eX;refine Gab (GbM (Gbd slot_list_sort ⟨_,yN,rfl⟩ entry_list_sort (lJ yN (by lia) (λG hG=>hK G tk d (λb o e=>hG b o (GaK (GaL (GaA e) zle)) (keep b o e)) _ rfl) λp h1 h2=> ⟨_,rfl, ?_⟩) (args_list_sort _)));obtain⟨c,xx⟩:=sortedHeap_at yN;refine Gad ⟨_,rfl,h h'.objs.size _ tk d c p h1 h2 zle (λb o e=> ?_) xx⟩;have hb:=GaA (hk b o e);exact(sortedHeap_old (GaK hb) (Nat.lt_trans hb (by rw[size_push'];exact GdA _))).trans (keep b o e)
section
variable{X:Cx}{h:DE}{H:Hp}{F:Yd->Prop}
def vO(p:XQ ys us):∀(i:Nat) y u,ys[i]? =U y->us[i]? =U u->XO y u:=by
 induction p with
 |nil=>intro i y u e _;simp at e
 |cons h t ih=>
  intro i y u e1 e2;cases i with
  |zero=>cases e1;cases e2;exact h
  |succ i=>exact ih i y u e1 e2
def Pt{Z:St}{s:Yg}(I:Inv X e8 Z H s):∀n {d v u},imN n d=O->Rep X.K F H d v->XO v u->Im s.heap n d u:=by
 intro n;induction n with
 |zero=>
  intro d v u hd r ru;cases r with
  |int i=>obtain⟨t,rfl⟩:=ru;exact .int _ _ _
  |str x=>obtain⟨t,rfl⟩:=ru;exact .str _ _ _
  |_=>simp[imN] at hd
 |succ n ih=>
  intro d v u hd r ru;cases r with
  |int i=>obtain⟨t,rfl⟩:=ru;exact .int _ _ _
  |str x=>obtain⟨t,rfl⟩:=ru;exact .str _ _ _
  | @tup a vs ds hH hl hr=>
   cases ru;obtain⟨its,xg,⟨o,h1,h2,m,h3⟩,_⟩:=I.tuple (SqT.of hH);refine .tup h1 h2 h3 ?_ λi d v e1 e2=> ?_
   .rw[hl,xg.length]
   .have hi:i<vs.length:=by
     rw[<-hl];exact(Gak.mp e1).1
    have xb :=Gaq.mp hd d (Gau e1);exact ih xb (hr i d vs[i] e1 (Gac hi)) (vO xg i _ _ (Gac hi) (by simpa using e2))
  |_=>simp[imN] at hd
def N8(X:Cx)(v:Yd)(ds:List D)(vs:List V):HO:= .ext λh=>∃its o es ep t,XQ vs its/\h.get? v=U o/\o.ExactSet/\o.data= .set es ep t/\t.fits es.size=O/\Tb (lx X.w) t/\(es.toList.map (·.2)).Perm ((mz ds ds.length).map λi=>its.getD i .none)
def Ss(X:Cx):List V->Hp->VK->Prop:=λxs H Q=>∃(p:Yd) (ds:List D) (vs:List V) (F:Yd->Prop),xs=[.ref p]/\SqL X.K H p vs/\aO X.K F H ds vs/\ds.length<64/\(ds.all λd=>vq d&&imN 4 d)=O/\∀v,H v=J->Q (.ref v) (upd H v (N8 X v ds vs))
def C0(hc:X.calm=O)(hu:X.A.units+20<cLine):fL X (.type "set") (Ss X):=by
 intro e8 s Z H xs us Q I rv h;obtain⟨p,ds,vs,F,rfl,hq,hr,hl,hok,q⟩:=h;obtain⟨u,rfl,ru⟩:=rv.one;cases ru;obtain⟨its,xg,pl,_⟩:=I.list hq;have hle:its.length=ds.length:=by rw[<-xg.length,hr.1]
 have hI:Dp s.heap 4 ds its:=λi hi=>by
  have hd:i<ds.length:=by lia
  have hv:i<vs.length:=by rw[<-hr.1];exact hd
  have ok:=Gaq.mp hok ds[i] (GaB hd);rw[Gai] at ok;have im:=Pt I 4 ok.2 (hr.2 i _ _ (Gac hd) (Gac hv)) (vO xg i _ _ (Gac hv) (Gac hi));have e1:its.getD i .none=its[i]:=by simp[hi]
  have e2:ds.getD i .non=ds[i]:=by simp[hd]
  rw[e1,e2];generalize ds[i]=d at*;generalize its[i]=u at*;cases im with
  |tup ho hc hd hl hi=>exact⟨_,rfl,.tup ho hc hd hl hi⟩
  |_=>simp[vq] at ok
 refine FL (I.ok.hd hc) pl.isList hI (by lia) (by decide) (by lia) λg tk hS hk=> ?_;obtain⟨o,es,ep,t,ho,hex,hd,hE⟩:=hS;refine⟨.ref s.heap.objs.size,_,I.laid (λb o e=>hk b o (GaA e) e) (Gao _) ?_,rfl,q _ I.fresh⟩;exact⟨⟨its,o,es,ep,t,xg,ho,hex,hd,hE.ok.tok.fits,⟨hE.led,λ_=>hE.ok.ris⟩,by rw[<-hle];exact hE.vals⟩,⟨o,ho⟩,λh1 h2 ⟨its,o,es,ep,t,r1,ho,r⟩ k=> ⟨its,o,es,ep,t,r1,k o ho,r⟩⟩
theorem uu{K:ak}{F:Yd->Prop}{H:Hp}{ds:List D}{vs:List V}(r:aO K F H ds vs):∀(jx:List Nat),(∀i∈jx,i<ds.length)->aO K F H (jx.map λi=>ds.getD i .non) (jx.map λi=>vs.getD i .non)
 |[],_=> .nil
 |i::jx,h=>by
  have hi:=h i Gaj;have hv:i<vs.length:=by rw[<-r.1];exact hi
  refine .cons ?_ (uu r jx λj hj=>h j (Gaf _ hj));have e1:ds.getD i .non=ds[i]:=by simp[hi]
  have e2:vs.getD i .non=vs[i]:=by simp[hv]
  show Rep K F H (ds.getD i .non) (vs.getD i .non);rw[e1,e2];exact r.2 i _ _ (Gac hi) (Gac hv)
theorem uw{vs:List V}{us:List Ye}(r:XQ vs us):∀(jx:List Nat),(∀i∈jx,i<vs.length)->XQ (jx.map λi=>vs.getD i .non) (jx.map λi=>us.getD i .none)
 |[],_=> .nil
 |i::jx,h=>by
  have hi:=h i Gaj;have hv:i<us.length:=by rw[<-r.length];exact hi
  refine .cons ?_ (uw r jx λj hj=>h j (Gaf _ hj));have e1:vs.getD i .non=vs[i]:=by simp[hi]
  have e2:us.getD i .none=us[i]:=by simp[hv]
  show XO (vs.getD i .non) (us.getD i .none);rw[e1,e2];exact vO r i _ _ (Gac hi) (Gac hv)
end
def rD(ds:List D):Bool:=decide (ds.length<64)&&(ds.all λd=>vq d&&imN 4 d)&&XX ds
def nu(f:DE):DE:=λenv=>(f env).bind λr=>match r.d with
 | .lst ds=>if rD ds then U ⟨.tn,.lst (bH (oj ds))⟩ else J
 |_=>J
noncomputable def intsOf:List D->Option (List Int)
 |[]=>U []
 | .int i::ds=>(intsOf ds).map (i:: ·)
 |_=>J
noncomputable def LF:List Int->List Int->Bool
 |[],[]=>M
 |[],_::_=>O
 |_::_,[]=>M
 |x::xs,y::ys=>if x=y then LF xs ys else decide (x<y)
def IP:D->D->Option Bool
 | .tup as,.tup bs=>(intsOf as).bind λx=>(intsOf bs).map λy=>LF x y
 |_,_=>J
def C1(h:∀x∈es,x∈ds)(k:XX ds=O):XX es=O:=by
 have all:∀{p:D->Bool},ds.all p=O->es.all p=O:=λ{p} q=>Gaq.mpr λx hx=>Gaq.mp q x (h x hx);unfold XX at*;rw[GaX] at*;rcases k with k|k
 .exact .inl (all k)
 .rw[Gai,GaX] at*;refine .inr ⟨k.1.imp all all, ?_⟩;refine Gaq.mpr λx hx=>Gaq.mpr λy hy=> ?_;exact Gaq.mp (Gaq.mp k.2 x (h x hx)) y (h y hy)
def LG(ds:List D):∀x∈oj ds,x∈ds:=by
 have key:∀(ds acc:List D) x,x∈ds.foldl ku acc->x∈acc\/x∈ds:=by
  intro ds;induction ds with
  |nil=>intro acc x hx;exact .inl hx
  |cons d ds ih=>
   intro acc x hx;rcases ih _ x hx with h|h
   .unfold ku at h;split at h
    .exact .inl h
    .rcases Gav.mp h with h|h
     .exact .inl h
     .rw[GaU.mp h];exact .inr Gaj
   .simp_all
 intro x hx;rcases key ds [] x hx with h|h
 .cases h
 .exact h
section
variable{X:Cx}{H:Hp}{F:Yd->Prop}
def FN(X:Cx):List V->Hp->VK->Prop:=λxs H Q=>∃(v:Yd) (ds:List D) (vs:List V) (F:Yd->Prop),xs=[.ref v]/\H v=U (N8 X v ds vs)/\aO X.K F H ds vs/\ds.length<64/\XX ds=O/\
 ∀l out,H l=J->(∀F',aO X.K F' H ds vs->aO X.K F' H (bH (oj ds)) out)->Q (.ref l) (upd H l (.lst out))
def sU(hc:X.calm=O):fL X (.builtin "sorted") (FN X):=by
 intro e8 s Z H xs us Q I rv h;obtain⟨v,ds,vs,F,rfl,hv,hr,yS,hok,q⟩:=h;obtain⟨u,rfl,ru⟩:=rv.one;cases ru;obtain⟨⟨its,o,es,ep,t,xg,ho,hex,hd,hf,hT,W4⟩,_,_⟩:=I.hok v _ hv;have hvl:=hr.1.symm;have yr:es.size<=ds.length:=by
  have e:=W4.length_eq;have:=nr ds ds.length;simp at e;lia
 refine AA (I.ok.hd hc) ⟨o,ho,hex,hd⟩ hf hT (by lia) λws WL=> ?_;obtain⟨jx,yO,zT⟩:=ur (WL.trans W4);have zl:=λi hi=>pZ ds ds.length i (yO.mem_iff.mp hi);have hjn:jx.length<=ds.length:=by rw[yO.length_eq];exact nr ds ds.length
 have R' :∀F',aO X.K F' H ds vs->aO X.K F' H (jx.map λi=>ds.getD i .non) (jx.map λi=>vs.getD i .non):=λF' r=>uu r jx zl;have V' :=uw xg jx λi hi=>by rw[hvl];exact zl i hi
 rw[<-zT] at V';have xN :(jx.map λi=>ds.getD i D.non).Perm (oj ds):=by
  have:=Az ds ds.length (Gao _);rw[List.take_length] at this;rw[<-this];exact yO.map _
 have xO :=C1 (λx hx=>LG ds x (xN.mem_iff.mp hx)) hok;have hln:(jx.map λi=>ds.getD i D.non).length=jx.length:=Gae _;have hlw:ws.length=jx.length:=by rw[zT];exact Gae _
 have hly:(jx.map λi=>vs.getD i V.non).length=jx.length:=Gae _;generalize (jx.map λi=>ds.getD i D.non)=xr at*;generalize (jx.map λi=>vs.getD i V.non)=ys' at*;have hK:=vB I (R' F hr) (Ad xO) V';refine⟨xr.map code,λG tk d hG A' hA=>vG (ko (λd v kv=>Fy hG kv) hK) xO,λl h' tk d c p h1 h2 hl hk xx=> ?_⟩;have xF :Ord xr.length p:=by rw[hln,<-hlw];exact h1
 have zo :Up (rank (xr.map code)) p xr.length:=by rw[hln,<-hlw];exact h2
 have uniq:=gz ((jA xF).trans (xN.trans (bT _).symm)) (qM xF zo) (cQ _) λa ha b hb=>Aa xO a ((jA xF).mem_iff.mp ha) b ((jA xF).mem_iff.mp hb);have h1v:Ord ys'.length p:=by rw[hly,<-hln];exact xF
 have fresh:=I.hok.fresh hl;have hsl:=Gbu;refine⟨.ref l,_,(I.laid (o:= .lst (p.toList.map λi=>ys'.getD i .non)) hk hl ?_).draw d,rfl,q _ _ fresh λF' r=> ?_⟩
 .refine⟨?_,_,c,Af h1v V',xx⟩;rw[Gae,GaZ,h1v.size];lia
 .rw[<-uniq];exact Ae xF (R' F' r)
def AB(hc:X.calm=O)(hu:X.A.units+20<cLine)(hg:Gl X "sorted")(hm:X.mg "sorted"=J)(yA:Gl X "set")(zi:X.mg "set"=J)(he:PEd X e f)
  (hX:autoParam (starEach [e] X.env=[(M,eval e X.env)]) Za1._auto_1)
  (xc:autoParam (starEach [.Call (.Name "set" p2) [e] [] eE] X.env=[(M,eval (.Call (.Name "set" p2) [e] [] eE) X.env)]) Za1._auto_1):
  PEd X (.Call (.Name "sorted" p) [.Call (.Name "set" p2) [e] [] eE] [] pos) (nu f):=by
 refine(qe (sU hc) hg hm rfl (kL (nV (C0 hc hu) yA zi rfl (kL he nU hX) (by decide) (by decide) hX rfl) nU xc) (by decide) (by decide) xc rfl).aJ ?_;rintro Z H Q ⟨H0,eC,env,rv,E,e,k⟩;obtain⟨r,hr,e⟩:=eh e;split at e
 .rename_i ds hd;split at e
  .rename_i hok;cases e;unfold rD at hok;rw[Gai,Gai] at hok;obtain⟨⟨o1,o2⟩,o3⟩:=hok;refine⟨H0,eC,env,r,E,hr,λv H1 s1 R1=> ?_⟩;have i:=R1.inn;rw[hd] at i;cases i with
   | @lst a vs _ hq rk=>
    refine⟨a,ds,vs,_,rfl,.inl hq,rk,Gar o1,o2,λv hv=> ⟨v,ds,vs,_,rfl,aF,rk.gen (.XY (aX hv)) λ_ f _=>f,Gar o1,o3,λl out hl Vm=> ?_⟩⟩;have W6:H1 l=J:=by
     by_cases z:l=v
     .subst z;exact hv
     .rw[ar z] at hl;exact hl
    exact k _ _ (s1.trans ((aX hv).trans (aX hl))) ⟨l,rfl,s1.free W6,⟨_,aF,trivial⟩,rfl,fA hl (Vm _ (rk.gen (.XY (aX hv)) λ_ f _=>f))⟩
  .cases e
 .cases e
theorem Dr:∀a b,LF a b=HT.lexLt a b
 |[],[]=>rfl
 |[],_::_=>rfl
 |_::_,[]=>rfl
 |x::xs,y::ys=>by
  show(if x=y then LF xs ys else decide (x<y))=(if x=y then HT.lexLt xs ys else decide (x<y));rw[Dr xs ys]
theorem om:∀ds ns,intsOf ds=U ns->ds=ns.map .int
 |[],ns,h=>by cases h;rfl
 |d::ds,ns,h=>by
  unfold intsOf at h;split at h
  .rename_i e;cases e
  .rename_i i es e;cases e;obtain⟨m,hm,rfl⟩:=Gaa.mp h;rw[om ds m hm];rfl
  .cases h
theorem mB{K:ak}{F:Yd->Prop}{H:Hp}:∀{ns:List Int} {vs:List V},aO K F H (ns.map D.int) vs->vs=ns.map V.int
 |[],vs,r=>by
  have:=r.1;cases vs with
  |nil=>rfl
  |cons v vs=>simp at this
 |n::ns,vs,r=>by
  obtain⟨v,vr,rfl,r1,r2⟩:=aO.cons_inv (by exact r);cases r1;rw[mB r2]
  rfl
def LH:OpB X IP (Rg X.K):=by
 intro F H dx dy x y b Q ix iy e q;unfold IP at e;split at e
 .obtain⟨m,hm,ee⟩:=eh e;obtain⟨n,hn,el⟩:=Gaa.mp ee;have e1:=om _ _ hm;have e2:=om _ _ hn;subst e1 e2;cases ix with
  |tup hx rx=>
   cases iy with
   |tup hy ry=>
    have:=mB rx;subst this;have:=mB ry;subst this;refine⟨_,_,m,n,rfl,rfl,SqT.of hx,SqT.of hy, ?_⟩;rw[<-Dr,el];exact q
 .cases e
end
@[simp] def frE(f:DE):DE:=λenv=>(f env).bind λr=>match r with
 | ⟨.tn,.lst ds⟩=>if aB ds then U ⟨.c,.fl ds⟩ else J
 |_=>J
@[simp] def LI:List Nat->Env->Option Env
 |[],env=>U env
 |i::is,env=>match env[i]? with
  |some (U (.own (.lst ds)))=>if aB ds then LI is (env.set i (U (.sh (.fl ds)))) else J
  |_=>J
@[simp] def FP(is:List Nat)(f:DS):DS:=λenv=>(LI is env).bind f
def _root_.L2.Inv.IQ{s:Yg}(I:Inv X e8 Z H s)(e:H a=U (.lst vs))(ho:s.heap.get? a=U o):Inv X e8 Z (upd H a (.frz o (.lst vs))) s:=by
 have:=pT (t' :=s.toks) (ob:= .frz o (.lst vs)) I (by rw[e];trivial) (Heap.SameBut.refl _ _) ⟨o,ho⟩
  ⟨ho,(I.hok a _ e).dN (λb u _ q=>q) (λb q=>by rw[ar (tm q e (by simp))];exact q) λb xs q=>by rw[ar (tm q e (by simp))];exact q⟩
 exact this
def AD{Z:St}(I:Inv X e8 Z H s)(e:H a=U (.lst vs)):∃o,Inv X e8 Z (upd H a (.frz o (.lst vs))) s:=by
 obtain⟨_,its,m,_,ho⟩:=I.hok a _ e;exact⟨_,I.IQ e ho⟩
def rE(e:H a=U (.lst ws))(n:¬F a):ij F H (upd H a (.frz o (.lst ws))):=λb ob hb w=>by
 have:b≠a:=by
  rintro rfl;rcases w with w|w
  .exact n w
  .rw[e] at hb;cases hb;exact w
 rw[ar this];exact hb
def rF{H:Hp}{K:ak}(e:H a=U (.lst ws))(im:aB ds=O)(r:aO K F H ds vs):aO K F' (upd H a (.frz o (.lst ws))) ds vs:=
 (r.imm (F' :=λ_=>False) im).gen (rE e id) λ_ f _=>f.elim
def set_own{env:Env}(he:env[i]? =U (U (.own d))):(env.set i x)[j]? =if j=i then U x else env[j]? :=by
 have hi:=(Gak.mp he).1;rw[Gdv];by_cases z:i=j
 .subst z;simp[hi]
 .rw[Gah z,Gah (λe=>z e.symm)]
def nv{env:Env}(he:env[i]? =U (U (.own d)))(h:b5 (env.set i (U (.sh d')))[j]?):j≠i/\b5 env[j]? :=by
 rw[set_own he] at h;by_cases z:j=i
 .rw[Gan z] at h;exact h.elim
 .rw[Gah z] at h;exact⟨z,h⟩
def aw.IQ{H:Hp}{K:ak}{env:Env}{i:Nat}(E:aw K H0 eC env Z H)(he:env[i]? =U (U (.own (.lst ds))))(im:aB ds=O):∃a vs,H a=U (.lst vs)/\∀o,aw K H0 eC (env.set i (U (.sh (.fl ds)))) Z (upd H a (.frz o (.lst vs)))/\Stp env Z H (env.set i (U (.sh (.fl ds)))) Z (upd H a (.frz o (.lst vs))):=by
 obtain⟨a,h1,h2,h3,h4,_,h6⟩:=E.ow i _ (.inl he);obtain⟨vs,hA,rp⟩:=kO h4 h6;refine⟨a,vs,hA,λo=> ?_⟩;have na:¬Cln eC env Z a:=λz=>z.2 i (by rw[he];trivial) h1;have sy:=rE (o:=o) hA na;have up:∀b ob,b≠a->H b=U ob->upd H a (.frz o (.lst vs)) b=U ob:=λb ob ne e=>by rw[ar ne];exact e
 have cl:∀b,Cln eC env Z b->Cln eC (env.set i (U (.sh (.fl ds)))) Z b:=λb h=> ⟨h.1,λj t=>h.2 j (nv he t).2⟩;have oth:∀{j:Nat} {x:Slot},(∀y,x≠ .sh y)->(env.set i (U (.sh (.fl ds))))[j]? =U (U x)->j≠i/\env[j]? =U (U x):=λ{j x} hx e=>by
  rw[set_own he] at e;by_cases z:j=i
  .rw[Gan z] at e;cases e;exact absurd rfl (hx _)
  .rw[Gah z] at e;exact⟨z,e⟩
 have dif:∀{j:Nat} {b:Yd},j≠i->b5 env[j]? ->Z[j]? =U (U (.ref b))->b≠a:=λ{j b} ne t e z=>ne (E.dj i j a (by rw[he];trivial) t h1 (by rw[<-z];exact e)).symm;have wr:∀{b:Yd},b≠a->Wr H b->Wr (upd H a (.frz o (.lst vs))) b:=λ{b} ne ⟨x,q1,q2⟩=> ⟨x,up _ _ ne q1,q2⟩;have inn:∀{d:D} {b:Yd},b≠a->Inn K (Cln eC env Z) H d (.ref b)->Inn K (Cln eC (env.set i (U (.sh (.fl ds)))) Z) (upd H a (.frz o (.lst vs))) d (.ref b):=λ{d b} ne q=>q.gen sy (λb f _=>cl b f) λc ec _ ob eo=>by cases ec;exact up _ _ ne eo
 refine⟨⟨λb ob e=> ?_,by rw[List.length_set];exact E.len,λb h=> ?_,λj d' e=> ?_,λj d' e=> ?_,λj d' e=> ?_,λj k b t1 t2 e1 e2=> ?_⟩,λb ob e n=> ?_,λb h=> ?_,λj h=> ?_⟩
 .exact up _ _ (λz=>by rw[z,h2] at e;cases e) (E.same b ob e)
 .by_cases z:b=a
  .rw[z,aF];simp
  .rw[ar z];exact E.bad b h
 .rw[set_own he] at e;by_cases z:j=i
  .rw[Gan z] at e;cases e;subst z;have r:=rF (o:=o) (F' :=Cln eC (env.set j (U (.sh (.fl ds)))) Z) hA im rp;exact⟨.ref a,h1,.fl aF r.1 r.2⟩
  .rw[Gah z] at e;obtain⟨v,q1,q2⟩:=E.sh j d' e;exact⟨v,q1,q2.gen sy λb f _=>cl b f⟩
 .have t:j≠i/\(env[j]? =U (U (.own d'))\/env[j]? =U (U (.lok d'))):=by
   rcases e with e|e
   .have:=oth (by intro y q;cases q) e;exact⟨this.1,.inl this.2⟩
   .have:=oth (by intro y q;cases q) e;exact⟨this.1,.inr this.2⟩
  obtain⟨b,q1,q2,q3,q4,q5,q6⟩:=E.ow j d' t.2;have ne:=dif t.1 (by rcases t.2 with e|e<;>rw[e]<;>trivial) q1;exact⟨b,q1,q2,q3,wr ne q4,q5,inn ne q6⟩
 .have t:=oth (by intro y q;cases q) e;obtain⟨b,q1,q2,q3,q4⟩:=E.bo j d' t.2;have ne:=dif t.1 (by rw[t.2];trivial) q1;exact⟨b,q1,wr ne q2,q3,inn ne q4⟩
 .have g1:=nv he t1.top;have g2:=nv he t2;refine E.dj j k b ?_ g2.2 e1 e2;rw[set_own he,Gah g1.1] at t1;exact t1
 .exact up _ _ (λz=>n ⟨i,by rw[he];trivial,by rw[z];exact h1⟩) e
 .obtain⟨j,q1,q2⟩:=h;refine .inl ⟨j, ?_,q2⟩;have g:=nv he q1.ol.top;rw[set_own he,Gah g.1] at q1;exact q1
 .have g:=nv he h.top;rw[set_own he,Gah g.1];exact⟨rfl,rfl⟩
theorem Ds{X:Cx}{e8:LAO}{Z:St}{H0:Hp}{s:Yg}{eC:Yd->Prop}:∀is env eP H,LI is env=U eP ->Inv X e8 Z H s->aw X.K H0 eC env Z H->∃H',Inv X e8 Z H' s/\aw X.K H0 eC eP Z H' /\Stp env Z H eP Z H'
 |[],env,eP,H,e,I,E=>by cases e;exact⟨H,I,E,.refl⟩
 |i::is,env,eP,H,e,I,E=>by
  unfold LI at e;split at e
  .rename_i ds he;split at e
   .rename_i im;obtain⟨a,vs,hA,k⟩:=E.IQ he im;obtain⟨o,I1⟩:=AD I hA;obtain⟨E1,p1⟩:=k o;obtain⟨H2,I2,E2,p2⟩:=Ds is _ eP _ e I1 E1;exact⟨H2,I2,E2,p1.trans p2⟩
   .cases e
  .cases e
def Pu{st:Yl}{is:List Nat}(h:PSd X st f):PSd X st (FP is f):=by
 intro e8 s Z H D I q;obtain⟨H0,eC,env,o,E,e,k⟩:=q;obtain⟨eP,h1,e⟩:=eh e;obtain⟨H',I',E',p⟩:=Ds is env eP H h1 I E;refine h e8 s Z H' D I' ⟨H0,eC,eP,o,E',e, ?_⟩;cases o with
 |nx e2=>exactλZ2 H2 E2 p2=>k Z2 H2 E2 (p.trans p2)
 |bk e2=>exactλZ2 H2 E2 p2=>k Z2 H2 E2 (p.trans p2)
 |ct e2=>exactλZ2 H2 E2 p2=>k Z2 H2 E2 (p.trans p2)
 |ret d=>exact k
def Su(he:PEd X e g):PEd X e (frE g):=by
 intro e8 s Z H Q I q;obtain⟨H0,eC,env,r,E,e',k⟩:=q;obtain⟨r1,h1,e'⟩:=eh e';split at e'
 .rename_i ds;split at e'
  .rename_i im;cases e';refine thn (he e8 s Z H (λv H1=>cb H H1/\iX X.K H0 eC env Z H H1 ⟨.tn,.lst ds⟩ v) I ⟨H0,eC,env,_,E,h1,λv H1 s1 R=> ⟨s1,R⟩⟩) λu s' ep=> ?_;obtain⟨v,H1,I1,rv,s1,a,rfl,n,w,_,i⟩:=ep;obtain⟨vs,hA,rp⟩:=kO w i;obtain⟨o,I2⟩:=AD I1 hA;have r:=rF (o:=o) (F' :=Cln eC env Z) hA im rp;exact⟨.ref a,_,I2,rv,k _ _ (λb ob hb=>by rw[ar (λz=>by rw[z,n] at hb;cases hb)];exact s1 b ob hb) (.fl aF r.1 r.2)⟩
  .cases e'
 .cases e'
structure Gm where
 N:List Str
 kd:Str->Option Yp
 fns:Str->Option (Nat×(SpF))
 bl:List Str
 top:Bool
 yy:Bool
 fz:List Str:=[]
structure Ev where
 E:Yh->Option DE
 V:Yh->Option DT
 T:Yh->Option DT
 W:Yh->Option DT
 S:Yl->Option DS
 B:List Yl->Option DS
noncomputable def bx{α:Type}(b:Bool)(x:Option α):Option α:=if b then x else J
def aA{α:Type}{x:Option α}{y:α}(h:bx b x=U y):b=O/\x=U y:=by
 unfold bx at h;simp_all
noncomputable def ixN(N:List Str)(x:Str):Option Nat:=N.findIdx? λy=>y==x
def IS(h:ixN N x=U i):N[i]? =U x:=by
 obtain⟨h1,h2,_⟩:=Gcq.mp h;simp_all
def rdK:Option Yp->Bool
 |some .local=>O
 |some .cell=>O
 |some .free=>O
 |_=>M
noncomputable def odd(x:Str):Bool:=x=="__debug__"||x=="__classdict__"
def vR(G:Gm)(x:Str):Option Nat:=bx (rdK (G.kd x)&& !odd x) (ixN G.N x)
def lR(G:Gm)(x:Str):Option Nat:=bx (G.kd x==U .local||(G.top&&G.kd x==U .cell)) (ixN G.N x)
def gR(G:Gm)(x:Str):Bool:=G.kd x==U .globalImplicit&& !odd x&&x !="__name__"
def bR(G:Gm)(x:Str):Bool:=gR G x&&G.bl.contains x
noncomputable def ns:Yh->Bool
 | .Starred _ _=>M
 |_=>O
def aR(f:Yh->Option DE):List Yh->Option (Nat×DA)
 |[]=>U (0,ag)
 |e::es=>bx (ns e) ((f e).bind λx=>(aR f es).map λr=>(r.1+1,aa x r.2))
structure fP(G:Gm)(X:Cx):Prop where
 N:X.N=G.N
 nd:X.N.Nodup
 vis:∀x,rdK (G.kd x)=O->Vis X.env.scope x
 loc:∀x,(G.kd x==U .local||(G.top&&G.kd x==U .cell))=O->Loc X.env.scope x/\(X.fn x=O\/X.env.scope.names.lookup x=U .local)
 gl:∀x,G.kd x=U .globalImplicit->Gl X x
 cf:∀x,A2 (G.kd x)=O->A2 (X.env.kindOf x)=O
 sw:G.top=O->∀x,(X.env.blockKind== .function&&X.env.kindOf x==U .local)=(G.kd x==U .local)
 calm:X.calm=O
 own:X.xe=λ_ _=>False
 hu:X.A.units+20<cLine
 fns:∀x np sp,G.fns x=U (np,sp)->∃k fa fd ps,jq X.prog X.w X.K X.mg X.base CX0 k fa fd ps (spD X.K np sp)/\iU k X.A/\X.mg x=U (.ref fa)/\PySem.W.keepIn X.K (.ref fa)=O/\Binds X.K fd ps []
 no:∀x∈G.bl,X.mg x=J
structure mC(v:Ev)(X:Cx):Prop where
 E:∀e f,v.E e=U f->PEd X e f
 V:∀e t,v.V e=U t->PEd X e (bE t)
 T:∀e t,v.T e=U t->PTd X e t
 W:∀e t,v.W e=U t->PWd X e t
 S:∀s f,v.S s=U f->PSd X s f
 B:∀b f,v.B b=U f->lh X b f
def bP(h:ns e=O):starEach (e::es) env=(M,eval e env)::starEach es env:=by
 cases e<;>first|rfl|cases h
def fP.hu1{X:Cx}(g:fP G X):X.A.units+1<cLine:=by have:=g.hu;lia
def Dt{X:Cx}(g:fP G X)(h:vR G x=U i):X.N[i]? =U x/\Vis X.env.scope x/\(x==("__debug__":Str))=M/\(x==("__classdict__":Str))=M:=by
 obtain⟨h1,h2⟩:=aA h;rw[Gai] at h1;have:=h1.2;unfold odd at this;simp only[Bool.not_eq_true',GdQ] at this;exact⟨by rw[g.N];exact IS h2,g.vis x h1.1,this.1,this.2⟩
def Du{X:Cx}(g:fP G X)(h:lR G x=U i):X.N[i]? =U x/\Loc X.env.scope x/\(X.fn x=O\/X.env.scope.names.lookup x=U .local):=by
 obtain⟨h1,h2⟩:=aA h;exact⟨by rw[g.N];exact IS h2,g.loc x h1⟩
def N9(g:fP G X)(h:gR G x=O):Gl X x/\x≠"__name__"/\(x==("__debug__":Str))=M:=by
 unfold gR at h;simp only[Gai,bne_iff_ne,Gbw] at h;have:=h.1.2;unfold odd at this;simp only[Bool.not_eq_true',GdQ] at this;exact⟨g.gl x h.1.1,h.2,this.1⟩
def lK{X:Cx}(g:fP G X)(h:bR G x=O):Gl X x/\X.mg x=J/\x≠"__name__"/\(x==("__debug__":Str))=M:=by
 unfold bR at h;rw[Gai] at h;obtain⟨h1,h2,h3⟩:=N9 g h.1;exact⟨h1,g.no x (by simpa using h.2),h2,h3⟩
theorem oZ{X:Cx}(hf:∀e d,f e=U d->PEd X e d):∀{es n r},aR f es=U (n,r)->
  PAd X es r/\(∀env rs,r env=U rs->rs.length=n)/\(∀pos,(backTo pos (starEach es X.env)).any (·.1)=M)/\es.all ns=O
 |[],n,r,h=>by cases h;exact⟨gI,KU,λ_=>rfl,rfl⟩
 |e::es,n,r,h=>by
  obtain⟨h1,h2⟩:=aA h;obtain⟨x,hx,h2⟩:=eh h2;obtain⟨⟨m,q⟩,hq,h2⟩:=Gaa.mp h2;cases h2;obtain⟨a1,a2,a3,a4⟩:=oZ hf hq;refine⟨cL (hf e x hx) a1 (bP h1),Hy a2,λpos=> ?_,by rw[GbB,h1,a4];rfl⟩;rw[bP h1];exact a3 pos
def Dv(h:aR f es=U (n,r))(hn:n≠0):∃e t,es=e::t/\ns e=O/\∃m q,aR f t=U (m,q):=by
 cases es with
 |nil=>cases h;exact absurd rfl hn
 |cons e t=>
  obtain⟨h1,h2⟩:=aA h;obtain⟨x,hx,h2⟩:=eh h2;obtain⟨⟨m,q⟩,hq,h2⟩:=Gaa.mp h2;exact⟨e,t,rfl,h1,m,q,hq⟩
def LJ(op:CmpOp)(b:Yh):Option (D->D->Option Bool):=bx (!behindInMarks op b) (match op,b with
 | .Lt,.Tuple _ _ _=>U IP
 | .Is,.Constant .none _ _=>U k8
 | .IsNot,.Constant .none _ _=>U iZ
 | .Is,_=>J
 | .IsNot,_=>J
 | .Eq,_=>U eqB
 | .NotEq,_=>U neB
 | .Lt,_=>U ltB
 | .LtE,_=>U leB
 | .Gt,_=>U gtB
 | .GtE,_=>U geB
 | .In,_=>U inB
 | .NotIn,_=>U A8)
def FQ(x:Str)(n:Nat):Option (SpV):=
 if x="len"/\n=1 then U cA else if x="min"/\n=2 then U tZ
 else if x="any"/\n=1 then U anyS else if x="all"/\n=1 then U Bt
 else if x="int"/\n=1 then U A9 else if x="tuple"/\n=1 then U dw
 else if x="sorted"/\n=1 then U XU else J
noncomputable def Pw(x:Str):Option String:=
 if x="int" then U "int" else if x="bool" then U "bool" else if x="str" then U "str" else if x="tuple" then U "tuple" else if x="list" then U "list" else J
noncomputable def Sv:Yh->Bool
 | .Slice _ _ _ _=>M
 |_=>O
def Px(h:Sv b=O):uY b:=by
 cases b<;>first|exactλ_ _=>rfl|cases h
noncomputable def plT:Yh->Bool
 | .UnaryOp _ _ _=>M
 | .BoolOp _ _ _=>M
 | .IfExp _ _ _ _=>M
 | .Compare _ _ _ _=>M
 |_=>O
def Py{e:Yh}(h:plT e=O):∀whole,isTrue e env whole=(do let v<-whole;standAt e.pos;holding [v] (truthy v)):=by
 cases e<;>first|exactλ_=>rfl|cases h
def vP(g:fP G X)(h:LJ op b=U o):behindInMarks op b=M/\∃r,OpR X (compareOp op) r/\OpB X o r:=by
 obtain⟨h1,h2⟩:=aA h;refine⟨by simpa using h1, ?_⟩;have hu:=g.hu;split at h2<;>cases h2
 .exact⟨_,NK (by lia),LH⟩
 .exact⟨_,NF,KH⟩
 .exact⟨_,Kc,Hn⟩
 .exact⟨_,OE hu,OG⟩
 .exact⟨_,OF hu,OH⟩
 .exact⟨_,R0,Ob⟩
 .exact⟨_,R4,Oc⟩
 .exact⟨_,R5,Od⟩
 .exact⟨_,R6,Oe⟩
 .exact⟨_,P0 hu,Pa⟩
 .exact⟨_,Li hu,Lj⟩
def LK{X:Cx}(g:fP G X)(h:FQ x n=U o)(hb:bR G x=O)(ha:PAd X (e::es) ra)(he:ns e=O)(xj:(backTo pos (starEach es X.env)).any (·.1)=M):PEd X (.Call (.Name x p) (e::es) [] pos) (bF o ra):=by
 obtain⟨b1,b2,b3,b4⟩:=lK g hb;have hc:=g.calm;unfold FQ at h
 repeat' split at h
 all_goals first|cases h|skip
 all_goals (rename_i q;obtain⟨rfl,_⟩:=q)
 .exact qC GL ES b1 b2 OI ha b3 b4 (bP he) xj
 .exact qC (Ey hc) Bw b1 b2 OJ ha b3 b4 (bP he) xj
 .exact qC (F9 hc) Fd b1 b2 OL ha b3 b4 (bP he) xj
 .exact qC (Fb hc) Fe b1 b2 OM ha b3 b4 (bP he) xj
 .exact wW Ez Fo b1 b2 HA ha b3 b4 (bP he) xj
 .exact wW sP wX b1 b2 A1 ha b3 b4 (bP he) xj
 .exact qC Ah vC b1 b2 EX ha b3 b4 (bP he) xj
def LL{X:Cx}(h:Pw x=U T):qE X.K T/\bootBuiltins x=U (.type T):=by
 unfold Pw at h
 repeat' split at h
 all_goals first|cases h|skip
 all_goals (rename_i q;obtain rfl:=q)
 .exact⟨L0,HA⟩
 .exact⟨HC,KZ⟩
 .exact⟨L1,ON⟩
 .exact⟨kit_tuple,A1⟩
 .exact⟨HB,CY⟩
abbrev Rc:=Gm->Ev
def cpR(v:Ev):Yh->Option DT
 | .Compare a [op] [b] _=>(LJ op b).bind λo=>(v.E a).bind λf=>(v.E b).map λg=>aC o f g
 | .Compare a [op,op'] [b,c] _=>(LJ op b).bind λo=>(LJ op' c).bind λo' =>(v.E a).bind λf=>(v.E b).bind λg=>(v.E c).map λh=>jf o o' f g h
 |_=>J
def LM(v:Ev)(G:Gm):Yh->Option DT
 | .Call (.Name x _) [e,.Name y _] [] _=>bx (x=="isinstance"&&bR G x&&bR G y&&ns e) ((Pw y).bind λT=>(v.E e).map λf=>pH T f)
 |_=>J
def vV(v:Ev)(G:Gm)(e:Yh):Option DT:=match e with
 | .Compare _ _ _ _=>cpR v e
 | .BoolOp _ [a] _=>v.V a
 | .BoolOp .And (a::b::rest) p=>(v.V a).bind λt=>(v.V (.BoolOp .And (b::rest) p)).map λu=>fK t u
 | .BoolOp .Or (a::b::rest) p=>(v.V a).bind λt=>(v.V (.BoolOp .Or (b::rest) p)).map λu=>orT t u
 | .UnaryOp .Not a _=>(v.V a).map v8
 | .Call _ _ _ _=>match LM v G e with
  |some t=>U t
  |none=>(v.E e).map l9
 |_=>(v.E e).map l9
def tV(v:Ev)(e:Yh):Option DT:=match e with
 | .Compare _ _ _ _=>cpR v e
 | .BoolOp _ _ _=>v.W e
 | .UnaryOp .Not a _=>(v.T a).map v8
 |_=>bx (plT e) ((v.E e).map l9)
def wV(v:Ev):Yh->Option DT
 | .BoolOp .And [a] _=>v.T a
 | .BoolOp .Or [a] _=>v.T a
 | .BoolOp .And (a::b::rest) p=>(v.T a).bind λt=>(v.W (.BoolOp .And (b::rest) p)).map λu=>fK t u
 | .BoolOp .Or (a::b::rest) p=>(v.T a).bind λt=>(v.W (.BoolOp .Or (b::rest) p)).map λu=>orT t u
 |_=>J
def tgs(G:Gm):List Yh->Option (List Nat)
 |[]=>U []
 | .Name x _::r=>(lR G x).bind λi=>(tgs G r).map λis=>i::is
 |_=>J
def tgR(G:Gm):Yh->Option DG
 | .Name x _=>(lR G x).map gN
 | .Tuple es _ _=>(tgs G es).map gT
 |_=>J
noncomputable def tgN:Yh->List Str
 | .Name x _=>[x]
 | .Tuple es _ _=>es.filterMap λ| .Name x _=>U x|_=>J
 |_=>[]
noncomputable def LN:Yh->Bool
 | .Tuple _ _ _=>O
 |_=>M
noncomputable def Pz:Yh->Bool
 | .Set _ _ _=>M
 |_=>O
noncomputable def PB:Yh->Bool
 | .Call (.Name _ _) [] [] _=>M
 |_=>O
def LO(v:Ev)(G:Gm)(tg iter:Yh):Option DI:=match iter with
 | .Call (.Name x _) [a] [] _=>
  if x="range" then bx (bR G x&&ns a) ((v.E a).map cK)
  else if x="enumerate" then bx (bR G x&&ns a&&LN tg) ((v.E a).map ub)
  else(v.E iter).map dz
 | .Call (.Name x _) [a,b] [] _=>
  if x="range" then bx (bR G x&&ns a&&ns b) ((v.E a).bind λf=>(v.E b).map λg=>va f g) else(v.E iter).map dz
 | .Call (.Attribute o m apos) [] [] eE=>bx (m=="items"&&LN tg&&PB o&&(apos.endLine==eE.line)) ((v.E o).map (D5 cP))
 |_=>(v.E iter).map dz
def Na(G:Gm):Yh->Option Nat
 | .Name x _=>ixN G.N x
 | .Call (.Name y _) [.Name x _] [] _=>if y="enumerate" then ixN G.N x else J
 |_=>J
def inG(G:Gm)(scope:Ym)(tn:List Str):Gm:={G with N:=tn++G.N.filter λx=>scope.names.lookup x==U .free,kd:=λx=>scope.names.lookup x,top:=M}
def PC(G:Gm)(scope:Ym):List Nat:=(G.N.filter λx=>scope.names.lookup x==U .free).filterMap (ixN G.N)
def scB(G:Gm)(scope:Ym)(N:List Str)(n:Nat)(az:List Nat):Bool:=
 (scope.names.all λy=>y.2 != .cell)&&scope.kind== .function&&(scope.names.all λy=>y.2 != .local||scope.names.lookup y.1==U .local)&&(scope.names.all λy=>y.2 != .free||A2 (G.kd y.1))
  &&N.drop n==(az.map λi=>(G.N[i]?).getD ("":Str))&&decide (n<=N.length)&&(az.all λi=>decide (i<G.N.length))&&((N.drop n).all λx=>scope.names.lookup x==U .free)&&decide N.Nodup
def tsR(v:Ev):List Yh->Option DT
 |[]=>U fM
 |[c]=>v.T c
 |_=>J
def IT(g:fP G X)(k:mC v X)(h:cpR v e=U t):PTd X e t/\PEd X e (bE t):=by
 unfold cpR at h;split at h
 .obtain⟨o,ho,h⟩:=eh h;obtain⟨f,hf,h⟩:=eh h;obtain⟨q,hq,rfl⟩:=Gaa.mp h;obtain⟨m,r,h1,h2⟩:=vP g ho;exact⟨O9 h1 h2 (k.E _ _ hf) (k.E _ _ hq) m,Oa h1 h2 (k.E _ _ hf) (k.E _ _ hq) m⟩
 .obtain⟨o,ho,h⟩:=eh h;obtain⟨o',xk,h⟩:=eh h;obtain⟨f,hf,h⟩:=eh h;obtain⟨q,hq,h⟩:=eh h;obtain⟨u,hu,rfl⟩:=Gaa.mp h;obtain⟨m,r,h1,h2⟩:=vP g ho;obtain⟨m',r',xF,zo⟩:=vP g xk;exact⟨Hq h1 h2 xF zo (k.E _ _ hf) (k.E _ _ hq) (k.E _ _ hu) m',HL h1 h2 xF zo (k.E _ _ hf) (k.E _ _ hq) (k.E _ _ hu) m'⟩
 .cases h
def Dw(g:fP G X)(k:mC v X)(h:LM v G e=U t):PEd X e (bE t):=by
 unfold LM at h;split at h
 .obtain⟨c,h⟩:=aA h;obtain⟨T,hT,h⟩:=eh h;obtain⟨f,hf,rfl⟩:=Gaa.mp h;simp only[Gai,Gbw] at c;obtain⟨⟨⟨c1,c2⟩,c3⟩,c4⟩:=c;subst c1;obtain⟨a1,a2,_,_⟩:=lK g c2;obtain⟨b1,b2,b3,b4⟩:=lK g c3;obtain⟨k1,k2⟩:=LL hT;exact Oz k1 (k.E _ _ hf) a1 a2 b1 b2 k2 b3 b4 (bP c4) (bP rfl) rfl
 .cases h
def Nb(g:fP G X)(k:mC v X)(h:vV v G e=U t):PEd X e (bE t):=by
 unfold vV at h;split at h
 .exact(IT g k h).2
 .exact Oj (k.V _ _ h)
 .obtain⟨a,ha,h⟩:=eh h;obtain⟨u,hu,rfl⟩:=Gaa.mp h;exact Ol (k.V _ _ ha) (k.V _ _ hu)
 .obtain⟨a,ha,h⟩:=eh h;obtain⟨u,hu,rfl⟩:=Gaa.mp h;exact S6 (k.V _ _ ha) (k.V _ _ hu)
 .obtain⟨u,hu,rfl⟩:=Gaa.mp h;exact Om (k.V _ _ hu)
 .split at h
  .rename_i q;cases h;exact Dw g k q
  .obtain⟨u,hu,rfl⟩:=Gaa.mp h;exact wQ (k.E _ _ hu)
 .obtain⟨u,hu,rfl⟩:=Gaa.mp h;exact wQ (k.E _ _ hu)
def Sw(g:fP G X)(k:mC v X)(h:tV v e=U t):PTd X e t:=by
 unfold tV at h;split at h
 .exact(IT g k h).1
 .exact(k.W _ _ h).pt
 .obtain⟨u,hu,rfl⟩:=Gaa.mp h;exact Oi (k.T _ _ hu)
 .obtain⟨c,h⟩:=aA h;obtain⟨u,hu,rfl⟩:=Gaa.mp h;exact Of (k.E _ _ hu) (Py c)
def Sx(k:mC v X)(h:wV v e=U t):PWd X e t:=by
 unfold wV at h;split at h
 .exact KI (k.T _ _ h)
 .exact Og (k.T _ _ h)
 .obtain⟨a,ha,h⟩:=eh h;obtain⟨u,hu,rfl⟩:=Gaa.mp h;exact Oh (k.T _ _ ha) (k.W _ _ hu)
 .obtain⟨a,ha,h⟩:=eh h;obtain⟨u,hu,rfl⟩:=Gaa.mp h;exact S5 (k.T _ _ ha) (k.W _ _ hu)
 .cases h
theorem IU{X:Cx}(g:fP G X):∀{es is},tgs G es=U is->PGs X es (tGs X is)/\(assignEach es X.env).length=is.length/\(assignEach es X.env).findIdx? (·.1)=J
 |[],is,h=>by cases h;exact⟨KR,rfl,rfl⟩
 |e::r,is,h=>by
  unfold tgs at h;split at h
  .rename_i q;cases q
  .rename_i x p r' q;cases q;obtain⟨i,hi,h⟩:=eh h;obtain⟨js,hj,rfl⟩:=Gaa.mp h;obtain⟨h1,h2,h3⟩:=Du g hi;obtain⟨a1,a2,a3⟩:=IU g hj;refine⟨Hw (CV g.nd h1 h2 h3) a1 rfl, ?_, ?_⟩
   .show(assignEach r X.env).length+1=_;rw[a2];rfl
   .show((M,assign (.Name x p) X.env)::assignEach r X.env).findIdx? (·.1)=J;rw[GdU,a3];rfl
  .cases h
def C2(g:fP G X)(h:tgR G e=U gd):PGd X e gd/\oU gd:=by
 unfold tgR at h;split at h
 .obtain⟨i,hi,rfl⟩:=Gaa.mp h;obtain⟨h1,h2,h3⟩:=Du g hi;exact⟨CV g.nd h1 h2 h3,HG⟩
 .obtain⟨is,hi,rfl⟩:=Gaa.mp h;obtain⟨a1,a2,a3⟩:=IU g hi;exact⟨Oy g.calm a1 a2 a3 rfl,HH⟩
 .cases h
def q8(h:Pz e=O):∀x,foldedSetIterable e env x=pure x:=by
 cases e<;>first|exactλ_=>rfl|cases h
def Dx(h:PB o=O):attributeBase o m env (eval o env)=eval o env:=by
 unfold attributeBase;split
 .cases h
 .rfl
def IV(h:LN e=O):∃a b c,e= .Tuple a b c:=by
 cases e<;>first|exact⟨_,_,_,rfl⟩|cases h
def Dy(g:fP G X)(k:mC v X)(h:LO v G tg e=U src):PId X tg e src:=by
 have seq:∀{e:Yh} {src:DI},(v.E e).map dz=U src->PId X tg e src:=λh=>by
  obtain⟨u,hu,rfl⟩:=Gaa.mp h;exact Ox (k.E _ _ hu)
 unfold LO at h;split at h
 .split at h
  .rename_i q;subst q
   obtain⟨c,h⟩:=aA h;obtain⟨u,hu,rfl⟩:=Gaa.mp h;rw[Gai] at c;obtain⟨b1,b2,_⟩:=lK g c.1;exact ET b1 b2 (k.E _ _ hu) (bP c.2)
  .split at h
   .rename_i q;subst q
    obtain⟨c,h⟩:=aA h;obtain⟨u,hu,rfl⟩:=Gaa.mp h;simp only[Gai] at c;obtain⟨b1,b2,_⟩:=lK g c.1.1;obtain⟨_,_,_,rfl⟩:=IV c.2;exact Lf b1 b2 (k.E _ _ hu) (bP c.1.2)
   .exact seq h
 .split at h
  .rename_i q;subst q
   obtain⟨c,h⟩:=aA h;obtain⟨f,hf,h⟩:=eh h;obtain⟨u,hu,rfl⟩:=Gaa.mp h;simp only[Gai] at c;obtain⟨b1,b2,_⟩:=lK g c.1.1;exact EU b1 b2 (k.E _ _ hf) (k.E _ _ hu) (by rw[bP c.1.2,bP c.2];rfl) (bP c.2)
  .exact seq h
 .obtain⟨c,h⟩:=aA h;obtain⟨u,hu,rfl⟩:=Gaa.mp h;simp only[Gai,Gbw] at c;obtain⟨⟨⟨rfl,c2⟩,c3⟩,c4⟩:=c;obtain⟨_,_,_,rfl⟩:=IV c2;exact Ip (k.E _ _ hu) (Dx c3) (by rw[c4];exact beq_self_eq_true _)
 .exact seq h
noncomputable def isIt:Yh->Bool
 | .Call (.Attribute (.Name _ _) _ _) [] [] _=>O
 |_=>M
def lcR(r:Rc)(G:Gm)(elt tg iter:Yh)(ifs:List Yh)(scope:Ym):Option DE:=
 bx (scB G scope (inG G scope (tgN tg)).N (tgN tg).length (PC G scope)&&Pz iter) ((tgR (inG G scope (tgN tg)) tg).bind λgd=>(tsR (r (inG G scope (tgN tg))) ifs).bind λt=>((r (inG G scope (tgN tg))).E elt).bind λf=>match iter with
  | .Call (.Attribute (.Name x px) m apos) [] [] eE=>bx (m=="items"&&LN tg&&(apos.endLine==eE.line)) ((vR G x).map λi=>vp cP i (tgN tg).length (PC G scope) gd t f)
  |_=>(LO (r G) G tg iter).map λsrc=>g8 (Na G iter) (tgN tg).length (PC G scope) src gd t f)
def IW{N:List Str}(g:fP G X)(h:scB G scope N n az=O):iq X scope N n az/\N.Nodup:=by
 unfold scB at h;simp only[Gai] at h;obtain⟨⟨⟨⟨⟨⟨⟨⟨h1,h2⟩,h3⟩,h4⟩,h5⟩,h6⟩,h7⟩,h8⟩,h9⟩:=h;refine⟨⟨h1,by simpa using h2,h3,Gaq.mpr λy hy=> ?_,by rw[g.N];exact Gar (by simpa using h5),Gar h6,by rw[g.N];exact h7,h8⟩,Gar h9⟩;have:=Gaq.mp h4 y hy;rw[GaX] at this⊢;exact this.imp id (g.cf y.1)
def vQ(g:fP G X)(h:scB G scope (inG G scope tn).N n az=O)(cl:List (Str×Yd))(C:Yd)(s:Yg)(H:Hp)(ex:List Yd):fP (inG G scope tn) (blk X scope cl C (inG G scope tn).N s H ex):=by
 have nc:∀x,scope.names.lookup x≠U .cell:=λx hx=>by
  unfold scB at h;simp only[Gai] at h;have h1:=h.1.1.1.1.1.1.1.1;have:(x,NameKind.cell)∈scope.names:=by
   clear h;generalize scope.names=l at*;induction l with
   |nil=>simp at hx
   |cons p l ih=>
    rw[Gbj] at hx;cases q:x==p.1 with
    |true=>rw[q] at hx;obtain⟨a,b⟩:=p;injection hx with hx;subst hx;rw[Gbw.mp q];exact Gaj
    |false=>rw[q] at hx;rw[GbB,Gai] at h1;exact Gaf _ (ih hx h1.2)
  have:=Gaq.mp h1 _ this;simp at this
 have nd:=(IW g h).2;exact{
  N:=rfl
  nd:=nd
  vis:=λx hx=>by
   have hx:rdK (scope.names.lookup x)=O:=hx
   match q:scope.names.lookup x with
   |some .local=>exact F4 q
   |some .free=>exact HF q
   |some .cell=>exact absurd q (nc x)
   |none=>rw[q] at hx;cases hx
   |some .globalExplicit=>rw[q] at hx;cases hx
   |some .globalImplicit=>rw[q] at hx;cases hx
  loc:=λx hx=>by
   have hx:scope.names.lookup x=U .local:=by simpa[inG] using hx
   exact⟨F5 hx,OP hx⟩
  gl:=λx hx=>OO hx
  cf:=λx hx=>by
   have hx:A2 (scope.names.lookup x)=O:=hx;have q:scope.names.lookup x=U .free:=by
    match q:scope.names.lookup x with
    |some .free=>rfl
    |some .cell=>exact absurd q (nc x)
    |some .local=>rw[q] at hx;cases hx
    |none=>rw[q] at hx;cases hx
    |some .globalExplicit=>rw[q] at hx;cases hx
    |some .globalImplicit=>rw[q] at hx;cases hx
   rcases(fN q) with z|z
   .exact(congrArg A2 z).trans rfl
   .exact(congrArg A2 z).trans rfl
  sw:=λz=>by cases z
  calm:=g.calm
  own:=rfl
  hu:=g.hu
  fns:=g.fns
  no:=g.no}
def IY(hr:∀G X,fP G X->mC (r G) X)(g:fP G X)(h:lcR r G elt tg iter ifs scope=U f):
  PEd X (.ListComp elt [⟨tg,iter,ifs,0⟩] scope pos) f/\(isIt iter=M->∀{x i p' p},lR G x=U i->swapsWith (.ListComp elt [⟨tg,iter,ifs,0⟩] scope pos) (U (.Name x p')) p.line X.env=pure O->PSd X (.Assign [.Name x p'] (.ListComp elt [⟨tg,iter,ifs,0⟩] scope pos) p) (av i f)):=by
 obtain⟨c,h⟩:=aA h;rw[Gai] at c;obtain⟨gd,hg,h⟩:=eh h;obtain⟨t,ht,h⟩:=eh h;obtain⟨u,hu,h⟩:=eh h;obtain⟨S,nd⟩:=IW g c.1;have B:Blk X scope (inG G scope (tgN tg)).N tg elt ifs gd t u:=⟨λcl C s H ex=>(C2 (vQ g c.1 cl C s H ex) hg).1,λcl C s H ex=>by
  have k:=hr _ _ (vQ g c.1 cl C s H ex);unfold tsR at ht;split at ht
  .cases ht;exact EY
  .exact EZ (k.T _ _ ht)
  .exact(by cases ht),λcl C s H ex=>(hr _ _ (vQ g c.1 cl C s H ex)).E _ _ hu⟩
 have no:=(C2 (vQ g c.1 [] 0 X.s₀ X.H0 []) hg).2;split at h
 .obtain⟨c2,h⟩:=aA h;obtain⟨i,hi,rfl⟩:=Gaa.mp h;simp only[Gai,Gbw] at c2;obtain⟨⟨rfl,c3⟩,c4⟩:=c2;obtain⟨_,_,_,rfl⟩:=IV c3;obtain⟨v1,v2,v3,v4⟩:=Dt g hi;have E:=vF (pos:=pos) v1 v2 g.calm S no B v3 v4 rfl (by rw[c4];exact beq_self_eq_true _) (q8 c.2);exact⟨E,λz=>by cases z⟩
 .obtain⟨src,Vj,rfl⟩:=Gaa.mp h;have I:=Dy g (hr G X g) Vj;exact⟨L6 g.calm S I no B (q8 c.2),λ_ _ _ _ _ hx hs=>by
   obtain⟨l1,l2,l3⟩:=Du g hx;exact L7 g.nd l1 l2 g.calm S I no B hs (q8 c.2) l3⟩
def opO(yy:Bool):Operator->Option (D->D->Option RV)
 | .Add=>match yy with
  |true=>U g9
  |false=>U aI
 | .Sub=>U iW
 | .Mult=>U b6
 | .FloorDiv=>U cV
 | .Mod=>U bh
 | .Pow=>U wL
 |_=>J
def slO(v:Ev):Option Yh->Option DO
 |none=>U noO
 |some e=>(v.E e).map CK
def frR(v:Ev)(G:Gm)(e:Yh):Option DE:=match G.fz,e with
 |[],_=>v.E e
 |_,.List _ _=>(v.E e).map frE
 |_,_=>v.E e
def clR(v:Ev)(G:Gm)(x:Str)(args:List Yh):Option DE:=match G.fns x with
 |some (np,sp)=>bx (gR G x) ((aR v.E args).bind λa=>bx (a.1==np&&a.1 !=0) (U (aq sp a.2)))
 |none=>bx (bR G x) (match args with
  |[.Call (.Name y _) [e] [] _]=>
   if x="sorted"/\y="set" then bx (bR G y&&ns e) ((v.E e).map nu)
   else if x="list"/\y="range" then bx (bR G y&&ns e) ((v.E e).map HX)
   else(aR v.E args).bind λa=>(FQ x a.1).map λo=>bF o a.2
  |_=>(aR v.E args).bind λa=>(FQ x a.1).map λo=>bF o a.2)
def eR(r:Rc)(G:Gm)(e:Yh):Option DE:=match e with
 | .Name x _=>(vR G x).map vE
 | .Constant (.int i) _ _=>U (kE (.int i))
 | .Constant (.bool b) _ _=>U (kE (.bl b))
 | .Constant .none _ _=>U (kE .non)
 | .Constant (.str x) _ _=>U (kE (.str x))
 | .BinOp a op b _=>(opO G.yy op).bind λo=>((r G).E a).bind λf=>((r G).E b).map λg=>Yc o f g
 | .UnaryOp .USub a _=>((r G).E a).map (unE EK)
 | .UnaryOp .Not _ _=>(vV (r G) G e).map bE
 | .Compare _ _ _ _=>(vV (r G) G e).map bE
 | .BoolOp _ _ _=>(vV (r G) G e).map bE
 | .IfExp c a b _=>((r G).T c).bind λt=>((r G).E a).bind λf=>((r G).E b).map λg=>ifE t f g
 | .Tuple es _ _=>(aR (frR (r G) G) es).map λa=>aU a.2
 | .List es _=>(aR (r G).E es).map λa=>dh a.2
 | .Subscript a (.Slice lo hi J _) _=>((r G).E a).bind λf=>(slO (r G) lo).bind λl=>(slO (r G) hi).map λh=>slE f l h
 | .Subscript a b _=>bx (Sv b) (((r G).E a).bind λf=>((r G).E b).map λg=>Yb f g)
 | .ListComp elt [⟨tg,iter,ifs,0⟩] scope _=>lcR r G elt tg iter ifs scope
 | .Dict [] [] _=>U vb
 | .Call (.Name x _) args [] _=>match LM (r G) G e with
  |some t=>U (bE t)
  |none=>clR (r G) G x args
 | .Call (.Name x _) [a] [⟨U k,.Constant (.int i) _ _,_⟩] _=>bx (x=="max"&&k=="default"&&bR G x&&ns a) (((r G).E a).map (mmE o5 (.int i)))
 | .Call (.Attribute o m apos) [a,b] [] eE=>bx (m=="get"&&PB o&&ns a&&ns b&&(apos.endLine==eE.line)) (((r G).E o).bind λf=>((r G).E a).bind λg=>((r G).E b).map λh=>HY f g h)
 |_=>J
def PD(g:fP G X)(k:mC v X)(h:clR v G x args=U f):PEd X (.Call (.Name x p) args [] pos) f:=by
 have blt:∀{args:List Yh} {f:DE},bR G x=O->((aR v.E args).bind λa=>(FQ x a.1).map λo=>bF o a.2)=U f->PEd X (.Call (.Name x p) args [] pos) f:=λ{args f} c h=>by
  obtain⟨⟨n,a⟩,ha,h⟩:=eh h;obtain⟨o,ho,rfl⟩:=Gaa.mp h;have n0:n≠0:=λz=>by subst z;simp[FQ] at ho
  obtain⟨e,t,rfl,h1,m,q,hq⟩:=Dv ha n0;exact LK g ho c (oZ k.E ha).1 h1 ((oZ k.E hq).2.2.1 pos)
 unfold clR at h;split at h
 .rename_i np sp hf;obtain⟨c,h⟩:=aA h;obtain⟨⟨n,a⟩,ha,h⟩:=eh h;obtain⟨c2,h⟩:=aA h;cases h;simp only[Gai,Gbw,bne_iff_ne] at c2;obtain⟨rfl,n0⟩:=c2;obtain⟨e,t,rfl,h1,m,q,hq⟩:=Dv ha n0;obtain⟨kk,fa,fd,ps,F,hr,hm,hk,hb⟩:=g.fns x _ _ hf;obtain⟨g1,_,g3⟩:=N9 g c;exact KN F hr g1 hm hk hb Ro (oZ k.E ha).1 (oZ k.E ha).2.1 g3 (bP h1) ((oZ k.E hq).2.2.1 pos)
 .obtain⟨c,h'⟩:=aA h;clear h;obtain⟨b1,b2,b3,b4⟩:=lK g c;split at h'
  .split at h'
   .rename_i q;obtain⟨rfl,rfl⟩:=q
    obtain⟨c2,h⟩:=aA h';obtain⟨u,hu,rfl⟩:=Gaa.mp h;rw[Gai] at c2;obtain⟨d1,d2,_⟩:=lK g c2.1;exact AB g.calm g.hu b1 b2 d1 d2 (k.E _ _ hu) (bP c2.2) (bP rfl)
   .split at h'
    .rename_i q;obtain⟨rfl,rfl⟩:=q
     obtain⟨c2,h⟩:=aA h';obtain⟨u,hu,rfl⟩:=Gaa.mp h;rw[Gai] at c2;obtain⟨d1,d2,_⟩:=lK g c2.1;exact Ft g.calm b1 b2 d1 d2 (k.E _ _ hu) (bP c2.2) (bP rfl)
    .exact blt c h'
  .exact blt c h'
def IZ(k:mC v X)(h:slO v e=U d):PO X e (tO X d):=by
 unfold slO at h;split at h
 .cases h;exact F7
 .obtain⟨u,hu,rfl⟩:=Gaa.mp h;exact F8 (k.E _ _ hu)
def PF(k:mC v X)(h:frR v G e=U f):PEd X e f:=by
 unfold frR at h;split at h
 .exact k.E _ _ h
 .obtain⟨u,hu,rfl⟩:=Gaa.mp h;exact Su (k.E _ _ hu)
 .exact k.E _ _ h
def Sy(hr:∀G X,fP G X->mC (r G) X)(g:fP G X)(h:eR r G e=U f):PEd X e f:=by
 have k:=hr G X g;have vv:∀{e:Yh} {f:DE},(vV (r G) G e).map bE=U f->PEd X e f:=λh=>by
  obtain⟨u,hu,rfl⟩:=Gaa.mp h;exact Nb g k hu
 unfold eR at h;split at h
 .obtain⟨i,hi,rfl⟩:=Gaa.mp h;obtain⟨v1,v2,v3,v4⟩:=Dt g hi;exact Hk i v1 v2 v3 v4
 .cases h;exact lW
 .cases h;exact S3
 .cases h;exact O0
 .cases h;exact O1
 .obtain⟨o,ho,h⟩:=eh h;obtain⟨a,ha,h⟩:=eh h;obtain⟨b,hb,rfl⟩:=Gaa.mp h;unfold opO at ho;split at ho
  .split at ho<;>cases ho
   .exact Ly (k.E _ _ ha) (k.E _ _ hb)
   .exact O3 (k.E _ _ ha) (k.E _ _ hb)
  .cases ho;exact O4 (k.E _ _ ha) (k.E _ _ hb)
  .cases ho;exact O5 (k.E _ _ ha) (k.E _ _ hb)
  .cases ho;exact KG (k.E _ _ ha) (k.E _ _ hb)
  .cases ho;exact O6 (k.E _ _ ha) (k.E _ _ hb)
  .cases ho;exact O7 (k.E _ _ ha) (k.E _ _ hb)
  .cases ho
 .obtain⟨u,hu,rfl⟩:=Gaa.mp h;exact O8 (k.E _ _ hu)
 .exact vv h
 .exact vv h
 .exact vv h
 .obtain⟨o,ho,h⟩:=eh h;obtain⟨a,ha,h⟩:=eh h;obtain⟨b,hb,rfl⟩:=Gaa.mp h;exact Ho (k.T _ _ ho) (k.E _ _ ha) (k.E _ _ hb)
 .obtain⟨⟨n,a⟩,ha,rfl⟩:=Gaa.mp h;exact Bv (oZ (λ_ _=>PF k) ha).1
 .obtain⟨⟨n,a⟩,ha,rfl⟩:=Gaa.mp h;exact Oo (oZ k.E ha).1
 .obtain⟨o,ho,h⟩:=eh h;obtain⟨a,ha,h⟩:=eh h;obtain⟨b,hb,rfl⟩:=Gaa.mp h;exact HJ (k.E _ _ ho) (IZ k ha) (IZ k hb)
 .obtain⟨c,h⟩:=aA h;obtain⟨a,ha,h⟩:=eh h;obtain⟨b,hb,rfl⟩:=Gaa.mp h;exact oT (k.E _ _ ha) (k.E _ _ hb) (Px c)
 .exact(IY hr g h).1
 .cases h;exact HP
 .split at h
  .rename_i q;cases h;exact Dw g k q
  .exact PD g k h
 .obtain⟨c,h⟩:=aA h;obtain⟨u,hu,rfl⟩:=Gaa.mp h;simp only[Gai,Gbw] at c;obtain⟨⟨⟨rfl,rfl⟩,c3⟩,c4⟩:=c;obtain⟨b1,b2,_⟩:=lK g c3;exact Ln g.calm b1 b2 (k.E _ _ hu) Gx (λ_ _ _=> .int _) rfl (bP c4)
 .obtain⟨c,h⟩:=aA h;obtain⟨o,ho,h⟩:=eh h;obtain⟨a,ha,h⟩:=eh h;obtain⟨b,hb,rfl⟩:=Gaa.mp h;simp only[Gai,Gbw] at c;obtain⟨⟨⟨⟨rfl,c2⟩,c3⟩,c4⟩,c5⟩:=c;exact Lp g.hu1 (k.E _ _ ho) (k.E _ _ ha) (k.E _ _ hb) ⟨Dx c2,by rw[bP c3,bP c4];rfl,by rw[c5];exact beq_self_eq_true _,by rw[bP c3,bP c4];rfl⟩
 .cases h
noncomputable def nLC:Yh->Bool
 | .ListComp _ _ _ _=>M
 | .SetComp _ _ _ _=>M
 | .DictComp _ _ _ _ _=>M
 |_=>O
def J1(h:nLC e=O):swapsWith e t n env=pure M:=by
 cases e<;>first|rfl|cases h
def fzR(G:Gm):Yh->List Nat
 | .Tuple es _ _=>es.filterMap λ| .Name x _=>if G.fz.contains x then ixN G.N x else J|_=>J
 |_=>[]
def fzS(is:List Nat)(f:DS):DS:=match is with
 |[]=>f
 |i::is=>FP (i::is) f
noncomputable def swB(G:Gm)(x:Str)(p lp:Pos)(scope:Ym):Bool:=(G.kd x==U .local)&&(p.line==lp.line)&& !(scope.names.any λ(n,k)=>n==x&&(k== .local||k== .cell))
def asR(r:Rc)(G:Gm)(x:Str)(p:Pos)(e:Yh):Option DE:=match e with
 | .ListComp elt [⟨tg,iter,ifs,0⟩] scope lp=>bx G.top (match swB G x p lp scope with
  |true=>bx (!isIt iter) (lcR r G elt tg iter ifs scope)
  |false=>(r G).E e)
 |_=>bx (nLC e) ((r G).E e)
def meR(v:Ev)(G:Gm)(x m:Str)(args:List Yh):Option DS:=(vR G x).bind λi=>match args with
 |[a]=>bx (ns a) (if m="append" then(v.E a).map λf=>fzS (fzR G a) (dY i f) else if m="extend" then(v.E a).map λf=>NX i f else J)
 |[a,b]=>bx (ns a&&ns b) (if m="insert" then(v.E a).bind λf=>(v.E b).map λg=>OV i f g else J)
 |_=>J
def sR(r:Rc)(G:Gm)(s:Yl):Option DS:=match s with
 | .Assign [.Name x p] e _=>(lR G x).bind λi=>(asR r G x p e).map λf=>av i f
 | .Assign [.Subscript (.Name x _) k _] e _=>bx (nLC e) ((vR G x).bind λi=>((r G).E k).bind λf=>((r G).E e).map λg=>EM i f g)
 | .Return (U e) _=>((r G).E e).map λf=>fzS (fzR G e) (XR f)
 | .If c xs ys _=>((r G).T c).bind λt=>((r G).B xs).bind λa=>((r G).B ys).map λb=>ifS t a b
 | .For tg iter body [] _=>bx (Pz iter) ((LO (r G) G tg iter).bind λsrc=>(tgR G tg).bind λgd=>((r G).B body).map λb=>d9 (Na G iter) src gd b)
 | .While c body [] _=>((r G).T c).bind λt=>((r G).B body).map λb=>qz t b
 | .Break _=>U bkS
 | .Expr (.Call (.Attribute (.Name x _) m apos) args [] eE) _=>bx (apos.endLine==eE.line) (meR (r G) G x m args)
 |_=>J
def blR(v:Ev):List Yl->Option DS
 |[]=>U aE
 |[s]=>v.S s
 |s::t::rest=>(v.S s).bind λa=>(v.B (t::rest)).map λb=>aj a b
def Sz(r:Rc):Rc:=λG=> ⟨eR r G,vV (r G) G,tV (r G),wV (r G),sR r G,blR (r G)⟩
def J3:Nat->Rc
 |0=>λ_=> ⟨λ_=>J,λ_=>J,λ_=>J,λ_=>J,λ_=>J,λ_=>J⟩
 |n+1=>Sz (J3 n)
def J4(h:PSd X s f):PSd X s (fzS is f):=by
 cases is with
 |nil=>exact h
 |cons i is=>exact Pu h
def PH(hr:∀G X,fP G X->mC (r G) X)(g:fP G X)(hx:lR G x=U i)(h:asR r G x p e=U f):PSd X (.Assign [.Name x p] e pos) (av i f):=by
 obtain⟨l1,l2,l3⟩:=Du g hx;unfold asR at h;split at h
 .rename_i elt tg iter ifs scope lp;obtain⟨c,h'⟩:=aA h;have sw:swapsWith (.ListComp elt [⟨tg,iter,ifs,0⟩] scope lp) (U (.Name x p)) pos.line X.env=pure (swB G x p lp scope):=by
   unfold swB;rw[<-g.sw c x]
   rfl
  split at h'
  .rename_i q;obtain⟨c2,h'⟩:=aA h';exact(IY hr g h').2 (by simpa using c2) hx (by rw[sw,q])
  .rename_i q;exact Ht g.nd l1 l2 ((hr G X g).E _ _ h') (by rw[sw,q]) l3
 .obtain⟨c,h'⟩:=aA h;exact Ht g.nd l1 l2 ((hr G X g).E _ _ h') (J1 c) l3
def PJ{apos eE:Pos}(g:fP G X)(k:mC v X)(hl:(apos.endLine==eE.line)=O)(h:meR v G x m args=U f):PSd X (.Expr (.Call (.Attribute (.Name x px) m apos) args [] eE) pos) f:=by
 obtain⟨i,hi,h'⟩:=eh h;clear h;obtain⟨v1,v2,v3,v4⟩:=Dt g hi;split at h'
 .obtain⟨c,h2⟩:=aA h';clear h';split at h2
  .rename_i q;subst q
   obtain⟨u,hu,rfl⟩:=Gaa.mp h2;exact J4 (EV v1 v2 (k.E _ _ hu) v3 v4 (bP c) rfl (by rw[bP c];rfl) hl rfl)
  .split at h2
   .rename_i q;subst q
    obtain⟨u,hu,rfl⟩:=Gaa.mp h2;exact EW v1 v2 (k.E _ _ hu) v3 v4 (bP c) rfl (by rw[bP c];rfl) hl rfl
   .cases h2
 .obtain⟨c,h2⟩:=aA h';clear h';rw[Gai] at c;split at h2
  .rename_i q;subst q
   obtain⟨a,ha,h3⟩:=eh h2;obtain⟨u,hu,rfl⟩:=Gaa.mp h3;exact Fq v1 v2 (k.E _ _ ha) (k.E _ _ hu) v3 v4 (bP c.1) (bP c.2) rfl (by rw[bP c.1,bP c.2];rfl) hl rfl
  .cases h2
 .cases h'
def SA(hr:∀G X,fP G X->mC (r G) X)(g:fP G X)(h:sR r G s=U f):PSd X s f:=by
 have k:=hr G X g;have ow:PassesOwn (model X.prog X.w) X.A X.env X.xe:=by rw[g.own];exact PassesOwn.never
 unfold sR at h;split at h
 .obtain⟨i,hi,h⟩:=eh h;obtain⟨u,hu,rfl⟩:=Gaa.mp h;exact PH hr g hi hu
 .obtain⟨c,h⟩:=aA h;obtain⟨i,hi,h⟩:=eh h;obtain⟨a,ha,h⟩:=eh h;obtain⟨u,hu,rfl⟩:=Gaa.mp h;obtain⟨v1,v2,v3,v4⟩:=Dt g hi;exact OT g.hu1 v1 v2 (k.E _ _ ha) (k.E _ _ hu) v3 v4 (J1 c)
 .obtain⟨u,hu,rfl⟩:=Gaa.mp h;exact J4 (Ou (k.E _ _ hu))
 .obtain⟨t,ht,h⟩:=eh h;obtain⟨a,ha,h⟩:=eh h;obtain⟨u,hu,rfl⟩:=Gaa.mp h;exact S7 (k.T _ _ ht) (k.B _ _ ha) (k.B _ _ hu)
 .obtain⟨c,h⟩:=aA h;obtain⟨t,ht,h⟩:=eh h;obtain⟨a,ha,h⟩:=eh h;obtain⟨u,hu,rfl⟩:=Gaa.mp h;exact Ov ow g.calm (Dy g k ht) (C2 g ha).1 (k.B _ _ hu) (q8 c)
 .obtain⟨t,ht,h⟩:=eh h;obtain⟨u,hu,rfl⟩:=Gaa.mp h;exact Hu ow (k.T _ _ ht) (k.B _ _ hu)
 .cases h;exact Hs
 .obtain⟨c,h⟩:=aA h;exact PJ g k c h
 .cases h
theorem Dz:∀n G X,fP G X->mC (J3 n G) X
 |0,G,X,g=>by constructor<;>(intro _ _ h;cases h)
 |n+1,G,X,g=>by
  have hr:=Dz n;have k:=hr G X g;refine⟨λe f h=>Sy hr g h,λe t h=>Nb g k h,λe t h=>Sw g k h,λe t h=>Sx k h,λs f h=>SA hr g h,λb f h=> ?_⟩;have h:blR (J3 n G) b=U f:=h;unfold blR at h;split at h
  .cases h;exact Oq
  .exact Ot (k.S _ _ h)
  .obtain⟨a,ha,h⟩:=eh h;obtain⟨u,hu,rfl⟩:=Gaa.mp h;exact KP (k.S _ _ ha) (k.B _ _ hu)
section
variable{P:Yn}{w:World}{K:ak}{mg:Str->Option Ye}{base:Yi}
def vS{N ps:List Str}(F:Fun K x qual sd fa fd)(S:gP N ps (aY sd))(zQ:ps.length=np)
  (hT:∀x np sp,fns x=U (np,sp)->∃j fa fd ps,jq P w K mg base CX0 j fa fd ps (spD K np sp)/\j<=k/\mg x=U (.ref fa)/\PySem.W.keepIn K (.ref fa)=O/\Binds K fd ps [])(hb:∀x∈bl,mg x=J)
  (hc:(J3 60 ⟨N,λx=>(aY sd).names.lookup x,fns,bl,O,yy,fz⟩).B (gy sd)=U b):jq P w K mg base CX0 (k+1) fa fd ps (spD K np (bw N.length np b)):=by
 refine Hz F S zQ λxh A outer s H E hr=>(Dz 60 _ _ ?_).B _ _ hc;exact{
  N:=rfl
  nd:=S.nd
  vis:=λx hx=>by
   have hx:rdK ((aY sd).names.lookup x)=O:=hx
   match q:(aY sd).names.lookup x with
   |some .local=>exact .inl q
   |some .free=>exact .inr (.inr q)
   |some .cell=>exact .inr (.inl q)
   |none=>rw[q] at hx;cases hx
   |some .globalExplicit=>rw[q] at hx;cases hx
   |some .globalImplicit=>rw[q] at hx;cases hx
  loc:=λx hx=>by
   refine⟨?_,.inl rfl⟩;simp only[Bool.true_and,GaX,Gbw] at hx;exact hx
  gl:=λx hx=>hx
  cf:=λx hx=>hx
  sw:=λ_ x=>by
   have:(PySem.Env.blockKind (envOfC qual (aY sd) s.heap.objs.size fa xh)==ScopeKind.function)=O:=by
    show((if(aY sd).kind.isAnnotationScope then _ else(aY sd).kind)==_)=O;rw[S.kind]
    rfl
   exact(congrArg (· &&_) this).trans (Bool.true_and _)
  calm:=rfl
  own:=rfl
  hu:=KY hr
  fns:=λx np sp h=>let⟨j,fa,fd,ps,a1,a2,a3⟩:=hT x np sp h;⟨j,fa,fd,ps,a1,hr.mono a2,a3⟩
  no:=hb}
structure En where
 x:Str
 k:Nat
 np:Nat
 sp:SpF
def SE(P:Yn)(w:World)(K:ak)(mg:Str->Option Ye)(base:Yi)(e:En):Prop:=∃fa fd ps,jq P w K mg base CX0 e.k fa fd ps (spD K e.np e.sp)/\mg e.x=U (.ref fa)/\PySem.W.keepIn K (.ref fa)=O/\Binds K fd ps []
noncomputable def SF(T:List En)(k:Nat)(x:Str):Option (Nat×(SpF)):=(T.find? λe=>e.x==x&&decide (e.k<=k)).map λe=>(e.np,e.sp)
def DB(hT:∀e∈T,SE P w K mg base e):∀x np sp,SF T k x=U (np,sp)->∃j fa fd ps,jq P w K mg base CX0 j fa fd ps (spD K np sp)/\j<=k/\mg x=U (.ref fa)/\PySem.W.keepIn K (.ref fa)=O/\Binds K fd ps []:=λx np sp h=>by
 obtain⟨e,he,h⟩:=Gaa.mp h;cases h;have h1:=GdP he;rw[Gai] at h1;obtain⟨fa,fd,ps,a1,a2,a3,a4⟩:=hT e (Gde he);have e1:=Gbw.mp h1.1;subst e1;exact⟨e.k,fa,fd,ps,a1,Gar h1.2,a2,a3,a4⟩
end
end DL
namespace Den
open DL.D renaming int→A,str→B,non→C
open DL PySem
def ux:DS:=
 (XR (bF dw (aa (bF XU (aa (Yc g9 (vE 0) (aU (aa (vE 1) ag))) ag)) ag)))
def kU:SpF:=bw 2 2 ux
def lL:DS:=
 (XR (aU (aa (Yb (vE 0) (kE (A 0))) (aa (aq kU (aa (Yb (vE 0) (kE (A 1))) (aa (aU (aa (vE 1) (aa (vE 2) (aa (vE 3) ag)))) ag))) ag))))
def cZ:SpF:=bw 4 4 lL
def ny:DS:=
 (XR (g8 J 1 [1] (dz (Yb (vE 0) (kE (A 1)))) (gN 0) (aC eqB (Yb (vE 0) (kE (A 0))) (vE 1)) (aU (aa (Yb (vE 0) (kE (A 1))) (aa (Yb (vE 0) (kE (A 2))) ag)))))
def gS:SpF:=bw 2 2 ny
def FR:DS:=
 (aj (av 4 (Yc b6 (vE 1) (vE 2)))
 (aj (av 5 (Yc cV (vE 0) (vE 4)))
 (aj (av 6 (Yc iW (vE 0) (Yc b6 (vE 5) (vE 4))))
 (aj (ifS (fK (aC eqB (vE 3) (kE (B "up"))) (aC gtB (vE 6) (kE (A 0))))
  (av 5 (Yc aI (vE 5) (kE (A 1))))
  aE)
 (aj (ifS (fK (aC eqB (vE 3) (kE (B "near"))) (aC gtB (Yc b6 (kE (A 2)) (vE 6)) (vE 4)))
  (av 5 (Yc aI (vE 5) (kE (A 1))))
  aE)
 (XR (Yc b6 (vE 5) (vE 2))))))))
def jG:SpF:=bw 7 4 FR
def PK:DS:=
 (aj (av 5 (Yb (vE 0) (kE (A 0))))
 (aj (av 6 (Yc b6 (Yb (vE 0) (kE (A 1))) (vE 2)))
 (aj (av 7 (Yb (vE 0) (kE (A 2))))
 (aj (av 8 (Yb (vE 0) (kE (A 3))))
 (aj (ifS (aC eqB (vE 7) (kE (A 0)))
  (av 9 (aq jG (aa (vE 6) (aa (vE 3) (aa (vE 4) (aa (vE 5) ag))))))
  (av 9 (aq jG (aa (Yc b6 (vE 1) (vE 6)) (aa (Yc b6 (vE 7) (vE 3)) (aa (vE 4) (aa (vE 5) ag)))))))
 (XR (bF tZ (aa (vE 9) (aa (aq jG (aa (vE 8) (aa (kE (A 1)) (aa (vE 4) (aa (kE (B "down")) ag))))) ag)))))))))
def rG:SpF:=bw 10 5 PK
def J5:DS:=
 (aj (av 2 (Yb (vE 0) (kE (A 4))))
 (aj (av 3 (Yc aI (Yb (vE 2) (kE (A 1))) (Yc b6 (vE 1) (Yb (vE 2) (kE (A 2))))))
 (XR (aU (aa (Yc iW (vE 3) (Yb (vE 2) (kE (A 4)))) (aa (Yc aI (vE 3) (Yb (vE 2) (kE (A 5)))) ag))))))
def vT:SpF:=bw 4 2 J5
def rH:DS:=
 (aj (av 2 (Yb (vE 0) (kE (A 4))))
 (aj (ifS (aC eqB (Yb (vE 2) (kE (A 0))) (kE (B "asked")))
  (XR (kE C))
  aE)
 (aj (av 3 (Yc iW (vE 1) (Yc iW (Yb (vE 2) (kE (A 1))) (Yb (vE 2) (kE (A 4))))))
 (aj (av 4 (Yc cV (vE 3) (Yb (vE 2) (kE (A 2)))))
 (aj (ifS (orT (v8 (jf leB ltB (kE (A 0)) (vE 4) (Yb (vE 2) (kE (A 3))))) (aC gtB (Yc iW (vE 3) (Yc b6 (vE 4) (Yb (vE 2) (kE (A 2))))) (Yc aI (Yb (vE 2) (kE (A 4))) (Yb (vE 2) (kE (A 5))))))
  (XR (kE C))
  aE)
 (XR (vE 4)))))))
def iB:SpF:=bw 5 2 rH
def rJ:DS:=
 (aj (av 2 (Yb (vE 0) (kE (A 4))))
 (aj (ifS (aC eqB (Yb (vE 2) (kE (A 0))) (kE (B "asked")))
  (XR (bE (aC ltB (vE 1) (Yb (vE 2) (kE (A 1))))))
  aE)
 (XR (bE (aC k8 (aq iB (aa (vE 0) (aa (vE 1) ag))) (kE C))))))
def kx:SpF:=bw 3 2 rJ
def DC:DS:=
 (aj (av 4 (aq vT (aa (vE 0) (aa (vE 2) ag))))
 (aj (ifS (l9 (bF anyS (aa (g8 (U 1) 1 [4] (dz (vE 1)) (gN 0) fM (bE (jf leB leB (Yb (vE 1) (kE (A 0))) (vE 0) (Yb (vE 1) (kE (A 1)))))) ag)))
  (XR (kE (B "given")))
  aE)
 (aj (ifS (aC gtB (Yb (vE 4) (kE (A 0))) (vE 3))
  (XR (kE (B "ahead")))
  aE)
 (aj (ifS (aC ltB (Yb (vE 4) (kE (A 1))) (vE 3))
  (XR (kE (B "missed")))
  aE)
 (XR (kE (B "open")))))))
def q9:SpF:=bw 5 4 DC
def gA:DS:=
 (ifS (aC leB (Yb (vE 3) (kE (A 0))) (vE 1))
  (av 2 (aU (aa (Yb (vE 3) (kE (A 1))) (aa (Yb (vE 3) (kE (A 2))) ag))))
  aE)
def C3:DS:=
 (aj (av 2 (aU (aa (kE (A 1)) (aa (kE (A 1)) ag))))
 (aj (d9 J (dz (Yb (vE 0) (kE (A 5)))) (gN 3)
  gA)
 (XR (vE 2))))
def jS:SpF:=bw 4 2 C3
def nz:DS:=
 (aj (ifS (aC eqB (Yb (vE 0) (kE (A 0))) (kE (B "ever")))
  (XR (Yb (vE 0) (kE (A 1))))
  aE)
 (aj (ifS (aC eqB (Yb (vE 0) (kE (A 0))) (kE (B "flat")))
  (XR (Yb (vE 0) (kE (A 2))))
  aE)
 (aj (ifS (aC k8 (vE 1) (kE C))
  (XR (kE C))
  aE)
 (XR (Yc cV (Yc b6 (vE 1) (Yb (vE 0) (kE (A 2)))) (Yb (vE 0) (kE (A 3))))))))
def j6:SpF:=bw 2 2 nz
def iC:DS:=
 (ifS (fK (aC eqB (Yb (vE 4) (kE (A 0))) (vE 1)) (aC leB (Yb (vE 4) (kE (A 1))) (vE 2)))
  (av 3 (Yb (vE 4) (kE (A 2))))
  aE)
def AE:DS:=
 (aj (av 3 (kE C))
 (aj (d9 (U 0) (dz (vE 0)) (gN 4)
  iC)
 (XR (vE 3))))
def dA:SpF:=bw 5 3 AE
def fH:DT:=
 (fK (aC iZ (vE 1) (kE C)) (aC leB (Yb (Yb (vE 2) (vE 5)) (kE (A 0))) (Yc iW (Yb (vE 7) (kE (A 0))) (vE 1))))
def gY:DS:=
 (aj (av 4 (Yc iW (vE 4) (Yb (Yb (vE 2) (vE 5)) (kE (A 1)))))
 (av 5 (Yc aI (vE 5) (kE (A 1)))))
def dQ:DS:=
 (aj (av 4 (Yc aI (vE 4) (Yb (vE 7) (kE (A 1)))))
 (aj (qz fH
  gY)
 (ifS (orT (aC eqB (Yc aI (vE 6) (kE (A 1))) (bF cA (aa (vE 2) ag))) (aC gtB (Yb (Yb (vE 2) (Yc aI (vE 6) (kE (A 1)))) (kE (A 0))) (Yb (vE 7) (kE (A 0)))))
  (dY 3 (aU (aa (Yb (vE 7) (kE (A 0))) (aa (vE 4) ag))))
  aE)))
def C4:DS:=
 (aj (av 2 (bF XU (aa (vE 0) ag)))
 (aj (av 3 (dh ag))
 (aj (av 4 (kE (A 0)))
 (aj (av 5 (kE (A 0)))
 (aj (d9 (U 2) (ub (vE 2)) (gT [6,7])
  dQ)
 (XR (vE 3)))))))
def jT:SpF:=bw 8 2 C4
def jH:DS:=
 (XR (bF anyS (aa (g8 J 1 [] (dz (Yb (vE 0) (kE (A 2)))) (gN 0) fM (bE (aC eqB (Yb (vE 0) (kE (A 0))) (kE (B "kilo"))))) ag)))
def dR:SpF:=bw 1 1 jH
def lM:DS:=
 (aj (av 3 (Yb (vE 2) (kE (A 0))))
 (aj (av 4 (Yb (vE 2) (kE (A 1))))
 (aj (av 5 (Yb (vE 2) (kE (A 2))))
 (aj (av 6 (Yb (Yb (vE 0) (kE (A 3))) (vE 3)))
 (aj (av 7 (Yb (Yb (vE 0) (kE (A 1))) (Yb (vE 6) (kE (A 2)))))
 (aj (av 8 (dh ag))
 (aj (ifS (l9 (aq kx (aa (vE 6) (aa (vE 4) ag))))
  (dY 8 (kE (B "astray")))
  aE)
 (aj (ifS (aC gtB (vE 5) (Yb (Yb (vE 6) (kE (A 3))) (kE (A 3))))
  (dY 8 (kE (B "most")))
  aE)
 (aj (ifS (orT (aC ltB (vE 5) (kE (A 1))) (aC neB (Yc bh (vE 5) (Yb (Yb (vE 7) (kE (A 1))) (kE (A 0)))) (kE (A 0))))
  (dY 8 (kE (B "part")))
  aE)
 (aj (ifS (fK (l9 (aq dR (aa (vE 7) ag))) (aC k8 (aq dA (aa (vE 1) (aa (Yb (vE 6) (kE (A 1))) (aa (vE 4) ag)))) (kE C)))
  (dY 8 (kE (B "weight")))
  aE)
 (aj (ifS (aC ltB (vE 4) (Yc aI (Yb (Yb (Yb (vE 0) (kE (A 0))) (Yb (vE 6) (kE (A 1)))) (kE (A 1))) (Yb (vE 7) (kE (A 3)))))
  (dY 8 (kE (B "young")))
  aE)
 (XR (g8 (U 8) 1 [3,4] (dz (vE 8)) (gN 0) fM (aU (aa (vE 0) (aa (vE 1) (aa (vE 2) ag)))))))))))))))))
def f7:SpF:=bw 9 3 lM
def bL:DM:=
 (Sd (setM 4 (Yb (Yb (vE 0) (kE (A 3))) (Yb (vE 3) (kE (A 0)))))
 (Se (aU (aa (Yb (vE 4) (kE (A 1))) (aa (Yb (vE 4) (kE (A 2))) ag))) (aU (aa (Yb (vE 3) (kE (A 1))) (aa (Yb (vE 3) (kE (A 2))) ag)))))
def dg:DS:=
 (Ia 2 (N5 3 (vE 1) bL))
def cB:SpF:=bw 5 2 dg
def fj:DS:=
 (aj (av 11 (aq j6 (aa (vE 8) (aa (aq dA (aa (vE 1) (aa (vE 6) (aa (Yb (vE 10) (kE (A 0))) ag)))) ag))))
 (ifS (fK (aC iZ (vE 11) (kE C)) (aC gtB (Yb (vE 10) (kE (A 1))) (vE 11)))
  (dY 3 (aU (aa (kE (B "cap")) (aa (vE 6) (aa (Yb (vE 4) (kE (A 1))) (aa (vE 7) (aa (Yb (vE 10) (kE (A 0))) (aa (Yb (vE 10) (kE (A 1))) (aa (vE 11) ag)))))))))
  aE))
def cW:DS:=
 (aj (av 9 (ifE (aC eqB (Yb (vE 8) (kE (A 0))) (kE (B "ever"))) (kE C) (Yb (vE 8) (kE (A 1)))))
 (d9 J (dz (aq jT (aa (vE 5) (aa (vE 9) ag)))) (gN 10)
  fj))
def fq:DS:=
 (aj (av 6 (Yb (vE 4) (kE (A 0))))
 (d9 J (ub (Yb (Yb (Yb (vE 0) (kE (A 1))) (Yb (vE 4) (kE (A 1)))) (kE (A 2)))) (gT [7,8])
  cW))
def vU:DS:=
 (aj (av 3 (dh ag))
 (aj (d9 J (D5 cP (aq cB (aa (vE 0) (aa (vE 2) ag)))) (gT [4,5])
  fq)
 (XR (vE 3))))
def fQ:SpF:=bw 12 3 vU
def cN:DS:=
 (aj (EM 1 (aU (aa (Yb (vE 2) (kE (A 0))) (aa (Yb (vE 2) (kE (A 1))) ag))) (Yb (vE 2) (kE (A 2))))
 (EM 1 (aU (aa (Yb (vE 2) (kE (A 1))) (aa (Yb (vE 2) (kE (A 0))) ag))) (Yb (vE 2) (kE (A 2)))))
def oq:DS:=
 (aj (av 1 (vb))
 (aj (d9 (U 0) (dz (vE 0)) (gN 2)
  cN)
 (XR (vE 1))))
def dS:SpF:=bw 3 1 oq
def lN:DS:=
 (aj (ifS (aC neB (Yb (vE 1) (kE (A 1))) (Yb (vE 2) (kE (A 1))))
  (XR (kE (A 0)))
  aE)
 (XR (HY (vE 0) (aU (aa (Yb (vE 1) (kE (A 2))) (aa (Yb (vE 2) (kE (A 2))) ag))) (kE (A 0)))))
def gB:SpF:=bw 3 3 lN
def bU:DS:=
 (aj (av 9 (Yc iW (Yb (vE 8) (kE (A 0))) (Yb (vE 7) (kE (A 0)))))
 (aj (ifS (aC geB (vE 9) (vE 3))
  bkS
  aE)
 (ifS (aC ltB (vE 9) (aq gB (aa (vE 2) (aa (Yb (Yb (vE 0) (kE (A 3))) (Yb (vE 7) (kE (A 1)))) (aa (Yb (Yb (vE 0) (kE (A 3))) (Yb (vE 8) (kE (A 1)))) ag)))))
  (dY 5 (aU (aa (kE (B "gap")) (aa (Yb (vE 7) (kE (A 1))) (aa (Yb (vE 7) (kE (A 0))) (aa (Yb (vE 8) (kE (A 1))) (aa (Yb (vE 8) (kE (A 0))) ag)))))))
  aE)))
def cx:DS:=
 (d9 J (dz (slE (vE 4) (CK (Yc aI (vE 6) (kE (A 1)))) noO)) (gN 8)
  bU)
def vW:DS:=
 (aj (av 2 (aq dS (aa (Yb (vE 0) (kE (A 2))) ag)))
 (aj (av 3 (mmE o5 (A 0) (g8 J 1 [] (dz (Yb (vE 0) (kE (A 2)))) (gN 0) fM (Yb (vE 0) (kE (A 2))))))
 (aj (av 4 (bF XU (aa (g8 (U 1) 1 [] (dz (vE 1)) (gN 0) fM (aU (aa (Yb (vE 0) (kE (A 1))) (aa (Yb (vE 0) (kE (A 0))) ag)))) ag)))
 (aj (av 5 (dh ag))
 (aj (d9 (U 4) (ub (vE 4)) (gT [6,7])
  cx)
 (XR (vE 5)))))))
def fR:SpF:=bw 10 2 vW
def cC:DS:=
 (aj (av 4 (aq iB (aa (Yb (Yb (vE 0) (kE (A 3))) (Yb (vE 3) (kE (A 0)))) (aa (Yb (vE 3) (kE (A 1))) ag))))
 (ifS (aC iZ (vE 4) (kE C))
  (EM 2 (aU (aa (Yb (vE 3) (kE (A 0))) (aa (vE 4) ag))) (Yc aI (HY (vE 2) (aU (aa (Yb (vE 3) (kE (A 0))) (aa (vE 4) ag))) (kE (A 0))) (kE (A 1))))
  aE))
def rK:DS:=
 (aj (av 2 (vb))
 (aj (d9 (U 1) (dz (vE 1)) (gN 3)
  cC)
 (XR (vp cP 2 2 [] (gT [0,1]) (aC gtB (vE 1) (kE (A 1))) (aU (aa (kE (B "twice")) (aa (Yb (vE 0) (kE (A 0))) (aa (Yb (vE 0) (kE (A 1))) ag))))))))
def dB:SpF:=bw 5 2 rK
def gG:DS:=
 (NX 4 (aq f7 (aa (vE 0) (aa (vE 2) (aa (vE 5) ag)))))
def J6:DS:=
 (aj (av 2 (Yb (vE 1) (kE (A 0))))
 (aj (av 3 (Yb (vE 1) (kE (A 1))))
 (aj (av 4 (Yc aI (Yc aI (aq fQ (aa (vE 0) (aa (vE 2) (aa (vE 3) ag)))) (aq fR (aa (vE 0) (aa (vE 3) ag)))) (aq dB (aa (vE 0) (aa (vE 3) ag)))))
 (aj (d9 (U 3) (dz (vE 3)) (gN 5)
  gG)
 (XR (bF XU (aa (vE 4) ag)))))))
def jI:SpF:=bw 6 2 J6
def ji:DS:=
 (aj (av 1 (Yb (vE 0) (kE (A 4))))
 (aj (ifS (aC eqB (Yb (vE 1) (kE (A 0))) (kE (B "asked")))
  (XR (dh ag))
  aE)
 (XR (HX (Yb (vE 1) (kE (A 3)))))))
def d6:SpF:=bw 2 1 ji
def kz:DS:=
 (XR (g8 J 1 [] (dz (aq gS (aa (vE 0) (aa (vE 1) ag)))) (gN 0) fM (Yb (vE 0) (kE (A 0)))))
def dC:SpF:=bw 2 2 kz
def gU:DS:=
 (ifS (aC eqB (aq q9 (aa (vE 6) (aa (vE 7) (aa (vE 8) (aa (vE 2) ag))))) (vE 3))
  (dY 4 (aU (aa (Yc aI (Yb (Yb (vE 6) (kE (A 4))) (kE (A 1))) (Yc b6 (vE 8) (Yb (Yb (vE 6) (kE (A 4))) (kE (A 2))))) (aa (vE 5) (aa (vE 8) ag)))))
  aE)
def jU:DS:=
 (aj (av 7 (aq dC (aa (vE 1) (aa (vE 5) ag))))
 (d9 J (dz (aq d6 (aa (vE 6) ag))) (gN 8)
  gU))
def FT:DS:=
 (aj (av 4 (dh ag))
 (aj (d9 J (ub (Yb (vE 0) (kE (A 3)))) (gT [5,6])
  jU)
 (XR (bF XU (aa (vE 4) ag)))))
def ou:SpF:=bw 9 4 FT
def p8:DS:=
 (XR (aq ou (aa (vE 0) (aa (vE 1) (aa (vE 2) (aa (kE (B "open")) ag))))))
def fI:SpF:=bw 3 3 p8
def FU:DS:=
 (aj (av 5 (Yb (Yb (vE 0) (kE (A 3))) (vE 2)))
 (aj (av 6 (Yb (vE 5) (kE (A 3))))
 (aj (av 7 (aq dA (aa (Yb (vE 1) (kE (A 0))) (aa (Yb (vE 5) (kE (A 1))) (aa (vE 4) ag)))))
 (aj (ifS (fK (aC neB (Yb (vE 6) (kE (A 2))) (kE (A 0))) (aC k8 (vE 7) (kE C)))
  (XR (kE C))
  aE)
 (aj (av 8 (aq jS (aa (vE 5) (aa (vE 3) ag))))
 (XR (aq rG (aa (vE 6) (aa (vE 7) (aa (Yb (vE 8) (kE (A 0))) (aa (Yb (vE 8) (kE (A 1))) (aa (Yb (Yb (Yb (Yb (vE 0) (kE (A 1))) (Yb (vE 5) (kE (A 2)))) (kE (A 1))) (kE (A 0))) ag))))))))))))
def gZ:SpF:=bw 9 5 FU
def d7:DS:=
 (aj (av 7 (Yb (vE 6) (kE (A 1))))
 (aj (av 8 (Yb (vE 6) (kE (A 2))))
 (aj (av 9 (aq gZ (aa (vE 0) (aa (vE 1) (aa (vE 7) (aa (vE 8) (aa (vE 2) ag)))))))
 (ifS (aC k8 (vE 9) (kE C))
  (dY 4 (aU (aa (vE 7) (aa (vE 8) (aa (frE (dh (aa (aU (aa (kE (B "weight")) (aa (vE 7) (aa (vE 2) ag)))) ag))) ag)))))
  (aj (av 10 (aq cZ (aa (vE 5) (aa (vE 7) (aa (vE 2) (aa (vE 9) ag))))))
 (aj (av 11 (aq jI (aa (vE 0) (aa (vE 10) ag))))
 (ifS (aC eqB (vE 11) (dh ag))
  (aj (av 5 (vE 10))
 (dY 3 (aU (aa (vE 7) (aa (vE 8) (aa (vE 9) ag))))))
  (FP [11] (dY 4 (aU (aa (vE 7) (aa (vE 8) (aa (vE 11) ag)))))))))))))
def C5:DS:=
 (aj (av 3 (dh ag))
 (aj (av 4 (dh ag))
 (aj (av 5 (vE 1))
 (aj (d9 J (dz (aq fI (aa (vE 0) (aa (vE 1) (aa (vE 2) ag))))) (gN 6)
  d7)
 (FP [3,4] (XR (aU (aa (vE 3) (aa (vE 4) ag)))))))))
def iD:SpF:=bw 12 3 C5
def pb:DS:=
 (aj (av 2 (kE (A 0)))
 (aj (ifS (aC gtB (bF cA (aa (vE 0) ag)) (kE (A 0)))
  (av 2 (Yb (vE 0) (Yc bh (vE 1) (bF cA (aa (vE 0) ag)))))
  aE)
 (aj (av 3 (Yc bh (Yc aI (Yc aI (Yc b6 (Yc bh (vE 2) (kE (A 1000003))) (kE (A 48271))) (Yc b6 (Yc b6 (vE 1) (vE 1)) (kE (A 7919)))) (kE (A 1))) (kE (A 65521))))
 (XR (Yc bh (Yc b6 (vE 3) (vE 3)) (kE (A 65519)))))))
def ah:SpF:=bw 4 2 pb
def uy:DS:=
 (XR (Yb (dh (aa (kE (A 1)) (aa (kE (A 1)) (aa (kE (A 1)) (aa (kE (A 1)) (aa (kE (A 1)) (aa (Yc wL (kE (A 10)) (kE (A 6))) ag))))))) (Yc bh (aq ah (aa (vE 0) (aa (kE (A 300)) ag))) (kE (A 6)))))
def d8:SpF:=bw 1 1 uy
def kW:DS:=
 (aj (av 4 (Yc b6 (vE 3) (Yc aI (kE (A 3)) (Yc bh (aq ah (aa (vE 0) (aa (Yc aI (vE 1) (kE (A 1))) ag))) (kE (A 28))))))
 (aj (av 5 (Yc bh (aq ah (aa (vE 0) (aa (vE 1) ag))) (kE (A 3))))
 (aj (ifS (aC eqB (vE 5) (kE (A 0)))
  (XR (aU (aa (kE (B "flat")) (aa (vE 4) (aa (Yc b6 (vE 2) (Yc aI (kE (A 3)) (Yc bh (aq ah (aa (vE 0) (aa (Yc aI (vE 1) (kE (A 2))) ag))) (kE (A 18))))) ag)))))
  aE)
 (aj (ifS (aC eqB (vE 5) (kE (A 1)))
  (XR (aU (aa (kE (B "kilo")) (aa (vE 4) (aa (Yc b6 (vE 2) (Yc aI (kE (A 1)) (Yc bh (aq ah (aa (vE 0) (aa (Yc aI (vE 1) (kE (A 3))) ag))) (kE (A 9))))) (aa (Yc aI (kE (A 5)) (Yc bh (aq ah (aa (vE 0) (aa (Yc aI (vE 1) (kE (A 4))) ag))) (kE (A 40)))) ag))))))
  aE)
 (XR (aU (aa (kE (B "ever")) (aa (Yc b6 (vE 2) (Yc aI (kE (A 8)) (Yc bh (aq ah (aa (vE 0) (aa (Yc aI (vE 1) (kE (A 2))) ag))) (kE (A 30))))) ag))))))))
def i0:SpF:=bw 6 4 kW
def fS:DS:=
 (dY 5 (Yc aI (Yb (vE 5) (unE EK (kE (A 1)))) (Yc b6 (vE 4) (Yc aI (kE (A 1)) (Yc bh (aq ah (aa (vE 0) (aa (Yc aI (Yc aI (vE 1) (kE (A 2))) (vE 6)) ag))) (kE (A 6)))))))
def fT:DS:=
 (dY 7 (aq i0 (aa (vE 0) (aa (Yc aI (Yc aI (vE 1) (kE (A 6))) (Yc b6 (kE (A 5)) (vE 6))) (aa (vE 4) (aa (vE 3) ag))))))
def pe:DS:=
 (aj (av 4 (Yc b6 (Yc aI (kE (A 1)) (Yc bh (aq ah (aa (vE 0) (aa (vE 1) ag))) (kE (A 5)))) (Yb (dh (aa (kE (A 1)) (aa (kE (A 1)) (aa (Yc wL (kE (A 10)) (kE (A 4))) ag)))) (Yc bh (aq ah (aa (vE 0) (aa (kE (A 301)) ag))) (kE (A 3))))))
 (aj (av 5 (dh (aa (vE 4) ag)))
 (aj (d9 J (cK (Yc bh (aq ah (aa (vE 0) (aa (Yc aI (vE 1) (kE (A 1))) ag))) (kE (A 3)))) (gN 6)
  fS)
 (aj (av 7 (dh ag))
 (aj (d9 J (cK (Yc bh (aq ah (aa (vE 0) (aa (Yc aI (vE 1) (kE (A 4))) ag))) (kE (A 3)))) (gN 6)
  fT)
 (aj (av 8 (aq ah (aa (vE 0) (aa (Yc aI (vE 1) (kE (A 5))) ag))))
 (XR (aU (aa (vE 2) (aa (bF dw (aa (vE 5) ag)) (aa (bF dw (aa (vE 7) ag)) (aa (Yc b6 (Yc b6 (Yc bh (vE 8) (kE (A 2))) (vE 3)) (Yc bh (Yc cV (vE 8) (kE (A 2))) (kE (A 20)))) ag))))))))))))
def j7:SpF:=bw 9 4 pe
def mD:DS:=
 (aj (ifS (aC eqB (Yc bh (aq ah (aa (vE 0) (aa (vE 1) ag))) (kE (A 4))) (kE (A 0)))
  (XR (aU (aa (kE (B "asked")) (aa (Yc b6 (vE 2) (Yc bh (aq ah (aa (vE 0) (aa (Yc aI (vE 1) (kE (A 1))) ag))) (kE (A 20)))) ag))))
  aE)
 (aj (av 3 (Yc aI (kE (A 2)) (Yc bh (aq ah (aa (vE 0) (aa (Yc aI (vE 1) (kE (A 2))) ag))) (kE (A 10)))))
 (aj (av 4 (Yc bh (aq ah (aa (vE 0) (aa (Yc aI (vE 1) (kE (A 3))) ag))) (vE 3)))
 (aj (av 5 (Yc bh (aq ah (aa (vE 0) (aa (Yc aI (vE 1) (kE (A 4))) ag))) (Yc iW (vE 3) (vE 4))))
 (aj (av 6 (Yc aI (vE 4) (Yc bh (aq ah (aa (vE 0) (aa (Yc aI (vE 1) (kE (A 1))) ag))) (kE (A 12)))))
 (XR (aU (aa (kE (B "due")) (aa (Yc b6 (vE 2) (vE 6)) (aa (Yc b6 (vE 2) (vE 3)) (aa (Yc aI (kE (A 1)) (Yc bh (aq ah (aa (vE 0) (aa (Yc aI (vE 1) (kE (A 5))) ag))) (kE (A 6)))) (aa (Yc b6 (vE 2) (vE 4)) (aa (Yc b6 (vE 2) (vE 5)) ag)))))))))))))
def iE:SpF:=bw 7 3 mD
def fU:DS:=
 (aj (av 14 (Yc aI (Yc aI (vE 14) (kE (A 1))) (Yc bh (aq ah (aa (vE 0) (aa (Yc aI (Yc aI (vE 1) (kE (A 14))) (vE 15)) ag))) (kE (A 2)))))
 (aj (av 16 (Yc aI (kE (A 1)) (Yc bh (aq ah (aa (vE 0) (aa (Yc aI (Yc aI (vE 1) (kE (A 16))) (vE 15)) ag))) (kE (A 12)))))
 (ifS (fK (aC eqB (Yb (vE 12) (kE (A 0))) (kE (B "due"))) (aC ltB (vE 14) (Yb (vE 12) (kE (A 3)))))
  (dY 13 (aU (aa (vE 14) (aa (Yc aI (kE (A 1)) (Yc bh (aq ah (aa (vE 0) (aa (Yc aI (Yc aI (vE 1) (kE (A 18))) (vE 15)) ag))) (vE 16))) (aa (vE 16) ag)))))
  aE)))
def pf:DS:=
 (aj (av 6 (Yc bh (aq ah (aa (vE 0) (aa (vE 1) ag))) (bF cA (aa (vE 4) ag))))
 (aj (av 7 (Yb (Yb (Yb (vE 4) (vE 6)) (kE (A 1))) (kE (A 0))))
 (aj (av 8 (Yc b6 (vE 7) (Yc aI (kE (A 1)) (Yc bh (aq ah (aa (vE 0) (aa (Yc aI (vE 1) (kE (A 1))) ag))) (kE (A 12))))))
 (aj (av 9 (Yc b6 (Yc bh (aq ah (aa (vE 0) (aa (Yc aI (vE 1) (kE (A 2))) ag))) (kE (A 2))) (Yc aI (kE (A 10)) (Yc bh (aq ah (aa (vE 0) (aa (Yc aI (vE 1) (kE (A 3))) ag))) (kE (A 90))))))
 (aj (av 10 (Yc aI (Yc aI (Yc b6 (vE 7) (Yc bh (aq ah (aa (vE 0) (aa (Yc aI (vE 1) (kE (A 4))) ag))) (kE (A 8)))) (kE (A 1))) (Yc bh (aq ah (aa (vE 0) (aa (Yc aI (vE 1) (kE (A 5))) ag))) (vE 7))))
 (aj (av 11 (aU (aa (Yb (dh (aa (kE (B "down")) (aa (kE (B "up")) (aa (kE (B "near")) ag)))) (Yc bh (aq ah (aa (vE 0) (aa (Yc aI (vE 1) (kE (A 6))) ag))) (kE (A 3)))) (aa (vE 10) (aa (vE 9) (aa (vE 8) ag))))))
 (aj (av 12 (aq iE (aa (vE 0) (aa (Yc aI (vE 1) (kE (A 8))) (aa (vE 5) ag)))))
 (aj (av 13 (dh ag))
 (aj (av 14 (kE (A 0)))
 (aj (d9 J (cK (Yc bh (aq ah (aa (vE 0) (aa (Yc aI (vE 1) (kE (A 7))) ag))) (kE (A 3)))) (gN 15)
  fU)
 (XR (aU (aa (vE 2) (aa (Yc bh (aq ah (aa (vE 0) (aa (Yc aI (vE 1) (kE (A 20))) ag))) (bF cA (aa (vE 3) ag))) (aa (vE 6) (aa (vE 11) (aa (vE 12) (aa (bF dw (aa (vE 13) ag)) ag))))))))))))))))))
def j8:SpF:=bw 17 6 pf
def dD:DS:=
 (dY 3 (aU (aa (Yb (Yb (vE 2) (kE (A 0))) (vE 4)) (aa (Yc b6 (vE 1) (Yc bh (aq ah (aa (vE 0) (aa (Yc aI (kE (A 302)) (vE 4)) ag))) (kE (A 10)))) ag))))
def dE:DS:=
 (dY 5 (aq j7 (aa (vE 0) (aa (Yc aI (kE (A 310)) (Yc b6 (kE (A 20)) (vE 4))) (aa (Yb (Yb (vE 2) (kE (A 1))) (vE 4)) (aa (vE 1) ag))))))
def dF:DS:=
 (ifS (aC eqB (Yc bh (aq ah (aa (vE 0) (aa (Yc aI (Yc aI (kE (A 370)) (Yc b6 (kE (A 3)) (vE 7))) (vE 8)) ag))) (kE (A 3))) (kE (A 0)))
  (aj (av 9 (Yc b6 (vE 1) (Yc aI (kE (A 1)) (Yc bh (aq ah (aa (vE 0) (aa (Yc aI (Yc aI (kE (A 380)) (Yc b6 (kE (A 3)) (vE 7))) (vE 8)) ag))) (kE (A 8))))))
 (OV 6 (Yc bh (aq ah (aa (vE 0) (aa (Yc aI (Yc aI (kE (A 390)) (Yc b6 (kE (A 3)) (vE 7))) (vE 8)) ag))) (Yc aI (bF cA (aa (vE 6) ag)) (kE (A 1)))) (aU (aa (vE 7) (aa (vE 8) (aa (vE 9) ag))))))
  aE)
def dG:DS:=
 (d9 J (va (vE 7) (bF cA (aa (vE 5) ag))) (gN 8)
  dF)
def dH:DS:=
 (dY 10 (aq j8 (aa (vE 0) (aa (Yc aI (kE (A 400)) (Yc b6 (kE (A 25)) (vE 4))) (aa (Yb (Yb (vE 2) (kE (A 2))) (vE 4)) (aa (vE 3) (aa (vE 5) (aa (vE 1) ag))))))))
def ph:DS:=
 (aj (av 1 (aq d8 (aa (vE 0) ag)))
 (aj (av 2 (Yb (dh (aa (dh (aa (kE (B "abc")) (aa (kE (B "uvw")) (aa (kE (B "klmn")) ag)))) (aa (dh (aa (kE (B "abcd")) (aa (kE (B "abcd")) (aa (kE (B "abcd")) ag)))) ag))) (bF A9 (aa (bE (aC eqB (Yc bh (aq ah (aa (vE 0) (aa (kE (A 299)) ag))) (kE (A 3))) (kE (A 0)))) ag))))
 (aj (av 3 (dh ag))
 (aj (d9 J (cK (Yc aI (kE (A 1)) (Yc bh (aq ah (aa (vE 0) (aa (kE (A 305)) ag))) (kE (A 3))))) (gN 4)
  dD)
 (aj (av 5 (dh ag))
 (aj (d9 J (cK (Yc aI (kE (A 1)) (Yc bh (aq ah (aa (vE 0) (aa (kE (A 306)) ag))) (kE (A 3))))) (gN 4)
  dE)
 (aj (av 6 (dh ag))
 (aj (d9 J (cK (bF cA (aa (vE 5) ag))) (gN 7)
  dG)
 (aj (av 10 (dh ag))
 (aj (d9 J (cK (Yc aI (kE (A 1)) (Yc bh (aq ah (aa (vE 0) (aa (kE (A 307)) ag))) (kE (A 4))))) (gN 4)
  dH)
 (XR (aU (aa (bF dw (aa (vE 3) ag)) (aa (bF dw (aa (vE 5) ag)) (aa (bF dw (aa (vE 6) ag)) (aa (bF dw (aa (vE 10) ag)) ag))))))))))))))))
def j9:SpF:=bw 11 1 ph
def mE:DS:=
 (aj (av 4 (Yb (vE 2) (kE (A 4))))
 (aj (ifS (aC eqB (Yb (vE 4) (kE (A 0))) (kE (B "asked")))
  (XR (Yc aI (Yb (vE 4) (kE (A 1))) (Yc b6 (vE 3) (Yc bh (aq ah (aa (vE 0) (aa (vE 1) ag))) (kE (A 40))))))
  aE)
 (aj (av 5 (aq ah (aa (vE 0) (aa (Yc aI (vE 1) (kE (A 1))) ag))))
 (aj (av 6 (Yc iW (Yc aI (Yb (vE 4) (kE (A 1))) (Yc b6 (Yc bh (aq ah (aa (vE 0) (aa (vE 1) ag))) (Yb (vE 4) (kE (A 3)))) (Yb (vE 4) (kE (A 2))))) (Yb (vE 4) (kE (A 4)))))
 (aj (av 6 (Yc aI (Yc aI (vE 6) (Yc b6 (vE 3) (Yc bh (vE 5) (Yc aI (kE (A 1)) (Yc cV (Yc aI (Yb (vE 4) (kE (A 4))) (Yb (vE 4) (kE (A 5)))) (vE 3)))))) (Yc b6 (vE 3) (bF A9 (aa (bE (aC eqB (Yc bh (vE 5) (kE (A 7))) (kE (A 3)))) ag)))))
 (XR (bF tZ (aa (Yc wL (kE (A 10)) (kE (A 9))) (aa (Yc aI (vE 6) (Yc b6 (Yc bh (Yc cV (vE 5) (kE (A 7))) (kE (A 2))) (bF A9 (aa (bE (aC gtB (vE 3) (kE (A 1)))) ag)))) ag)))))))))
def dI:SpF:=bw 7 4 mE
def pj:DS:=
 (XR (g8 (U 0) 1 [] (dz (vE 0)) (gN 0) fM (aU (aa (Yb (vE 0) (kE (A 0))) (aa (Yb (vE 0) (kE (A 1))) ag)))))
def dJ:SpF:=bw 1 1 pj
def gJ:DS:=
 (ifS (fK (aC eqB (Yb (vE 4) (kE (A 0))) (vE 1)) (aC leB (Yb (vE 4) (kE (A 1))) (vE 2)))
  (av 3 (Yb (vE 4) (kE (A 2))))
  aE)
def vX:DS:=
 (aj (av 3 (kE C))
 (aj (d9 (U 0) (dz (vE 0)) (gN 4)
  gJ)
 (XR (vE 3))))
def cS:SpF:=bw 5 3 vX
def fV:DS:=
 (aj (av 3 (Yc aI (Yb (Yb (vE 0) (kE (A 4))) (kE (A 1))) (Yc b6 (vE 2) (Yb (Yb (vE 0) (kE (A 4))) (kE (A 2))))))
 (ifS (jf leB leB (Yc iW (vE 3) (Yb (Yb (vE 0) (kE (A 4))) (kE (A 4)))) (vE 1) (Yc aI (vE 3) (Yb (Yb (vE 0) (kE (A 4))) (kE (A 5)))))
  (XR (vE 2))
  aE))
def ox:DS:=
 (aj (ifS (aC eqB (Yb (Yb (vE 0) (kE (A 4))) (kE (A 0))) (kE (B "due")))
  (d9 J (cK (Yb (Yb (vE 0) (kE (A 4))) (kE (A 3)))) (gN 2)
  fV)
  aE)
 (XR (kE C)))
def jJ:SpF:=bw 4 2 ox
def iF:DS:=
 (aj (ifS (aC eqB (Yb (vE 0) (kE (A 0))) (kE (B "ever")))
  (XR (Yb (vE 0) (kE (A 1))))
  aE)
 (aj (ifS (aC eqB (Yb (vE 0) (kE (A 0))) (kE (B "flat")))
  (XR (Yb (vE 0) (kE (A 2))))
  aE)
 (aj (ifS (aC k8 (vE 1) (kE C))
  (XR (kE C))
  aE)
 (XR (Yc cV (Yc b6 (vE 1) (Yb (vE 0) (kE (A 2)))) (Yb (vE 0) (kE (A 3))))))))
def dK:SpF:=bw 2 2 iF
def f9:DS:=
 (ifS (fK (aC eqB (Yb (Yb (Yb (vE 0) (kE (A 3))) (vE 9)) (kE (A 1))) (vE 2)) (fK (aC eqB (Yb (Yb (Yb (vE 0) (kE (A 3))) (vE 9)) (kE (A 2))) (vE 3)) (aC leB (vE 10) (vE 4))))
  (ifS (orT (aC eqB (Yb (vE 7) (kE (A 0))) (kE (B "ever"))) (aC gtB (vE 10) (Yc iW (vE 4) (Yb (vE 7) (kE (A 1))))))
  (av 8 (Yc aI (vE 8) (vE 11)))
  aE)
  aE)
def gC:DS:=
 (aj (av 7 (Yb (Yb (Yb (Yb (vE 0) (kE (A 1))) (vE 3)) (kE (A 2))) (vE 6)))
 (aj (av 8 (kE (A 0)))
 (aj (d9 J (dz (Yb (vE 1) (kE (A 1)))) (gT [9,10,11])
  f9)
 (aj (av 12 (aq dK (aa (vE 7) (aa (aq cS (aa (Yb (vE 1) (kE (A 0))) (aa (vE 2) (aa (vE 4) ag)))) ag))))
 (ifS (fK (aC iZ (vE 12) (kE C)) (aC gtB (vE 8) (vE 12)))
  (dY 5 (aU (aa (kE (B "cap")) (aa (vE 2) (aa (vE 3) (aa (vE 6) (aa (vE 4) (aa (vE 8) (aa (vE 12) ag)))))))))
  aE)))))
def C6:DS:=
 (aj (av 5 (dh ag))
 (aj (d9 J (cK (bF cA (aa (Yb (Yb (Yb (vE 0) (kE (A 1))) (vE 3)) (kE (A 2))) ag))) (gN 6)
  gC)
 (XR (vE 5))))
def iG:SpF:=bw 13 5 C6
def fb:DS:=
 (ifS (fK (aC IP (aU (aa (vE 3) (aa (vE 2) ag))) (aU (aa (vE 7) (aa (vE 6) ag)))) (fK (aC eqB (Yb (Yb (vE 8) (kE (A 0))) (kE (A 1))) (Yb (Yb (vE 8) (kE (A 1))) (kE (A 1)))) (aC eqB (slE (vE 10) noO (CK (kE (A 2)))) (vE 9))))
  (ifS (aC ltB (Yc iW (vE 7) (vE 3)) (Yb (vE 10) (kE (A 2))))
  (dY 4 (aU (aa (kE (B "gap")) (aa (vE 2) (aa (vE 3) (aa (vE 6) (aa (vE 7) ag)))))))
  aE)
  aE)
def gD:DS:=
 (aj (av 6 (Yb (vE 5) (kE (A 0))))
 (aj (av 7 (Yb (vE 5) (kE (A 1))))
 (aj (av 8 (dh (aa (Yb (Yb (vE 0) (kE (A 3))) (vE 2)) (aa (Yb (Yb (vE 0) (kE (A 3))) (vE 6)) ag))))
 (aj (av 9 (bF dw (aa (bF XU (aa (dh (aa (Yb (Yb (vE 8) (kE (A 0))) (kE (A 2))) (aa (Yb (Yb (vE 8) (kE (A 1))) (kE (A 2))) ag))) ag)) ag)))
 (d9 J (dz (Yb (vE 0) (kE (A 2)))) (gN 10)
  fb)))))
def C7:DS:=
 (aj (av 4 (dh ag))
 (aj (d9 J (dz (Yb (vE 1) (kE (A 1)))) (gN 5)
  gD)
 (XR (vE 4))))
def iH:SpF:=bw 11 4 C7
def uz:DS:=
 (aj (av 5 (Yb (Yb (vE 0) (kE (A 3))) (vE 2)))
 (aj (av 6 (Yb (Yb (vE 0) (kE (A 1))) (Yb (vE 5) (kE (A 2)))))
 (aj (av 7 (aq jJ (aa (vE 5) (aa (vE 3) ag))))
 (aj (av 8 (dh ag))
 (aj (ifS (orT (fK (aC eqB (Yb (Yb (vE 5) (kE (A 4))) (kE (A 0))) (kE (B "due"))) (aC k8 (vE 7) (kE C))) (fK (aC eqB (Yb (Yb (vE 5) (kE (A 4))) (kE (A 0))) (kE (B "asked"))) (aC ltB (vE 3) (Yb (Yb (vE 5) (kE (A 4))) (kE (A 1))))))
  (dY 8 (aU (aa (kE (B "astray")) (aa (vE 2) (aa (vE 3) ag)))))
  aE)
 (aj (ifS (aC gtB (vE 4) (Yb (Yb (vE 5) (kE (A 3))) (kE (A 3))))
  (dY 8 (aU (aa (kE (B "most")) (aa (vE 2) (aa (vE 3) ag)))))
  aE)
 (aj (ifS (orT (aC ltB (vE 4) (kE (A 1))) (aC gtB (Yc bh (vE 4) (Yb (Yb (vE 6) (kE (A 1))) (kE (A 0)))) (kE (A 0))))
  (dY 8 (aU (aa (kE (B "part")) (aa (vE 2) (aa (vE 3) ag)))))
  aE)
 (aj (ifS (aC ltB (vE 3) (Yc aI (Yb (Yb (Yb (vE 0) (kE (A 0))) (Yb (vE 5) (kE (A 1)))) (kE (A 1))) (Yb (vE 6) (kE (A 3)))))
  (dY 8 (aU (aa (kE (B "young")) (aa (vE 2) (aa (vE 3) ag)))))
  aE)
 (aj (ifS (fK (aC inB (kE (B "kilo")) (g8 J 1 [] (dz (Yb (vE 6) (kE (A 2)))) (gN 0) fM (Yb (vE 0) (kE (A 0))))) (aC k8 (aq cS (aa (Yb (vE 1) (kE (A 0))) (aa (Yb (vE 5) (kE (A 1))) (aa (vE 3) ag)))) (kE C)))
  (dY 8 (aU (aa (kE (B "weight")) (aa (vE 2) (aa (vE 3) ag)))))
  aE)
 (aj (av 9 (g8 J 1 [2] (dz (Yb (vE 1) (kE (A 1)))) (gN 0) (aC eqB (Yb (vE 0) (kE (A 0))) (vE 1)) (vE 0)))
 (aj (ifS (fK (aC iZ (vE 7) (kE C)) (aC gtB (bF cA (aa (g8 (U 9) 1 [5,7] (dz (vE 9)) (gN 0) (aC eqB (aq jJ (aa (vE 1) (aa (Yb (vE 0) (kE (A 1))) ag))) (vE 2)) (vE 0)) ag)) (kE (A 1))))
  (dY 8 (aU (aa (kE (B "twice")) (aa (vE 2) (aa (vE 7) ag)))))
  aE)
 (XR (vE 8)))))))))))))
def kX:SpF:=bw 10 5 uz
def ft:DS:=
 (aj (av 2 (Yc aI (vE 2) (aq kX (aa (vE 0) (aa (vE 1) (aa (vE 3) (aa (vE 4) (aa (vE 5) ag))))))))
 (aj (av 2 (Yc aI (vE 2) (aq iG (aa (vE 0) (aa (vE 1) (aa (Yb (Yb (Yb (vE 0) (kE (A 3))) (vE 3)) (kE (A 1))) (aa (Yb (Yb (Yb (vE 0) (kE (A 3))) (vE 3)) (kE (A 2))) (aa (vE 4) ag))))))))
 (av 2 (Yc aI (vE 2) (aq iH (aa (vE 0) (aa (vE 1) (aa (vE 3) (aa (vE 4) ag)))))))))
def vY:DS:=
 (aj (av 2 (dh ag))
 (aj (d9 J (dz (Yb (vE 1) (kE (A 1)))) (gT [3,4,5])
  ft)
 (XR (nu (vE 2)))))
def bA:SpF:=bw 6 2 vY
def rL:DS:=
 (XR (aU (aa (Yb (vE 0) (kE (A 0))) (aa (bF dw (aa (bF XU (aa (Yc g9 (Yb (vE 0) (kE (A 1))) (aU (aa (aU (aa (vE 1) (aa (vE 2) (aa (vE 3) ag)))) ag))) ag)) ag)) ag))))
def cj:SpF:=bw 4 4 rL
def jk:DS:=
 (aj (av 6 (Yc g9 (kE (A 1000)) (Yc b6 (kE (A 7)) (vE 5))))
 (aj (av 7 (Yc bh (aq ah (aa (vE 0) (aa (vE 6) ag))) (bF cA (aa (Yb (vE 1) (kE (A 3))) ag))))
 (aj (av 8 (Yb (Yb (vE 1) (kE (A 3))) (vE 7)))
 (aj (av 9 (aq dI (aa (vE 0) (aa (Yc g9 (vE 6) (kE (A 1))) (aa (vE 8) (aa (vE 3) ag))))))
 (aj (av 10 (Yb (Yb (Yb (Yb (vE 1) (kE (A 1))) (Yb (vE 8) (kE (A 2)))) (kE (A 1))) (kE (A 0))))
 (aj (av 11 (Yc b6 (vE 10) (Yc g9 (kE (A 1)) (Yc bh (aq ah (aa (vE 0) (aa (Yc g9 (vE 6) (kE (A 4))) ag))) (Yc cV (Yb (Yb (vE 8) (kE (A 3))) (kE (A 3))) (vE 10))))))
 (aj (av 12 (vE 4))
 (aj (ifS (aC eqB (Yc bh (Yc cV (aq ah (aa (vE 0) (aa (vE 6) ag))) (kE (A 8))) (kE (A 3))) (kE (A 0)))
  (ifS (aC A8 (aU (aa (Yb (vE 8) (kE (A 1))) (aa (Yc b6 (Yc cV (Yc cV (vE 9) (vE 3)) (kE (A 2))) (vE 3)) ag))) (aq dJ (aa (Yb (vE 4) (kE (A 0))) ag)))
  (aj (av 13 (aU (aa (Yb (vE 8) (kE (A 1))) (aa (Yc b6 (Yc cV (Yc cV (vE 9) (vE 3)) (kE (A 2))) (vE 3)) (aa (Yc g9 (kE (A 1)) (Yc bh (aq ah (aa (vE 0) (aa (Yc g9 (vE 6) (kE (A 3))) ag))) (kE (A 200)))) ag)))))
 (av 12 (aU (aa (bF dw (aa (bF XU (aa (Yc g9 (Yb (vE 4) (kE (A 0))) (aU (aa (vE 13) ag))) ag)) ag)) (aa (Yb (vE 4) (kE (A 1))) ag)))))
  aE)
  (ifS (aC A8 (aU (aa (vE 7) (aa (vE 9) ag))) (aq dJ (aa (Yb (vE 4) (kE (A 1))) ag)))
  (av 12 (aq cj (aa (vE 4) (aa (vE 7) (aa (vE 9) (aa (vE 11) ag))))))
  aE))
 (ifS (aC eqB (bF cA (aa (aq bA (aa (vE 1) (aa (vE 12) ag))) ag)) (kE (A 0)))
  (av 4 (vE 12))
  aE)))))))))
def C8:DS:=
 (aj (av 3 (aq d8 (aa (vE 0) ag)))
 (aj (av 4 (aU (aa (aU ag) (aa (aU ag) ag))))
 (aj (d9 J (cK (vE 2)) (gN 5)
  jk)
 (XR (vE 4)))))
def mF:SpF:=bw 14 3 C8
def mG:DS:=
 (aj (ifS (aC eqB (Yb (Yb (vE 0) (kE (A 4))) (kE (A 0))) (kE (B "asked")))
  (XR (kE (A 0)))
  aE)
 (XR (Yb (Yb (vE 0) (kE (A 4))) (kE (A 3)))))
def gf:SpF:=bw 1 1 mG
def fE:DS:=
 (aj (av 9 (Yc aI (Yb (vE 6) (kE (A 1))) (Yc b6 (vE 8) (Yb (vE 6) (kE (A 2))))))
 (aj (av 10 (kE (B "open")))
 (aj (ifS (aC ltB (vE 2) (Yc iW (vE 9) (Yb (vE 6) (kE (A 4)))))
  (av 10 (kE (B "ahead")))
  aE)
 (aj (ifS (aC gtB (vE 2) (Yc aI (vE 9) (Yb (vE 6) (kE (A 5)))))
  (av 10 (kE (B "missed")))
  aE)
 (aj (ifS (aC gtB (bF cA (aa (g8 (U 7) 1 [6,9] (dz (vE 7)) (gN 0) (jf leB leB (Yc iW (vE 2) (Yb (vE 1) (kE (A 4)))) (vE 0) (Yc aI (vE 2) (Yb (vE 1) (kE (A 5))))) (vE 0)) ag)) (kE (A 0)))
  (av 10 (kE (B "given")))
  aE)
 (ifS (aC eqB (vE 10) (vE 3))
  (dY 4 (aU (aa (vE 9) (aa (vE 5) (aa (vE 8) ag)))))
  aE))))))
def cT:DS:=
 (aj (av 6 (Yb (Yb (Yb (vE 0) (kE (A 3))) (vE 5)) (kE (A 4))))
 (aj (av 7 (g8 J 1 [5] (dz (Yb (vE 1) (kE (A 1)))) (gN 0) (aC eqB (Yb (vE 0) (kE (A 0))) (vE 1)) (Yb (vE 0) (kE (A 1)))))
 (d9 J (cK (aq gf (aa (Yb (Yb (vE 0) (kE (A 3))) (vE 5)) ag))) (gN 8)
  fE)))
def pL:DS:=
 (aj (av 4 (dh ag))
 (aj (d9 J (cK (bF cA (aa (Yb (vE 0) (kE (A 3))) ag))) (gN 5)
  cT)
 (XR (bF XU (aa (vE 4) ag)))))
def cX:SpF:=bw 11 4 pL
def C9:DS:=
 (aj (av 5 (Yc b6 (Yb (vE 0) (kE (A 1))) (vE 2)))
 (aj (av 6 (vE 3))
 (aj (ifS (aC gtB (Yb (vE 0) (kE (A 2))) (kE (A 0)))
  (aj (av 5 (Yc b6 (vE 5) (vE 1)))
 (av 6 (Yc b6 (vE 6) (Yb (vE 0) (kE (A 2))))))
  aE)
 (aj (av 7 (Yc b6 (Yc cV (vE 5) (Yc b6 (vE 6) (vE 4))) (vE 4)))
 (aj (av 8 (Yc iW (vE 5) (Yc b6 (vE 7) (vE 6))))
 (aj (ifS (orT (fK (aC eqB (Yb (vE 0) (kE (A 0))) (kE (B "up"))) (aC gtB (vE 8) (kE (A 0)))) (fK (aC eqB (Yb (vE 0) (kE (A 0))) (kE (B "near"))) (aC gtB (Yc b6 (kE (A 2)) (vE 8)) (Yc b6 (vE 6) (vE 4)))))
  (av 7 (Yc aI (vE 7) (vE 4)))
  aE)
 (aj (ifS (aC gtB (vE 7) (Yb (vE 0) (kE (A 3))))
  (av 7 (Yc b6 (Yc cV (Yb (vE 0) (kE (A 3))) (vE 4)) (vE 4)))
  aE)
 (XR (vE 7)))))))))
def iI:SpF:=bw 9 5 C9
def dU:DS:=
 (ifS (aC leB (Yb (vE 8) (kE (A 0))) (vE 3))
  (av 7 (vE 8))
  aE)
def sV:DS:=
 (aj (av 5 (Yb (Yb (vE 0) (kE (A 3))) (vE 2)))
 (aj (av 6 (aq cS (aa (Yb (vE 1) (kE (A 0))) (aa (Yb (vE 5) (kE (A 1))) (aa (vE 4) ag)))))
 (aj (ifS (fK (aC k8 (vE 6) (kE C)) (aC gtB (Yb (Yb (vE 5) (kE (A 3))) (kE (A 2))) (kE (A 0))))
  (XR (kE C))
  aE)
 (aj (av 7 (aU (aa (kE (A 0)) (aa (kE (A 1)) (aa (kE (A 1)) ag)))))
 (aj (d9 J (dz (Yb (vE 5) (kE (A 5)))) (gN 8)
  dU)
 (XR (aq iI (aa (Yb (vE 5) (kE (A 3))) (aa (vE 6) (aa (Yb (vE 7) (kE (A 1))) (aa (Yb (vE 7) (kE (A 2))) (aa (Yb (Yb (Yb (Yb (vE 0) (kE (A 1))) (Yb (vE 5) (kE (A 2)))) (kE (A 1))) (kE (A 0))) ag))))))))))))
def cG:SpF:=bw 9 5 sV
def cn:DS:=
 (aj (av 8 (aq cG (aa (vE 0) (aa (vE 1) (aa (vE 6) (aa (vE 7) (aa (vE 2) ag)))))))
 (aj (av 9 (dh (aa (aU (aa (kE (B "weight")) (aa (vE 6) (aa (vE 2) ag)))) ag)))
 (aj (ifS (aC iZ (vE 8) (kE C))
  (av 9 (aq bA (aa (vE 0) (aa (aq cj (aa (vE 1) (aa (vE 6) (aa (vE 2) (aa (vE 8) ag))))) ag))))
  aE)
 (ifS (aC eqB (bF cA (aa (vE 9) ag)) (kE (A 0)))
  (aj (dY 3 (aU (aa (vE 6) (aa (vE 7) (aa (vE 8) ag)))))
 (av 1 (aq cj (aa (vE 1) (aa (vE 6) (aa (vE 2) (aa (vE 8) ag)))))))
  (FP [9] (dY 4 (aU (aa (vE 6) (aa (vE 7) (aa (vE 9) ag))))))))))
def AF:DS:=
 (aj (av 3 (dh ag))
 (aj (av 4 (dh ag))
 (aj (d9 J (dz (aq cX (aa (vE 0) (aa (vE 1) (aa (vE 2) (aa (kE (B "open")) ag)))))) (gT [5,6,7])
  cn)
 (FP [3,4] (XR (aU (aa (vE 3) (aa (vE 4) ag))))))))
def gH:SpF:=bw 10 3 AF
def c6(rec:SpF):DS:=
 (aj (ifS (orT (l9 (bE (pH "tuple" (vE 1)))) (l9 (bE (pH "list" (vE 1)))))
  (aj (ifS (fK (l9 (bE (pH "tuple" (vE 1)))) (v8 (l9 (bE (pH "tuple" (vE 0))))))
  (XR (kE (.bl M)))
  aE)
 (aj (ifS (fK (l9 (bE (pH "list" (vE 1)))) (v8 (l9 (bE (pH "list" (vE 0))))))
  (XR (kE (.bl M)))
  aE)
 (aj (ifS (aC neB (bF cA (aa (vE 0) ag)) (bF cA (aa (vE 1) ag)))
  (XR (kE (.bl M)))
  aE)
 (XR (bF Bt (aa (g8 J 1 [0,1] (cK (bF cA (aa (vE 1) ag))) (gN 0) fM (aq rec (aa (Yb (vE 1) (vE 0)) (aa (Yb (vE 2) (vE 0)) ag)))) ag))))))
  aE)
 (aj (ifS (aC k8 (vE 1) (kE C))
  (XR (bE (aC k8 (vE 0) (kE C))))
  aE)
 (aj (ifS (l9 (bE (pH "str" (vE 1))))
  (XR (bE (fK (pH "str" (vE 0)) (aC eqB (vE 0) (vE 1)))))
  aE)
 (XR (bE (fK (pH "int" (vE 0)) (fK (v8 (pH "bool" (vE 0))) (aC eqB (vE 0) (vE 1)))))))))
def aD:Nat->SpF
 |0=>bw 2 2 Hj
 |n+1=>bw 2 2 (c6 (aD n))
def ja:SpF:=aD 6
def AG:DS:=
 (aj (av 4 (Yb (Yb (vE 1) (kE (A 3))) (Yc bh (aq ah (aa (vE 0) (aa (Yc aI (kE (A 2000)) (Yc b6 (kE (A 5)) (vE 3))) ag))) (bF cA (aa (Yb (vE 1) (kE (A 3))) ag)))))
 (aj (av 5 (aq dI (aa (vE 0) (aa (Yc aI (kE (A 2001)) (Yc b6 (kE (A 5)) (vE 3))) (aa (vE 4) (aa (aq d8 (aa (vE 0) ag)) ag))))))
 (ifS (v8 (l9 (aq ja (aa (aq iD (aa (vE 1) (aa (vE 2) (aa (vE 5) ag)))) (aa (aq gH (aa (vE 1) (aa (vE 2) (aa (vE 5) ag)))) ag)))))
  (XR (kE (.bl M)))
  aE)))
def SG:DS:=
 (aj (av 1 (aq j9 (aa (vE 0) ag)))
 (aj (av 2 (aq mF (aa (vE 0) (aa (vE 1) (aa (kE (A 9)) ag)))))
 (aj (d9 J (cK (kE (A 4))) (gN 3)
  AG)
 (XR (kE (.bl O))))))
def uA:SpF:=bw 6 1 SG
end Den
namespace Maths
open DL.D renaming int→E,tup→N,lst→Q,str→X,dT→Yw,bl→Yx,fl→Yy,non→YA
open DL.Slot renaming sh→Z,own→Y,lok→Yz
open DL.Out renaming nx→P
open DL Den PySem
abbrev Os:=Option Slot
def AH(ns:List Int)(k:Int):Int:=if ns.length=0 then 0 else ns[(k%ns.length).toNat]?.getD 0
def mv(ns:List Int)(k:Int):Int:=(AH ns k%1000003*48271+k*k*7919+1)%65521
def mx(ns:List Int)(k:Int):Int:=mv ns k*mv ns k%65519
def SH(ns:List Int)(k:Int):0<=mx ns k/\mx ns k<65519:=⟨GcG _ (by lia),GcH _ (by lia)⟩
def mxm(ns:List Int)(k m:Int)(h:0<m):0<=mx ns k%m/\mx ns k%m<m:=⟨GcG _ (by lia),GcH _ h⟩
def LP{ns:List Int}(h:0<ns.length):atD ns (k%ns.length)=U (ns[(k%ns.length).toNat]?.getD 0):=by
 unfold atD;have h1:0<=k%(ns.length:Int):=GcG _ (by lia);have h2:k%(ns.length:Int)<ns.length:=GcH _ (by lia);simp_all
def bq(h: -18446744073709551616<i:=by lia)(h2:i<18446744073709551616:=by lia):aT i j=O:=by
 unfold aT;lia
def bJ(h: -18446744073709551616<j:=by lia)(h2:j<18446744073709551616:=by lia):aT i j=O:=by
 unfold aT;lia
def aP(ns:List Int)(k:Int)(hk:0<=k:=by lia)(xP:k<1000000:=by lia):ah [.scr ns,E k]=U (E (mx ns k)):=by
 have v1:0<=mv ns k:=GcG _ (by lia);have v2:mv ns k<65521:=GcH _ (by lia);have e1:aT k k=O:=bq;have e2:∀i,aT i 48271=O:=λi=>bJ;have e3:∀i,aT i 7919=O:=λi=>bJ;have e4:aT (mv ns k) (mv ns k)=O:=bq;unfold ah pb;by_cases h:0<ns.length
 .have hc:AH ns k=ns[(k%ns.length).toNat]?.getD 0:=by unfold AH;rw[Gah (by lia)]
  have h' :(0:Int)<ns.length:=by lia
  have e5:(ns[(k%↑ns.length).toNat]?.getD 0%1000003*48271+k*k*7919+1)%65521=mv ns k:=by unfold mv;rw[hc]
  simp[h,LP h,e1,e2,e3,e5,e4,mx]
 .have hc:AH ns k=0:=by unfold AH;rw[Gan (by lia)]
  have h' :¬(0:Int)<ns.length:=by lia
  have e5:(k*k*7919+1)%65521=mv ns k:=by unfold mv;rw[hc];simp
  simp[h,e1,e2,e3,e5,e4,mx]
theorem kA{p:D->Prop}(hp:∀d,p d->d.imm=O):∀{ds},(∀d∈ds,p d)->aB ds=O
 |[],_=>rfl
 |d::ds,h=>by
  simp[hp d (h d Gaj),kA hp λx hx=>h x (Gaf _ hx)]
def ae(h:f env=U (P e)):aj f g env=g e:=by simp[h]
def vZ(h:f env=U (.ret d)):aj f g env=U (.ret d):=by simp[h]
def aN{ds:List D}(hl:ds.length=np)(h:body (fu n ds)=U (.ret d)):bw n np body ds=U d:=by
 unfold bw;rw[Gan hl,h];rfl
def PL(h:t env=U O):ifS t f g env=f env:=by simp[h]
def b8(h1: -4611686018427387904<=i:=by lia)(h2:i<4611686018427387904:=by lia):aW i=O:=by
 unfold aW;rw[Gai];exact⟨GaD h1,GaD h2⟩
theorem cD(I:Nat->DL.Env->Prop):∀ds k env,I k env->(∀i d e,ds[i]? =U d->I (k+i) e->∃e1 e2,g d e=U e1/\body e1=U (P e2)/\I (k+i+1) e2)->∃e,XS g body ds env=U (P e)/\I (k+ds.length) e
 |[],k,env,h,_=> ⟨env,rfl,h⟩
 |d::ds,k,env,h,st=>by
  obtain⟨e1,e2,h1,h2,h3⟩:=st 0 d env rfl h;obtain⟨e,h4,h5⟩:=cD I ds (k+1) e2 h3 λi d' e' hd hI=>by
   have:=st (i+1) d' e' (by simpa using hd) (by rw[show k+(i+1)=k+1+i by lia];exact hI);rw[show k+(i+1)+1=k+1+i+1 by lia] at this;exact this
  refine⟨e,by simp[h1,h2,h4], ?_⟩;rw[show k+(d::ds).length=k+1+ds.length by simp;lia];exact h5
def b9(h:(aG lo n)[i]? =U d):i<n/\d= E (lo+i):=by
 unfold aG at h;rw[Gap] at h;by_cases hi:i<n
 .simp_all
 .simp_all
def bV:(aG lo n).length=n:=by simp[aG]
theorem fJ{α:Type}(zp:α->D)(C:DL.Env->Prop)(p:α->Bool)(r:α->D):∀(xs:List α) e,C e->
  (∀x∈xs,∀e,C e->∃e',g (zp x) e=U e' /\C e' /\t e' =U (p x)/\(p x=O->∃k,f e' =U ⟨k,r x⟩/\RV.free ⟨k,r x⟩=O))->cO g t f (xs.map zp) e=U ((xs.filter p).map r)
 |[],e,_,_=>rfl
 |d::ds,e,h,st=>by
  obtain⟨e',h1,h2,h3,h4⟩:=st d Gaj e h;have ih:=fJ zp C p r ds e' h2 λd' hd=>st d' (Gaf _ hd);cases q:p d with
  |false=>simp[h1,h3,q,ih]
  |true=>
   obtain⟨k,h5,h6⟩:=h4 q;simp_all
def dW{α:Type}(zp:α->D)(C:DL.Env->Prop)(r:α->D)(xs:List α)(e:DL.Env)(h:C e)
  (st:∀x∈xs,∀e,C e->∃e',g (zp x) e=U e' /\C e' /\∃k,f e' =U ⟨k,r x⟩/\RV.free ⟨k,r x⟩=O):cO g fM f (xs.map zp) e=U (xs.map r):=by
 have:=fJ zp C (λ_=>O) r xs e h (λx hx e he=>by
  obtain⟨e',h1,h2,h3⟩:=st x hx e he;exact⟨e',h1,h2,rfl,λ_=>h3⟩)
 rw[List.filter_eq_self.mpr λ_ _=>rfl] at this;exact this
def uB(bs:List Bool):qy (bs.map Yx)=U bs:=by
 induction bs with
 |nil=>rfl
 |cons b bs ih=>simp[ih]
def FV(bs:List Int):CJ (bs.map E)=U bs:=by
 induction bs with
 |nil=>rfl
 |cons b bs ih=>simp[ih]
@[simp] theorem J7(bs:List Bool):anyS [Q (bs.map Yx)]=U ⟨.c,Yx (bs.any id)⟩:=by
 simp[anyS,one,jw,uB]
@[simp] theorem AI(bs:List Bool):Bt [Q (bs.map Yx)]=U ⟨.c,Yx (bs.all id)⟩:=by
 simp[Bt,one,jw,uB]
def Ca(n:Nat)(hs:List Int):(hs.map E).all (aM n)=O:=by
 induction hs with
 |nil=>rfl
 |cons b bs ih=>simp[ih]
def nA(hs:List Int):aB (hs.map E)=O:=by
 induction hs with
 |nil=>rfl
 |cons b bs ih=>simp[ih]
inductive Cap where
 |flat (h t:Int)
 |kilo (h t p:Int)
 |ever (t:Int)
noncomputable def bB:Cap->D
 | .flat h t=> N [X "flat",E h,E t]
 | .kilo h t p=> N [X "kilo",E h,E t,E p]
 | .ever t=> N [X "ever",E t]
def lO:Cap->Prop
 | .flat h t=>1<=h/\1<=t/\t<=6200000
 | .kilo h t p=>1<=h/\1<=t/\t<=3100000/\1<=p/\p<=100
 | .ever t=>1<=t/\t<=6200000
def rM(c:Cap):(bB c).imm=O:=by cases c<;>simp[bB]
def nB(cs:List Cap):aB (cs.map bB)=O:=by
 induction cs with
 |nil=>rfl
 |cons c cs ih=>
  have:=rM c;simp_all
def jm{a b A B:Int}(h0:0<=a)(h1:a<=A)(h2:0<=b)(h3:b<=B):a*b<=A*B:=
 GdM (Int.mul_le_mul_of_nonneg_right h1 h2) (Int.mul_le_mul_of_nonneg_left h3 (by lia))
def fF{a b:Int}(h0:1<=a)(h1:1<=b):1<=a*b:=by
 have:=Int.mul_le_mul h0 h1 (by lia) (by lia);lia
def aV{d:D}(h:d.imm=O):ju d=⟨.c,d⟩:=by
 unfold ju;have:d.top=M:=by cases d<;>simp at h<;>rfl
 rw[this]
 rfl
structure fW where
 name:Str
 part:Int
 more:List Int
 az:List Cap
 young:Int
def aK(s:fW):D:= N [X s.name,N ((s.part::s.more).map E),N (s.az.map bB),E s.young]
structure gE(s:fW):Prop where
 p1:1<=s.part
 p2:s.part<=100000
 cl:s.az.length<=4
 ok:∀c∈s.az,lO c
 y0:0<=s.young
def gk(s:fW):(aK s).imm=O:=by
 have h1:=nB s.az;have h2:=nA (s.part::s.more);simp[aK] at h2⊢;exact⟨h2,h1⟩
theorem fX{α:Type}{f:α->D}(h:∀a,(f a).imm=O):∀l:List α,aB (l.map f)=O
 |[]=>rfl
 |a::l=>by
  have h1:=h a;have h2:=fX h l;simp[h1,h2]
noncomputable def XZ(t:Int×Int×Int):D:= N [E t.1,E t.2.1,E t.2.2]
def w5(t:Int×Int×Int):(XZ t).imm=O:=by simp[XZ]
noncomputable def Cb(b:Int×Int×Int):Int×Int:=(b.1,b.2.1)
def jn(n:Int)(bs:List (Int×Int×Int)):Prop:=(∀b∈bs,0<=b.1/\b.1<=b.2.1/\b.2.1<n/\1<=b.2.2)/\(bs.map Cb).Nodup
def kB(i j:Int)(bs:List (Int×Int×Int)):Prop:=∀b∈bs,b.1<i\/(b.1=i/\b.2.1<j)
def FW(f:α->β)(xs:List α)(i:Int)(y:α):(iA xs i y).map f=iA (xs.map f) i (f y):=by
 unfold iA;simp
inductive mH where
 |asked (b:Int)
 |due (b e m ea la:Int)
noncomputable def cu:mH->D
 | .asked b=> N [X "asked",E b]
 | .due b e m ea la=> N [X "due",E b,E e,E m,E ea,E la]
def fY:mH->Prop
 | .asked b=>0<=b
 | .due b e m ea la=>1<=e/\e<=12000000/\(1<=m/\m<=60)/\0<=ea/\0<=la/\ea+la<e/\ea<=b/\b<=30000000
def uC(u:mH):(cu u).imm=O:=by cases u<;>simp[cu]
structure XW where
 name:Str
 ay:Int
 ax:Int
 way:Str
 top:Int
 per:Int
 most:Int
 aS:mH
 wz:List D
def ao(o:XW):D:= N [X o.name,E o.ay,E o.ax,N [X o.way,E o.top,E o.per,E o.most],cu o.aS,N o.wz]
structure nC(ng WG:Nat)(o:XW):Prop where
 g0:0<=o.ay
 g1:o.ay<ng
 s0:0<=o.ax
 s1:o.ax<WG
 du:fY o.aS
 ti:aB o.wz=O
def cE(o:XW)(h:aB o.wz=O):(ao o).imm=O:=by
 have:=uC o.aS;simp[ao,this,h]
structure World where
 bN:List (Str×Int)
 au:List fW
 br:List (Int×Int×Int)
 XN:List XW
noncomputable def bf(g:Str×Int):D:= N [X g.1,E g.2]
def aH(w:World):D:= N [N (w.bN.map bf),N (w.au.map aK),N (w.br.map XZ),N (w.XN.map ao)]
structure aL(w:World):Prop where
 g1:1<=w.bN.length
 g6:w.bN.length<=6
 s1:1<=w.au.length
 s6:w.au.length<=6
 so:∀s∈w.au,gE s
 b12:w.br.length<=12
 bo:jn w.au.length w.br
 o1:1<=w.XN.length
 o12:w.XN.length<=12
 oo:∀o∈w.XN,nC w.bN.length w.au.length o
def rN(g:Str×Int):(bf g).imm=O:=by simp[bf]
abbrev Tr:=Int×Int×Int
noncomputable def kvT(ts:List Tr):List (List Key×D):=ts.map λt=>([Sum.inl t.1,Sum.inl t.2.1],E t.2.2)
def uD(ts:List Tr):cP (kvT ts)=ts.map λt=>N [N [E t.1,E t.2.1],E t.2.2]:=by
 unfold cP kvT;rw[GaN]
 rfl
def DF(ts:List Tr):XX (ts.map XZ)=O:=by
 have h1:(ts.map XZ).all (lu 1)=O:=by
  simp[XZ,lu,tyD,lj]
 have h2:((ts.map XZ).all λx=>(ts.map XZ).all λy=>A7 x y)=O:=by
  rw[Gbx,Gaq];intro p _;simp only[GbL];rw[Gbx,Gaq];simp[XZ,A7,lH,tyD]
 unfold XX;rw[h1,h2];simp
noncomputable def Cc:D->Tr
 | N [E a,E b,E c]=>(a,b,c)
 |_=>(0,0,0)
def LQ(ts:List Tr)(hl:ts.length<64):∃rs:List Tr,XU [Q (ts.map XZ)]=U ⟨.tn,Q (rs.map XZ)⟩/\rs.Perm ts:=by
 have hp:=bT (ts.map XZ);have all:∀x∈bH (ts.map XZ),∃p,x=XZ p:=λx hx=>by
  obtain⟨p,_,e⟩:=Gas.mp (hp.mem_iff.mp hx);exact⟨p,e.symm⟩
 have e:bH (ts.map XZ)=((bH (ts.map XZ)).map Cc).map XZ:=by
  rw[GaN]
  conv=>lhs;rw[<-GbS (bH (ts.map XZ))]
  apply GaO;intro x hx;obtain⟨p,rfl⟩:=all x hx
  rfl
 refine⟨(bH (ts.map XZ)).map Cc, ?_, ?_⟩
 .rw[<-e];have h1:((ts.map XZ).length<64):=by simpa using hl
  unfold XU one jw;simp only[Option.bind_some];rw[DF,GaD h1];rfl
 .have:=GcZ Cc hp;rw[GaN] at this;have e2:ts.map (Cc∘XZ)=ts:=by
   conv=>rhs;rw[<-GbS ts]
   exact GaO λp _=>rfl
  rw[e2] at this;exact this
def bK(ts:List Tr):aB (ts.map XZ)=O:=fX w5 ts
def bQ(n:Nat)(gv:List Tr):Prop:=∀t∈gv,0<=t.1/\t.1<n
noncomputable def bZ:Option Int->D
 |some k=> E k
 |none=> YA
@[simp] theorem FX:bZ (U k)= E k:=rfl
@[simp] theorem uE:bZ J= YA:=rfl
def bY(o:Option Int):(bZ o).imm=O:=by cases o<;>rfl
noncomputable def k9(b e m ea la h:Int):Option Int:=
 if(0<=(h -(b -ea))/e/\(h -(b -ea))/e<m)/\h -(b -ea)-(h -(b -ea))/e*e<=ea+la then U ((h -(b -ea))/e) else J
def bM:mH->Int->Option Int
 | .asked _,_=>J
 | .due b e m ea la,h=>k9 b e m ea la h
def pz{o:XW}(ok:fY o.aS):iB [ao o,E h]=U (bZ (bM o.aS h)):=by
 obtain⟨name,g,st,way,top,per,most,u,ts⟩:=o;unfold ao;cases u with
 |asked b=>
  unfold iB rH cu bM;simp
 |due b e m ea la=>
  obtain⟨e1,e2,hm,a0,l0,al,ab,b3⟩:=ok;have p1:∀i,aT i e=O:=λi=>bJ;have p2:0<e/\e<1073741824:=by lia
  unfold iB rH cu bM k9;simp[p1,p2];generalize hk:(h -(b -ea))/e=k;by_cases c1:0<=k
  .by_cases c2:k<m
   .by_cases c3:h -(b -ea)-k*e<=ea+la
    .have c4:¬ea+la<h -(b -ea)-k*e:=by lia
     simp[c1,c2,c3,c4]
    .have c4:ea+la<h -(b -ea)-k*e:=by lia
     simp[c1,c3,c4]
   .simp[c2]
  .simp[c1]
def bC:mH->Int->Bool
 | .asked b,h=>decide (h<b)
 | .due b e m ea la,h=>(k9 b e m ea la h).isNone
def AJ{o:XW}(ok:fY o.aS):kx [ao o,E h]=U (Yx (bC o.aS h)):=by
 have d:=pz (h:=h) ok;obtain⟨name,g,st,way,top,per,most,u,ts⟩:=o;unfold ao at d⊢;cases u with
 |asked b=>
  unfold kx rJ cu bC;simp
 |due b e m ea la=>
  unfold bM at d;unfold kx rJ bC;unfold cu at d⊢;have rv:=aV (bY (k9 b e m ea la h));simp[d];cases k9 b e m ea la h<;>simp
noncomputable def wgt(g h:Int):List Tr->Option Int->Option Int
 |[],f=>f
 |t::ts,f=>wgt g h ts (if t.1=g/\t.2.1<=h then U t.2.2 else f)
theorem kC(st:∀(t:Tr) (f:Option Int),body [U (Z wd),U (Z (E g)),U (Z (E h)),U (Z (bZ f)),U (Z (XZ t))]=U (P [U (Z wd),U (Z (E g)),U (Z (E h)),U (Z (bZ (if t.1=g/\t.2.1<=h then U t.2.2 else f))),U (Z (XZ t))])):
  ∀(ts:List Tr) (f:Option Int) (x4:Os),∃y4,XS (gN 4) body (ts.map XZ) [U (Z wd),U (Z (E g)),U (Z (E h)),U (Z (bZ f)),x4]=U (P [U (Z wd),U (Z (E g)),U (Z (E h)),U (Z (bZ (wgt g h ts f))),y4])
 |[],f,x4=> ⟨x4,by simp[wgt]⟩
 |t::ts,f,x4=>by
  obtain⟨y4,e⟩:=kC st ts (if t.1=g/\t.2.1<=h then U t.2.2 else f) (U (Z (XZ t)));refine⟨y4, ?_⟩;have e1:=st t f;rw[Gax];simp only[XS,gN,GaG,GaH,Option.bind_some,e1];exact e
def iJ{ws:List Tr}:dA [N (ws.map XZ),E g,E h]=U (bZ (wgt g h ws J)):=by
 obtain⟨y4,e⟩:=kC (body:=iC) (wd:= N (ws.map XZ)) (g:=g) (h:=h) (λt f=>by
  unfold iC XZ;by_cases c1:t.1=g
  .by_cases c2:t.2.1<=h
   .simp[c1,c2]
   .simp[c1,c2]
  .simp[c1]) ws J J
 rw[uE] at e;have im:=bY (wgt g h ws J);refine aN rfl ?_;refine(ae (by simp;rfl)).trans ?_;refine(ae (by simp[e];rfl)).trans ?_;simp[im]
noncomputable def cF:Cap->Option Int->Option Int
 | .ever t,_=>U t
 | .flat _ t,_=>U t
 | .kilo _ t p,w=>w.map λw=>w*t/p
def Cd(ok:lO c):j6 [bB c,bZ w]=U (bZ (cF c w)):=by
 cases c with
 |ever t=>unfold j6 nz bB cF;simp
 |flat h t=>unfold j6 nz bB cF;simp
 |kilo h t p=>
  obtain⟨h1,t1,t2,p1,p2⟩:=ok;cases w with
  |none=>unfold j6 nz bB cF;simp
  |some w=>
   have mm:aT w t=O:=bJ;have pp:0<p/\p<1073741824:=by lia
   unfold j6 nz bB cF;simp[mm,pp]
noncomputable def bI:Cap->Bool
 | .kilo _ _ _=>O
 |_=>M
def FY{s:fW}(hc:s.az.length<=4):dR [aK s]=U (Yx (s.az.any bI)):=by
 have c:=dW (g:=gN 0) (f:=bE (aC eqB (Yb (vE 0) (kE (E 0))) (kE (X "kilo")))) bB (λenv=>∃y,env=[y]) (λc=> Yx (bI c)) s.az [J] ⟨J,rfl⟩ (by
  rintro c hc env ⟨y,rfl⟩;refine⟨_,rfl,⟨_,rfl⟩,.c, ?_,rfl⟩;cases c<;>simp[bB,bI])
 have z:(s.az.map bB).length<=16777216:=by rw[Gae];lia
 have e2:s.az.map (λc=>Yx (bI c))=(s.az.map bI).map Yx:=by rw[GaN];rfl
 rw[e2] at c;have an:((s.az.map bI).any id)=s.az.any bI:=by rw[Gdn];rfl
 unfold dR jH aK;generalize s.az.map bB=C at*;rw[<-an];generalize s.az.map bI=bs at*;simp[af,DL.XT,c,z]
def gK{ws:List Tr}:cS [N (ws.map XZ),E g,E h]=U (bZ (wgt g h ws J)):=by
 obtain⟨y4,e⟩:=kC (body:=gJ) (wd:= N (ws.map XZ)) (g:=g) (h:=h) (λt f=>by
  unfold gJ XZ;by_cases c1:t.1=g
  .by_cases c2:t.2.1<=h
   .simp[c1,c2]
   .simp[c1,c2]
  .simp[c1]) ws J J
 rw[uE] at e;have im:=bY (wgt g h ws J);refine aN rfl ?_;refine(ae (by simp;rfl)).trans ?_;refine(ae (by simp[e];rfl)).trans ?_;simp[im]
abbrev Flt:=Str×List Int
noncomputable def ai(f:Flt):D:= N (X f.1::f.2.map E)
noncomputable def kk(b:Bool)(x:Str):List Str:=if b then[x] else[]
def nD{L:List Str}(ht:t [e0,e1,e2,e3,e4,e5,e6,e7,U (Y (Q (L.map X)))]=U b)(hl:L.length<1000):
  ifS t (dY 8 (kE (X x))) aE [e0,e1,e2,e3,e4,e5,e6,e7,U (Y (Q (L.map X)))]=U (P [e0,e1,e2,e3,e4,e5,e6,e7,U (Y (Q ((L++kk b x).map X)))]):=by
 have z:(L.map X).length<16777216:=by rw[Gae];lia
 have e:(L++kk b x).map X=L.map X++(kk b x).map X:=by rw[GaC]
 rw[e];cases b with
 |true=>
  generalize L.map X=XM at*;simp[ht,kk,af,z]
 |false=>
  simp[ht,kk]
def jK(o:XW)(s:fW)(zq:Int)(ws:List Tr)(t:Tr):List Str:=
 kk (bC o.aS t.2.1) "astray"++kk (decide (o.most<t.2.2)) "most"++kk (decide (t.2.2<1)||decide (¬t.2.2%s.part=0)) "part"++kk (s.az.any bI&&(wgt o.ay t.2.1 ws J).isNone) "weight"++kk (decide (t.2.1<zq+s.young)) "young"
def cH(b:Bool)(x:Str):(kk b x).length<=1:=by cases b<;>simp[kk]
def FZ{K:List Str}:cO (gN 0) fM (aU (aa (vE 0) (aa (vE 1) (aa (vE 2) ag)))) (K.map X) [J,U (Z (E n)),U (Z (E h))]=U (K.map λk=>ai (k,[n,h])):=by
 refine dW X (λenv=>∃y,env=[y,U (Z (E n)),U (Z (E h))]) (λk=>ai (k,[n,h])) K _ ⟨J,rfl⟩ ?_;rintro k hk env ⟨y,rfl⟩;refine⟨_,rfl,⟨_,rfl⟩,.c, ?_,rfl⟩;simp[af,ai]
def bW(fs:List Flt):aB (fs.map ai)=O:=fX (λf=>by
 have:=nA f.2;simp[ai,this]) fs
def PM{o:XW}{ws:List Tr}{t:Tr}(hO:atD XJ t.1=U (ao o))(du:fY o.aS)(hS:atD B o.ax=U (aK s))(so:gE s)(hG:atD A o.ay=U (bf gu))(im:(ao o).imm=O):
  f7 [N [N A,N B,N C,N XJ],N (ws.map XZ),XZ t]=U (Q ((jK o s gu.2 ws t).map λk=>ai (k,[t.1,t.2.1]))):=by
 have ea:=AJ (h:=t.2.1) du;have eg:=FY (s:=s) so.cl;have ew:=iJ (ws:=ws) (g:=o.ay) (h:=t.2.1);have sp:=so.p1;have is:=gk s;obtain⟨n,h,a⟩:=t;dsimp only at*;have xI :=aV (bY (wgt o.ay h ws J));generalize hW:ws.map XZ=W at*;have p1:ixD (ao o) (E 3)=U (N [X o.way,E o.top,E o.per,E o.most]):=rfl;have p2:ixD (ao o) (E 1)=U (E o.ay):=rfl;have p3:ixD (ao o) (E 2)=U (E o.ax):=rfl;have p4:ixD (aK s) (E 1)=U (N (E s.part::s.more.map E)):=rfl;have p5:ixD (aK s) (E 3)=U (E s.young):=rfl;have p6:ixD (bf gu) (E 1)=U (E gu.2):=rfl;generalize ao o=OD at*;generalize aK s=SD at*;generalize bf gu=GD at*;have zG :0<s.part:=by lia
 refine aN rfl ?_;unfold lM XZ;refine(ae (by simp[fu];rfl)).trans ?_;refine(ae (e:=[U (Z (N [N A,N B,N C,N XJ])),U (Z (N W)),U (Z (N [E n,E h,E a])),U (Z (E n)),U (Z (E h)),J,J,J,J]) (by simp)).trans ?_;refine(ae (e:=[U (Z (N [N A,N B,N C,N XJ])),U (Z (N W)),U (Z (N [E n,E h,E a])),U (Z (E n)),U (Z (E h)),U (Z (E a)),J,J,J]) (by simp)).trans ?_;refine(ae (by simp[hO,im];rfl)).trans ?_;refine(ae (by simp[p3,hS,is];rfl)).trans ?_;refine(ae (e:=[U (Z (N [N A,N B,N C,N XJ])),U (Z (N W)),U (Z (N [E n,E h,E a])),U (Z (E n)),U (Z (E h)),U (Z (E a)),U (Z OD),U (Z SD),U (Y (Q (([]:List Str).map X)))]) (by simp[af])).trans ?_;refine(ae (nD (b:=bC o.aS h) (by simp[ea]) (by simp))).trans ?_;refine(ae (nD (b:=decide (o.most<a)) (by simp[p1]) (by have:=cH (bC o.aS h) "astray";simp;lia))).trans ?_;refine(ae (nD (b:=decide (a<1)||decide (¬a%s.part=0)) ?_ (by have:=cH (bC o.aS h) "astray";have:=cH (decide (o.most<a)) "most";simp;lia))).trans ?_
 .by_cases c:a<1
  .simp[c]
  .by_cases c2:a%s.part=0
   .simp[c,p4,zG,neB,c2]
   .simp[c,p4,zG,neB,c2]
 refine(ae (nD (b:=s.az.any bI&&(wgt o.ay h ws J).isNone) ?_ (by have:=cH (bC o.aS h) "astray";have:=cH (decide (o.most<a)) "most";have:=cH (decide (a<1)||decide (¬a%s.part=0)) "part";simp only[Gal,Gbi];lia))).trans ?_
 .generalize s.az.any bI=bk at*;cases bk with
  |false=>simp[eg]
  |true=>
   simp[eg,p2,ew,xI];cases wgt o.ay h ws J<;>simp[k8,dq]
 refine(ae (nD (b:=decide (h<gu.2+s.young)) (by simp[p2,hG,p6,p5]) (by have:=cH (bC o.aS h) "astray";have:=cH (decide (o.most<a)) "most";have:=cH (decide (a<1)||decide (¬a%s.part=0)) "part";have:=cH (s.az.any bI&&(wgt o.ay h ws J).isNone) "weight";simp only[Gal,Gbi];lia))).trans ?_;have cm:=FZ (K:=[]++kk (bC o.aS h) "astray"++kk (decide (o.most<a)) "most"++kk (decide (a<1)||decide (¬a%s.part=0)) "part"++kk (s.az.any bI&&(wgt o.ay h ws J).isNone) "weight"++kk (decide (h<gu.2+s.young)) "young") (n:=n) (h:=h);have hK:[]++kk (bC o.aS h) "astray"++kk (decide (o.most<a)) "most"++kk (decide (a<1)||decide (¬a%s.part=0)) "part"++kk (s.az.any bI&&(wgt o.ay h ws J).isNone) "weight"++kk (decide (h<gu.2+s.young)) "young"=jK o s gu.2 ws (n,h,a):=by
  unfold jK;rw[GbK]
 have eL:([]++kk (bC o.aS h) "astray"++kk (decide (o.most<a)) "most"++kk (decide (a<1)||decide (¬a%s.part=0)) "part"++kk (s.az.any bI&&(wgt o.ay h ws J).isNone) "weight"++kk (decide (h<gu.2+s.young)) "young").length<=5:=by
  have:=cH (bC o.aS h) "astray";have:=cH (decide (o.most<a)) "most";have:=cH (decide (a<1)||decide (¬a%s.part=0)) "part";have:=cH (s.az.any bI&&(wgt o.ay h ws J).isNone) "weight";have:=cH (decide (h<gu.2+s.young)) "young";simp only[Gal,Gbi];lia
 rw[hK] at cm eL⊢;have fi:=bW ((jK o s gu.2 ws (n,h,a)).map λk=>(k,[n,h]));rw[GaN] at fi;have fi' :aB ((jK o s gu.2 ws (n,h,a)).map λk=>ai (k,[n,h]))=O:=fi;generalize jK o s gu.2 ws (n,h,a)=KL at*;have z:(KL.map X).length<=16777216:=by rw[Gae];lia
 generalize KL.map X=XM at*;simp[-cO,af,DL.XT,df,cm,z,fi']
noncomputable def atT(o h:Int)(t:Tr):Bool:=decide (t.1=o/\t.2.1=h)
def nE(ts:List Tr)(o h v:Int):List Tr:=if ts.any (atT o h) then ts.map (λt=>if atT o h t then(o,h,v) else t) else ts++[(o,h,v)]
def iK(ts:List Tr)(o h:Int):Int:=((ts.find? (atT o h)).map (·.2.2)).getD 0
def DH(o h:Int)(t:Tr):decide (([Sum.inl t.1,Sum.inl t.2.1]:List Key)=[Sum.inl o,Sum.inl h])=atT o h t:=by
 unfold atT;simp
def mI(ts:List Tr)(o h v:Int):DL.put (kvT ts) [Sum.inl o,Sum.inl h] (E v)=kvT (nE ts o h v):=by
 unfold DL.put nE kvT;have e:((ts.map λt=>(([Sum.inl t.1,Sum.inl t.2.1]:List Key),E t.2.2)).any λkv=>decide (kv.1=[Sum.inl o,Sum.inl h]))=ts.any (atT o h):=by
  rw[Gdn];congr 1
  funext t
  exact DH o h t
 rw[e];cases ts.any (atT o h) with
 |true=>
  simp only[Gdo];rw[GaN,GaN];refine GaO λt _=> ?_;simp only[Function.comp];by_cases c:t.1=o/\t.2.1=h
  .have e1:([Sum.inl t.1,Sum.inl t.2.1]:List Key)=[Sum.inl o,Sum.inl h]:=by rw[c.1,c.2]
   have e2:atT o h t=O:=GaD c;simp_all
  .have e1:¬([Sum.inl t.1,Sum.inl t.2.1]:List Key)=[Sum.inl o,Sum.inl h]:=λz=>by simp at z;exact c z
   have e2:¬atT o h t=O:=λz=>c (Gar z);rw[Gah e1,Gah e2]
 |false=>simp
def AK(ts:List Tr)(o h:Int):look (kvT ts) [Sum.inl o,Sum.inl h]=(ts.find? (atT o h)).map λt=>E t.2.2:=by
 unfold look kvT;rw[List.find?_map];have e:((λkv:List Key×D=>decide (kv.1=[Sum.inl o,Sum.inl h]))∘λt:Tr=>(([Sum.inl t.1,Sum.inl t.2.1]:List Key),E t.2.2))=atT o h:=by
  funext t
  exact DH o h t
 rw[e];cases ts.find? (atT o h)<;>rfl
def nF(ts:List Tr)(o h v:Int):(nE ts o h v).length<=ts.length+1:=by
 unfold nE;split<;>simp
def twU(ts:List Tr)(n:Int):Option Int->List Tr
 |some k=>nE ts n k (iK ts n k+1)
 |none=>ts
def bc(os:List XW)(ts:List Tr)(g:Tr):List Tr:=twU ts g.1 ((os[g.1.toNat]?).bind λo=>bM o.aS g.2.1)
def w6(ts:List Tr)(n:Int)(u:Option Int):(twU ts n u).length<=ts.length+1:=by
 cases u with
 |none=>exact GbR _
 |some k=>exact nF _ _ _ _
def PN{e3:Os}{n:Int}:HY (vE 2) (aU (aa (Yb (vE 3) (kE (E 0))) (aa (vE 4) ag))) (kE (E 0)) [e0,e1,U (Y (Yw (kvT ts))),U (Z (N [E o,E h,E a])),U (Z (E k))]=U ⟨.c,E (iK ts o k)⟩:=by
 have l:=AK ts o k;unfold iK;cases hf:ts.find? (atT o k) with
 |none=>
  rw[hf] at l;simp[l,af]
 |some t=>
  rw[hf] at l;simp[l,af]
def SI{k:Int}{OD:D}(hO:atD XJ n=U OD)(im:OD.imm=O)(ed:iB [OD,E h]=U (bZ u))(hz:(kvT ts).length<1000):
  cC [U (Z (N [N A,N B,N C,N XJ])),U (Z (N G)),U (Y (Yw (kvT ts))),U (Z (N [E n,E h,E a])),x4]=
   U (P [U (Z (N [N A,N B,N C,N XJ])),U (Z (N G)),U (Y (Yw (kvT (twU ts n u)))),U (Z (N [E n,E h,E a])),U (Z (bZ u))]):=by
 have z:(kvT ts).length<16777216:=by lia
 have ru:=aV (bY u);refine(ae (by simp[hO,ed,ru];rfl)).trans ?_;cases u with
 |none=>simp[twU]
 |some k=>
  have g:=PN (ts:=ts) (o:=n) (k:=k) (e0:=U (Z (N [N A,N B,N C,N XJ]))) (e1:=U (Z (N G))) (e3:=J) (n:=0) (h:=h) (a:=a);have p:=mI ts n k (iK ts n k+1);rw[FX];refine(PL (by simp)).trans ?_;unfold twU;rw[<-p];unfold EM Yc;rw[g];simp[putD,z,af]
theorem DJ{w:World}(W:aL w):∀gv ts x3 x4,bQ w.XN.length gv->ts.length+gv.length<1000->∃y3 y4,XS (gN 3) cC (gv.map XZ) [U (Z (N [N A,N B,N C,N (w.XN.map ao)])),U (Z (N G)),U (Y (Yw (kvT ts))),x3,x4]=
  U (P [U (Z (N [N A,N B,N C,N (w.XN.map ao)])),U (Z (N G)),U (Y (Yw (kvT (gv.foldl (bc w.XN) ts)))),y3,y4])
 |[],ts,x3,x4,_,_=> ⟨x3,x4,by simp⟩
 |g::gv,ts,x3,x4,hg,hl=>by
  have g0:=hg g Gaj;obtain⟨n,hn⟩:=GaJ g0.1;have xd :n<w.XN.length:=by lia
  have hO:atD (w.XN.map ao) g.1=U (ao w.XN[n]):=by
   rw[hn,bO,Gap,Gac xd]
   rfl
  have ok:=W.oo w.XN[n] (GaB xd);have ed:=pz (h:=g.2.1) ok.du;have hz:(kvT ts).length<1000:=by unfold kvT;rw[Gae];simp at hl;lia
  have ev:=SI (A:=A) (B:=B) (C:=C) (G:=G) (a:=g.2.2) (k:=0) (x4:=x4) hO (cE _ ok.ti) ed hz;have es:twU ts g.1 (bM w.XN[n].aS g.2.1)=bc w.XN ts g:=by
   unfold bc;simp_all
  rw[es] at ev;have ln:(bc w.XN ts g).length<=ts.length+1:=by
   exact w6 _ _ _
  obtain⟨y3,y4,e⟩:=DJ W gv (bc w.XN ts g) (U (Z (XZ g))) (U (Z (bZ (bM w.XN[n].aS g.2.1)))) (λt ht=>hg t (Gaf _ ht)) (by simp at hl;lia);refine⟨y3,y4, ?_⟩;rw[Gax];have VE :cC [U (Z (N [N A,N B,N C,N (w.XN.map ao)])),U (Z (N G)),U (Y (Yw (kvT ts))),U (Z (XZ g)),x4]=_:=ev;simp only[XS,gN,GaG,GaH,Option.bind_some,VE];exact e
noncomputable def twF(ts:List Tr):List Flt:=(ts.filter λt=>decide (1<t.2.2)).map λt=>("twice",[t.1,t.2.1])
def LR(ts:List Tr):cO (gT [0,1]) (aC gtB (vE 1) (kE (E 1))) (aU (aa (kE (X "twice")) (aa (Yb (vE 0) (kE (E 0))) (aa (Yb (vE 0) (kE (E 1))) ag)))) (cP (kvT ts)) [J,J]=U ((twF ts).map ai):=by
 rw[uD];unfold twF;rw[GaN];refine fJ (λt:Tr=>N [N [E t.1,E t.2.1],E t.2.2]) (λenv=>∃y z,env=[y,z]) (λt=>decide (1<t.2.2)) (ai∘λt:Tr=>("twice",[t.1,t.2.1])) ts _ ⟨J,J,rfl⟩ ?_;rintro t ht env ⟨y,z,rfl⟩;refine⟨[U (Z (N [E t.1,E t.2.1])),U (Z (E t.2.2))],by simp,⟨_,_,rfl⟩,by simp,λ_=> ⟨.c, ?_,rfl⟩⟩;simp[af,ai]
def PQ(h1:XS (gN 3) cC G [U (Z wd),U (Z (N G)),U (Y (Yw [])),J,J]=U (P [U (Z wd),U (Z (N G)),U (Y (Yw kv)),y3,y4]))(hz:(cP kv).length<=16777216)
  (hc:cO (gT [0,1]) (aC gtB (vE 1) (kE (E 1))) (aU (aa (kE (X "twice")) (aa (Yb (vE 0) (kE (E 0))) (aa (Yb (vE 0) (kE (E 1))) ag)))) (cP kv) [J,J]=U R)(im:aB R=O):dB [wd,N G]=U (Q R):=by
 refine aN rfl ?_;refine(ae (by simp;rfl)).trans ?_;refine(ae (by simp[h1];rfl)).trans ?_;simp[af,DL.XT,hz,hc,im]
def LS{w:World}{gv:List Tr}(W:aL w)(hg:bQ w.XN.length gv)(hl:gv.length<64):dB [aH w,N (gv.map XZ)]=U (Q ((twF (gv.foldl (bc w.XN) [])).map ai))/\(gv.foldl (bc w.XN) []).length<64:=by
 have ln:∀(gv ts:List Tr),(gv.foldl (bc w.XN) ts).length<=ts.length+gv.length:=by
  intro gv;induction gv with
  |nil=>intro ts;simp
  |cons g gv ih=>
   intro ts;rw[Gcl];have h1:=ih (bc w.XN ts g);have h2:(bc w.XN ts g).length<=ts.length+1:=by
    exact w6 _ _ _
   grind
 have l2:=ln gv [];simp only[Gbi,GaP] at l2;obtain⟨y3,y4,e⟩:=DJ W gv [] J J hg (by simp;lia);have hz:(cP (kvT (gv.foldl (bc w.XN) []))).length<=16777216:=by rw[uD,Gae];lia
 exact⟨PQ e hz (LR _) (bW _),by lia⟩
def aQ(ts:List Tr)(b:Tr):List Tr:=nE (nE ts b.1 b.2.1 b.2.2) b.2.1 b.1 b.2.2
def PR{ts:List Tr}{b:Tr}(hz:ts.length<1000):cN [U (Z (N B)),U (Y (Yw (kvT ts))),U (Z (XZ b))]=U (P [U (Z (N B)),U (Y (Yw (kvT (aQ ts b)))),U (Z (XZ b))]):=by
 obtain⟨x,y,v⟩:=b;have p1:=mI ts x y v;have p2:=mI (nE ts x y v) y x v;have l1:=nF ts x y v;have z1:(kvT ts).length<16777216:=by unfold kvT;rw[Gae];lia
 have z2:(kvT (nE ts x y v)).length<16777216:=by unfold kvT;rw[Gae];lia
 unfold cN aQ XZ;rw[<-p2];refine(ae (by simp[putD,z1,af,p1];rfl)).trans ?_;simp[putD,z2,af]
theorem AL:∀(bs ts:List Tr) (x2:Os),ts.length+2*bs.length<1000->∃y2,XS (gN 2) cN (bs.map XZ) [U (Z (N B)),U (Y (Yw (kvT ts))),x2]=U (P [U (Z (N B)),U (Y (Yw (kvT (bs.foldl aQ ts)))),y2])
 |[],ts,x2,_=> ⟨x2,by simp⟩
 |b::bs,ts,x2,hl=>by
  rw[GaF] at hl;have ev:=PR (ts:=ts) (b:=b) (B:=B) (by lia);have l1:(aQ ts b).length<=ts.length+2:=by
   unfold aQ;have:=nF ts b.1 b.2.1 b.2.2;have:=nF (nE ts b.1 b.2.1 b.2.2) b.2.1 b.1 b.2.2;lia
  obtain⟨y2,e⟩:=AL bs (aQ ts b) (U (Z (XZ b))) (by lia);refine⟨y2, ?_⟩;rw[Gax];simp only[XS,gN,GaG,GaH,Option.bind_some,ev];exact e
def LU(ts:List Tr):aB ((kvT ts).map λx=>x.snd)=O:=by
 unfold kvT;rw[GaN];exact fX (λ_=>rfl) ts
def PU{bs:List Tr}(hl:bs.length<=12):dS [N (bs.map XZ)]=U (Yw (kvT (bs.foldl aQ []))):=by
 obtain⟨y2,e⟩:=AL (B:=bs.map XZ) bs [] J (by simp;lia);refine aN rfl ?_;refine(ae (e:=[U (Z (N (bs.map XZ))),U (Y (Yw (kvT []))),J]) (by simp[kvT])).trans ?_;have im:=LU (bs.foldl aQ []);generalize bs.map XZ=B at*;generalize kvT (bs.foldl aQ [])=kv at*;refine(ae (e:=[U (Z (N B)),U (Y (Yw kv)),y2]) (by simp[e])).trans ?_;simp[im]
def mJ(gs:List Tr)(a b:XW):Int:=if a.ay=b.ay then iK gs a.ax b.ax else 0
def oy:gB [Yw (kvT gs),ao a,ao b]=U (E (mJ gs a b)):=by
 have l:=AK gs a.ax b.ax;refine aN rfl ?_;unfold lN mJ iK;have a1:ixD (ao a) (E 1)=U (E a.ay):=rfl;have a2:ixD (ao a) (E 2)=U (E a.ax):=rfl;have b1:ixD (ao b) (E 1)=U (E b.ay):=rfl;have b2:ixD (ao b) (E 2)=U (E b.ax):=rfl;by_cases c:a.ay=b.ay
 .rw[Gan c];refine(ae (by simp[a1,b1,c];rfl)).trans ?_;cases hf:gs.find? (atT a.ax b.ax) with
  |none=>rw[hf] at l;simp at l;simp[a2,b2,l,af]
  |some t=>rw[hf] at l;simp at l;simp[a2,b2,l,af]
 .refine vZ ?_;simp[a1,b1,c]
noncomputable def mk2(p:Int×Int):D:= N [E p.1,E p.2]
noncomputable def un2:D->Int×Int
 | N [E a,E b]=>(a,b)
 |_=>(0,0)
def SJ(p:Int×Int):un2 (mk2 p)=p:=rfl
def DK(l:List (Int×Int)):aB (l.map mk2)=O:=by
 induction l with
 |nil=>rfl
 |cons a l ih=>simp[mk2] at ih⊢;exact ih
def J8(l:List (Int×Int)):XX (l.map mk2)=O:=by
 have h1:(l.map mk2).all (lu 1)=O:=by
  rw[Gbx,Gaq];intro p _;simp[mk2,lu,tyD,lj]
 have h2:((l.map mk2).all λx=>(l.map mk2).all λy=>A7 x y)=O:=by
  rw[Gbx,Gaq];intro p _;simp only[GbL];simp[mk2,A7,lH,tyD]
 unfold XX;rw[h1,h2];simp
def PV(h:p.1<q.1):ltC (DL.code (mk2 p)) (DL.code (mk2 q))=O:=by
 have e:¬p.1=q.1:=by lia
 simp[mk2,DL.code,b7,ltC,dO,ltI,e,h]
def AM(ms:List (Int×Int)):∃eA:List (Int×Int),bH (ms.map mk2)=eA.map mk2/\eA.Perm ms/\eA.Pairwise λa b=>a.1<=b.1:=by
 have hp:=bT (ms.map mk2);have hs:=cQ (ms.map mk2);have all:∀x∈bH (ms.map mk2),∃p,x=mk2 p:=λx hx=>by
  obtain⟨p,_,e⟩:=Gas.mp (hp.mem_iff.mp hx);exact⟨p,e.symm⟩
 have e:bH (ms.map mk2)=((bH (ms.map mk2)).map un2).map mk2:=by
  rw[GaN]
  conv=>lhs;rw[<-GbS (bH (ms.map mk2))]
  apply GaO;intro x hx;obtain⟨p,rfl⟩:=all x hx
  rfl
 refine⟨(bH (ms.map mk2)).map un2,e, ?_, ?_⟩
 .have:=GcZ un2 hp;rw[GaN] at this;have e2:ms.map (un2∘mk2)=ms:=by
   conv=>rhs;rw[<-GbS ms]
   exact GaO λp _=>SJ p
  rw[e2] at this;exact this
 .rw[e] at hs;unfold fg at hs;rw[Gcn] at hs;refine hs.imp λ{a b} h=> ?_;by_cases c:b.1<a.1
  .rw[PV c] at h;cases h
  .lia
noncomputable def sm(f:Nat->Int):Nat->Int
 |0=>0
 |n+1=>sm f n+f n
theorem DP{α:Type}(w:α->Int)(d:α)(l:List α):∀k,k<=l.length->sm (λi=>w (l[i]?.getD d)) k=((l.take k).map w).sum
 |0,_=>by simp[sm]
 |k+1,h=>by
  rw[sm,DP w d l k (by lia),GdB (by lia),GaC];simp[show k<l.length by lia]
theorem J9(W8:g<=k+1)(h1:∀i,i<g->f i=0)(h2:∀i,g<=i->i<=k->f i=a i)(h3:∀i,k<i->f i=0):∀n,sm f n=if n<=g then 0 else if n<=k+1 then sm a n -sm a g else sm a (k+1)-sm a g
 |0=>by simp[sm]
 |n+1=>by
  rw[sm,J9 W8 h1 h2 h3 n];by_cases c1:n+1<=g
  .rw[Gan (by lia),Gan c1,h1 n (by lia)]
   rfl
  .rw[Gah c1];by_cases c2:n+1<=k+1
   .rw[Gan c2,h2 n (by lia) (by lia)];by_cases c3:n<=g
    .have e:n=g:=by lia
     rw[Gan c3,sm];lia
    .rw[Gah c3,Gan (by lia),sm];lia
   .rw[Gah c2,h3 n (by lia)];by_cases c3:n<=g
    .have e2:g=k+1:=by lia
     rw[Gan c3];lia
    .rw[Gah c3];by_cases c4:n<=k+1
     .have e:n=k+1:=by lia
      rw[Gan c4];lia
     .rw[Gah c4];lia
section
variable(eA:List (Int×Int))(H:Int)
noncomputable def hr(i:Nat):Int:=(eA[i]?.getD (0,0)).1
noncomputable def am(i:Nat):Int:=(eA[i]?.getD (0,0)).2
noncomputable def wt(H h:Int)(p:Int×Int):Int:=if h -H<p.1/\p.1<=h then p.2 else 0
def W(h:Int):Int:=(eA.map (wt H h)).sum
end
variable{eA:List (Int×Int)}{H:Int}
def uF(hs:eA.Pairwise λa b=>a.1<=b.1)(h:i<=j)(hj:j<eA.length):hr eA i<=hr eA j:=by
 unfold hr;have hi:i<eA.length:=by lia
 simp only[Gac hi,Gac hj];rcases Gch h with e|e
 .subst e;exact Gcp _
 .exact Gdd.mp hs i j hi hj e
def SK(hs:eA.Pairwise λa b=>a.1<=b.1)(hk:k<eA.length)(W8:g<=k)(h1:∀i,i<g->hr eA i<=hr eA k -H)(h2:hr eA k -H<hr eA g)(h3:k+1=eA.length\/hr eA k<hr eA (k+1)):
  W eA H (hr eA k)=sm (am eA) (k+1)-sm (am eA) g:=by
 have e:=DP (wt H (hr eA k)) (0,0) eA eA.length (Gao _);rw[List.take_length] at e;unfold W;rw[<-e];have cut:=J9 (f:=λi=>if i<eA.length then wt H (hr eA k) (eA[i]?.getD (0,0)) else 0) (a:=am eA) (g:=g) (k:=k) (by lia)
  (λi hi=>by
   rw[Gan (by lia)];unfold wt;have:=h1 i hi;unfold hr at this⊢;rw[Gah (by lia)])
  (λi i1 i2=>by
   rw[Gan (by lia)];unfold wt;have a1:=uF hs i1 (by lia);have a2:=uF hs i2 hk;unfold hr at a1 a2 h2⊢;rw[Gan ⟨by lia,a2⟩];rfl)
  (λi hi=>by
   split
   .rename_i hl;have a1:hr eA (k+1)<=hr eA i:=uF hs (by lia) hl;rcases h3 with h3|h3
    .lia
    .unfold wt;unfold hr at a1 h3⊢;rw[Gah (by lia)]
   .rfl) eA.length
 rw[Gah (by lia)] at cut;have same:∀n,n<=eA.length->sm (λi=>if i<eA.length then wt H (hr eA k) (eA[i]?.getD (0,0)) else 0) n=sm (λi=>wt H (hr eA k) (eA[i]?.getD (0,0))) n:=by
  intro n;induction n with
  |zero=>intro _;rfl
  |succ n ih=>intro hn;rw[sm,sm,ih (by lia),Gan (by lia)]
 rw[<-same _ (Gao _),cut];split
 .have e2:eA.length=k+1:=by lia
  rw[e2]
 .rfl
def oz(ms:D)(H:Int)(R:List D)(F:List D)(eF gone k:Int)(row:D):DL.Env:=[U (Z ms),U (Z (E H)),U (Yz (Q R)),U (Y (Q F)),U (Z (E eF)),U (Z (E gone)),U (Z (E k)),U (Z row)]
def rO(hg:g<eA.length):atD (eA.map mk2) (g:Int)=U (N [E (hr eA g),E (am eA g)]):=by
 rw[bO,Gap];unfold hr am;simp[mk2,hg]
def DQ{gone:Int}(e:atD R gone=U (N [E h',E a'])):fH (oz ms H R F eF gone k (N [E h,E a]))=U (decide (h' <=h -H)):=by
 unfold fH oz;simp[e]
def LV{gone:Int}(e:atD R gone=U (N [E h',E a'])):gY (oz ms H R F eF gone k (N [E h,E a]))=U (P (oz ms H R F (eF -a') (gone+1) k (N [E h,E a]))):=by
 unfold gY oz;simp[e]
def Ja{kk:Int}(hH:1<=H)(hk:k<eA.length):∀m gone fuel (eF:Int),k -gone=m->gone<=k->m<fuel->∃g,gone<=g/\g<=k/\(∀i,gone<=i->i<g->hr eA i<=hr eA k -H)/\hr eA k -H<hr eA g/\
  ie fH gY fuel (oz ms H (eA.map mk2) F eF gone kk (N [E (hr eA k),E a]))=U (P (oz ms H (eA.map mk2) F (eF -(sm (am eA) g -sm (am eA) gone)) g kk (N [E (hr eA k),E a]))):=by
 intro m;induction m with
 |zero=>
  intro gone fuel eF hm hg hf;have e:gone=k:=by lia
  subst e;obtain⟨f,rfl⟩:∃f,fuel=f+1:=⟨fuel -1,by lia⟩
  refine⟨gone,Gao _,Gao _,λi h1 h2=>by lia,by lia, ?_⟩;unfold ie;rw[DQ (rO hk)];have c:¬hr eA gone<=hr eA gone -H:=by lia
  simp[c]
 |succ m ih=>
  intro gone fuel eF hm hg hf;obtain⟨f,rfl⟩:∃f,fuel=f+1:=⟨fuel -1,by lia⟩
  have yP:gone<eA.length:=by lia
  unfold ie;rw[DQ (rO yP)];by_cases c:hr eA gone<=hr eA k -H
  .obtain⟨g,q1,q2,q3,q4,q5⟩:=ih (gone+1) f (eF -am eA gone) (by lia) (by lia) (by lia);refine⟨g,by lia,q2,λi h1 h2=> ?_,q4, ?_⟩
   .rcases Gch h1 with e|e
    .subst e;exact c
    .exact q3 i e h2
   .simp only[c,decide_true,Option.bind_some,Gdo];rw[LV (rO yP)];simp only[Option.bind_some];have e1:((gone:Int)+1)=((gone+1:Nat):Int):=by lia
    rw[e1,q5,sm];have e2:eF -am eA gone -(sm (am eA) g -(sm (am eA) gone+am eA gone))=eF -(sm (am eA) g -sm (am eA) gone):=by lia
    rw[e2]
  .refine⟨gone,Gao _,hg,λi h1 h2=>by lia,by lia, ?_⟩;simp[c]
def fZ(eA:List (Int×Int))(j:Nat):Bool:=decide (j+1=eA.length)||decide (hr eA j<hr eA (j+1))
def fnd(eA:List (Int×Int))(H:Int)(m:Nat):List (Int×Int):=((List.range m).filter (fZ eA)).map λj=>(hr eA j,W eA H (hr eA j))
def AN:fnd eA H (m+1)=fnd eA H m++(if fZ eA m then[(hr eA m,W eA H (hr eA m))] else[]):=by
 unfold fnd;rw[List.range_succ];cases h:fZ eA m<;>simp[h]
def DR:(fnd eA H m).length<=m:=by
 unfold fnd;rw[Gae];exact Gbp (GbO _ _) (by simp)
def LX{R F:List D}{gone kk:Int}(hw:ie fH gY 100000 (oz ms H R F (eF+a) gone kk (N [E h,E a]))=U (P (oz ms H R F total' g' kk (N [E h,E a]))))(hz:F.length<1000)(hn:(R.length:Int)=n)
  (hc:(kk+1=n/\last=O)\/(kk+1≠n/\∃h2 a2,atD R (kk+1)=U (N [E h2,E a2])/\last=decide (h<h2))):
  dQ (oz ms H R F eF gone kk (N [E h,E a]))=U (P (oz ms H R (if last then F++[N [E h,E total']] else F) total' g' kk (N [E h,E a]))):=by
 have z:F.length<16777216:=by lia
 unfold oz at*;unfold dQ qz;rcases hc with⟨c,rfl⟩| ⟨c,h2,a2,e,rfl⟩
 .simp[hw,hn,c,af,z]
 .by_cases c2:h<h2
  .simp[hw,e,c2,af,z]
  .simp[hw,hn,c,e,c2]
def Jb(hH:1<=H)(hs:eA.Pairwise λa b=>a.1<=b.1)(hl:eA.length<64):∃y4 y5 y6 y7,XS (gT [6,7]) dQ (fG 0 (eA.map mk2)) [U (Z ms),U (Z (E H)),U (Yz (Q (eA.map mk2))),U (Y (Q [])),U (Z (E 0)),U (Z (E 0)),J,J]=
  U (P [U (Z ms),U (Z (E H)),U (Yz (Q (eA.map mk2))),U (Y (Q ((fnd eA H eA.length).map mk2))),y4,y5,y6,y7]):=by
 obtain⟨e,h1,gone,eF,y6,y7,h2,h3,h4,rfl⟩:=cD (g:=gT [6,7]) (λm env=>∃(gone:Nat) (eF:Int) (y6 y7:Os),gone<=m/\eF=sm (am eA) m -sm (am eA) gone/\(∀i,i<gone->∀j,m<=j+1->j<eA.length->hr eA i<=hr eA j -H)/\
   env=[U (Z ms),U (Z (E H)),U (Yz (Q (eA.map mk2))),U (Y (Q ((fnd eA H m).map mk2))),U (Z (E eF)),U (Z (E gone)),y6,y7]) (fG 0 (eA.map mk2)) 0
  [U (Z ms),U (Z (E H)),U (Yz (Q (eA.map mk2))),U (Y (Q [])),U (Z (E 0)),U (Z (E 0)),J,J] ⟨0,0,J,J,Gao _,by simp,λi hi=>by lia,rfl⟩ (by
   rintro k d e hd ⟨gone,eF,y6,y7,h2,h3,h4,rfl⟩;rw[gX,Gap] at hd;cases hk:eA[k]? with
   |none=>rw[hk] at hd;cases hd
   |some p=>
    rw[hk] at hd;have hkl:=(Gak.mp hk).1;simp only[Gcj,GcM] at hd;subst hd;rw[GaP] at h2 h3 h4⊢;have ep:mk2 p= N [E (hr eA k),E (am eA k)]:=by
     unfold mk2 hr am;rw[hk]
     rfl
    obtain⟨g,q1,q2,q3,q4,q5⟩:=Ja (F:=(fnd eA H k).map mk2) (kk:=(k:Int)) hH hkl (k -gone) gone 100000 (eF+am eA k) rfl h2 (by lia);have allg:=λi hi=>by
     by_cases c:i<gone
     .exact h4 i c k (by lia) hkl
     .exact q3 i (by lia) hi
    have tot:eF+am eA k -(sm (am eA) g -sm (am eA) gone)=sm (am eA) (k+1)-sm (am eA) g:=by
     rw[h3,sm];lia
    rw[tot] at q5;have eL:((eA.map mk2).length:Int)=(eA.length:Int):=by simp
    have ev:=LX (last:=fZ eA k) q5 (GcD (by rw[Gae];exact DR) (by lia)) eL (by
     by_cases c:k+1=eA.length
     .exact .inl ⟨by lia,by unfold fZ;simp[c]⟩
     .refine .inr ⟨by lia,hr eA (k+1),am eA (k+1), ?_,by unfold fZ;simp[c]⟩;have:=rO (eA:=eA) (g:=k+1) (by lia);exact this)
    refine⟨_,_, ?_,ev,g,_,U (Z (E (k:Int))),U (Z (N [E (hr eA k),E (am eA k)])),by lia,rfl,λi hi j hj zl=> ?_, ?_⟩
    .rw[ep]
     rfl
    .have:=allg i hi;have:=uF hs (i:=k) (by lia) zl;lia
    .rw[AN];unfold oz;cases hL:fZ eA k with
     |false=>simp
     |true=>
      have hw:=SK hs hkl q2 allg q4 (by
       unfold fZ at hL;rw[GaX] at hL;exact hL.imp Gar Gar)
      simp[mk2,hw])
 rw[gW,Gae,GaP] at h1;exact⟨_,_,_,_,h1⟩
def rP{ms:List (Int×Int)}(hl:ms.length<64):XU [Q (ms.map mk2)]=U ⟨.tn,Q (bH (ms.map mk2))⟩:=by
 have h1:((ms.map mk2).length<64):=by simpa using hl
 unfold XU one jw;simp only[Option.bind_some];rw[J8,GaD h1];rfl
def Jc(es:XU [Q XM]=U ⟨.tn,Q R⟩)(h1:XS (gT [6,7]) dQ (fG 0 R) [U (Z (Q XM)),U (Z (E H)),U (Yz (Q R)),U (Y (Q [])),U (Z (E 0)),U (Z (E 0)),J,J]=
  U (P [U (Z (Q XM)),U (Z (E H)),U (Yz (Q R)),U (Y (Q F)),y4,y5,y6,y7]))(im:aB F=O):jT [Q XM,E H]=U (Q F):=by
 unfold jT C4;simp[es,h1,im]
theorem lP:∀(a b:List Int),a.Pairwise (λx y=>x<y)->b.Pairwise (λx y=>x<y)->(∀x,x∈a↔x∈b)->a=b
 |[],[],_,_,_=>rfl
 |[],y::b,_,_,h=>absurd ((h y).mpr Gaj) (by simp)
 |x::a,[],_,_,h=>absurd ((h x).mp Gaj) (by simp)
 |x::a,y::b,ha,hb,h=>by
  have ha' :=GaV.mp ha;have xG :=GaV.mp hb;have exy:x=y:=by
   rcases Gat.mp ((h x).mp Gaj) with e|e
   .exact e
   .rcases Gat.mp ((h y).mpr Gaj) with e2|e2
    .exact e2.symm
    .have h3:=xG.1 x e;have h4:=ha'.1 y e2;lia
  subst exy;congr 1;refine lP a b ha'.2 xG.2 λz=> ⟨λhz=> ?_,λhz=> ?_⟩
  .rcases Gat.mp ((h z).mp (Gaf _ hz)) with e|e
   .have:=ha'.1 z hz;lia
   .exact e
  .rcases Gat.mp ((h z).mpr (Gaf _ hz)) with e|e
   .have:=xG.1 z hz;lia
   .exact e
theorem Jd:∀(ns ks:List Int) (x:Int),x∈ns.foldl dd1 ks↔x∈ks\/x∈ns
 |[],ks,x=>by simp
 |n::ns,ks,x=>by
  rw[Gcl,Jd ns (dd1 ks n) x];unfold dd1;split
  .rename_i c;constructor
   .rintro(h|h)
    .exact .inl h
    .simp_all
   .rintro(h|h)
    .exact .inl h
    .rcases Gat.mp h with rfl|h
     .exact .inl c
     .exact .inr h
  .simp only[Gav,Gat,GbF,Gdk];constructor
   .rintro((h|h)|h)
    .exact .inl h
    .exact .inr (.inl h)
    .exact .inr (.inr h)
   .rintro(h|h|h)
    .exact .inl (.inl h)
    .exact .inl (.inr h)
    .exact .inr h
theorem AO:∀(ns ks:List Int),ks.Nodup->(ns.foldl dd1 ks).Nodup
 |[],ks,h=>h
 |n::ns,ks,h=>by
  refine AO ns _ ?_;unfold dd1;split
  .exact h
  .rename_i c;rw[GaW];refine⟨h,by simp,λa ha b hb=> ?_⟩;rw[GaU] at hb;subst hb
   exactλe=>c (e▸ha)
theorem Je:∀(ns ks:List Int),(ns.foldl dd1 ks).length<=ks.length+ns.length
 |[],ks=>by simp
 |n::ns,ks=>by
  rw[Gcl];have h:=Je ns (dd1 ks n);have h2:(dd1 ks n).length<=ks.length+1:=by unfold dd1;split<;>simp
  grind
def AQ(h:a<b):ltC (DL.code (E a)) (DL.code (E b))=O:=by
 have e:¬a=b:=by lia
 simp[DL.code,b7,ltC,dO,ltI,e,h]
def G0(l:List Int):∃s:List Int,s.Perm l/\s.Pairwise (λa b=>a<=b)/\bH (l.map E)=s.map E:=by
 have hp:=bT (l.map E);have hs:=cQ (l.map E);have all:∀{ds:List D},(∀d∈ds,∃i:Int,d= E i)->∃s:List Int,ds=s.map E:=by
  intro ds;induction ds with
  |nil=>exactλ_=> ⟨[],rfl⟩
  |cons d ds ih=>
   intro h;obtain⟨i,rfl⟩:=h d Gaj;obtain⟨s,rfl⟩:=ih λx hx=>h x (Gaf _ hx);exact⟨i::s,rfl⟩
 obtain⟨s,e⟩:=all λd hd=>by
  obtain⟨i,_,rfl⟩:=Gas.mp (hp.mem_iff.mp hd);exact⟨i,rfl⟩
 rw[e] at hp hs;refine⟨s, ?_, ?_,e⟩
 .have un:∀x:List Int,(x.map E).map (λd=>match d with| E i=>i|_=>0)=x:=by
   intro x;rw[GaN];exact(GaO λ_ _=>rfl).trans (GbS x)
  have:=GcZ (λd=>match d with|E i=>i|_=>0) hp;rw[un,un] at this;exact this
 .unfold fg at hs;rw[Gcn] at hs;refine hs.imp λ{a b} h=> ?_;by_cases c:b<a
  .rw[AQ c] at h;cases h
  .lia
def Jf(ns:List Int):∃S:List Int,bH ((ddF ns).map E)=S.map E/\S.Pairwise (λa b=>a<b)/\(∀x,x∈S↔x∈ns)/\S.length<=ns.length:=by
 obtain⟨s,h1,h2,h3⟩:=G0 (ddF ns);have nd:=h1.nodup_iff.mpr (AO ns [] Gdp);have mem:∀x,x∈s↔x∈ns:=λx=>by rw[h1.mem_iff];unfold ddF;rw[Jd];simp
 refine⟨s,h3, ?_,mem, ?_⟩
 .have:=h2.and nd;exact this.imp λ{a b} h=>by
   lia
 .rw[h1.length_eq];have:=Je ns []
  simpa[ddF] using this
def LY(ms:List (Int×Int))(H:Int)(S:List Int):List (Int×Int):=S.map λh=>(h,W ms H h)
def Jg{l l' :List Int}(h:l.Perm l'):l.sum=l'.sum:=by
 induction h with
 |nil=>rfl
 |cons x _ ih=>simp[ih]
 |swap x y l=>simp;lia
 |trans _ _ h1 h2=>exact h1.trans h2
def PX(hp:eA.Perm ms)(h:Int):W eA H h=W ms H h:=by
 exact Jg (GcZ _ hp)
theorem rQ(hs:eA.Pairwise λa b=>a.1<=b.1):∀m i,eA.length -i=m->i<eA.length->∃j,j<eA.length/\hr eA j=hr eA i/\fZ eA j=O
 |0,i,hm,hi=>by lia
 |m+1,i,hm,hi=>by
  by_cases c:i+1=eA.length
  .exact⟨i,hi,rfl,by unfold fZ;simp[c]⟩
  .by_cases c2:hr eA i<hr eA (i+1)
   .exact⟨i,hi,rfl,by unfold fZ;simp[c2]⟩
   .obtain⟨j,h1,h2,h3⟩:=rQ hs m (i+1) (by lia) (by lia);have:=uF hs (i:=i) (j:=i+1) (by lia) (by lia);exact⟨j,h1,by rw[h2];lia,h3⟩
def LZ{ms:List (Int×Int)}{S:List Int}(hs:eA.Pairwise λa b=>a.1<=b.1)(hp:eA.Perm ms)(hS:S.Pairwise λa b=>a<b)(hm:∀x,x∈S↔x∈ms.map (·.1)):fnd eA H eA.length=LY ms H S:=by
 have eT:((List.range eA.length).filter (fZ eA)).map (hr eA)=S:=by
  refine lP _ _ ?_ hS λx=> ?_
  .rw[Gcn];have pr:((List.range eA.length).filter (fZ eA)).Pairwise λi j=>i<j:=List.Pairwise.filter _ List.pairwise_lt_range;refine(GcU.mp pr).imp λ{i j} h=> ?_;obtain⟨hi,hj,yl⟩:=h;obtain⟨i1,i2⟩:=Gbm.mp hi;obtain⟨j1,_⟩:=Gbm.mp hj;have jl:=GaS.mp j1;unfold fZ at i2;rw[GaX] at i2;rcases i2 with i2|i2
   .lia
   .have a2:=uF hs (i:=i+1) (by lia) jl;lia
  .rw[hm,Gas,Gas];constructor
   .rintro⟨j,hj,rfl⟩;have jl:=GaS.mp (Gbm.mp hj).1;exact⟨eA[j],hp.mem_iff.mp (GaB _),by unfold hr;simp[jl]⟩
   .rintro⟨p,xN,rfl⟩;obtain⟨i,hi,rfl⟩:=GbC (hp.mem_iff.mpr xN);obtain⟨j,h1,h2,h3⟩:=rQ hs (eA.length -i) i rfl hi;refine⟨j,Gbm.mpr ⟨GaS.mpr h1,h3⟩, ?_⟩;rw[h2];unfold hr;simp[hi]
 unfold fnd LY;rw[<-eT,GaN];exact GaO λj _=>by simp only[Function.comp];rw[PX hp]
def Jh{R F:List D}{kk:Int}(hz:F.length<1000)(hn:(R.length:Int)=n)
  (hc:(kk+1=n/\last=O)\/(kk+1≠n/\∃h2 a2,atD R (kk+1)=U (N [E h2,E a2])/\last=decide (h<h2))):
  dQ [U (Z ms),U (Z YA),U (Yz (Q R)),U (Y (Q F)),U (Z (E eF)),U (Z (E 0)),U (Z (E kk)),U (Z (N [E h,E a]))]=
   U (P [U (Z ms),U (Z YA),U (Yz (Q R)),U (Y (Q (if last then F++[N [E h,E (eF+a)]] else F))),U (Z (E (eF+a))),U (Z (E 0)),U (Z (E kk)),U (Z (N [E h,E a]))]):=by
 have z:F.length<16777216:=by lia
 have hw:ie fH gY 100000 [U (Z ms),U (Z YA),U (Yz (Q R)),U (Y (Q F)),U (Z (E (eF+a))),U (Z (E 0)),U (Z (E kk)),U (Z (N [E h,E a]))]=U (P [U (Z ms),U (Z YA),U (Yz (Q R)),U (Y (Q F)),U (Z (E (eF+a))),U (Z (E 0)),U (Z (E kk)),U (Z (N [E h,E a]))]):=by
  have t:fH [U (Z ms),U (Z YA),U (Yz (Q R)),U (Y (Q F)),U (Z (E (eF+a))),U (Z (E 0)),U (Z (E kk)),U (Z (N [E h,E a]))]=U M:=by
   unfold fH;simp
  unfold ie;rw[t];simp
 unfold dQ qz;rcases hc with⟨c,rfl⟩| ⟨c,h2,a2,e,rfl⟩
 .simp[hw,hn,c,af,z]
 .by_cases c2:h<h2
  .simp[hw,e,c2,af,z]
  .simp[hw,hn,c,e,c2]
def G3(hH:∀p∈eA,∀q∈eA,q.1 -H<p.1)(hs:eA.Pairwise λa b=>a.1<=b.1)(hl:eA.length<64):∃y4 y5 y6 y7,XS (gT [6,7]) dQ (fG 0 (eA.map mk2)) [U (Z ms),U (Z YA),U (Yz (Q (eA.map mk2))),U (Y (Q [])),U (Z (E 0)),U (Z (E 0)),J,J]=
  U (P [U (Z ms),U (Z YA),U (Yz (Q (eA.map mk2))),U (Y (Q ((fnd eA H eA.length).map mk2))),y4,y5,y6,y7]):=by
 obtain⟨e,h1,eF,y6,y7,h3,rfl⟩:=cD (g:=gT [6,7]) (λm env=>∃(eF:Int) (y6 y7:Os),eF=sm (am eA) m/\
   env=[U (Z ms),U (Z YA),U (Yz (Q (eA.map mk2))),U (Y (Q ((fnd eA H m).map mk2))),U (Z (E eF)),U (Z (E 0)),y6,y7]) (fG 0 (eA.map mk2)) 0
  [U (Z ms),U (Z YA),U (Yz (Q (eA.map mk2))),U (Y (Q [])),U (Z (E 0)),U (Z (E 0)),J,J] ⟨0,J,J,by simp[sm],rfl⟩ (by
   rintro k d e hd ⟨eF,y6,y7,h3,rfl⟩;rw[gX,Gap] at hd;cases hk:eA[k]? with
   |none=>rw[hk] at hd;cases hd
   |some p=>
    rw[hk] at hd;have hkl:=(Gak.mp hk).1;simp only[Gcj,GcM] at hd;subst hd;rw[GaP] at h3⊢;have ep:mk2 p= N [E (hr eA k),E (am eA k)]:=by
     unfold mk2 hr am;rw[hk]
     rfl
    have eL:((eA.map mk2).length:Int)=(eA.length:Int):=by simp
    have ev:=Jh (ms:=ms) (F:=(fnd eA H k).map mk2) (eF:=eF) (kk:=(k:Int)) (h:=hr eA k) (a:=am eA k) (last:=fZ eA k) (GcD (by rw[Gae];exact DR) (by lia)) eL (by
     by_cases c:k+1=eA.length
     .exact .inl ⟨by lia,by unfold fZ;simp[c]⟩
     .refine .inr ⟨by lia,hr eA (k+1),am eA (k+1), ?_,by unfold fZ;simp[c]⟩;have:=rO (eA:=eA) (g:=k+1) (by lia);exact this)
    refine⟨_,_, ?_,ev,eF+am eA k,U (Z (E (k:Int))),U (Z (N [E (hr eA k),E (am eA k)])),by rw[h3];rfl, ?_⟩
    .rw[ep]
     rfl
    .rw[AN];cases hL:fZ eA k with
     |false=>simp
     |true=>
      have hr_in:∀i,i<eA.length->∃p∈eA,p.1=hr eA i:=λi hi=> ⟨eA[i],GaB _,by unfold hr;simp[hi]⟩;have hw:=SK (H:=H) hs hkl (Gba k) (λi hi=>by lia) (by
       obtain⟨p,hp,e1⟩:=hr_in 0 (by lia);obtain⟨q,hq,e2⟩:=hr_in k hkl;have:=hH p hp q hq;lia) (by
       unfold fZ at hL;rw[GaX] at hL;exact hL.imp Gar Gar)
      have tot:eF+am eA k=W eA H (hr eA k):=by
       rw[hw,h3];simp[sm]
      simp[mk2,tot])
 rw[gW,Gae,GaP] at h1;exact⟨_,_,_,_,h1⟩
def G4(es:XU [Q XM]=U ⟨.tn,Q R⟩)(h1:XS (gT [6,7]) dQ (fG 0 R) [U (Z (Q XM)),U (Z YA),U (Yz (Q R)),U (Y (Q [])),U (Z (E 0)),U (Z (E 0)),J,J]=
  U (P [U (Z (Q XM)),U (Z YA),U (Yz (Q R)),U (Y (Q F)),y4,y5,y6,y7]))(im:aB F=O):jT [Q XM,YA]=U (Q F):=by
 unfold jT C4;simp[es,h1,im]
def HD(hd:D)(H:Int)(ms:List (Int×Int)):Prop:=(hd= E H/\1<=H)\/(hd= YA/\∀p∈ms,∀q∈ms,q.1 -H<p.1)
def HD.perm{ms:List (Int×Int)}(h:HD hd H ms)(hp:ms.Perm xW):HD hd H xW :=by
 rcases h with h| ⟨h1,h2⟩
 .exact .inl h
 .exact .inr ⟨h1,λp xN q hq=>h2 p (hp.mem_iff.mpr xN) q (hp.mem_iff.mpr hq)⟩
def rR{ms xW :List (Int×Int)}{S:List Int}(h:HD hd H ms)(hp:xW.Perm ms)(hl:ms.length<64)(hS:S.Pairwise λa b=>a<b)(hm:∀x,x∈S↔x∈ms.map (·.1)):jT [Q (xW.map mk2),hd]=U (Q ((LY ms H S).map mk2)):=by
 obtain⟨eA,e,yw,hs⟩:=AM xW;have hp3:=yw.trans hp;have zS:eA.length<64:=by rw[hp3.length_eq];exact hl
 have es:=rP (by rw[hp.length_eq];exact hl);rw[e] at es;rw[<-LZ hs hp3 hS hm];rcases h.perm hp3.symm with⟨rfl,hH⟩| ⟨rfl,hH⟩
 .obtain⟨y4,y5,y6,y7,h⟩:=Jb hH hs zS;exact Jc es h (DK _)
 .obtain⟨y4,y5,y6,y7,h⟩:=G3 hH hs zS;exact G4 es h (DK _)
def gpF(os:List XW)(gs:List Tr)(r l:Int×Int):List Flt:=match os[r.2.toNat]?,os[l.2.toNat]? with
 |some a,U b=>if l.1 -r.1<mJ gs a b then[("gap",[r.2,r.1,l.2,l.1])] else[]
 |_,_=>[]
def jZ(os:List XW)(gs:List Tr)(w:Int)(r:Int×Int):List (Int×Int)->List Flt
 |[]=>[]
 |l::ls=>if l.1 -r.1>=w then[] else gpF os gs r l++jZ os gs w r ls
def da(os:List XW)(gs:List Tr)(w:Int):List (Int×Int)->List Flt
 |[]=>[]
 |r::rs=>jZ os gs w r rs++da os gs w rs
def w8(os:List XW)(gs:List Tr)(r l:Int×Int):(gpF os gs r l).length<=1:=by
 unfold gpF;split
 .split<;>simp
 .simp
theorem oA(os:List XW)(gs:List Tr)(w:Int)(r:Int×Int):∀ls,(jZ os gs w r ls).length<=ls.length
 |[]=>by simp[jZ]
 |l::ls=>by
  unfold jZ;have h1:=oA os gs w r ls;have h2:=w8 os gs r l;split
  .simp
  .simp;lia
def PY(c:l1 -r1>=w):
  bU [U (Z wd),U (Z (N G)),U (Y (Yw kv)),U (Z (E w)),U (Yz (Q R)),U (Y (Q F)),U (Z (E k)),U (Z (N [E r1,E r2])),U (Z (N [E l1,E l2])),x9]=
   U (.bk [U (Z wd),U (Z (N G)),U (Y (Yw kv)),U (Z (E w)),U (Yz (Q R)),U (Y (Q F)),U (Z (E k)),U (Z (N [E r1,E r2])),U (Z (N [E l1,E l2])),U (Z (E (l1 -r1)))]):=by
 unfold bU;simp[c]
def PZ{F:List D}(c:¬l1 -r1>=w)(h1:atD XJ r2=U o1)(h2:atD XJ l2=U o2)(eb:gB [Yw kv,o1,o2]=U (E gb))(hz:F.length<100000):
  bU [U (Z (N [N A,N B,N C,N XJ])),U (Z (N G)),U (Y (Yw kv)),U (Z (E w)),U (Yz (Q R)),U (Y (Q F)),U (Z (E k)),U (Z (N [E r1,E r2])),U (Z (N [E l1,E l2])),x9]=
   U (P [U (Z (N [N A,N B,N C,N XJ])),U (Z (N G)),U (Y (Yw kv)),U (Z (E w)),U (Yz (Q R)),U (Y (Q (F++(if l1 -r1<gb then[N [X "gap",E r2,E r1,E l2,E l1]] else[])))),U (Z (E k)),U (Z (N [E r1,E r2])),U (Z (N [E l1,E l2])),U (Z (E (l1 -r1)))]):=by
 have z:F.length<16777216:=by lia
 refine(ae (e:=[U (Z (N [N A,N B,N C,N XJ])),U (Z (N G)),U (Y (Yw kv)),U (Z (E w)),U (Yz (Q R)),U (Y (Q F)),U (Z (E k)),U (Z (N [E r1,E r2])),U (Z (N [E l1,E l2])),U (Z (E (l1 -r1)))]) (by simp)).trans ?_;have c' :l1 -r1<w:=by lia
 refine(ae (e:=[U (Z (N [N A,N B,N C,N XJ])),U (Z (N G)),U (Y (Yw kv)),U (Z (E w)),U (Yz (Q R)),U (Y (Q F)),U (Z (E k)),U (Z (N [E r1,E r2])),U (Z (N [E l1,E l2])),U (Z (E (l1 -r1)))]) (by simp[c'])).trans ?_;by_cases q:l1 -r1<gb
 .simp[q,h1,h2,eb,z,af]
 .simp[q,h1,h2,eb]
theorem rS{w:World}{r:Int×Int}(W3:0<=r.2)(WY:r.2<w.XN.length):∀(ls:List (Int×Int)) (fs:List Flt) (x8 x9:Os),(∀l∈ls,0<=l.2/\l.2<w.XN.length)->fs.length+ls.length<100000->∃y8 y9,
  XS (gN 8) bU (ls.map mk2) [U (Z (N [N A,N B,N C,N (w.XN.map ao)])),U (Z (N G)),U (Y (Yw (kvT gs))),U (Z (E wid)),U (Yz (Q R)),U (Y (Q (fs.map ai))),U (Z (E k)),U (Z (mk2 r)),x8,x9]=
   U (P [U (Z (N [N A,N B,N C,N (w.XN.map ao)])),U (Z (N G)),U (Y (Yw (kvT gs))),U (Z (E wid)),U (Yz (Q R)),U (Y (Q ((fs++jZ w.XN gs wid r ls).map ai))),U (Z (E k)),U (Z (mk2 r)),y8,y9])
 |[],fs,x8,x9,_,_=> ⟨x8,x9,by simp[jZ]⟩
 |l::ls,fs,x8,x9,hl,hz=>by
  rw[GaF] at hz;by_cases c:l.1 -r.1>=wid
  .have ev:=PY (wd:= N [N A,N B,N C,N (w.XN.map ao)]) (G:=G) (R:=R) (F:=fs.map ai) (kv:=kvT gs) (k:=k) (r2:=r.2) (l2:=l.2) (x9:=x9) c;refine⟨U (Z (mk2 l)),U (Z (E (l.1 -r.1))), ?_⟩;unfold jZ;rw[Gan c,Gbb,Gax];have e1:N [E r.1,E r.2]=mk2 r:=rfl;have e2:N [E l.1,E l.2]=mk2 l:=rfl;rw[e1,e2] at ev;simp only[XS,gN,GaG,GaH,Option.bind_some,ev]
  .have l0:=hl l Gaj;obtain⟨n,hn⟩:=GaJ W3;obtain⟨m,hm⟩:=GaJ l0.1;have xd :n<w.XN.length:=by lia
   have yx :m<w.XN.length:=by lia
   have h1:atD (w.XN.map ao) r.2=U (ao w.XN[n]):=by rw[hn,bO,Gap,Gac xd];rfl
   have h2:atD (w.XN.map ao) l.2=U (ao w.XN[m]):=by rw[hm,bO,Gap,Gac yx];rfl
   have eb:=oy (gs:=gs) (a:=w.XN[n]) (b:=w.XN[m]);have ev:=PZ (A:=A) (B:=B) (C:=C) (G:=G) (R:=R) (F:=fs.map ai) (k:=k) (x9:=x9) c h1 h2 eb (by rw[Gae];lia);have eg:(if l.1 -r.1<mJ gs w.XN[n] w.XN[m] then[N [X "gap",E r.2,E r.1,E l.2,E l.1]] else[])=(gpF w.XN gs r l).map ai:=by
    unfold gpF;rw[hn,hm,Gbq,Gbq,Gac xd,Gac yx];dsimp only;split<;>rfl
   rw[eg,<-GaC] at ev;have g1:=w8 w.XN gs r l;obtain⟨y8,y9,e⟩:=rS W3 WY ls (fs++gpF w.XN gs r l) (U (Z (mk2 l))) (U (Z (E (l.1 -r.1)))) (λx hx=>hl x (Gaf _ hx)) (by rw[Gal];lia);refine⟨y8,y9, ?_⟩
   conv=>rhs;unfold jZ
   rw[Gah c,Gax,<-Gbe];have e1:N [E r.1,E r.2]=mk2 r:=rfl;have e2:N [E l.1,E l.2]=mk2 l:=rfl;rw[e1,e2] at ev;simp only[XS,gN,GaG,GaH,Option.bind_some,ev];exact e
def M0(hs:slD (U (k+1)) J (Q R)=U ⟨.tn,Q L⟩)(h:XS (gN 8) bU L [e0,e1,e2,e3,U (Yz (Q R)),e5,U (Z (E k)),e7,x8,x9]=U (P e')):
  cx [e0,e1,e2,e3,U (Yz (Q R)),e5,U (Z (E k)),e7,x8,x9]=U (P e'):=by
 unfold cx;simp[hs,h]
def Ji(R:List D)(j:Nat):slD (U ((j:Int)+1)) J (Q R)=U ⟨.tn,Q (R.drop (j+1))⟩:=by
 show U (⟨.tn,Q (cutD R (U ((j:Int)+1)) J)⟩:RV)=_;have e:sIx R.length 0 (U ((j:Int)+1))=min (j+1) R.length:=by
  show(if(j:Int)+1<0 then((j:Int)+1+(R.length:Int)).toNat else min ((j:Int)+1).toNat R.length)=_;rw[Gah (by lia)];congr 1
 unfold cutD;have e2:sIx R.length R.length J=R.length:=rfl;rw[e,e2];rw[List.take_of_length_le (by rw[Gct];lia)];simp_all
theorem pA{w:World}{eA:List (Int×Int)}(hr:∀l∈eA,0<=l.2/\l.2<w.XN.length)(hn:eA.length<64):∀m j fs x6 x7 x8 x9,eA.length -j=m->fs.length<=64*j->∃y6 y7 y8 y9,
  XS (gT [6,7]) cx (fG j ((eA.drop j).map mk2)) [U (Z (N [N A,N B,N C,N (w.XN.map ao)])),U (Z (N G)),U (Y (Yw (kvT gs))),U (Z (E wid)),U (Yz (Q (eA.map mk2))),U (Y (Q (fs.map ai))),x6,x7,x8,x9]=
   U (P [U (Z (N [N A,N B,N C,N (w.XN.map ao)])),U (Z (N G)),U (Y (Yw (kvT gs))),U (Z (E wid)),U (Yz (Q (eA.map mk2))),U (Y (Q ((fs++da w.XN gs wid (eA.drop j)).map ai))),y6,y7,y8,y9])
 |0,j,fs,x6,x7,x8,x9,hm,hf=>by
  rw[List.drop_of_length_le (by lia)];exact⟨x6,x7,x8,x9,by simp[da]⟩
 |m+1,j,fs,x6,x7,x8,x9,hm,hf=>by
  have hj:j<eA.length:=by lia
  have ed:=GbQ hj;have r0:=hr eA[j] (GaB hj);obtain⟨y8,y9,e⟩:=rS (gs:=gs) (wid:=wid) (A:=A) (B:=B) (C:=C) (G:=G) r0.1 r0.2 (eA.drop (j+1)) fs x8 x9 (λl hl=>hr l (List.mem_of_mem_drop hl)) (by rw[Gct];lia);have lz:=oA w.XN gs wid eA[j] (eA.drop (j+1));rw[Gct] at lz;obtain⟨z6,z7,z8,z9,e2⟩:=pA hr hn m (j+1) (fs++jZ w.XN gs wid eA[j] (eA.drop (j+1))) (U (Z (E (j:Int)))) (U (Z (mk2 eA[j]))) y8 y9 (by lia) (by rw[Gal];lia);refine⟨z6,z7,z8,z9, ?_⟩;have ev:=M0 (Ji (eA.map mk2) j) ((by rw[<-List.map_drop];exact e):XS (gN 8) bU ((eA.map mk2).drop (j+1)) _=_);rw[ed]
  conv=>rhs;unfold da
  rw[<-Gbe];show XS (gT [6,7]) cx (N [E (j:Int),mk2 eA[j]]::fG (j+1) ((eA.drop (j+1)).map mk2)) _=_;simp only[XS,gT,gNs,GaG,GaH,Option.bind_some,ev];exact e2
def wide(bs:List Tr):Int:=match bs.map (·.2.2) with
 |[]=>0
 |n::ns=>o5 n ns
def M1{C G:List D}(hg:dS [N C]=U (Yw kv))(zc:C.length<1000)(hw:cO (gN 0) fM (Yb (vE 0) (kE (E 2))) C [J]=U B')(hm:mmD o5 (E 0) (Q B')=U ⟨.c,E wid⟩)(zg:G.length<1000)(hc:cO (gN 0) fM (aU (aa (Yb (vE 0) (kE (E 1))) (aa (Yb (vE 0) (kE (E 0))) ag))) G [J]=U R)(hs:XU [Q R]=U ⟨.tn,Q R'⟩)
  (hl:XS (gT [6,7]) cx (fG 0 R') [U (Z (N [N A,N B,N C,N XJ])),U (Z (N G)),U (Y (Yw kv)),U (Z (E wid)),U (Yz (Q R')),U (Y (Q [])),J,J,J,J]=U (P [U (Z (N [N A,N B,N C,N XJ])),U (Z (N G)),U (Y (Yw kv)),U (Z (E wid)),U (Yz (Q R')),U (Y (Q F)),y6,y7,y8,y9]))(im:aB F=O):
  fR [N [N A,N B,N C,N XJ],N G]=U (Q F):=by
 have z1:C.length<=16777216:=by lia
 have z2:G.length<=16777216:=by lia
 have rk:ju (Yw kv)=⟨.tn,Yw kv⟩:=rfl;refine aN rfl ?_;refine(ae (by simp[hg];rfl)).trans ?_;refine(ae (by simp[af,DL.XT,hw,hm,z1];rfl)).trans ?_;refine(ae (by simp[af,DL.XT,hc,hs,z2];rfl)).trans ?_;refine(ae (by simp;rfl)).trans ?_;refine(ae (by simp[hl];rfl)).trans ?_;simp[im]
noncomputable def gvR(gv:List Tr):List (Int×Int):=gv.map λt=>(t.2.1,t.1)
def SN{w:World}{gv:List Tr}(W:aL w)(hg:bQ w.XN.length gv)(hl:gv.length<64):∃eA,bH ((gvR gv).map mk2)=eA.map mk2/\eA.Perm (gvR gv)/\(eA.Pairwise λa b=>a.1<=b.1)/\fR [aH w,N (gv.map XZ)]=U (Q ((da w.XN (w.br.foldl aQ []) (wide w.br) eA).map ai)):=by
 obtain⟨eA,r1,r2,r3⟩:=AM (gvR gv);refine⟨eA,r1,r2,r3, ?_⟩;have lr:eA.length=gv.length:=by rw[r2.length_eq];simp[gvR]
 have hr:∀l∈eA,0<=l.2/\l.2<w.XN.length:=λl hl=>by
  obtain⟨t,ht,rfl⟩:=Gas.mp (r2.mem_iff.mp hl);exact hg t ht
 have b12:=W.b12;have hw:=dW (g:=gN 0) (f:=Yb (vE 0) (kE (E 2))) XZ (λenv=>∃y,env=[y]) (λt=>E t.2.2) w.br [J] ⟨J,rfl⟩ (by
  rintro t ht env ⟨y,rfl⟩;exact⟨_,rfl,⟨_,rfl⟩,.c,by simp[XZ],rfl⟩)
 have hc:=dW (g:=gN 0) (f:=aU (aa (Yb (vE 0) (kE (E 1))) (aa (Yb (vE 0) (kE (E 0))) ag))) XZ (λenv=>∃y,env=[y]) (λt=>mk2 (t.2.1,t.1)) gv [J] ⟨J,rfl⟩ (by
  rintro t ht env ⟨y,rfl⟩;exact⟨_,rfl,⟨_,rfl⟩,.c,by simp[XZ,mk2,af],rfl⟩)
 have e1:gv.map (λt=>mk2 (t.2.1,t.1))=(gvR gv).map mk2:=by unfold gvR;rw[GaN];rfl
 have e2:w.br.map (λt=>E t.2.2)=(w.br.map (·.2.2)).map E:=by rw[GaN];rfl
 rw[e1] at hc;rw[e2] at hw;have hm:mmD o5 (E 0) (Q ((w.br.map (·.2.2)).map E))=U ⟨.c,E (wide w.br)⟩:=by
  unfold mmD jw wide;simp only[Option.bind_some,FV];cases w.br.map (·.2.2)<;>rfl
 have hs:=rP (ms:=gvR gv) (by simp[gvR];exact hl);rw[r1] at hs;obtain⟨y6,y7,y8,y9,e⟩:=pA hr (by lia) _ 0 [] J J J J rfl (by simp);exact M1 (PU b12) (by rw[Gae];lia) hw hm (by rw[Gae];lia) hc hs e (bW _)
abbrev Tg:=(Int×Int)×List (Int×Int)
def kD(st:List Tg):Rws:=st.map λe=>([Sum.inl e.1.1,Sum.inl e.1.2],Q (e.2.map mk2))
noncomputable def tk(os:List XW)(t:Tr):Int×Int:=match os[t.1.toNat]? with
 |some o=>(o.ay,o.ax)
 |none=>(0,0)
noncomputable def DU(st:List Tg)(k m:Int×Int):List Tg:=match st.findIdx? (λe=>decide (e.1=k)) with
 |some j=>st.set j (k,((st[j]?.map (·.2)).getD [])++[m])
 |none=>st++[(k,[m])]
def Jj(k:Int×Int)(e:Tg):decide (([Sum.inl e.1.1,Sum.inl e.1.2]:List Key)=[Sum.inl k.1,Sum.inl k.2])=decide (e.1=k):=by
 obtain⟨⟨a,b⟩,l⟩:=e;obtain⟨c,d⟩:=k;simp
def Jk{st:List Tg}(hz:st.length<1000)(hm:∀e∈st,e.2.length<1000):I0 (kD st) [Sum.inl k.1,Sum.inl k.2] (mk2 m)=U (kD (DU st k m)):=by
 unfold I0 DU;have z:(kD st).length<af:=by unfold kD af;rw[Gae];lia
 rw[Gan z];have ef:(kD st).findIdx? (λp=>decide (p.1=[Sum.inl k.1,Sum.inl k.2]))=st.findIdx? (λe=>decide (e.1=k)):=by
  unfold kD;rw[GdV];congr 1
  funext e
  exact Jj k e
 rw[ef];cases h:st.findIdx? (λe=>decide (e.1=k)) with
 |none=>
  unfold kD;simp_all
 |some j=>
  obtain⟨hj,_⟩:=Gcq.mp h;have e1:(kD st)[j]? =U ([Sum.inl st[j].1.1,Sum.inl st[j].1.2],Q (st[j].2.map mk2)):=by
   unfold kD;rw[Gap,Gac hj]
   rfl
  have z2:(st[j].2.map mk2).length<af:=by
   have:=hm st[j] (GaB hj);rw[Gae];unfold af;lia
  simp only[e1];rw[Gan z2];rw[Gac hj];unfold kD;simp
structure ly(os:List XW)(pre:List Tr)(st:List Tg):Prop where
 nd:(st.map (·.1)).Nodup
 ms:∀e∈st,e.2=(pre.filter λt=>decide (tk os t=e.1)).map λt=>(t.2.1,t.2.2)
 cov:∀t∈pre,tk os t∈st.map (·.1)
 back:∀e∈st,∃t∈pre,tk os t=e.1
 ln:st.length<=pre.length
variable{os:List XW}
def ly.step{pre:List Tr}{st:List Tg}(I:ly os pre st)(t:Tr):ly os (pre++[t]) (DU st (tk os t) (t.2.1,t.2.2)):=by
 obtain⟨nd,ms,cov,back,ln⟩:=I;generalize hk:tk os t=k;have UX:∀q:Int×Int,((pre++[t]).filter λt=>decide (tk os t=q))=(pre.filter λt=>decide (tk os t=q))++(if k=q then[t] else[]):=λq=>by
  by_cases c:k=q
  .simp[hk,c]
  .simp[hk,c]
 unfold DU;cases h:st.findIdx? (λe=>decide (e.1=k)) with
 |none=>
  have no:=List.findIdx?_eq_none_iff.mp h;have nk:k∉st.map (·.1):=λhm=>by
   obtain⟨e,he,ek⟩:=Gas.mp hm;have:=no e he;simp[ek] at this
  have pre0:(pre.filter λt=>decide (tk os t=k))=[]:=by
   rw[List.filter_eq_nil_iff];intro x hx;have:=cov x hx;simp;intro q;rw[q] at this;exact nk this
  refine⟨?_, ?_, ?_, ?_,by simp;lia⟩
  .rw[GaC,GaW];refine⟨nd,by simp, ?_⟩;intro a ha b hb;simp at hb;rw[hb]
   exactλq=>nk (q▸ha)
  .intro e he;rcases Gav.mp he with he|he
   .rw[UX,Gah (λq=>nk (Gas.mpr ⟨e,he,q.symm⟩)),Gbb];exact ms e he
   .simp at he;rw[he,UX,pre0];simp
  .intro x hx;rw[GaC];rcases Gav.mp hx with hx|hx
   .exact GbT _ (cov x hx)
   .simp at hx;rw[hx,hk];simp
  .intro e he;rcases Gav.mp he with he|he
   .obtain⟨x,hx,q⟩:=back e he;exact⟨x,GbT _ hx,q⟩
   .simp at he;rw[he];exact⟨t,by simp,hk⟩
 |some j=>
  obtain⟨hj,hp,_⟩:=Gcq.mp h;have ek:st[j].1=k:=Gar hp;dsimp only;rw[Gac hj];have keys:(st.set j (k,(((U st[j]).map (·.2)).getD [])++[(t.2.1,t.2.2)])).map (·.1)=st.map (·.1):=by
   rw[List.map_set];have:k=(st.map (·.1))[j]'(by simpa using hj):=by rw[Gcb,ek]
   conv=>lhs;arg 3;rw[this]
   exact List.set_getElem_self _
  have mem:∀e∈st.set j (k,(((U st[j]).map (·.2)).getD [])++[(t.2.1,t.2.2)]),e=(k,st[j].2++[(t.2.1,t.2.2)])\/(e∈st/\e.1≠k):=by
   intro e he;obtain⟨i,hi,rfl⟩:=GbC he;have xa :i<st.length:=by simpa using hi
   by_cases c:j=i
   .subst c;simp
   .right
    rw[List.getElem_set_ne c];refine⟨GaB xa,λq=>c ?_⟩;have e1:(st.map (·.1))[j]'(by simpa using hj)=(st.map (·.1))[i]'(by simpa using xa):=by rw[Gcb,Gcb,ek,q]
    exact(List.getElem_inj nd).mp e1
  refine⟨by rw[keys];exact nd, ?_, ?_, ?_,by simp;lia⟩
  .intro e he;rcases mem e he with q| ⟨q1,q2⟩
   .rw[q];have:=ms st[j] (GaB hj);rw[ek] at this;rw[UX,Gan rfl,GaC,<-this]
    rfl
   .rw[UX,Gah (λz=>q2 z.symm),Gbb];exact ms e q1
  .intro x hx;rw[keys];rcases Gav.mp hx with hx|hx
   .exact cov x hx
   .simp at hx;rw[hx,hk,<-ek];exact Gas.mpr ⟨_,GaB hj,rfl⟩
  .intro e he;rcases mem e he with q| ⟨q1,q2⟩
   .rw[q];exact⟨t,by simp,hk⟩
   .obtain⟨x,hx,q⟩:=back e q1;exact⟨x,GbT _ hx,q⟩
def ly.SO{pre:List Tr}{st:List Tg}{e:Tg}(I:ly os pre st)(he:e∈st):e.2.length<=pre.length:=by
 rw[I.ms e he,Gae];exact GbO _ _
def M3{eA:Rws}{OD:D}(hO:atD XJ n=U OD)(im:OD.imm=O)(h1:ixD OD (E 1)=U (E g))(h2:ixD OD (E 2)=U (E s))(hs:I0 eA [Sum.inl g,Sum.inl s] (N [E h,E a])=U yp):
  bL [U (Z (N [N A,N B,N C,N XJ])),U (Z (N G)),J,U (Z (N [E n,E h,E a])),x4] eA=U ([U (Z (N [N A,N B,N C,N XJ])),U (Z (N G)),J,U (Z (N [E n,E h,E a])),U (Z OD)],yp):=by
 unfold bL;simp[hO,h1,h2,hs,af]
theorem uG{w:World}(W:aL w):∀gv pre st x3 x4,bQ w.XN.length gv->ly w.XN pre st->pre.length+gv.length<64->∃y3 y4 xH,ly w.XN (pre++gv) xH /\
  qL 3 bL (gv.map XZ) [U (Z (N [N A,N B,N C,N (w.XN.map ao)])),U (Z (N G)),J,x3,x4] (kD st)=U ([U (Z (N [N A,N B,N C,N (w.XN.map ao)])),U (Z (N G)),J,y3,y4],kD xH)
 |[],pre,st,x3,x4,_,I,_=> ⟨x3,x4,st,by rw[Gbb];exact I,by simp⟩
 |t::gv,pre,st,x3,x4,hg,I,hl=>by
  rw[GaF] at hl;have g0:=hg t Gaj;obtain⟨n,hn⟩:=GaJ g0.1;have xd :n<w.XN.length:=by lia
  have hO:atD (w.XN.map ao) t.1=U (ao w.XN[n]):=by
   rw[hn,bO,Gap,Gac xd]
   rfl
  have ok:=W.oo w.XN[n] (GaB xd);have ek:tk w.XN t=(w.XN[n].ay,w.XN[n].ax):=by
   unfold tk;simp_all
  have ln:=I.ln;have sd:=Jk (st:=st) (k:=tk w.XN t) (m:=(t.2.1,t.2.2)) (by lia) (λe he=>by have:=I.SO he;lia);have ev:=M3 (A:=A) (B:=B) (C:=C) (G:=G) (x4:=x4) hO (cE _ ok.ti) rfl rfl (by rw[ek] at sd;exact sd);obtain⟨y3,y4,xH,I',e⟩:=uG W gv (pre++[t]) _ (U (Z (XZ t))) (U (Z (ao w.XN[n]))) (λx hx=>hg x (Gaf _ hx)) (I.step t) (by simp;lia);refine⟨y3,y4,xH,by rw[Gbe] at I';exact I', ?_⟩;rw[Gax];have td:N [E t.1,E t.2.1,E t.2.2]=XZ t:=rfl;rw[td] at ev;rw[ek] at e;simp only[qL,GaG,GaH,ev];exact e
def G5(ig:aB G=O)(h:qL 3 bL G [U (Z (N [N A,N B,N C,N XJ])),U (Z (N G)),J,J,J] []=U ([U (Z (N [N A,N B,N C,N XJ])),U (Z (N G)),J,y3,y4],kv)):cB [N [N A,N B,N C,N XJ],N G]=U (Yw kv):=by
 refine aN rfl ?_;unfold dg;simp[ig,h]
def M4{w:World}{gv:List Tr}(W:aL w)(hg:bQ w.XN.length gv)(hl:gv.length<64):∃st,ly w.XN gv st/\cB [aH w,N (gv.map XZ)]=U (Yw (kD st)):=by
 obtain⟨y3,y4,st,I,e⟩:=uG W gv [] [] J J hg ⟨by simp,by simp,by simp,by simp,by simp⟩ (by simpa using hl);exact⟨st,by simpa using I,G5 (bK gv) e⟩
def k7(ns:List Int):List Int:=(bH ((ddF ns).map E)).map unI
def jL(ns:List Int):(k7 ns).Pairwise (λa b=>a<b)/\(∀x,x∈k7 ns↔x∈ns)/\(k7 ns).length<=ns.length:=by
 obtain⟨S,h1,h2,h3,h4⟩:=Jf ns;have e:k7 ns=S:=by
  unfold k7;rw[h1,GaN]
  conv=>rhs;rw[<-GbS S]
  exact GaO λ_ _=>rfl
 rw[e];exact⟨h2,h3,h4⟩
noncomputable def iL:Cap->Int->Int->Bool
 | .flat H _,h,a=>decide (h -H<a)&&decide (a<=h)
 | .kilo H _ _,h,a=>decide (h -H<a)&&decide (a<=h)
 | .ever _,h,a=>decide (a<=h)
def jo(c:Cap)(ms:List (Int×Int))(h:Int):Int:=(ms.map λp=>if iL c h p.1 then p.2 else 0).sum
noncomputable def oB:Cap->D
 | .flat H _=> E H
 | .kilo H _ _=> E H
 | .ever _=> YA
def SQ(ms:List (Int×Int)):∃H:Int,∀p∈ms,∀q∈ms,q.1 -H<p.1:=by
 have:∃B:Int,∀p∈ms,-B<p.1/\p.1<B:=by
  induction ms with
  |nil=>exact⟨0,by simp⟩
  |cons p ms ih=>
   obtain⟨B,hB⟩:=ih;refine⟨(if B<0 then -B else B)+(if p.1<0 then -p.1 else p.1)+1, ?_⟩;intro q hq;rcases Gat.mp hq with rfl|hq
   .split<;>split<;>lia
   .grind
 obtain⟨B,hB⟩:=this;refine⟨2*B,λp hp q hq=> ?_⟩
 grind
def Jl{ms:List (Int×Int)}(ok:lO c)(hl:ms.length<64):jT [Q (ms.map mk2),oB c]=U (Q (((k7 (ms.map (·.1))).map λh=>(h,jo c ms h)).map mk2)):=by
 obtain⟨h1,h2,h3⟩:=jL (ms.map (·.1));have fin:∀(H:Int),(∀h,h∈ms.map (·.1)->∀p∈ms,wt H h p=if iL c h p.1 then p.2 else 0)->LY ms H (k7 (ms.map (·.1)))=(k7 (ms.map (·.1))).map λh=>(h,jo c ms h):=λH e=>by
  refine GaO λh hh=> ?_;unfold W jo;rw[GaO λp hp=>e h ((h2 h).mp hh) p hp]
 have lim:∀(H h:Int) (p:Int×Int),wt H h p=if(decide (h -H<p.1)&&decide (p.1<=h)) then p.2 else 0:=λH h p=>by
  unfold wt;simp_all
 cases c with
 |flat H t=>
  rw[<-fin H (λh _ p _=>lim H h p)];exact rR (.inl ⟨rfl,ok.1⟩) (List.Perm.refl _) hl h1 h2
 |kilo H t p=>
  rw[<-fin H (λh _ p _=>lim H h p)];exact rR (.inl ⟨rfl,ok.1⟩) (List.Perm.refl _) hl h1 h2
 |ever t=>
  obtain⟨H,hH⟩:=SQ ms;rw[<-fin H (λh hh p hp=>by
   obtain⟨q,hq,rfl⟩:=Gas.mp hh;rw[lim];have:=hH p hp q hq;simp[iL,this])]
  exact rR (.inr ⟨rfl,hH⟩) (List.Perm.refl _) hl h1 h2
def dZ(ws:List Tr)(c:Cap)(g s k:Int)(r:Int×Int):List Flt:=match cF c (wgt g r.1 ws J) with
 |some top=>if r.2>top then[("cap",[g,s,k,r.1,r.2,top])] else[]
 |none=>[]
def jV(ws:List Tr)(g s k:Int)(c:Cap)(ms:List (Int×Int)):List Flt:=((k7 (ms.map (·.1))).map λh=>(h,jo c ms h)).flatMap (dZ ws c g s k)
def gM(ws:List Tr)(g s:Int)(ms:List (Int×Int)):Nat->List Cap->List Flt
 |_,[]=>[]
 |k,c::cs=>jV ws g s (k:Int) c ms++gM ws g s ms (k+1) cs
def jW(ws:List Tr)(c:Cap)(g s k:Int)(r:Int×Int):(dZ ws c g s k r).length<=1:=by
 unfold dZ;split
 .split<;>simp
 .simp
theorem nG{α β:Type}(f:α->List β)(h:∀a,(f a).length<=1):∀l:List α,(l.flatMap f).length<=l.length
 |[]=>by simp
 |a::l=>by
  have h1:=h a;have h2:=nG f h l;simp;simp at h2;lia
def rT(ws:List Tr)(g s k:Int)(c:Cap)(ms:List (Int×Int)):(jV ws g s k c ms).length<=ms.length:=by
 unfold jV;have h1:=nG _ (jW ws c g s k) ((k7 (ms.map (·.1))).map λh=>(h,jo c ms h));have h2:=(jL (ms.map (·.1))).2.2;rw[Gae] at h1 h2;lia
theorem kY(ws:List Tr)(g s:Int)(ms:List (Int×Int)):∀k cs,(gM ws g s ms k cs).length<=cs.length*ms.length
 |_,[]=>by simp[gM]
 |k,c::cs=>by
  have h1:=rT ws g s (k:Int) c ms;have h2:=kY ws g s ms (k+1) cs;unfold gM;rw[Gal,GaF];lia
def G6(to:Option Int)(g s k r1 r2:Int):List D:=match to with
 |some top=>if r2>top then[N [X "cap",E g,E s,E k,E r1,E r2,E top]] else[]
 |none=>[]
def Q0{W F:List D}{T0:D}(ew:dA [N W,E g,E r1]=U (bZ wo))(eb:j6 [cd,bZ wo]=U (bZ to))(hz:F.length<100000):
  fj [e0,U (Z (N W)),e2,U (Y (Q F)),U (Z (N [E g,E s])),e5,U (Z (E g)),U (Z (E k)),U (Z cd),e9,U (Z (N [E r1,E r2])),eM]=
   U (P [e0,U (Z (N W)),e2,U (Y (Q (F++G6 to g s k r1 r2))),U (Z (N [E g,E s])),e5,U (Z (E g)),U (Z (E k)),U (Z cd),e9,U (Z (N [E r1,E r2])),U (Z (bZ to))]):=by
 have z:F.length<16777216:=by lia
 have xI :=aV (bY wo);have rt:=aV (bY to);refine(ae (by simp[ew,xI,eb,rt];rfl)).trans ?_;cases to with
 |none=>simp[G6]
 |some top=>
  by_cases c:r2>top
  .have c' :=c;simp[c',z,af,G6]
  .have c' :=c;simp[c',G6]
theorem AR{ws:List Tr}(ok:lO c):∀(rs:List (Int×Int)) (fs:List Flt) (eI eM:Os),fs.length+rs.length<100000->∃eO eU,
  XS (gN 10) fj (rs.map mk2) [e0,U (Z (N (ws.map XZ))),e2,U (Y (Q (fs.map ai))),U (Z (N [E g,E s])),e5,U (Z (E g)),U (Z (E k)),U (Z (bB c)),e9,eI,eM]=
   U (P [e0,U (Z (N (ws.map XZ))),e2,U (Y (Q ((fs++rs.flatMap (dZ ws c g s k)).map ai))),U (Z (N [E g,E s])),e5,U (Z (E g)),U (Z (E k)),U (Z (bB c)),e9,eO,eU])
 |[],fs,eI,eM,_=> ⟨eI,eM,by simp⟩
 |r::rs,fs,eI,eM,hz=>by
  rw[GaF] at hz;have ew:=iJ (ws:=ws) (g:=g) (h:=r.1);have eb:=Cd (w:=wgt g r.1 ws J) ok;have ev:=Q0 (e0:=e0) (e2:=e2) (e5:=e5) (e9:=e9) (eM:=eM) (F:=fs.map ai) (T0:= YA) (s:=s) (k:=k) (r2:=r.2) ew eb (by rw[Gae];lia);have eg:G6 (cF c (wgt g r.1 ws J)) g s k r.1 r.2=(dZ ws c g s k r).map ai:=by
   unfold dZ G6;cases cF c (wgt g r.1 ws J) with
   |none=>rfl
   |some top=>
    dsimp only;split<;>rfl
  rw[eg,<-GaC] at ev;have l1:=jW ws c g s k r;obtain⟨eO,eU,e⟩:=AR ok rs (fs++dZ ws c g s k r) (U (Z (mk2 r))) (U (Z (bZ (cF c (wgt g r.1 ws J))))) (by rw[Gal];lia);refine⟨eO,eU, ?_⟩;rw[Gax,GaY,<-Gbe];have e2:N [E r.1,E r.2]=mk2 r:=rfl;rw[e2] at ev;simp only[XS,gN,GaG,GaH,Option.bind_some,ev];exact e
def Q1(hs:jT [Q XM,oB c]=U (Q R))(h:XS (gN 10) fj R [e0,e1,e2,e3,e4,U (Z (Q XM)),e6,e7,U (Z (bB c)),U (Z (oB c)),eI,eM]=U (P e')):
  cW [e0,e1,e2,e3,e4,U (Z (Q XM)),e6,e7,U (Z (bB c)),x9,eI,eM]=U (P e'):=by
 refine(ae (e:=[e0,e1,e2,e3,e4,U (Z (Q XM)),e6,e7,U (Z (bB c)),U (Z (oB c)),eI,eM]) ?_).trans ?_
 .cases c<;>simp[bB,oB]
 .simp_all
theorem uH{ws:List Tr}{ms:List (Int×Int)}(hm:ms.length<64):∀cs k fs x7 x8 x9 eI eM,(∀c∈cs,lO c)->fs.length+cs.length*ms.length<50000->∃y7 y8 y9 eO eU,
  XS (gT [7,8]) cW (fG k (cs.map bB)) [e0,U (Z (N (ws.map XZ))),e2,U (Y (Q (fs.map ai))),U (Z (N [E g,E s])),U (Z (Q (ms.map mk2))),U (Z (E g)),x7,x8,x9,eI,eM]=
   U (P [e0,U (Z (N (ws.map XZ))),e2,U (Y (Q ((fs++gM ws g s ms k cs).map ai))),U (Z (N [E g,E s])),U (Z (Q (ms.map mk2))),U (Z (E g)),y7,y8,y9,eO,eU])
 |[],k,fs,x7,x8,x9,eI,eM,_,_=> ⟨x7,x8,x9,eI,eM,by simp[gM]⟩
 |c::cs,k,fs,x7,x8,x9,eI,eM,ok,hz=>by
  have ok0:=ok c Gaj;rw[GaF] at hz;have es:=Jl ok0 hm;have hl:=(jL (ms.map (·.1))).2.2;rw[Gae] at hl;obtain⟨eO,eU,e⟩:=AR (ws:=ws) (g:=g) (s:=s) (k:=(k:Int)) (e0:=e0) (e2:=e2) ok0 ((k7 (ms.map (·.1))).map λh=>(h,jo c ms h)) fs eI eM (by rw[Gae];lia);have ev:=Q1 (x9:=x9) es e;have lz:=rT ws g s (k:Int) c ms;obtain⟨z7,z8,z9,xV,yU,e'⟩:=uH hm cs (k+1) (fs++jV ws g s (k:Int) c ms) (U (Z (E (k:Int)))) (U (Z (bB c))) (U (Z (oB c))) eO eU (λx hx=>ok x (Gaf _ hx)) (by rw[Gal];lia);refine⟨z7,z8,z9,xV,yU, ?_⟩
  conv=>rhs;unfold gM
  rw[<-Gbe];show XS (gT [7,8]) cW (N [E (k:Int),bB c]::fG (k+1) (cs.map bB)) _=_;simp only[XS,gT,gNs,GaG,GaH,Option.bind_some,ev];exact e'
def tgF(ss:List fW)(ws:List Tr)(e:Tg):List Flt:=gM ws e.1.1 e.1.2 e.2 0 ((ss[e.1.2.toNat]?.map (·.az)).getD [])
def SR{W:List D}{sz:D}(hS:atD B s=U (N [nm,sz,N Cs,yg]))
  (h:XS (gT [7,8]) cW (fG 0 Cs) [U (Z (N [N A,N B,N C,N XJ])),U (Z (N W)),e2,U (Y (Q F)),U (Z (N [E g,E s])),U (Z (Q XM)),U (Z (E g)),x7,x8,x9,eI,eM]=U (P [U (Z (N [N A,N B,N C,N XJ])),U (Z (N W)),e2,U (Y (Q F')),U (Z (N [E g,E s])),U (Z (Q XM)),U (Z (E g)),y7,y8,y9,eO,eU])):
  fq [U (Z (N [N A,N B,N C,N XJ])),U (Z (N W)),e2,U (Y (Q F)),U (Z (N [E g,E s])),U (Z (Q XM)),x6,x7,x8,x9,eI,eM]=U (P [U (Z (N [N A,N B,N C,N XJ])),U (Z (N W)),e2,U (Y (Q F')),U (Z (N [E g,E s])),U (Z (Q XM)),U (Z (E g)),y7,y8,y9,eO,eU]):=by
 refine(ae (e:=[U (Z (N [N A,N B,N C,N XJ])),U (Z (N W)),e2,U (Y (Q F)),U (Z (N [E g,E s])),U (Z (Q XM)),U (Z (E g)),x7,x8,x9,eI,eM]) (by simp)).trans ?_;simp[hS,h]
theorem DV{w:World}{ws:List Tr}(W:aL w):∀(st:List Tg) (fs:List Flt) (x4 x5 x6 x7 x8 x9 eI eM:Os),(∀e∈st,0<=e.1.2/\e.1.2<w.au.length/\e.2.length<64)->fs.length+st.length*256<40000->∃y4 y5 y6 y7 y8 y9 eO eU,
  XS (gT [4,5]) fq (cP (kD st)) [U (Z (N [N A,N (w.au.map aK),N C,N XJ])),U (Z (N (ws.map XZ))),e2,U (Y (Q (fs.map ai))),x4,x5,x6,x7,x8,x9,eI,eM]=
   U (P [U (Z (N [N A,N (w.au.map aK),N C,N XJ])),U (Z (N (ws.map XZ))),e2,U (Y (Q ((fs++st.flatMap (tgF w.au ws)).map ai))),y4,y5,y6,y7,y8,y9,eO,eU])
 |[],fs,x4,x5,x6,x7,x8,x9,eI,eM,_,_=> ⟨x4,x5,x6,x7,x8,x9,eI,eM,by simp[kD,cP]⟩
 |e::st,fs,x4,x5,x6,x7,x8,x9,eI,eM,he,hz=>by
  rw[GaF,Nat.succ_mul] at hz;obtain⟨s0,s1,ml⟩:=he e Gaj;obtain⟨n,hn⟩:=GaJ s0;have xd :n<w.au.length:=by lia
  have hS:atD (w.au.map aK) e.1.2=U (N [X w.au[n].name,N ((w.au[n].part::w.au[n].more).map E),N (w.au[n].az.map bB),E w.au[n].young]):=by
   rw[hn,bO,Gap,Gac xd]
   rfl
  have so:=W.so w.au[n] (GaB xd);have et:tgF w.au ws e=gM ws e.1.1 e.1.2 e.2 0 w.au[n].az:=by
   unfold tgF;rw[hn,Gbq,Gac xd]
   rfl
  have cl:=so.cl;have lz:=kY ws e.1.1 e.1.2 e.2 0 w.au[n].az;have lz2:w.au[n].az.length*e.2.length<=4*64:=Nat.mul_le_mul cl (by lia);obtain⟨y7,y8,y9,eO,eU,ec⟩:=uH (ws:=ws) (g:=e.1.1) (s:=e.1.2) (ms:=e.2) (e0:=U (Z (N [N A,N (w.au.map aK),N C,N XJ]))) (e2:=e2) ml w.au[n].az 0 fs x7 x8 x9 eI eM so.ok (by lia);have ev:=SR (x6:=x6) hS ec;rw[<-et] at ev lz;obtain⟨z4,z5,z6,z7,z8,z9,xV,yU,e'⟩:=DV W (ws:=ws) (A:=A) (C:=C) (XJ:=XJ) (e2:=e2) st (fs++tgF w.au ws e) (U (Z (N [E e.1.1,E e.1.2]))) (U (Z (Q (e.2.map mk2)))) (U (Z (E e.1.1))) y7 y8 y9 eO eU (λx hx=>he x (Gaf _ hx)) (by rw[Gal];lia);refine⟨z4,z5,z6,z7,z8,z9,xV,yU, ?_⟩;rw[GaY,<-Gbe];have ei:cP (kD (e::st))=N [N [E e.1.1,E e.1.2],Q (e.2.map mk2)]::cP (kD st):=rfl;rw[ei];simp only[XS,gT,gNs,GaG,GaH,Option.bind_some,ev];exact e'
def M5{W:List D}{kv:Rws}(hm:cB [N [N A,N B,N C,N XJ],N G]=U (Yw kv))
  (h:XS (gT [4,5]) fq (cP kv) [U (Z (N [N A,N B,N C,N XJ])),U (Z (N W)),U (Z (N G)),U (Y (Q [])),J,J,J,J,J,J,J,J]=U (P [U (Z (N [N A,N B,N C,N XJ])),U (Z (N W)),U (Z (N G)),U (Y (Q F)),y4,y5,y6,y7,y8,y9,eO,eU]))(im:aB F=O):
  fQ [N [N A,N B,N C,N XJ],N W,N G]=U (Q F):=by
 have rk:ju (Yw kv)=⟨.tn,Yw kv⟩:=rfl;refine aN rfl ?_;refine(ae (by simp;rfl)).trans ?_;refine(ae (by simp[hm,h];rfl)).trans ?_;simp[im]
theorem kZ{α β:Type}(f:α->List β)(Yr:Nat):∀l:List α,(∀a∈l,(f a).length<=Yr)->(l.flatMap f).length<=l.length*Yr
 |[],_=>by simp
 |a::l,h=>by
  have h1:=h a Gaj;have h2:=kZ f Yr l λx hx=>h x (Gaf _ hx);rw[GaY,Gal,GaF];lia
def SU{w:World}{ws gv:List Tr}(W:aL w)(hg:bQ w.XN.length gv)(hl:gv.length<64):∃st,ly w.XN gv st/\fQ [aH w,N (ws.map XZ),N (gv.map XZ)]=U (Q ((st.flatMap (tgF w.au ws)).map ai))/\(st.flatMap (tgF w.au ws)).length<=20000:=by
 obtain⟨st,I,em⟩:=M4 W hg hl;have ln:=I.ln;have he:∀e∈st,0<=e.1.2/\e.1.2<w.au.length/\e.2.length<64:=λe yr=>by
  obtain⟨t,ht,ek⟩:=I.back e yr;have g0:=hg t ht;obtain⟨n,hn⟩:=GaJ g0.1;have xd :n<w.XN.length:=by lia
  have ok:=W.oo w.XN[n] (GaB xd);have:tk w.XN t=(w.XN[n].ay,w.XN[n].ax):=by
   unfold tk;simp_all
  rw[this] at ek;rw[<-ek];have:=I.SO yr;exact⟨ok.s0,ok.s1,by lia⟩
 obtain⟨y4,y5,y6,y7,y8,y9,eO,eU,e⟩:=DV W st [] J J J J J J J J he (by simp;lia);refine⟨st,I,M5 em e (bW _), ?_⟩;have h1:=kZ (tgF w.au ws) 256 st (λe yr=>by
  have h2:=kY ws e.1.1 e.1.2 e.2 0 ((w.au[e.1.2.toNat]?.map (·.az)).getD []);have h3:((w.au[e.1.2.toNat]?.map (·.az)).getD []).length<=4:=by
   cases h:w.au[e.1.2.toNat]? with
   |none=>simp
   |some s=>exact(W.so s (Gau h)).cl
  have h4:=(he e yr).2.2;have h5:=Nat.mul_le_mul h3 (GcO h4);unfold tgF;lia)
 lia
def c9(w:World)(ws:List Tr)(t:Tr):List Flt:=match w.XN[t.1.toNat]? with
 |some o=>match w.au[o.ax.toNat]?,w.bN[o.ay.toNat]? with
  |some s,U g=>(jK o s g.2 ws t).map λk=>(k,[t.1,t.2.1])
  |_,_=>[]
 |none=>[]
def rV{w:World}{ws:List Tr}{t:Tr}(W:aL w)(h0:0<=t.1)(h1:t.1<w.XN.length):f7 [aH w,N (ws.map XZ),XZ t]=U (Q ((c9 w ws t).map ai))/\(c9 w ws t).length<=5:=by
 obtain⟨n,hn⟩:=GaJ h0;have xd :n<w.XN.length:=by lia
 have ok:=W.oo w.XN[n] (GaB xd);obtain⟨m,hm⟩:=GaJ ok.s0;have sl:=ok.s1;have yx :m<w.au.length:=by lia
 obtain⟨g,hg⟩:=GaJ ok.g0;have gl:=ok.g1;have hg' :g<w.bN.length:=by lia
 have hO:atD (w.XN.map ao) t.1=U (ao w.XN[n]):=by rw[hn,bO,Gap,Gac xd];rfl
 have hS:atD (w.au.map aK) w.XN[n].ax=U (aK w.au[m]):=by rw[hm,bO,Gap,Gac yx];rfl
 have hG:atD (w.bN.map bf) w.XN[n].ay=U (bf w.bN[g]):=by rw[hg,bO,Gap,Gac hg'];rfl
 have e:=PM (C:=w.br.map XZ) (ws:=ws) hO ok.du hS (W.so _ (GaB yx)) hG (cE _ ok.ti);have el:c9 w ws t=(jK w.XN[n] w.au[m] w.bN[g].2 ws t).map λk=>(k,[t.1,t.2.1]):=by
  unfold c9;simp_all
 constructor
 .rw[el,GaN];exact e
 .rw[el,Gae];unfold jK;have h1:=cH (bC w.XN[n].aS t.2.1) "astray";have h2:=cH (decide (w.XN[n].most<t.2.2)) "most";have h3:=cH (decide (t.2.2<1)||decide (¬t.2.2%w.au[m].part=0)) "part";have h4:=cH (w.au[m].az.any bI&&(wgt w.XN[n].ay t.2.1 ws J).isNone) "weight";have h5:=cH (decide (t.2.1<w.bN[g].2+w.au[m].young)) "young";simp only[Gal];lia
def Q2{e0 e2:Os}{F R:List D}(h:f7 [wd,VJ,gd]=U (Q R))(hz:F.length+R.length<100000):
  gG [U (Z wd),e1,U (Z VJ),e3,U (Y (Q F)),U (Z gd)]=U (P [U (Z wd),e1,U (Z VJ),e3,U (Y (Q (F++R))),U (Z gd)]):=by
 have z:F.length+R.length<=16777216:=by lia
 have rl:ju (Q R)=⟨.tn,Q R⟩:=rfl;unfold gG;simp[h,z,af]
theorem uI{w:World}{ws:List Tr}(W:aL w):∀gv fs x5,bQ w.XN.length gv->fs.length+5*gv.length<100000->∃y5,
  XS (gN 5) gG (gv.map XZ) [U (Z (aH w)),e1,U (Z (N (ws.map XZ))),e3,U (Y (Q (fs.map ai))),x5]=U (P [U (Z (aH w)),e1,U (Z (N (ws.map XZ))),e3,U (Y (Q ((fs++gv.flatMap (c9 w ws)).map ai))),y5])
 |[],fs,x5,_,_=> ⟨x5,by simp⟩
 |t::gv,fs,x5,hg,hz=>by
  rw[GaF] at hz;have g0:=hg t Gaj;obtain⟨e,l5⟩:=rV W (ws:=ws) g0.1 g0.2;have ev:=Q2 (e0:=J) (e1:=e1) (e2:=J) (e3:=e3) (F:=fs.map ai) e (by rw[Gae,Gae];lia);rw[<-GaC] at ev;obtain⟨y5,e'⟩:=uI W gv (fs++c9 w ws t) (U (Z (XZ t))) (λx hx=>hg x (Gaf _ hx)) (by rw[Gal];lia);refine⟨y5, ?_⟩;rw[Gax,GaY,<-Gbe];simp only[XS,gN,GaG,GaH,Option.bind_some,ev];exact e'
theorem AS:∀(a b:List Int),lH (a.map E) (b.map E)=O
 |[],b=>by cases b<;>rfl
 |x::a,[]=>rfl
 |x::a,y::b=>by
  rw[Gax,Gax];unfold lH;split
  .exact AS a b
  .rfl
def AU(fs:List Flt):XX (fs.map ai)=O:=by
 have h1:(fs.map ai).all (lu 2)=O:=by
  rw[Gbx,Gaq];intro p _;show((tyD (X p.1)==2)&&(p.2.map E).all lj)=O;rw[Gbx,Gai];exact⟨rfl,Gaq.mpr λ_ _=>rfl⟩
 have h2:((fs.map ai).all λx=>(fs.map ai).all λy=>A7 x y)=O:=by
  rw[Gbx,Gaq];intro p _;simp only[GbL];rw[Gbx,Gaq];intro q _;show lH (X p.1::p.2.map E) (X q.1::q.2.map E)=O;unfold lH;split
  .exact AS _ _
  .rfl
 unfold XX;rw[h1,h2];simp
theorem lQ:∀(a b:List Int),(a.map E).map b7=(b.map E).map b7->a=b
 |[],[],_=>rfl
 |[],_::_,h=>by simp at h
 |_::_,[],h=>by simp at h
 |x::a,y::b,h=>by
  injection h with h1 h2
  have h3:[1,x]=[1,y]:=h1;simp at h3;rw[h3,lQ a b h2]
theorem DW:∀(a b:List Nat),a.map Int.ofNat=b.map Int.ofNat->a=b
 |[],[],_=>rfl
 |[],_::_,h=>by simp at h
 |_::_,[],h=>by simp at h
 |x::a,y::b,h=>by
  injection h with h1 h2
  rw[Int.ofNat.inj h1,DW a b h2]
def str_inj{a b:Str}(h:a.cps.toList.map Int.ofNat=b.cps.toList.map Int.ofNat):a=b:=by
 have h2:=DW _ _ h;obtain⟨a⟩:=a;simp_all
def wa(h:DL.code (ai f)=DL.code (ai g)):f=g:=by
 have h' :=h;injection h' with h1 h2
 have h3:=h1;injection h3 with _ h4
 exact Prod.ext (str_inj h4) (lQ _ _ h2)
def unF:D->Flt
 | N (X k::ds)=>(k,ds.map unI)
 |_=>("",[])
def Jm(f:Flt):unF (ai f)=f:=by
 show(f.1,(f.2.map E).map unI)=f;rw[GaN];have:f.2.map (unI∘E)=f.2:=by
  conv=>rhs;rw[<-GbS f.2]
  exact GaO λ_ _=>rfl
 rw[this]
def pB(fs:List Flt):List Flt:=(bH (fs.map ai)).map unF
def mK(fs:List Flt):(fs.map ai).map unF=fs:=by
 rw[GaN]
 conv=>rhs;rw[<-GbS fs]
 exact GaO λf _=>Jm f
def rW(fs:List Flt):bH (fs.map ai)=(pB fs).map ai:=by
 unfold pB;rw[GaN]
 conv=>lhs;rw[<-GbS (bH (fs.map ai))]
 refine GaO λx hx=> ?_;obtain⟨f,_,rfl⟩:=Gas.mp ((bT _).mem_iff.mp hx);simp only[GbL,Jm,id]
def iM(fs:List Flt):(pB fs).Perm fs:=by
 have:=(bT (fs.map ai)).map unF;rw[mK] at this;exact this
def nH(fs:List Flt):fg ((pB fs).map ai):=by
 rw[<-rW];exact cQ _
def Ce{a b:List Flt}(hp:a.Perm b)(h1:fg (a.map ai))(h2:fg (b.map ai)):a=b:=by
 have e:=gz (hp.map ai) h1 h2 (λx hx y hy hc=>by
  obtain⟨f,_,rfl⟩:=Gas.mp hx;obtain⟨g,_,rfl⟩:=Gas.mp hy;rw[wa hc])
 have:=congrArg (List.map unF) e;rw[mK,mK] at this;exact this
def Cf(fs:List Flt)(hz:fs.length<64):XU [Q (fs.map ai)]=U ⟨.tn,Q ((pB fs).map ai)⟩:=by
 have z:(fs.map ai).length<64:=by rw[Gae];exact hz
 unfold XU one jw;simp only[Option.bind_some];rw[AU,GaD z,rW]
 rfl
variable{F1 F2 F3:List D}
def Cg{W:List D}(h0:F1++F2++F3=F0)(h1:fQ [wd,N W,N G]=U (Q F1))(h2:fR [wd,N G]=U (Q F2))(h3:dB [wd,N G]=U (Q F3))(z:F1.length+F2.length+F3.length<100000)
  (hl:XS (gN 5) gG G [U (Z wd),U (Z (N [N W,N G])),U (Z (N W)),U (Z (N G)),U (Y (Q F0)),J]=U (P [U (Z wd),U (Z (N [N W,N G])),U (Z (N W)),U (Z (N G)),U (Y (Q F)),y5]))(hs:XU [Q F]=U ⟨.tn,Q R⟩)(iw:aB W=O)(ig:aB G=O)(ir:aB R=O):
  jI [wd,N [N W,N G]]=U (Q R):=by
 have r1:∀L:List D,ju (Q L)=⟨.tn,Q L⟩:=λ_=>rfl;have z1:F1.length+F2.length<=16777216:=by lia
 have z2:F1.length+F2.length+F3.length<=16777216:=by lia
 refine aN rfl ?_;refine(ae (by simp;rfl)).trans ?_;refine(ae (by simp;rfl)).trans ?_;refine(ae (e:=[U (Z wd),U (Z (N [N W,N G])),U (Z (N W)),U (Z (N G)),U (Y (Q F0)),J]) (by rw[<-h0];simp[h1,h2,h3,z1,z2,af])).trans ?_;refine(ae (by simp[hl];rfl)).trans ?_;simp[hs,ir]
theorem rX(os:List XW)(gs:List Tr)(w:Int):∀eA,eA.length<64->(da os gs w eA).length<=64*eA.length
 |[],_=>by simp[da]
 |r::rs,h=>by
  rw[GaF] at h;have h1:=oA os gs w r rs;have h2:=rX os gs w rs (by lia);unfold da;rw[Gal,GaF];lia
def AV{w:World}{ws gv:List Tr}(W:aL w)(hg:bQ w.XN.length gv)(hl:gv.length<64):∃st eA,ly w.XN gv st/\eA.Perm (gvR gv)/\bH ((gvR gv).map mk2)=eA.map mk2/\(eA.Pairwise λa b=>a.1<=b.1)/\
  ((st.flatMap (tgF w.au ws)++da w.XN (w.br.foldl aQ []) (wide w.br) eA++twF (gv.foldl (bc w.XN) [])++gv.flatMap (c9 w ws)).length<64->jI [aH w,N [N (ws.map XZ),N (gv.map XZ)]]=U (Q ((pB (st.flatMap (tgF w.au ws)++da w.XN (w.br.foldl aQ []) (wide w.br) eA++twF (gv.foldl (bc w.XN) [])++gv.flatMap (c9 w ws))).map ai)))/\
  (st.flatMap (tgF w.au ws)++da w.XN (w.br.foldl aQ []) (wide w.br) eA++twF (gv.foldl (bc w.XN) [])++gv.flatMap (c9 w ws)).length<100000:=by
 obtain⟨st,I,h1,z1⟩:=SU (ws:=ws) W hg hl;obtain⟨eA,r1,r2,r3,h2⟩:=SN W hg hl;obtain⟨h3,z3⟩:=LS W hg hl;have lr:eA.length=gv.length:=by rw[r2.length_eq];simp[gvR]
 have z2:=rX w.XN (w.br.foldl aQ []) (wide w.br) eA (by lia);have z3' :(twF (gv.foldl (bc w.XN) [])).length<=64:=by
  unfold twF
  grind
 have z4:(gv.flatMap (c9 w ws)).length<=gv.length*5:=kZ _ 5 gv λt ht=>(rV W (hg t ht).1 (hg t ht).2).2;obtain⟨y5,e⟩:=uI W (ws:=ws) gv (st.flatMap (tgF w.au ws)++da w.XN (w.br.foldl aQ []) (wide w.br) eA++twF (gv.foldl (bc w.XN) [])) J hg (by simp only[Gal];lia);have zz:(st.flatMap (tgF w.au ws)++da w.XN (w.br.foldl aQ []) (wide w.br) eA++twF (gv.foldl (bc w.XN) [])++gv.flatMap (c9 w ws)).length<100000:=by
  simp only[Gal];lia
 refine⟨st,eA,I,r2,r1,r3,λWn=> ?_,zz⟩;rw[GaC,GaC] at e;exact Cg rfl h1 h2 h3 (by simp only[Gae];lia) e (Cf _ Wn) (bK ws) (bK gv) (bW _)
def DX{b e ea la h k:Int}(e1:1<=e)(a0:0<=ea)(l0:0<=la)(al:ea+la<e):(b+k*e -ea<=h/\h<=b+k*e+la)↔((h -(b -ea))/e=k/\h -(b -ea)-k*e<=ea+la):=by
 constructor
 .rintro⟨h1,h2⟩;have h3:k<=(h -(b -ea))/e:=(Int.le_ediv_iff_mul_le (by lia)).mpr (by lia);have h4:(h -(b -ea))/e<k+1:=(Int.ediv_lt_iff_lt_mul (by lia)).mpr (by rw[Int.add_mul];lia);lia
 .rintro⟨h1,h2⟩;have h3:(h -(b -ea))/e*e<=h -(b -ea):=Int.ediv_mul_le _ (by lia);rw[h1] at h3;lia
noncomputable def G7(b e ea la h:Int):D->Option D
 | E k=>if b+k*e -ea<=h/\h<=b+k*e+la then U (E k) else J
 |_=>J
def nI:G7 b e ea la h (E k)=if b+k*e -ea<=h/\h<=b+k*e+la then U (E k) else J:=rfl
def Jn{m:Int}(e1:1<=e)(m0:0<=m)(a0:0<=ea)(l0:0<=la)(al:ea+la<e):(aG 0 m.toNat).findSome? (G7 b e ea la h)=(k9 b e m ea la h).map E:=by
 have iff:=λk=>DX (b:=b) (h:=h) (k:=k) e1 a0 l0 al;unfold k9;generalize hq:(h -(b -ea))/e=q at*;by_cases c:(0<=q/\q<m)/\h -(b -ea)-q*e<=ea+la
 .rw[Gan c];obtain⟨n,hn⟩:=GaJ c.1.1;have hm:E q∈aG 0 m.toNat:=by
   exact Gas.mpr ⟨n,GaS.mpr (by lia),by rw[hn];simp⟩
  have hr:G7 b e ea la h (E q)=U (E q):=by
   rw[nI,Gan ((iff q).mpr ⟨rfl,c.2⟩)]
  cases hf:(aG 0 m.toNat).findSome? (G7 b e ea la h) with
  |none=>rw[List.findSome?_eq_none_iff.mp hf _ hm] at hr;cases hr
  |some v=>
   obtain⟨d,hd,hv⟩:=List.exists_of_findSome?_eq_some hf;obtain⟨i,hi⟩:=Gco hd;obtain⟨xa,rfl⟩:=b9 hi;rw[nI] at hv;simp_all
 .rw[Gah c];rw[Option.map_none,List.findSome?_eq_none_iff];intro d hd;obtain⟨i,hi⟩:=Gco hd;obtain⟨xa,rfl⟩:=b9 hi;rw[nI,Gah];intro cc;have:=(iff _).mp cc;exact c ⟨by lia,by rw[this.1];exact this.2⟩
def nJ{o:XW}(ok:fY o.aS):jJ [ao o,E h]=U (bZ (bM o.aS h)):=by
 have p4:ixD (ao o) (E 4)=U (cu o.aS):=rfl;generalize ao o=OD at*;cases hu:o.aS with
 |asked b=>
  rw[hu] at p4;unfold cu at p4;refine aN rfl ?_;unfold ox bM;refine(ae (by simp[fu,p4,eqB];rfl)).trans ?_;simp
 |due b e m ea la=>
  rw[hu] at p4 ok;obtain⟨e1,e2,hm,a0,l0,al,ab,b3⟩:=ok;have me:∀j,aT j e=O:=λj=>bJ;have sm:aW m=O:=b8;unfold cu at p4;have step:∀(k:Int) (x3:Os),fV [U (Z OD),U (Z (E h)),U (Z (E k)),x3]=if b+k*e -ea<=h/\h<=b+k*e+la then U (.ret (E k)) else U (P [U (Z OD),U (Z (E h)),U (Z (E k)),U (Z (E (b+k*e)))]):=by
   intro k x3;unfold fV;by_cases c1:b+k*e -ea<=h
   .by_cases c2:h<=b+k*e+la
    .simp[p4,c1,c2,me]
    .simp[p4,c1,c2,me]
   .simp[p4,c1,me]
  have key:∀(l:List D) (x2 x3:Os),(∀d∈l,∃k:Int,d= E k)->(match l.findSome? (G7 b e ea la h) with|some d=>XS (gN 2) fV l [U (Z OD),U (Z (E h)),x2,x3]=U (.ret d)|none=>∃y2 y3,XS (gN 2) fV l [U (Z OD),U (Z (E h)),x2,x3]=U (P [U (Z OD),U (Z (E h)),y2,y3])):=by
   intro l;induction l with
   |nil=>intro x2 x3 _;exact⟨x2,x3,by simp⟩
   |cons d l ih=>
    intro x2 x3 hd;obtain⟨k,rfl⟩:=hd d Gaj;have sv:=step k x3;rw[List.findSome?_cons,nI];by_cases c:b+k*e -ea<=h/\h<=b+k*e+la
    .rw[Gan c] at sv⊢;simp only[XS,gN,GaG,GaH,Option.bind_some,sv]
    .rw[Gah c] at sv⊢;have q:=ih (U (Z (E k))) (U (Z (E (b+k*e)))) λx hx=>hd x (Gaf _ hx);cases hf:l.findSome? (G7 b e ea la h) with
     |none=>
      rw[hf] at q;obtain⟨y2,y3,q⟩:=q;refine⟨y2,y3, ?_⟩;simp only[XS,gN,GaG,GaH,Option.bind_some,sv];exact q
     |some v=>
      rw[hf] at q;simp only[XS,gN,GaG,GaH,Option.bind_some,sv];exact q
  have q:=key (aG 0 m.toNat) J J (λd hd=>by
   obtain⟨i,hi⟩:=Gco hd;obtain⟨_,rfl⟩:=b9 hi;exact⟨_,rfl⟩)
  rw[Jn e1 (by lia) a0 l0 al] at q;have ed:bM (.due b e m ea la) h=k9 b e m ea la h:=rfl;rw[ed];refine aN rfl ?_;unfold ox;cases hk:k9 b e m ea la h with
  |none=>
   rw[hk] at q;obtain⟨y2,y3,q⟩:=q;refine(ae (by simp[-XS,fu,p4,eqB,sm,q,freed];rfl)).trans ?_;simp
  |some k=>
   rw[hk] at q;dsimp only[Option.map] at q;simp[-XS,fu,p4,eqB,sm,q,freed]
def sW(ok:lO c):dK [bB c,bZ w]=U (bZ (cF c w)):=by
 cases c with
 |ever t=>unfold dK iF bB cF;simp
 |flat h t=>unfold dK iF bB cF;simp
 |kilo h t p=>
  obtain⟨h1,t1,t2,p1,p2⟩:=ok;cases w with
  |none=>unfold dK iF bB cF;simp
  |some w=>
   have mm:aT w t=O:=bJ;have pp:0<p/\p<1073741824:=by lia
   unfold dK iF bB cF;simp[mm,pp]
def dM(os:List XW)(c:Cap)(k:Int×Int)(h:Int):List Tr->Int
 |[]=>0
 |t::gv=>(if decide (tk os t=k)&&iL c h t.2.1 then t.2.2 else 0)+dM os c k h gv
theorem rY(os:List XW)(c:Cap)(k:Int×Int)(h:Int):∀gv,dM os c k h gv=jo c ((gv.filter λt=>decide (tk os t=k)).map λt=>(t.2.1,t.2.2)) h
 |[]=>rfl
 |t::gv=>by
  have ih:=rY os c k h gv;unfold dM;rw[ih];unfold jo;by_cases e:tk os t=k
  .simp[e]
  .simp[e]
def iN(os:List XW)(ws gv:List Tr)(o:XW)(h:Int):Nat->List Cap->List Flt
 |_,[]=>[]
 |k,c::cs=>dZ ws c o.ay o.ax (k:Int) (h,dM os c (o.ay,o.ax) h gv)++iN os ws gv o h (k+1) cs
theorem i7(os:List XW)(ws gv:List Tr)(o:XW)(h:Int):∀k cs,(iN os ws gv o h k cs).length<=cs.length
 |_,[]=>by simp[iN]
 |k,c::cs=>by
  have h1:=i7 os ws gv o h (k+1) cs;have h2:=jW ws c o.ay o.ax (k:Int) (h,dM os c (o.ay,o.ax) h gv);unfold iN
  grind
def ovT(w:World)(ws gv:List Tr)(t:Tr):List Flt:=match w.XN[t.1.toNat]? with
 |some o=>iN w.XN ws gv o t.2.1 0 ((w.au[o.ax.toNat]?.map (·.az)).getD [])
 |none=>[]
def SV(hO:atD XJ n=U OD)(h1:ixD OD (E 1)=U (E g'))(h2:ixD OD (E 2)=U (E s')):
  f9 [U (Z (N [N A,N B,N C,N XJ])),U (Z bk),U (Z (E g)),U (Z (E s)),U (Z (E h)),e5,e6,U (Z (bB c)),U (Z (E T)),U (Z (E n)),U (Z (E a)),U (Z (E m)),e12]=
   U (P [U (Z (N [N A,N B,N C,N XJ])),U (Z bk),U (Z (E g)),U (Z (E s)),U (Z (E h)),e5,e6,U (Z (bB c)),U (Z (E (T+if decide ((g',s')=(g,s))&&iL c h a then m else 0))),U (Z (E n)),U (Z (E a)),U (Z (E m)),e12]):=by
 have e1:eqB (E g') (E g)=U (decide (g' =g)):=by unfold eqB;by_cases c:g' =g<;>simp[c]
 have e2:eqB (E s') (E s)=U (decide (s' =s)):=by unfold eqB;by_cases c:s' =s<;>simp[c]
 unfold f9;by_cases c1:g' =g
 .by_cases c2:s' =s
  .by_cases c3:a<=h
   .cases c with
    |ever t=>simp[hO,h1,h2,c1,c2,c3,bB,iL]
    |flat H t=>
     by_cases c4:h -H<a
     .simp[hO,h1,h2,e1,e2,c1,c2,c3,bB,iL,c4,eqB]
     .simp[hO,h1,h2,e1,e2,c1,c2,c3,bB,iL,c4,eqB]
    |kilo H t p=>
     by_cases c4:h -H<a
     .simp[hO,h1,h2,e1,e2,c1,c2,c3,bB,iL,c4,eqB]
     .simp[hO,h1,h2,e1,e2,c1,c2,c3,bB,iL,c4,eqB]
   .have q:iL c h a=M:=by cases c<;>simp[iL,c3]
    rw[q,GcR];simp[hO,h1,h2,e1,e2,c1,c2,c3]
  .simp[hO,h1,h2,e1,e2,c1,c2]
 .simp[hO,h1,e1,c1]
theorem DY{w:World}(W:aL w):∀gv (T:Int) x9 eI eM,bQ w.XN.length gv->∃y9 eO eU,
  XS (gT [9,10,11]) f9 (gv.map XZ) [U (Z (N [N A,N B,N C,N (w.XN.map ao)])),U (Z bk),U (Z (E g)),U (Z (E s)),U (Z (E h)),e5,e6,U (Z (bB c)),U (Z (E T)),x9,eI,eM,e12]=
   U (P [U (Z (N [N A,N B,N C,N (w.XN.map ao)])),U (Z bk),U (Z (E g)),U (Z (E s)),U (Z (E h)),e5,e6,U (Z (bB c)),U (Z (E (T+dM w.XN c (g,s) h gv))),y9,eO,eU,e12])
 |[],T,x9,eI,eM,_=> ⟨x9,eI,eM,by simp[dM]⟩
 |t::gv,T,x9,eI,eM,hg=>by
  have g0:=hg t Gaj;obtain⟨n,hn⟩:=GaJ g0.1;have xd :n<w.XN.length:=by lia
  have hO:atD (w.XN.map ao) t.1=U (ao w.XN[n]):=by rw[hn,bO,Gap,Gac xd];rfl
  have etk:tk w.XN t=(w.XN[n].ay,w.XN[n].ax):=by
   unfold tk;simp_all
  have ev:=SV (A:=A) (B:=B) (C:=C) (bk:=bk) (c:=c) (g:=g) (s:=s) (h:=h) (T:=T) (a:=t.2.1) (m:=t.2.2) (e5:=e5) (e6:=e6) (e12:=e12) hO rfl rfl;rw[<-etk] at ev;obtain⟨y9,eO,eU,e⟩:=DY W gv (T+if decide (tk w.XN t=(g,s))&&iL c h t.2.1 then t.2.2 else 0) (U (Z (E t.1))) (U (Z (E t.2.1))) (U (Z (E t.2.2))) λx hx=>hg x (Gaf _ hx);refine⟨y9,eO,eU, ?_⟩;rw[Gax]
  conv=>rhs;unfold dM
  rw[<-Int.add_assoc];have ed:XZ t= N [E t.1,E t.2.1,E t.2.2]:=rfl;rw[ed];simp only[XS,gT,gNs,GaG,GaH,Option.bind_some,ev];exact e
def G8(to:Option Int)(g s k h T:Int):List D:=match to with
 |some top=>if T>top then[N [X "cap",E g,E s,E k,E h,E T,E top]] else[]
 |none=>[]
def SX{W F:List D}{cd sz:D}(hS:atD B s=U (N [nm,sz,N Cs,yg]))(hc:atD Cs k=U cd)(ic:cd.imm=O)
  (hl:XS (gT [9,10,11]) f9 G [U (Z (N [N A,N B,N C,N XJ])),U (Z (N [N W,N G])),U (Z (E g)),U (Z (E s)),U (Z (E h)),U (Y (Q F)),U (Z (E k)),U (Z cd),U (Z (E 0)),x9,eI,eM,x12]=U (P [U (Z (N [N A,N B,N C,N XJ])),U (Z (N [N W,N G])),U (Z (E g)),U (Z (E s)),U (Z (E h)),U (Y (Q F)),U (Z (E k)),U (Z cd),U (Z (E T)),y9,eO,eU,x12]))
  (iw:aB W=O)(ew:cS [N W,E g,E h]=U (bZ wo))(eb:dK [cd,bZ wo]=U (bZ to))(hz:F.length<100000):
  gC [U (Z (N [N A,N B,N C,N XJ])),U (Z (N [N W,N G])),U (Z (E g)),U (Z (E s)),U (Z (E h)),U (Y (Q F)),U (Z (E k)),x7,x8,x9,eI,eM,x12]=
   U (P [U (Z (N [N A,N B,N C,N XJ])),U (Z (N [N W,N G])),U (Z (E g)),U (Z (E s)),U (Z (E h)),U (Y (Q (F++G8 to g s k h T))),U (Z (E k)),U (Z cd),U (Z (E T)),y9,eO,eU,U (Z (bZ to))]):=by
 have z:F.length<16777216:=by lia
 have xI :=aV (bY wo);have rt:=aV (bY to);refine(ae (by simp[hS,hc];rfl)).trans ?_;refine(ae (e:=[U (Z (N [N A,N B,N C,N XJ])),U (Z (N [N W,N G])),U (Z (E g)),U (Z (E s)),U (Z (E h)),U (Y (Q F)),U (Z (E k)),U (Z cd),U (Z (E 0)),x9,eI,eM,x12]) (by simp)).trans ?_;refine(ae (by simp[hl];rfl)).trans ?_;refine(ae (by simp[ew,xI,eb,rt];rfl)).trans ?_;cases to with
 |none=>simp[G8]
 |some top=>
  by_cases c:T>top
  .have c' :=c;simp[c',z,af,G8]
  .have c' :=c;simp[c',G8]
theorem DZ{w:World}{ws gv:List Tr}{o:XW}{cs:List Cap}(W:aL w)(hg:bQ w.XN.length gv)(hS:atD (w.au.map aK) o.ax=U (N [nm,sz,N (cs.map bB),yg]))(ok:∀c∈cs,lO c):∀ds k fs x6 x7 x8 x9 eI eM x12,cs.drop k=ds->fs.length+ds.length<1000->∃y6 y7 y8 y9 eO eU yo,
  XS (gN 6) gC (aG (k:Int) ds.length) [U (Z (aH w)),U (Z (N [N (ws.map XZ),N (gv.map XZ)])),U (Z (E o.ay)),U (Z (E o.ax)),U (Z (E h)),U (Y (Q (fs.map ai))),x6,x7,x8,x9,eI,eM,x12]=
   U (P [U (Z (aH w)),U (Z (N [N (ws.map XZ),N (gv.map XZ)])),U (Z (E o.ay)),U (Z (E o.ax)),U (Z (E h)),U (Y (Q ((fs++iN w.XN ws gv o h k ds).map ai))),y6,y7,y8,y9,eO,eU,yo])
 |[],k,fs,x6,x7,x8,x9,eI,eM,x12,_,_=> ⟨x6,x7,x8,x9,eI,eM,x12,by simp[iN,aG]⟩
 |c::ds,k,fs,x6,x7,x8,x9,eI,eM,x12,hd,hz=>by
  rw[GaF] at hz;have hk:k<cs.length:=by
   rcases Gbh k cs.length with q|q
   .exact q
   .rw[List.drop_of_length_le q] at hd;cases hd
  have ec:cs[k]=c/\cs.drop (k+1)=ds:=by
   rw[GbQ hk] at hd;lia
  have hc:atD (cs.map bB) (k:Int)=U (bB c):=by rw[bO,Gap,Gac hk,ec.1];rfl
  have okc:=ok c (ec.1▸GaB hk);obtain⟨z9,xV,yU,el⟩:=DY W (e5:=U (Y (Q (fs.map ai)))) (e12:=x12) gv 0 x9 eI eM hg;rw[Int.zero_add] at el;have ev:=SX (x7:=x7) (x8:=x8) hS hc (rM c) el (bK ws) (gK (g:=o.ay) (h:=h)) (sW okc) (by rw[Gae];lia);have eg:G8 (cF c (wgt o.ay h ws J)) o.ay o.ax (k:Int) h (dM w.XN c (o.ay,o.ax) h gv)=(dZ ws c o.ay o.ax (k:Int) (h,dM w.XN c (o.ay,o.ax) h gv)).map ai:=by
   unfold dZ G8;cases cF c (wgt o.ay h ws J) with
   |none=>rfl
   |some top=>
    dsimp only;split<;>rfl
  rw[eg,<-GaC] at ev;have l1:=jW ws c o.ay o.ax (k:Int) (h,dM w.XN c (o.ay,o.ax) h gv);obtain⟨y6,y7,y8,y9,eO,eU,yo,e⟩:=DZ W hg hS ok ds (k+1) (fs++dZ ws c o.ay o.ax (k:Int) (h,dM w.XN c (o.ay,o.ax) h gv)) (U (Z (E (k:Int)))) (U (Z (bB c))) (U (Z (E (dM w.XN c (o.ay,o.ax) h gv)))) z9 xV yU (U (Z (bZ (cF c (wgt o.ay h ws J))))) ec.2 (by rw[Gal];lia);refine⟨y6,y7,y8,y9,eO,eU,yo, ?_⟩
  conv=>rhs;unfold iN
  rw[<-Gbe];have er:aG (k:Int) (c::ds).length= E (k:Int)::aG ((k+1:Nat):Int) ds.length:=by
   unfold aG;rw[GaF,List.range_succ_eq_map,Gax,GaN];refine congrArg (List.cons _) (GaO λi _=> ?_);exact congrArg E (by lia)
  rw[er];have ew:aH w= N [N (w.bN.map bf),N (w.au.map aK),N (w.br.map XZ),N (w.XN.map ao)]:=rfl;rw[<-ew] at ev;simp only[XS,gN,GaG,GaH,Option.bind_some,ev];exact e
def Q3{n:Int}(hS:atD B s=U (N [nm,sz,N Cs,yg]))(ic:aB Cs=O)(hn:cA [N Cs]=U ⟨.c,E n⟩)(sm:aW n=O)(e:XS (gN 6) gC (aG 0 n.toNat) [U (Z (N [N A,N B,N C,N XJ])),U (Z bk),U (Z (E g)),U (Z (E s)),U (Z (E h)),U (Y (Q [])),J,J,J,J,J,J,J]=U (P [U (Z (N [N A,N B,N C,N XJ])),U (Z bk),U (Z (E g)),U (Z (E s)),U (Z (E h)),U (Y (Q F)),y6,y7,y8,y9,eO,eU,yo]))(im:aB F=O):
  iG [N [N A,N B,N C,N XJ],bk,E g,E s,E h]=U (Q F):=by
 refine aN rfl ?_;refine(ae (by simp;rfl)).trans ?_;refine(ae (by simp[hS,hn,sm,e];rfl)).trans ?_;simp[im]
def G9{w:World}{ws gv:List Tr}{o:XW}{s:fW}(W:aL w)(hg:bQ w.XN.length gv)(so:gE s)(hS:atD (w.au.map aK) o.ax=U (aK s)):iG [aH w,N [N (ws.map XZ),N (gv.map XZ)],E o.ay,E o.ax,E h]=U (Q ((iN w.XN ws gv o h 0 s.az).map ai)):=by
 have cl:=so.cl;obtain⟨y6,y7,y8,y9,eO,eU,yo,e⟩:=DZ W hg hS so.ok s.az 0 [] J J J J J J J rfl (by simp;lia);exact Q3 (n:=(s.az.length:Int)) hS (nB _) (by simp) (b8) (by rw[Gbq];exact e) (bW _)
noncomputable def g7(h o l u:Int):Bool:=decide (h<l)||(decide (h=l)&&decide (o<u))
def Q4(h o l u:Int):IP (N [E h,E o]) (N [E l,E u])=U (g7 h o l u):=by
 show U (if h=l then(if o=u then M else decide (o<u)) else decide (h<l))=_;unfold g7;by_cases c1:h=l
 .subst c1;by_cases c2:o=u
  .subst c2;simp
  .simp[c2]
 .simp_all
def SY{F:List D}(a1:ixD OA (E 1)=U (E g1))(b1:ixD OB (E 1)=U (E g2))(hz:F.length<100000):
  fb [e0,e1,U (Z (E o)),U (Z (E h)),U (Y (Q F)),e5,U (Z (E u)),U (Z (E l)),U (Y (Q [OA,OB])),U (Z (N [E x,E y])),U (Z (N [E c1,E c2,E c3]))]=
   U (P [e0,e1,U (Z (E o)),U (Z (E h)),U (Y (Q (F++if(g7 h o l u=O/\g1=g2/\(c1=x/\c2=y))/\l -h<c3 then[N [X "gap",E o,E h,E u,E l]] else[]))),e5,U (Z (E u)),U (Z (E l)),U (Y (Q [OA,OB])),U (Z (N [E x,E y])),U (Z (N [E c1,E c2,E c3]))]):=by
 have z:F.length<16777216:=by lia
 have lt:=Q4 h o l u;have sl:slD J (U 2) (N [E c1,E c2,E c3])=U ⟨.c,N [E c1,E c2]⟩:=rfl;have e2:eqB (N [E c1,E c2]) (N [E x,E y])=U (decide (c1=x/\c2=y)):=by
  unfold eqB;by_cases q1:c1=x<;>by_cases q2:c2=y<;>simp[q1,q2]
 have yJ :eqB (E g1) (E g2)=U (decide (g1=g2)):=by unfold eqB;by_cases c:g1=g2<;>simp[c]
 unfold fb;cases hb:g7 h o l u with
 |false=>
  rw[hb] at lt;simp[lt,af]
 |true=>
  rw[hb] at lt;by_cases q1:g1=g2
  .by_cases q2:c1=x/\c2=y
   .by_cases q3:l -h<c3
    .obtain⟨rfl,rfl⟩:=q2;simp[lt,af,a1,b1,yJ,q1,-vc,sl,e2,q3,z]
    .obtain⟨rfl,rfl⟩:=q2;simp[lt,af,a1,b1,yJ,q1,-vc,sl,e2,q3]
   .rw[Gah (λw=>q2 w.1.2.2)];simp only[GaE q2] at e2;simp[lt,af,a1,b1,yJ,q1,-vc,sl,e2]
  .simp[lt,af,a1,b1,yJ,q1]
def uJ(ts:List Tr)(o h v x y:Int):iK (nE ts o h v) x y=if o=x/\h=y then v else iK ts x y:=by
 unfold nE;cases ha:ts.any (atT o h) with
 |true=>
  rw[Gan rfl];unfold iK;rw[List.find?_map];by_cases c:o=x/\h=y
  .obtain⟨rfl,rfl⟩:=c;have e:(atT o h∘λt:Tr=>if atT o h t=O then(o,h,v) else t)=atT o h:=by
    funext t
    simp only[GbL];split
    .rename_i c;rw[c];exact GaD ⟨rfl,rfl⟩
    .rfl
   rw[e];cases hf:ts.find? (atT o h) with
   |none=>
    obtain⟨t,ht,q⟩:=Gca.mp ha;exact absurd q (GbN.mp hf t ht)
   |some t=>
    have:=GdP hf;simp[this]
  .rw[Gah c];have e:(atT x y∘λt:Tr=>if atT o h t=O then(o,h,v) else t)=atT x y:=by
    funext t
    simp only[GbL];split
    .rename_i q;have q' :=Gar q;have n1:atT x y (o,h,v)=M:=GaE c;have n2:atT x y t=M:=GaE (by rw[q'.1,q'.2];exact c);rw[n1,n2]
    .rfl
   rw[e];cases hf:ts.find? (atT x y) with
   |none=>rfl
   |some t=>
    have q0:=GdP hf;have q:=Gar q0;have n2:¬atT o h t=O:=λz=>by
     have z' :=Gar z;lia
    simp[n2]
 |false=>
  rw[Gah (by simp)];unfold iK;rw[List.find?_append];by_cases c:o=x/\h=y
  .obtain⟨rfl,rfl⟩:=c;have hf:ts.find? (atT o h)=J:=by
    rw[GbN];intro t ht q;rw[GbH] at ha;exact ha t ht q
   rw[hf];have:atT o h (o,h,v)=O:=GaD ⟨rfl,rfl⟩;simp[this]
  .rw[Gah c];have:atT x y (o,h,v)=M:=GaE c;simp_all
noncomputable def mt(x y:Int)(b:Tr):Bool:=decide ((b.1=x/\b.2.1=y)\/(b.1=y/\b.2.1=x))
def Ga(ts:List Tr)(b:Tr)(x y:Int):iK (aQ ts b) x y=if mt x y b then b.2.2 else iK ts x y:=by
 unfold aQ;rw[uJ,uJ];unfold mt;by_cases c1:b.2.1=x/\b.1=y
 .rw[Gan c1,Gan (GaD (.inr ⟨c1.2,c1.1⟩))]
 .rw[Gah c1];by_cases c2:b.1=x/\b.2.1=y
  .rw[Gan c2,Gan (GaD (.inl c2))]
  .rw[Gah c2,Gah];intro z;rcases Gar z with z|z
   .exact c2 z
   .exact c1 ⟨z.2,z.1⟩
theorem jM(x y:Int):∀(bs ts:List Tr),(∀b∈bs,b.1<=b.2.1)->(bs.map Cb).Nodup->iK (bs.foldl aQ ts) x y=match bs.find? (mt x y) with|some b=>b.2.2|none=>iK ts x y
 |[],ts,_,_=>rfl
 |b::bs,ts,le,nd=>by
  rw[Gax,Gbc] at nd;rw[Gcl,jM x y bs (aQ ts b) (λc hc=>le c (Gaf _ hc)) nd.2,Ga];by_cases c:mt x y b=O
  .rw[Gdy c];have hf:bs.find? (mt x y)=J:=by
    rw[GbN];intro d hd q;apply nd.1;refine Gas.mpr ⟨d,hd, ?_⟩;have c' :=Gar c;have q' :=Gar q;have l1:=le b Gaj;have l2:=le d (Gaf _ hd);exact Prod.ext (by show d.1=b.1;lia) (by show d.2.1=b.2.1;lia)
   rw[hf];simp only[c,Gdo]
  .simp_all
theorem Jo:∀ns (n:Int),n<=o5 n ns/\∀m∈ns,m<=o5 n ns
 |[],n=> ⟨Gcp _,by simp⟩
 |k::ns,n=>by
  have h:=Jo ns (if k>n then k else n);have e:o5 n (k::ns)=o5 (if k>n then k else n) ns:=rfl
  grind
def M6(pos:∀b∈bs,1<=b.2.2):0<=wide bs/\∀b∈bs,b.2.2<=wide bs:=by
 cases bs with
 |nil=>exact⟨by decide,by simp⟩
 |cons b bs=>
  have e:wide (b::bs)=o5 b.2.2 (bs.map (·.2.2)):=rfl;have h:=Jo (bs.map (·.2.2)) b.2.2;rw[e];have:=pos b Gaj;refine⟨by lia,λc hc=> ?_⟩;rcases Gat.mp hc with rfl|hc
  .exact h.1
  .exact h.2 _ (Gas.mpr ⟨c,hc,rfl⟩)
def Jp{bs:List Tr}(le:∀b∈bs,b.1<=b.2.1)(pos:∀b∈bs,1<=b.2.2)(nd:(bs.map Cb).Nodup)(a b:XW):mJ (bs.foldl aQ []) a b<=wide bs:=by
 have w:=M6 pos;unfold mJ;split
 .rw[jM _ _ bs [] le nd];cases h:bs.find? (mt a.ax b.ax) with
  |none=>exact w.1
  |some c=>exact w.2 c (Gde h)
 .exact w.1
def AW{gs:List Tr}{w:Int}{r:Int×Int}(le:∀a b,mJ gs a b<=w)(h:l.1 -r.1>=w):gpF os gs r l=[]:=by
 unfold gpF;split
 .rename_i a b _ _;rw[Gah];have:=le a b;lia
 .rfl
theorem uK{os:List XW}{gs:List Tr}{w:Int}{r:Int×Int}(le:∀a b,mJ gs a b<=w):∀ls,(ls.Pairwise λa b=>a.1<=b.1)->jZ os gs w r ls=ls.flatMap (gpF os gs r)
 |[],_=>rfl
 |l::ls,h=>by
  rw[GaV] at h;unfold jZ;rw[GaY];by_cases c:l.1 -r.1>=w
  .rw[Gan c,AW le c]
   symm
   rw[GbK,Gby];intro x hx;have:=h.1 x hx;exact AW le (by lia)
  .rw[Gah c,uK le ls h.2]
noncomputable def prs(F:Int×Int->Int×Int->List Flt):List (Int×Int)->List Flt
 |[]=>[]
 |r::rs=>rs.flatMap (F r)++prs F rs
theorem mL{os:List XW}{gs:List Tr}{w:Int}(le:∀a b,mJ gs a b<=w):∀ls,(ls.Pairwise λa b=>a.1<=b.1)->da os gs w ls=prs (gpF os gs) ls
 |[],_=>rfl
 |l::ls,h=>by
  rw[GaV] at h;unfold da prs;rw[uK le ls h.2,mL le ls h.2]
def gc(a b:XW)(r l:Int×Int)(c:Tr):List Flt:=if(a.ay=b.ay/\mt a.ax b.ax c=O)/\l.1 -r.1<c.2.2 then[("gap",[r.2,r.1,l.2,l.1])] else[]
def uL(os:List XW)(bs:List Tr)(r l:Int×Int):List Flt:=match os[r.2.toNat]?,os[l.2.toNat]? with
 |some a,U b=>bs.flatMap (gc a b r l)
 |_,_=>[]
theorem AX{a b:XW}(hl:r.1<=l.1):∀bs:List Tr,(∀b∈bs,b.1<=b.2.1)->(bs.map Cb).Nodup->bs.flatMap (gc a b r l)=if l.1 -r.1<(if a.ay=b.ay then(match bs.find? (mt a.ax b.ax) with|some c=>c.2.2|none=>0) else 0) then([("gap",[r.2,r.1,l.2,l.1])]:List Flt) else[]
 |[],_,_=>by
  simp_all
 |c::bs,le,nd=>by
  rw[Gax,Gbc] at nd;rw[GaY,AX hl bs (λd hd=>le d (Gaf _ hd)) nd.2];by_cases g:a.ay=b.ay
  .simp only[Gan g];by_cases m:mt a.ax b.ax c=O
   .rw[Gdy m];have hf:bs.find? (mt a.ax b.ax)=J:=by
     rw[GbN];intro d hd q;apply nd.1;refine Gas.mpr ⟨d,hd, ?_⟩;have c' :=Gar m;have q' :=Gar q;have l1:=le c Gaj;have l2:=le d (Gaf _ hd);exact Prod.ext (by show d.1=c.1;lia) (by show d.2.1=c.2.1;lia)
    rw[hf];rw[Gah (by lia:¬l.1 -r.1<0),Gbb];unfold gc;simp_all
   .rw[List.find?_cons_of_neg m];have:gc a b r l c=[]:=by
     unfold gc;simp_all
    simp_all
  .simp only[Gah g];have:gc a b r l c=[]:=by
    unfold gc;rw[Gah (λz=>g z.1.1)]
   rw[this,GbK]
def nK{bs:List Tr}{r:Int×Int}(le:∀b∈bs,b.1<=b.2.1)(nd:(bs.map Cb).Nodup)(hl:r.1<=l.1):uL os bs r l=gpF os (bs.foldl aQ []) r l:=by
 unfold uL gpF;cases os[r.2.toNat]? with
 |none=>rfl
 |some a=>
  cases os[l.2.toNat]? with
  |none=>rfl
  |some b=>
   dsimp only;rw[AX hl bs le nd];unfold mJ;rw[jM _ _ bs [] le nd]
   rfl
def Jq(a b:Int):XU [Q [E a,E b]]=U ⟨.tn,Q (if a<b then[E a,E b] else[E b,E a])⟩:=by
 have k:XX [E a,E b]=O:=rfl;have e:bH [E a,E b]=if a<b then[E a,E b] else[E b,E a]:=by
  show(if ltC (DL.code (E a)) (DL.code (E b)) then[E a,E b] else[E b,E a])=_;have l:ltC (DL.code (E a)) (DL.code (E b))=decide (a<b):=by
   show dO (dO ltI) [[1,a]] [[1,b]]=_;by_cases c:a=b
   .subst c;simp[dO]
   .by_cases c2:a<b<;>simp[dO,ltI,c]
  simp_all
 unfold XU one jw;simp only[Option.bind_some];rw[e]
 rfl
noncomputable def lo2(a b:Int):Int:=if a<b then a else b
noncomputable def hi2(a b:Int):Int:=if a<b then b else a
def M7(le:x<=y)(z:Int):(x=lo2 a b/\y=hi2 a b)↔mt a b (x,y,z)=O:=by
 unfold mt lo2 hi2;lia
theorem E5{a b:XW}:∀(bs:List Tr) (fs:List Flt) (eI:Os),(∀c∈bs,c.1<=c.2.1)->fs.length+bs.length<90000->∃eO,
  XS (gN 10) fb (bs.map XZ) [e0,e1,U (Z (E o)),U (Z (E h)),U (Y (Q (fs.map ai))),e5,U (Z (E u)),U (Z (E l)),U (Y (Q [ao a,ao b])),U (Z (N [E (lo2 a.ax b.ax),E (hi2 a.ax b.ax)])),eI]=
   U (P [e0,e1,U (Z (E o)),U (Z (E h)),U (Y (Q ((fs++if g7 h o l u then bs.flatMap (gc a b (h,o) (l,u)) else[]).map ai))),e5,U (Z (E u)),U (Z (E l)),U (Y (Q [ao a,ao b])),U (Z (N [E (lo2 a.ax b.ax),E (hi2 a.ax b.ax)])),eO])
 |[],fs,eI,_,_=> ⟨eI,by cases g7 h o l u<;>simp⟩
 |c::bs,fs,eI,le,hz=>by
  rw[GaF] at hz;have ev:=SY (e0:=e0) (e1:=e1) (e5:=e5) (F:=fs.map ai) (OA:=ao a) (OB:=ao b) (o:=o) (h:=h) (u:=u) (l:=l) (x:=lo2 a.ax b.ax) (y:=hi2 a.ax b.ax) (c1:=c.1) (c2:=c.2.1) (c3:=c.2.2) rfl rfl (by rw[Gae];lia);have pm:=M7 (a:=a.ax) (b:=b.ax) (le c Gaj) c.2.2;have eg:(if(g7 h o l u=O/\a.ay=b.ay/\(c.1=lo2 a.ax b.ax/\c.2.1=hi2 a.ax b.ax))/\l -h<c.2.2 then[N [X "gap",E o,E h,E u,E l]] else[])=(if g7 h o l u then gc a b (h,o) (l,u) c else[]).map ai:=by
   unfold gc;cases hb:g7 h o l u with
   |false=>simp
   |true=>
    by_cases q:(a.ay=b.ay/\mt a.ax b.ax c=O)/\l -h<c.2.2
    .rw[Gan ⟨⟨rfl,q.1.1,pm.mpr q.1.2⟩,q.2⟩];rw[Gan (show(a.ay=b.ay/\mt a.ax b.ax c=O)/\(l,u).1 -(h,o).1<c.2.2 from q)]
     rfl
    .rw[Gah (λz=>q ⟨⟨z.1.2.1,pm.mp z.1.2.2⟩,z.2⟩)];rw[Gah (show¬((a.ay=b.ay/\mt a.ax b.ax c=O)/\(l,u).1 -(h,o).1<c.2.2) from q)]
     rfl
  rw[eg,<-GaC] at ev;have l1:(if g7 h o l u then gc a b (h,o) (l,u) c else[]).length<=1:=by
   unfold gc;split
   .split<;>simp
   .simp
  obtain⟨eO,e⟩:=E5 bs (fs++if g7 h o l u then gc a b (h,o) (l,u) c else[]) (U (Z (XZ c))) (λx hx=>le x (Gaf _ hx)) (by rw[Gal];lia);refine⟨eO, ?_⟩;have ea:(fs++if g7 h o l u then gc a b (h,o) (l,u) c else[])++(if g7 h o l u then bs.flatMap (gc a b (h,o) (l,u)) else[])=fs++if g7 h o l u then(c::bs).flatMap (gc a b (h,o) (l,u)) else[]:=by
   cases g7 h o l u<;>simp
  rw[ea] at e;rw[Gax];have ed:N [E c.1,E c.2.1,E c.2.2]=XZ c:=rfl;rw[ed] at ev;simp only[XS,gN,GaG,GaH,Option.bind_some,ev];exact e
def Q5{OA OB:D}(hA:atD XJ o=U OA)(hB:atD XJ u=U OB)(ia:OA.imm=O)(ib:OB.imm=O)(a2:ixD OA (E 2)=U (E s1))(b2:ixD OB (E 2)=U (E s2))(hs:XU [Q [E s1,E s2]]=U ⟨.tn,Q [E x,E y]⟩)
  (e:XS (gN 10) fb C [U (Z (N [N A,N B,N C,N XJ])),U (Z bk),U (Z (E o)),U (Z (E h)),U (Y (Q F)),U (Z (N [E u,E l,E a])),U (Z (E u)),U (Z (E l)),U (Y (Q [OA,OB])),U (Z (N [E x,E y])),eI]=U (P e')):
  gD [U (Z (N [N A,N B,N C,N XJ])),U (Z bk),U (Z (E o)),U (Z (E h)),U (Y (Q F)),U (Z (N [E u,E l,E a])),x6,x7,x8,x9,eI]=U (P e'):=by
 refine(ae (e:=[U (Z (N [N A,N B,N C,N XJ])),U (Z bk),U (Z (E o)),U (Z (E h)),U (Y (Q F)),U (Z (N [E u,E l,E a])),U (Z (E u)),x7,x8,x9,eI]) (by simp)).trans ?_;refine(ae (e:=[U (Z (N [N A,N B,N C,N XJ])),U (Z bk),U (Z (E o)),U (Z (E h)),U (Y (Q F)),U (Z (N [E u,E l,E a])),U (Z (E u)),U (Z (E l)),x8,x9,eI]) (by simp)).trans ?_;refine(ae (by simp[hA,hB];rfl)).trans ?_;refine(ae (by simp[a2,b2,hs,af];rfl)).trans ?_;simp[e]
def nrT(os:List XW)(bs:List Tr)(o h:Int)(t:Tr):List Flt:=if g7 h o t.2.1 t.1 then uL os bs (h,o) (t.2.1,t.1) else[]
def Gb(a b:Int):XU [Q [E a,E b]]=U ⟨.tn,Q [E (lo2 a b),E (hi2 a b)]⟩:=by
 rw[Jq];unfold lo2 hi2;split<;>rfl
def E9(os:List XW)(bs:List Tr)(o h:Int)(t:Tr):(nrT os bs o h t).length<=bs.length:=by
 unfold nrT uL;split
 .split
  .refine Gbp (nG _ (λc=> ?_) bs) (Gao _);unfold gc;split<;>simp
  .simp
 .simp
theorem Ea{w:World}{o:Int}(W:aL w)(h0:0<=o)(h1:o<w.XN.length):∀gv fs x5 x6 x7 x8 x9 eI,bQ w.XN.length gv->fs.length+12*gv.length<50000->∃y5 y6 y7 y8 y9 eO,
  XS (gN 5) gD (gv.map XZ) [U (Z (aH w)),U (Z bk),U (Z (E o)),U (Z (E h)),U (Y (Q (fs.map ai))),x5,x6,x7,x8,x9,eI]=
   U (P [U (Z (aH w)),U (Z bk),U (Z (E o)),U (Z (E h)),U (Y (Q ((fs++gv.flatMap (nrT w.XN w.br o h)).map ai))),y5,y6,y7,y8,y9,eO])
 |[],fs,x5,x6,x7,x8,x9,eI,_,_=> ⟨x5,x6,x7,x8,x9,eI,by simp⟩
 |t::gv,fs,x5,x6,x7,x8,x9,eI,hg,hz=>by
  rw[GaF] at hz;have g0:=hg t Gaj;obtain⟨n,hn⟩:=GaJ h0;obtain⟨m,hm⟩:=GaJ g0.1;have xd :n<w.XN.length:=by lia
  have yx :m<w.XN.length:=by lia
  have hA:atD (w.XN.map ao) o=U (ao w.XN[n]):=by rw[hn,bO,Gap,Gac xd];rfl
  have hB:atD (w.XN.map ao) t.1=U (ao w.XN[m]):=by rw[hm,bO,Gap,Gac yx];rfl
  have le:=λb hb=>(W.bo.1 b hb).2.1;have b12:=W.b12;obtain⟨xV,e⟩:=E5 (e1:=U (Z bk)) (e5:=U (Z (XZ t))) w.br fs eI le (by lia);have ev:=Q5 (A:=w.bN.map bf) (B:=w.au.map aK) (x6:=x6) (x7:=x7) (x8:=x8) (x9:=x9) hA hB (cE _ (W.oo _ (GaB xd)).ti) (cE _ (W.oo _ (GaB yx)).ti) rfl rfl (Gb _ _) e;have en:(if g7 h o t.2.1 t.1 then w.br.flatMap (gc w.XN[n] w.XN[m] (h,o) (t.2.1,t.1)) else[])=nrT w.XN w.br o h t:=by
   unfold nrT uL;rw[hn,hm,Gbq,Gbq,Gac xd,Gac yx]
  rw[en] at ev;have l1:=E9 w.XN w.br o h t;obtain⟨y5,y6,y7,y8,y9,eO,e'⟩:=Ea W h0 h1 gv (fs++nrT w.XN w.br o h t) (U (Z (XZ t))) (U (Z (E t.1))) (U (Z (E t.2.1))) (U (Y (Q [ao w.XN[n],ao w.XN[m]]))) (U (Z (N [E (lo2 w.XN[n].ax w.XN[m].ax),E (hi2 w.XN[n].ax w.XN[m].ax)]))) xV (λx hx=>hg x (Gaf _ hx)) (by rw[Gal];lia);refine⟨y5,y6,y7,y8,y9,eO, ?_⟩;rw[Gax,GaY,<-Gbe];have ed:N [E t.1,E t.2.1,E t.2.2]=XZ t:=rfl;have ew:N [N (w.bN.map bf),N (w.au.map aK),N (w.br.map XZ),N (w.XN.map ao)]=aH w:=rfl;rw[ed,ew] at ev;simp only[XS,gN,GaG,GaH,Option.bind_some,ev];exact e'
def Q6(e:XS (gN 5) gD G [U (Z wd),U (Z (N [bkW,N G])),U (Z (E o)),U (Z (E h)),U (Y (Q [])),J,J,J,J,J,J]=U (P [U (Z wd),U (Z (N [bkW,N G])),U (Z (E o)),U (Z (E h)),U (Y (Q F)),y5,y6,y7,y8,y9,eO]))(im:aB F=O):iH [wd,N [bkW,N G],E o,E h]=U (Q F):=by
 refine aN rfl ?_;refine(ae (by simp;rfl)).trans ?_;refine(ae (by simp[e];rfl)).trans ?_;simp[im]
def Gd{w:World}{gv:List Tr}{o:Int}(W:aL w)(hg:bQ w.XN.length gv)(hl:gv.length<64)(h0:0<=o)(h1:o<w.XN.length):iH [aH w,N [bkW,N (gv.map XZ)],E o,E h]=U (Q ((gv.flatMap (nrT w.XN w.br o h)).map ai)):=by
 obtain⟨y5,y6,y7,y8,y9,eO,e⟩:=Ea W h0 h1 gv [] J J J J J J hg (by simp;lia);exact Q6 e (bW _)
def Ci(os:List XW)(g:Tr):Option Int:=(os[g.1.toNat]?).bind λo=>bM o.aS g.2.1
def pM(os:List XW)(o k:Int)(g:Tr):Bool:=decide (g.1=o)&&decide (Ci os g=U k)
def iO(os:List XW)(pre:List Tr)(o k:Int):Nat:=(pre.filter (pM os o k)).length
structure sX(os:List XW)(pre ts:List Tr):Prop where
 nd:(ts.map λt=>(t.1,t.2.1)).Nodup
 ct:∀t∈ts,t.2.2=(iO os pre t.1 t.2.1:Int)
 cv:∀o k,0<iO os pre o k->∃t∈ts,t.1=o/\t.2.1=k
def iP(os:List XW)(pre:List Tr)(g:Tr)(o k:Int):iO os (pre++[g]) o k=iO os pre o k+(if pM os o k g then 1 else 0):=by
 unfold iO;cases h:pM os o k g<;>simp[h]
def M8{ts:List Tr}(nd:(ts.map λt=>(t.1,t.2.1)).Nodup)(ht:t∈ts):iK ts t.1 t.2.1=t.2.2:=by
 unfold iK;induction ts with
 |nil=>cases ht
 |cons s ts ih=>
  rw[Gax,Gbc] at nd;by_cases c:atT t.1 t.2.1 s=O
  .rw[Gdy c];rcases Gat.mp ht with rfl|ht
   .rfl
   .exfalso;have c' :=Gar c;exact nd.1 (Gas.mpr ⟨t,ht,by rw[c'.1,c'.2]⟩)
  .rw[List.find?_cons_of_neg c];rcases Gat.mp ht with rfl|ht
   .exact absurd (GaD ⟨rfl,rfl⟩) c
   .exact ih nd.2 ht
def M9{ts:List Tr}(h:ts.any (atT o k)=M):iK ts o k=0:=by
 unfold iK;have:ts.find? (atT o k)=J:=by
  rw[GbN];intro x hx q;rw[GbH] at h;exact h x hx q
 rw[this]
 rfl
def sX.step{pre ts:List Tr}(I:sX os pre ts)(g:Tr):sX os (pre++[g]) (bc os ts g):=by
 obtain⟨nd,ct,cv⟩:=I;have e:bc os ts g=twU ts g.1 (Ci os g):=rfl;rw[e];cases hu:Ci os g with
 |none=>
  have no:∀o k,pM os o k g=M:=λo k=>by unfold pM;rw[hu];simp
  refine⟨nd,λt ht=> ?_,λo k h=> ?_⟩
  .rw[iP,no]
   simpa using ct t ht
  .rw[iP,no] at h;exact cv o k (by simpa using h)
 |some k=>
  have has:∀o q,pM os o q g=decide (g.1=o/\k=q):=λo q=>by
   unfold pM;simp_all
  show sX os (pre++[g]) (nE ts g.1 k (iK ts g.1 k+1));unfold nE;cases ha:ts.any (atT g.1 k) with
  |true=>
   rw[Gan rfl];obtain⟨s,hs,VZ⟩:=Gca.mp ha;have hsa' :=Gar VZ;have gv:iK ts g.1 k=s.2.2:=by rw[<-hsa'.1,<-hsa'.2];exact M8 nd hs
   have keys:(ts.map λt=>if atT g.1 k t=O then(g.1,k,iK ts g.1 k+1) else t).map (λt=>(t.1,t.2.1))=ts.map λt=>(t.1,t.2.1):=by
    rw[GaN];refine GaO λt _=> ?_;simp only[GbL];split
    .rename_i c;have c' :=Gar c;rw[c'.1,c'.2]
    .rfl
   refine⟨by rw[keys];exact nd,λt ht=> ?_,λo q h=> ?_⟩
   .obtain⟨x,hx,rfl⟩:=Gas.mp ht;rw[iP];by_cases c:atT g.1 k x=O
    .rw[Gan c];have h1:=ct s hs;rw[hsa'.1,hsa'.2] at h1;rw[has,gv,h1];simp
    .rw[Gah c];have nc:¬(g.1=x.1/\k=x.2.1):=λz=>c (GaD ⟨z.1.symm,z.2.symm⟩);rw[has,GaE nc]
     simpa using ct x hx
   .by_cases c:g.1=o/\k=q
    .refine⟨(g.1,k,iK ts g.1 k+1),Gas.mpr ⟨s,hs,by rw[Gan VZ]⟩,c.1,c.2⟩
    .rw[iP,has,GaE c] at h;obtain⟨t,ht,t1,t2⟩:=cv o q (by simpa using h);refine⟨t,Gas.mpr ⟨t,ht, ?_⟩,t1,t2⟩;rw[Gah];intro z;have z' :=Gar z;exact c ⟨by rw[<-z'.1,t1],by rw[<-z'.2,t2]⟩
  |false=>
   rw[Gah (by simp)];have g0:=M9 ha;have noK:=λt ht z=>by
    rw[GbH] at ha;exact ha t ht (GaD z)
   have c0:iO os pre g.1 k=0:=by
    rcases Nat.eq_zero_or_pos (iO os pre g.1 k) with z|z
    .exact z
    .obtain⟨t,ht,z⟩:=cv g.1 k z;exact absurd z (noK t ht)
   refine⟨?_,λt ht=> ?_,λo q h=> ?_⟩
   .rw[GaC,GaW];refine⟨nd,by simp, ?_⟩;intro a ha' b hb;simp at hb;obtain⟨t,ht,rfl⟩:=Gas.mp ha';rw[hb];intro z;simp at z;exact noK t ht z
   .rw[iP];rcases Gav.mp ht with ht|ht
    .have nc:¬(g.1=t.1/\k=t.2.1):=λz=>noK t ht ⟨z.1.symm,z.2.symm⟩;rw[has,GaE nc]
     simpa using ct t ht
    .simp at ht;rw[ht];rw[has,c0,g0];simp
   .by_cases c:g.1=o/\k=q
    .exact⟨(g.1,k,iK ts g.1 k+1),by simp,c.1,c.2⟩
    .rw[iP,has,GaE c] at h;obtain⟨t,ht,z⟩:=cv o q (by simpa using h);exact⟨t,GbT _ ht,z⟩
theorem sX.all{os:List XW}:∀gv pre ts,sX os pre ts->sX os (pre++gv) (gv.foldl (bc os) ts)
 |[],pre,ts,I=>by rw[Gbb];exact I
 |g::gv,pre,ts,I=>by
  have:=sX.all gv (pre++[g]) _ (I.step g);simp_all
def Jr(os:List XW)(gv:List Tr):sX os gv (gv.foldl (bc os) []):=by
 have:=sX.all (os:=os) gv [] [] ⟨by simp,by simp,λo k h=>by simp[iO] at h⟩;exact this
def Js{gv:List Tr}:f∈twF (gv.foldl (bc os) [])↔∃o k,f=(("twice",[o,k]):Flt)/\1<iO os gv o k:=by
 have I:=Jr os gv;unfold twF;rw[Gas];constructor
 .rintro⟨t,ht,rfl⟩;have h:=Gbm.mp ht;have h2:=Gar h.2;rw[I.ct t h.1] at h2;exact⟨t.1,t.2.1,rfl,by lia⟩
 .rintro⟨o,k,rfl,h⟩;obtain⟨t,ht,rfl,rfl⟩:=I.cv o k (by lia);refine⟨t,Gbm.mpr ⟨ht,GaD ?_⟩,rfl⟩;rw[I.ct t ht];lia
def Jt(os:List XW)(gv:List Tr):(twF (gv.foldl (bc os) [])).Nodup:=by
 have I:=Jr os gv;unfold twF;have h:=I.nd;unfold List.Nodup at h⊢;rw[Gcn] at h⊢;refine(h.filter _).imp ?_;intro a b hab hc;lia
def kF(b:Bool)(x:Str)(n h:Int):List Flt:=(kk b x).map λk=>(k,[n,h])
def iQ(b:Bool)(x:Str)(n h:Int):(kF b x n h).length<=1:=by
 unfold kF;rw[Gae];exact cH b x
def nL{L:List Flt}(ht:t [e0,e1,U (Z (E n)),U (Z (E h)),e4,e5,e6,e7,U (Y (Q (L.map ai))),e9]=U b)(hl:L.length<100000):
  ifS t (dY 8 (aU (aa (kE (X x)) (aa (vE 2) (aa (vE 3) ag))))) aE [e0,e1,U (Z (E n)),U (Z (E h)),e4,e5,e6,e7,U (Y (Q (L.map ai))),e9]=U (P [e0,e1,U (Z (E n)),U (Z (E h)),e4,e5,e6,e7,U (Y (Q ((L++kF b x n h).map ai))),e9]):=by
 have z:(L.map ai).length<16777216:=by rw[Gae];lia
 have e:(L++kF b x n h).map ai=L.map ai++(kF b x n h).map ai:=by rw[GaC]
 rw[e];cases b with
 |true=>
  generalize L.map ai=XM at*;simp[ht,kF,kk,af,z,ai]
 |false=>
  simp[ht,kF,kk]
def Ge(gv:List Tr)(o:Int):cO (gN 0) (aC eqB (Yb (vE 0) (kE (E 0))) (vE 1)) (vE 0) (gv.map XZ) [J,U (Z (E o))]=U ((gv.filter λt=>decide (t.1=o)).map XZ):=by
 refine fJ XZ (λenv=>∃y,env=[y,U (Z (E o))]) (λt=>decide (t.1=o)) XZ gv _ ⟨J,rfl⟩ ?_;rintro t ht env ⟨y,rfl⟩;refine⟨[U (Z (XZ t)),U (Z (E o))],rfl,⟨_,rfl⟩, ?_,λ_=> ⟨.c, ?_, ?_⟩⟩
 .by_cases c:t.1=o<;>simp[XZ,c]
 .have:=w5 t;simp
 .simp
def Ju{o:XW}(ok:fY o.aS)(ts:List Tr)(k:Int):cO (gN 0) (aC eqB (aq jJ (aa (vE 1) (aa (Yb (vE 0) (kE (E 1))) ag))) (vE 2)) (vE 0) (ts.map XZ) [J,U (Z (ao o)),U (Z (E k))]=U ((ts.filter λt=>decide (bM o.aS t.2.1=U k)).map XZ):=by
 refine fJ XZ (λenv=>∃y,env=[y,U (Z (ao o)),U (Z (E k))]) (λt=>decide (bM o.aS t.2.1=U k)) XZ ts _ ⟨J,rfl⟩ ?_;rintro t ht env ⟨y,rfl⟩;have ed:=nJ (h:=t.2.1) ok;have rv:=aV (bY (bM o.aS t.2.1));have hx:ixD (XZ t) (E 1)=U (E t.2.1):=rfl;have im:=w5 t;refine⟨[U (Z (XZ t)),U (Z (ao o)),U (Z (E k))],rfl,⟨_,rfl⟩, ?_,λ_=> ⟨.c, ?_, ?_⟩⟩
 .cases hd:bM o.aS t.2.1 with
  |none=>
   simp_all
  |some j=>
   rw[hd] at ed rv;by_cases c:j=k<;>simp[hx,ed,c]
 .simp
 .simp
def twL(gv:List Tr)(u:mH)(n h:Int):List Flt:=match bM u h with
 |some k=>if 1<((gv.filter λt=>decide (t.1=n)).filter λt=>decide (bM u t.2.1=U k)).length then[("twice",[n,k])] else[]
 |none=>[]
def nM(ws gv:List Tr)(o:XW)(s:fW)(zq n h a:Int):List Flt:=
 kF (bC o.aS h) "astray" n h++kF (decide (o.most<a)) "most" n h++kF (decide (a<1)||decide (¬a%s.part=0)) "part" n h++kF (decide (h<zq+s.young)) "young" n h++kF (s.az.any bI&&(wgt o.ay h ws J).isNone) "weight" n h++twL gv o.aS n h
def Cj(cs:List Cap):cO (gN 0) fM (Yb (vE 0) (kE (E 0))) (cs.map bB) [J]=U (cs.map λc=>match c with| .flat _ _=>X "flat"| .kilo _ _ _=> X "kilo"| .ever _=> X "ever"):=by
 refine dW bB (λenv=>∃y,env=[y]) _ cs [J] ⟨J,rfl⟩ ?_;rintro c hc env ⟨y,rfl⟩;refine⟨_,rfl,⟨_,rfl⟩,.c, ?_, ?_⟩
 .cases c<;>simp[bB]
 .cases c<;>rfl
def Ma:∀(cs:List Cap),inB (X "kilo") (Q (cs.map λc=>match c with| .flat _ _=>X "flat"| .kilo _ _ _=> X "kilo"| .ever _=> X "ever"))=U (cs.any bI):=by
 intro cs;have key:∀cs:List Cap,(cs.map λc=>match c with| .flat _ _=>X "flat"| .kilo _ _ _=> X "kilo"| .ever _=> X "ever").any (λe=>eqD e (X "kilo"))=cs.any bI:=by
  intro cs;induction cs with
  |nil=>rfl
  |cons c cs ih=>
   rw[Gax,GcY,ih];cases c<;>rfl
 have pl:(cs.map λc=>match c with| .flat _ _=>X "flat"| .kilo _ _ _=> X "kilo"| .ever _=> X "ever").all (aM 10)=O:=by
  rw[Gbx,Gaq];intro c _;cases c<;>rfl
 show oY _ _=_;unfold oY;rw[pl,key]
 rfl
def Q7{W:List D}{o:XW}{ws gv:List Tr}(hW:ws.map XZ=W)(hG:gv.map XZ=G)(hO:atD XJ n=U (ao o))(du:fY o.aS)(hS:atD B o.ax=U (aK s))(so:gE s)(hA:atD A o.ay=U (bf gu))(im:(ao o).imm=O)(hl:gv.length<1000):
  kX [N [N A,N B,N C,N XJ],N [N W,N G],E n,E h,E a]=U (Q ((nM ws gv o s gu.2 n h a).map ai)):=by
 have iw:aB W=O:=by rw[<-hW];exact bK ws
 have ig:aB G=O:=by rw[<-hG];exact bK gv
 have ew:=gK (ws:=ws) (g:=o.ay) (h:=h);rw[hW] at ew;have ed:=nJ (h:=h) du;have rd:=aV (bY (bM o.aS h));have sp:=so.p1;have zG :0<s.part:=by lia
 have cl:=so.cl;have is:=gk s;have xI :=aV (bY (wgt o.ay h ws J));have kc:=Cj s.az;have ki:=Ma s.az;have zc:(s.az.map bB).length<=16777216:=by rw[Gae];lia
 have ic:=nB s.az;have sc:=Ge gv n;have zg:(gv.map XZ).length<=16777216:=by rw[Gae];lia
 have dc:=λk=>Ju du (gv.filter λt=>decide (t.1=n)) k;have zs:((gv.filter λt=>decide (t.1=n)).map XZ).length<=16777216:=by
  rw[Gae];exact Gbp (GbO _ _) (by lia)
 have isame:=bK (gv.filter λt=>decide (t.1=n));rw[hG] at sc zg;have p1:ixD (ao o) (E 3)=U (N [X o.way,E o.top,E o.per,E o.most]):=rfl;have p2:ixD (ao o) (E 1)=U (E o.ay):=rfl;have p3:ixD (ao o) (E 2)=U (E o.ax):=rfl;have p3' :ixD (ao o) (E 4)=U (cu o.aS):=rfl;have p4:ixD (aK s) (E 1)=U (N (E s.part::s.more.map E)):=rfl;have p5:ixD (aK s) (E 3)=U (E s.young):=rfl;have p7:ixD (aK s) (E 2)=U (N (s.az.map bB)):=rfl;have p6:ixD (bf gu) (E 1)=U (E gu.2):=rfl;generalize ao o=OD at*;generalize aK s=SD at*;generalize bf gu=GD at*;generalize hSm:(gv.filter λt=>decide (t.1=n))=sm at*;refine aN rfl ?_;unfold uz;refine(ae (e:=[U (Z (N [N A,N B,N C,N XJ])),U (Z (N [N W,N G])),U (Z (E n)),U (Z (E h)),U (Z (E a)),U (Z OD),J,J,J,J]) (by simp[fu,hO,im])).trans ?_;refine(ae (e:=[U (Z (N [N A,N B,N C,N XJ])),U (Z (N [N W,N G])),U (Z (E n)),U (Z (E h)),U (Z (E a)),U (Z OD),U (Z SD),J,J,J]) (by simp[p3,hS,is])).trans ?_;refine(ae (e:=[U (Z (N [N A,N B,N C,N XJ])),U (Z (N [N W,N G])),U (Z (E n)),U (Z (E h)),U (Z (E a)),U (Z OD),U (Z SD),U (Z (bZ (bM o.aS h))),J,J]) (by simp[ed,rd])).trans ?_;refine(ae (e:=[U (Z (N [N A,N B,N C,N XJ])),U (Z (N [N W,N G])),U (Z (E n)),U (Z (E h)),U (Z (E a)),U (Z OD),U (Z SD),U (Z (bZ (bM o.aS h))),U (Y (Q (([]:List Flt).map ai))),J]) (by simp[af])).trans ?_;refine(ae (nL (b:=bC o.aS h) ?_ (by simp))).trans ?_
 .cases hu:o.aS with
  |asked b=>
   rw[hu] at p3';unfold cu at p3';by_cases c:h<b<;>simp[p3',eqB,bC,c,bM]
  |due b e m ea la=>
   rw[hu] at p3';unfold cu at p3';have ea' :bC (.due b e m ea la) h=(k9 b e m ea la h).isNone:=rfl;have eb' :bM (.due b e m ea la) h=k9 b e m ea la h:=rfl;rw[ea',eb'];generalize k9 b e m ea la h=dk;cases dk<;>simp[p3',eqB,k8,dq]
 have k1:=iQ (bC o.aS h) "astray" n h;refine(ae (nL (b:=decide (o.most<a)) (by simp[p1]) (by simp only[Gal,Gbi];lia))).trans ?_;have k2:=iQ (decide (o.most<a)) "most" n h;refine(ae (nL (b:=decide (a<1)||decide (¬a%s.part=0)) ?_ (by simp only[Gal,Gbi];lia))).trans ?_
 .by_cases c:a<1
  .simp[c]
  .have nn:=GcG a (b:=s.part) (by lia);by_cases c2:a%s.part=0
   .simp[c,p4,zG,c2]
   .have c3:0<a%s.part:=by lia
    simp[c,p4,zG,c2,c3]
 have k3:=iQ (decide (a<1)||decide (¬a%s.part=0)) "part" n h;refine(ae (nL (b:=decide (h<gu.2+s.young)) (by simp[p2,hA,p6,p5]) (by simp only[Gal,Gbi];lia))).trans ?_;have k4:=iQ (decide (h<gu.2+s.young)) "young" n h;refine(ae (nL (b:=s.az.any bI&&(wgt o.ay h ws J).isNone) ?_ (by simp only[Gal,Gbi];lia))).trans ?_
 .generalize s.az.any bI=bk at*;generalize (s.az.map λc=>match c with| .flat _ _=>X "flat"| .kilo _ _ _=> X "kilo"| .ever _=> X "ever")=KK at*;generalize s.az.map bB=CC at*;cases bk with
  |false=>simp[-cO,af,DL.XT,df,p7,ic,zc,kc,ki]
  |true=>
   simp[-cO,af,DL.XT,df,p7,ic,zc,kc,ki,p2,ew,xI,iw];cases wgt o.ay h ws J<;>simp[k8,dq]
 have k5:=iQ (s.az.any bI&&(wgt o.ay h ws J).isNone) "weight" n h;generalize hL:[]++kF (bC o.aS h) "astray" n h++kF (decide (o.most<a)) "most" n h++kF (decide (a<1)||decide (¬a%s.part=0)) "part" n h++kF (decide (h<gu.2+s.young)) "young" n h++kF (s.az.any bI&&(wgt o.ay h ws J).isNone) "weight" n h=L;have zL:L.length<=5:=by rw[<-hL];simp only[Gal,Gbi];lia
 have eo:nM ws gv o s gu.2 n h a=L++twL gv o.aS n h:=by
  rw[<-hL];unfold nM;simp only[GbK]
 rw[eo];generalize hSD:sm.map XZ=S at*;refine(ae (e:=[U (Z (N [N A,N B,N C,N XJ])),U (Z (N [N W,N G])),U (Z (E n)),U (Z (E h)),U (Z (E a)),U (Z OD),U (Z SD),U (Z (bZ (bM o.aS h))),U (Y (Q (L.map ai))),U (Y (Q S))]) (by simp[-cO,af,DL.XT,df,ig,zg,sc])).trans ?_;have fin:∀R:List Flt,aB ((L++R).map ai)=O:=λR=>bW _;have zM:(L.map ai).length<16777216:=by rw[Gae];lia
 refine(ae (e:=[U (Z (N [N A,N B,N C,N XJ])),U (Z (N [N W,N G])),U (Z (E n)),U (Z (E h)),U (Z (E a)),U (Z OD),U (Z SD),U (Z (bZ (bM o.aS h))),U (Y (Q ((L++twL gv o.aS n h).map ai))),U (Y (Q S))]) ?_).trans ?_
 .unfold twL;rw[hSm];cases hd:bM o.aS h with
  |none=>simp[iZ,dq]
  |some k=>
   have Wm:=dc k;dsimp only;generalize hq:(sm.filter λt=>decide (bM o.aS t.2.1=U k))=qs at*;rw[GaC];generalize L.map ai=XM at*;by_cases c:1<qs.length
   .have c' :(1:Int)<((qs.map XZ).length:Int):=by rw[Gae];lia
    rw[Gan c];generalize qs.map XZ=Ys at*;simp[-cO,af,DL.XT,df,iZ,dq,Wm,zs,c',zM,ai]
   .have c' :¬(1:Int)<((qs.map XZ).length:Int):=by rw[Gae];lia
    rw[Gah c];generalize qs.map XZ=Ys at*;simp[-cO,af,DL.XT,df,iZ,dq,Wm,zs,c']
 .have:=fin (twL gv o.aS n h);generalize (L++twL gv o.aS n h).map ai=R at*;simp[this]
def gn(w:World)(ws gv:List Tr)(t:Tr):List Flt:=match w.XN[t.1.toNat]? with
 |some o=>match w.au[o.ax.toNat]?,w.bN[o.ay.toNat]? with
  |some s,U g=>nM ws gv o s g.2 t.1 t.2.1 t.2.2++iN w.XN ws gv o t.2.1 0 s.az++gv.flatMap (nrT w.XN w.br t.1 t.2.1)
  |_,_=>[]
 |none=>[]
def T3{F:List D}(UP:wd= N [N A,N B,N C,N XJ])(hO:atD XJ n=U OD)(p1:ixD OD (E 1)=U (E g))(p2:ixD OD (E 2)=U (E s))(h1:kX [wd,bk,E n,E h,E a]=U (Q F1))(h2:iG [wd,bk,E g,E s,E h]=U (Q F2))(h3:iH [wd,bk,E n,E h]=U (Q F3))(hz:F.length+F1.length+F2.length+F3.length<100000):
  ft [U (Z wd),U (Z bk),U (Y (Q F)),U (Z (E n)),U (Z (E h)),U (Z (E a))]=U (P [U (Z wd),U (Z bk),U (Y (Q (F++(F1++F2++F3)))),U (Z (E n)),U (Z (E h)),U (Z (E a))]):=by
 have rl:∀L:List D,ju (Q L)=⟨.tn,Q L⟩:=λ_=>rfl;have z1:F.length+F1.length<=16777216:=by lia
 have z2:(F++F1).length+F2.length<=16777216:=by rw[Gal];lia
 have z3:(F++F1++F2).length+F3.length<=16777216:=by rw[Gal,Gal];lia
 have hx:ixD wd (E 3)=U (N XJ):=by rw[UP];rfl
 have ea:F++(F1++F2++F3)=F++F1++F2++F3:=by simp
 rw[ea];refine(ae (by simp[h1,z1,af];rfl)).trans ?_;generalize F++F1=G1 at*;refine(ae (by simp[hx,hO,p1,p2,h2,z2,af];rfl)).trans ?_;generalize G1++F2=G2 at*;simp[h3,z3,af]
def cY{w:World}{n:Int}(W:aL w)(h0:0<=n)(h1:n<w.XN.length):∃o s g,w.XN[n.toNat]? =U o/\w.au[o.ax.toNat]? =U s/\w.bN[o.ay.toNat]? =U g/\gE s/\nC w.bN.length w.au.length o/\atD (w.XN.map ao) n=U (ao o)/\atD (w.au.map aK) o.ax=U (aK s)/\atD (w.bN.map bf) o.ay=U (bf g):=by
 obtain⟨i,hi⟩:=GaJ h0;have xa :i<w.XN.length:=by lia
 have ok:=W.oo w.XN[i] (GaB xa);obtain⟨j,hj⟩:=GaJ ok.s0;obtain⟨k,hk⟩:=GaJ ok.g0;have sl:=ok.s1;have gl:=ok.g1;have hj' :j<w.au.length:=by lia
 have xu :k<w.bN.length:=by lia
 refine⟨w.XN[i],w.au[j],w.bN[k], ?_, ?_, ?_,W.so _ (GaB hj'),ok, ?_, ?_, ?_⟩
 .simp_all
 .simp_all
 .simp_all
 .rw[hi,bO,Gap,Gac xa]
  rfl
 .rw[hj,bO,Gap,Gac hj']
  rfl
 .rw[hk,bO,Gap,Gac xu]
  rfl
def Eb(gv:List Tr)(u:mH)(n h:Int):(twL gv u n h).length<=1:=by
 unfold twL;split
 .split<;>simp
 .simp
def rZ(ws gv:List Tr)(o:XW)(s:fW)(b n h a:Int):(nM ws gv o s b n h a).length<=6:=by
 unfold nM;have k1:=iQ (bC o.aS h) "astray" n h;have k2:=iQ (decide (o.most<a)) "most" n h;have k3:=iQ (decide (a<1)||decide (¬a%s.part=0)) "part" n h;have k4:=iQ (decide (h<b+s.young)) "young" n h;have k5:=iQ (s.az.any bI&&(wgt o.ay h ws J).isNone) "weight" n h;have k6:=Eb gv o.aS n h;simp only[Gal];lia
theorem wc{w:World}{ws gv:List Tr}(W:aL w)(hg:bQ w.XN.length gv)(hl:gv.length<64):∀ts fs x3 x4 x5,bQ w.XN.length ts->fs.length+800*ts.length<60000->∃y3 y4 y5,
  XS (gT [3,4,5]) ft (ts.map XZ) [U (Z (aH w)),U (Z (N [N (ws.map XZ),N (gv.map XZ)])),U (Y (Q (fs.map ai))),x3,x4,x5]=
   U (P [U (Z (aH w)),U (Z (N [N (ws.map XZ),N (gv.map XZ)])),U (Y (Q ((fs++ts.flatMap (gn w ws gv)).map ai))),y3,y4,y5])
 |[],fs,x3,x4,x5,_,_=> ⟨x3,x4,x5,by simp⟩
 |t::ts,fs,x3,x4,x5,ht,hz=>by
  rw[GaF] at hz;have g0:=ht t Gaj;obtain⟨o,s,g,e1,e2,e3,so,ok,hO,hS,hG⟩:=cY W g0.1 g0.2;have h1:=Q7 (C:=w.br.map XZ) (ws:=ws) (gv:=gv) (h:=t.2.1) (a:=t.2.2) rfl rfl hO ok.du hS so hG (cE _ ok.ti) (by lia);have h2:=G9 W (ws:=ws) hg (h:=t.2.1) so hS;have h3:=Gd W (bkW:= N (ws.map XZ)) hg hl (h:=t.2.1) g0.1 g0.2;have l1:=rZ ws gv o s g.2 t.1 t.2.1 t.2.2;have l2:=i7 w.XN ws gv o t.2.1 0 s.az;have cl:=so.cl;have b12:=W.b12;have l3:(gv.flatMap (nrT w.XN w.br t.1 t.2.1)).length<=gv.length*12:=kZ _ 12 gv λu _=>Gbp (E9 ..) b12;have ev:=T3 (F:=fs.map ai) rfl hO rfl rfl h1 h2 h3 (by simp only[Gae];lia);have ef:gn w ws gv t=nM ws gv o s g.2 t.1 t.2.1 t.2.2++iN w.XN ws gv o t.2.1 0 s.az++gv.flatMap (nrT w.XN w.br t.1 t.2.1):=by
   unfold gn;simp_all
  rw[<-GaC,<-GaC,<-GaC,<-ef] at ev;have lf:(gn w ws gv t).length<=800:=by
   rw[ef];simp only[Gal];lia
  obtain⟨y3,y4,y5,e⟩:=wc W hg hl ts (fs++gn w ws gv t) (U (Z (E t.1))) (U (Z (E t.2.1))) (U (Z (E t.2.2))) (λx hx=>ht x (Gaf _ hx)) (by rw[Gal];lia);refine⟨y3,y4,y5, ?_⟩;rw[Gax,GaY,<-Gbe];have ed:XZ t= N [E t.1,E t.2.1,E t.2.2]:=rfl;have ew:N [N (w.bN.map bf),N (w.au.map aK),N (w.br.map XZ),N (w.XN.map ao)]=aH w:=rfl;rw[ew] at ev;rw[ed];simp only[XS,gT,gNs,GaG,GaH,Option.bind_some,ev];exact e
def Jv(e:XS (gT [3,4,5]) ft G [U (Z wd),U (Z (N [bkW,N G])),U (Y (Q [])),J,J,J]=U (P [U (Z wd),U (Z (N [bkW,N G])),U (Y (Q F)),y3,y4,y5]))(ok:rD F=O)(hR:bH (oj F)=R)(im:aB R=O):bA [wd,N [bkW,N G]]=U (Q R):=by
 refine aN rfl ?_;refine(ae (by simp;rfl)).trans ?_;refine(ae (by simp[e];rfl)).trans ?_;simp[nu,ok,hR,im]
theorem AY:∀(ds acc:List D),acc≠[]->ds.foldl ku acc≠[]
 |[],acc,h=>h
 |d::ds,acc,h=>by
  refine AY ds _ ?_;unfold ku;split
  .exact h
  .simp
def Mb(ds:List D):oj ds=[]↔ds=[]:=by
 constructor
 .intro h;cases ds with
  |nil=>rfl
  |cons d ds=>exact absurd h (AY ds [d] (by simp))
 .rintro rfl;rfl
def Q8(ds:List D):∀x∈oj ds,x∈ds:=by
 have key:∀(ds acc:List D) x,x∈ds.foldl ku acc->x∈acc\/x∈ds:=by
  intro ds;induction ds with
  |nil=>intro acc x hx;exact .inl hx
  |cons d ds ih=>
   intro acc x hx;rcases ih _ x hx with h|h
   .unfold ku at h;split at h
    .exact .inl h
    .rcases Gav.mp h with h|h
     .exact .inl h
     .rw[GaU.mp h];exact .inr Gaj
   .simp_all
 intro x hx;rcases key ds [] x hx with h|h
 .cases h
 .exact h
def Jw(L:List Flt)(hl:L.length<64):rD (L.map ai)=O:=by
 have h1:((L.map ai).all λd=>vq d&&imN 4 d)=O:=by
  rw[Gbx,Gaq];intro f _;show(O&&(imN 3 (X f.1)&&(f.2.map E).all (imN 3)))=O;have:(f.2.map E).all (imN 3)=O:=by
   rw[Gbx,Gaq];intro i _
   rfl
  rw[this];rfl
 unfold rD;rw[h1,AU,GaD (by rw[Gae];exact hl)]
 rfl
def iR(h:∀d∈ds,d.imm=O):aB ds=O:=kA (λ_ h=>h) h
def pO{w:World}{ws gv:List Tr}(W:aL w)(hg:bQ w.XN.length gv)(hl:gv.length<64)(hL:(gv.flatMap (gn w ws gv)).length<64):∃R,bA [aH w,N [N (ws.map XZ),N (gv.map XZ)]]=U (Q R)/\(R=[]↔gv.flatMap (gn w ws gv)=[]):=by
 obtain⟨y3,y4,y5,e⟩:=wc W hg hl gv [] J J J hg (by simp;lia);rw[GbK] at e;have ok:=Jw _ hL;generalize gv.flatMap (gn w ws gv)=L at*;refine⟨_,Jv e ok rfl ?_, ?_⟩
 .refine iR λd hd=> ?_;obtain⟨f,_,rfl⟩:=Gas.mp (Q8 _ d ((bT _).mem_iff.mp hd));have:=nA f.2;simp[ai,this]
 .constructor
  .intro h;have p:=bT (oj (L.map ai));rw[h] at p;have:=(Mb _).mp p.symm.eq_nil;simp_all
  .rintro rfl
   rfl
def gq(h:f∈dZ ws c g s k r):∃top,f=((("cap",[g,s,k,r.1,r.2,top]):Flt)):=by
 unfold dZ at h;split at h
 .split at h
  .exact⟨_,GaU.mp h⟩
  .simp at h
 .simp at h
def gr{ms:List (Int×Int)}:f∈jV ws g s k c ms↔∃h∈ms.map (·.1),f∈dZ ws c g s k (h,jo c ms h):=by
 unfold jV;rw[GaQ];constructor
 .rintro⟨r,hr,hf⟩;obtain⟨h,hh,rfl⟩:=Gas.mp hr;exact⟨h,((jL (ms.map (·.1))).2.1 h).mp hh,hf⟩
 .rintro⟨h,hh,hf⟩;exact⟨_,Gas.mpr ⟨h,((jL (ms.map (·.1))).2.1 h).mpr hh,rfl⟩,hf⟩
theorem i8:∀cs k,f∈gM ws g s ms k cs↔∃j c,cs[j]? =U c/\f∈jV ws g s ((k+j:Nat):Int) c ms
 |[],k=>by simp[gM]
 |c::cs,k=>by
  unfold gM;rw[Gav,i8 cs (k+1)];constructor
  .rintro(h| ⟨j,c',h1,h2⟩)
   .exact⟨0,c,rfl,h⟩
   .exact⟨j+1,c',by simpa using h1,by rw[show k+(j+1)=k+1+j by lia];exact h2⟩
  .rintro⟨j,c',h1,h2⟩;cases j with
   |zero=>simp at h1;subst h1;exact .inl h2
   |succ j=>exact .inr ⟨j,c',by simpa using h1,by rw[show k+1+j=k+(j+1) by lia];exact h2⟩
theorem l4{os:List XW}{ws gv:List Tr}{o:XW}{h:Int}:∀cs k,f∈iN os ws gv o h k cs↔∃j c,cs[j]? =U c/\f∈dZ ws c o.ay o.ax ((k+j:Nat):Int) (h,dM os c (o.ay,o.ax) h gv)
 |[],k=>by simp[iN]
 |c::cs,k=>by
  unfold iN;rw[Gav,l4 cs (k+1)];constructor
  .rintro(h| ⟨j,c',h1,h2⟩)
   .exact⟨0,c,rfl,h⟩
   .exact⟨j+1,c',by simpa using h1,by rw[show k+(j+1)=k+1+j by lia];exact h2⟩
  .rintro⟨j,c',h1,h2⟩;cases j with
   |zero=>simp at h1;subst h1;exact .inl h2
   |succ j=>exact .inr ⟨j,c',by simpa using h1,by rw[show k+1+j=k+(j+1) by lia];exact h2⟩
def Jx{w:World}{gv:List Tr}{st:List Tg}(W:aL w)(I:ly w.XN gv st)(hg:bQ w.XN.length gv)(f:Flt):f∈gv.flatMap (ovT w ws gv)↔f∈st.flatMap (tgF w.au ws):=by
 have at_:∀t∈gv,∃o,w.XN[t.1.toNat]? =U o/\tk w.XN t=(o.ay,o.ax):=λt ht=>by
  have g0:=hg t ht;obtain⟨n,hn⟩:=GaJ g0.1;have xd :n<w.XN.length:=by lia
  have e:w.XN[t.1.toNat]? =U w.XN[n]:=by rw[hn,Gbq,Gac xd]
  exact⟨_,e,by unfold tk;rw[e]⟩
 have key:∀e∈st,∀c h,jo c e.2 h=dM w.XN c e.1 h gv:=λe he c h=>by rw[rY,<-I.ms e he]
 rw[GaQ,GaQ];constructor
 .rintro⟨t,ht,hf⟩;obtain⟨o,ho,hk⟩:=at_ t ht;obtain⟨e,he,ek⟩:=Gas.mp (I.cov t ht);refine⟨e,he, ?_⟩;unfold ovT at hf;rw[ho] at hf;obtain⟨j,c,h1,h2⟩:=(l4 _ 0).mp hf;have e1:=ek.trans hk;unfold tgF;rw[i8];rw[e1];refine⟨j,c,h1,gr.mpr ⟨t.2.1, ?_, ?_⟩⟩
  .rw[I.ms e he,GaN];exact Gas.mpr ⟨t,Gbm.mpr ⟨ht,GaD ek.symm⟩,rfl⟩
  .rw[key e he,e1];exact h2
 .rintro⟨e,he,hf⟩;obtain⟨j,c,h1,h2⟩:=(i8 _ 0).mp hf;obtain⟨h,hh,h3⟩:=gr.mp h2;rw[I.ms e he,GaN] at hh;obtain⟨t,ht,rfl⟩:=Gas.mp hh;obtain⟨VY,hJ⟩:=Gbm.mp ht;have hJ:=Gar hJ;obtain⟨o,ho,hk⟩:=at_ t VY;have e1:=hJ.symm.trans hk;refine⟨t,VY, ?_⟩;unfold ovT;rw[ho];rw[l4];rw[key e he,e1] at h3;rw[e1] at h1;exact⟨j,c,h1,h3⟩
def Apart(w:World)(r l:Int×Int):Prop:=∀a b,w.XN[r.2.toNat]? =U a->w.XN[l.2.toNat]? =U b->mJ (w.br.foldl aQ []) a b<=l.1 -r.1\/mJ (w.br.foldl aQ []) a b<=r.1 -l.1
structure Snd(w:World)(ws gv:List Tr):Prop where
 ID:∀t∈gv,c9 w ws t=[]
 over:∀t∈gv,ovT w ws gv t=[]
 gap:(gvR gv).Pairwise (Apart w)
 cnt:∀o k,iO w.XN gv o k<=1
def Jy{w:World}(W:aL w)(a b:XW):mJ (w.br.foldl aQ []) a b=mJ (w.br.foldl aQ []) b a:=by
 have le:=λb hb=>(W.bo.1 b hb).2.1;have m:∀x y,mt x y=mt y x:=λx y=>by
  funext c
  unfold mt;rw[decide_eq_decide];exact or_comm
 unfold mJ;by_cases c:a.ay=b.ay
 .rw[Gan c,Gan c.symm,jM _ _ _ _ le W.bo.2,jM _ _ _ _ le W.bo.2,m]
  rfl
 .rw[Gah c,Gah λz=>c z.symm]
theorem Apart.symm(W:aL w)(h:Apart w r l):Apart w l r:=λa b ha hb=>by
 rw[Jy W];exact(h b a hb ha).symm
def AZ{w:World}(hl:r.1<=l.1):gpF w.XN (w.br.foldl aQ []) r l=[]↔Apart w r l:=by
 unfold gpF Apart;constructor
 .intro h a b ha hb;simp_all
 .intro h;split
  .rename_i a b ha hb;rw[Gah];have:=h a b ha hb;lia
  .rfl
theorem Ec(F:Int×Int->Int×Int->List Flt):∀rs,prs F rs=[]↔rs.Pairwise λr l=>F r l=[]
 |[]=>by simp[prs]
 |r::rs=>by
  unfold prs;rw[Gcg,GaV,Ec F rs,Gby]
def nil_of{α:Type}{l:List α}(h:∀x,¬x∈l):l=[]:=GdR.mpr h
def mM{gv:List Tr}{n:Int}{o:XW}(h:os[n.toNat]? =U o)(k:Int):((gv.filter λt=>decide (t.1=n)).filter λt=>decide (bM o.aS t.2.1=U k)).length=iO os gv n k:=by
 rw[List.filter_filter];congr 1;apply List.filter_congr;intro t _;unfold pM Ci;by_cases c:t.1=n
 .simp_all
 .simp[c]
def B0{w:World}{o:XW}(e1:w.XN[t.1.toNat]? =U o)(e2:w.au[o.ax.toNat]? =U s)(e3:w.bN[o.ay.toNat]? =U g):nM ws gv o s g.2 t.1 t.2.1 t.2.2=[]↔c9 w ws t=[]/\twL gv o.aS t.1 t.2.1=[]:=by
 unfold nM c9;rw[e1];dsimp only;rw[e2,e3];unfold jK kF;simp only[Gcg,GaC];constructor
 .rintro⟨⟨⟨⟨⟨a,b⟩,c⟩,d⟩,e⟩,f⟩;exact⟨⟨⟨⟨⟨a,b⟩,c⟩,e⟩,d⟩,f⟩
 .rintro⟨⟨⟨⟨⟨a,b⟩,c⟩,e⟩,d⟩,f⟩;exact⟨⟨⟨⟨⟨a,b⟩,c⟩,d⟩,e⟩,f⟩
theorem Ck{α:Type}{R:α->α->Prop}(sy:∀a b,R a b->R b a):∀{l:List α},l.Pairwise R->∀a∈l,∀b∈l,a≠b->R a b
 |[],_,a,ha,_,_,_=>absurd ha (by simp)
 |x::l,h,a,ha,b,hb,ne=>by
  rw[GaV] at h;rcases Gat.mp ha with e1|h1
  .rcases Gat.mp hb with e2|h2
   .simp_all
   .rw[e1];exact h.1 b h2
  .rcases Gat.mp hb with e2|h2
   .rw[e2];exact sy _ _ (h.1 a h1)
   .exact Ck sy h.2 a h1 b h2 ne
def kH(q:g7 h o l u=O):h<=l/\¬(h=l/\o=u):=by
 unfold g7 at q;rw[GaX,Gai,GcI,GcI,GcI] at q;lia
def Q9(q:¬(h=l/\o=u)):g7 h o l u=O\/g7 l u h o=O:=by
 unfold g7
 grind
def qa{w:World}{gv:List Tr}(W:aL w)(hg:bQ w.XN.length gv)(nd:(gvR gv).Nodup):gv.flatMap (gn w ws gv)=[]↔Snd w ws gv:=by
 have le:=λb hb=>(W.bo.1 b hb).2.1;rw[Gby];have each:∀t∈gv,(gn w ws gv t=[]↔(c9 w ws t=[]/\∃o,w.XN[t.1.toNat]? =U o/\twL gv o.aS t.1 t.2.1=[])/\ovT w ws gv t=[]/\∀u∈gv,nrT w.XN w.br t.1 t.2.1 u=[]):=λt ht=>by
  obtain⟨o,s,g,e1,e2,e3,so,ok,_⟩:=cY W (hg t ht).1 (hg t ht).2;have lo:=B0 (ws:=ws) (gv:=gv) e1 e2 e3;unfold gn ovT;simp_all
 have gp:∀r l:Int×Int,r.1<=l.1->(uL w.XN w.br r l=[]↔Apart w r l):=λr l hl=>by
  rw[nK le W.bo.2 hl];exact AZ hl
 constructor
 .intro h;refine⟨λt ht=>((each t ht).mp (h t ht)).1.1,λt ht=>((each t ht).mp (h t ht)).2.1, ?_,λn k=> ?_⟩
  .have all:∀r∈gvR gv,∀l∈gvR gv,r≠l->Apart w r l:=λr hr l hl ne=>by
    obtain⟨t,ht,rfl⟩:=Gas.mp hr;obtain⟨u,hu,rfl⟩:=Gas.mp hl;have ne' :¬(t.2.1=u.2.1/\t.1=u.1):=λz=>ne (by rw[z.1,z.2]);rcases Q9 ne' with q|q
    .have:=((each t ht).mp (h t ht)).2.2 u hu;unfold nrT at this;rw[q] at this;exact(gp (t.2.1,t.1) (u.2.1,u.1) (kH q).1).mp this
    .have:=((each u hu).mp (h u hu)).2.2 t ht;unfold nrT at this;rw[q] at this;exact Apart.symm W ((gp (u.2.1,u.1) (t.2.1,t.1) (kH q).1).mp this)
   exact(GcU.mp nd).imp λ{a b} z=>all a z.1 b z.2.1 z.2.2
  .by_cases c:iO w.XN gv n k<=1
   .exact c
   .have cp:0<iO w.XN gv n k:=by lia
    obtain⟨t,ht⟩:=List.exists_mem_of_length_pos cp;have h1:=Gbm.mp ht;have h2:=h1.2;unfold pM at h2;rw[Gai] at h2;have q1:=Gar h2.1;have q2:=Gar h2.2;obtain⟨o,eo,tw⟩:=((each t h1.1).mp (h t h1.1)).1.2;unfold Ci at q2;rw[eo] at q2;have q3:bM o.aS t.2.1=U k:=q2;unfold twL at tw;rw[q3] at tw;dsimp only at tw;rw[mM eo,Gan (by lia)] at tw;cases tw
 .intro S t ht;refine(each t ht).mpr ⟨⟨S.ID t ht, ?_⟩,S.over t ht,λu hu=> ?_⟩
  .obtain⟨o,s,g,e1,_⟩:=cY W (hg t ht).1 (hg t ht).2;refine⟨o,e1, ?_⟩;unfold twL;split
   .rename_i k hk;rw[mM e1,Gah];have:=S.cnt t.1 k;lia
   .rfl
  .unfold nrT;split
   .rename_i q;have lq:=kH q;refine(gp (t.2.1,t.1) (u.2.1,u.1) lq.1).mpr ?_;have hr:(t.2.1,t.1)∈gvR gv:=Gas.mpr ⟨t,ht,rfl⟩;have hl:(u.2.1,u.1)∈gvR gv:=Gas.mpr ⟨u,hu,rfl⟩;exact Ck (λa b z=>Apart.symm W z) S.gap _ hr _ hl λz=>lq.2 (by injection z with z1 z2;exact⟨z1,z2⟩)
   .rfl
def we:(jV ws g s k c ms).Nodup:=by
 unfold jV;have hp:=(jL (ms.map (·.1))).1;generalize k7 (ms.map (·.1))=hs at*;induction hs with
 |nil=>simp
 |cons h hs ih=>
  rw[GaV] at hp;rw[Gax,GaY,GaW];refine⟨?_,ih hp.2,λa ha b hb e=> ?_⟩
  .unfold dZ;split
   .split<;>simp
   .simp
  .obtain⟨t1,rfl⟩:=gq ha;obtain⟨r,hr,hb⟩:=GaQ.mp hb;obtain⟨h',US,rfl⟩:=Gas.mp hr;obtain⟨t2,rfl⟩:=gq hb;have:=hp.1 h' US;lia
theorem pC:∀cs k,(gM ws g s ms k cs).Nodup
 |[],k=>by simp[gM]
 |c::cs,k=>by
  unfold gM;rw[GaW];refine⟨we,pC cs (k+1),λa ha b hb e=> ?_⟩;obtain⟨h,_,ha⟩:=gr.mp ha;obtain⟨t1,rfl⟩:=gq ha;obtain⟨j,c',_,hb⟩:=(i8 cs (k+1)).mp hb;obtain⟨h',_,hb⟩:=gr.mp hb;obtain⟨t2,rfl⟩:=gq hb;lia
def uM(h:f∈gM ws g s ms k cs):∃r,f.2=g::s::r:=by
 obtain⟨j,c',_,hb⟩:=(i8 cs k).mp h;obtain⟨h',_,hb⟩:=gr.mp hb;obtain⟨t2,rfl⟩:=gq hb;exact⟨_,rfl⟩
theorem B1:∀st:List Tg,(st.map (·.1)).Nodup->(st.flatMap (tgF ss ws)).Nodup
 |[],_=>by simp
 |e::st,h=>by
  rw[Gax,Gbc] at h;rw[GaY,GaW];refine⟨pC _ _,B1 st h.2,λa ha b hb e' => ?_⟩;obtain⟨r1,h1⟩:=uM ha;obtain⟨e2,xQ,hb⟩:=GaQ.mp hb;obtain⟨r2,h2⟩:=uM hb;rw[e',h2] at h1;injection h1 with q1 q2
  injection q2 with q3 _
  exact h.1 (Gas.mpr ⟨e2,xQ,Prod.ext q1 q3⟩)
def Mc(ne:a≠b)(h:ltC (DL.code (mk2 b)) (DL.code (mk2 a))=M):g7 a.1 a.2 b.1 b.2=O:=by
 obtain⟨a1,a2⟩:=a;obtain⟨b1,b2⟩:=b;have e1:∀x y:Int,DL.code (mk2 (x,y))=[[1,x],[1,y]]:=λ_ _=>rfl;rw[e1,e1] at h;unfold ltC at h;unfold g7;by_cases c1:b1=a1
 .subst c1;by_cases c2:b2=a2
  .simp_all
  .simp[dO,ltI,c2] at h;lia
 .simp[dO,ltI,c1] at h;lia
def B2{eA:List (Int×Int)}(r1:bH ((gvR gv).map mk2)=eA.map mk2)(nd:eA.Nodup):eA.Pairwise λa b=>g7 a.1 a.2 b.1 b.2=O:=by
 have hs:=cQ ((gvR gv).map mk2);rw[r1] at hs;unfold fg at hs;rw[Gcn] at hs;exact(hs.and nd).imp λ{a b} q=>Mc q.2 q.1
theorem wg:∀{rs},(rs.Pairwise λa b=>g7 a.1 a.2 b.1 b.2=O)->(f∈prs F rs↔∃a∈rs,∃b∈rs,g7 a.1 a.2 b.1 b.2=O/\f∈F a b)
 |[],_=>by simp[prs]
 |r::rs,h=>by
  rw[GaV] at h;unfold prs;rw[Gav,wg h.2,GaQ];constructor
  .rintro(⟨b,hb,hf⟩| ⟨a,ha,b,hb,hl,hf⟩)
   .exact⟨r,Gaj,b,Gaf _ hb,h.1 b hb,hf⟩
   .exact⟨a,Gaf _ ha,b,Gaf _ hb,hl,hf⟩
  .rintro⟨a,ha,b,hb,hl,hf⟩;rcases Gat.mp ha with e1|h1
   .rw[e1] at hl hf;rcases Gat.mp hb with e2|h2
    .have:=kH hl;lia
    .exact .inl ⟨b,h2,hf⟩
   .rcases Gat.mp hb with e2|h2
    .rw[e2] at hl;have h3:=h.1 a h1;unfold g7 at h3 hl;simp at h3 hl;lia
    .exact .inr ⟨a,h1,b,h2,hl,hf⟩
def oC{gs:List Tr}{r:Int×Int}(h:f∈gpF os gs r l):f=(("gap",[r.2,r.1,l.2,l.1]):Flt):=by
 unfold gpF at h;split at h
 .simp_all
 .cases h
def Qa(os:List XW)(gs:List Tr)(r l:Int×Int):(gpF os gs r l).Nodup:=by
 unfold gpF;split
 .split<;>simp
 .simp
theorem Jz{os:List XW}{gs:List Tr}(r:Int×Int):∀{rs:List (Int×Int)},rs.Nodup->(rs.flatMap (gpF os gs r)).Nodup
 |[],_=>by simp
 |l::rs,h=>by
  rw[Gbc] at h;rw[GaY,GaW];refine⟨Qa ..,Jz r h.2,λa ha b hb e=> ?_⟩;obtain⟨l',yz,hb⟩:=GaQ.mp hb;have e1:=oC ha;have e2:=oC hb
  grind
theorem JA{os:List XW}{gs:List Tr}:∀{rs},rs.Nodup->(prs (gpF os gs) rs).Nodup
 |[],_=>by simp[prs]
 |r::rs,h=>by
  rw[Gbc] at h;unfold prs;rw[GaW];refine⟨Jz r h.2,JA h.2,λa ha b hb e=> ?_⟩;obtain⟨l,hl,ha⟩:=GaQ.mp ha;have e1:=oC ha;have key:∀rs:List (Int×Int),b∈prs (gpF os gs) rs->∃r' ∈rs,∃l' :Int×Int,b=(("gap",[r'.2,r'.1,l'.2,l'.1]):Flt):=by
   intro rs;induction rs with
   |nil=>intro q;unfold prs at q;cases q
   |cons x xs ih=>
    intro q;rcases Gav.mp q with q|q
    .obtain⟨l',_,q⟩:=GaQ.mp q;exact⟨x,Gaj,l',oC q⟩
    .obtain⟨r',h1,h2⟩:=ih q;exact⟨r',Gaf _ h1,h2⟩
  obtain⟨r',yk,l',e2⟩:=key rs hb
  grind
def se(b:Bool)(x:Str):List.Sublist (kk b x) [x]:=by cases b<;>simp[kk]
noncomputable def oD:List Str:=["astray","most","part","weight","young"]
def uN(o:XW)(s:fW)(b:Int)(ws:List Tr)(t:Tr):List.Sublist (jK o s b ws t) oD:=by
 exact((((se _ _).append (se _ _)).append (se _ _)).append (se _ _)).append (se _ _)
def JB:oD.Nodup:=by
 unfold oD;simp
def nN(h:f∈c9 w ws t):f.1∈oD/\f.2=[t.1,t.2.1]:=by
 unfold c9 at h;split at h
 .split at h
  .obtain⟨k,hk,rfl⟩:=Gas.mp h;exact⟨(uN ..).subset hk,rfl⟩
  .cases h
 .cases h
def JC(w:World)(ws:List Tr)(t:Tr):(c9 w ws t).Nodup:=by
 unfold c9;split
 .split
  .rename_i o _ _ _ s g _ _;have h:=(uN o s g.2 ws t).nodup JB;unfold List.Nodup at h⊢;rw[Gcn];simp_all
  .simp
 .simp
theorem B3:∀{gv},(gvR gv).Nodup->(gv.flatMap (c9 w ws)).Nodup
 |[],_=>by simp
 |t::gv,h=>by
  unfold gvR at h;rw[Gax,Gbc] at h;rw[GaY,GaW];refine⟨JC ..,B3 h.2,λa ha b hb e=> ?_⟩;obtain⟨u,hu,hb⟩:=GaQ.mp hb;have e1:=(nN ha).2;have e2:=(nN hb).2;rw[e,e2] at e1;simp only[Gdc,and_true] at e1;exact h.1 (Gas.mpr ⟨u,hu,by rw[e1.1,e1.2]⟩)
def JD{w:World}{st:List Tg}(h:f∈st.flatMap (tgF w.au ws)):f.1="cap":=by
 obtain⟨e,_,h⟩:=GaQ.mp h;obtain⟨j,c',_,h⟩:=(i8 _ 0).mp h;obtain⟨h',_,h⟩:=gr.mp h;obtain⟨t2,rfl⟩:=gq h
 rfl
def Cm{gs:List Tr}{rs:List (Int×Int)}(hr:rs.Pairwise λa b=>g7 a.1 a.2 b.1 b.2=O)(h:f∈prs (gpF os gs) rs):f.1="gap":=by
 obtain⟨a,_,b,_,_,h⟩:=(wg hr).mp h;rw[oC h]
def JE{gv:List Tr}(h:f∈twF (gv.foldl (bc os) [])):f.1="twice":=by
 obtain⟨o,k,rfl,_⟩:=Js.mp h
 rfl
def JF(h:x∈oD):x≠"cap"/\x≠"gap"/\x≠"twice":=by
 unfold oD at h;simp only[Gat,GbF,Gdk] at h;rcases h with rfl|rfl|rfl|rfl|rfl<;>simp
def Md{w:World}{gv:List Tr}{st:List Tg}{eA:List (Int×Int)}(I:ly w.XN gv st)(nd:(gvR gv).Nodup)(r2:eA.Perm (gvR gv))(r1:bH ((gvR gv).map mk2)=eA.map mk2):
  (st.flatMap (tgF w.au ws)++prs (gpF w.XN (w.br.foldl aQ [])) eA++twF (gv.foldl (bc w.XN) [])++gv.flatMap (c9 w ws)).Nodup:=by
 have rn:=r2.nodup_iff.mpr nd;have lr:=B2 r1 rn;have n1:(Str.ofString "cap")≠Str.ofString "gap":=by simp
 have n2:(Str.ofString "cap")≠Str.ofString "twice":=by simp
 have n3:(Str.ofString "gap")≠Str.ofString "twice":=by simp
 rw[GaW,GaW,GaW];refine⟨⟨⟨B1 st I.nd,JA rn,λa ha b hb e=> ?_⟩,Jt _ _,λa ha b hb e=> ?_⟩,B3 nd,λa ha b hb e=> ?_⟩
 .exact n1 ((JD ha).symm.trans (by rw[e];exact Cm lr hb))
 .rcases Gav.mp ha with ha|ha
  .exact n2 ((JD ha).symm.trans (by rw[e];exact JE hb))
  .exact n3 ((Cm lr ha).symm.trans (by rw[e];exact JE hb))
 .obtain⟨u,_,hb⟩:=GaQ.mp hb;have q:=JF (nN hb).1;rw[<-e] at q;rcases Gav.mp ha with ha|ha
  .rcases Gav.mp ha with ha|ha
   .exact q.1 (JD ha)
   .exact q.2.1 (Cm lr ha)
  .exact q.2.2 (JE ha)
def Ed{w:World}{o:XW}(e1:w.XN[t.1.toNat]? =U o)(e2:w.au[o.ax.toNat]? =U s)(e3:w.bN[o.ay.toNat]? =U g)(f:Flt):f∈nM ws gv o s g.2 t.1 t.2.1 t.2.2↔f∈c9 w ws t\/f∈twL gv o.aS t.1 t.2.1:=by
 unfold nM c9;rw[e1];dsimp only;rw[e2,e3];unfold jK kF;simp only[GaC,Gav];constructor
 .rintro(((((h|h)|h)|h)|h)|h)
  .exact .inl (.inl (.inl (.inl (.inl h))))
  .exact .inl (.inl (.inl (.inl (.inr h))))
  .exact .inl (.inl (.inl (.inr h)))
  .exact .inl (.inr h)
  .exact .inl (.inl (.inr h))
  .exact .inr h
 .rintro(((((h|h)|h)|h)|h)|h)
  .exact .inl (.inl (.inl (.inl (.inl h))))
  .exact .inl (.inl (.inl (.inl (.inr h))))
  .exact .inl (.inl (.inl (.inr h)))
  .exact .inl (.inr h)
  .exact .inl (.inl (.inr h))
  .exact .inr h
def qb{gv:List Tr}{t:Tr}{o:XW}(e1:os[t.1.toNat]? =U o)(f:Flt):f∈twL gv o.aS t.1 t.2.1↔∃k,bM o.aS t.2.1=U k/\1<iO os gv t.1 k/\f=(("twice",[t.1,k]):Flt):=by
 unfold twL;split
 .rename_i k hk;rw[mM e1];simp_all
 .simp_all
def Me{w:World}{gv:List Tr}{st:List Tg}{eA:List (Int×Int)}(W:aL w)(hg:bQ w.XN.length gv)(I:ly w.XN gv st)(nd:(gvR gv).Nodup)(r2:eA.Perm (gvR gv))(r1:bH ((gvR gv).map mk2)=eA.map mk2)(f:Flt):
  f∈st.flatMap (tgF w.au ws)++prs (gpF w.XN (w.br.foldl aQ [])) eA++twF (gv.foldl (bc w.XN) [])++gv.flatMap (c9 w ws)↔f∈gv.flatMap (gn w ws gv):=by
 have rn:=r2.nodup_iff.mpr nd;have lr:=B2 r1 rn;have le:=λb hb=>(W.bo.1 b hb).2.1;rw[Gav,Gav,Gav,<-Jx W I hg,wg lr,Js];have each:∀t∈gv,∃o,w.XN[t.1.toNat]? =U o/\(f∈gn w ws gv t↔((f∈c9 w ws t\/f∈twL gv o.aS t.1 t.2.1)\/f∈ovT w ws gv t)\/∃u∈gv,f∈nrT w.XN w.br t.1 t.2.1 u):=λt ht=>by
  obtain⟨o,s,g,e1,e2,e3,so,ok,_⟩:=cY W (hg t ht).1 (hg t ht).2;refine⟨o,e1, ?_⟩;rw[<-Ed e1 e2 e3];unfold gn ovT;rw[e1];dsimp only;rw[e2,e3];rw[Gav,Gav,GaQ]
  rfl
 have rm:∀a,a∈eA↔∃t∈gv,(t.2.1,t.1)=a:=λa=>by
  rw[r2.mem_iff];unfold gvR;rw[Gas]
 rw[GaQ (f:=gn w ws gv)];constructor
 .rintro(((h| ⟨a,ha,b,hb,hl,h⟩)| ⟨o,k,rfl,h⟩)|h)
  .obtain⟨t,ht,h⟩:=GaQ.mp h;obtain⟨o,e1,q⟩:=each t ht;exact⟨t,ht,q.mpr (.inl (.inr h))⟩
  .obtain⟨t,ht,rfl⟩:=(rm a).mp ha;obtain⟨u,hu,rfl⟩:=(rm b).mp hb;obtain⟨o,e1,q⟩:=each t ht;refine⟨t,ht,q.mpr (.inr ⟨u,hu, ?_⟩)⟩;unfold nrT;rw[Gan hl,nK le W.bo.2 (kH hl).1];exact h
  .have cp:0<iO w.XN gv o k:=by lia
   obtain⟨t,ht⟩:=List.exists_mem_of_length_pos cp;have h1:=Gbm.mp ht;have h2:=h1.2;unfold pM at h2;rw[Gai] at h2;have q1:=Gar h2.1;have q2:=Gar h2.2;obtain⟨o',e1,q⟩:=each t h1.1;unfold Ci at q2;rw[e1] at q2;refine⟨t,h1.1,q.mpr (.inl (.inl (.inr ((qb e1 _).mpr ⟨k,q2, ?_, ?_⟩))))⟩
   .rw[q1];exact h
   .rw[q1]
  .obtain⟨t,ht,h⟩:=GaQ.mp h;obtain⟨o,e1,q⟩:=each t ht;exact⟨t,ht,q.mpr (.inl (.inl (.inl h)))⟩
 .rintro⟨t,ht,h⟩;obtain⟨o,e1,q⟩:=each t ht;rcases q.mp h with((h|h)|h)| ⟨u,hu,h⟩
  .exact .inr (GaQ.mpr ⟨t,ht,h⟩)
  .obtain⟨k,_,h2,h3⟩:=(qb e1 f).mp h;exact .inl (.inr ⟨t.1,k,h3,h2⟩)
  .exact .inl (.inl (.inl (GaQ.mpr ⟨t,ht,h⟩)))
  .unfold nrT at h;split at h
   .rename_i hl;rw[nK le W.bo.2 (show(t.2.1,t.1).1<=(u.2.1,u.1).1 from(kH hl).1)] at h;exact .inl (.inl (.inr ⟨_,(rm _).mpr ⟨t,ht,rfl⟩,_,(rm _).mpr ⟨u,hu,rfl⟩,hl,h⟩))
   .cases h
theorem B4:∀a b:List Int,jv (a.map E) (b.map E)=decide (a=b)
 |[],[]=>rfl
 |[],_::_=>rfl
 |_::_,[]=>rfl
 |x::a,y::b=>by
  show(decide (x=y)&&jv (a.map E) (b.map E))=_;rw[B4 a b,<-Bool.decide_and,decide_eq_decide,Gdc]
def Ee(f g:Flt):eqD (ai f) (ai g)=decide (f=g):=by
 show(decide (f.1=g.1)&&jv (f.2.map E) (g.2.map E))=_;rw[B4,<-Bool.decide_and,decide_eq_decide,Prod.ext_iff]
theorem sf:∀(L acc:List Flt),acc.Nodup->∃R:List Flt,(L.map ai).foldl ku (acc.map ai)=R.map ai/\R.Nodup/\∀f,f∈R↔f∈acc\/f∈L
 |[],acc,h=> ⟨acc,rfl,h,λf=>by simp⟩
 |x::L,acc,h=>by
  rw[Gax,Gcl];have a:(acc.map ai).any (λe=>eqD e (ai x))=decide (x∈acc):=by
   rw[Gdn,GdL,Gca,GcI];constructor
   .rintro⟨g,hg,e⟩;have e' :eqD (ai g) (ai x)=O:=e;rw[Ee] at e';simp_all
   .intro hx;exact⟨x,hx,by show eqD (ai x) (ai x)=O;rw[Ee];exact GaD rfl⟩
  unfold ku;rw[a];by_cases c:x∈acc
  .rw[Gan (GaD c)];obtain⟨R,h1,h2,h3⟩:=sf L acc h;refine⟨R,h1,h2,λf=>(h3 f).trans ⟨λq=>q.imp id (Gaf _),λq=> ?_⟩⟩;rcases q with q|q
   .exact .inl q
   .rcases Gat.mp q with q|q
    .rw[q];exact .inl c
    .exact .inr q
  .rw[Gah (by rw[GcI];exact c)];have e:acc.map ai++[ai x]=(acc++[x]).map ai:=by rw[GaC];rfl
   rw[e];have nd:(acc++[x]).Nodup:=by
    rw[GaW];exact⟨h,by simp,λa ha b hb e=>c (by rw[<-GaU.mp hb,<-e];exact ha)⟩
   obtain⟨R,h1,h2,h3⟩:=sf L (acc++[x]) nd;refine⟨R,h1,h2,λf=>(h3 f).trans ?_⟩;rw[Gav,GaU,Gat,or_assoc]
def Mf{w:World}{ws gv:List Tr}(W:aL w)(hg:bQ w.XN.length gv)(hl:gv.length<64)(nd:(gvR gv).Nodup)(hL:(gv.flatMap (gn w ws gv)).length<64)(hz:∀st eA,ly w.XN gv st->eA.Perm (gvR gv)->(eA.Pairwise λa b=>a.1<=b.1)->(st.flatMap (tgF w.au ws)++da w.XN (w.br.foldl aQ []) (wide w.br) eA++twF (gv.foldl (bc w.XN) [])++gv.flatMap (c9 w ws)).length<64):
  ∃fs,jI [aH w,N [N (ws.map XZ),N (gv.map XZ)]]=U (Q (fs.map ai))/\bA [aH w,N [N (ws.map XZ),N (gv.map XZ)]]=U (Q (fs.map ai))/\fs.length<64/\(fs=[]↔Snd w ws gv)/\∀f∈fs,f∈gv.flatMap (gn w ws gv):=by
 obtain⟨st,eA,I,r2,r1,r3,e,z⟩:=AV W hg hl;have le:=λb hb=>(W.bo.1 b hb).2.1;have pos:=λb hb=>(W.bo.1 b hb).2.2.2;have zz:=hz st eA I r2 r3;have e:=e zz;rw[mL (Jp le pos W.bo.2) eA r3] at e zz;have pn:=Md (ws:=ws) I nd r2 r1;have pm:=Me W (ws:=ws) hg I nd r2 r1;have ln:=qa W (ws:=ws) hg nd;generalize st.flatMap (tgF w.au ws)++prs (gpF w.XN (w.br.foldl aQ [])) eA++twF (gv.foldl (bc w.XN) [])++gv.flatMap (c9 w ws)=Yv at*;obtain⟨y3,y4,y5,e5⟩:=wc W hg hl gv [] J J J hg (by simp;lia);have ok:=Jw _ hL;generalize gv.flatMap (gn w ws gv)=L at*;obtain⟨R,d1,d2,d3⟩:=sf L [] Gdp;have pr:=(List.perm_ext_iff_of_nodup pn d2).mpr λf=>by rw[pm,d3];simp
 have es:=Ce ((iM R).trans (pr.symm.trans (iM Yv).symm)) (nH R) (nH Yv);have hR:bH (oj (L.map ai))=(pB Yv).map ai:=by
  rw[<-es,<-rW];exact congrArg bH d1
 refine⟨pB Yv,e,Jv e5 ok hR (bW _),by rw[(iM Yv).length_eq];exact zz, ?_,λf hf=>(pm f).mp ((iM Yv).mem_iff.mp hf)⟩;rw[<-ln];constructor
 .intro h;have p:=iM Yv;rw[h] at p;have e0:=p.symm.eq_nil;refine nil_of λf hf=> ?_;have:=(pm f).mpr hf;rw[e0] at this;cases this
 .rintro rfl;have e0:=nil_of λf hf=>by cases(pm f).mp hf
  rw[e0]
  rfl
def T4{ns:List Int}:∃far:Int,(far=1\/far=1000000)/\d8 [.scr ns]=U (E far):=by
 have e:=aP ns 300;have q:mx ns 300%6=0\/mx ns 300%6=1\/mx ns 300%6=2\/mx ns 300%6=3\/mx ns 300%6=4\/mx ns 300%6=5:=by lia
 unfold d8 uy;rcases q with q|q|q|q|q|q<;>simp[e,q,af]
def Qb{ns:List Int}(hk:0<=k)(xP:k<100000)(hp:1<=part)(yw:part<=50000)(hf:1<=far)(xo:far<=1000000):
  ∃c,lO c/\i0 [.scr ns,E k,E part,E far]=U (bB c):=by
 have e:∀j:Int,0<=j->j<=4->ah [.scr ns,E (k+j)]=U (E (mx ns (k+j))):=λj h1 h2=>aP _ _;have e0:=aP ns k;have e1:=e 1 (by lia) (by lia);have e2:=e 2 (by lia) (by lia);have e3:=e 3 (by lia) (by lia);have e4:=e 4 (by lia) (by lia);have m1:∀j,aT far j=O:=λj=>bq;have m2:∀j,aT part j=O:=λj=>bq;have h1:1<=far*(3+mx ns (k+1)%28):=fF hf (by lia);have up:∀q B:Int,0<=q->q<=B->part*q<=50000*B:=λq B a b=>jm (by lia) yw a b;by_cases c1:mx ns k%3=0
 .refine⟨.flat (far*(3+mx ns (k+1)%28)) (part*(3+mx ns (k+2)%18)),⟨h1,fF hp (by lia), ?_⟩, ?_⟩
  .have:=up (3+mx ns (k+2)%18) 20 (by lia) (by lia);lia
  .unfold i0 kW bB;simp[e0,e1,e2,m1,m2,c1,af]
 .by_cases c2:mx ns k%3=1
  .refine⟨.kilo (far*(3+mx ns (k+1)%28)) (part*(1+mx ns (k+3)%9)) (5+mx ns (k+4)%40),⟨h1,fF hp (by lia), ?_,by lia,by lia⟩, ?_⟩
   .have:=up (1+mx ns (k+3)%9) 9 (by lia) (by lia);lia
   .unfold i0 kW bB;simp[e0,e1,e3,e4,m1,m2,c1,c2,af]
  .refine⟨.ever (part*(8+mx ns (k+2)%30)),⟨fF hp (by lia), ?_⟩, ?_⟩
   .have:=up (8+mx ns (k+2)%30) 37 (by lia) (by lia);lia
   .unfold i0 kW bB;simp[e0,e1,e2,m1,m2,c1,c2,af]
def Cn{xs:List D}{x:D}:atD (xs++[x]) (-1)=U x:=by
 unfold atD;rw[Gah (by lia),Gan (by simp;lia)];have:(-1+((xs++[x]).length:Int)).toNat=xs.length:=by simp;lia
 rw[this];simp
def Co{ns ms:List Int}(hk:0<=k)(xP:k<100000)(hp:1<=p)(yw:p<=50000)(hj:0<=j)(zT:j<=2)(hl:ms.length<=2)(hm:∀m∈ms,1<=m/\m<=1+6*(ms.length:Int)):
  ∃m,1<=m/\m<=1+6*((ms.length:Int)+1)/\fS [U (Z (.scr ns)),U (Z (E k)),x2,x3,U (Z (E p)),U (Y (Q ((1::ms).map λm=> E (p*m)))),U (Z (E j)),x7,x8]=
   U (P [U (Z (.scr ns)),U (Z (E k)),x2,x3,U (Z (E p)),U (Y (Q ((1::(ms++[m])).map λm=> E (p*m)))),U (Z (E j)),x7,x8]):=by
 have e:=aP ns (k+2+j);have m2:∀j,aT p j=O:=λj=>bq;obtain⟨l,W6,zS,xx⟩:∃l,1<=l/\l<=1+6*(ms.length:Int)/\atD ((1::ms).map λm=>E (p*m)) (-1)=U (E (p*l)):=by
  rcases List.eq_nil_or_concat ms with h| ⟨xW,l,h⟩
  .subst h;exact⟨1,by lia,by simp,by rfl⟩
  .rw[List.concat_eq_append] at h;subst h;have:=hm l (by simp);refine⟨l,this.1,this.2, ?_⟩;have e9:((1::(xW ++[l])).map λm=>E (p*m))=((1::xW).map λm=>E (p*m))++[E (p*l)]:=by simp
   rw[e9,Cn]
 refine⟨l+(1+mx ns (k+2+j)%6),by lia,by lia, ?_⟩;have z:ms.length+1<16777216:=by lia
 have hat' :atD (E (p*1)::(ms.map λm=>E (p*m))) (-1)=U (E (p*l)):=by simpa using xx
 unfold fS;simp[e,m2,af];simp at hat';simp[hat',z,Int.mul_add]
def Gf{ns:List Int}(hk:0<=k)(xP:k<100000)(hp:1<=p)(yw:p<=50000)(n:Nat)(hn:n<=2):
  ∃ms y6,ms.length=n/\(∀m∈ms,1<=m/\m<=30)/\XS (gN 6) fS (aG 0 n) [U (Z (.scr ns)),U (Z (E k)),x2,x3,U (Z (E p)),U (Y (Q [E p])),J,J,J]=
   U (P [U (Z (.scr ns)),U (Z (E k)),x2,x3,U (Z (E p)),U (Y (Q ((1::ms).map λm=> E (p*m)))),y6,J,J]):=by
 obtain⟨e,h1,ms,y6,rfl,h2,h3⟩:=cD (g:=gN 6) (λi env=>∃ms y6,env=[U (Z (.scr ns)),U (Z (E k)),x2,x3,U (Z (E p)),U (Y (Q ((1::ms).map λm=> E (p*m)))),y6,J,J]/\ms.length=i/\∀m∈ms,1<=m/\m<=1+6*(ms.length:Int)) (aG 0 n) 0 _ ⟨[],J,rfl,rfl,by simp⟩ (by
  rintro i d env hd ⟨ms,y6,rfl,h2,h3⟩;obtain⟨hi,rfl⟩:=b9 hd;rw[GaP] at h2;obtain⟨m,m1,m2,q⟩:=Co (j:=0+(i:Int)) hk xP hp yw (by lia) (by lia) (by lia) h3;refine⟨_,_,rfl,q,ms++[m],_,rfl,by simp;lia,λz hz=> ?_⟩;rcases Gav.mp hz with hz|hz
  .have:=h3 z hz;simp;lia
  .simp at hz;simp;lia)
 rw[bV,GaP] at h2;refine⟨ms,y6,h2,λm hm=> ?_, ?_⟩
 .have:=h3 m hm;lia
 .simpa using h1
def Gg{ns:List Int}(hk:0<=k)(xP:k<10000)(hp:1<=p)(yw:p<=50000)(hf:1<=far)(xo:far<=1000000)(n:Nat)(hn:n<=2):
  ∃(cs:List Cap) (y6:Os),cs.length=n/\(∀c∈cs,lO c)/\XS (gN 6) fT (aG 0 n) [U (Z (.scr ns)),U (Z (E k)),x2,U (Z (E far)),U (Z (E p)),x5,x6,U (Y (Q [])),J]=
   U (P [U (Z (.scr ns)),U (Z (E k)),x2,U (Z (E far)),U (Z (E p)),x5,y6,U (Y (Q (cs.map bB))),J]):=by
 obtain⟨e,h1,cs,y6,rfl,h2,h3⟩:=cD (g:=gN 6) (body:=fT) (λi env=>∃(cs:List Cap) (y6:Os),env=[U (Z (.scr ns)),U (Z (E k)),x2,U (Z (E far)),U (Z (E p)),x5,y6,U (Y (Q (cs.map bB))),J]/\cs.length=i/\∀c∈cs,lO c) (aG 0 n) 0 _ ⟨[],x6,rfl,rfl,by simp⟩ (by
  rintro i d env hd ⟨cs,y6,rfl,h2,h3⟩;obtain⟨hi,rfl⟩:=b9 hd;obtain⟨c,c1,c2⟩:=Qb (ns:=ns) (k:=k+6+5*(0+(i:Int))) (by lia) (by lia) hp yw hf xo;have m5:aT 5 (0+(i:Int))=O:=bq;have z:(cs.map bB).length<16777216:=by rw[Gae];lia
  have rv:=aV (rM c);have em:(cs++[c]).map bB=cs.map bB++[bB c]:=by simp
  generalize 0+(i:Int)=j at*;refine⟨_,_,rfl, ?_,cs++[c],U (Z (E j)),rfl,by simp;lia, ?_⟩
  .rw[em];generalize cs.map bB=CS at*;unfold fT;simp[m5,c2,af,z,rv]
  .intro x hx;rcases Gav.mp hx with hx|hx
   .exact h3 x hx
   .simp at hx;subst hx;exact c1)
 rw[bV,GaP] at h2;exact⟨cs,y6,h2,h3,h1⟩
def JG{ns:List Int}(hk:0<=k)(xP:k<10000)(hf:1<=far)(xo:far<=1000000):∃s,gE s/\s.az.length<=2/\j7 [.scr ns,E k,X x,E far]=U (aK s):=by
 have e0:=aP ns k;have VG:=aP ns 301;have e1:=aP ns (k+1);have e4:=aP ns (k+4);have e5:=aP ns (k+5);have r0:=mxm ns k 5 (by lia);have r1:=mxm ns (k+1) 3 (by lia);have r4:=mxm ns (k+4) 3 (by lia);have r5:=SH ns (k+5);obtain⟨mul,hmul,u1,u2⟩:∃mul:Int,atD [E 1,E 1,E 10000] (mx ns 301%3)=U (E mul)/\1<=mul/\mul<=10000:=by
  have q:mx ns 301%3=0\/mx ns 301%3=1\/mx ns 301%3=2:=by lia
  rcases q with q|q|q<;>simp[q]
 generalize X0:1+mx ns k%5=p0;have hp0a:1<=p0:=by lia
 have hp0b:p0<=5:=by lia
 have y1:1<=p0*mul:=fF hp0a u1;have hpb:p0*mul<=50000:=by
  have:=jm (by lia) hp0b (by lia) u2;lia
 generalize hp:p0*mul=p at*;have m0:aT p0 mul=O:=bq;obtain⟨ms,y6,ml,mb,l1⟩:=Gf (ns:=ns) (k:=k) (p:=p) (x2:=U (Z (X x))) (x3:=U (Z (E far))) hk (by lia) y1 hpb (mx ns (k+1)%3).toNat (by lia);obtain⟨cs,z6,cl,ck,l2⟩:=Gg (ns:=ns) (k:=k) (p:=p) (far:=far) (x2:=U (Z (X x))) (x5:=U (Y (Q ((1::ms).map λm=> E (p*m))))) (x6:=y6) hk xP y1 hpb hf xo (mx ns (k+4)%3).toNat (by lia);have s1:aW (mx ns (k+1)%3)=O:=b8;have s4:aW (mx ns (k+4)%3)=O:=b8;generalize mx ns (k+5)=yv at*;have m5:aT (yv%2) far=O:=bq;have m6:∀i,aT i (yv/2%20)=O:=λi=>bJ;refine⟨⟨x,p,ms.map (p* ·),cs,yv%2*far*(yv/2%20)⟩,⟨y1,by show p<=100000;lia,by show cs.length<=4;lia,ck, ?_⟩,by show cs.length<=2;lia, ?_⟩
 .exact GbP (GbP (by lia) (by lia)) (by lia)
 .have ci:=nB cs;have ee:((p::ms.map (p* ·)).map E)=(1::ms).map λm=>E (p*m):=by simp
  have im:aB ((1::ms).map λm=>E (p*m))=O:=by rw[<-ee];exact nA _
  unfold aK;rw[ee];have e1m:(1::ms).map (λm=>E (p*m))= E p::ms.map λm=> E (p*m):=by simp
  rw[e1m] at l1 l2 im⊢;generalize (E p::ms.map λm=>E (p*m))=MS at*;unfold j7 pe;simp[-XS,e0,VG,e1,e4,e5,hmul,X0,m0,hp,s1,s4,l1,l2,m5,m6,af,ci,im,freed]
def Mg{ns:List Int}(hk:0<=k)(xP:k<100000)(hf:1<=far)(xo:far<=1000000):∃u,fY u/\iE [.scr ns,E k,E far]=U (cu u):=by
 have e0:=aP ns k;have e1:=aP ns (k+1);have e2:=aP ns (k+2);have e3:=aP ns (k+3);have e4:=aP ns (k+4);have e5:=aP ns (k+5);have mf:∀j,aT far j=O:=λj=>bq;have up:∀q B:Int,0<=q->q<=B->far*q<=1000000*B:=λq B a b=>jm (by lia) xo a b;by_cases c:mx ns k%4=0
 .refine⟨.asked (far*(mx ns (k+1)%20)),GbP (by lia) (by lia), ?_⟩;unfold iE mD cu;simp[e0,e1,c,mf,af]
 .generalize he:2+mx ns (k+2)%10=ev;have q2:ev<=11:=by lia
  have r3:=mxm ns (k+3) ev (by lia);generalize UW:mx ns (k+3)%ev=ea at r3;have r4:=mxm ns (k+4) (ev -ea) (by lia);generalize zk:mx ns (k+4)%(ev -ea)=la at r4;refine⟨.due (far*(ea+mx ns (k+1)%12)) (far*ev) (1+mx ns (k+5)%6) (far*ea) (far*la),⟨fF hf (by lia), ?_,by lia,GbP (by lia) r3.1,GbP (by lia) r4.1, ?_, ?_, ?_⟩, ?_⟩
  .have:=up ev 11 (by lia) q2;lia
  .rw[<-Int.mul_add];exact Int.mul_lt_mul_of_pos_left (by lia) (by lia)
  .exact Int.mul_le_mul_of_nonneg_left (by lia) (by lia)
  .have:=up (ea+mx ns (k+1)%12) 22 (by lia) (by lia);lia
  .have p1:0<ev:=by lia
   have p2:0<ev -ea:=by lia
   have p3:ea<ev:=by lia
   unfold iE mD cu;simp[e0,e1,e2,e3,e4,e5,c,mf,he,UW,zk,p1,p2,p3,af]
def jb(t:D):Prop:=∃a b c:Int,t= N [E a,E b,E c]/\1<=b/\b<=12/\1<=c/\c<=12
def kI(o:XW):Prop:=0<=o.per/\o.per<=99/\1<=o.top/\o.top<=1000000/\∀t∈o.wz,jb t
theorem jb.imm{t:D}(h:jb t):t.imm=O:=by obtain⟨a,b,c,rfl,_⟩:=h;simp
def B5{ns:List Int}{ts:List D}(hk:0<=k)(xP:k<10000)(hj:0<=j)(zT:j<=2)(hl:ts.length<=100)(ht:∀t∈ts,jb t):
  ∃at' zE zr,fU [U (Z (.scr ns)),U (Z (E k)),x2,x3,x4,x5,x6,x7,x8,x9,eI,eM,U (Z (cu u)),U (Y (Q ts)),U (Z (E at_)),U (Z (E j)),x16]=
   U (P [U (Z (.scr ns)),U (Z (E k)),x2,x3,x4,x5,x6,x7,x8,x9,eI,eM,U (Z (cu u)),U (Y (Q zE)),U (Z (E at')),U (Z (E j)),zr])/\zE.length<=ts.length+1/\∀t∈zE,jb t:=by
 have e1:=aP ns (k+14+j);have e2:=aP ns (k+16+j);have e3:=aP ns (k+18+j);have z:ts.length<16777216:=by lia
 generalize xx:at_+1+mx ns (k+14+j)%2=at';generalize zm:1+mx ns (k+16+j)%12=den;have Wa:0<den:=by lia
 have r3:=mxm ns (k+18+j) den Wa;unfold fU;cases u with
 |asked b=>
  refine⟨at',ts,U (Z (E den)), ?_,by lia,ht⟩;unfold cu;simp[e1,e2,e3,xx,zm]
 |due b e m ea la=>
  unfold cu;by_cases c:at' <m
  .refine⟨at',ts++[N [E at',E (1+mx ns (k+18+j)%den),E den]],U (Z (E den)), ?_,by simp, ?_⟩
   .simp[e1,e2,e3,xx,zm,c,Wa,af,z]
   .intro t h;rcases Gav.mp h with h|h
    .exact ht t h
    .simp at h;exact⟨_,_,_,h,by lia,by lia,by lia,by lia⟩
  .refine⟨at',ts,U (Z (E den)), ?_,by lia,ht⟩;simp[e1,e2,e3,xx,zm,c]
def JH{ns:List Int}{gs:List (Str×Int)}{ss:List fW}(hk:0<=k)(xP:k<10000)(hf:1<=far)(xo:far<=1000000)(hg:1<=gs.length)(hs:1<=ss.length)(Vi:∀s∈ss,gE s):
  ∃(o:XW) (c:Int),nC gs.length ss.length o/\(∃s,ss[o.ax.toNat]? =U s/\o.most=s.part*c)/\1<=c/\c<=12/\kI o/\j8 [.scr ns,E k,X x,Q (gs.map bf),Q (ss.map aK),E far]=U (ao o):=by
 have e:∀j:Int,0<=j->j<=30->ah [.scr ns,E (k+j)]=U (E (mx ns (k+j))):=λj h1 h2=>aP _ _;have e0:=aP ns k;have e1:=e 1 (by lia) (by lia);have e2:=e 2 (by lia) (by lia);have e3:=e 3 (by lia) (by lia);have e4:=e 4 (by lia) (by lia);have e5:=e 5 (by lia) (by lia);have e6:=e 6 (by lia) (by lia);have e7:=e 7 (by lia) (by lia);have Xr:=e 20 (by lia) (by lia);have r0:=mxm ns k (ss.length:Int) (by lia);have r20:=mxm ns (k+20) (gs.length:Int) (by lia);obtain⟨st,xZ⟩:∃st:Nat,mx ns k%(ss.length:Int)=st:=⟨(mx ns k%(ss.length:Int)).toNat,by lia⟩
 have hst2:st<ss.length:=by lia
 have xx:atD (ss.map aK) (st:Int)=U (aK ss[st]):=by rw[bO,Gap,Gac hst2];rfl
 have hok:=Vi ss[st] (GaB hst2);have hget:ss[st]? =U ss[st]:=by simp[hst2]
 generalize ss[st]=sd at*;have p1:=hok.p1;have p2:=hok.p2;have q1:ixD (aK sd) (E 1)=U (N (E sd.part::sd.more.map E)):=rfl;have WI:=gk sd;obtain⟨way,Vd⟩:∃way:Str,atD [X "down",X "up",X "near"] (mx ns (k+6)%3)=U (X way):=by
  have q:mx ns (k+6)%3=0\/mx ns (k+6)%3=1\/mx ns (k+6)%3=2:=by lia
  rcases q with q|q|q<;>simp[q]
 obtain⟨u,hu1,zO⟩:=Mg (ns:=ns) (k:=k+8) (far:=far) (by lia) (by lia) hf xo;have r7:=mxm ns (k+7) 3 (by lia);have s7:aW (mx ns (k+7)%3)=O:=b8;have mp:∀j,aT sd.part j=O:=λj=>bq;have m2:∀j,aT (mx ns (k+2)%2) j=O:=λj=>bq;have pp:0<sd.part:=by lia
 have di:=uC u;have rv:=aV di;have p0:=mxm ns (k+2) 2 (by lia);have p9:=mxm ns (k+3) 90 (by lia);have per0:0<=mx ns (k+2)%2*(10+mx ns (k+3)%90):=GbP p0.1 (by lia);have per1:mx ns (k+2)%2*(10+mx ns (k+3)%90)<=1*99:=jm p0.1 (by lia) (by lia) (by lia);have p4:=mxm ns (k+4) 8 (by lia);have p5:=mxm ns (k+5) sd.part pp;have top0:0<=sd.part*(mx ns (k+4)%8):=GbP (by lia) p4.1;have top1:sd.part*(mx ns (k+4)%8)<=100000*7:=jm (by lia) p2 p4.1 (by lia);generalize hc:1+mx ns (k+1)%12=c;generalize Vk:mx ns (k+2)%2*(10+mx ns (k+3)%90)=per;generalize Vh:sd.part*(mx ns (k+4)%8)+1+mx ns (k+5)%sd.part=top;have Xl:cA [Q (gs.map bf)]=U ⟨.c,E (gs.length:Int)⟩:=by simp[cA]
 have Xk:cA [Q (ss.map aK)]=U ⟨.c,E (ss.length:Int)⟩:=by simp[cA]
 have WV:(0:Int)<ss.length:=by lia
 have Vx:(0:Int)<gs.length:=by lia
 generalize hGS:gs.map bf=GS at*;generalize hSS:ss.map aK=SS at*;generalize hDD:cu u=DD at*;obtain⟨en,h1,V0,ts,V1,zr,rfl,h2,h3⟩:=cD (g:=gN 15) (body:=fU) (λi env=>∃V0 ts V1 zr,env=[U (Z (.scr ns)),U (Z (E k)),U (Z (X x)),U (Z (Q GS)),U (Z (Q SS)),U (Z (E far)),U (Z (E st)),U (Z (E sd.part)),U (Z (E (sd.part*c))),U (Z (E per)),U (Z (E top)),U (Z (N [X way,E top,E per,E (sd.part*c)])),U (Z DD),U (Y (Q ts)),U (Z (E V0)),V1,zr]/\ts.length<=i/\∀t∈ts,jb t) (aG 0 (mx ns (k+7)%3).toNat) 0
  [U (Z (.scr ns)),U (Z (E k)),U (Z (X x)),U (Z (Q GS)),U (Z (Q SS)),U (Z (E far)),U (Z (E st)),U (Z (E sd.part)),U (Z (E (sd.part*c))),U (Z (E per)),U (Z (E top)),U (Z (N [X way,E top,E per,E (sd.part*c)])),U (Z DD),U (Y (Q [])),U (Z (E 0)),J,J]
  ⟨0,[],J,J,rfl,by simp,by simp⟩ (by
   rintro i d env hd ⟨V0,ts,V1,zr,rfl,h2,h3⟩;obtain⟨hi,rfl⟩:=b9 hd;obtain⟨at',zE,Wo,q1,q2,q3⟩:=B5 (ns:=ns) (k:=k) (j:=0+(i:Int)) (at_:=V0) (u:=u) (ts:=ts) (x2:=U (Z (X x))) (x3:=U (Z (Q GS))) (x4:=U (Z (Q SS))) (x5:=U (Z (E far))) (x6:=U (Z (E st))) (x7:=U (Z (E sd.part))) (x8:=U (Z (E (sd.part*c)))) (x9:=U (Z (E per))) (eI:=U (Z (E top))) (eM:=U (Z (N [X way,E top,E per,E (sd.part*c)]))) (x16:=zr) hk xP (by lia) (by lia) (by lia) h3;rw[hDD] at q1;exact⟨_,_,rfl,q1,at',zE,_,Wo,rfl,by lia,q3⟩)
 have ti:=kA (λ_=>jb.imm) h3;refine⟨⟨x,mx ns (k+20)%(gs.length:Int),(st:Int),way,top,per,sd.part*c,u,ts⟩,c,⟨r20.1,r20.2,by show(0:Int)<=(st:Int);lia,by show(st:Int)<(ss.length:Int);lia,hu1,ti⟩,⟨sd,by show ss[((st:Int)).toNat]? =U sd;rw[Gbq];exact hget,rfl⟩,by lia,by lia,⟨by show 0<=per;lia,by show per<=99;lia,by show 1<=top;lia,by show top<=1000000;lia,h3⟩, ?_⟩;unfold ao;rw[hDD];generalize (gs.length:Int)=lg at*;generalize (ss.length:Int)=ls at*;unfold j8 pf;simp[-XS,-mX,Xl,Xk,e0,e1,e2,e3,e4,e5,e6,e7,Xr,WV,Vx,xZ,xx,q1,WI,Vd,zO,s7,mp,m2,pp,hc,Vk,Vh,af,h1,ti,di,rv,freed]
def Gh{ns:List Int}{x y:Int}{n:Nat}{bs:List Tr}(hf:1<=far)(xo:far<=1000000)(hn:n<=3)(hx:0<=x)(WK:x<=y)(WJ:y<n)(hl:bs.length<=100)(hb:jn n bs)(eX:kB x y bs):
  ∃(xi :List Tr) (y9:Os),jn n xi /\kB x (y+1) xi /\xi.length<=bs.length+1/\dF [U (Z (.scr ns)),U (Z (E far)),x2,x3,x4,x5,U (Y (Q (bs.map XZ))),U (Z (E x)),U (Z (E y)),x9,eI]=
   U (P [U (Z (.scr ns)),U (Z (E far)),x2,x3,x4,x5,U (Y (Q (xi.map XZ))),U (Z (E x)),U (Z (E y)),y9,eI]):=by
 have e1:=aP ns (370+3*x+y);have e2:=aP ns (380+3*x+y);have e3:=aP ns (390+3*x+y);have m3:aT 3 x=O:=bq;have mf:∀j,aT far j=O:=λj=>bq;have lm:(bs.map XZ).length=bs.length:=Gae _;have z:(bs.map XZ).length<16777216:=by lia
 have r:=mxm ns (390+3*x+y) (((bs.map XZ).length:Int)+1) (by lia);have s:=b8 (i:=mx ns (390+3*x+y)%(((bs.map XZ).length:Int)+1)) (by lia) (by lia);have p:(0:Int)<((bs.map XZ).length:Int)+1:=by lia
 by_cases c:mx ns (370+3*x+y)%3=0
 .generalize hg:far*(1+mx ns (380+3*x+y)%8)=g;have g1:1<=g:=by rw[<-hg];exact fF hf (by lia)
  generalize hi:mx ns (390+3*x+y)%(((bs.map XZ).length:Int)+1)=i at*;have pm:=BE bs i (x,y,g);refine⟨iA bs i (x,y,g),U (Z (E g)),⟨λb xG => ?_, ?_⟩,λb xG => ?_,by rw[uc];lia, ?_⟩
  .rcases Gat.mp (pm.mem_iff.mp xG) with h|h
   .subst h;exact⟨hx,WK,WJ,g1⟩
   .exact hb.1 b h
  .rw[(pm.map Cb).nodup_iff,Gax,Gbc];refine⟨λh=> ?_,hb.2⟩;obtain⟨b,xG,e⟩:=Gas.mp h;have h1:=eX b xG;unfold Cb at e;lia
  .rcases Gat.mp (pm.mem_iff.mp xG) with h|h
   .subst h;exact .inr ⟨rfl,by show y<y+1;lia⟩
   .have:=eX b h;lia
  .rw[FW];have et:XZ (x,y,g)= N [E x,E y,E g]:=rfl;rw[et];generalize bs.map XZ=B at*;unfold dF;simp[e1,e2,e3,m3,mf,c,af,z,s,p,hg,hi]
 .refine⟨bs,x9,hb,λb h=>by have:=eX b h;lia,by lia, ?_⟩;unfold dF;simp[e1,m3,c]
def B6{ns:List Int}{far x:Int}{n m:Nat}{SS:List D}{bs:List Tr}{x2 x3 x4 x8 x9:Os}(hf:1<=far)(xo:far<=1000000)(hn:n<=3)(hx:0<=x)(hm:x+m<=n)(hl:bs.length<=50)(hb:jn n bs)(eX:kB x x bs):
  ∃(xi :List Tr) (z8 z9:Os),jn n xi /\kB x (x+m) xi /\xi.length<=bs.length+m/\XS (gN 8) dF (aG x m) [U (Z (.scr ns)),U (Z (E far)),x2,x3,x4,U (Y (Q SS)),U (Y (Q (bs.map XZ))),U (Z (E x)),x8,x9,J]=
   U (P [U (Z (.scr ns)),U (Z (E far)),x2,x3,x4,U (Y (Q SS)),U (Y (Q (xi.map XZ))),U (Z (E x)),z8,z9,J]):=by
 obtain⟨e,q1,xi,z8,z9,q2,q3,q4,rfl⟩:=cD (g:=gN 8) (λj env=>∃(xi :List Tr) (z8 z9:Os),jn n xi /\kB x (x+(j:Int)) xi /\xi.length<=bs.length+j/\env=[U (Z (.scr ns)),U (Z (E far)),x2,x3,x4,U (Y (Q SS)),U (Y (Q (xi.map XZ))),U (Z (E x)),z8,z9,J]) (aG x m) 0 _ ⟨bs,x8,x9,hb,by rw[show x+((0:Nat):Int)=x by lia];exact eX,by simp,rfl⟩ (by
  rintro j d env hd ⟨xi,z8,z9,q2,q3,q4,rfl⟩;obtain⟨hj,rfl⟩:=b9 hd;rw[GaP] at q3;obtain⟨Xu,w9,r1,r2,r3,r4⟩:=Gh hf xo hn hx (by lia) (by lia) (by lia) q2 q3;exact⟨_,_,rfl,r4,Xu,_,w9,r1,by rw[show x+((0+j+1:Nat):Int)=x+(j:Int)+1 by lia];exact r2,by lia,rfl⟩)
 rw[bV,GaP] at q3 q4;exact⟨xi,z8,z9,q2,q3,q4,q1⟩
def JI{ns:List Int}{n:Nat}{SS:List D}{bs:List Tr}(hL:cA [Q SS]=U ⟨.c,E L⟩)(XD:L=n)(hf:1<=far)(xo:far<=1000000)(hn:n<=3)(hx:0<=x)(Xz:x<L)(hl:bs.length<=50)(hb:jn n bs)(eX:kB x x bs):
  ∃(xi :List Tr) (z8 z9:Os),jn n xi /\kB (x+1) (x+1) xi /\xi.length<=bs.length+3/\dG [U (Z (.scr ns)),U (Z (E far)),x2,x3,x4,U (Y (Q SS)),U (Y (Q (bs.map XZ))),U (Z (E x)),x8,x9,J]=
   U (P [U (Z (.scr ns)),U (Z (E far)),x2,x3,x4,U (Y (Q SS)),U (Y (Q (xi.map XZ))),U (Z (E x)),z8,z9,J]):=by
 obtain⟨xi,z8,z9,q2,q3,q4,q1⟩:=B6 (ns:=ns) (m:=(L -x).toNat) (SS:=SS) (x2:=x2) (x3:=x3) (x4:=x4) (x8:=x8) (x9:=x9) hf xo hn hx (by lia) hl hb eX;have sa:aW x=O:=b8;have sb:aW L=O:=b8;refine⟨xi,z8,z9,q2,λb h=>by have:=q3 b h;lia,by lia, ?_⟩;unfold dG;simp[hL,sa,sb,q1]
def Gi{ns:List Int}{SS:List D}(hf:1<=far)(xo:far<=1000000)(hs:SS.length<=3):
  ∃(bs:List Tr) (y7 y8 y9:Os),jn SS.length bs/\bs.length<=9/\XS (gN 7) dG (aG 0 SS.length) [U (Z (.scr ns)),U (Z (E far)),x2,x3,x4,U (Y (Q SS)),U (Y (Q [])),J,J,J,J]=
   U (P [U (Z (.scr ns)),U (Z (E far)),x2,x3,x4,U (Y (Q SS)),U (Y (Q (bs.map XZ))),y7,y8,y9,J]):=by
 obtain⟨e,h1,bs,y7,y8,y9,h2,Wh,h3,rfl⟩:=cD (g:=gN 7) (λi env=>∃(bs:List Tr) (y7 y8 y9:Os),jn SS.length bs/\kB (i:Int) (i:Int) bs/\bs.length<=3*i/\env=[U (Z (.scr ns)),U (Z (E far)),x2,x3,x4,U (Y (Q SS)),U (Y (Q (bs.map XZ))),y7,y8,y9,J]) (aG 0 SS.length) 0 [U (Z (.scr ns)),U (Z (E far)),x2,x3,x4,U (Y (Q SS)),U (Y (Q [])),J,J,J,J] ⟨[],J,J,J,⟨λb hb=>absurd hb (by simp),by simp⟩,λb hb=>absurd hb (by simp),by simp,rfl⟩ (by
  rintro i d env hd ⟨bs,y7,y8,y9,h2,Wh,h3,rfl⟩;obtain⟨hi,rfl⟩:=b9 hd;obtain⟨xi,z8,z9,q1,WC,q2,q3⟩:=JI (x:=0+(i:Int)) rfl rfl hf xo hs (by lia) (by lia) (by lia) h2 (λb h=>by have:=Wh b h;lia);exact⟨_,_,rfl,q3,xi,_,z8,z9,q1,λb h=>by have:=WC b h;lia,by lia,rfl⟩)
 rw[bV] at h3;exact⟨bs,y7,y8,y9,h2,by lia,h1⟩
def Has(x:Str)(n:Nat):Prop:=x.length<=4/\∀i:Nat,i<n->∃c,atD x.cps.toList (i:Int)=U c
def Mh:Has (Str.ofString "abc") 3:=⟨by decide,λi hi=>match i,hi with|0,_=> ⟨_,rfl⟩|1,_=> ⟨_,rfl⟩|2,_=> ⟨_,rfl⟩⟩
def Mi:Has (Str.ofString "uvw") 3:=⟨by decide,λi hi=>match i,hi with|0,_=> ⟨_,rfl⟩|1,_=> ⟨_,rfl⟩|2,_=> ⟨_,rfl⟩⟩
def JJ:Has (Str.ofString "klmn") 4:=⟨by decide,λi hi=>match i,hi with|0,_=> ⟨_,rfl⟩|1,_=> ⟨_,rfl⟩|2,_=> ⟨_,rfl⟩|3,_=> ⟨_,rfl⟩⟩
def si:Has (Str.ofString "abcd") 4:=⟨by decide,λi hi=>match i,hi with|0,_=> ⟨_,rfl⟩|1,_=> ⟨_,rfl⟩|2,_=> ⟨_,rfl⟩|3,_=> ⟨_,rfl⟩⟩
def Has.le(h:Has x n)(hm:m<=n):Has x m:=⟨h.1,λi hi=>h.2 i (by lia)⟩
noncomputable def bX(a b c:Str):D:= Q [X a,X b,X c]
def B7{ns:List Int}(ha:Has a 3)(hf:1<=far)(xo:far<=1000000)(n:Nat)(hn:n<=3):
  ∃(gs:List (Str×Int)) (y4:Os),gs.length=n/\XS (gN 4) dD (aG 0 n) [U (Z (.scr ns)),U (Z (E far)),U (Z (bX a b c)),U (Y (Q [])),J,J,J,J,J,J,J]=
   U (P [U (Z (.scr ns)),U (Z (E far)),U (Z (bX a b c)),U (Y (Q (gs.map bf))),y4,J,J,J,J,J,J]):=by
 obtain⟨e,h1,gs,y4,rfl,h2⟩:=cD (g:=gN 4) (body:=dD) (λi env=>∃(gs:List (Str×Int)) (y4:Os),env=[U (Z (.scr ns)),U (Z (E far)),U (Z (bX a b c)),U (Y (Q (gs.map bf))),y4,J,J,J,J,J,J]/\gs.length=i) (aG 0 n) 0 _ ⟨[],J,rfl,rfl⟩ (by
  rintro i d env hd ⟨gs,y4,rfl,h2⟩;obtain⟨hi,rfl⟩:=b9 hd;obtain⟨ch,xE⟩:=ha.2 i (by lia);have e1:=aP ns (302+(i:Int));have mf:∀j,aT far j=O:=λj=>bq;have z:(gs.map bf).length<16777216:=by rw[Gae];lia
  have la:=ha.1;have zI:a.length<=16777216:=by lia
  generalize (i:Int)=j at xE e1;refine⟨_,_,rfl, ?_,gs++[(⟨#[ch]⟩,far*(mx ns (302+j)%10))],U (Z (E j)),rfl,by simp;lia⟩;have em:(gs++[((⟨#[ch]⟩:Str),far*(mx ns (302+j)%10))]).map bf=gs.map bf++[N [X ⟨#[ch]⟩,E (far*(mx ns (302+j)%10))]]:=by simp[bf]
  rw[em];generalize gs.map bf=GS at*;unfold dD bX;simp[xE,e1,mf,af,z,zI])
 rw[bV,GaP] at h2;exact⟨gs,y4,h2,h1⟩
def B8{ns:List Int}(hb:Has b 3)(hf:1<=far)(xo:far<=1000000)(n:Nat)(hn:n<=3):
  ∃(ss:List fW) (y4:Os),ss.length=n/\(∀s∈ss,gE s/\s.az.length<=2)/\XS (gN 4) dE (aG 0 n) [U (Z (.scr ns)),U (Z (E far)),U (Z (bX a b c)),x3,x4,U (Y (Q [])),J,J,J,J,J]=
   U (P [U (Z (.scr ns)),U (Z (E far)),U (Z (bX a b c)),x3,y4,U (Y (Q (ss.map aK))),J,J,J,J,J]):=by
 obtain⟨e,h1,ss,y4,rfl,h2,h3⟩:=cD (g:=gN 4) (body:=dE) (λi env=>∃(ss:List fW) (y4:Os),env=[U (Z (.scr ns)),U (Z (E far)),U (Z (bX a b c)),x3,y4,U (Y (Q (ss.map aK))),J,J,J,J,J]/\ss.length=i/\∀s∈ss,gE s/\s.az.length<=2) (aG 0 n) 0 _ ⟨[],x4,rfl,rfl,by simp⟩ (by
  rintro i d env hd ⟨ss,y4,rfl,h2,h3⟩;obtain⟨hi,rfl⟩:=b9 hd;obtain⟨ch,xE⟩:=hb.2 i (by lia);obtain⟨sd,s1,V7,s2⟩:=JG (ns:=ns) (k:=310+20*(i:Int)) (x:=⟨#[ch]⟩) (by lia) (by lia) hf xo;have VQ:aT 20 (i:Int)=O:=bq;have z:(ss.map aK).length<16777216:=by rw[Gae];lia
  have la:=hb.1;have zI:b.length<=16777216:=by lia
  have rv:=aV (gk sd);have em:(ss++[sd]).map aK=ss.map aK++[aK sd]:=by simp
  generalize (i:Int)=j at xE s2 VQ;refine⟨_,_,rfl, ?_,ss++[sd],U (Z (E j)),rfl,by simp;lia, ?_⟩
  .rw[em];generalize ss.map aK=SS at*;unfold dE bX;simp[xE,VQ,s2,af,z,zI,rv]
  .intro x hx;rcases Gav.mp hx with hx|hx
   .exact h3 x hx
   .simp at hx;subst hx;exact⟨s1,V7⟩)
 rw[bV,GaP] at h2;exact⟨ss,y4,h2,h3,h1⟩
def Cp{ns:List Int}{far v9 v5 v6 v7 L:Int}{a b c:Str}{gs ss bs os:List D}{y4 z4 y7 y8 y9 w4:Os}(ef:d8 [.scr ns]=U (E far))(e9:ah [.scr ns,E 299]=U (E v9))(e5:ah [.scr ns,E 305]=U (E v5))(e6:ah [.scr ns,E 306]=U (E v6))(e7:ah [.scr ns,E 307]=U (E v7))
  (Vr:atD [Q [X "abc",X "uvw",X "klmn"],Q [X "abcd",X "abcd",X "abcd"]] (if v9%3=0 then 1 else 0)=U (bX a b c))(t5:aW (1+v5%3)=O)(t6:aW (1+v6%3)=O)(t7:aW (1+v7%4)=O)(hL:cA [Q ss]=U ⟨.c,E L⟩)(ts:aW L=O)
  (l1:XS (gN 4) dD (aG 0 (1+v5%3).toNat) [U (Z (.scr ns)),U (Z (E far)),U (Z (bX a b c)),U (Y (Q [])),J,J,J,J,J,J,J]=U (P [U (Z (.scr ns)),U (Z (E far)),U (Z (bX a b c)),U (Y (Q gs)),y4,J,J,J,J,J,J]))
  (l2:XS (gN 4) dE (aG 0 (1+v6%3).toNat) [U (Z (.scr ns)),U (Z (E far)),U (Z (bX a b c)),U (Y (Q gs)),y4,U (Y (Q [])),J,J,J,J,J]=U (P [U (Z (.scr ns)),U (Z (E far)),U (Z (bX a b c)),U (Y (Q gs)),z4,U (Y (Q ss)),J,J,J,J,J]))
  (l3:XS (gN 7) dG (aG 0 L.toNat) [U (Z (.scr ns)),U (Z (E far)),U (Z (bX a b c)),U (Y (Q gs)),z4,U (Y (Q ss)),U (Y (Q [])),J,J,J,J]=U (P [U (Z (.scr ns)),U (Z (E far)),U (Z (bX a b c)),U (Y (Q gs)),z4,U (Y (Q ss)),U (Y (Q bs)),y7,y8,y9,J]))
  (l5:XS (gN 4) dH (aG 0 (1+v7%4).toNat) [U (Z (.scr ns)),U (Z (E far)),U (Z (bX a b c)),U (Y (Q gs)),z4,U (Y (Q ss)),U (Y (Q bs)),y7,y8,y9,U (Y (Q []))]=U (P [U (Z (.scr ns)),U (Z (E far)),U (Z (bX a b c)),U (Y (Q gs)),w4,U (Y (Q ss)),U (Y (Q bs)),y7,y8,y9,U (Y (Q os))]))
  (i1:aB gs=O)(i2:aB ss=O)(i3:aB bs=O)(i4:aB os=O):j9 [.scr ns]=U (N [N gs,N ss,N bs,N os]):=by
 refine aN rfl ?_;unfold ph;refine(ae (by simp[ef];rfl)).trans ?_;refine(ae (by simp[e9,Vr,af];rfl)).trans ?_;refine(ae (by simp[af];rfl)).trans ?_;refine(ae (by simp[e5,t5,l1];rfl)).trans ?_;refine(ae (by simp[af];rfl)).trans ?_;refine(ae (by simp[e6,t6,l2];rfl)).trans ?_;refine(ae (by simp[af];rfl)).trans ?_;refine(ae (by simp[-mX,hL,ts,l3];rfl)).trans ?_;refine(ae (by simp[af];rfl)).trans ?_;refine(ae (by simp[e7,t7,l5];rfl)).trans ?_;simp[af,i1,i2,i3,i4]
def sk(ss:List fW)(o:XW):Prop:=∃(s:fW) (c:Int),ss[o.ax.toNat]? =U s/\o.most=s.part*c/\1<=c/\c<=12
def B9{ns:List Int}{gs:List (Str×Int)}{ss:List fW}(hc:Has c 4)(hf:1<=far)(xo:far<=1000000)(hg:1<=gs.length)(hs:1<=ss.length)(Vi:∀s∈ss,gE s)(n:Nat)(hn:n<=4):
  ∃(os:List XW) (y4:Os),os.length=n/\(∀o∈os,nC gs.length ss.length o/\sk ss o/\kI o)/\XS (gN 4) dH (aG 0 n) [U (Z (.scr ns)),U (Z (E far)),U (Z (bX a b c)),U (Y (Q (gs.map bf))),x4,U (Y (Q (ss.map aK))),x6,x7,x8,x9,U (Y (Q []))]=
   U (P [U (Z (.scr ns)),U (Z (E far)),U (Z (bX a b c)),U (Y (Q (gs.map bf))),y4,U (Y (Q (ss.map aK))),x6,x7,x8,x9,U (Y (Q (os.map ao)))]):=by
 obtain⟨e,h1,os,y4,rfl,h2,h3⟩:=cD (g:=gN 4) (body:=dH) (λi env=>∃(os:List XW) (y4:Os),env=[U (Z (.scr ns)),U (Z (E far)),U (Z (bX a b c)),U (Y (Q (gs.map bf))),y4,U (Y (Q (ss.map aK))),x6,x7,x8,x9,U (Y (Q (os.map ao)))]/\os.length=i/\∀o∈os,nC gs.length ss.length o/\sk ss o/\kI o) (aG 0 n) 0 _ ⟨[],x4,rfl,rfl,by simp⟩ (by
  rintro i d env hd ⟨os,y4,rfl,h2,h3⟩;obtain⟨hi,rfl⟩:=b9 hd;obtain⟨ch,xE⟩:=hc.2 i (by lia);obtain⟨od,cc,s1,⟨sd,WA,V7⟩,Wz,Wy,Wx,s2⟩:=JH (ns:=ns) (k:=400+25*(i:Int)) (x:=⟨#[ch]⟩) (by lia) (by lia) hf xo hg hs Vi;have VP:aT 25 (i:Int)=O:=bq;have z:(os.map ao).length<16777216:=by rw[Gae];lia
  have la:=hc.1;have zI:c.length<=16777216:=by lia
  have rv:=aV (cE od s1.ti);have em:(os++[od]).map ao=os.map ao++[ao od]:=by simp
  generalize (i:Int)=j at xE s2 VP;refine⟨_,_,rfl, ?_,os++[od],U (Z (E j)),rfl,by simp;lia, ?_⟩
  .rw[em];generalize os.map ao=OS at*;unfold dH bX;simp[xE,VP,s2,af,z,zI,rv]
  .intro x hx;rcases Gav.mp hx with hx|hx
   .exact h3 x hx
   .simp at hx;subst hx;exact⟨s1,⟨sd,cc,WA,V7,Wz,Wy⟩,Wx⟩)
 rw[bV,GaP] at h2;exact⟨os,y4,h2,h3,h1⟩
def JK(ns:List Int):∃(far:Int) (w:World),(far=1\/far=1000000)/\aL w/\w.XN.length<=4/\(∀s∈w.au,s.az.length<=2)/\(∀o∈w.XN,sk w.au o)/\(∀o∈w.XN,kI o)/\d8 [.scr ns]=U (E far)/\j9 [.scr ns]=U (aH w):=by
 obtain⟨far,Vy,ef⟩:=T4;have hf:1<=far:=by lia
 have xo:far<=1000000:=by lia
 have e299:=aP ns 299;have e305:=aP ns 305;have e306:=aP ns 306;have e307:=aP ns 307;obtain⟨a,b,c,ha,hb,hc,Vr⟩:∃a b c:Str,Has a 3/\Has b 3/\Has c 4/\atD [Q [X "abc",X "uvw",X "klmn"],Q [X "abcd",X "abcd",X "abcd"]] (if mx ns 299%3=0 then 1 else 0)=U (bX a b c):=by
  by_cases q:mx ns 299%3=0
  .exact⟨"abcd","abcd","abcd",si.le (by lia),si.le (by lia),si,by simp[q,bX]⟩
  .exact⟨"abc","uvw","klmn",Mh,Mi,JJ,by simp[q,bX]⟩
 obtain⟨gs,y4,g1,l1⟩:=B7 (ns:=ns) (far:=far) (a:=a) (b:=b) (c:=c) ha hf xo (1+mx ns 305%3).toNat (by lia);obtain⟨ss,z4,s1,s2,l2⟩:=B8 (ns:=ns) (far:=far) (a:=a) (b:=b) (c:=c) (x3:=U (Y (Q (gs.map bf)))) (x4:=y4) hb hf xo (1+mx ns 306%3).toNat (by lia);have lS:(ss.map aK).length=ss.length:=Gae _;obtain⟨bs,y7,y8,y9,b1,b2,l3⟩:=Gi (ns:=ns) (far:=far) (SS:=ss.map aK) (x2:=U (Z (bX a b c))) (x3:=U (Y (Q (gs.map bf)))) (x4:=z4) hf xo (by lia);obtain⟨os,w4,o1,o2,l5⟩:=B9 (ns:=ns) (far:=far) (a:=a) (b:=b) (c:=c) (gs:=gs) (ss:=ss) (x4:=z4) (x6:=U (Y (Q (bs.map XZ)))) (x7:=y7) (x8:=y8) (x9:=y9) hc hf xo (by lia) (by lia) (λs hs=>(s2 s hs).1) (1+mx ns 307%4).toNat (by lia);rw[lS] at b1;have WW:aL ⟨gs,ss,bs,os⟩:=⟨by show 1<=gs.length;lia,by show gs.length<=6;lia,by show 1<=ss.length;lia,by show ss.length<=6;lia,λs hs=>(s2 s hs).1,by show bs.length<=12;lia,b1,by show 1<=os.length;lia,by show os.length<=12;lia,λo ho=>(o2 o ho).1⟩
 refine⟨far,⟨gs,ss,bs,os⟩,Vy,WW,by show os.length<=4;lia,λs hs=>(s2 s hs).2,λo ho=>(o2 o ho).2.1,λo ho=>(o2 o ho).2.2,ef, ?_⟩;have t5:aW (1+mx ns 305%3)=O:=b8;have t6:aW (1+mx ns 306%3)=O:=b8;have t7:aW (1+mx ns 307%4)=O:=b8;have ts:aW ((ss.map aK).length:Int)=O:=b8;have i4:aB (os.map ao)=O:=iR λd hd=>by
  obtain⟨o,ho,rfl⟩:=Gas.mp hd;exact cE o (o2 o ho).1.ti
 exact Cp ef e299 e305 e306 e307 Vr t5 t6 t7 rfl ts l1 l2 l3 l5 (fX rN gs) (fX gk ss) (bK bs) i4
inductive Les:List Tr->List Tr->Prop
 |nil:Les [] []
 |drop {a b:List Tr} (u:Tr) (h:Les a b):Les a (u::b)
 |keep {a b:List Tr} {t u:Tr} (h1:t.1=u.1) (h2:t.2.1=u.2.1) (h3:t.2.2<=u.2.2) (h:Les a b):Les (t::a) (u::b)
def Les.tot{h:Int}{a b:List Tr}(l:Les a b)(p:∀u∈b,0<=u.2.2):dM os c k h a<=dM os c k h b:=by
 induction l with
 |nil=>exact Gcp _
 |drop u _ ih=>
  have h0:=p u Gaj;have h1:=ih λv hv=>p v (Gaf _ hv);refine GdM h1 ?_;show _<=(if _ then u.2.2 else 0)+_;split<;>lia
 | @keep a b t u h1 h2 h3 _ ih=>
  have xF :=ih λv hv=>p v (Gaf _ hv);have e:tk os t=tk os u:=by unfold tk;rw[h1]
  show(if decide (tk os t=k)&&iL c h t.2.1 then t.2.2 else 0)+_<=(if decide (tk os u=k)&&iL c h u.2.1 then u.2.2 else 0)+_;rw[e,h2];split<;>lia
def Qc:kk b x=[]↔b=M:=by cases b<;>simp[kk]
def Gj{w:World}{n:Int}{o:XW}{s:fW}(e1:w.XN[n.toNat]? =U o)(e2:w.au[o.ax.toNat]? =U s)(e3:w.bN[o.ay.toNat]? =U g):c9 w ws (n,h,a)=[]↔(((bC o.aS h=M/\a<=o.most)/\(1<=a/\a%s.part=0))/\(s.az.any bI&&(wgt o.ay h ws J).isNone)=M)/\¬h<g.2+s.young:=by
 unfold c9;rw[e1];dsimp only;rw[e2,e3];rw[List.map_eq_nil_iff];unfold jK;simp only[Gcg,Qc,GdQ,decide_eq_false_iff_not,GcV,Decidable.not_not]
def JL{a b:List Tr}{o k:Int}(p:a.Perm b):iO os a o k=iO os b o k:=by
 exact(p.filter _).length_eq
def Ef{w:World}(W:aL w)(n h:Int)(t:Tr):(nrT w.XN w.br n h t).length<=1:=by
 unfold nrT;split
 .rename_i q;rw[nK (λb hb=>(W.bo.1 b hb).2.1) W.bo.2 (show(h,n).1<=(t.2.1,t.1).1 from(kH q).1)];unfold gpF;split
  .split<;>simp
  .simp
 .simp
theorem gV{α β:Type}{f:α->List β}:∀l:List α,(∀x∈l,(f x).length<=m)->(l.flatMap f).length<=m*l.length
 |[],_=>by simp
 |x::l,h=>by
  have h1:=h x Gaj;have h2:=gV l λy hy=>h y (Gaf _ hy);rw[GaY,Gal,GaF];lia
def Qd{w:World}{o:XW}(e1:w.XN[t.1.toNat]? =U o)(e2:w.au[o.ax.toNat]? =U s)(e3:w.bN[o.ay.toNat]? =U g)(h:c9 w ws t=[]):(nM ws' gv' o s g.2 t.1 t.2.1 t.2.2).length<=2:=by
 have q:=(Gj (a:=t.2.2) e1 e2 e3).mp h;have k5:=iQ (s.az.any bI&&(wgt o.ay t.2.1 ws' J).isNone) "weight" t.1 t.2.1;have k6:=Eb gv' o.aS t.1 t.2.1;have f1:kF (bC o.aS t.2.1) "astray" t.1 t.2.1=[]:=by rw[q.1.1.1.1];rfl
 have f2:kF (decide (o.most<t.2.2)) "most" t.1 t.2.1=[]:=by rw[GaE (by have:=q.1.1.1.2;lia)];rfl
 have f3:kF (decide (t.2.2<1)||decide (¬t.2.2%s.part=0)) "part" t.1 t.2.1=[]:=by rw[GaE (by have:=q.1.1.2.1;lia),GaE (λz=>z q.1.1.2.2)];rfl
 have f4:kF (decide (t.2.1<g.2+s.young)) "young" t.1 t.2.1=[]:=by rw[GaE q.2];rfl
 unfold nM;rw[f1,f2,f3,f4];simp only[GbK,Gal];lia
def jX{w:World}{gv:List Tr}{o:XW}{s:fW}(e1:w.XN[t.1.toNat]? =U o)(e2:w.au[o.ax.toNat]? =U s)(e3:w.bN[o.ay.toNat]? =U g):gn w ws gv t=nM ws gv o s g.2 t.1 t.2.1 t.2.2++iN w.XN ws gv o t.2.1 0 s.az++gv.flatMap (nrT w.XN w.br t.1 t.2.1):=by
 unfold gn;simp_all
def Mj{w:World}{gv gv' ts:List Tr}(W:aL w)(hc:∀s∈w.au,s.az.length<=2)(hg:bQ w.XN.length gv)(nd:(gvR gv).Nodup)(S:Snd w ws gv)(hl:gv.length<=9)(h1:ts.length<=1)(ht:bQ w.XN.length ts)(p:gv'.Perm (gv++ts)):(gv'.flatMap (gn w ws' gv')).length<64:=by
 have none_:=(qa W hg nd).mpr S;rw[(p.flatMap_right _).length_eq,Gcx,Gal];have len:gv'.length<=10:=by rw[p.length_eq,Gal];lia
 have old:∀t∈gv,(gn w ws' gv' t).length<=5:=λt h=>by
  obtain⟨o,s,g,e1,e2,e3,_⟩:=cY W (hg t h).1 (hg t h).2;have n1:=Gby.mp none_ t h;rw[jX e1 e2 e3,Gcg] at n1;have a1:=Qd (ws' :=ws') (gv' :=gv') e1 e2 e3 (S.ID t h);have a2:=i7 w.XN ws' gv' o t.2.1 0 s.az;have a3:=hc s (Gau e2);have a4:(gv'.flatMap (nrT w.XN w.br t.1 t.2.1)).length<=1:=by
   rw[(p.flatMap_right _).length_eq,Gcx,n1.2,GbK];have:=gV (f:=nrT w.XN w.br t.1 t.2.1) ts λx _=>Ef W _ _ x;lia
  rw[jX e1 e2 e3,Gal,Gal];lia
 have new:∀t∈ts,(gn w ws' gv' t).length<=18:=λt h=>by
  obtain⟨o,s,g,e1,e2,e3,_⟩:=cY W (ht t h).1 (ht t h).2;have a1:=rZ ws' gv' o s g.2 t.1 t.2.1 t.2.2;have a2:=i7 w.XN ws' gv' o t.2.1 0 s.az;have a3:=hc s (Gau e2);have a4:=gV (f:=nrT w.XN w.br t.1 t.2.1) gv' λx _=>Ef W _ _ x;rw[jX e1 e2 e3,Gal,Gal];lia
 have s1:=gV gv old;have s2:=gV ts new;lia
def Eg{ns:List Int}{o:XW}(hk:0<=k)(xP:k<100000)(hf:far=1\/far=1000000)(hd:fY o.aS):∃h:Int,dI [.scr ns,E k,ao o,E far]=U (E h):=by
 have e0:=aP ns k;have e1:=aP ns (k+1);have f0:0<far:=by lia
 have f1:far<1073741824:=by lia
 have mf:∀j,aT far j=O:=λj=>bq;unfold ao;generalize o.aS=u at*;cases u with
 |asked b=>
  unfold dI mE cu;simp[e0,mf]
 |due b e m ea la=>
  obtain⟨_,_,⟨m1,m2⟩,a0,l0,_⟩:=hd;generalize mx ns (k+1)=by_ at*;have m0:0<m:=by lia
  have r0:=mxm ns k m m0;have mm:∀j,aT (mx ns k%m) j=O:=λj=>bq;have p0:0<=(ea+la)/far:=Int.ediv_nonneg (by lia) (by lia);have p1:0<1+(ea+la)/far:=by lia
  have mb:∀j,aT (by_/7%2) j=O:=λj=>bq;unfold dI mE cu;simp[e0,e1,m0,mm,f0,f1,p1,mf,mb]
noncomputable def spD(t:Tr):D:= N [E t.1,E t.2.1]
def Ba{l:List Tr}(hl:l.length<=1000):dJ [N (l.map XZ)]=U (Q (l.map spD)):=by
 have h:=dW (g:=gN 0) (f:=aU (aa (Yb (vE 0) (kE (E 0))) (aa (Yb (vE 0) (kE (E 1))) ag))) XZ (λe=>∃x,e=[x]) spD l [J] ⟨J,rfl⟩ (by
  rintro t _ e ⟨x,rfl⟩;exact⟨_,rfl,⟨_,rfl⟩,.c,by simp[XZ,spD,af],rfl⟩)
 have i:aB (l.map spD)=O:=fX (λt=>by simp[spD]) l;have z:l.length<=16777216:=by lia
 have c0:DL.XT 1 [] [U (Z (N (l.map XZ)))]=[J]:=rfl;unfold dJ pj;simp[h,z,af,c0,i]
noncomputable def sY(n h:Int)(l:List Tr):Bool:=l.any λt=>decide (t.1=n/\t.2.1=h)
def JM(n h:Int)(l:List Tr):inB (N [E n,E h]) (Q (l.map spD))=U (sY n h l):=by
 show oY _ _=_;unfold oY;have p1:(l.map spD).all (aM 10)=O:=by
  rw[Gbx,Gaq];intro t _
  rfl
 have p2:aM 10 (N [E n,E h])=O:=rfl;rw[p1];show U ((l.map spD).any λy=>eqD y (N [E n,E h]))=_;rw[Gdn];congr 2
 funext t
 show(decide (t.1=n)&&(decide (t.2.1=h)&&O))=_;simp_all
def Gk:sY n h l=M↔¬(h,n)∈gvR l:=by
 unfold sY gvR;rw[GbH];constructor
 .intro q m;obtain⟨t,ht,e⟩:=Gas.mp m;injection e with e1 e2
  exact q t ht (GaD ⟨e2,e1⟩)
 .intro q t ht z;have:=Gar z;exact q (Gas.mpr ⟨t,ht,by rw[this.1,this.2]⟩)
def laid(l:List Tr)(t:Tr):List Tr:=(bH ((l++[t]).map XZ)).map Cc
def l6(l:List Tr)(t:Tr):(laid l t).Perm (l++[t]):=by
 have:=GcZ Cc (bT ((l++[t]).map XZ));rw[GaN] at this;have e2:(l++[t]).map (Cc∘XZ)=l++[t]:=by
  conv=>rhs;rw[<-GbS (l++[t])]
  exact GaO λp _=>rfl
 rw[e2] at this;exact this
def JN(l:List Tr)(t:Tr):(laid l t).map XZ=bH ((l++[t]).map XZ):=by
 unfold laid;rw[GaN]
 conv=>rhs;rw[<-GbS (bH ((l++[t]).map XZ))]
 apply GaO;intro x hx;obtain⟨p,_,rfl⟩:=Gas.mp ((bT _).mem_iff.mp hx)
 rfl
def wk{l:List Tr}{t:Tr}(hl:l.length<63):XU [N (l.map XZ++[XZ t])]=U ⟨.tn,Q ((laid l t).map XZ)⟩:=by
 have e:l.map XZ++[XZ t]=(l++[t]).map XZ:=by rw[GaC];rfl
 rw[JN,e];have h1:(((l++[t]).map XZ).length<64):=by simp;lia
 unfold XU one jw;simp only[Option.bind_some];rw[DF,GaD h1];rfl
def sr{Yu:List D}(h:Yu.length<100000):g9 (N Yu) (N [d])=U ⟨.c,N (Yu++[d])⟩:=by
 cases Yu with
 |nil=>rfl
 |cons x Yu=>
  show(if(x::Yu).length+1<=16777216/\0<(x::Yu).length then U (⟨.c,N ((x::Yu)++[d])⟩:RV) else J)=_;rw[Gan ⟨by lia,by simp⟩]
def uO{l:List Tr}{V:D}(hV:V.imm=O)(hl:l.length<63):cj [N [V,N (l.map XZ)],E n,E h,E a]=U (N [V,N ((laid l (n,h,a)).map XZ)]):=by
 have e:=wk (t:=(n,h,a)) hl;have y:=sr (Yu:=l.map XZ) (d:=XZ (n,h,a)) (by rw[Gae];lia);have i:=bK (laid l (n,h,a));have et:XZ (n,h,a)= N [E n,E h,E a]:=rfl;rw[et] at e y;unfold cj rL;simp[y,e,af,i,hV]
def Cq{l:List Tr}{V:D}(hV:V.imm=O)(hl:l.length<63):cZ [N [V,N (l.map XZ)],E n,E h,E a]=U (N [V,N ((laid l (n,h,a)).map XZ)]):=by
 have e:=wk (t:=(n,h,a)) hl;have y:=sr (Yu:=l.map XZ) (d:=XZ (n,h,a)) (by rw[Gae];lia);have i:=bK (laid l (n,h,a));have et:XZ (n,h,a)= N [E n,E h,E a]:=rfl;rw[et] at e y;generalize (laid l (n,h,a)).map XZ=R at*;generalize l.map XZ=Yu at*;have q:kU [N Yu,N [E n,E h,E a]]=U (N R):=by
  unfold kU ux;simp[y,e,af,i]
 unfold cZ lL;simp[q,af,i,hV]
def uP:DS:=
 (ifS (aC eqB (Yc bh (Yc cV (aq ah (aa (vE 0) (aa (vE 6) ag))) (kE (E 8))) (kE (E 3))) (kE (E 0)))
  (ifS (aC A8 (aU (aa (Yb (vE 8) (kE (E 1))) (aa (Yc b6 (Yc cV (Yc cV (vE 9) (vE 3)) (kE (E 2))) (vE 3)) ag))) (aq dJ (aa (Yb (vE 4) (kE (E 0))) ag)))
  (aj (av 13 (aU (aa (Yb (vE 8) (kE (E 1))) (aa (Yc b6 (Yc cV (Yc cV (vE 9) (vE 3)) (kE (E 2))) (vE 3)) (aa (Yc g9 (kE (E 1)) (Yc bh (aq ah (aa (vE 0) (aa (Yc g9 (vE 6) (kE (E 3))) ag))) (kE (E 200)))) ag)))))
 (av 12 (aU (aa (bF dw (aa (bF XU (aa (Yc g9 (Yb (vE 4) (kE (E 0))) (aU (aa (vE 13) ag))) ag)) ag)) (aa (Yb (vE 4) (kE (E 1))) ag)))))
  aE)
  (ifS (aC A8 (aU (aa (vE 7) (aa (vE 9) ag))) (aq dJ (aa (Yb (vE 4) (kE (E 1))) ag)))
  (av 12 (aq cj (aa (vE 4) (aa (vE 7) (aa (vE 9) (aa (vE 11) ag))))))
  aE))
def JO:DS:=
 (ifS (aC eqB (bF cA (aa (aq bA (aa (vE 1) (aa (vE 12) ag))) ag)) (kE (E 0)))
  (av 4 (vE 12))
  aE)
def bkD(ws gv:List Tr):D:= N [N (ws.map XZ),N (gv.map XZ)]
structure oE(w:World)(i:Nat)(ws gv:List Tr):Prop where
 go:bQ w.XN.length gv
 nd:(gvR gv).Nodup
 sn:Snd w ws gv
 wl:ws.length<=i
 gl:gv.length<=i
def oE.mono(h:oE w i ws gv)(q:i<=j):oE w j ws gv:=⟨h.go,h.nd,h.sn,by have:=h.wl;lia,by have:=h.gl;lia⟩
def nO(i j:Int):g9 (E i) (E j)=U ⟨.c,E (i+j)⟩:=rfl
def uQ(n h:Int)(l:List Tr):A8 (N [E n,E h]) (Q (l.map spD))=U (!sY n h l):=by
 unfold A8;rw[JM]
 rfl
def Qe{ns:List Int}{ws gv:List Tr}{am:Int}(p1:ixD OD (E 1)=U (E g))(xx:0<=at_)(Xg:at_<10000)(hf:far=1\/far=1000000)(hw:ws.length<60)(hg:gv.length<60):
  ∃ws' gv' yC,uP [U (Z (.scr ns)),U (Z wd),x2,U (Z (E far)),U (Z (bkD ws gv)),U (Z (E j)),U (Z (E at_)),U (Z (E n)),U (Z OD),U (Z (E h)),U (Z (E p)),U (Z (E am)),U (Z (bkD ws gv)),x13]=
   U (P [U (Z (.scr ns)),U (Z wd),x2,U (Z (E far)),U (Z (bkD ws gv)),U (Z (E j)),U (Z (E at_)),U (Z (E n)),U (Z OD),U (Z (E h)),U (Z (E p)),U (Z (E am)),U (Z (bkD ws' gv')),yC])/\ws'.length<=ws.length+1/\(gv' =gv\/sY n h gv=M/\ws' =ws/\gv' =laid gv (n,h,am)):=by
 have e0:=aP ns at_;have e3:=aP ns (at_+3);have f0:0<far:=by lia
 have f1:far<1073741824:=by lia
 have mf:∀i,aT i far=O:=λi=>bJ;have sw:=Ba (l:=ws) (by lia);have sg:=Ba (l:=gv) (by lia);have b0:ixD (bkD ws gv) (E 0)=U (N (ws.map XZ)):=rfl;have b1:ixD (bkD ws gv) (E 1)=U (N (gv.map XZ)):=rfl;by_cases c1:mx ns at_/8%3=0
 .have hb:=uQ g (h/far/2*far) ws;by_cases c2:sY g (h/far/2*far) ws=O
  .refine⟨ws,gv,x13, ?_,by lia,.inl rfl⟩;rw[c2] at hb;generalize ws.map spD=SW at*;generalize bkD ws gv=bk at*;generalize ws.map XZ=WS at*;unfold uP;simp[e0,c1,p1,f0,f1,mf,b0,sw,hb,af]
  .rw[Bool.not_eq_true] at c2;rw[c2] at hb;have ev:=wk (l:=ws) (t:=(g,h/far/2*far,1+mx ns (at_+3)%200)) (by lia);have y:=sr (Yu:=ws.map XZ) (d:=XZ (g,h/far/2*far,1+mx ns (at_+3)%200)) (by rw[Gae];lia);have lp:=(l6 ws (g,h/far/2*far,1+mx ns (at_+3)%200)).length_eq;have et:XZ (g,h/far/2*far,1+mx ns (at_+3)%200)= N [E g,E (h/far/2*far),E (1+mx ns (at_+3)%200)]:=rfl;rw[et] at ev y;refine⟨laid ws (g,h/far/2*far,1+mx ns (at_+3)%200),gv,U (Z (N [E g,E (h/far/2*far),E (1+mx ns (at_+3)%200)])), ?_,by rw[lp];simp,.inl rfl⟩;have xU :bkD (laid ws (g,h/far/2*far,1+mx ns (at_+3)%200)) gv= N [N ((laid ws (g,h/far/2*far,1+mx ns (at_+3)%200)).map XZ),N (gv.map XZ)]:=rfl;rw[xU];generalize (laid ws (g,h/far/2*far,1+mx ns (at_+3)%200)).map XZ=LW at*;generalize ws.map spD=SW at*;generalize bkD ws gv=bk at*;unfold uP;simp[e0,e3,c1,p1,f0,f1,mf,b0,b1,sw,hb,af,nO,y,ev]
 .have hb:=uQ n h gv;by_cases c2:sY n h gv=O
  .refine⟨ws,gv,x13, ?_,by lia,.inl rfl⟩;rw[c2] at hb;unfold uP;simp[e0,c1,b1,sg,hb,af]
  .rw[Bool.not_eq_true] at c2;rw[c2] at hb;have ev:=uO (l:=gv) (n:=n) (h:=h) (a:=am) (V:= N (ws.map XZ)) (by have:=bK ws;simpa using this) (by lia);refine⟨ws,laid gv (n,h,am),x13, ?_,by lia,.inr ⟨c2,rfl,rfl⟩⟩;have VE :cj [bkD ws gv,E n,E h,E am]=U (bkD ws (laid gv (n,h,am))):=ev;have rv:ju (bkD ws (laid gv (n,h,am)))=⟨.c,bkD ws (laid gv (n,h,am))⟩:=aV (by
    have h1:=bK ws;have h2:=bK (laid gv (n,h,am));simp[bkD,h1,h2])
   unfold uP;simp[e0,c1,b1,sg,hb,af,VE,rv]
def bQ.perm{b:List Tr}(h:bQ n a)(p:b.Perm a):bQ n b:=λt ht=>h t (p.mem_iff.mp ht)
def bQ.app(h:bQ n a)(g:bQ n b):bQ n (a++b):=λt ht=>(Gav.mp ht).elim (h t) (g t)
def JP{w:World}{gv' ts:List Tr}(W:aL w)(hc:∀s∈w.au,s.az.length<=2)(B:oE w 9 ws gv)(p:gv'.Perm (gv++ts))(h1:ts.length<=1)(ht:bQ w.XN.length ts)(nd:(gvR gv').Nodup):∃R,bA [aH w,bkD ws' gv']=U (Q R)/\(R=[]↔Snd w ws' gv'):=by
 have hg' :=(B.go.app ht).perm p;have gl:=B.gl;have hl:gv'.length<64:=by rw[p.length_eq,Gal];lia
 obtain⟨R,e,q⟩:=pO W hg' hl (Mj W hc B.go B.nd B.sn B.gl h1 ht p);exact⟨R,e,q.trans (qa W hg' nd)⟩
def Eh(nd:(gvR gv).Nodup)(q:sY n h gv=M):(gvR (laid gv (n,h,a))).Nodup:=by
 have p:=(l6 gv (n,h,a)).map λt:Tr=>(t.2.1,t.1)
 refine(List.Perm.nodup_iff p).mpr ?_;rw[GaC];refine GaW.mpr ⟨nd,by simp,λx hx y hy z=> ?_⟩;have:y=(h,n):=by simpa using hy
 rw[this] at z;rw[z] at hx;exact Gk.mp q hx
def JQ{m:Nat}{n:Int}(h0:0<=n)(h1:n<m):bQ m [(n,h,a)]:=λt ht=>by
 rw[GaU] at ht;rw[ht];exact⟨h0,h1⟩
def Qf(e:bA [wd,xU]=U (Q L)):JO [x0,U (Z wd),x2,x3,U (Z bk),x5,x6,x7,x8,x9,eI,eM,U (Z xU),x13]=
   U (P [x0,U (Z wd),x2,x3,U (Z (if L=[] then xU else bk)),x5,x6,x7,x8,x9,eI,eM,U (Z xU),x13]):=by
 unfold JO;cases L with
 |nil=>simp[e]
 |cons a L=>
  have:¬((L.length:Int)+1=0):=by lia
  simp[e,this]
def Qg{ns:List Int}{bk:D}(UP:wd= N [N A,N B,N C,N XJ])(hj:aT 7 j=O)(xx:1000+7*j=at_)(hl:cA [N XJ]=U ⟨.c,E lo⟩)(lp:0<lo)(e0:ah [.scr ns,E at_]=U (E (mx ns at_)))(hn:mx ns at_%lo=n)(hO:atD XJ n=U OD)(hh:dI [.scr ns,E (at_+1),OD,E far]=U (E h))(p2:ixD OD (E 2)=U (E s))(p3:ixD OD (E 3)=U RD)(WD:ixD RD (E 3)=U (E mo))(hS:atD B s=U SD)(s1:ixD SD (E 1)=U (N Yv))(zH:atD Yv 0=U (E p))(hp:0<p)(yw:p<1073741824)(X4:mo/p=c)(hc:0<c)(yR:c<=12)(e4:ah [.scr ns,E (at_+4)]=U (E (mx ns (at_+4)))):
  jk [U (Z (.scr ns)),U (Z wd),x2,U (Z (E far)),U (Z bk),U (Z (E j)),x6,x7,x8,x9,eI,eM,x12,x13]=
   aj uP JO [U (Z (.scr ns)),U (Z wd),x2,U (Z (E far)),U (Z bk),U (Z (E j)),U (Z (E at_)),U (Z (E n)),U (Z OD),U (Z (E h)),U (Z (E p)),U (Z (E (p*(1+mx ns (at_+4)%c)))),U (Z bk),x13]:=by
 have w1:ixD wd (E 1)=U (N B):=by rw[UP];rfl
 have w3:ixD wd (E 3)=U (N XJ):=by rw[UP];rfl
 have r4:=mxm ns (at_+4) c hc;have mp:∀i,aT i (1+mx ns (at_+4)%c)=O:=λi=>bJ;refine(ae (by simp[hj,nO,xx];rfl)).trans ?_;refine(ae (by simp[e0,w3,hl,lp,hn];rfl)).trans ?_;refine(ae (by simp[w3,hO];rfl)).trans ?_;refine(ae (by simp[nO,hh];rfl)).trans ?_;refine(ae (by simp[w1,p2,hS,s1,zH];rfl)).trans ?_;refine(ae (by simp[nO,p3,WD,hp,yw,X4,hc,e4,mp];rfl)).trans ?_
 rfl
def Mk{ds:List D}:cA [N ds]=U ⟨.c,E (ds.length:Int)⟩:=rfl
def su{w:World}(W:aL w)(v:Int):∃(lo n:Int),cA [N (w.XN.map ao)]=U ⟨.c,E lo⟩/\0<lo/\v%lo=n/\0<=n/\n<w.XN.length:=by
 have h:=W.o1;have e:((w.XN.map ao).length:Int)=(w.XN.length:Int):=by rw[Gae]
 refine⟨_,_,Mk,by rw[e];lia,rfl, ?_, ?_⟩
 .exact GcG _ (by lia)
 .rw[e];exact GcH _ (by lia)
def Ml{ns:List Int}{w:World}(W:aL w)(hc:∀s∈w.au,s.az.length<=2)(hm:∀o∈w.XN,sk w.au o)(hf:far=1\/far=1000000)(hi:i<9)(B:oE w i ws gv):
  ∃ws' gv' y6 y7 y8 y9 eO eU yo yC,oE w (i+1) ws' gv' /\jk [U (Z (.scr ns)),U (Z (aH w)),x2,U (Z (E far)),U (Z (bkD ws gv)),U (Z (E (0+(i:Int)))),x6,x7,x8,x9,eI,eM,x12,x13]=
   U (P [U (Z (.scr ns)),U (Z (aH w)),x2,U (Z (E far)),U (Z (bkD ws' gv')),U (Z (E (0+(i:Int)))),y6,y7,y8,y9,eO,eU,yo,yC]):=by
 have hj0:0<=0+(i:Int):=by lia
 have yO:0+(i:Int)<9:=by lia
 generalize 0+(i:Int)=j at*;have m7:aT 7 j=O:=bq;obtain⟨at_,xx⟩:∃a,1000+7*j=a:=⟨_,rfl⟩
 have e0:=aP ns at_;have e4:=aP ns (at_+4);obtain⟨lo,n,hl,lp,hn,n0,n1⟩:=su W (mx ns at_);obtain⟨o,s,g,o1,o2,o3,so,_,oa,sa,_⟩:=cY W n0 n1;have ok:=W.oo o (Gau o1);obtain⟨s',c,q1,q2,q3,q4⟩:=hm o (Gau o1);rw[o2] at q1;cases q1;obtain⟨h,hh⟩:=Eg (k:=at_+1) (far:=far) (o:=o) (by lia) (by lia) hf ok.du;have pp:=so.p1;have pq:=so.p2;have dv:o.most/s.part=c:=by rw[q2];exact Int.mul_ediv_cancel_left _ (by lia)
 have pre:=Qg (ns:=ns) (wd:=aH w) (OD:=ao o) (SD:=aK s) (bk:=bkD ws gv) (far:=far) (s:=o.ax) (h:=h) (p:=s.part) (x2:=x2) (x6:=x6) (x7:=x7) (x8:=x8) (x9:=x9) (eI:=eI) (eM:=eM) (x12:=x12) (x13:=x13) rfl m7 xx hl lp e0 hn oa hh rfl rfl rfl sa rfl rfl (by lia) (by lia) dv (by lia) q4 e4;have wl:=B.wl;have gl:=B.gl;obtain⟨ws',gv',yC,f1,f2,f3⟩:=Qe (ns:=ns) (wd:=aH w) (OD:=ao o) (ws:=ws) (gv:=gv) (far:=far) (j:=j) (at_:=at_) (n:=n) (g:=o.ay) (h:=h) (p:=s.part) (am:=s.part*(1+mx ns (at_+4)%c)) (x2:=x2) (x13:=x13) rfl (by lia) (by lia) hf (by lia) (by lia);obtain⟨ts,pt,tl,tg,zx⟩:∃ts:List Tr,gv'.Perm (gv++ts)/\ts.length<=1/\bQ w.XN.length ts/\(gvR gv').Nodup:=by
  rcases f3 with rfl| ⟨c1,_,rfl⟩
  .exact⟨[],by rw[Gbb],by simp,by intro t ht;simp at ht,B.nd⟩
  .exact⟨_,l6 gv _,by simp,JQ n0 n1,Eh B.nd c1⟩
 obtain⟨R,lr,rq⟩:=JP W hc (ws' :=ws') (B.mono (by lia)) pt tl tg zx;have fin:=Qf (x0:=U (Z (.scr ns))) (x2:=x2) (x3:=U (Z (E far))) (x5:=U (Z (E j))) (x6:=U (Z (E at_))) (x7:=U (Z (E n))) (x8:=U (Z (ao o))) (x9:=U (Z (E h))) (eI:=U (Z (E s.part))) (eM:=U (Z (E (s.part*(1+mx ns (at_+4)%c))))) (x13:=yC) (bk:=bkD ws gv) lr;by_cases z:R=[]
 .rw[Gan z] at fin;refine⟨ws',gv',_,_,_,_,_,_,_,_,⟨(B.go.app tg).perm pt,zx,rq.mp z,by lia,by rw[pt.length_eq,Gal];lia⟩,pre.trans ((ae f1).trans fin)⟩
 .rw[Gah z] at fin;refine⟨ws,gv,_,_,_,_,_,_,_,_,B.mono (by lia),pre.trans ((ae f1).trans fin)⟩
def Mm(w:World):Snd w [] []:=⟨λ_ h=>by simp at h,λ_ h=>by simp at h,List.Pairwise.nil,λ_ _=>by simp[iO]⟩
def Mn{ns:List Int}{w:World}(W:aL w)(hc:∀s∈w.au,s.az.length<=2)(hm:∀o∈w.XN,sk w.au o)(hf:far=1\/far=1000000)(ef:d8 [.scr ns]=U (E far)):∃ws gv,oE w 9 ws gv/\mF [.scr ns,aH w,E 9]=U (bkD ws gv):=by
 obtain⟨e,h1,ws,gv,y5,y6,y7,y8,y9,eO,eU,yo,yC,rfl,B⟩:=cD (g:=gN 5) (λi env=>∃(ws gv:List Tr) (y5 y6 y7 y8 y9 eO eU yo yC:Os),env=[U (Z (.scr ns)),U (Z (aH w)),U (Z (E 9)),U (Z (E far)),U (Z (bkD ws gv)),y5,y6,y7,y8,y9,eO,eU,yo,yC]/\oE w i ws gv) (aG 0 9) 0
  [U (Z (.scr ns)),U (Z (aH w)),U (Z (E 9)),U (Z (E far)),U (Z (bkD [] [])),J,J,J,J,J,J,J,J,J] ⟨[],[],_,_,_,_,_,_,_,_,_,rfl,⟨λ_ h=>by simp at h,by simp[gvR],Mm w,by simp,by simp⟩⟩ (by
   rintro i d env hd ⟨ws,gv,y5,y6,y7,y8,y9,eO,eU,yo,yC,rfl,B⟩;obtain⟨hi,rfl⟩:=b9 hd;rw[GaP] at B;obtain⟨ws',gv',z6,z7,z8,z9,xV,yU,Ws,Wq,B',k1⟩:=Ml W hc hm hf hi B;exact⟨_,_,rfl,k1,ws',gv',_,z6,z7,z8,z9,xV,yU,Ws,Wq,rfl,by rw[GaP];exact B'⟩)
 refine⟨ws,gv,B, ?_⟩;have s9:aW 9=O:=rfl;have im:(bkD ws gv).imm=O:=by
  have h1:=bK ws;have h2:=bK gv;simp[bkD,h1,h2]
 have b0:bkD [] []= N [N [],N []]:=rfl;rw[b0] at h1;refine aN rfl ?_;refine(ae (by simp[ef];rfl)).trans ?_;refine(ae (by simp;rfl)).trans ?_;refine(ae (by simp[s9,h1];rfl)).trans ?_;simp[im]
def Gn(n:Nat)(fs:List Flt):(fs.map ai).all (aM (n+1))=O:=by
 rw[Gbx,Gaq];intro f _;show((X f.1)::f.2.map E).all (aM n)=O;rw[GbB,Ca];simp
def Mo(fs:List Flt):eqB (Q (fs.map ai)) (Q [])=U (decide (fs=[])):=by
 unfold eqB;have h1:D.plain (Q (fs.map ai))=O:=Gn 18 fs;have h2:D.plain (Q [])=O:=rfl;rw[h1];cases fs<;>rfl
def JR{gv:List Tr}(hl:gv.length<64):dC [bkD ws gv,E n]=U (Q ((gv.filter λt=>decide (t.1=n)).map λt=> E t.2.1)):=by
 have h:=fJ (g:=gN 0) (t:=aC eqB (Yb (vE 0) (kE (E 0))) (vE 1)) (f:=aU (aa (Yb (vE 0) (kE (E 1))) (aa (Yb (vE 0) (kE (E 2))) ag))) XZ (λe=>∃x,e=[x,U (Z (E n))]) (λt=>decide (t.1=n)) (λt=>N [E t.2.1,E t.2.2]) gv [J,U (Z (E n))] ⟨J,rfl⟩ (by
  rintro t _ e ⟨x,rfl⟩;refine⟨_,rfl,⟨_,rfl⟩, ?_,λ_=> ⟨.c, ?_,rfl⟩⟩
  .rfl
  .simp[XZ,af])
 have fl:=GbO (λt:Tr=>decide (t.1=n)) gv;generalize (gv.filter λt=>decide (t.1=n))=l at*;have i:aB (l.map λt=>N [E t.2.1,E t.2.2])=O:=fX (λt=>by simp) l;have z:l.length<=16777216:=by lia
 have z2:gv.length<=16777216:=by lia
 have c0:DL.XT 1 [1] [U (Z (bkD ws gv)),U (Z (E n))]=[J,U (Z (E n))]:=rfl;have b1:ixD (bkD ws gv) (E 1)=U (N (gv.map XZ)):=rfl;have q:gS [bkD ws gv,E n]=U (Q (l.map λt=>N [E t.2.1,E t.2.2])):=by
  unfold gS ny;simp[b1,h,z2,af,c0,i]
 have h2:=dW (g:=gN 0) (f:=Yb (vE 0) (kE (E 0))) (λt:Tr=>N [E t.2.1,E t.2.2]) (λe=>∃x,e=[x]) (λt=>E t.2.1) l [J] ⟨J,rfl⟩ (by
  rintro t _ e ⟨x,rfl⟩;exact⟨_,rfl,⟨_,rfl⟩,.c,by simp,rfl⟩)
 have i2:aB (l.map λt=>E t.2.1)=O:=fX (λt=>by simp) l;have c1:DL.XT 1 [] [U (Z (bkD ws gv)),U (Z (E n))]=[J]:=rfl;unfold dC kz;simp[q,h2,z,af,c1,i2]
noncomputable def btw(a b x:Int):Bool:=decide (a<=x)&&decide (x<=b)
def gO(a b:Int)(hs:List Int):Bool:=(hs.map (btw a b)).any id
def gx(a b:Int)(hs:List Int)(h:Int):Str:=if gO a b hs then "given" else if h<a then "ahead" else if h>b then "missed" else "open"
def Cr(a b:Int)(hs:List Int)(h:Int):gx a b hs h=Str.ofString "open"↔gO a b hs=M/\a<=h/\h<=b:=by
 unfold gx;cases gO a b hs
 .by_cases q2:h<a
  .rw[Gah Gaz,Gan q2];constructor
   .intro z;simp at z
   .lia
  .by_cases q3:h>b
   .rw[Gah Gaz,Gah q2,Gan q3];simp_all
   .rw[Gah q2,Gah q3];simp_all
 .simp_all
def nP(e1:1<=e)(a0:0<=ea)(l0:0<=la)(al:ea+la<e):k9 b e m ea la h=U k↔(0<=k/\k<m)/\b+k*e -ea<=h/\h<=b+k*e+la:=by
 rw[DX e1 a0 l0 al];unfold k9;constructor
 .intro q;split at q
  .simp_all
  .cases q
 .simp_all
noncomputable def pP(x:Str)(g st:D)(rule:D)(b e m ea la:Int)(ts:D):D:= N [X x,g,st,rule,N [X "due",E b,E e,E m,E ea,E la],ts]
variable{rule:D}
def Ct{x:Str}{g st ts:D}{b e m ea la k:Int}(he:0<=e)(xQ:e<=1000000000):vT [pP x g st rule b e m ea la ts,E k]=U (N [E (b+k*e -ea),E (b+k*e+la)]):=by
 have p1:∀i,aT i e=O:=λi=>bJ;unfold vT J5 pP;simp[p1,af]
def Cu{x:Str}{g st ts:D}{b e m ea la k h:Int}{hs:List Int}(he:0<=e)(xQ:e<=1000000000)(hl:hs.length<=1000):q9 [pP x g st rule b e m ea la ts,Q (hs.map E),E k,E h]=U (X (gx (b+k*e -ea) (b+k*e+la) hs h)):=by
 have e:=Ct (x:=x) (g:=g) (st:=st) (rule:=rule) (ts:=ts) (b:=b) (m:=m) (ea:=ea) (la:=la) (k:=k) he xQ;generalize ha:b+k*_ -ea=a at e;generalize hb:b+k*_+la=b' at e;have c:=dW (g:=gN 0) (f:=bE (jf leB leB (Yb (vE 1) (kE (E 0))) (vE 0) (Yb (vE 1) (kE (E 1))))) E (λenv=>∃y,env=[y,U (Z (N [E a,E b']))])
  (λx=> Yx (btw a b' x)) hs [J,U (Z (N [E a,E b']))] ⟨J,rfl⟩ (by
   rintro i hi env ⟨y,rfl⟩;refine⟨_,rfl,⟨_,rfl⟩,.c, ?_,rfl⟩;unfold btw;by_cases c1:a<=i<;>simp[c1])
 have c2:hs.map (λx=>Yx (btw a b' x))=(hs.map (btw a b')).map Yx:=by simp
 rw[c2] at c;have z:hs.length<=16777216:=by lia
 have an:=J7 (hs.map (btw a b'));change anyS [Q ((hs.map (btw a b')).map Yx)]=U ⟨.c,Yx (gO a b' hs)⟩ at an;generalize (hs.map (btw a b')).map Yx=bl at c an;unfold q9 DC;simp[e,af,z,DL.XT,df,c,an];unfold gx;cases gO a b' hs
 .by_cases q2:h<a
  .simp[q2]
  .by_cases q3:b' <h<;>simp[q2,q3]
 .simp
noncomputable def cq(gv:List Tr)(n:Int):List Int:=(gv.filter λt=>decide (t.1=n)).map (·.2.1)
def pD(gv:List Tr)(n:Int):(cq gv n).length<=gv.length:=by
 unfold cq;rw[Gae];exact GbO _ _
def JS{gv:List Tr}(hl:gv.length<64):dC [bkD ws gv,E n]=U (Q ((cq gv n).map E)):=by
 rw[JR hl];unfold cq;rw[GaN]
 rfl
def openK(b e m ea la:Int)(hs:List Int)(h n:Int):List Tr:=match k9 b e m ea la h with
 |some k=>if gO (b+k*e -ea) (b+k*e+la) hs then[] else[(b+k*e,n,k)]
 |none=>[]
def jc(b e ea la:Int)(hs:List Int)(hour:Int)(n:Int)(l:List Tr):Nat->List Tr
 |0=>l
 |k+1=>if gx (b+(k:Int)*e -ea) (b+(k:Int)*e+la) hs hour="open" then jc b e ea la hs hour n l k++[(b+(k:Int)*e,n,(k:Int))] else jc b e ea la hs hour n l k
theorem oF{l:List Tr}:∀k,(jc b e ea la hs hour n l k).length<=l.length+k
 |0=>Gao _
 |k+1=>by
  have:=oF (b:=b) (e:=e) (ea:=ea) (la:=la) (hs:=hs) (hour:=hour) (n:=n) (l:=l) k;unfold jc;split
  .simp;lia
  .lia
theorem sx(e1:1<=e)(a0:0<=ea)(l0:0<=la)(al:ea+la<e):∀XM:Nat,(XM:Int)<=m->jc b e ea la hs h n l XM=l++(match k9 b e m ea la h with
  |some k=>if k<XM/\gO (b+k*e -ea) (b+k*e+la) hs=M then[(b+k*e,n,k)] else[]
  |none=>[])
 |0,_=>by
  unfold jc;split
  .rename_i k hk;have:=((nP e1 a0 l0 al).mp hk).1.1;rw[Gah (by lia)];simp
  .simp
 |XM+1,hM=>by
  have ih:=sx (b:=b) (m:=m) (hs:=hs) (h:=h) (n:=n) (l:=l) e1 a0 l0 al XM (by lia);have st:=Cr (b+(XM:Int)*e -ea) (b+(XM:Int)*e+la) hs h;have du:=nP (b:=b) (m:=m) (h:=h) (k:=(XM:Int)) e1 a0 l0 al;unfold jc;rw[ih];cases hk:k9 b e m ea la h with
  |none=>
   lia
  |some k=>
   rw[hk] at du;dsimp only;by_cases c:k=XM
   .subst c;have sp:=(du.mp rfl).2;by_cases an:gO (b+(XM:Int)*e -ea) (b+(XM:Int)*e+la) hs=M
    .rw[Gan (st.mpr ⟨an,sp⟩),Gah (by lia),Gan ⟨by lia,an⟩,Gbb]
    .rw[Gah (λz=>an (st.mp z).1),Gah (λz=>an z.2),Gah (λz=>an z.2)]
   .rw[Gah]
    .lia
    .intro z;have:=du.mpr ⟨by lia,(st.mp z).2⟩;lia
def uR{m:Int}(e1:1<=e)(m0:0<=m)(a0:0<=ea)(l0:0<=la)(al:ea+la<e):jc b e ea la hs h n l m.toNat=l++openK b e m ea la hs h n:=by
 rw[sx (m:=m) e1 a0 l0 al m.toNat (by lia)];unfold openK;cases hk:k9 b e m ea la h with
 |none=>rfl
 |some k=>
  have:=((nP e1 a0 l0 al).mp hk).1.2;dsimp only;cases an:gO (b+k*e -ea) (b+k*e+la) hs with
  |false=>rw[Gan ⟨by lia,rfl⟩,Gah Gaz]
  |true=>rw[Gah (λz=>by cases z.2),Gan rfl]
def pQ(gv:List Tr)(h n:Int):mH->List Tr
 | .asked _=>[]
 | .due b e m ea la=>openK b e m ea la (cq gv n) h n
def cU(os:List XW)(gv:List Tr)(h:Int):Nat->List Tr
 |0=>[]
 |i+1=>cU os gv h i++(match os[i]? with
  |some o=>pQ gv h (i:Int) o.aS
  |none=>[])
def nQ{gv:List Tr}{h:Int}{i:Nat}{o:XW}(e:os[i]? =U o):cU os gv h (i+1)=cU os gv h i++pQ gv h (i:Int) o.aS:=by
 conv=>lhs;unfold cU
 rw[e]
def Bb(gv:List Tr)(h n:Int)(u:mH):(pQ gv h n u).length<=1:=by
 cases u with
 |asked b=>simp[pQ]
 |due b e m ea la=>
  show(openK b e m ea la (cq gv n) h n).length<=1;unfold openK;split
  .split<;>simp
  .simp
theorem kJ(os:List XW)(gv:List Tr)(h:Int):∀i,(cU os gv h i).length<=i
 |0=>Gao _
 |i+1=>by
  have ih:=kJ os gv h i;unfold cU;rw[Gal];split
  .rename_i o _;have:=Bb gv h (i:Int) o.aS;lia
  .simp;lia
section
variable{l:List Tr}{hs:List Int}{b m ea la hour n:Int}{g st rule ts wd:D}{x:Str}
def Mp{bk:D}{e:Int}{k:Int}(he:0<=e)(xQ:e<=1000000000)(hl:hs.length<=1000)(hz:l.length<=1000):
  gU [U (Z wd),U (Z bk),U (Z (E hour)),U (Z (X "open")),U (Y (Q (l.map XZ))),U (Z (E n)),U (Z (pP x g st rule b e m ea la ts)),U (Y (Q (hs.map E))),U (Z (E k))]=
   U (P [U (Z wd),U (Z bk),U (Z (E hour)),U (Z (X "open")),U (Y (Q ((if gx (b+k*e -ea) (b+k*e+la) hs hour="open" then l++[(b+k*e,n,k)] else l).map XZ))),U (Z (E n)),U (Z (pP x g st rule b e m ea la ts)),U (Y (Q (hs.map E))),U (Z (E k))]):=by
 have h:=Cu (x:=x) (g:=g) (st:=st) (rule:=rule) (ts:=ts) (b:=b) (m:=m) (ea:=ea) (la:=la) (k:=k) (h:=hour) he xQ hl;have p1:∀i,aT i e=O:=λi=>bJ;have i4:ixD (pP x g st rule b e m ea la ts) (E 4)=U (N [X "due",E b,E e,E m,E ea,E la]):=rfl;have z:l.length<16777216:=by lia
 generalize gx (b+k*e -ea) (b+k*e+la) hs hour=sd at*;unfold gU;by_cases c:sd=Str.ofString "open"
 .subst c;simp[h,i4,p1,af,z,XZ]
 .have c' :(sd==Str.ofString "open")=M:=by simpa using c
  simp[h,c]
def Qh{bk:D}{e:Int}(he:0<=e)(xQ:e<=1000000000)(hl:hs.length<=1000)(hz:l.length<=900)(x8:Os)(XM:Nat)(hM:XM<=60):
  ∃y8,XS (gN 8) gU (aG 0 XM) [U (Z wd),U (Z bk),U (Z (E hour)),U (Z (X "open")),U (Y (Q (l.map XZ))),U (Z (E n)),U (Z (pP x g st rule b e m ea la ts)),U (Y (Q (hs.map E))),x8]=
   U (P [U (Z wd),U (Z bk),U (Z (E hour)),U (Z (X "open")),U (Y (Q ((jc b e ea la hs hour n l XM).map XZ))),U (Z (E n)),U (Z (pP x g st rule b e m ea la ts)),U (Y (Q (hs.map E))),y8]):=by
 obtain⟨en,h1,y8,rfl⟩:=cD (g:=gN 8) (λi env=>∃y8,env=[U (Z wd),U (Z bk),U (Z (E hour)),U (Z (X "open")),U (Y (Q ((jc b e ea la hs hour n l i).map XZ))),U (Z (E n)),U (Z (pP x g st rule b e m ea la ts)),U (Y (Q (hs.map E))),y8]) (aG 0 XM) 0 _ ⟨x8,rfl⟩ (by
  rintro i d env hd ⟨y8,rfl⟩;obtain⟨hi,rfl⟩:=b9 hd;rw[GaP];have hk:(0:Int)+(i:Int)=(i:Int):=by lia
  rw[hk];have ln:=oF (b:=b) (e:=e) (ea:=ea) (la:=la) (hs:=hs) (hour:=hour) (n:=n) (l:=l) i;have st:=Mp (wd:=wd) (bk:=bk) (hour:=hour) (n:=n) (x:=x) (g:=g) (st:=st) (rule:=rule) (ts:=ts) (b:=b) (m:=m) (ea:=ea) (la:=la) (l:=jc b e ea la hs hour n l i) (k:=(i:Int)) he xQ hl (by lia);exact⟨_,_,rfl,st,_,rfl⟩)
 rw[bV,GaP] at h1;exact⟨y8,h1⟩
end
def Mq{hs:List Int}:(0<(hs.filter (btw a b)).length)↔gO a b hs=O:=by
 unfold gO;simp
section
variable{l:List Tr}{hs:List Int}
def Mr(he:0<=e)(xQ:e<=1000000000)(UW:0<=ea)(zk:0<=la)(hl:hs.length<=1000)(hz:l.length<=1000):
  ∃y9 eO,fE [U (Z wd),U (Z bk),U (Z (E hour)),U (Z (X "open")),U (Y (Q (l.map XZ))),U (Z (E n)),U (Z (N [X "due",E b,E e,E m,E ea,E la])),U (Y (Q (hs.map E))),U (Z (E k)),x9,eI]=
   U (P [U (Z wd),U (Z bk),U (Z (E hour)),U (Z (X "open")),U (Y (Q ((if gx (b+k*e -ea) (b+k*e+la) hs hour="open" then l++[(b+k*e,n,k)] else l).map XZ))),U (Z (E n)),U (Z (N [X "due",E b,E e,E m,E ea,E la])),U (Y (Q (hs.map E))),U (Z (E k)),y9,eO]):=by
 have p1:∀i,aT i e=O:=λi=>bJ;have z:l.length<16777216:=by lia
 have zh:(hs.map E).length<=16777216:=by rw[Gae];lia
 generalize hA:b+k*e=A;have c:=fJ (g:=gN 0) (t:=jf leB leB (Yc iW (vE 2) (Yb (vE 1) (kE (E 4)))) (vE 0) (Yc aI (vE 2) (Yb (vE 1) (kE (E 5))))) (f:=vE 0) E (λenv=>∃y,env=[y,U (Z (N [X "due",E b,E e,E m,E ea,E la])),U (Z (E A))]) (btw (A -ea) (A+la)) E hs [J,U (Z (N [X "due",E b,E e,E m,E ea,E la])),U (Z (E A))] ⟨J,rfl⟩ (by
  rintro i hi env ⟨y,rfl⟩;refine⟨_,rfl,⟨_,rfl⟩, ?_,λ_=> ⟨.c,rfl,rfl⟩⟩;unfold btw;by_cases c1:A -ea<=i<;>simp[c1])
 have ln:=Mq (a:=A -ea) (b:=A+la) (hs:=hs);have hL:cA [Q ((hs.filter (btw (A -ea) (A+la))).map E)]=U ⟨.c,E ((hs.filter (btw (A -ea) (A+la))).length:Int)⟩:=by simp
 have lc:0<=(((hs.filter (btw (A -ea) (A+la))).length:Nat):Int):=by lia
 have ln2:(0<((hs.filter (btw (A -ea) (A+la))).length:Int))↔gO (A -ea) (A+la) hs=O:=by
  lia
 generalize ((hs.filter (btw (A -ea) (A+la))).length:Int)=L at hL ln2;generalize hs.map E=hd at c zh⊢;obtain⟨wo,VT⟩:∃wo:Str,wo=(if hour>A+la then Str.ofString "missed" else if hour<A -ea then Str.ofString "ahead" else Str.ofString "open"):=⟨_,rfl⟩
 have yi:gx (A -ea) (A+la) hs hour=if 0<L then Str.ofString "given" else wo:=by
  unfold gx;rw[VT];by_cases q:gO (A -ea) (A+la) hs=O
  .rw[Gan q,Gan (ln2.mpr q)]
  .rw[Gah q,Gah (λw=>q (ln2.mp w))];by_cases q1:hour<A -ea
   .rw[Gan q1,Gah (by lia),Gan q1]
   .rw[Gah q1];by_cases q2:hour>A+la
    .rw[Gan q2,Gan q2]
    .rw[Gah q2,Gah q2,Gah q1]
 generalize hdu:N [X "due",E b,E e,E m,E ea,E la]=du at*;have d1:ixD du (E 1)=U (E b):=by rw[<-hdu];rfl
 have d2:ixD du (E 2)=U (E e):=by rw[<-hdu];rfl
 have d4:ixD du (E 4)=U (E ea):=by rw[<-hdu];rfl
 have d5:ixD du (E 5)=U (E la):=by rw[<-hdu];rfl
 refine⟨U (Z (E A)),U (Z (X (gx (A -ea) (A+la) hs hour))), ?_⟩;refine(ae (by simp[d1,d2,p1,hA];rfl)).trans ?_;refine(ae (e:=[U (Z wd),U (Z bk),U (Z (E hour)),U (Z (X "open")),U (Y (Q (l.map XZ))),U (Z (E n)),U (Z du),U (Y (Q hd)),U (Z (E k)),U (Z (E A)),U (Z (X "open"))]) (by simp)).trans ?_;refine(ae (e:=[U (Z wd),U (Z bk),U (Z (E hour)),U (Z (X "open")),U (Y (Q (l.map XZ))),U (Z (E n)),U (Z du),U (Y (Q hd)),U (Z (E k)),U (Z (E A)),U (Z (X (if hour<A -ea then Str.ofString "ahead" else Str.ofString "open")))]) (by
  by_cases q1:hour<A -ea<;>simp[d4,q1])).trans ?_
 refine(ae (e:=[U (Z wd),U (Z bk),U (Z (E hour)),U (Z (X "open")),U (Y (Q (l.map XZ))),U (Z (E n)),U (Z du),U (Y (Q hd)),U (Z (E k)),U (Z (E A)),U (Z (X wo))]) (by
  rw[VT];by_cases q2:A+la<hour<;>simp[d5,q2])).trans ?_
 refine(ae (e:=[U (Z wd),U (Z bk),U (Z (E hour)),U (Z (X "open")),U (Y (Q (l.map XZ))),U (Z (E n)),U (Z du),U (Y (Q hd)),U (Z (E k)),U (Z (E A)),U (Z (X (gx (A -ea) (A+la) hs hour)))]) (by
  rw[yi];by_cases q3:0<L<;>simp[-jf,-Yc,-Yb,-mX,af,zh,DL.XT,df,c,hL,q3])).trans ?_
 generalize gx (A -ea) (A+la) hs hour=sd;by_cases cc:sd=Str.ofString "open"
 .subst cc;simp[af,z,XZ]
 .have c' :(sd==Str.ofString "open")=M:=by simpa using cc
  simp[cc,c']
def Qi(he:0<=e)(xQ:e<=1000000000)(UW:0<=ea)(zk:0<=la)(hl:hs.length<=1000)(hz:l.length<=900)(XM:Nat)(hM:XM<=60):
  ∃y8 y9 eO,XS (gN 8) fE (aG 0 XM) [U (Z wd),U (Z bk),U (Z (E hour)),U (Z (X "open")),U (Y (Q (l.map XZ))),U (Z (E n)),U (Z (N [X "due",E b,E e,E m,E ea,E la])),U (Y (Q (hs.map E))),x8,x9,eI]=
   U (P [U (Z wd),U (Z bk),U (Z (E hour)),U (Z (X "open")),U (Y (Q ((jc b e ea la hs hour n l XM).map XZ))),U (Z (E n)),U (Z (N [X "due",E b,E e,E m,E ea,E la])),U (Y (Q (hs.map E))),y8,y9,eO]):=by
 obtain⟨en,h1,y8,y9,eO,rfl⟩:=cD (g:=gN 8) (λi env=>∃y8 y9 eO,env=[U (Z wd),U (Z bk),U (Z (E hour)),U (Z (X "open")),U (Y (Q ((jc b e ea la hs hour n l i).map XZ))),U (Z (E n)),U (Z (N [X "due",E b,E e,E m,E ea,E la])),U (Y (Q (hs.map E))),y8,y9,eO]) (aG 0 XM) 0 _ ⟨x8,x9,eI,rfl⟩ (by
  rintro i d env hd ⟨y8,y9,eO,rfl⟩;obtain⟨hi,rfl⟩:=b9 hd;rw[GaP];have hk:(0:Int)+(i:Int)=(i:Int):=by lia
  rw[hk];have ln:=oF (b:=b) (e:=e) (ea:=ea) (la:=la) (hs:=hs) (hour:=hour) (n:=n) (l:=l) i;obtain⟨z9,xV,st⟩:=Mr (l:=jc b e ea la hs hour n l i) he xQ UW zk hl (by lia);exact⟨_,_,rfl,st,_,z9,xV,rfl⟩)
 rw[bV,GaP] at h1;exact⟨y8,y9,eO,h1⟩
end
def Ms{gv:List Tr}{o:XW}{l:List Tr}(ok:fY o.aS)(yP:gv.length<64)(hz:l.length<=500):
  ∃y7 y8,jU [U (Z wd),U (Z (bkD ws gv)),U (Z (E hour)),U (Z (X "open")),U (Y (Q (l.map XZ))),U (Z (E n)),U (Z (ao o)),x7,x8]=
   U (P [U (Z wd),U (Z (bkD ws gv)),U (Z (E hour)),U (Z (X "open")),U (Y (Q ((l++pQ gv hour n o.aS).map XZ))),U (Z (E n)),U (Z (ao o)),y7,y8]):=by
 have gh:=JS (ws:=ws) (n:=n) yP;have hl:=pD gv n;obtain⟨x,g,st,way,top,per,most,u,ts⟩:=o;cases u with
 |asked b=>
  have dn:d6 [ao ⟨x,g,st,way,top,per,most,.asked b,ts⟩]=U (Q []):=by
   unfold d6 ji ao cu;simp
  have e0:l++pQ gv hour n (mH.asked b)=l:=Gbb l;rw[e0];refine⟨U (Y (Q ((cq gv n).map E))),x8, ?_⟩;refine(ae (by simp[gh];rfl)).trans ?_;simp[dn]
 |due b e m ea la=>
  obtain⟨r1,r2,⟨r3,r4⟩,r5,r6,r7,_⟩:=ok;have m0:m<=16777216:=by lia
  have m1: -1000000<=m:=by lia
  have eo:ao ⟨x,g,st,way,top,per,most,.due b e m ea la,ts⟩=pP x (E g) (E st) (N [X way,E top,E per,E most]) b e m ea la (N ts):=rfl;have dn:d6 [pP x (E g) (E st) (N [X way,E top,E per,E most]) b e m ea la (N ts)]=U (Q (aG 0 m.toNat)):=by
   have im:aB (aG 0 m.toNat)=O:=by
    unfold aG;generalize List.range m.toNat=r;induction r with
    |nil=>rfl
    |cons a r ih=>rw[Gax];unfold aB;rw[ih];rfl
   unfold d6 ji pP;simp[af,m0,m1,im]
  obtain⟨y8,h2⟩:=Qh (wd:=wd) (bk:=bkD ws gv) (hour:=hour) (n:=n) (x:=x) (g:= E g) (st:= E st) (rule:= N [X way,E top,E per,E most]) (ts:= N ts) (b:=b) (e:=e) (m:=m) (hs:=cq gv n) (l:=l) (by lia) (by lia) (by lia) (by lia) x8 m.toNat (by lia);rw[uR r1 (by lia) r5 r6 r7] at h2;refine⟨U (Y (Q ((cq gv n).map E))),y8, ?_⟩;have e0:pQ gv hour n (mH.due b e m ea la)=openK b e m ea la (cq gv n) hour n:=rfl;rw[eo,e0];refine(ae (by simp[gh];rfl)).trans ?_;simp[dn,h2]
def Mt{w:World}{gv:List Tr}{o:XW}{l:List Tr}(ok:fY o.aS)(xx:atD (w.XN.map ao) n=U (ao o))(yP:gv.length<64)(hz:l.length<=500):
  ∃y6 y7 y8 y9 eO,cT [U (Z (aH w)),U (Z (bkD ws gv)),U (Z (E hour)),U (Z (X "open")),U (Y (Q (l.map XZ))),U (Z (E n)),x6,x7,x8,x9,eI]=
   U (P [U (Z (aH w)),U (Z (bkD ws gv)),U (Z (E hour)),U (Z (X "open")),U (Y (Q ((l++pQ gv hour n o.aS).map XZ))),U (Z (E n)),y6,y7,y8,y9,eO]):=by
 have w3:ixD (aH w) (E 3)=U (N (w.XN.map ao)):=rfl;have b1:ixD (bkD ws gv) (E 1)=U (N (gv.map XZ)):=rfl;have c:=fJ (g:=gN 0) (t:=aC eqB (Yb (vE 0) (kE (E 0))) (vE 1)) (f:=Yb (vE 0) (kE (E 1))) XZ (λenv=>∃y,env=[y,U (Z (E n))]) (λt=>decide (t.1=n)) (λt=> E t.2.1) gv [J,U (Z (E n))] ⟨J,rfl⟩ (by
   rintro t _ env ⟨y,rfl⟩;exact⟨_,rfl,⟨_,rfl⟩,by simp;rfl,λ_=> ⟨.c,by simp[XZ],rfl⟩⟩)
 have he:(cq gv n).map E=(gv.filter λt=>decide (t.1=n)).map λt=>E t.2.1:=by unfold cq;rw[GaN];rfl
 rw[<-he] at c;have zg:(gv.map XZ).length<=16777216:=by rw[Gae];lia
 have hl:=pD gv n;have o4:ixD (ao o) (E 4)=U (cu o.aS):=rfl;generalize aH w=wd at*;generalize bkD ws gv=bk at*;generalize gv.map XZ=gl at*;generalize ao o=od at*;generalize o.aS=u at*;unfold cT;have fst:∀rest:DS,(aj (av 6 (Yb (Yb (Yb (vE 0) (kE (E 3))) (vE 5)) (kE (E 4))))
 (aj (av 7 (g8 J 1 [5] (dz (Yb (vE 1) (kE (E 1)))) (gN 0) (aC eqB (Yb (vE 0) (kE (E 0))) (vE 1)) (Yb (vE 0) (kE (E 1))))) rest)) [U (Z wd),U (Z bk),U (Z (E hour)),U (Z (X "open")),U (Y (Q (l.map XZ))),U (Z (E n)),x6,x7,x8,x9,eI]=
   rest [U (Z wd),U (Z bk),U (Z (E hour)),U (Z (X "open")),U (Y (Q (l.map XZ))),U (Z (E n)),U (Z (cu u)),U (Y (Q ((cq gv n).map E))),x8,x9,eI]:=λrest=>by
  refine(ae (by simp[w3,xx,o4];rfl)).trans ?_;refine ae ?_;simp[af,zg,DL.XT,df,b1,c]
 rw[fst];cases u with
 |asked b=>
  have mn:gf [od]=U (E 0):=by
   unfold cu at o4;unfold gf mG;simp[o4]
  have s0:aW 0=O:=rfl;have e0:l++pQ gv hour n (mH.asked b)=l:=Gbb l;rw[e0];refine⟨U (Z (cu (mH.asked b))),U (Y (Q ((cq gv n).map E))),x8,x9,eI, ?_⟩;have r0:aG 0 0=[]:=rfl;simp[w3,xx,mn,s0,r0]
 |due b e m ea la=>
  obtain⟨r1,r2,⟨r3,r4⟩,r5,r6,r7,_⟩:=ok;have mn:gf [od]=U (E m):=by
   unfold cu at o4;unfold gf mG;simp[o4]
  have s0:aW m=O:=b8;obtain⟨y8,y9,eO,h2⟩:=Qi (wd:=wd) (bk:=bk) (hour:=hour) (n:=n) (b:=b) (e:=e) (m:=m) (ea:=ea) (la:=la) (hs:=cq gv n) (l:=l) (x8:=x8) (x9:=x9) (eI:=eI) (by lia) (by lia) r5 r6 (by lia) (by lia) m.toNat (by lia);rw[uR r1 (by lia) r5 r6 r7] at h2;have e0:pQ gv hour n (mH.due b e m ea la)=openK b e m ea la (cq gv n) hour n:=rfl;rw[e0];unfold cu;simp[w3,xx,mn,s0,h2]
variable{l' :List D}
def Gp{wd bk:D}{hour L:Int}{os F:List D}{y5 y6 y7 y8 y9 eO:Os}(w3:ixD wd (E 3)=U (N os))(hL:cA [N os]=U ⟨.c,E L⟩)(s:aW L=O)
  (h1:XS (gN 5) cT (aG 0 L.toNat) [U (Z wd),U (Z bk),U (Z (E hour)),U (Z (X "open")),U (Y (Q [])),J,J,J,J,J,J]=U (P [U (Z wd),U (Z bk),U (Z (E hour)),U (Z (X "open")),U (Y (Q F)),y5,y6,y7,y8,y9,eO]))
  (q3:XU [Q F]=U ⟨.tn,Q l'⟩)(i:aB l' =O):cX [wd,bk,E hour,X "open"]=U (Q l'):=by
 refine aN rfl ?_;refine(ae (by simp;rfl)).trans ?_;refine(ae (by simp[w3,hL,s,h1];rfl)).trans ?_;simp[q3,i]
def Mu{wd bk:D}{hour:Int}{os F:List D}{y5 y6 y7 y8:Os}(w3:ixD wd (E 3)=U (N os))
  (h1:XS (gT [5,6]) jU (fG 0 os) [U (Z wd),U (Z bk),U (Z (E hour)),U (Z (X "open")),U (Y (Q [])),J,J,J,J]=U (P [U (Z wd),U (Z bk),U (Z (E hour)),U (Z (X "open")),U (Y (Q F)),y5,y6,y7,y8]))
  (q3:XU [Q F]=U ⟨.tn,Q l'⟩)(i:aB l' =O):fI [wd,bk,E hour]=U (Q l'):=by
 have q:ou [wd,bk,E hour,X "open"]=U (Q l'):=by
  refine aN rfl ?_;refine(ae (by simp;rfl)).trans ?_;refine(ae (by simp[w3,h1];rfl)).trans ?_;simp[q3,i]
 unfold fI p8;simp[q,i]
def Gq{w:World}{gv:List Tr}(W:aL w)(h4:w.XN.length<=4)(yP:gv.length<64):∃rs:List Tr,rs.Perm (cU w.XN gv hour w.XN.length)/\fI [aH w,bkD ws gv,E hour]=U (Q (rs.map XZ))/\cX [aH w,bkD ws gv,E hour,X "open"]=U (Q (rs.map XZ)):=by
 have ln:=kJ w.XN gv hour;obtain⟨en,h1,y5,y6,y7,y8,rfl⟩:=cD (g:=gT [5,6]) (λi env=>∃y5 y6 y7 y8,env=[U (Z (aH w)),U (Z (bkD ws gv)),U (Z (E hour)),U (Z (X "open")),U (Y (Q ((cU w.XN gv hour i).map XZ))),y5,y6,y7,y8]) (fG 0 (w.XN.map ao)) 0
  [U (Z (aH w)),U (Z (bkD ws gv)),U (Z (E hour)),U (Z (X "open")),U (Y (Q [])),J,J,J,J] ⟨J,J,J,J,rfl⟩ (by
   rintro i d env hd ⟨y5,y6,y7,y8,rfl⟩;rw[gX] at hd;obtain⟨od,ho,rfl⟩:=Gaa.mp hd;rw[Gap] at ho;obtain⟨o,eo,rfl⟩:=Gaa.mp ho;have hi:=(Gak.mp eo).1;have li:=ln i;obtain⟨z7,z8,q⟩:=Ms (l:=cU w.XN gv hour i) (W.oo o (Gau eo)).du yP (by lia);rw[GaP,nQ eo];exact⟨_,_,rfl,q,_,_,z7,z8,rfl⟩)
 rw[gW,Gae,GaP] at h1;obtain⟨en,h2,z5,z6,z7,z8,z9,xV,rfl⟩:=cD (g:=gN 5) (λi env=>∃y5 y6 y7 y8 y9 eO,env=[U (Z (aH w)),U (Z (bkD ws gv)),U (Z (E hour)),U (Z (X "open")),U (Y (Q ((cU w.XN gv hour i).map XZ))),y5,y6,y7,y8,y9,eO]) (aG 0 w.XN.length) 0
  [U (Z (aH w)),U (Z (bkD ws gv)),U (Z (E hour)),U (Z (X "open")),U (Y (Q [])),J,J,J,J,J,J] ⟨J,J,J,J,J,J,rfl⟩ (by
   rintro i d env hd ⟨y5,y6,y7,y8,y9,eO,rfl⟩;obtain⟨hi,rfl⟩:=b9 hd;have eo:=Gac hi;have li:=ln i;have hk:(0:Int)+(i:Int)=(i:Int):=by lia
   rw[hk];obtain⟨z6,z7,z8,z9,xV,q⟩:=Mt (l:=cU w.XN gv hour i) (W.oo _ (GaB hi)).du (by rw[bO,Gap,eo];rfl) yP (by lia);rw[GaP,nQ eo];exact⟨_,_,rfl,q,_,z6,z7,z8,z9,xV,rfl⟩)
 rw[bV,GaP] at h2;have lw:=ln w.XN.length;generalize cU w.XN gv hour w.XN.length=F at*;obtain⟨rs,q1,q2⟩:=LQ F (by lia);refine⟨rs,q2,Mu rfl h1 q1 (bK rs), ?_⟩;refine Gp (L:=(w.XN.length:Int)) (y5:=z5) (y6:=z6) (y7:=z7) (y8:=z8) (y9:=z9) (eO:=xV) rfl ?_ (b8) ?_ q1 (bK rs)
 .simp_all
 .exact h2
def pE(os:List XW)(gv:List Tr)(h:Int)(r:Tr):Prop:=0<=r.2.1/\r.2.1<os.length/\∃o,os[r.2.1.toNat]? =U o/\bM o.aS h=U r.2.2/\∀t∈gv,t.1=r.2.1->bM o.aS t.2.1≠U r.2.2
def Qj(h:gO a b hs=M)(hx:x∈hs):¬(a<=x/\x<=b):=by
 unfold gO at h;rw[Gdn,GbH] at h;intro z;have:=h x hx;unfold btw at this;simp[z.1,z.2] at this
def Bc(ok:fY u)(hr:r∈pQ gv h n u):r.2.1=n/\bM u h=U r.2.2/\∀t∈gv,t.1=n->bM u t.2.1≠U r.2.2:=by
 cases u with
 |asked b=>cases hr
 |due b e m ea la=>
  obtain⟨r1,r2,⟨r3,r4⟩,r5,r6,r7,_⟩:=ok;have yk :r∈openK b e m ea la (cq gv n) h n:=hr;unfold openK at yk;split at yk
  .rename_i k hk;split at yk
   .cases yk
   .rename_i an;have e:=GaU.mp yk;subst e;refine⟨rfl,hk,λt ht et z=> ?_⟩;have an' :gO (b+k*e -ea) (b+k*e+la) (cq gv n)=M:=by simpa using an
    refine Qj an' ?_ ((nP r1 r5 r6 r7).mp z).2;exact Gas.mpr ⟨t,Gbm.mpr ⟨ht,GaD et⟩,rfl⟩
  .cases yk
theorem kK{os:List XW}(ok:∀o∈os,fY o.aS):∀i r,r∈cU os gv h i->r.2.1<i/\pE os gv h r
 |0,r,hr=>by cases hr
 |i+1,r,hr=>by
  rcases Gav.mp hr with hr|hr
  .have:=kK ok i r hr;exact⟨by lia,this.2⟩
  .split at hr
   .rename_i o eo;obtain⟨h1,h2,h3⟩:=Bc (ok o (Gau eo)) hr;have hi:=(Gak.mp eo).1;refine⟨by lia,by lia,by lia,o, ?_,h2, ?_⟩
    .rw[h1];exact eo
    .rw[h1];exact h3
   .cases hr
theorem sC{os:List XW}(ok:∀o∈os,fY o.aS):∀i,((cU os gv h i).map (·.2.1)).Nodup
 |0=>Gdp
 |i+1=>by
  have ih:=sC (gv:=gv) (h:=h) ok i;unfold cU;split
  .rename_i o eo;have l1:=Bb gv h (i:Int) o.aS;have m1:=λr hr=>(Bc (gv:=gv) (h:=h) (n:=(i:Int)) (ok o (Gau eo)) (r:=r) hr).1;generalize pQ gv h (i:Int) o.aS=L at*;rw[GaC,GaW];refine⟨ih, ?_,λa ha b hb e=> ?_⟩
   .match L,l1 with
    |[],_=>exact Gdp
    |[x],_=>simp
   .obtain⟨r,hr,rfl⟩:=Gas.mp ha;obtain⟨s,hs,rfl⟩:=Gas.mp hb;have h1:=(kK ok i r hr).1;have h2:=m1 s hs;lia
  .simp_all
theorem Bd{α:Type}(p q:α->Bool)(d:∀x,¬(p x=O/\q x=O)):∀l:List α,(l.filter p).length+(l.filter q).length<=(l.filter λx=>p x||q x).length
 |[]=>by simp
 |x::l=>by
  have ih:=Bd p q d l;cases hp:p x<;>cases hq:q x<;>simp_all<;>lia
theorem Be{α Yt:Type} [DecidableEq Yt](f:α->Yt)(l:List α):∀ks:List Yt,ks.Nodup->(ks.map λk=>(l.filter λt=>decide (f t=k)).length).sum<=(l.filter λt=>decide (f t∈ks)).length
 |[],_=>by simp
 |k::ks,h=>by
  rw[Gbc] at h;have ih:=Be f l ks h.2;have two:=Bd (λt=>decide (f t=k)) (λt=>decide (f t∈ks)) (λx q=>h.1 (by have a:=Gar q.1;have b:=Gar q.2;rw[a] at b;exact b)) l;have e:(λt=>decide (f t∈k::ks))=λt=>decide (f t=k)||decide (f t∈ks):=by
   simp
  rw[Gax,List.sum_cons,e];lia
theorem Bf{α β:Type}{f:α->List β}{g:α->Nat}:∀l:List α,(∀x∈l,(f x).length<=2*g x)->(l.flatMap f).length<=2*(l.map g).sum
 |[],_=>by simp
 |x::l,h=>by
  have h1:=h x Gaj;have h2:=Bf l λy hy=>h y (Gaf _ hy)
  grind
def Qk{w:World}{gv:List Tr}{st:List Tg}(hc:∀s∈w.au,s.az.length<=2)(I:ly w.XN gv st):(st.flatMap (tgF w.au ws)).length<=2*gv.length:=by
 have h1:=Bf (f:=tgF w.au ws) (g:=λe:Tg=>(gv.filter λt=>decide (tk w.XN t=e.1)).length) st (λe he=>by
  have h2:=kY ws e.1.1 e.1.2 e.2 0 ((w.au[e.1.2.toNat]?.map (·.az)).getD []);have h3:((w.au[e.1.2.toNat]?.map (·.az)).getD []).length<=2:=by
   cases h:w.au[e.1.2.toNat]? with
   |none=>simp
   |some s=>exact hc s (Gau h)
  have h4:e.2.length=(gv.filter λt=>decide (tk w.XN t=e.1)).length:=by rw[I.ms e he,Gae]
  have h5:=Nat.mul_le_mul_right e.2.length h3;unfold tgF;lia)
 have h2:=Be (tk w.XN) gv (st.map (·.1)) I.nd;rw[GaN] at h2;have h3:=Gbp h2 (GbO _ _);have e:((λk=>(gv.filter λt=>decide (tk w.XN t=k)).length)∘λe:Tg=>e.1)=λe:Tg=>(gv.filter λt=>decide (tk w.XN t=e.1)).length:=rfl;rw[e] at h3;lia
theorem Bg{F:Int×Int->List Flt}(each:∀l,(F l).length<=1):∀rs:List (Int×Int),rs.Nodup->(∀l∈rs,l≠x->F l=[])->(rs.flatMap F).length<=1
 |[],_,_=>by simp
 |l::rs,nd,h=>by
  rw[Gbc] at nd;rw[GaY,Gal];by_cases c:l=x
  .have:rs.flatMap F=[]:=Gby.mpr λm hm=>h m (Gaf _ hm) λz=>nd.1 (by rw[c,<-z];exact hm);rw[this];simp_all
  .rw[h l Gaj c];have:=Bg each rs nd.2 λm hm=>h m (Gaf _ hm);simp_all
theorem Ej(each:∀r l,(F r l).length<=1):∀rs,rs.Nodup->(rs.Pairwise λr l=>r≠x->l≠x->F r l=[])->(prs F rs).length<=rs.length
 |[],_,_=>by simp[prs]
 |r::rs,nd,h=>by
  rw[Gbc] at nd;rw[GaV] at h;unfold prs;rw[Gal,GaF];by_cases c:r=x
  .have:prs F rs=[]:=(Ec F rs).mpr ((GcU.mp h.2).imp λ{a b} q=>q.2.2 (λz=>nd.1 (by rw[c,<-z];exact q.1)) (λz=>nd.1 (by rw[c,<-z];exact q.2.1)));rw[this];have:=nG (F r) (each r) rs;simp only[Gbi];lia
  .have h1:=Bg (each r) rs nd.2 λl hl z=>h.1 l hl c z;have h2:=Ej each rs nd.2 h.2;lia
theorem Ek(os:List XW):∀(gv ts:List Tr),(gv.foldl (bc os) ts).length<=ts.length+gv.length
 |[],ts=>by simp
 |g::gv,ts=>by
  have h1:=Ek os gv (bc os ts g);have h2:=w6 ts g.1 ((os[g.1.toNat]?).bind λo=>bM o.aS g.2.1);rw[Gcl,GaF];unfold bc at h1⊢;lia
def JT{w:World}{gv' :List Tr}{t:Tr}(W:aL w)(hc:∀s∈w.au,s.az.length<=2)(B:oE w 12 ws gv)(t0:0<=t.1)(t1:t.1<w.XN.length)(p:gv'.Perm (gv++[t]))(nd:(gvR gv').Nodup)(st:List Tg)(eA:List (Int×Int))(I:ly w.XN gv' st)(r2:eA.Perm (gvR gv'))(r3:eA.Pairwise λa b=>a.1<=b.1):
  (st.flatMap (tgF w.au ws)++da w.XN (w.br.foldl aQ []) (wide w.br) eA++twF (gv'.foldl (bc w.XN) [])++gv'.flatMap (c9 w ws)).length<64:=by
 have le:=λb hb=>(W.bo.1 b hb).2.1;have pos:=λb hb=>(W.bo.1 b hb).2.2.2;have gl:=B.gl;have len:gv'.length<=13:=by rw[p.length_eq];simp;lia
 have f1:=Qk (ws:=ws) hc I;have lr:eA.length=gv'.length:=by rw[r2.length_eq];simp[gvR]
 have f2:(da w.XN (w.br.foldl aQ []) (wide w.br) eA).length<=eA.length:=by
  rw[mL (Jp le pos W.bo.2) eA r3];refine Ej (x:=(t.2.1,t.1)) (λr l=>w8 _ _ r l) eA (r2.nodup_iff.mpr nd) ?_;have old:∀r∈eA,r≠(t.2.1,t.1)->r∈gvR gv:=λr hr ne=>by
   have h1:=r2.mem_iff.mp hr;have h2:=(p.map λt:Tr=>(t.2.1,t.1)).mem_iff.mp h1;rw[GaC] at h2;rcases Gav.mp h2 with h3|h3
   .exact h3
   .simp_all
  exact(GcU.mp ((r2.nodup_iff.mpr nd).and r3)).imp λ{a b} q na nb=>(AZ q.2.2.2).mpr (Ck (λa b z=>Apart.symm W z) B.sn.gap a (old a q.1 na) b (old b q.2.1 nb) q.2.2.1)
 have f3:(twF (gv'.foldl (bc w.XN) [])).length<=gv'.length:=by
  have z:=Ek w.XN gv' [];rw[Gbi] at z;unfold twF
  grind
 have f4:(gv'.flatMap (c9 w ws)).length<=5:=by
  rw[(p.flatMap_right _).length_eq,Gcx,Gby.mpr B.sn.ID,GaY,List.flatMap_nil,Gbb];exact(rV W t0 t1).2
 simp only[Gal];lia
def JU{w:World}{gv' :List Tr}{t:Tr}(W:aL w)(hc:∀s∈w.au,s.az.length<=2)(B:oE w 12 ws gv)(t0:0<=t.1)(t1:t.1<w.XN.length)(p:gv'.Perm (gv++[t]))(ct:∀o k,iO w.XN gv' o k<=1):(gv'.flatMap (gn w ws gv')).length<64:=by
 have none_:=(qa W B.go B.nd).mpr B.sn;have hl:=B.gl;rw[(p.flatMap_right _).length_eq,Gcx,Gal];have len:gv'.length<=13:=by rw[p.length_eq];simp;lia
 have old:∀u∈gv,(gn w ws gv' u).length<=3:=λu h=>by
  obtain⟨o,s,g,e1,e2,e3,_⟩:=cY W (B.go u h).1 (B.go u h).2;have n1:=Gby.mp none_ u h;rw[jX e1 e2 e3,Gcg] at n1;have tw:twL gv' o.aS u.1 u.2.1=[]:=nil_of λf hf=>by
   obtain⟨k,_,h2,_⟩:=(qb e1 f).mp hf;have:=ct u.1 k;lia
  have a1:=(B0 e1 e2 e3).mpr ⟨B.sn.ID u h,tw⟩;have a2:=i7 w.XN ws gv' o u.2.1 0 s.az;have a3:=hc s (Gau e2);have a4:(gv'.flatMap (nrT w.XN w.br u.1 u.2.1)).length<=1:=by
   rw[(p.flatMap_right _).length_eq,Gcx,n1.2];have:=gV (f:=nrT w.XN w.br u.1 u.2.1) [t] λx _=>Ef W _ _ x
   simpa using this
  rw[jX e1 e2 e3,a1,GbK,Gal];lia
 have new:∀u∈[t],(gn w ws gv' u).length<=21:=λu h=>by
  rw[GaU.mp h];obtain⟨o,s,g,e1,e2,e3,_⟩:=cY W t0 t1;have a1:=rZ ws gv' o s g.2 t.1 t.2.1 t.2.2;have a2:=i7 w.XN ws gv' o t.2.1 0 s.az;have a3:=hc s (Gau e2);have a4:=gV (f:=nrT w.XN w.br t.1 t.2.1) gv' λx _=>Ef W _ _ x;rw[jX e1 e2 e3,Gal,Gal];lia
 have s1:=gV gv old;have s2:=gV [t] new;rw[GcQ] at s2;lia
def JV{w:World}{gv' :List Tr}(hs:∀o k,iO w.XN gv o k<=1)(R:pE w.XN gv h r)(p:gv'.Perm (gv++[(r.2.1,h,a)]))(o k:Int):iO w.XN gv' o k<=1:=by
 rw[JL p,iP];obtain⟨_,_,od,eo,du,no⟩:=R;split
 .rename_i q;unfold pM at q;rw[Gai] at q;have q1:=Gar q.1;have q2:=Gar q.2;have UK :=q1;have q2' :(w.XN[r.2.1.toNat]?.bind λo=>bM o.aS h)=U k:=q2;rw[eo] at q2';have e:r.2.2=k:=by
   simp_all
  have z:iO w.XN gv o k=0:=by
   unfold iO;rw[Gbo];refine GdR.mpr λt ht=> ?_;have h1:=Gbm.mp ht;have h2:=h1.2;unfold pM at h2;rw[Gai] at h2;have h3:=Gar h2.1;have h4:=Gar h2.2;unfold Ci at h4;rw[h3,<-UK,eo] at h4;exact no t h1.1 (h3.trans UK.symm) (by rw[e];exact h4)
  lia
 .have:=hs o k;lia
def Gr{w:World}(R:pE w.XN gv h r):sY r.2.1 h gv=M:=by
 obtain⟨_,_,od,eo,du,no⟩:=R;unfold sY;rw[GbH];intro t ht z;have q:=Gar z;exact no t ht q.1 (by rw[q.2];exact du)
noncomputable def more(way:Str)(s r:Int):Bool:=(decide (way="up")&&decide (0<r))||(decide (way="near")&&decide (s<2*r))
def wm(t s p:Int)(way:Str):Int:=(t/s+(if more way s (t -t/s*s) then 1 else 0))*p
def nR(hs:b*p=s)(s0:0<s)(s1:s<1073741824)(p0:0<p)(p1:p<1073741824):jG [E t,E b,E p,X way]=U (E (wm t s p way)):=by
 have m1:aT b p=O:=bJ;have m2:∀i,aT i s=O:=λi=>bJ;have m3:∀i,aT i p=O:=λi=>bJ;have m4:∀i,aT 2 i=O:=λi=>bq;unfold wm more;generalize hq:t/s=q;generalize hr:t -q*s=r;refine aN rfl ?_;refine(ae (by simp[m1,hs];rfl)).trans ?_;refine(ae (by simp[s0,s1,hq];rfl)).trans ?_;refine(ae (by simp[m2,hr];rfl)).trans ?_;by_cases c1:way=Str.ofString "up"
 .subst c1;by_cases c2:0<r<;>simp[c2,m3]
 .by_cases c3:way=Str.ofString "near"
  .subst c3;by_cases c2:s<2*r<;>simp[c2,m3,m4]
  .simp[c1,c3,m3]
def Ql{f most p m:Int}(hp:0<p)(hf:f=m*p):(if most/p*p<f then most/p*p else f)=if most<f then most/p*p else f:=by
 by_cases c:most<f
 .rw[Gan c,Gan (Int.lt_of_le_of_lt (Int.ediv_mul_le _ (by lia)) c)]
 .rw[Gah c,Gah];rw[hf] at c⊢;have h1:m<=most/p:=(Int.le_ediv_iff_mul_le hp).mpr (by lia);simp_all
def uS(way:Str)(t s most p:Int):Int:=if most<wm t s p way then most/p*p else wm t s p way
def down_eq:wm most p p "down"=most/p*p:=by
 unfold wm more;simp
def uT(hh:(per=0/\top*num=t/\den=b)\/(¬per=0/\∃w,wd= E w/\w*(top*num)=t/\per*den=b))(hs:b*p=s)(s0:0<s)(s1:s<1073741824)(p0:0<p)(p1:p<1073741824)(n0:0<=num)(n1:num<=12)(d0:0<=den)(d1:den<=12)(t0:0<=top)(t1:top<=1000000):
  rG [N [X way,E top,E per,E most],wd,E num,E den,E p]=U (E (uS way t s most p)):=by
 have r1:=nR (t:=t) (way:=way) hs s0 s1 p0 p1;have r2:=nR (t:=most) (way:="down") (Int.one_mul p) p0 p1 p0 p1;rw[down_eq] at r2;have ce:=Ql (most:=most) p0 (show wm t s p way=_*p from rfl);have m1:aT top num=O:=bJ;have tn:=jm t0 t1 n0 n1;have tn0:=GbP t0 n0;have m2:∀i,aT i (top*num)=O:=λi=>bJ;have m3:aT per den=O:=bJ;unfold uS;rw[<-ce];generalize wm t s p way=f at*;refine aN rfl ?_;refine(ae (by simp;rfl)).trans ?_;refine(ae (by simp[m1];rfl)).trans ?_;refine(ae (e:=[U (Z (N [X way,E top,E per,E most])),U (Z wd),U (Z (E num)),U (Z (E den)),U (Z (E p)),U (Z (X way)),U (Z (E (top*num))),U (Z (E per)),J,J]) (by simp)).trans ?_;refine(ae (e:=[U (Z (N [X way,E top,E per,E most])),U (Z wd),U (Z (E num)),U (Z (E den)),U (Z (E p)),U (Z (X way)),U (Z (E (top*num))),U (Z (E per)),U (Z (E most)),J]) (by simp)).trans ?_;refine(ae (e:=[U (Z (N [X way,E top,E per,E most])),U (Z wd),U (Z (E num)),U (Z (E den)),U (Z (E p)),U (Z (X way)),U (Z (E (top*num))),U (Z (E per)),U (Z (E most)),U (Z (E f))]) ?_).trans ?_
 .rcases hh with⟨z,e1,e2⟩| ⟨z,w,rfl,e1,e2⟩
  .rw[<-e1,<-e2] at r1;simp[z,r1]
  .rw[<-e1,<-e2] at r1;simp[z,r1,m2,m3]
 .simp[r2]
def lT(hh:(per=0/\top*num=t/\den=b)\/(0<per/\∃w,wd= E w/\top*num*w=t/\den*per=b))(hs:b*p=s)(s0:0<s)(s1:s<1073741824)(b0:0<=b)(b1:b<1000000)(p0:0<p)(p1:p<1073741824)(n0:0<=num)(n1:num<=12)(d0:0<=den)(d1:den<=12)(t0:0<=top)(t1:top<=1000000):
  iI [N [X way,E top,E per,E most],wd,E num,E den,E p]=U (E (uS way t s most p)):=by
 have m1:aT top num=O:=bJ;have tn:=jm t0 t1 n0 n1;have tn0:=GbP t0 n0;have m2:∀i,aT (top*num) i=O:=λi=>bq;have m3:aT den per=O:=bq;have m4:∀i,aT i p=O:=λi=>bJ;have m5:∀i,aT i b=O:=λi=>bJ;have m6:∀i,aT 2 i=O:=λi=>bq;have eq:t -t/s*p*b=t -t/s*s:=by rw[Int.mul_assoc,Int.mul_comm p b,hs]
 have p9:0<p/\p<1073741824:=⟨p0,p1⟩
 unfold uS wm more;rw[Int.add_mul];rw[<-eq];generalize hq:t/s=q;generalize hf:q*p=f;generalize hr:t -f*b=r;refine aN rfl ?_;refine(ae (by simp[fu,m1];rfl)).trans ?_;refine(ae (e:=[U (Z (N [X way,E top,E per,E most])),U (Z wd),U (Z (E num)),U (Z (E den)),U (Z (E p)),U (Z (E (top*num))),U (Z (E den)),J,J]) (by simp)).trans ?_;refine(ae (e:=[U (Z (N [X way,E top,E per,E most])),U (Z wd),U (Z (E num)),U (Z (E den)),U (Z (E p)),U (Z (E t)),U (Z (E b)),J,J]) ?_).trans ?_
 .rcases hh with⟨z,e1,e2⟩| ⟨z,w,rfl,e1,e2⟩
  .simp[z,e1,e2]
  .simp[z,e1,e2,m2,m3]
 refine(ae (by simp[m4,hs,s0,s1,hq,hf];rfl)).trans ?_;refine(ae (by simp[m5,hr];rfl)).trans ?_;obtain⟨mo,hm⟩:∃mo:Bool,(decide (way=Str.ofString "up")&&decide (0<r)||decide (way=Str.ofString "near")&&decide (s<2*r))=mo:=⟨_,rfl⟩
 rw[hm];refine(ae (e:=[U (Z (N [X way,E top,E per,E most])),U (Z wd),U (Z (E num)),U (Z (E den)),U (Z (E p)),U (Z (E t)),U (Z (E b)),U (Z (E (f+(if mo=O then 1 else 0)*p))),U (Z (E r))]) ?_).trans ?_
 .rw[<-hm];by_cases c1:way=Str.ofString "up"
  .subst c1;by_cases c2:0<r<;>simp[c2]
  .by_cases c3:way=Str.ofString "near"
   .subst c3;by_cases c2:s<2*r<;>simp[c2,m4,m6,hs]
   .simp[c1,c3]
 .generalize f+(if mo=O then 1 else 0)*p=f';by_cases c:most<f' <;>simp[c,m4,p9]
noncomputable def pR(k:Int):List Tr->Tr->Tr
 |[],f=>f
 |t::ts,f=>pR k ts (if t.1<=k then t else f)
def Mv(t:Tr):Prop:=1<=t.2.1/\t.2.1<=12/\1<=t.2.2/\t.2.2<=12
theorem El:∀ts f,(∀t∈ts,Mv t)->Mv f->Mv (pR k ts f)
 |[],f,_,h=>h
 |t::ts,f,ht,h=>by
  refine El ts _ (λx hx=>ht x (Gaf _ hx)) ?_;split
  .exact ht t Gaj
  .exact h
theorem uU:∀{ds:List D},(∀t∈ds,jb t)->∃ts:List Tr,ds=ts.map XZ/\∀t∈ts,Mv t
 |[],_=> ⟨[],rfl,λ_ h=>by cases h⟩
 |d::ds,h=>by
  obtain⟨a,b,c,rfl,q⟩:=h d Gaj;obtain⟨ts,rfl,q2⟩:=uU λt ht=>h t (Gaf _ ht);exact⟨(a,b,c)::ts,rfl,λt ht=>by
   rcases Gat.mp ht with rfl|ht
   .exact q
   .exact q2 t ht⟩
theorem sD:∀ts f x3,∃y3,XS (gN 3) gA (ts.map XZ) [U (Z od),U (Z (E k)),U (Z (N [E f.2.1,E f.2.2])),x3]=U (P [U (Z od),U (Z (E k)),U (Z (N [E (pR k ts f).2.1,E (pR k ts f).2.2])),y3])
 |[],f,x3=> ⟨x3,by simp[pR]⟩
 |t::ts,f,x3=>by
  obtain⟨y3,e⟩:=sD ts (if t.1<=k then t else f) (U (Z (XZ t)));refine⟨y3, ?_⟩;have st:gA [U (Z od),U (Z (E k)),U (Z (N [E f.2.1,E f.2.2])),U (Z (XZ t))]=U (P [U (Z od),U (Z (E k)),U (Z (N [E (if t.1<=k then t else f).2.1,E (if t.1<=k then t else f).2.2])),U (Z (XZ t))]):=by
   unfold gA XZ;by_cases c:t.1<=k<;>simp[c,af]
  rw[Gax];simp only[XS,gN,GaG,GaH,Option.bind_some,st];exact e
def Cv{ts:List Tr}(h5:ixD od (E 5)=U (N (ts.map XZ))):jS [od,E k]=U (N [E (pR k ts (0,1,1)).2.1,E (pR k ts (0,1,1)).2.2]):=by
 obtain⟨y3,e⟩:=sD (od:=od) (k:=k) ts (0,1,1) J;refine aN rfl ?_;refine(ae (by simp;rfl)).trans ?_;refine(ae (by simp[h5,e];rfl)).trans ?_;simp
theorem uV:∀(ts:List Tr) (f:Tr) (x8:Os),∃y8,XS (gN 8) dU (ts.map XZ) [e0,e1,e2,U (Z (E k)),e4,e5,e6,U (Z (XZ f)),x8]=U (P [e0,e1,e2,U (Z (E k)),e4,e5,e6,U (Z (XZ (pR k ts f))),y8])
 |[],f,x8=> ⟨x8,by simp[pR]⟩
 |t::ts,f,x8=>by
  obtain⟨y8,e⟩:=uV ts (if t.1<=k then t else f) (U (Z (XZ t)));refine⟨y8, ?_⟩;have st:dU [e0,e1,e2,U (Z (E k)),e4,e5,e6,U (Z (XZ f)),U (Z (XZ t))]=U (P [e0,e1,e2,U (Z (E k)),e4,e5,e6,U (Z (XZ (if t.1<=k then t else f))),U (Z (XZ t))]):=by
   unfold dU;by_cases c:t.1<=k
   .unfold XZ;simp[c]
   .unfold XZ;simp[c]
  rw[Gax];simp only[XS,gN,GaG,GaH,Option.bind_some,st];exact e
def T5{bk rd:D}{W:List D}{am:Option Int}(w3:ixD wd (E 3)=U (N XJ))(w1:ixD wd (E 1)=U (N B))(hO:atD XJ n=U od)(o1:ixD od (E 1)=U (E g))(o2:ixD od (E 2)=U (E st))(o3:ixD od (E 3)=U rd)(r2:ixD rd (E 2)=U (E per))(hS:atD B st=U sd)(s1:ixD sd (E 1)=U (N Yv))(zH:atD Yv 0=U (E p))(b0:ixD bk (E 0)=U (N W))
  (ew:dA [N W,E g,E h]=U (bZ wo))(et:jS [od,E k]=U (N [E num,E den]))(hn:¬per=0/\wo=J->am=J)(hy:¬(¬per=0/\wo=J)->rG [rd,bZ wo,E num,E den,E p]=U (bZ am)):gZ [wd,bk,E n,E k,E h]=U (bZ am):=by
 have xI :=aV (bY wo);refine aN rfl ?_;refine(ae (by simp[w3,hO];rfl)).trans ?_;refine(ae (by simp[o3];rfl)).trans ?_;refine(ae (by simp[b0,o1,ew,xI];rfl)).trans ?_;by_cases c:¬per=0/\wo=J
 .simp_all
 .have hd:=hy c;have ia:=bY am;have ra:=aV ia;refine(ae (e:=[U (Z wd),U (Z bk),U (Z (E n)),U (Z (E k)),U (Z (E h)),U (Z od),U (Z rd),U (Z (bZ wo)),J]) ?_).trans ?_
  .by_cases c1:per=0
   .simp[r2,c1]
   .cases wo with
    |none=>exact absurd ⟨c1,rfl⟩ c
    |some v=>simp[r2]
  .refine(ae (by simp[et];rfl)).trans ?_;simp[w1,o2,hS,s1,zH,hd,ra,ia]
def T6{bk rd:D}{W:List D}{ts:List Tr}{am:Option Int}(w3:ixD wd (E 3)=U (N XJ))(w1:ixD wd (E 1)=U (N B))(hO:atD XJ n=U od)(o1:ixD od (E 1)=U (E g))(o2:ixD od (E 2)=U (E st))(o3:ixD od (E 3)=U rd)(h5:ixD od (E 5)=U (N (ts.map XZ)))(r2:ixD rd (E 2)=U (E per))(hS:atD B st=U sd)(s1:ixD sd (E 1)=U (N Yv))(zH:atD Yv 0=U (E p))(b0:ixD bk (E 0)=U (N W))
  (ew:cS [N W,E g,E h]=U (bZ wo))(hn:0<per/\wo=J->am=J)(hy:¬(0<per/\wo=J)->iI [rd,bZ wo,E (pR k ts (0,1,1)).2.1,E (pR k ts (0,1,1)).2.2,E p]=U (bZ am)):cG [wd,bk,E n,E k,E h]=U (bZ am):=by
 have xI :=aV (bY wo);obtain⟨y8,el⟩:=uV (e0:=U (Z wd)) (e1:=U (Z bk)) (e2:=U (Z (E n))) (e4:=U (Z (E h))) (e5:=U (Z od)) (e6:=U (Z (bZ wo))) (k:=k) ts (0,1,1) J;refine aN rfl ?_;refine(ae (by simp[w3,hO];rfl)).trans ?_;refine(ae (by simp[b0,o1,ew,xI];rfl)).trans ?_;by_cases c:0<per/\wo=J
 .simp_all
 .have hd:=hy c;have ia:=bY am;have ra:=aV ia;have t0:XZ (0,1,1)= N [E 0,E 1,E 1]:=rfl;rw[t0] at el;refine(ae (e:=[U (Z wd),U (Z bk),U (Z (E n)),U (Z (E k)),U (Z (E h)),U (Z od),U (Z (bZ wo)),J,J]) ?_).trans ?_
  .cases wo with
   |none=>
    have c1:¬0<per:=λz=>c ⟨z,rfl⟩;simp[o3,r2,c1]
   |some v=>simp
  .refine(ae (by simp;rfl)).trans ?_;refine(ae (by simp[h5,el];rfl)).trans ?_;unfold XZ;simp[w1,o2,o3,hS,s1,zH,hd,ra,ia]
def Mw{w:World}{n:Int}(W:aL w)(hr:∀o∈w.XN,kI o)(n0:0<=n)(n1:n<w.XN.length):∃am,∀gv,gZ [aH w,bkD ws gv,E n,E k,E h]=U (bZ am)/\cG [aH w,bkD ws gv,E n,E k,E h]=U (bZ am):=by
 obtain⟨o,s,g,e1,e2,e3,so,ok,oa,sa,_⟩:=cY W n0 n1;obtain⟨q1,q2,q3,q4,q5⟩:=hr o (Gau e1);obtain⟨ts,et,tb⟩:=uU q5;have p1:=so.p1;have p2:=so.p2;obtain⟨f1,f2,f3,f4⟩:=El (k:=k) ts (0,1,1) tb ⟨by decide,by decide,by decide,by decide⟩;have i5:ixD (ao o) (E 5)=U (N (ts.map XZ)):=by rw[<-et];rfl
 have tp:=Cv (k:=k) i5;have ew:=iJ (ws:=ws) (g:=o.ay) (h:=h);have el:=gK (ws:=ws) (g:=o.ay) (h:=h);generalize hf:pR k ts (0,1,1)=f at*;generalize wgt o.ay h ws J=wo at*;have key:∃am:Option Int,(¬o.per=0/\wo=J->am=J)/\(¬(¬o.per=0/\wo=J)->rG [N [X o.way,E o.top,E o.per,E o.most],bZ wo,E f.2.1,E f.2.2,E s.part]=U (bZ am)/\iI [N [X o.way,E o.top,E o.per,E o.most],bZ wo,E f.2.1,E f.2.2,E s.part]=U (bZ am)):=by
  by_cases c:o.per=0
  .have b1:0<f.2.2*s.part:=Int.mul_pos (by lia) (by lia);have b2:f.2.2*s.part<=12*100000:=jm (by lia) f4 (by lia) p2;refine⟨U (uS o.way (o.top*f.2.1) (f.2.2*s.part) o.most s.part),λz=>absurd c z.1,λ_=> ⟨?_, ?_⟩⟩
   .exact uT (.inl ⟨c,rfl,rfl⟩) rfl b1 (by lia) (by lia) (by lia) (by lia) (by lia) (by lia) (by lia) (by lia) (by lia)
   .exact lT (.inl ⟨c,rfl,rfl⟩) rfl b1 (by lia) (by lia) (by lia) (by lia) (by lia) (by lia) (by lia) (by lia) (by lia) (by lia) (by lia)
  .cases wo with
   |none=>exact⟨J,λ_=>rfl,λz=>absurd ⟨c,rfl⟩ z⟩
   |some v=>
    have d1:0<o.per*f.2.2:=Int.mul_pos (by lia) (by lia);have d2:o.per*f.2.2<=99*12:=jm q1 q2 (by lia) f4;have b1:0<o.per*f.2.2*s.part:=Int.mul_pos d1 (by lia);have b2:o.per*f.2.2*s.part<=99*12*100000:=jm (by lia) d2 (by lia) p2;refine⟨U (uS o.way (v*(o.top*f.2.1)) (o.per*f.2.2*s.part) o.most s.part),λz=>absurd z.2 (by simp),λ_=> ⟨?_, ?_⟩⟩
    .exact uT (.inr ⟨c,v,rfl,rfl,rfl⟩) rfl b1 (by lia) (by lia) (by lia) (by lia) (by lia) (by lia) (by lia) (by lia) (by lia)
    .exact lT (b:=o.per*f.2.2) (.inr ⟨by lia,v,rfl,Int.mul_comm _ _,Int.mul_comm _ _⟩) rfl b1 (by lia) (by lia) (by lia) (by lia) (by lia) (by lia) (by lia) (by lia) (by lia) (by lia) (by lia)
 obtain⟨am,k1,k2⟩:=key;refine⟨am,λgv=> ⟨?_, ?_⟩⟩
 .exact T5 rfl rfl oa rfl rfl rfl rfl sa rfl rfl rfl ew tp k1 λz=>(k2 z).1
 .refine T6 (ts:=ts) rfl rfl oa rfl rfl rfl i5 rfl sa rfl rfl rfl el (λz=>k1 ⟨by lia,z.2⟩) λz=> ?_;rw[hf];exact(k2 λy=>z ⟨by lia,y.2⟩).2
def Mx{tk:D}{H:List D}(ed:gZ [wd,bk0,E n,E k,E h]=U YA)(hz:H.length<1000):
  d7 [U (Z wd),U (Z bk0),U (Z (E h)),U (Y (Q T)),U (Y (Q H)),U (Z tk),U (Z (N [at_,E n,E k])),x7,x8,x9,eI,eM]=
   U (P [U (Z wd),U (Z bk0),U (Z (E h)),U (Y (Q T)),U (Y (Q (H++[N [E n,E k,Yy [N [X "weight",E n,E h]]]]))),U (Z tk),U (Z (N [at_,E n,E k])),U (Z (E n)),U (Z (E k)),U (Z YA),eI,eM]):=by
 have z:H.length<16777216:=by lia
 refine(ae (e:=[U (Z wd),U (Z bk0),U (Z (E h)),U (Y (Q T)),U (Y (Q H)),U (Z tk),U (Z (N [at_,E n,E k])),U (Z (E n)),x8,x9,eI,eM]) (by simp)).trans ?_;refine(ae (e:=[U (Z wd),U (Z bk0),U (Z (E h)),U (Y (Q T)),U (Y (Q H)),U (Z tk),U (Z (N [at_,E n,E k])),U (Z (E n)),U (Z (E k)),x9,eI,eM]) (by simp)).trans ?_;refine(ae (by simp[ed];rfl)).trans ?_;simp[af,z]
def My{tk xU :D}{T H:List D}{fs:List Flt}(ed:gZ [wd,bk0,E n,E k,E h]=U (E a))(ew:cZ [tk,E n,E h,E a]=U xU)(ib:xU.imm=O)(ef:jI [wd,xU]=U (Q (fs.map ai)))(hz:H.length<1000)(ht:T.length<1000):∃eU,
  d7 [U (Z wd),U (Z bk0),U (Z (E h)),U (Y (Q T)),U (Y (Q H)),U (Z tk),U (Z (N [at_,E n,E k])),x7,x8,x9,eI,eM]=
   U (P [U (Z wd),U (Z bk0),U (Z (E h)),U (Y (Q (if fs=[] then T++[N [E n,E k,E a]] else T))),U (Y (Q (if fs=[] then H else H++[N [E n,E k,Yy (fs.map ai)]]))),U (Z (if fs=[] then xU else tk)),U (Z (N [at_,E n,E k])),U (Z (E n)),U (Z (E k)),U (Z (E a)),U (Z xU),eU]):=by
 have z:H.length<16777216:=by lia
 have z2:T.length<16777216:=by lia
 have rb:=aV ib;have eq:=Mo fs;have im:=bW fs;by_cases c:fs=[]
 .subst c;refine⟨U (Y (Q [])), ?_⟩;rw[GcP] at eq ef;refine(ae (e:=[U (Z wd),U (Z bk0),U (Z (E h)),U (Y (Q T)),U (Y (Q H)),U (Z tk),U (Z (N [at_,E n,E k])),U (Z (E n)),x8,x9,eI,eM]) (by simp)).trans ?_;refine(ae (e:=[U (Z wd),U (Z bk0),U (Z (E h)),U (Y (Q T)),U (Y (Q H)),U (Z tk),U (Z (N [at_,E n,E k])),U (Z (E n)),U (Z (E k)),x9,eI,eM]) (by simp)).trans ?_;refine(ae (by simp[ed];rfl)).trans ?_;simp[ew,rb,ef,eq,af,z2]
 .refine⟨U (Z (Yy (fs.map ai))), ?_⟩;rw[Gah c,Gah c,Gah c];rw[GaE c] at eq;refine(ae (e:=[U (Z wd),U (Z bk0),U (Z (E h)),U (Y (Q T)),U (Y (Q H)),U (Z tk),U (Z (N [at_,E n,E k])),U (Z (E n)),x8,x9,eI,eM]) (by simp)).trans ?_;refine(ae (e:=[U (Z wd),U (Z bk0),U (Z (E h)),U (Y (Q T)),U (Y (Q H)),U (Z tk),U (Z (N [at_,E n,E k])),U (Z (E n)),U (Z (E k)),x9,eI,eM]) (by simp)).trans ?_;refine(ae (by simp[ed];rfl)).trans ?_;simp[ew,rb,ef,eq,af,z,im]
def Mz{H:List D}(ed:cG [wd,bk,E n,E k,E h]=U YA)(hz:H.length<1000):∃y9,
  cn [U (Z wd),U (Z bk),U (Z (E h)),U (Y (Q T)),U (Y (Q H)),U (Z (E at_)),U (Z (E n)),U (Z (E k)),x8,x9]=
   U (P [U (Z wd),U (Z bk),U (Z (E h)),U (Y (Q T)),U (Y (Q (H++[N [E n,E k,Yy [N [X "weight",E n,E h]]]]))),U (Z (E at_)),U (Z (E n)),U (Z (E k)),U (Z YA),y9]):=by
 have z:H.length<16777216:=by lia
 refine⟨U (Z (Yy [N [X "weight",E n,E h]])), ?_⟩;refine(ae (by simp[ed];rfl)).trans ?_;refine(ae (by simp;rfl)).trans ?_;refine(ae (e:=[U (Z wd),U (Z bk),U (Z (E h)),U (Y (Q T)),U (Y (Q H)),U (Z (E at_)),U (Z (E n)),U (Z (E k)),U (Z YA),U (Y (Q [N [X "weight",E n,E h]]))]) (by simp)).trans ?_;simp[af,z]
def MA{xU :D}{T H:List D}{fs:List Flt}(ed:cG [wd,bk,E n,E k,E h]=U (E a))(ew:cj [bk,E n,E h,E a]=U xU)(ib:xU.imm=O)(ef:bA [wd,xU]=U (Q (fs.map ai)))(hz:H.length<1000)(ht:T.length<1000):∃y9,
  cn [U (Z wd),U (Z bk),U (Z (E h)),U (Y (Q T)),U (Y (Q H)),U (Z (E at_)),U (Z (E n)),U (Z (E k)),x8,x9]=
   U (P [U (Z wd),U (Z (if fs=[] then xU else bk)),U (Z (E h)),U (Y (Q (if fs=[] then T++[N [E n,E k,E a]] else T))),U (Y (Q (if fs=[] then H else H++[N [E n,E k,Yy (fs.map ai)]]))),U (Z (E at_)),U (Z (E n)),U (Z (E k)),U (Z (E a)),y9]):=by
 have z:H.length<16777216:=by lia
 have z2:T.length<16777216:=by lia
 have rb:=aV ib;have im:=bW fs;unfold cn;have pre:∀rest:DS,(aj (av 8 (aq cG (aa (vE 0) (aa (vE 1) (aa (vE 6) (aa (vE 7) (aa (vE 2) ag)))))))
  (aj (av 9 (dh (aa (aU (aa (kE (X "weight")) (aa (vE 6) (aa (vE 2) ag)))) ag)))
  (aj (ifS (aC iZ (vE 8) (kE YA)) (av 9 (aq bA (aa (vE 0) (aa (aq cj (aa (vE 1) (aa (vE 6) (aa (vE 2) (aa (vE 8) ag))))) ag)))) aE) rest)))
  [U (Z wd),U (Z bk),U (Z (E h)),U (Y (Q T)),U (Y (Q H)),U (Z (E at_)),U (Z (E n)),U (Z (E k)),x8,x9]=
   rest [U (Z wd),U (Z bk),U (Z (E h)),U (Y (Q T)),U (Y (Q H)),U (Z (E at_)),U (Z (E n)),U (Z (E k)),U (Z (E a)),U (Y (Q (fs.map ai)))]:=λrest=>by
  refine(ae (by simp[ed];rfl)).trans ?_;refine(ae (by simp;rfl)).trans ?_;exact ae (by simp[ew,rb,ef])
 rw[pre];by_cases c:fs=[]
 .subst c;refine⟨U (Y (Q [])), ?_⟩;rw[Gan rfl,Gan rfl,Gan rfl,GcP];simp[ew,rb,af,z2]
 .rw[Gah c,Gah c,Gah c];have ne:¬(((fs.map ai).length:Int)=0):=by
   rw[Gae];have:=List.length_pos_iff.mpr c;lia
  have hL:cA [Q (fs.map ai)]=U ⟨.c,E ((fs.map ai).length:Int)⟩:=rfl;generalize ((fs.map ai).length:Int)=L at*;simp[-mX,hL,ne,af,z,im]
def JW(ws gv:List Tr):(bkD ws gv).imm=O:=by
 have h1:=bK ws;have h2:=bK gv;simp[bkD,h1,h2]
def TOk(d:D):Prop:=∃a b c:Int,d= N [E a,E b,E c]
def HOk(d:D):Prop:=∃(a b:Int) (fs:List Flt),d= N [E a,E b,Yy (fs.map ai)]/\fs.length<64/\∀f∈fs,f.2.length<=100
structure MB(w:World)(i:Nat)(ws gv:List Tr)(T H:List D):Prop where
 b:oE w (9+i) ws gv
 t:∀d∈T,TOk d
 h:∀d∈H,HOk d
 tl:T.length<=i
 hl:H.length<=i
def Cw{w:World}{gv:List Tr}(W:aL w)(hg:bQ w.XN.length gv):∀f∈gv.flatMap (gn w ws gv),f.2.length<=100:=λf hf=>by
 obtain⟨t,ht,hf⟩:=GaQ.mp hf;obtain⟨o,s,g,e1,e2,e3,so,ok,_⟩:=cY W (hg t ht).1 (hg t ht).2;rw[jX e1 e2 e3,Gav,Gav,Ed e1 e2 e3] at hf;rcases hf with((hf|hf)|hf)|hf
 .rw[(nN hf).2];simp
 .obtain⟨k,_,_,rfl⟩:=(qb e1 f).mp hf;simp
 .obtain⟨j,c,_,h2⟩:=(l4 _ 0).mp hf;obtain⟨top,rfl⟩:=gq h2;simp
 .obtain⟨u,_,hf⟩:=GaQ.mp hf;unfold nrT at hf;split at hf
  .rename_i q;rw[nK (λb hb=>(W.bo.1 b hb).2.1) W.bo.2 (show(t.2.1,t.1).1<=(u.2.1,u.1).1 from(kH q).1)] at hf;rw[oC hf];simp
  .cases hf
def Cy{w:World}{H:List D}(W:aL w)(hc:∀s∈w.au,s.az.length<=2)(hr:∀o∈w.XN,kI o)(I:MB w i ws gv T H)(hi:i<4)(R:pE w.XN gv h r):∃gv' T' H',MB w (i+1) ws gv' T' H' /\(∀t∈gv',t∈gv\/t.1=r.2.1)/\
  (∀yb x7 x8 x9 eI eM,∃y7 y8 y9 eO eU,d7 [U (Z (aH w)),U (Z (bkD ws yb)),U (Z (E h)),U (Y (Q T)),U (Y (Q H)),U (Z (bkD ws gv)),U (Z (XZ r)),x7,x8,x9,eI,eM]=
   U (P [U (Z (aH w)),U (Z (bkD ws yb)),U (Z (E h)),U (Y (Q T')),U (Y (Q H')),U (Z (bkD ws gv')),U (Z (XZ r)),y7,y8,y9,eO,eU]))/\
  (∀x8 x9,∃y8 y9,cn [U (Z (aH w)),U (Z (bkD ws gv)),U (Z (E h)),U (Y (Q T)),U (Y (Q H)),U (Z (E r.1)),U (Z (E r.2.1)),U (Z (E r.2.2)),x8,x9]=
   U (P [U (Z (aH w)),U (Z (bkD ws gv')),U (Z (E h)),U (Y (Q T')),U (Y (Q H')),U (Z (E r.1)),U (Z (E r.2.1)),U (Z (E r.2.2)),y8,y9])):=by
 have n0:=R.1;have n1:=R.2.1;have tl:=I.tl;have hl:=I.hl;have gl:=I.b.gl;have wl:=I.b.wl;have et:XZ r= N [E r.1,E r.2.1,E r.2.2]:=rfl;have snoc:∀{Yv:D->Prop} {L:List D} {d:D},(∀x∈L,Yv x)->Yv d->∀x∈L++[d],Yv x:=λhL hd x hx=>by
  rcases Gav.mp hx with hx|hx
  .exact hL x hx
  .rw[GaU.mp hx];exact hd
 obtain⟨am,pl⟩:=Mw W hr (ws:=ws) (k:=r.2.2) (h:=h) n0 n1;cases am with
 |none=>
  refine⟨gv,T,H++[N [E r.2.1,E r.2.2,Yy [N [X "weight",E r.2.1,E h]]]],⟨I.b.mono (by lia),I.t,snoc I.h ⟨_,_,[(Str.ofString "weight",[r.2.1,h])],rfl,by simp,by simp⟩,by lia,by simp;lia⟩,λt ht=> .inl ht,λyb x7 x8 x9 eI eM=> ?_,λx8 x9=> ?_⟩
  .rw[et];exact⟨_,_,_,_,_,Mx (pl yb).1 (by lia)⟩
  .obtain⟨y9,e⟩:=Mz (T:=T) (H:=H) (at_:=r.1) (x8:=x8) (x9:=x9) (pl gv).2 (by lia);exact⟨_,y9,e⟩
 |some a=>
  have hs:=Gr R;have pm:=l6 gv (r.2.1,h,a);have B12:oE w 12 ws gv:=I.b.mono (by lia);have zx :=Eh (a:=a) I.b.nd hs;have go' :=(I.b.go.app (JQ (h:=h) (a:=a) n0 n1)).perm pm;have l' :(laid gv (r.2.1,h,a)).length=gv.length+1:=by rw[pm.length_eq];simp
  obtain⟨fs,e1,e2,fl,fn,fm⟩:=Mf W (ws:=ws) go' (by lia) zx (JU W hc B12 n0 n1 pm (JV I.b.sn.cnt R pm)) (JT W hc B12 n0 n1 pm zx);have sm:=λf hf=>Cw W (ws:=ws) go' f (fm f hf);have iw:(N (ws.map XZ)).imm=O:=by have:=bK ws;simpa using this
  have w1:cZ [bkD ws gv,E r.2.1,E h,E a]=U (bkD ws (laid gv (r.2.1,h,a))):=Cq (V:= N (ws.map XZ)) iw (by lia);have w2:cj [bkD ws gv,E r.2.1,E h,E a]=U (bkD ws (laid gv (r.2.1,h,a))):=uO (V:= N (ws.map XZ)) iw (by lia);have ib:=JW ws (laid gv (r.2.1,h,a));have Yv:=λ(yb:List Tr) (x7 x8 x9 eI eM:Os)=>My (bk0:=bkD ws yb) (at_:= E r.1) (T:=T) (H:=H) (x7:=x7) (x8:=x8) (x9:=x9) (eI:=eI) (eM:=eM) (pl yb).1 w1 ib e1 (by lia) (by lia);have L:=λ(x8 x9:Os)=>MA (at_:=r.1) (T:=T) (H:=H) (x8:=x8) (x9:=x9) (pl gv).2 w2 ib e2 (by lia) (by lia);by_cases c:fs=[]
  .simp only[Gan c] at Yv L;refine⟨laid gv (r.2.1,h,a),T++[N [E r.2.1,E r.2.2,E a]],H,⟨⟨go',zx,fn.mp c,by lia,by lia⟩,snoc I.t ⟨_,_,_,rfl⟩,I.h,by simp;lia,by lia⟩,λt ht=> ?_,λyb x7 x8 x9 eI eM=> ?_,λx8 x9=> ?_⟩
   .rcases Gav.mp (pm.mem_iff.mp ht) with q|q
    .exact .inl q
    .rw[GaU.mp q];exact .inr rfl
   .obtain⟨eU,e⟩:=Yv yb x7 x8 x9 eI eM;exact⟨_,_,_,_,eU,e⟩
   .obtain⟨y9,e⟩:=L x8 x9;exact⟨_,y9,e⟩
  .simp only[Gah c] at Yv L;refine⟨gv,T,H++[N [E r.2.1,E r.2.2,Yy (fs.map ai)]],⟨I.b.mono (by lia),I.t,snoc I.h ⟨_,_,fs,rfl,fl,sm⟩,by lia,by simp;lia⟩,λt ht=> .inl ht,λyb x7 x8 x9 eI eM=> ?_,λx8 x9=> ?_⟩
   .obtain⟨eU,e⟩:=Yv yb x7 x8 x9 eI eM;exact⟨_,_,_,_,eU,e⟩
   .obtain⟨y9,e⟩:=L x8 x9;exact⟨_,y9,e⟩
def pE.keep{os:List XW}{gv gv' :List Tr}{h:Int}{r q:Tr}(hk:∀t∈gv',t∈gv\/t.1=r.2.1)(ne:¬r.2.1=q.2.1)(Ys:pE os gv h q):pE os gv' h q:=by
 obtain⟨h1,h2,o,e,d,no⟩:=Ys;refine⟨h1,h2,o,e,d,λt ht et=> ?_⟩;rcases hk t ht with z|z
 .exact no t z et
 .simp_all
theorem sE{w:World}(W:aL w)(hc:∀s∈w.au,s.az.length<=2)(hr:∀o∈w.XN,kI o):∀(rs gv:List Tr) (T H:List D) (i:Nat),MB w i ws gv T H->i+rs.length<=4->(∀r∈rs,pE w.XN gv h r)->(rs.map (·.2.1)).Nodup->∃(gv' :List Tr) (T' H' :List D),MB w (i+rs.length) ws gv' T' H' /\
  (∀(x6 x7 x8 x9 eI eM:Os),∃y6 y7 y8 y9 eO eU:Os,XS (gN 6) d7 (rs.map XZ) [U (Z (aH w)),U (Z (bkD ws yb)),U (Z (E h)),U (Y (Q T)),U (Y (Q H)),U (Z (bkD ws gv)),x6,x7,x8,x9,eI,eM]=
   U (P [U (Z (aH w)),U (Z (bkD ws yb)),U (Z (E h)),U (Y (Q T')),U (Y (Q H')),U (Z (bkD ws gv')),y6,y7,y8,y9,eO,eU]))/\
  (∀(x5 x6 x7 x8 x9:Os),∃y5 y6 y7 y8 y9:Os,XS (gT [5,6,7]) cn (rs.map XZ) [U (Z (aH w)),U (Z (bkD ws gv)),U (Z (E h)),U (Y (Q T)),U (Y (Q H)),x5,x6,x7,x8,x9]=
   U (P [U (Z (aH w)),U (Z (bkD ws gv')),U (Z (E h)),U (Y (Q T')),U (Y (Q H')),y5,y6,y7,y8,y9]))
 |[],gv,T,H,i,I,_,_,_=> ⟨gv,T,H,I,λx6 x7 x8 x9 eI eM=> ⟨x6,x7,x8,x9,eI,eM,by simp⟩,λx5 x6 x7 x8 x9=> ⟨x5,x6,x7,x8,x9,by simp⟩⟩
 |r::rs,gv,T,H,i,I,hl,ok,nd=>by
  rw[GaF] at hl;rw[Gax,Gbc] at nd;obtain⟨Xo,T1,H1,I1,k1,p1,q1⟩:=Cy W hc hr I (by lia) (ok r Gaj);obtain⟨Xn,T2,H2,I2,p2,q2⟩:=sE W hc hr rs Xo T1 H1 (i+1) I1 (by lia) (λq hq=>(ok q (Gaf _ hq)).keep k1 λz=>nd.1 (Gas.mpr ⟨q,hq,z.symm⟩)) nd.2;refine⟨Xn,T2,H2,by rw[GaF,show i+(rs.length+1)=i+1+rs.length by lia];exact I2,λx6 x7 x8 x9 eI eM=> ?_,λx5 x6 x7 x8 x9=> ?_⟩
  .obtain⟨a7,a8,a9,Xw,Xv,e1⟩:=p1 yb x7 x8 x9 eI eM;obtain⟨y6,y7,y8,y9,eO,eU,e2⟩:=p2 (U (Z (XZ r))) a7 a8 a9 Xw Xv;refine⟨y6,y7,y8,y9,eO,eU, ?_⟩;rw[Gax];simp only[XS,gN,GaG,GaH,Option.bind_some,e1];exact e2
  .obtain⟨a8,a9,e1⟩:=q1 x8 x9;obtain⟨y5,y6,y7,y8,y9,e2⟩:=q2 (U (Z (E r.1))) (U (Z (E r.2.1))) (U (Z (E r.2.2))) a8 a9;refine⟨y5,y6,y7,y8,y9, ?_⟩;rw[Gax];have et:XZ r= N [E r.1,E r.2.1,E r.2.2]:=rfl;rw[et];simp only[XS,gT,gNs,GaG,GaH,Option.bind_some,e1];exact e2
theorem TOk.imm{d:D}(h:TOk d):d.imm=O:=by obtain⟨a,b,c,rfl⟩:=h;simp
theorem HOk.imm{d:D}(h:HOk d):d.imm=O:=by
 obtain⟨a,b,fs,rfl,_⟩:=h;have:=bW fs;simp[this]
def Qm{H:List D}(eo:fI [wd,bk,E h]=U (Q R))(e:XS (gN 6) d7 R [U (Z wd),U (Z bk),U (Z (E h)),U (Y (Q [])),U (Y (Q [])),U (Z bk),J,J,J,J,J,J]=U (P [U (Z wd),U (Z bk),U (Z (E h)),U (Y (Q T)),U (Y (Q H)),U (Z b'),y6,y7,y8,y9,eO,eU]))(it:aB T=O)(ih:aB H=O):iD [wd,bk,E h]=U (N [Yy T,Yy H]):=by
 refine aN rfl ?_;refine(ae (by simp;rfl)).trans ?_;refine(ae (by simp;rfl)).trans ?_;refine(ae (e:=[U (Z wd),U (Z bk),U (Z (E h)),U (Y (Q [])),U (Y (Q [])),U (Z bk),J,J,J,J,J,J]) (by simp)).trans ?_;refine(ae (by simp[eo,e];rfl)).trans ?_;simp[it,ih,af]
def Qn{H:List D}(eo:cX [wd,bk,E h,X "open"]=U (Q R))(e:XS (gT [5,6,7]) cn R [U (Z wd),U (Z bk),U (Z (E h)),U (Y (Q [])),U (Y (Q [])),J,J,J,J,J]=U (P [U (Z wd),U (Z b'),U (Z (E h)),U (Y (Q T)),U (Y (Q H)),y5,y6,y7,y8,y9]))(it:aB T=O)(ih:aB H=O):gH [wd,bk,E h]=U (N [Yy T,Yy H]):=by
 refine aN rfl ?_;refine(ae (by simp;rfl)).trans ?_;refine(ae (by simp;rfl)).trans ?_;refine(ae (by simp[eo,e];rfl)).trans ?_;simp[it,ih,af]
def JX{w:World}(W:aL w)(h4:w.XN.length<=4)(hc:∀s∈w.au,s.az.length<=2)(hr:∀o∈w.XN,kI o)(B:oE w 9 ws gv):∃T H,(∀d∈T,TOk d)/\(∀d∈H,HOk d)/\T.length<=4/\H.length<=4/\iD [aH w,bkD ws gv,E h]=U (N [Yy T,Yy H])/\gH [aH w,bkD ws gv,E h]=U (N [Yy T,Yy H]):=by
 have gl:=B.gl;obtain⟨rs,pm,o1,o2⟩:=Gq W h4 (gv:=gv) (hour:=h) (by lia);have du:=λo ho=>(W.oo o ho).du;have ln:=kJ w.XN gv h w.XN.length;have rl:rs.length<=4:=by rw[pm.length_eq];lia
 have ok:=λr q=>(kK du _ r (pm.mem_iff.mp q)).2;have nd:=((pm.map λr:Tr=>r.2.1).nodup_iff).mpr (sC du w.XN.length);obtain⟨gv',T,H,I,p,q⟩:=sE W hc hr rs gv [] [] 0 ⟨B,λ_ z=>(by cases z),λ_ z=>(by cases z),(by simp),(by simp)⟩ (by lia) ok nd;obtain⟨y6,y7,y8,y9,eO,eU,ep⟩:=p J J J J J J;obtain⟨z5,z6,z7,z8,z9,eq⟩:=q J J J J J;have it:=iR λd hd=>(I.t d hd).imm;have ih:=iR λd hd=>(I.h d hd).imm;have tl:=I.tl;have hl:=I.hl;exact⟨T,H,I.t,I.h,by lia,by lia,Qm o1 ep it ih,Qn o2 eq it ih⟩
def l7(n:Nat)(i:Int):aD (n+1) [E i,E i]=U (Yx O):=by
 unfold aD c6;simp
def Gs(n:Nat)(x:Str):aD (n+1) [X x,X x]=U (Yx O):=by
 unfold aD c6;simp
def sF{ds:List D}(ha:∀k:Nat,ixD a (E (k:Int))=ds[k]?)(h:∀d∈ds,aD n [d,d]=U (Yx O)):∀(XM:Nat) (hM:XM<=ds.length) (x0:Os),
  cO (gN 0) fM (aq (aD n) (aa (Yb (vE 1) (vE 0)) (aa (Yb (vE 2) (vE 0)) ag))) (aG 0 XM) [x0,U (Z a),U (Z a)]=U ((List.replicate XM O).map Yx):=by
 intro XM hM x0;have c:=dW (g:=gN 0) (f:=aq (aD n) (aa (Yb (vE 1) (vE 0)) (aa (Yb (vE 2) (vE 0)) ag))) (λk:Nat=>E ((0:Int)+(k:Int))) (λenv=>∃y,env=[y,U (Z a),U (Z a)]) (λ_=> Yx O) (List.range XM) [x0,U (Z a),U (Z a)] ⟨x0,rfl⟩ (by
  rintro k hk env ⟨y,rfl⟩;have xu :=GaS.mp hk;have hd:ixD a (E (0+(k:Int)))=U (ds[k]'(by lia)):=by
   simp_all
  have hh:=h (ds[k]'(by lia)) (GaB _);generalize (0:Int)+(k:Int)=kk at*;exact⟨_,rfl,⟨_,rfl⟩,.c,by simp[hd,hh],rfl⟩)
 unfold aG;rw[c];congr 1;rw[List.map_replicate];exact(List.eq_replicate_iff.mpr ⟨by simp,by simp⟩)
def sG{L:Int}(hL:cA [N ds]=U ⟨.c,E L⟩)(s:aW L=O)(z:(aG 0 L.toNat).length<=16777216)
  (c:cO (gN 0) fM (aq (aD n) (aa (Yb (vE 1) (vE 0)) (aa (Yb (vE 2) (vE 0)) ag))) (aG 0 L.toNat) [J,U (Z (N ds)),U (Z (N ds))]=U bl)(al:Bt [Q bl]=U ⟨.c,Yx O⟩):aD (n+1) [N ds,N ds]=U (Yx O):=by
 show bw 2 2 (c6 (aD n)) _=_;refine aN rfl ?_;unfold c6;refine vZ ?_;refine(PL (by simp)).trans ?_;refine(ae (e:=[U (Z (N ds)),U (Z (N ds))]) (by simp)).trans ?_;refine(ae (e:=[U (Z (N ds)),U (Z (N ds))]) (by simp)).trans ?_;refine(ae (by simp[-wM,hL];rfl)).trans ?_;simp[-wM,hL,s,z,af,DL.XT,df,c,al]
def l8{ds:List D}(hl:ds.length<=1000)(h:∀d∈ds,aD n [d,d]=U (Yx O)):aD (n+1) [N ds,N ds]=U (Yx O):=by
 have c:=sF (a:= N ds) (λk=>by show atD ds (k:Int)=_;exact bO) h ds.length (Gao _) J;have e:(ds.length:Int).toNat=ds.length:=by lia
 have al:=AI (List.replicate ds.length O);have al2:(List.replicate ds.length O).all id=O:=by simp
 rw[al2] at al;refine sG rfl (b8) (by rw[e,bV];lia) ?_ al;exact c
def sZ{L:Int}(hL:cA [Yy ds]=U ⟨.c,E L⟩)(s:aW L=O)(z:(aG 0 L.toNat).length<=16777216)
  (c:cO (gN 0) fM (aq (aD n) (aa (Yb (vE 1) (vE 0)) (aa (Yb (vE 2) (vE 0)) ag))) (aG 0 L.toNat) [J,U (Z (Yy ds)),U (Z (Yy ds))]=U bl)(al:Bt [Q bl]=U ⟨.c,Yx O⟩):aD (n+1) [Yy ds,Yy ds]=U (Yx O):=by
 show bw 2 2 (c6 (aD n)) _=_;refine aN rfl ?_;unfold c6;refine vZ ?_;refine(PL (by simp)).trans ?_;refine(ae (e:=[U (Z (Yy ds)),U (Z (Yy ds))]) (by simp)).trans ?_;refine(ae (e:=[U (Z (Yy ds)),U (Z (Yy ds))]) (by simp)).trans ?_;refine(ae (by simp[-CM,hL];rfl)).trans ?_;simp[-CM,hL,s,z,af,DL.XT,df,c,al]
def sI{ds:List D}(hl:ds.length<=1000)(h:∀d∈ds,aD n [d,d]=U (Yx O)):aD (n+1) [Yy ds,Yy ds]=U (Yx O):=by
 have c:=sF (a:= Yy ds) (λk=>by show atD ds (k:Int)=_;exact bO) h ds.length (Gao _) J;have e:(ds.length:Int).toNat=ds.length:=by lia
 have al:=AI (List.replicate ds.length O);have al2:(List.replicate ds.length O).all id=O:=by simp
 rw[al2] at al;refine sZ rfl (b8) (by rw[e,bV];lia) ?_ al;exact c
def Gu(hl:f.2.length<=100):aD 2 [ai f,ai f]=U (Yx O):=by
 refine l8 (by simp;lia) λd hd=> ?_;rcases Gat.mp hd with rfl|hd
 .exact Gs 0 _
 .obtain⟨i,_,rfl⟩:=Gas.mp hd;exact l7 0 i
def MC(h:TOk d):aD 4 [d,d]=U (Yx O):=by
 obtain⟨a,b,c,rfl⟩:=h;refine l8 (by simp) λd hd=> ?_;simp at hd;rcases hd with rfl|rfl|rfl<;>exact l7 2 _
def MD(h:HOk d):aD 4 [d,d]=U (Yx O):=by
 obtain⟨a,b,fs,rfl,hl,sm⟩:=h;refine l8 (by simp) λd hd=> ?_;simp only[Gat,GbF,Gdk] at hd;rcases hd with rfl|rfl|rfl
 .exact l7 2 _
 .exact l7 2 _
 .refine sI (by rw[Gae];lia) λd hd=> ?_;obtain⟨f,hf,rfl⟩:=Gas.mp hd;exact Gu (sm f hf)
def ME{T H:List D}(hT:∀d∈T,TOk d)(hH:∀d∈H,HOk d)(tl:T.length<=4)(hl:H.length<=4):ja [N [Yy T,Yy H],N [Yy T,Yy H]]=U (Yx O):=by
 refine l8 (by simp) λd hd=> ?_;simp only[Gat,GbF,Gdk] at hd;rcases hd with rfl|rfl
 .exact sI (by lia) λd hd=>MC (hT d hd)
 .exact sI (by lia) λd hd=>MD (hH d hd)
def T7{ns:List Int}{bk rd:D}(w3:ixD wd (E 3)=U (N XJ))(m5:aT 5 j=O)(ef:d8 [.scr ns]=U (E far))(hl:cA [N XJ]=U ⟨.c,E lo⟩)(lp:0<lo)(e0:ah [.scr ns,E (2000+5*j)]=U (E (mx ns (2000+5*j))))(hn:mx ns (2000+5*j)%lo=n)(hO:atD XJ n=U od)(hh:dI [.scr ns,E (2001+5*j),od,E far]=U (E h))
  (ep:iD [wd,bk,E h]=U rd)(el:gH [wd,bk,E h]=U rd)(al:ja [rd,rd]=U (Yx O)):
  AG [U (Z (.scr ns)),U (Z wd),U (Z bk),U (Z (E j)),x4,x5]=U (P [U (Z (.scr ns)),U (Z wd),U (Z bk),U (Z (E j)),U (Z od),U (Z (E h))]):=by
 refine(ae (by simp[w3,m5,e0,hl,lp,hn,hO];rfl)).trans ?_;refine(ae (by simp[m5,ef,hh];rfl)).trans ?_;have WB :(ju rd).d=rd:=rfl;simp[ep,el,WB,al]
def JY(ns:List Int)(zA:ns.length<=63):uA [.scr ns]=U (Yx O):=by
 obtain⟨far,w,hf,W,h4,hc,hm,hr,ef,ew⟩:=JK ns;obtain⟨ws,gv,B,eb⟩:=Mn W hc hm hf ef;obtain⟨e,h1,y3,y4,y5,rfl⟩:=cD (g:=gN 3) (λ_ env=>∃(y3 y4 y5:Os),env=[U (Z (.scr ns)),U (Z (aH w)),U (Z (bkD ws gv)),y3,y4,y5]) (aG 0 4) 0
  [U (Z (.scr ns)),U (Z (aH w)),U (Z (bkD ws gv)),J,J,J] ⟨_,_,_,rfl⟩ (by
   rintro i d env hd ⟨y3,y4,y5,rfl⟩;obtain⟨hi,rfl⟩:=b9 hd;have j0:0<=0+(i:Int):=by lia
   have j1:0+(i:Int)<4:=by lia
   generalize 0+(i:Int)=j at*;have m5:aT 5 j=O:=bq;have e0:=aP ns (2000+5*j);obtain⟨lo,n,hl,lp,hn,n0,n1⟩:=su W (mx ns (2000+5*j));obtain⟨o,s,g,o1,o2,o3,so,ok,oa,sa,_⟩:=cY W n0 n1;obtain⟨h,hh⟩:=Eg (ns:=ns) (k:=2001+5*j) (far:=far) (o:=o) (by lia) (by lia) hf ok.du;obtain⟨T,H,hT,hH,tl,yz,ep,el⟩:=JX W h4 hc hr (h:=h) B;exact⟨_,_,rfl,T7 rfl m5 ef hl lp e0 hn oa hh ep el (ME hT hH tl yz),_,_,_,rfl⟩)
 have s4:aW 4=O:=rfl;have rw_:ju (aH w)=⟨.c,aH w⟩:=by
  have g1:=fX rN w.bN;have g2:=fX gk w.au;have g3:=bK w.br;have g4:aB (w.XN.map ao)=O:=iR λd hd=>by
   obtain⟨o,ho,rfl⟩:=Gas.mp hd;exact cE o (W.oo o ho).ti
  simp[aH,g1,g2,g3,g4]
 have rb:=aV (JW ws gv);generalize bkD ws gv=bk at*;generalize aH w=wd at*;refine aN rfl ?_;refine(ae (e:=[U (Z (.scr ns)),U (Z wd),J,J,J,J]) (by simp[ew,rw_])).trans ?_;refine(ae (e:=[U (Z (.scr ns)),U (Z wd),U (Z bk),J,J,J]) (by simp[eb,rb])).trans ?_;refine(ae (e:=[U (Z (.scr ns)),U (Z wd),U (Z bk),y3,y4,y5]) (by simp[-XS,s4,h1,freed])).trans ?_;simp
end Maths
seal L2.PE L2.PT L2.PW L2.PA L2.PS L2.PSs L2.PG L2.PGs L2.PI
namespace Der
open PySem PySem.Spec PyProof.Rows L2 DL Den
noncomputable abbrev top:=Hd.top
abbrev iS:Yl:=top 23
abbrev nS:Yl:=top 61
def fc{us:List Ye}(h:us.length=n+1):∃a t,us=a::t/\t.length=n:=by
 cases us with
 |nil=>cases h
 |cons a t=>exact⟨a,t,rfl,Nat.succ.inj h⟩
def all1{K:PySem.W.Frag}{fd:Yo}{p0:Str}(h:∀v0,bindArgs fd ⟨[v0],[]⟩=pure ([p0].zip [v0])):Binds K fd [p0] []:= .all λus hl=>by
 obtain⟨v0,t0,rfl,hZ⟩:=fc hl;cases Gbo.mp hZ;exact h v0
def all2{K:PySem.W.Frag}{fd:Yo}{p0:Str}(h:∀v0 v1,bindArgs fd ⟨[v0,v1],[]⟩=pure ([p0,p1].zip [v0,v1])):Binds K fd [p0,p1] []:= .all λus hl=>by
 obtain⟨v0,t0,rfl,h0⟩:=fc hl;obtain⟨v1,t1,rfl,hZ⟩:=fc h0;cases Gbo.mp hZ;exact h v0 v1
def t8{K:PySem.W.Frag}{fd:Yo}{p0:Str}(h:∀v0 v1 v2,bindArgs fd ⟨[v0,v1,v2],[]⟩=pure ([p0,p1,p2].zip [v0,v1,v2])):Binds K fd [p0,p1,p2] []:= .all λus hl=>by
 obtain⟨v0,t0,rfl,h0⟩:=fc hl;obtain⟨v1,t1,rfl,h1⟩:=fc h0;obtain⟨v2,t2,rfl,hZ⟩:=fc h1;cases Gbo.mp hZ;exact h v0 v1 v2
def t9{K:PySem.W.Frag}{fd:Yo}{p0:Str}(h:∀v0 v1 v2 v3,bindArgs fd ⟨[v0,v1,v2,v3],[]⟩=pure ([p0,p1,p2,p3].zip [v0,v1,v2,v3])):Binds K fd [p0,p1,p2,p3] []:= .all λus hl=>by
 obtain⟨v0,t0,rfl,h0⟩:=fc hl;obtain⟨v1,t1,rfl,h1⟩:=fc h0;obtain⟨v2,t2,rfl,h2⟩:=fc h1;obtain⟨v3,t3,rfl,hZ⟩:=fc h2;cases Gbo.mp hZ;exact h v0 v1 v2 v3
def Gv{K:PySem.W.Frag}{fd:Yo}{p0:Str}(h:∀v0 v1 v2 v3 v4,bindArgs fd ⟨[v0,v1,v2,v3,v4],[]⟩=pure ([p0,p1,p2,p3,p4].zip [v0,v1,v2,v3,v4])):Binds K fd [p0,p1,p2,p3,p4] []:= .all λus hl=>by
 obtain⟨v0,t0,rfl,h0⟩:=fc hl;obtain⟨v1,t1,rfl,h1⟩:=fc h0;obtain⟨v2,t2,rfl,h2⟩:=fc h1;obtain⟨v3,t3,rfl,h3⟩:=fc h2;obtain⟨v4,t4,rfl,hZ⟩:=fc h3;cases Gbo.mp hZ;exact h v0 v1 v2 v3 v4
def Ux{K:PySem.W.Frag}{fd:Yo}{p0:Str}(h:∀v0 v1 v2 v3 v4 v5,bindArgs fd ⟨[v0,v1,v2,v3,v4,v5],[]⟩=pure ([p0,p1,p2,p3,p4,p5].zip [v0,v1,v2,v3,v4,v5])):Binds K fd [p0,p1,p2,p3,p4,p5] []:= .all λus hl=>by
 obtain⟨v0,t0,rfl,h0⟩:=fc hl;obtain⟨v1,t1,rfl,h1⟩:=fc h0;obtain⟨v2,t2,rfl,h2⟩:=fc h1;obtain⟨v3,t3,rfl,h3⟩:=fc h2;obtain⟨v4,t4,rfl,h4⟩:=fc h3;obtain⟨v5,t5,rfl,hZ⟩:=fc h4;cases Gbo.mp hZ;exact h v0 v1 v2 v3 v4 v5
section
variable{Pm:Yq}{mg:Str->Option Ye}
def Txt(Pm:Yq)(mg:Str->Option Ye):Prop:=∃h:Yi,(Hd.K Pm).In h/\h.Ns mainGlobals mg
def Txt.at(T:Txt Pm mg)(e:PySem.W.nsIn (Hd.K Pm) mainGlobals n=U (U v):=by kernel_rfl):mg n=U v:=let⟨_,X,G⟩:=T;PySem.W.mg_of X G e
def Txt.no(T:Txt Pm mg)(e:PySem.W.nsIn (Hd.K Pm) mainGlobals n=U J:=by kernel_rfl):mg n=J:=let⟨_,X,G⟩:=T;PySem.W.mg_none_of X G e
variable{st:Yl}
def mkF{x:Str}{f:Yd}{pm cd:Ye}(l:(Hd.K Pm).lookup f=U (Hd.fo (PySem.W.fnOf x x (kM st) (gy st) (aY st) .none .none .none pm J cd .none)):=by kernel_rfl)(c:PySem.W.codeIn (Hd.K Pm) cd x=O:=by kernel_rfl)(k:PySem.W.keepIn (Hd.K Pm) (.ref f)=O:=by kernel_rfl):Fun (Hd.K Pm) x x st f (PySem.W.fnOf x x (kM st) (gy st) (aY st) .none .none .none pm J cd .none):=NU l c k
noncomputable abbrev bls:List Str:=["all","any","bool","enumerate","int","isinstance","len","list","max","min","range","set","sorted","str","tuple"]
def noB(T:Txt Pm mg):∀x∈bls,mg x=J:=by
 simp only[GdS];exact⟨T.no,T.no,T.no,T.no,T.no,T.no,T.no,T.no,T.no,T.no,T.no,T.no,T.no,T.no,T.no,λ_ h=>nomatch h⟩
variable{P:Yn}{w:World}{base:Yi}
abbrev Kn(P:Yn)(w:World)(Pm:Yq)(mg:Str->Option Ye)(base:Yi)(tab:List En):Prop:=∀e∈tab,SE P w (Hd.K Pm) mg base e
def ad(T:Txt Pm mg)(h:Kn P w Pm mg base tab)(x:Str)(i fa:Nat)(fd:Yo)(k np:Nat)(ps lo:List Str)(sp:SpF)(B:Binds (Hd.K Pm) fd ps [])(fz:List Str:=[])(yy:Bool:=M)(F:Fun (Hd.K Pm) x x (top i) fa fd:=by exact mkF)(S:gP (ps++lo) ps (aY (top i)):=by exact Lw)(zQ:autoParam (ps.length=np) Za1._auto_1)(hs:autoParam (sp=bw (ps++lo).length np b) Za1._auto_1)
  (hc:(J3 60 ⟨ps++lo,λx=>(aY (top i)).names.lookup x,SF tab k,bls,O,yy,fz⟩).B (gy (top i))=U b:=by kernel_rfl)(hm:PySem.W.nsIn (Hd.K Pm) mainGlobals x=U (U (.ref fa)):=by kernel_rfl):Kn P w Pm mg base (⟨x,k+1,np,sp⟩::tab):=GdS.mpr ⟨⟨fa,fd,ps,by subst hs;exact vS F S zQ (DB h) (noB T) hc,T.at hm,F.kp,B⟩,h⟩
def ad0{tab:List En}{x:Str}{fa k np:Nat}{fd:Yo}{ps:List Str}{sp:SpF}(h:Kn P w Pm mg base tab)(XJ:jq P w (Hd.K Pm) mg base CX0 k fa fd ps (spD (Hd.K Pm) np sp))(B:Binds (Hd.K Pm) fd ps [])(F:Fun (Hd.K Pm) x x st fa fd)(hm:mg x=U (.ref fa)):Kn P w Pm mg base (⟨x,k,np,sp⟩::tab):=GdS.mpr ⟨⟨fa,fd,ps,XJ,hm,F.kp,B⟩,h⟩
def jd:Fun (Hd.K Pm) "marks_by_target" "marks_by_target" iS 118 Hd.de:=mkF
def dg:Binds (Hd.K Pm) Hd.de ["world","givings"] []:=all2 λ_ _=>rfl
def iT:gP ["world","givings","found","giving","order"] ["world","givings"] (aY iS):=Lw
def mN(T:Txt Pm mg):jq P w (Hd.K Pm) mg base CX0 1 118 Hd.de ["world","givings"] (spD (Hd.K Pm) 2 cB):=by
 refine Hz jd iT rfl λxh A outer s H E hr=> ?_;have sc:=iT;have hu:=Rp hr;refine pU 0 _ λv0=>pU 1 _ λv1=>pU 3 _ λv3=>pU 4 _ λv4=>L3 2 "found" λl2=> ?_;exact(FC (i:=2) sc.nd rfl l2 (by first|exact Or.inl rfl|exact Or.inr (Or.inl rfl)|exact Or.inr (Or.inr rfl)) (Pl (i:=2) (j:=3) PassesOwn.never rfl (v1 _) sc.nd rfl (by first|exact Or.inl rfl|exact Or.inr rfl) (by decide) (IC (Pj (i:=2) (j:=4) sc.nd rfl (by first|exact Or.inl rfl|exact Or.inr rfl) (by decide) (oT (oT (v0 _) lW) (oT (v3 _) lW)))
 (Lv (Pk (i:=2) hu rfl (by first|exact Or.inl rfl|exact Or.inr (Or.inl rfl)|exact Or.inr (Or.inr rfl)) (Bv (cL (oT (v4 _) lW) (cL (oT (v4 _) lW) gI))) (Bv (cL (oT (v3 _) lW) (cL (oT (v3 _) lW) gI))))))))
def je:Fun (Hd.K Pm) "_law_alike" "_law_alike" nS 356 Hd.iY:=mkF
def c6:Binds (Hd.K Pm) Hd.iY ["_law_found","_law_due_here"] []:=all2 λ_ _=>rfl
def nT:gP ["_law_found","_law_due_here"] ["_law_found","_law_due_here"] (aY nS):=Lw
theorem lU(T:Txt Pm mg):∀n,jq P w (Hd.K Pm) mg base CX0 (n+1) 356 Hd.iY ["_law_found","_law_due_here"] (spD (Hd.K Pm) 2 (aD n))
 |0=>Hz je nT rfl λxh A outer s H E hr=>Fu
 |n+1=>vS (fns:=λy=>if y==("_law_alike":Str) then U (2,aD n) else J) (yy:=M) (fz:=[]) je nT rfl (λy np sp h=>by
   split at h
   .rename_i q;cases h;have q:=Gbw.mp q;subst q;exact⟨_,_,_,_,lU T n,Gao _,T.at,je.kp,c6⟩
   .cases h) (noB T) (by kernel_rfl)
def Qo(T:Txt Pm mg):jq P w (Hd.K Pm) mg base CX0 8 363 Hd.MJ ["_law_script"] (spD (Hd.K Pm) 1 uA):=by
 have h:Kn P w Pm mg base []:=λ_ h=>nomatch h;have h:=ad T h "laid_in" 1 21 Hd.tN 0 2 ["rows","row"] [] kU (all2 λ_ _=>rfl) [] O;have h:=ad T h "with_giving" 2 28 Hd.lA 1 4 ["book","order","hour","amount"] [] cZ (t9 λ_ _ _ _=>rfl);have h:=ad T h "givings_of" 3 33 Hd.mR 0 2 ["book","order"] [] gS (all2 λ_ _=>rfl);have h:=ad T h "rounded" 5 40 Hd.tP 0 4 ["top","bottom","part","way"] ["step","many","rest"] jG (t9 λ_ _ _ _=>rfl);have h:=ad T h "dose" 7 47 Hd.He 1 5 ["rule","weight","num","den","part"] ["way","top","per","most","found"] rG (Gv λ_ _ _ _ _=>rfl);have h:=ad T h "span" 9 54 Hd.Hg 0 2 ["order","k"] ["dues","hour"] vT (all2 λ_ _=>rfl);have h:=ad T h "due_of" 10 61 Hd.wI 0 2 ["order","hour"] ["dues","behind","k"] iB (all2 λ_ _=>rfl);have h:=ad T h "astray" 11 68 Hd.wJ 1 2 ["order","hour"] ["dues"] kx (all2 λ_ _=>rfl);have h:=ad T h "state" 12 73 Hd.CH 1 4 ["order","hours","k","hour"] ["ends"] q9 (t9 λ_ _ _ _=>rfl);have h:=ad T h "taper_of" 13 80 Hd.qj 0 2 ["order","k"] ["found","taper"] jS (all2 λ_ _=>rfl);have h:=ad T h "bound" 15 87 Hd.CI 0 2 ["cap","weight"] [] j6 (all2 λ_ _=>rfl);have h:=ad T h "weight_at" 17 94 Hd.oK 0 3 ["weights","guest","hour"] ["found","row"] dA (t8 λ_ _ _=>rfl);have h:=ad T h "sums" 19 101 Hd.Hh 0 2 ["marks","hours"] ["rows","found","total","gone","k","row"] jT (all2 λ_ _=>rfl);have h:=ad T h "goes_by_weight" 21 106 Hd.jr 0 1 ["stuff"] [] dR (all1 λ_=>rfl);have h:=ad T h "lone_faults" 22 111 Hd.lB 2 3 ["world","weights","giving"] ["number","hour","amount","order","stuff","kinds"] f7 (t8 λ_ _ _=>rfl);have h:=ad0 h (mN T) dg jd T.at;have h:=ad T h "cap_faults" 24 125 Hd.mS 1 3 ["world","weights","givings"] ["found","target","marks","guest","k","cap","hours","row","top"] fQ (t8 λ_ _ _=>rfl);have h:=ad T h "gaps_by_stuffs" 25 132 Hd.jt 0 1 ["bars"] ["gaps","bar"] dS (all1 λ_=>rfl);have h:=ad T h "gap_between" 26 139 Hd.lC 0 3 ["gaps","order","other"] [] gB (t8 λ_ _ _=>rfl);have h:=ad T h "gap_faults" 27 144 Hd.mT 1 2 ["world","givings"] ["gaps","widest","rows","found","k","row","later","apart"] fR (all2 λ_ _=>rfl);have h:=ad T h "twice_faults" 28 149 Hd.kl 1 2 ["world","givings"] ["counts","giving","k"] dB (all2 λ_ _=>rfl);have h:=ad T h "faults" 29 156 Hd.wK 3 2 ["world","book"] ["weights","givings","found","giving"] jI (all2 λ_ _=>rfl);have h:=ad T h "due_numbers" 31 163 Hd.lD 0 1 ["order"] ["dues"] d6 (all1 λ_=>rfl);have h:=ad T h "giving_hours" 32 168 Hd.km 1 2 ["book","number"] [] dC (all2 λ_ _=>rfl);have h:=ad T h "dues_in" 33 175 Hd.tQ 2 4 ["world","book","hour","wanted"] ["found","number","order","hours","k"] ou (t9 λ_ _ _ _=>rfl);have h:=ad T h "open_dues" 34 182 Hd.oM 3 3 ["world","book","hour"] [] fI (t8 λ_ _ _=>rfl);have h:=ad T h "dose_at" 35 189 Hd.tR 2 5 ["world","book","number","k","hour"] ["order","rule","weight","taper"] gZ (Gv λ_ _ _ _ _=>rfl);have h:=ad T h "round_at" 36 196 Hd.qk 4 3 ["world","book","hour"] ["takes","helds","taken","due","number","k","amount","tried","found"] iD (t8 λ_ _ _=>rfl) ["takes","helds","found"] M;have h:=ad T h "_law_mixed" 38 203 Hd.oN 0 2 ["_law_script","_law_k"] ["_law_cell","_law_v"] ah (all2 λ_ _=>rfl);have h:=ad T h "_law_far" 39 210 Hd.tU 1 1 ["_law_script"] [] d8 (all1 λ_=>rfl);have h:=ad T h "_law_cap" 40 217 Hd.tW 1 4 ["_law_script","_law_k","_law_part","_law_far_here"] ["_law_hours","_law_kind"] i0 (t9 λ_ _ _ _=>rfl);have h:=ad T h "_law_stuff" 41 224 Hd.oO 2 4 ["_law_script","_law_k","_law_name","_law_far_here"] ["_law_part","_law_sizes","_law_j","_law_caps_here","_law_young"] j7 (t9 λ_ _ _ _=>rfl);have h:=ad T h "_law_dues" 42 231 Hd.ql 1 3 ["_law_script","_law_k","_law_far_here"] ["_law_every","_law_early","_law_late","_law_begin"] iE (t8 λ_ _ _=>rfl);have h:=ad T h "_law_order" 43 238 Hd.oP 2 6 ["_law_script","_law_k","_law_name","_law_guests","_law_stuffs","_law_far_here"] ["_law_stuff_here","_law_part","_law_most_here","_law_per","_law_top","_law_rule","_law_dues_here","_law_tapers","_law_at","_law_j","_law_den"] j8 (Ux λ_ _ _ _ _ _=>rfl);have h:=ad T h "_law_world" 44 245 Hd.oQ 3 1 ["_law_script"] ["_law_far_here","_law_names","_law_guests","_law_k","_law_stuffs","_law_bars","_law_x","_law_y","_law_gap","_law_orders"] j9 (all1 λ_=>rfl);have h:=ad T h "_law_hour" 45 252 Hd.qm 1 4 ["_law_script","_law_k","_law_order_here","_law_far_here"] ["_law_dues_here","_law_by","_law_hour_here"] dI (t9 λ_ _ _ _=>rfl);have h:=ad T h "_law_spots" 46 257 Hd.oR 0 1 ["_law_rows"] [] dJ (all1 λ_=>rfl);have h:=ad T h "_law_weight" 47 264 Hd.mU 0 3 ["_law_weights","_law_guest","_law_hour_here"] ["_law_found","_law_weighing"] cS (t8 λ_ _ _=>rfl);have h:=ad T h "_law_due" 48 271 Hd.tX 0 2 ["_law_order_here","_law_hour_here"] ["_law_k","_law_at"] jJ (all2 λ_ _=>rfl);have h:=ad T h "_law_most" 49 278 Hd.qo 0 2 ["_law_cap_here","_law_weight_here"] [] dK (all2 λ_ _=>rfl);have h:=ad T h "_law_caps" 50 285 Hd.qp 1 5 ["_law_world_here","_law_book_here","_law_guest","_law_stuff_here","_law_hour_here"] ["_law_found","_law_k","_law_cap_here","_law_total","_law_order_here","_law_at","_law_amount","_law_most_here"] iG (Gv λ_ _ _ _ _=>rfl);have h:=ad T h "_law_near" 51 292 Hd.qq 0 4 ["_law_world_here","_law_book_here","_law_order_here","_law_hour_here"] ["_law_found","_law_one","_law_other","_law_later","_law_told","_law_pair","_law_bar"] iH (t9 λ_ _ _ _=>rfl);have h:=ad T h "_law_own" 52 297 Hd.tY 1 5 ["_law_world_here","_law_book_here","_law_order_here","_law_hour_here","_law_amount"] ["_law_told","_law_stuff_here","_law_k","_law_found","_law_same"] kX (Gv λ_ _ _ _ _=>rfl);have h:=ad T h "_law_faults" 53 304 Hd.mV 2 2 ["_law_world_here","_law_book_here"] ["_law_found","_law_order_here","_law_hour_here","_law_amount"] bA (all2 λ_ _=>rfl);have h:=ad T h "_law_with" 54 311 Hd.qr 0 4 ["_law_book_here","_law_order_here","_law_hour_here","_law_amount"] [] cj (t9 λ_ _ _ _=>rfl) [] O;have h:=ad T h "_law_book" 55 318 Hd.qt 3 3 ["_law_script","_law_world_here","_law_many_here"] ["_law_far_here","_law_book_here","_law_j","_law_at","_law_order_here","_law_told","_law_hour_here","_law_part","_law_amount","_law_other","_law_weighing"] mF (t8 λ_ _ _=>rfl) [] O;have h:=ad T h "_law_many" 56 325 Hd.qu 0 1 ["_law_order_here"] [] gf (all1 λ_=>rfl);have h:=ad T h "_law_dues_that" 57 330 Hd.jY 1 4 ["_law_world_here","_law_book_here","_law_hour_here","_law_wanted"] ["_law_found","_law_order_here","_law_dues_here","_law_hours","_law_k","_law_at","_law_word"] cX (t9 λ_ _ _ _=>rfl);have h:=ad T h "_law_dose" 58 337 Hd.qv 0 5 ["_law_rule","_law_weight_here","_law_num","_law_den","_law_part"] ["_law_top","_law_bottom","_law_found","_law_rest"] iI (Gv λ_ _ _ _ _=>rfl);have h:=ad T h "_law_planned" 59 344 Hd.lE 1 5 ["_law_world_here","_law_book_here","_law_order_here","_law_k","_law_hour_here"] ["_law_told","_law_weight_here","_law_taper","_law_each"] cG (Gv λ_ _ _ _ _=>rfl);have h:=ad T h "_law_round" 60 351 Hd.oS 3 3 ["_law_world_here","_law_book_here","_law_hour_here"] ["_law_takes","_law_helds","_law_at","_law_order_here","_law_k","_law_amount","_law_broken"] gH (t8 λ_ _ _=>rfl) ["_law_takes","_law_helds","_law_broken"] M;have h:=ad0 h (show jq _ _ _ _ _ _ _ _ _ _ (spD _ _ ja) from lU T 6) c6 je T.at;exact vS (yy:=M) (fz:=[]) (N:=["_law_script","_law_world_here","_law_book_here","_law_j","_law_order_here","_law_hour_here"]) mkF Lw rfl (DB h) (noB T) (by kernel_rfl)
end
def all_mk{l:PySem.W.OpenLaw}{w:World}{h:Yi}(X:(Hd.K w.params).In h)(G:h.Ns mainGlobals mg)(Xa:mg "law"=U (.ref fa)):
  ∃fd,(∀s v,BindsTo s fd ⟨[v],[]⟩ [("_law_script",v)])/\∀base,(Hd.K w.params).In base->base.Ns mainGlobals mg->jq l.prog w (Hd.K w.params) mg base CX0 8 fa fd ["_law_script"] (spD (Hd.K w.params) 1 uA):=by
 have T:Txt w.params mg:=⟨h,X,G⟩
 have e:=Xa.symm.trans (T.at:mg "law"=U (.ref 363));cases e;exact⟨_,λs v=> .of_eq rfl,λbase _ _=>Qo T⟩
def walk{l:PySem.W.OpenLaw}{YP:World->Yi->Prop}{d:DefRec}{K:Yq->PySem.W.Frag}(hn:l.most=U 63)(zX:d.params.defaults=[])
  (hY:∀w h,YP w h->(K w.params).In h)(zF:∀ns,ns.length<=63->uA [.scr ns]=U (.bl O))
  (F:∀w mg fa h,(K w.params).In h->h.Ns mainGlobals mg->mg d.name=U (.ref fa)->
   ∃fd,(∀s u,BindsTo s fd ⟨[u],[]⟩ [("_law_script",u)])/\∀base,(K w.params).In base->base.Ns mainGlobals mg->jq l.prog w (K w.params) mg base CX0 8 fa fd ["_law_script"] (spD (K w.params) 1 uA)):
  PySem.W.WalkO q loose XP YP l.row.toRowW d [] (λf vs=>PySem.call f vs):=
 L2.Kv (n:=63) (k:=8) (x:="_law_script") (CX:=λ_=>CX0) (sp:=λw=>spD (K w.params) 1 uA) hn (by decide) zX ⟨rfl,by decide,by decide⟩ hY F (λ_ _ a ns hl hO hS=>OC hO hS (zF ns hl)) λ_ _ _ _ _ z=>z
end Der
open PySem PySem.W PyProof.Rows
theorem PySem.Challenge.cw_dosehouse_k62_a_round_holds : PySem.Challenge.rw_dosehouse_k62_a_round.Holds := by
 exact Hd.close λd h1 h2=>Der.walk (l:=PySem.Challenge.rw_dosehouse_k62_a_round) (K:=Hd.K) rfl h1 (λw h Y=>PySem.W.kIn_of Y) Maths.JY λw mg fa h KX G zR=>Der.all_mk KX G (h2▸zR)
