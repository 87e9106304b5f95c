import PyProof.Rows.All
import Wide.All
import OpenK.AllK
import PySem.Challenge.RW_dosehouse_k62_a_round
set_option Elab.async false
set_option linter.all false
set_option maxRecDepth 100000
set_option maxHeartbeats 0
open Option renaming some→U,none→J
open Bool renaming true→O,false→M
open PySem renaming Addr→ZG,Value→ZH,Shared→ZI,Expr→ZJ,Heap→ZK,Around→ZL,Obj→ZM,Scope→ZO,Stmt→ZP,Program→ZQ,FuncData→ZR,NameKind→ZS,Params→ZT
noncomputable section
set_option genSizeOf false
set_option compiler.extract_closed false
set_option genInjectivity false
def Za1(h:True:=by rfl):True:=h
def Za2(h:True:=by decide):True:=h
def Za3(h:True:=by first|exact .inl rfl|exact .inr rfl|assumption):True:=h
def Gaa:=@Option.map_eq_some_iff
def Gab:=@PySem.wpAny_bind
def Gac:=@List.getElem?_eq_getElem
def Gad:=@PySem.wpAny_pure
def Gae:=@List.length_map
def Gaf:=@List.mem_cons_of_mem
def Gag:=@PySem.Heap.get?_push_of_some
def Gah:=@Bool.and_eq_true
def Gai:=@if_neg
def Gaj:=@List.mem_cons_self
def Gak:=@List.getElem?_eq_some_iff
def Gal:=@List.length_append
def Gam:=@List.getElem?_set_ne
def Gan:=@Nat.le_refl
def Gao:=@if_pos
def Gap:=@List.getElem?_map
def Gaq:=@of_decide_eq_true
def Gar:=@List.all_eq_true
def Gas:=@List.mem_map
def Gat:=@List.mem_cons
def Gau:=@List.mem_append
def Gav:=@List.size_toArray
def Gaw:=@PySem.Heap.get?_push_size
def Gax:=@List.mem_of_getElem?
def Gay:=@List.map_cons
def Gaz:=@PySem.Heap.lt_size
def GaA:=@List.getElem_mem
def GaB:=@Bool.false_ne_true
def GaC:=@List.map_append
def GaD:=@decide_eq_true
def GaE:=@decide_eq_false
def GaF:=@List.length_cons
def GaG:=@Array.getElem?_eq_getElem
def GaH:=@Int.eq_ofNat_of_zero_le
def GaI:=@Nat.ne_of_lt
def GaJ:=@Nat.lt_of_lt_of_le
def GaK:=@List.set_cons_succ
def GaL:=@List.set_cons_zero
def GaM:=@List.getElem?_append_right
def GaN:=@List.map_map
def GaO:=@List.map_congr_left
def GaP:=@Nat.zero_add
def GaQ:=@List.mem_flatMap
def GaR:=@List.getElem?_append_left
def GaS:=@List.mem_range
def GaT:=@PySem.wpAny_setState_of
def GaU:=@List.mem_singleton
def GaV:=@List.pairwise_cons
def GaW:=@List.nodup_append
def GaX:=@Bool.or_eq_true
def GaY:=@List.flatMap_cons
def GaZ:=@Array.length_toList
def Gba:=@Nat.zero_le
def Gbb:=@List.nodup_cons
def Gbc:=@PySem.wpAny_call_entry
def Gbd:=@List.append_assoc
def Gbe:=@Array.getElem?_eq_some_iff
def Gbf:=@PySem.Heap.get?_update_self
def Gbg:=@Nat.lt_or_ge
def Gbh:=@List.append_nil
def Gbi:=@List.lookup_cons
def Gbj:=@PySem.wpAny_newObj_type
def Gbk:=@List.mem_filter
def Gbl:=@List.mem_append_right
def Gbm:=@List.length_nil
def Gbn:=@List.length_eq_zero_iff
def Gbo:=@Nat.le_trans
def Gbp:=@Array.getElem?_toList
def Gbq:=@PySem.wpAny_callSpecial?_slot
def Gbr:=@PySem.Obj.data_mapFields
def Gbs:=@List.getElem?_set_self
def Gbt:=@PySem.sizeLine_eq
def Gbu:=@PySem.wpAny_truthy_bool
def Gbv:=@beq_iff_eq
def Gbw:=@Int.toNat_natCast
def Gbx:=@List.flatMap_eq_nil_iff
def Gby:=@List.filter_cons
def Gbz:=@Nat.lt_irrefl
def GbA:=@List.all_cons
def GbB:=@List.getElem_of_mem
def GbC:=@PySem.Heap.SameBut.update
def GbD:=@List.getElem?_eq_none
def GbE:=@List.not_mem_nil
def GbF:=@PySem.F.called_set
def GbG:=@PyProof.Rows.callWith_type1
def GbH:=@Array.getD_eq_getD_getElem?
def GbI:=@List.all_map
def GbJ:=@PySem.wpAny_holding
def GbK:=@List.find?_eq_none
def GbL:=@List.length_filter_le
def GbM:=@Int.mul_nonneg
def GbN:=@List.drop_eq_getElem_cons
def GbO:=@Nat.le_succ
def GbP:=@List.map_id
def GbQ:=@List.mem_append_left
def GbR:=@Nat.ne_of_gt
def GbS:=@PySem.W.kia_one
def GbT:=@PySem.codeAny_builtin
def GbU:=@PySem.wpAny_ite_false
def GbV:=@List.nil_append
def GbW:=@Nat.lt_succ_of_lt
def GbX:=@List.any_eq_false
def GbY:=@PySem.Heap.size_push
def GbZ:=@List.any_eq_true
def Gca:=@List.getElem_map
def Gcb:=@List.isEmpty_iff
def Gcc:=@PySem.wpAny_mono
def Gce:=@PySem.Heap.get?_update_other
def Gcf:=@Array.getElem?_eq_none
def Gcg:=@List.append_eq_nil_iff
def Gch:=@Nat.eq_or_lt_of_le
def Gci:=@PySem.wpAny_passesOwn
def Gcj:=@Option.map_some
def Gck:=@PySem.Obj.isFreed_of_fields
def Gcl:=@List.foldl_cons
def Gcm:=@Nat.le_of_lt_succ
def Gcn:=@List.pairwise_map
def Gco:=@List.getElem?_of_mem
def Gcp:=@List.findIdx?_eq_some_iff_getElem
def Gcq:=@PySem.wpAny_seqItems
def Gcr:=@List.getElem?_take_of_lt
def Gcs:=@List.length_drop
def Gct:=@Nat.succ_pos
def Gcu:=@PySem.SetTable.toList_insertAt
def Gcv:=@List.filterMap_cons
def Gcw:=@Function.comp_apply
def Gcx:=@List.flatMap_append
def Gcy:=@PyProof.Rows.slot_tuple_getitem
def Gcz:=@List.getElem?_replicate
def GcA:=@PySem.F.plainAttrs_list
def GcB:=@List.getElem?_cons_succ
def GcC:=@PySem.Calls.spliced_cons
def GcD:=@Nat.lt_of_le_of_lt
def GcE:=@PySem.wpAny_ite_split
def GcF:=@PySem.wpAny_typeNameOfWhole_itemiter
def GcG:=@decide_eq_true_iff
def GcH:=@PySem.Calls.callWith_builtin
def GcI:=@PySem.F.slot_dict_itemiterator_next
def GcJ:=@List.ext_getElem?
def GcK:=@Option.some.injEq
def GcL:=@PySem.Obj.cls_mapFields
def GcM:=@Nat.le_of_lt
def GcN:=@List.length_singleton
def GcO:=@PySem.wpAny_setField
def GcP:=@PyProof.Rows.kmk_tree
def GcQ:=@List.Pairwise.and_mem
def GcR:=@Int.not_lt
def GcS:=@List.ext_getElem
def GcT:=@Nat.mod_lt
def GcU:=@List.Perm.map
def GcV:=@List.getD_eq_getElem?_getD
def GcW:=@Int.le_refl
def GcX:=@PySem.wpAny_of_eq
def GcY:=@List.cons.injEq
def GcZ:=@List.pairwise_iff_getElem
def Gda:=@List.mem_of_find?_eq_some
def Gdb:=@Int.emod_nonneg
def Gdc:=@List.mem_filterMap
def Gdd:=@PySem.wpAny_Call_Name_kw
def Gde:=@PySem.F.args_tuple_add_2
def Gdf:=@List.map_nil
def Gdg:=@List.getElem?_drop
def Gdh:=@PySem.wpAny_pyIter_tuple
def Gdi:=@or_false
def Gdj:=@PySem.wpAny_comprehension_free
def Gdk:=@PyProof.Rows.F.entry_set_update_loop
def Gdl:=@List.any_map
def Gdm:=@Int.emod_lt_of_pos
def Gdn:=@if_true
def Gdo:=@Bool.and_false
def Gdp:=@PySem.F.slot_dict_itemiterator_iter
def Gdq:=@PySem.F.entry_tuple_add
def Gdr:=@PySem.F.plainAttrs_dict
def Gds:=@PySem.wpAny_pyIter_enum
def Gdt:=@PySem.wpAny_pyIter_slot
def Gdu:=@List.getElem?_set
def Gdv:=@PySem.F.slot_tuple_hash
def Gdw:=@PySem.F.slot_tuple_add
def Gdx:=@PySem.plainId_quiet
def Gdy:=@Nat.lt_succ_self
def Gdz:=@List.take_succ_eq_append_getElem
def GdA:=@List.perm_middle
def GdB:=@List.length_replicate
def GdC:=@Array.getElem?_setIfInBounds_ne
def GdD:=@PySem.wpAny_execs_nil
def GdE:=@PySem.wpAny_typeOf
def GdF:=@PySem.Calls.evalArgs_plain
def GdG:=@List.forIn_cons
def GdH:=@Bool.eq_iff_iff
def GdI:=@PySem.typeLookup_type
def GdJ:=@PySem.wpAny_specialOf
def GdK:=@List.find?_some
def GdL:=@Bool.or_eq_false_iff
def GdM:=@List.eq_nil_iff_forall_not_mem
def GdN:=@List.forall_mem_cons
def GdO:=@List.getElem?_range
def GdP:=@List.nodup_nil
def GdQ:=@List.findIdx?_cons
def GdR:=@List.any_cons
def GdS:=@List.findIdx?_map
def GdT:=@Nat.lt_trichotomy
def GdU:=@Int.le_trans
def GdV:=@Int.le_of_lt
abbrev VSP:=PySem.Value->PySem.Shared->Prop
abbrev LAO:=List (PySem.Addr×PySem.Obj)
set_option autoImplicit true
set_option relaxedAutoImplicit true
namespace L2
open PySem PySem.Spec PyProof.Rows
abbrev Key:=Sum Int Str
noncomputable def tR:Key->ZH->Bool
 | .inl k,v=>Value.isInt k v
 | .inr x,v=>Value.isStrOf x v
noncomputable def TV(w:World):Key->Int
 | .inl k=>hashInt k
 | .inr x=>hashStr w x
theorem cy:∀{k v},tR k v=O->(∃i t,k=Sum.inl i/\v=Value.int i t)\/(∃x t,k=Sum.inr x/\v=Value.str x t)
 | .inl i,v,h=>by
  obtain⟨t,e⟩:=Value.isInt_shape h;exact .inl ⟨i,t,rfl,e⟩
 | .inr x,v,h=>by
  obtain⟨t,e⟩:=Value.isStrOf_shape h;exact .inr ⟨x,t,rfl,e⟩
def Ey(i:Int)(t:Tok):tR (.inl i) (.int i t)=O:=by simp[tR,Value.isInt]
def Ez(x:Str)(t:Tok):tR (.inr x) (.str x t)=O:=by simp[tR,Value.isStrOf]
def Nk(a b:Int):decide ((Sum.inl a:Key)=Sum.inl b)=(a==b):=by
 by_cases e:a=b
 .subst e;simp
 .simp_all
def Nl(a b:Str):decide ((Sum.inr a:Key)=Sum.inr b)=decide (a=b):=by
 simp_all
def Nm(a:Int)(b:Str):decide ((Sum.inl a:Key)=Sum.inr b)=M:=GaE (λq=>nomatch q)
def Np(a:Str)(b:Int):decide ((Sum.inr a:Key)=Sum.inl b)=M:=GaE (λq=>nomatch q)
def cK(prog:ZQ)(w:World):PySem.KeyKind prog w Key where
 is:=tR
 hash:=TV w
 inj:=λv a b ha hb=>by
  rcases cy ha with⟨i,t,rfl,rfl⟩| ⟨x,t,rfl,rfl⟩
  .rcases cy hb with⟨j,u,rfl,e⟩| ⟨y,u,rfl,e⟩
   .injection e with e1 _;rw[e1]
   .exact nomatch e
  .rcases cy hb with⟨j,u,rfl,e⟩| ⟨y,u,rfl,e⟩
   .exact nomatch e
   .injection e with e1 _;rw[e1]
 byValue:=λk v h=>by
  rcases cy h with⟨i,t,rfl,rfl⟩| ⟨x,t,rfl,rfl⟩<;>rfl
 pyHash:=λhv h=>by
  rcases cy hv with⟨i,t,rfl,rfl⟩| ⟨x,t,rfl,rfl⟩
  .exact wpAny_pyHash_int h
  .exact wpAny_pyHash_str h
 eqBool:=λhu hv h=>by
  rcases cy hu with⟨i,t,rfl,rfl⟩| ⟨x,t,rfl,rfl⟩
  .rcases cy hv with⟨j,u,rfl,rfl⟩| ⟨y,u,rfl,rfl⟩
   .rw[Nk] at h;exact wpAny_eqBool_int h
   .rw[Nm] at h;exact SeqAt.EqAt.int_str i t y u _ _ _ _ h
  .rcases cy hv with⟨j,u,rfl,rfl⟩| ⟨y,u,rfl,rfl⟩
   .rw[Np] at h;exact SeqAt.EqAt.str_int x t j u _ _ _ _ h
   .rw[Nl] at h;exact wpAny_eqBool_str h
 «strs» :=λk x t v h=>by
  rcases cy h with⟨i,u,rfl,e⟩| ⟨y,u,rfl,e⟩
  .exact nomatch e
  .injection e with e1 _
   subst e1;cases v<;>rfl
def oS(prog:ZQ)(w:World)(i:Int)(t:Tok):(cK prog w).is (.inl i) (.int i t)=O:=Ey i t
def oT(prog:ZQ)(w:World)(x:Str)(t:Tok):(cK prog w).is (.inr x) (.str x t)=O:=Ez x t
set_option genInjectivity true in
inductive V where
 |non|bl (b:Bool)|int (i:Int)|str (x:Str)|ref (a:ZG)|ty (n:String)
 deriving DecidableEq
def Zt:V->ZH->Prop
 | .non,u=>u=Value.none
 | .bl b,u=>u=Value.bool b
 | .int i,u=>∃t,u=Value.int i t
 | .str x,u=>∃t,u=Value.str x t
 | .ref a,u=>u=Value.ref a
 | .ty n,u=>u=Value.type n
abbrev Zu:List V->List ZH->Prop:=Paired Zt
theorem Zu.length{xs:List V}{us:List ZH}(r:Zu xs us):xs.length=us.length:=Paired.length r
theorem Zu.get:∀{xs:List V} {us:List ZH} {i:Nat} {x:V},Zu xs us->xs[i]? =U x->∃u,us[i]? =U u/\Zt x u
 |_,_,_,_,.nil,e=>by simp at e
 |_,_,0,_,.cons r _,e=>by simp at e;subst e;exact⟨_,rfl,r⟩
 |_,_,i+1,x,.cons _ t,e=>by
  obtain⟨u,h1,h2⟩:=Zu.get t (by simpa using e);exact⟨u,by simpa using h1,h2⟩
def Zu.append(p:Zu xs us)(s:Zu ys ws):Zu (xs++ys) (us++ws):=by
 induction p with
 |nil=>exact s
 |cons r t ih=>exact .cons r ih
theorem Zu.take:∀{xs us} n,Zu xs us->Zu (xs.take n) (us.take n)
 |_,_,0,_=> .nil
 |_,_,_+1,.nil=> .nil
 |_,_,n+1,.cons r t=> .cons r (Zu.take n t)
theorem Zu.drop:∀{xs us} n,Zu xs us->Zu (xs.drop n) (us.drop n)
 |_,_,0,r=>r
 |_,_,_+1,.nil=> .nil
 |_,_,n+1,.cons _ t=>Zu.drop n t
def GG:Option V->Option ZH->Prop
 |some v,U u=>Zt v u
 |none,J=>True
 |_,_=>False
noncomputable def kV:Key->V
 | .inl i=> .int i
 | .inr x=> .str x
inductive HO where
 |lst (xs:List V)
 |tup (xs:List V)
 |dT (eD:List (List Key×V))
 |own (x:ZG)
 |rng (lo hi:Int)
 |frz (o:ZM) (u:HO)
 |tbl (ps:Array ZH)
 |ext (φ:ZK->Prop)
abbrev Hp:=ZG->Option HO
noncomputable def upd(H:Hp)(a:ZG)(o:HO):Hp:=λb=>if b=a then U o else H b
def aD:upd H a o a=U o:=by unfold upd;rw[Gao rfl]
def ao(h:b≠a):upd H a o b=H b:=by unfold upd;rw[Gai h]
def tU{H:Hp}(h:H a=U o)(h' :H b=U u)(d:o≠u):a≠b:=by
 intro e;subst e;rw[h] at h';simp_all
def dq{H:Hp}(h:H a=U o)(h' :H b=J):a≠b:=by
 lia
section
variable(P:ZQ)(w:World)
def cJ(H:Hp)(h:ZK)(a:ZG):HO->Prop
 | .lst xs=>xs.length<=sizeLine/\∃(its:List ZH) (n:Nat),Zu xs its/\h.get? a=U {cls:= .type "list",data:= .seq its.toArray n}
 | .tup xs=>xs.length<=sizeLine/\∃its:List ZH,Zu xs its/\IsTup h a its.toArray
 | .dT eD=>eD.length<=sizeLine/\(a==sysModules)=M/\∃xs:List (List Key×ZG×ZH),
   Paired (λ(p:List Key×V) (q:List Key×ZG×ZH)=>p.1=q.1/\H q.2.1=U (.tup (p.1.map kV))/\Zt p.2 q.2.2) eD xs/\
   ∃o es ep,h.get? a=U o/\o.ExactDict/\o.data= .dict es ep/\es.toList=xs.map (entryOfKey (tupleKind (cK P w)))/\(xs.map (·.1)).Nodup
 | .own _=>∃o,h.get? a=U o
 | .rng lo hi=>∃t u v,h.get? a=U {cls:= .type "range",data:= .fields #[.int lo t,.int hi u,.int 1 v]}
 | .frz o u=>h.get? a=U o/\cJ H h a u
 | .tbl ps=>h.get? a=U {cls:= .none,data:= .fields ps}
 | .ext φ=>φ h/\(∃o,h.get? a=U o)/\∀h1 h2:ZK,φ h1->(∀o,h1.get? a=U o->h2.get? a=U o)->φ h2
def HOk(H:Hp)(h:ZK):Prop:=∀a o,H a=U o->cJ P w H h a o
end
section
theorem cJ.lt{h:ZK}(x:cJ P w H h a o):a<h.objs.size:=by
 cases o with
 |lst xs=>obtain⟨_,_,_,_,e⟩:=x;exact Gaz e
 |tup xs=>obtain⟨_,_,_,p⟩:=x;exact p.lt
 |dT eD=>obtain⟨_,_,_,_,o,_,_,e,_⟩:=x;exact Gaz e
 |own y=>obtain⟨_,e⟩:=x;exact Gaz e
 |rng lo hi=>obtain⟨_,_,_,e⟩:=x;exact Gaz e
 |frz ob u=>obtain⟨e,_⟩:=x;exact Gaz e
 |tbl ps=>exact Gaz (show h.get? a=U _ from x)
 |ext φ=>obtain⟨_,⟨_,e⟩,_⟩:=x;exact Gaz e
def Paired.Ka{α β:Type}{F G:α->β->Prop}{l₁:List α}{l₂:List β}(p:Paired F l₁ l₂)(f:∀a b,F a b->G a b):Paired G l₁ l₂:=by
 induction p with
 |nil=>exact .nil
 |cons r t ih=>exact .cons (f _ _ r) ih
variable{h h' :ZK}
def cJ.dM(x:cJ P w H h a o)(k:∀b u,(b=a\/H b=U (.own a))->h.get? b=U u->h'.get? b=U u)
  (ho:∀b,H b=U (.own a)->H' b=U (.own a))(ht:∀b xs,H b=U (.tup xs)->H' b=U (.tup xs)):cJ P w H' h' a o:=by
 induction o with
 |lst xs=>obtain⟨z,its,n,r,e⟩:=x;exact⟨z,its,n,r,k _ _ (.inl rfl) e⟩
 |tup xs=>obtain⟨z,its,r,ob,e,c⟩:=x;exact⟨z,its,r,ob,k _ _ (.inl rfl) e,c⟩
 |dT eD=>
  obtain⟨z,y,xs,r,ob,es,ep,e,c⟩:=x;exact⟨z,y,xs,Paired.Ka r λp q z=> ⟨z.1,ht _ _ z.2.1,z.2.2⟩,ob,es,ep,k _ _ (.inl rfl) e,c⟩
 |own y=>obtain⟨ob,e⟩:=x;exact⟨ob,k _ _ (.inl rfl) e⟩
 |rng lo hi=>obtain⟨t,u,v,e⟩:=x;exact⟨t,u,v,k _ _ (.inl rfl) e⟩
 |frz ob u ih=>obtain⟨e,q⟩:=x;exact⟨k _ _ (.inl rfl) e,ih q⟩
 |tbl ps=>
  have e:h.get? a=U {cls:= .none,data:= .fields ps}:=x;exact k a _ (.inl rfl) e
 |ext φ=>obtain⟨p,⟨o,e⟩,st⟩:=x;exact⟨st _ _ p λo q=>k _ _ (.inl rfl) q,⟨o,k _ _ (.inl rfl) e⟩,st⟩
theorem HOk.lt{h:ZK}(x:HOk P w H h)(e:H a=U o):a<h.objs.size:=(x a o e).lt
def HOk.fresh{a:ZG}(x:HOk P w H h)(e:h.objs.size<=a):H a=J:=by
 cases q:H a with
 |none=>rfl
 |some u=>exact absurd (GaJ (x.lt q) e) (Gbz _)
def HOk.kept(x:HOk P w H h)(k:∀b u,h.get? b=U u->h'.get? b=U u):HOk P w H h' :=λa o e=>
 (x a o e).dM (λb u _ q=>k b u q) (λ_ q=>q) λ_ _ q=>q
def HOk.laid{a:ZG}(x:HOk P w H h)(k:∀b u,h.get? b=U u->h'.get? b=U u)(hp:h.objs.size<=a)(new:cJ P w (upd H a o) h' a o):HOk P w (upd H a o) h' :=λb u e=>by
 have hn:=x.fresh hp;by_cases hb:b=a
 .subst hb;rw[aD] at e;cases e;exact new
 .rw[ao hb] at e;exact(x b u e).dM (λc v _ q=>k c v q) (λc q=>by rw[ao (dq q hn)];exact q) λc xs q=>by rw[ao (dq q hn)];exact q
end
def Rd(H:Hp)(a:ZG)(u:HO):Prop:=H a=U u\/∃o,H a=U (.frz o u)
def Rd.ok(r:Rd H a u)(x:HOk P w H h):cJ P w H h a u:=by
 rcases r with r| ⟨o,r⟩
 .exact x a u r
 .obtain⟨_,q⟩:=x a _ r;exact q
def Mut:Option HO->Prop
 |some (.lst _)=>True
 |some (.dT _)=>True
 |some (.ext _)=>True
 |_=>False
def HOk.write{h h' :ZK}(ok:HOk P w H h)(mu:Mut (H x))(he:e=x\/H e=U (.own x))(k:∀b u,b≠e->h.get? b=U u->h'.get? b=U u)(zC:∃u,h'.get? e=U u)
  (new:cJ P w (upd H x o') h' x o'):HOk P w (upd H x o') h' :=λb u q=>by
 have nown:∀c y,H c=U (.own y)->c≠x:=λc y r z=>by subst z;rw[r] at mu;exact mu
 have ntup:∀c xs,H c=U (.tup xs)->c≠x:=λc xs r z=>by subst z;rw[r] at mu;exact mu
 by_cases hb:b=x
 .subst hb;rw[aD] at q;cases q;exact new
 .rw[ao hb] at q;by_cases hbe:b=e
  .have q' :H b=U (.own x):=by
    rcases he with z|z
    .exact absurd (hbe.trans z) hb
    .rw[hbe];exact z
   rw[q] at q';cases q'
   obtain⟨v,hv⟩:=zC;exact⟨v,by rw[hbe];exact hv⟩
  .refine(ok b u q).dM (λc v hc r=>k c v ?_ r) (λc r=>by rw[ao (nown c b r)];exact r) λc xs r=>by rw[ao (ntup c xs r)];exact r
   rcases hc with rfl|hc
   .exact hbe
   .rintro rfl;rcases he with z|z
    .exact nown c b hc z
    .rw[hc] at z;cases z;exact hb rfl
structure Un(fs ex:List ZG)(H H' :Hp)(h h' :ZK):Prop where
 keep:∀b o,h.get? b=U o->H b=J->b∉fs->b∉ex->h'.get? b=U o
 slot:∀b o,h.get? b=U o->H b=J->b∈fs->b∉ex->∃sl,h'.get? b=U {o with slots:=sl}
 free:∀b o,h.get? b=U o->H b=J->b∉ex->H' b=J
 there:∀b o,h.get? b=U o->b∉ex->∃o',h'.get? b=U o'
 wI:∀b xs,H b=U (.tup xs)->H' b=U (.tup xs)
 sX:∀b o u,H b=U (.frz o u)->H' b=U (.frz o u)
 wJ:∀b ps,H b=U (.tbl ps)->∃more,H' b=U (.tbl (ps++more))
section
def Un.any{h h1:ZK}(u:Un fs ex H H1 h h1)(q:h.get? b=U ob)(n:H b=J)(hx:b∉ex):∃sl,h1.get? b=U {ob with slots:=sl}:=by
 by_cases hb:b∈fs
 .exact u.slot b ob q n hb hx
 .exact⟨ob.slots,u.keep b ob q n hb hx⟩
variable{h' :ZK}
def Un.kept{h:ZK}(k:∀b u,h.get? b=U u->h'.get? b=U u):Un fs ex H H h h' :=
 ⟨λb ob q _ _ _=>k b ob q,λb ob q _ _ _=> ⟨ob.slots,k b ob q⟩,λ_ _ _ n _=>n,λb ob q _=> ⟨ob,k b ob q⟩,λ_ _ q=>q,λ_ _ _ q=>q,λ_ ps q=> ⟨#[],by rw[q];simp⟩⟩
def Un.refl:Un fs ex H H h h:=Un.kept λ_ _ q=>q
theorem Un.laid{h:ZK}{a:ZG}(k:∀b u,h.get? b=U u->h'.get? b=U u)(hp:h.objs.size<=a)(hn:H a=J):Un fs ex H (upd H a o) h h' where
 keep:=λb u q _ _ _=>k b u q
 slot:=λb u q _ _ _=> ⟨u.slots,k b u q⟩
 free:=λb u q n _=>by rw[ao (GaI (GaJ (Gaz q) hp))];exact n
 there:=λb u q _=> ⟨u,k b u q⟩
 wI:=λb xs q=>by rw[ao (dq q hn)];exact q
 sX:=λb u xs q=>by rw[ao (dq q hn)];exact q
 wJ:=λb ps q=> ⟨#[],by rw[ao (dq q hn),q];simp⟩
def Un.write{h:ZK}(mu:Mut (H x))(he:e=x\/H e=U (.own x))(k:∀b u,b≠e->h.get? b=U u->h'.get? b=U u)(zC:∃u,h'.get? e=U u):Un fs ex H (upd H x o) h h' :=by
 have hx:∀b,H b=J->b≠x:=λb n z=>by subst z;rw[n] at mu;exact mu
 have hb:∀b,H b=J->b≠e:=λb n z=>by
  simp_all
 have hm:∀b u,H b=U u->¬Mut (U u)->b≠x:=λb u q nm z=>by subst z;rw[q] at mu;exact nm mu
 refine⟨λb u q n _ _=>k b u (hb b n) q,λb u q n _ _=> ⟨u.slots,k b u (hb b n) q⟩,λb u q n _=>by rw[ao (hx b n)];exact n,λb u q _=> ?_,
  λb xs q=>by rw[ao (hm b _ q λz=>z)];exact q,λb u xs q=>by rw[ao (hm b _ q λz=>z)];exact q,λb ps q=> ⟨#[],by rw[ao (hm b _ q λz=>z),q];simp⟩⟩
 by_cases hbe:b=e
 .subst hbe;exact zC
 .exact⟨u,k b u hbe q⟩
end
noncomputable def trk(h:ZK)(H:Hp):List ZG:=(List.range h.objs.size).filter λa=>(H a).isSome
def wL(h:ZK)(H:Hp):ZK:=PySem.W.hideAll h (trk h H)
def EA(h:ZK)(H:Hp):(wL h H).objs.size=h.objs.size:=PySem.W.hideAll_size _ _
def GH{h:ZK}(e:h.get? b=U o)(n:H b=J):(wL h H).get? b=U o:=
 PySem.W.hideAll_get _ e λhm=>by
  have q:=(Gbk.mp hm).2;rw[n] at q;simp at q
def Kb{h:ZK}(e:(wL h H).get? b=U o):h.get? b=U o/\H b=J:=by
 have e' :=PySem.W.of_hideAll (trk h H) e;refine⟨e', ?_⟩;cases q:H b with
 |none=>rfl
 |some x=>
  have hm:b∈trk h H:=Gbk.mpr ⟨GaS.mpr (Gaz e'),by simp[q]⟩;have z:(wL h H).get? b=J:=PySem.W.hideAll_none (trk h H) hm;rw[z] at e;cases e
structure Mod(K:PySem.W.Frag)(mg:Str->Option ZH)(base:ZK):Prop where
 kin:K.In base
 glob:base.Ns mainGlobals mg
 blt:∃mb,base.Ns builtinsNs mb/\∀x:Str,x≠"__name__"->mb x=bootBuiltins x
 nolimit:base.NoLimit
structure Cx where
 prog:ZQ
 w:World
 K:PySem.W.Frag
 mg:Str->Option ZH
 base:ZK
 A:ZL
 N:List Str
 s₀:ZI
 H0:Hp
 env:Env
 outer:List Env
 stack:List Env
 ex:List ZG
 fn:Str->Bool
 calm:Bool
 pn:LAO
 xe:VSP
noncomputable def frs(l:List Env):List ZG:=l.filterMap (·.frame)
abbrev Cx.fs (X:Cx):List ZG:=frs X.outer
def Vis(sc:ZO)(x:Str):Prop:=sc.names.lookup x=U .local\/sc.names.lookup x=U .cell\/sc.names.lookup x=U .free
def Loc(sc:ZO)(x:Str):Prop:=sc.names.lookup x=U .local\/sc.names.lookup x=U .cell
def Look(env:Env)(h:ZK)(m:Str->Option ZH)(x:Str)(u:ZH):Prop:=
 (env.kindOf x=U .local/\m x=U u)\/((env.kindOf x=U .cell\/env.kindOf x=U .free)/\∃c,env.cells.lookup x=U c/\h.IsCell c (U u))
structure Cx.Ok(X:Cx):Prop where
 mod:Mod X.K X.mg X.base
 kind:X.env.scope.kind= .function
 glob:X.env.globals=mainGlobals
 blt:X.env.builtins=builtinsNs
 above:X.s₀.heap.objs.size<=X.env.locals
 inj:∀x y c,X.env.cells.lookup x=U c->X.env.cells.lookup y=U c->x=y
 has:∀x,(X.env.kindOf x=U .cell\/X.env.kindOf x=U .free)->∃c,X.env.cells.lookup x=U c
 cab:∀x c,X.fn x=O->X.env.cells.lookup x=U c->X.s₀.heap.objs.size<=c
 hd:X.calm=O->X.A.handled=J
 frames:X.A.frames=U X.stack
 stk:X.stack=X.outer\/(X.stack=X.env::X.outer/\X.env.frame=U X.env.locals)
 exf:∀b∈X.ex,b≠X.env.locals/\∀x c,X.env.cells.lookup x=U c->c≠b
 bs:∀b o,X.base.get? b=U o->X.s₀.heap.get? b=U o/\X.H0 b=J
 bsz:X.base.objs.size<=X.s₀.heap.objs.size
 K8:∀b o,X.base.get? b=U o->b∉X.ex
 K9:∀b∈X.ex,b∉X.fs
 qo:X.s₀.heap.FunFrames X.base X.outer
 frf:∀b∈X.fs,X.H0 b=J
structure Inv(X:Cx)(e8:LAO)(Z:List (Option V))(H:Hp)(s:ZI):Prop where
 ok:X.Ok
 os:s.os=X.s₀.os
 bare:AllBare s.gens
 base:Un X.fs X.ex X.H0 H X.s₀.heap s.heap
 loc:∃m,s.heap.Ns X.env.locals m/\∀(i:Nat) (x:Str) (v:V),X.N[i]? =U x->Z[i]? =U (U v)->Vis X.env.scope x->∃u,Zt v u/\Look X.env s.heap m x u
 cell:∀x c,X.env.cells.lookup x=U c->∃v,s.heap.IsCell c v
 free:H X.env.locals=J
 jP:∀x c,X.env.cells.lookup x=U c->H c=J
 pin:∀p∈X.pn++e8,s.heap.get? p.1=U p.2/\H p.1=J/\p.1≠X.env.locals/\p.1∉X.fs/\∀v,p.2.data≠ .cell v
 hok:HOk X.prog X.w H s.heap
 len:Z.length=X.N.length
def Cx.Ok.TX{X:Cx}(ok:X.Ok)(e:X.base.get? b=U o):b∉X.fs:=λhb=>by
 have:=(ok.qo.mem hb).1;lia
theorem Inv.bs{X:Cx}{s:ZI}(I:Inv X e8 Z H s):∀b o,X.base.get? b=U o->s.heap.get? b=U o/\H b=J:=λb o e=>
 ⟨I.base.keep b o (I.ok.bs b o e).1 (I.ok.bs b o e).2 (I.ok.TX e) (I.ok.K8 b o e),I.base.free b o (I.ok.bs b o e).1 (I.ok.bs b o e).2 (I.ok.K8 b o e)⟩
def Inv.bk{X:Cx}{s:ZI}(I:Inv X e8 Z H s):∀b o,X.base.get? b=U o->s.heap.get? b=U o:=λb o e=>(I.bs b o e).1
theorem Inv.mod{X:Cx}(I:Inv X e8 Z H s):Mod X.K X.mg X.base:=I.ok.mod
def Inv.kIn{X:Cx}{s:ZI}(I:Inv X e8 Z H s):X.K.In s.heap:=I.ok.mod.kin.keeps I.bk
theorem Inv.lt{X:Cx}{s:ZI}(I:Inv X e8 Z H s):X.env.locals<s.heap.objs.size:=let⟨_,hn,_⟩:=I.loc;hn.lt
def Inv.sz{X:Cx}{s:ZI}(I:Inv X e8 Z H s):X.s₀.heap.objs.size<=s.heap.objs.size:=Gbo I.ok.above (GcM I.lt)
def Inv.TY{X:Cx}{s:ZI}{a:ZG}(I:Inv X e8 Z H s)(h:s.heap.objs.size<=a):a∉X.fs:=λhb=>by
 obtain⟨_,o,ho,_⟩:=I.ok.qo.mem hb;exact absurd (GaJ (Gaz ho) (Gbo I.sz h)) (Gbz _)
def Inv.cne{X:Cx}(I:Inv X e8 Z H s):∀x c,X.env.cells.lookup x=U c->c≠X.env.locals:=λx c e z=>by
 obtain⟨v,o,ho,hd⟩:=I.cell x c e;obtain⟨m,⟨o',es,ep,xn,xc,_⟩,_⟩:=I.loc;lia
theorem Inv.qo{X:Cx}{s:ZI}(I:Inv X e8 Z H s):s.heap.FunFrames X.base X.outer:=by
 have all:∀(l:List Env),(∀b∈frs l,b∈X.fs)->X.s₀.heap.FunFrames X.base l->s.heap.FunFrames X.base l:=by
  intro l;induction l with
  |nil=>intro _ _;trivial
  |cons env r ih=>
   intro hs hl;obtain⟨hk,⟨L,o,hf,hn,ho,hd⟩,hr⟩:=hl;have hL:=hs L (by unfold frs;rw[Gcv,hf];exact Gaj);obtain⟨sl,e⟩:=I.base.slot L o ho (I.ok.frf L hL) hL λz=>I.ok.K9 L z hL;exact⟨hk,⟨L,_,hf,hn,e,hd⟩,ih (λb hb=>hs b (by unfold frs;rw[Gcv,hf];exact Gaf _ hb)) hr⟩
 exact all X.outer (λ_ hb=>hb) I.ok.qo
theorem Inv.stack{X:Cx}{s:ZI}(I:Inv X e8 Z H s):s.heap.FunFrames X.base X.stack:=by
 rcases I.ok.stk with e| ⟨e,hf⟩
 .rw[e];exact I.qo
 .rw[e];obtain⟨m,hn,_⟩:=I.loc;refine .cons (by rw[I.ok.kind];decide) hf hn ?_ I.qo;exact Heap.get?_none_of_le (Gbo I.ok.bsz I.ok.above)
def Inv.Bq{X:Cx}(I:Inv X e8 Z H s):∀b∈frs X.stack,b∈X.env.locals::X.fs:=λb hb=>by
 rcases I.ok.stk with e| ⟨e,hf⟩
 .rw[e] at hb;simp_all
 .rw[e] at hb;unfold frs at hb;rw[Gcv,hf] at hb;exact hb
def Inv.CM{X:Cx}(I:Inv X e8 Z H s):∀b∈frs X.stack,H b=J:=λb hb=>by
 rcases Gat.mp (I.Bq b hb) with e|hb
 .rw[e];exact I.free
 .obtain⟨_,o,ho,_⟩:=I.ok.qo.mem hb;exact I.base.free b o ho (I.ok.frf b hb) λz=>I.ok.K9 b z hb
def Inv.step{X:Cx}{H H' :Hp}{s:ZI}{h' :ZK}{ch:List ZG}(I:Inv X e8 Z H s)
  (xG:∀b∈ch,(b∈X.ex\/X.s₀.heap.objs.size<=b)/\b≠X.env.locals/\(∀x c,X.env.cells.lookup x=U c->c≠b)/\∀p∈X.pn++e8,p.1≠b)
  (keep:∀b o,b≠X.env.locals->b∉X.fs->b∉ch->s.heap.get? b=U o->H b=J->h'.get? b=U o)
  (slot:∀b o,b≠X.env.locals->b∈X.fs->b∉ch->s.heap.get? b=U o->H b=J->∃sl,h'.get? b=U {o with slots:=sl})(free:∀b o,b∉ch->s.heap.get? b=U o->H b=J->H' b=J)
  (there:∀b o,b∉ch->s.heap.get? b=U o->∃o',h'.get? b=U o')
  (wI:∀b xs,H b=U (.tup xs)->H' b=U (.tup xs))(sX:∀b o u,H b=U (.frz o u)->H' b=U (.frz o u))(wJ:∀b ps,H b=U (.tbl ps)->∃more,H' b=U (.tbl (ps++more)))
  (ns:∀m,s.heap.Ns X.env.locals m->h'.Ns X.env.locals m)(hok:HOk X.prog X.w H' h')(hg:AllBare g'):
  Inv X e8 Z H' {s with heap:=h',gens:=g',drawn:=d',toks:=t' }:=by
 have neL:∀b o,X.s₀.heap.get? b=U o->b≠X.env.locals:=λb o e=>GaI (GaJ (Gaz e) I.ok.above);have neC:∀b o,X.s₀.heap.get? b=U o->b∉X.ex->b∉ch:=λb o e hx hb=>by
  rcases(xG b hb).1 with z|z
  .exact hx z
  .exact absurd (GaJ (Gaz e) z) (Gbz _)
 have cellK:∀x c,X.env.cells.lookup x=U c->∀v,s.heap.IsCell c v->h'.IsCell c v:=λx c e v ⟨o,ho,hd⟩=>by
  have nch:=λz=>(xG c z).2.2.1 x c e rfl;by_cases hc:c∈X.fs
  .obtain⟨sl,q⟩:=slot c o (I.cne x c e) hc nch ho (I.jP x c e);exact⟨_,q,hd⟩
  .exact⟨o,keep c o (I.cne x c e) hc nch ho (I.jP x c e),hd⟩
 refine⟨I.ok,I.os,hg,⟨λb o e n hb hx=> ?_,λb o e n hb hx=> ?_,λb o e n hx=> ?_,λb o e hx=> ?_,λb xs e=>wI b xs (I.base.wI b xs e),λb o xs e=>sX b o xs (I.base.sX b o xs e),λb ps e=> ?_⟩, ?_,λx c e=> ?_, ?_,λx c e=> ?_,λp hp=> ?_,hok,I.len⟩
 .exact keep b o (neL b o e) hb (neC b o e hx) (I.base.keep b o e n hb hx) (I.base.free b o e n hx)
 .obtain⟨sl,e1⟩:=I.base.slot b o e n hb hx;obtain⟨Yg,e2⟩:=slot b _ (neL b o e) hb (neC b o e hx) e1 (I.base.free b o e n hx);exact⟨Yg,e2⟩
 .obtain⟨o',e1⟩:=I.base.there b o e hx;exact free b o' (neC b o e hx) e1 (I.base.free b o e n hx)
 .obtain⟨o',e1⟩:=I.base.there b o e hx;exact there b o' (neC b o e hx) e1
 .obtain⟨m1,e1⟩:=I.base.wJ b ps e;obtain⟨m2,e2⟩:=wJ b _ e1;exact⟨m1++m2,by rw[e2,Array.append_assoc]⟩
 .obtain⟨m,hn,hl⟩:=I.loc;refine⟨m,ns m hn,λi x v e1 e2 e3=> ?_⟩;obtain⟨u,r,l⟩:=hl i x v e1 e2 e3;refine⟨u,r, ?_⟩;rcases l with l| ⟨k,c,e,z⟩
  .exact .inl l
  .exact .inr ⟨k,c,e,cellK x c e _ z⟩
 .obtain⟨v,z⟩:=I.cell x c e;exact⟨v,cellK x c e v z⟩
 .obtain⟨m,⟨o,_,_,ho,_⟩,_⟩:=I.loc;exact free _ o (λz=>(xG _ z).2.1 rfl) ho I.free
 .obtain⟨v,o,ho,hd⟩:=I.cell x c e;exact free c o (λz=>(xG c z).2.2.1 x c e rfl) ho (I.jP x c e)
 .obtain⟨e,n,ne,nf,d⟩:=I.pin p hp;have nch:=λz=>(xG p.1 z).2.2.2 p hp rfl;exact⟨keep p.1 p.2 ne nf nch e n,free p.1 p.2 nch e n,ne,nf,d⟩
def Inv.un{X:Cx}{s:ZI}(I:Inv X e8 Z H s)(u:Un X.fs [] H H' s.heap h')(hok:HOk X.prog X.w H' h'):Inv X e8 Z H' {s with heap:=h',toks:=t' }:=by
 obtain⟨m,⟨o,es,ep,ho,r⟩,_⟩:=id I.loc;obtain⟨sl,hL⟩:=u.any ho I.free (by simp);exact I.step (ch:=[]) (λ_ z=>nomatch z) (λb o _ hb _ e n=>u.keep b o e n hb (by simp)) (λb o _ hb _ e n=>u.slot b o e n hb (by simp)) (λb o _ e n=>u.free b o e n (by simp)) (λb o _ e=>u.there b o e (by simp)) u.wI u.sX u.wJ (λm' hm=>by
  obtain⟨o',WC,WD,xn,r'⟩:=hm;rw[ho] at xn;cases xn;exact⟨_,WC,WD,hL,r'⟩) hok I.bare
def Inv.call{X:Cx}{s:ZI}(I:Inv X e8 Z H s)(u:Un (frs X.stack) ch H H' s.heap h')(hok:HOk X.prog X.w H' h')(hg:AllBare g')
  (xG:∀b∈ch,(b∈X.ex\/X.s₀.heap.objs.size<=b)/\b≠X.env.locals/\(∀x c,X.env.cells.lookup x=U c->c≠b)/\∀p∈X.pn++e8,p.1≠b):
  Inv X e8 Z H' {s with heap:=h',gens:=g',drawn:=d',toks:=t' }:=by
 obtain⟨m,⟨o,es,ep,ho,r⟩,_⟩:=id I.loc;obtain⟨sl,hL⟩:=u.any ho I.free λz=>(xG _ z).2.1 rfl;exact I.step xG (λb o hL hb hc e n=>u.keep b o e n (λz=>(Gat.mp (I.Bq b z)).elim hL hb) hc) (λb o _ _ hc e n=>u.any e n hc) (λb o hc e n=>u.free b o e n hc) (λb o hc e=>u.there b o e hc) u.wI u.sX u.wJ (λm' hm=>by
  obtain⟨o',WC,WD,xn,r'⟩:=hm;rw[ho] at xn;cases xn;exact⟨_,WC,WD,hL,r'⟩) hok hg
def Inv.turned{X:Cx}{s:ZI}{h' :ZK}(I:Inv X e8 Z H s)(k:∀b o,b≠it->s.heap.get? b=U o->h'.get? b=U o)(hn:H it=J)(hL:it≠X.env.locals)
  (h1:it∈X.ex\/X.s₀.heap.objs.size<=it)(h2:∀x c,X.env.cells.lookup x=U c->c≠it)(h3:∀p∈X.pn++e8,p.1≠it):Inv X e8 Z H {s with heap:=h',toks:=t' }:=by
 have nit:∀b u,H b=U u->b≠it:=λb u e z=>by rw[z,hn] at e;cases e
 refine I.step (ch:=[it]) (λb hb=> ?_) (λb o _ _ hc e _=>k b o (λz=>hc (by simp[z])) e) (λb o _ _ hc e _=> ⟨o.slots,k b o (λz=>hc (by simp[z])) e⟩) (λ_ _ _ _ n=>n)
  (λb o hc e=> ⟨o,k b o (λz=>hc (by simp[z])) e⟩) (λ_ _ e=>e) (λ_ _ _ e=>e) (λb ps e=> ⟨#[],by rw[e];simp⟩) (λm hm=> ?_) (λb u e=> ?_) I.bare
 .have e:b=it:=by simpa using hb
  subst e;exact⟨h1,hL,h2,h3⟩
 .obtain⟨o,es,ep,ho,r⟩:=hm;exact⟨o,es,ep,k _ o (Ne.symm hL) ho,r⟩
 .refine(I.hok b u e).dM (λc v hc q=>k c v ?_ q) (λ_ q=>q) λ_ _ q=>q;rcases hc with z|z
  .rw[z];exact nit b u e
  .exact nit c _ z
def Inv.tok(I:Inv X e8 Z H s)(t:Nat):Inv X e8 Z H {s with toks:=t}:=I.un Un.refl I.hok
theorem Inv.kept{s:ZI}{h' :ZK}(I:Inv X e8 Z H s)(k:∀b u,s.heap.get? b=U u->h'.get? b=U u):Inv X e8 Z H {s with heap:=h',toks:=t' }:=I.un (Un.kept k) (I.hok.kept k)
theorem Inv.laid{X:Cx}{s:ZI}{h' :ZK}{a:ZG}(I:Inv X e8 Z H s)(k:∀b u,s.heap.get? b=U u->h'.get? b=U u)(hp:s.heap.objs.size<=a)(new:cJ X.prog X.w (upd H a o) h' a o):
  Inv X e8 Z (upd H a o) {s with heap:=h',toks:=t' }:=I.un (Un.laid k hp (I.hok.fresh hp)) (I.hok.laid k hp new)
theorem Inv.write{X:Cx}{s:ZI}{h' :ZK}(I:Inv X e8 Z H s)(mu:Mut (H x))(he:e=x\/H e=U (.own x))(k:∀b u,b≠e->s.heap.get? b=U u->h'.get? b=U u)(zC:∃u,h'.get? e=U u)
  (new:cJ X.prog X.w (upd H x o) h' x o):Inv X e8 Z (upd H x o) {s with heap:=h',toks:=t' }:=I.un (Un.write mu he k zC) (I.hok.write mu he k zC new)
def Inv.CN{X:Cx}{s:ZI}(I:Inv X e8 Z H s)(h:∀p∈pins',s.heap.get? p.1=U p.2/\H p.1=J/\p.1≠X.env.locals/\p.1∉X.fs/\∀v,p.2.data≠ .cell v):Inv X pins' Z H s:=
 ⟨I.ok,I.os,I.bare,I.base,I.loc,I.cell,I.free,I.jP,λp hp=>(Gau.mp hp).elim (λz=>I.pin p (GbQ _ z)) (h p),I.hok,I.len⟩
def wM{N:List Str}{i j:Nat}(hN:N.Nodup)(a:N[i]? =U x)(b:N[j]? =U x):i=j:=by
 obtain⟨h1,e1⟩:=Gak.mp a;obtain⟨h2,e2⟩:=Gak.mp b;exact(List.getElem_inj hN).mp (e1.trans e2.symm)
def tW{X:Cx}{Z:List (Option V)}{s:ZI}(I:Inv X e8 Z H s)(hN:X.N.Nodup)(hi:X.N[i]? =U x)(hx:Loc X.env.scope x)(r:Zt v u)
  (h:∀s',Inv X e8 (Z.set i (U v)) H s' ->(∃a,Heap.SameBut a s.heap s'.heap/\(a=X.env.locals\/X.env.cells.lookup x=U a))->Q () s')(hf:autoParam (X.fn x=O\/X.env.scope.names.lookup x=U .local) Za3._auto_1):wpAny Zr A (storeName X.env x u) Q E s:=by
 obtain⟨m,hn,hl⟩:=id I.loc;have hcls:(X.env.scope.kind== .class||(X.env.scope.kind== .module&&X.env.locals !=X.env.globals))=M:=by rw[I.ok.kind];rfl
 have hiZ:i<Z.length:=by rw[I.len];exact(Gak.mp hi).1
 have cne:=I.cne;have tracked:∀{a:ZG} {h' :ZK},(∃o,s.heap.get? a=U o/\H a=J)->Heap.SameBut a s.heap h' ->HOk X.prog X.w H h' :=λ{a h'} ha hs b ob e=>by
  obtain⟨_,_,yc⟩:=ha;refine(I.hok b ob e).dM (λc w' hc q=>(hs.2 c ?_).trans q) (λ_ q=>q) λ_ _ q=>q;lia
 rcases hx with hk|hk
 .refine wpAny_storeName_local hk hn (λh' xh hs=> ?_) hcls;obtain⟨oL,_,_,yO,_⟩:=id hn;refine h _ ⟨I.ok,I.os,I.bare,⟨λb o e n hb hx=> ?_,λb o e n hb hx=> ?_,I.base.free,λb o e hx=> ?_,I.base.wI,I.base.sX,I.base.wJ⟩,⟨_,xh,λj y v' e1 e2 e3=> ?_⟩,λy c e=> ?_,I.free,I.jP,λp hp=> ?_,tracked ⟨oL,yO,I.free⟩ hs,by simpa using I.len⟩ ⟨_,hs,.inl rfl⟩
  .exact(hs.2 b (GaI (GaJ (Gaz e) I.ok.above))).trans (I.base.keep b o e n hb hx)
  .obtain⟨sl,e1⟩:=I.base.slot b o e n hb hx;exact⟨sl,(hs.2 b (GaI (GaJ (Gaz e) I.ok.above))).trans e1⟩
  .obtain⟨o',e1⟩:=I.base.there b o e hx;exact⟨o',(hs.2 b (GaI (GaJ (Gaz e) I.ok.above))).trans e1⟩
  .by_cases hj:j=i
   .subst hj;rw[hi] at e1;cases e1;rw[Gbs hiZ] at e2;cases e2;exact⟨u,r,.inl ⟨hk,by simp⟩⟩
   .rw[Gam (Ne.symm hj)] at e2;obtain⟨u',r',q⟩:=hl j y v' e1 e2 e3;refine⟨u',r', ?_⟩;rcases q with⟨k,e⟩| ⟨k,c,e,z⟩
    .refine .inl ⟨k, ?_⟩;have:y≠x:=λe=>hj (wM hN e1 (e▸hi));simp[this,e]
    .exact .inr ⟨k,c,e,z.sameBut hs (cne y c e)⟩
  .obtain⟨w',z⟩:=I.cell y c e;exact⟨w',z.sameBut hs (cne y c e)⟩
  .obtain⟨e,n,ne,nf,d⟩:=I.pin p hp;exact⟨(hs.2 p.1 ne).trans e,n,ne,nf,d⟩
 .have hfn:X.fn x=O:=by
   rcases hf with z|z
   .exact z
   .rw[z] at hk;cases hk
  obtain⟨c,hc⟩:=I.ok.has x (.inl hk);obtain⟨w',z⟩:=I.cell x c hc;refine wpAny_storeName_cell I.ok.kind hk hc z (λh' yo hs=> ?_);obtain⟨oc,XO,X7⟩:=id z;refine h {s with heap:=h' } ⟨I.ok,I.os,I.bare,⟨λb o e n hb hx=> ?_,λb o e n hb hx=> ?_,I.base.free,λb o e hx=> ?_,I.base.wI,I.base.sX,I.base.wJ⟩,⟨m,hn.sameBut hs (Ne.symm (cne x c hc)),λj y v' e1 e2 e3=> ?_⟩,λy c' e=> ?_,I.free,I.jP,λp hp=> ?_,tracked ⟨oc,XO,I.jP x c hc⟩ hs,by simpa using I.len⟩ ⟨c,hs,.inr hc⟩
  .exact(hs.2 b (GaI (GaJ (Gaz e) (I.ok.cab x c hfn hc)))).trans (I.base.keep b o e n hb hx)
  .obtain⟨sl,e1⟩:=I.base.slot b o e n hb hx;exact⟨sl,(hs.2 b (GaI (GaJ (Gaz e) (I.ok.cab x c hfn hc)))).trans e1⟩
  .obtain⟨o',e1⟩:=I.base.there b o e hx;exact⟨o',(hs.2 b (GaI (GaJ (Gaz e) (I.ok.cab x c hfn hc)))).trans e1⟩
  .by_cases hj:j=i
   .subst hj;rw[hi] at e1;cases e1;rw[Gbs hiZ] at e2;cases e2;exact⟨u,r,.inr ⟨.inl hk,c,hc,yo⟩⟩
   .rw[Gam (Ne.symm hj)] at e2;obtain⟨u',r',q⟩:=hl j y v' e1 e2 e3;refine⟨u',r', ?_⟩;rcases q with q| ⟨k,c',e,z'⟩
    .exact .inl q
    .refine .inr ⟨k,c',e,z'.sameBut hs ?_⟩;rintro rfl;exact hj (wM hN e1 (I.ok.inj _ _ _ e hc▸hi))
  .by_cases hcc:c' =c
   .subst hcc;exact⟨_,yo⟩
   .obtain⟨w2,z2⟩:=I.cell y c' e;exact⟨w2,z2.sameBut hs hcc⟩
  .obtain⟨e,n,ne,nf,d⟩:=I.pin p hp;refine⟨(hs.2 p.1 ?_).trans e,n,ne,nf,d⟩;intro q;rw[q,XO] at e;have q' :=Option.some.inj e;exact d w' (by rw[<-q'];exact X7)
def wN{X:Cx}{Z:List (Option V)}(I:Inv X e8 Z H s)(hN:X.N.Nodup)(hi:X.N[i]? =U x)(hx:Loc X.env.scope x)(r:Zt v u)
  (h:∀s',Inv X e8 (Z.set i (U v)) H s' ->Q () s')(hf:autoParam (X.fn x=O\/X.env.scope.names.lookup x=U .local) Za3._auto_1):wpAny Zr A (storeName X.env x u) Q E s:=
 tW I hN hi hx r (λs' I' _=>h s' I') hf
def Inv.ML{X:Cx}{s s' :ZI}(I:Inv X e8 Z H s)(ho:s'.os=s.os)(u:Un (frs X.stack) ch H H' s.heap s'.heap)(hok:HOk X.prog X.w H' s'.heap)(hg:AllBare s'.gens)
  (xG:∀b∈ch,(b∈X.ex\/X.s₀.heap.objs.size<=b)/\b≠X.env.locals/\(∀x c,X.env.cells.lookup x=U c->c≠b)/\∀p∈X.pn++e8,p.1≠b):Inv X e8 Z H' s' :=by
 obtain⟨h',g',d',t',o'⟩:=s';have e:=ho;subst e;exact I.call u hok hg xG
abbrev XK:=ZH->Option ZG->Hp->Prop
abbrev St:=List (Option V)
abbrev VK:=V->Hp->Prop
abbrev TE:=St->Hp->VK->Prop
abbrev TT:=St->Hp->(Bool->Hp->Prop)->Prop
abbrev TA:=St->Hp->(List V->Hp->Prop)->Prop
structure Ends where
 nx:St->Hp->Prop
 rt:VK
 bk:St->Hp->Prop:=λ_ _=>False
 ct:St->Hp->Prop:=λ_ _=>False
abbrev TS:=Ends->St->Hp->Prop
def EP(X:Cx)(e8:LAO)(Z:St)(Q:VK)(u:ZH)(s' :ZI):Prop:=∃v H',Inv X e8 Z H' s' /\Zt v u/\Q v H'
def TP(X:Cx)(e8:LAO)(Z:St)(Q:Bool->Hp->Prop)(b:Bool)(s' :ZI):Prop:=∃H',Inv X e8 Z H' s' /\Q b H'
def AP(X:Cx)(e8:LAO)(Z:St)(Q:List V->Hp->Prop)(us:List ZH)(s' :ZI):Prop:=∃vs H',Inv X e8 Z H' s' /\Zu vs us/\Q vs H'
def SP(X:Cx)(e8:LAO)(D:Ends)(f:Flow)(s' :ZI):Prop:=
 match f with
 | .next=>∃Z' H',Inv X e8 Z' H' s' /\D.nx Z' H'
 | .brk=>∃Z' H',Inv X e8 Z' H' s' /\D.bk Z' H'
 | .cont=>∃Z' H',Inv X e8 Z' H' s' /\D.ct Z' H'
 | .ret u=>∃v Z' H',Inv X e8 Z' H' s' /\Zt v u/\D.rt v H'
def PE(X:Cx)(e:ZJ)(t:TE):Prop:=
 ∀(e8:LAO) (s:ZI) (Z:St) (H:Hp) (Q:VK),Inv X e8 Z H s->t Z H Q->wpAny (model X.prog X.w) X.A (eval e X.env) (EP X e8 Z Q) X.xe s
def PT(X:Cx)(e:ZJ)(t:TT):Prop:=
 ∀(e8:LAO) (s:ZI) (Z:St) (H:Hp) (Q:Bool->Hp->Prop),Inv X e8 Z H s->t Z H Q->wpAny (model X.prog X.w) X.A (isTrue e X.env (eval e X.env)) (TP X e8 Z Q) X.xe s
def PW(X:Cx)(e:ZJ)(t:TT):Prop:=
 ∀(whole:Sem ZH) (e8:LAO) (s:ZI) (Z:St) (H:Hp) (Q:Bool->Hp->Prop),Inv X e8 Z H s->t Z H Q->wpAny (model X.prog X.w) X.A (isTrue e X.env whole) (TP X e8 Z Q) X.xe s
def PW.pt(h:PW X e t):PT X e t:=h _
def PA(X:Cx)(es:List ZJ)(t:TA):Prop:=
 ∀(pos:Pos) (e8:LAO) (s:ZI) (Z:St) (H:Hp) (Q:List V->Hp->Prop),Inv X e8 Z H s->t Z H Q->wpAny (model X.prog X.w) X.A (spliced (backTo pos (starEach es X.env))) (AP X e8 Z Q) X.xe s
def PS(X:Cx)(st:ZP)(t:TS):Prop:=
 ∀(e8:LAO) (s:ZI) (Z:St) (H:Hp) (D:Ends),Inv X e8 Z H s->t D Z H->wpAny (model X.prog X.w) X.A (exec st X.env) (SP X e8 D) X.xe s
def PSs(X:Cx)(st:List ZP)(t:TS):Prop:=
 ∀(e8:LAO) (s:ZI) (Z:St) (H:Hp) (D:Ends),Inv X e8 Z H s->t D Z H->wpAny (model X.prog X.w) X.A (execs st X.env) (SP X e8 D) X.xe s
def thn{α:Type}{t:Sem α}{Q Q' :α->ZI->Prop}(h:wpAny Zr A t Q E s)(hQ:∀a s,Q a s->Q' a s):wpAny Zr A t Q' E s:=Gcc h hQ λ_ _ x=>x
section
variable{X:Cx}
def QQ(i:Nat):TE:=λZ H Q=>∃v,Z[i]? =U (U v)/\Q v H
def tC(v:V):TE:=λ_ H Q=>Q v H
def kg(hN:X.N[i]? =U x)(hv:Vis X.env.scope x)(hd:autoParam ((x==("__debug__":Str))=M) Za2._auto_1)(xq:autoParam ((x==("__classdict__":Str))=M) Za2._auto_1):PE X (.Name x pos) (QQ i):=by
 intro e8 s Z H Q I h;obtain⟨v,e,h⟩:=h;obtain⟨m,hn,hl⟩:=I.loc;obtain⟨u,r,l⟩:=hl i x v hN e hv;have fin:EP X e8 Z Q u s:=⟨v,H,I,r,h⟩
 rcases l with⟨hk,hm⟩| ⟨hk,c,hc,xo⟩
 .exact wpAny_Name (wpAny_loadName_local I.ok.kind hk hn hm fin) hd
 .rcases hk with hk|hk
  .exact wpAny_Name (wpAny_loadName_cell I.ok.kind hk hc xo fin) hd
  .exact wpAny_Name (wpAny_loadName_free I.ok.kind hk hc xo fin xq) hd
def GI:PE X (.Constant (.int i) j pos) (tC (.int i)):=λ_ _ _ H _ I h=>wpAny_Constant_int ⟨.int i,H,I.tok _,⟨_,rfl⟩,h⟩
def QR:PE X (.Constant (.bool b) j pos) (tC (.bl b)):=λ_ _ _ H _ I h=>Constant_bool ⟨.bl b,H,I,rfl,h⟩
def Nq:PE X (.Constant .none j pos) (tC .non):=λ_ _ _ H _ I h=>Constant_none ⟨.non,H,I,rfl,h⟩
def Nr:PE X (.Constant (.str x) j pos) (tC (.str x)):=λ_ _ _ H _ I h=>Calls.Constant_str ⟨.str x,H,I.tok _,⟨_,rfl⟩,h⟩
def Gl(X:Cx)(x:Str):Prop:=X.env.kindOf x=U .globalImplicit
variable{Z:St}
def Kc(I:Inv X e8 Z H s)(hg:Gl X x)(hm:X.mg x=U u)(h:Q u s)
  (hd:autoParam ((x==("__debug__":Str))=M) Za2._auto_1):wpAny (model X.prog X.w) X.A (eval (.Name x pos) X.env) Q E s:=
 Calls.Name_function_global I.ok.kind hg (Calls.loadGlobal_global (by rw[I.ok.glob];exact I.mod.glob.keeps I.bk) hm h) hd
def kh(I:Inv X e8 Z H s)(hg:Gl X x)(hm:X.mg x=J)(hv:bootBuiltins x=U u)(h:Q u s)
  (hn:autoParam (x≠"__name__") Za2._auto_1)(hd:autoParam ((x==("__debug__":Str))=M) Za2._auto_1):wpAny (model X.prog X.w) X.A (eval (.Name x pos) X.env) Q E s:=by
 obtain⟨mb,h1,h2⟩:=I.mod.blt;exact Calls.Name_function_global I.ok.kind hg (Calls.loadGlobal_builtin (by rw[I.ok.glob];exact I.mod.glob.keeps I.bk) hm (by rw[I.ok.blt];exact h1.keeps I.bk) ((h2 x hn).trans hv) h) hd
def Kd(hg:Gl X x)(hm:X.mg x=J)(hv:bootBuiltins x=U u)(r:Zt v u)(hn:autoParam (x≠"__name__") Za2._auto_1)(hd:autoParam ((x==("__debug__":Str))=M) Za2._auto_1):PE X (.Name x pos) (tC v):=
 λ_ _ _ H _ I h=>kh I hg hm hv ⟨v,H,I,r,h⟩ hn hd
variable{ta tb:TE}
def tB(t:TE):TT:=λZ H Q=>t Z H λx H1=>∃c,x= .bl c/\Q c H1
def Nt{e:ZJ}{t:TE}(h:PE X e t)(he:∀whole,isTrue e X.env whole=(do let v<-whole;standAt e.pos;holding [v] (truthy v)):=by intro _;rfl):PT X e (tB t):=by
 intro e8 s Z H Q I hw;refine isTrue_plain (thn (h e8 s Z H _ I hw) λv s1 ⟨x,H1,I1,r1,q1⟩=> ?_) (he _);obtain⟨d,rfl,q⟩:=q1;cases r1;exact Gbu ⟨H1,I1,q⟩
def TZ(t u:TT):TT:=λZ H Q=>t Z H λc H1=>if c=O then u Z H1 Q else Q M H1
def tOr(t u:TT):TT:=λZ H Q=>t Z H λc H1=>if c=O then Q O H1 else u Z H1 Q
def U0(t:TT):TT:=λZ H Q=>t Z H λc H1=>Q (!c) H1
def Ke(ha:PT X a tA):PW X (.BoolOp .And [a] pos) tA:=by
 intro wh e8 s Z H Q I h;refine isTrue_and (thn (ha e8 s Z H Q I h) λc s1 e=> ?_);cases c with
 |true=>exact isTrue_and_nil e
 |false=>exact e
def Nu(ha:PT X a tA):PW X (.BoolOp .Or [a] pos) tA:=by
 intro wh e8 s Z H Q I h;refine isTrue_or (thn (ha e8 s Z H Q I h) λc s1 e=> ?_);cases c with
 |false=>exact isTrue_or_nil e
 |true=>exact e
def Nv{tA:TT}(ha:PT X a tA)(hb:PW X (.BoolOp .And (b::rest) pos) tB'):PW X (.BoolOp .And (a::b::rest) pos) (TZ tA tB'):=by
 intro wh e8 s Z H Q I h;refine isTrue_and (thn (ha e8 s Z H _ I h) λc s1 ⟨H1,I1,q1⟩=> ?_);cases c with
 |true=>exact hb wh e8 s1 Z H1 Q I1 q1
 |false=>exact⟨H1,I1,q1⟩
def QS{tA:TT}(ha:PT X a tA)(hb:PW X (.BoolOp .Or (b::rest) pos) tB'):PW X (.BoolOp .Or (a::b::rest) pos) (tOr tA tB'):=by
 intro wh e8 s Z H Q I h;refine isTrue_or (thn (ha e8 s Z H _ I h) λc s1 ⟨H1,I1,q1⟩=> ?_);cases c with
 |true=>exact⟨H1,I1,q1⟩
 |false=>exact hb wh e8 s1 Z H1 Q I1 q1
def Nw(ha:PT X a tA):PT X (.UnaryOp .Not a pos) (U0 tA):=by
 intro e8 s Z H Q I h;exact isTrue_not (ha e8 s Z H (λc H1=>Q (!c) H1) I h)
def QT(ta tb:TE):TE:=λZ H Q=>ta Z H λx H1=>∃c,x= .bl c/\if c=O then tb Z H1 Q else Q (.bl M) H1
def U1(ta tb:TE):TE:=λZ H Q=>ta Z H λx H1=>∃c,x= .bl c/\if c=O then Q (.bl O) H1 else tb Z H1 Q
def QU(ta:TE):TE:=λZ H Q=>ta Z H λx H1=>∃c,x= .bl c/\Q (.bl (!c)) H1
def Nx(h:PE X a t):PE X (.BoolOp op [a] pos) t:=λe8 s Z H Q I hw=>BoolOp_one (h e8 s Z H Q I hw)
def Ny(ha:PE X a ta)(hb:PE X (.BoolOp .And (b::rest) pos) tb):PE X (.BoolOp .And (a::b::rest) pos) (QT ta tb):=by
 intro e8 s Z H Q I h;refine BoolOp_and (thn (ha e8 s Z H _ I h) λv s1 ⟨x,H1,I1,r1,q1⟩=> ?_);obtain⟨c,rfl,q1⟩:=q1;cases r1;refine Gbu ?_;cases c with
 |true=>exact hb e8 s1 Z H1 Q I1 q1
 |false=>exact⟨.bl M,H1,I1,rfl,q1⟩
def QV(ha:PE X a ta)(hb:PE X (.BoolOp .Or (b::rest) pos) tb):PE X (.BoolOp .Or (a::b::rest) pos) (U1 ta tb):=by
 intro e8 s Z H Q I h;refine BoolOp_or (thn (ha e8 s Z H _ I h) λv s1 ⟨x,H1,I1,r1,q1⟩=> ?_);obtain⟨c,rfl,q1⟩:=q1;cases r1;refine Gbu ?_;cases c with
 |false=>exact hb e8 s1 Z H1 Q I1 q1
 |true=>exact⟨.bl O,H1,I1,rfl,q1⟩
def Nz(ha:PE X a ta):PE X (.UnaryOp .Not a pos) (QU ta):=by
 intro e8 s Z H Q I h;refine UnaryOp_ (thn (ha e8 s Z H _ I h) λv s1 ⟨x,H1,I1,r1,q1⟩=> ?_);obtain⟨c,rfl,q1⟩:=q1;cases r1;exact not_of (Gbu ⟨.bl (!c),H1,I1,rfl,q1⟩)
def tIf(t:TT)(ta tb:TE):TE:=λZ H Q=>t Z H λc H1=>if c=O then ta Z H1 Q else tb Z H1 Q
def GJ(hc:PT X c tA)(ha:PE X a ta)(hb:PE X b tb):PE X (.IfExp c a b pos) (tIf tA ta tb):=by
 intro e8 s Z H Q I h;refine wpAny_IfExp (thn (hc e8 s Z H _ I h) λd s1 ⟨H1,I1,q1⟩=> ?_);cases d with
 |true=>exact ha e8 s1 Z H1 Q I1 q1
 |false=>exact hb e8 s1 Z H1 Q I1 q1
end
def SqL(K:PySem.W.Frag)(H:Hp)(a:ZG)(xs:List V):Prop:=
 Rd H a (.lst xs)\/
  ∃(o:ZM) (its:Array ZH) (n:Nat),K.lookup a=U o/\o.cls= .type "list"/\o.dict=J/\o.data= .seq its n/\its.size<=sizeLine/\Zu xs its.toList
def SqT(K:PySem.W.Frag)(H:Hp)(a:ZG)(xs:List V):Prop:=
 Rd H a (.tup xs)\/
  ∃(o:ZM) (its:Array ZH) (n:Nat),K.lookup a=U o/\o.cls= .type "tuple"/\o.data= .seq its n/\its.size<=sizeLine/\Zu xs its.toList
noncomputable def U2:ZH->Option V
 | .none=>U .non
 | .bool b=>U (.bl b)
 | .int i _=>U (.int i)
 | .str x _=>U (.str x)
 | .ref a=>U (.ref a)
 | .type n=>U (.ty n)
 |_=>J
def Zt.abs(r:Zt x u):U2 u=U x:=by
 cases x with
 |non=>cases r;rfl
 |bl _=>cases r;rfl
 |int _=>obtain⟨t,rfl⟩:=r;rfl
 |str _=>obtain⟨t,rfl⟩:=r;rfl
 |ref _=>cases r;rfl
 |ty _=>cases r;rfl
theorem Zt.inj(r:Zt x u)(q:Zt y u):x=y:=Option.some.inj (r.abs.symm.trans q.abs)
theorem Zu.inj(p:Zu xs us)(q:Zu ys us):xs=ys:=by
 induction p generalizing ys with
 |nil=>cases q;rfl
 |cons r t ih=>cases q with|cons r' t' =>rw[r.inj r',ih t']
section
def SqT.of{H:Hp}{K:PySem.W.Frag}(h:H a=U (.tup xs)):SqT K H a xs:= .inl (.inl h)
variable{Z:St}{X:Cx}
def Inv.list{s:ZI}{xs:List V}(I:Inv X e8 Z H s)(h:SqL X.K H a xs):∃its,Zu xs its/\PlainL s.heap a its.toArray/\xs.length<=sizeLine:=by
 rcases h with h| ⟨o,its,n,hk,hc,hd,hs,hz,r⟩
 .obtain⟨z,its,n,r,e⟩:=h.ok I.hok;exact⟨its,r,⟨_,n,e,rfl,rfl,rfl⟩,z⟩
 .refine⟨its.toList,r,⟨o,n,I.kIn a o hk,hc,hd,by simpa using hs⟩, ?_⟩;have e:=r.length;simp_all
def Inv.tuple{s:ZI}{xs:List V}(I:Inv X e8 Z H s)(h:SqT X.K H a xs):∃its,Zu xs its/\IsTup s.heap a its.toArray/\xs.length<=sizeLine:=by
 rcases h with h| ⟨o,its,n,hk,hc,hs,hz,r⟩
 .obtain⟨z,its,r,p⟩:=h.ok I.hok;exact⟨its,r,p,z⟩
 .refine⟨its.toList,r,⟨o,I.kIn a o hk,hc,n,by simpa using hs⟩, ?_⟩;have e:=r.length;simp_all
def Inv.wO(I:Inv X e8 Z H s)(h:SqL X.K H a xs)(h' :SqL X.K H a ys):xs=ys:=by
 obtain⟨its,r,⟨o,n,e,_,_,d⟩,_⟩:=I.list h;obtain⟨its',r',⟨o',n',e',_,_,d'⟩,_⟩:=I.list h';rw[e] at e';cases e'
 rw[d] at d';injection d' with d1 _
 have:its=its' :=by simpa using congrArg Array.toList d1
 subst this;exact r.inj r'
def Inv.tX(I:Inv X e8 Z H s)(h:SqT X.K H a xs)(h' :SqT X.K H a ys):xs=ys:=by
 obtain⟨its,r,⟨o,e,_,n,d⟩,_⟩:=I.tuple h;obtain⟨its',r',⟨o',e',_,n',d'⟩,_⟩:=I.tuple h';rw[e] at e';cases e'
 rw[d] at d';injection d' with d1 _
 have:its=its' :=by simpa using congrArg Array.toList d1
 subst this;exact r.inj r'
end
noncomputable abbrev Cx.sY (X:Cx) (E:VSP):Cx:={X with xe:=E}
abbrev Cx.nox (X:Cx):Cx:=X.sY λ_ _=>False
theorem Cx.Ok.sY{X:Cx}(ok:X.Ok)(E:VSP):(X.sY E).Ok:=
 ⟨ok.mod,ok.kind,ok.glob,ok.blt,ok.above,ok.inj,ok.has,ok.cab,ok.hd,ok.frames,ok.stk,ok.exf,ok.bs,ok.bsz,ok.K8,ok.K9,ok.qo,ok.frf⟩
def Cx.Ok.kl{X:Cx}(ok:(X.sY E).Ok):X.Ok:=
 ⟨ok.mod,ok.kind,ok.glob,ok.blt,ok.above,ok.inj,ok.has,ok.cab,ok.hd,ok.frames,ok.stk,ok.exf,ok.bs,ok.bsz,ok.K8,ok.K9,ok.qo,ok.frf⟩
theorem Inv.sY{X:Cx}{Z:St}(I:Inv X e8 Z H s)(E:VSP):Inv (X.sY E) e8 Z H s:=⟨I.ok.sY E,I.os,I.bare,I.base,I.loc,I.cell,I.free,I.jP,I.pin,I.hok,I.len⟩
theorem Inv.kl{X:Cx}{Z:St}(I:Inv (X.sY E) e8 Z H s):Inv X e8 Z H s:=⟨I.ok.kl,I.os,I.bare,I.base,I.loc,I.cell,I.free,I.jP,I.pin,I.hok,I.len⟩
theorem SP.kl{X:Cx}(h:SP (X.sY E) e8 D f s'):SP X e8 D f s' :=by
 cases f with
 |next=>obtain⟨Z',H',I,q⟩:=h;exact⟨Z',H',I.kl,q⟩
 |brk=>obtain⟨Z',H',I,q⟩:=h;exact⟨Z',H',I.kl,q⟩
 |cont=>obtain⟨Z',H',I,q⟩:=h;exact⟨Z',H',I.kl,q⟩
 |ret u=>obtain⟨v,Z',H',I,r,q⟩:=h;exact⟨v,Z',H',I.kl,r,q⟩
theorem PSs.nox{X:Cx}{st:List ZP}{t:TS}(h:PSs X.nox st t):PSs X st t:=λe8 s Z H D I hw=>
 Gcc (h e8 s Z H D (I.sY _) hw) (λ_ _ q=>q.kl) λ_ _ z=>False.elim z
section
variable{t u:TS}{te:TE}
def QW:TS:=λD Z H=>D.nx Z H
def U3(t u:TS):TS:=λD Z H=>t {D with nx:=u D} Z H
def Kf:PSs X [] QW:=λ_ _ Z H _ I h=>GdD ⟨Z,H,I,h⟩
variable{st:ZP}
def mX{rest:List ZP}(h1:PS X st t)(h2:PSs X rest u):PSs X (st::rest) (U3 t u):=by
 intro e8 s Z H D I h;refine wpAny_execs_cons (thn (h1 e8 s Z H {D with nx:=u D} I h) λf s1 q=> ?_);cases f with
 |next=>
  obtain⟨Z',H',I',q⟩:=q;exact h2 e8 s1 Z' H' D I' q
 |ret v=>exact q
 |brk=>exact q
 |cont=>exact q
def vk(h1:PS X st t):PSs X [st] t:=by
 intro e8 s Z H D I h;refine wpAny_execs_cons (thn (h1 e8 s Z H D I h) λf s1 q=> ?_);cases f with
 |next=>exact GdD q
 |ret v=>exact q
 |brk=>exact q
 |cont=>exact q
def NA:TS:=λD Z H=>D.bk Z H
def GK:PS X (.Break pos) NA:=λ_ _ Z H _ I h=>wpAny_Break ⟨Z,H,I,h⟩
def Inv.quiet{X:Cx}{Z:St}(I:Inv X e8 Z H s):interactive X.env=M:=by simp[interactive,I.ok.kind]
def QX(te:TE):TS:=λD Z H=>te Z H λ_ H1=>D.nx Z H1
def qb{X:Cx}{pos:Pos}(he:PE X e te)(hs:autoParam (swapsWith e J pos.line X.env=pure M) Za1._auto_1):PS X (.Expr e pos) (QX te):=by
 intro e8 s Z H D I h;exact wpAny_Expr_any (thn (he e8 s Z H _ I h) λv s1 ⟨x,H1,I1,r1,q1⟩=> ⟨Z,H1,I1,q1⟩) I.quiet hs
def U4(te:TE):TS:=λD Z H=>te Z H D.rt
def GL(he:PE X e te):PS X (.Return (U e) pos) (U4 te):=by
 intro e8 s Z H D I h;exact wpAny_Return_some (thn (he e8 s Z H _ I h) λv s1 ⟨x,H1,I1,r1,q1⟩=> ⟨x,Z,H1,I1,r1,q1⟩)
def U5(c:TT)(t u:TS):TS:=λD Z H=>c Z H λb H1=>if b=O then t D Z H1 else u D Z H1
def QY(hc:PT X c tc)(ha:PSs X a t)(hb:PSs X b u):PS X (.If c a b pos) (U5 tc t u):=by
 intro e8 s Z H D I h;refine wpAny_If (thn (hc e8 s Z H _ I h) λd s1 ⟨H1,I1,q1⟩=> ?_);cases d with
 |true=>exact ha e8 s1 Z H1 D I1 q1
 |false=>exact hb e8 s1 Z H1 D I1 q1
end
abbrev TG:=V->St->Hp->(St->Hp->Prop)->Prop
abbrev TGs:=List V->St->Hp->(St->Hp->Prop)->Prop
def PG(X:Cx)(target:ZJ)(t:TG):Prop:=
 ∀(e8:LAO) (s:ZI) (Z:St) (H:Hp) (v:V) (u:ZH) (Q:St->Hp->Prop),Inv X e8 Z H s->Zt v u->t v Z H Q->
  wpAny (model X.prog X.w) X.A (assign target X.env u) (λ_ s' =>∃Z' H',Inv X e8 Z' H' s' /\Q Z' H') X.xe s
def PGs(X:Cx)(ts:List ZJ)(t:TGs):Prop:=
 ∀(e8:LAO) (s:ZI) (Z:St) (H:Hp) (vs:List V) (us:List ZH) (Q:St->Hp->Prop),Inv X e8 Z H s->Zu vs us->t vs Z H Q->
  wpAny (model X.prog X.w) X.A (assignInOrder ((assignEach ts X.env).map (·.2)) us) (λ_ s' =>∃Z' H',Inv X e8 Z' H' s' /\Q Z' H') X.xe s
abbrev U6:=V->V->V->Hp->(Hp->Prop)->Prop
def U7(X:Cx)(t:U6):Prop:=
 ∀(e8:LAO) (s:ZI) (Z:St) (H:Hp) (o i v:V) (ov iv u:ZH) (Q:Hp->Prop),Inv X e8 Z H s->Zt o ov->Zt i iv->Zt v u->t o i v H Q->
  wpAny (model X.prog X.w) X.A (setItem ov iv u) (λ_ s' =>∃H',Inv X e8 Z H' s' /\Q H') X.xe s
def MM(i:Nat):TG:=λv Z H Q=>Q (Z.set i (U v)) H
def CO{X:Cx}(hN:X.N.Nodup)(hi:X.N[i]? =U x)(hx:Loc X.env.scope x)(hf:autoParam (X.fn x=O\/X.env.scope.names.lookup x=U .local) Za3._auto_1):PG X (.Name x pos) (MM i):=by
 intro e8 s Z H v u Q I r h;exact wpAny_assign_Name (wN I hN hi hx r (λs' I' => ⟨_,H,I',h⟩) hf)
def U8:TGs:=λvs Z H Q=>vs=[]/\Q Z H
def QZ(t:TG)(u:TGs):TGs:=λvs Z H Q=>∃v r,vs=v::r/\t v Z H λZ' H' =>u r Z' H' Q
def Kg:PGs X [] U8:=by
 intro e8 s Z H vs us Q I r h;obtain⟨e,h⟩:=h;exact assignInOrder_nil ⟨Z,H,I,h⟩
def GN{X:Cx}(h1:PG X e t)(h2:PGs X es u)
  (hs:autoParam ((assignEach (e::es) X.env).map (·.2)=assign e X.env::(assignEach es X.env).map (·.2)) Za1._auto_1):PGs X (e::es) (QZ t u):=by
 intro e8 s Z H vs us Q I r h;obtain⟨v,vr,e1,h⟩:=h;subst e1;cases r with
 |cons r rr=>
  rw[hs];refine assignInOrder_cons (thn (h1 e8 s Z H _ _ _ I r h) λ_ s1 ⟨Z1,H1,I1,q1⟩=> ?_);exact h2 e8 s1 Z1 H1 _ _ Q I1 rr q1
def U9(K:PySem.W.Frag)(n:Nat)(t:TGs):TG:=λv Z H Q=>∃a xs,v= .ref a/\SqT K H a xs/\xs.length=n/\t xs Z H Q
def NB{X:Cx}(hc:X.calm=O)(h:PGs X es t)
  (hn:autoParam ((assignEach es X.env).length=n) Za1._auto_1)(ya:autoParam ((assignEach es X.env).findIdx? (·.1)=J) Za1._auto_1):PG X (.Tuple es k pos) (U9 X.K n t):=by
 intro e8 s Z H v u Q I r hw;obtain⟨a,xs,e1,hq,hl,hw⟩:=hw;subst e1;cases r;obtain⟨its,rv,ht,hz⟩:=I.tuple hq;refine assign_Tuple_tuple (I.ok.hd hc) ht (by simp[hn,<-hl,rv.length]) ya λh' hx=> ?_;have I1:Inv X e8 Z H {s with heap:=h' }:=I.kept λb o e=>hx b o (GaI (Gaz e)) e;exact h e8 _ Z H xs _ Q I1 (by simpa using rv) hw
def Ua(te:TE)(g:TG):TS:=λD Z H=>te Z H λx H1=>g x Z H1 D.nx
def Br{X:Cx}{pos:Pos}(hN:X.N.Nodup)(hi:X.N[i]? =U x)(hx:Loc X.env.scope x)(he:PE X e te)(hs:autoParam (swapsWith e (U (.Name x pos')) pos.line X.env=pure M) Za1._auto_1)(hf:autoParam (X.fn x=O\/X.env.scope.names.lookup x=U .local) Za3._auto_1):
  PS X (.Assign [.Name x pos'] e pos) (Ua te (MM i)):=by
 intro e8 s Z H D I h;refine wpAny_Assign_Name (thn (he e8 s Z H _ I h) λv s1 ⟨y,H1,I1,r1,q1⟩=> ?_) hs;exact wN I1 hN hi hx r1 (λs2 I2=> ⟨_,H1,I2,q1⟩) hf
def NC(c:TT)(tb:TS):TS:=λD Z H=>∃W:Nat->St->Hp->Prop,(∃m,W m Z H)/\∀m Z H,W m Z H->
 c Z H λb H1=>if b=O then∃N:St->Hp->Prop,(∀Z' H',N Z' H' ->∃m',m' <m/\W m' Z' H')/\tb {D with nx:=N,ct:=N,bk:=D.nx} Z H1 else D.nx Z H1
def GO{X:Cx}(hp:PassesOwn (model X.prog X.w) X.A X.env X.xe)(hc:PT X c tc)(hb:PSs X body tb):PS X (.While c body [] pos) (NC tc tb):=by
 intro e8 s Z H D I h;obtain⟨W,⟨m0,w0⟩,turn⟩:=h;refine wpAny_While (codeAny_whileLoop (λn s' =>∃Z' H',Inv X e8 Z' H' s' /\W n Z' H') ?_ m0 ⟨Z,H,I,w0⟩);rintro n s1 ⟨Z1,H1,I1,w1⟩;refine Gci hp (thn (hc e8 s1 Z1 H1 _ I1 (turn n Z1 H1 w1)) λb s2 ⟨H2,I2,q2⟩=> ?_);cases b with
 |true=>
  obtain⟨N,hN,q2⟩:=q2;refine Gci hp (thn (hb e8 s2 Z1 H2 _ I2 q2) λf s3 q3=> ?_);cases f with
  |next=>
   obtain⟨Z3,H3,I3,n3⟩:=q3;obtain⟨m',hm,w3⟩:=hN Z3 H3 n3;exact⟨m',hm,Z3,H3,I3,w3⟩
  |cont=>
   obtain⟨Z3,H3,I3,n3⟩:=q3;obtain⟨m',hm,w3⟩:=hN Z3 H3 n3;exact⟨m',hm,Z3,H3,I3,w3⟩
  |brk=>exact q3
  |ret v=>exact q3
 |false=>
  exact GdD ⟨Z1,H2,I2,q2⟩
structure It where
 go:Nat->Hp->Prop
 yld:Nat->Hp->V->Hp->Prop
 stop:Nat->Hp->Prop
def mj(X:Cx)(e8:LAO)(H:Hp)(b:ZG):Prop:=
 H b=J/\b≠X.env.locals/\b∉X.fs/\(b∈X.ex\/X.s₀.heap.objs.size<=b)/\(∀x c,X.env.cells.lookup x=U c->c≠b)/\∀p∈X.pn++e8,p.1≠b
def Inv.EB{Z:St}{s:ZI}{b:ZG}(I:Inv X e8 Z H s)(hb:s.heap.objs.size<=b)(hn:H' b=J):mj X e8 H' b:=by
 refine⟨hn,GbR (GaJ I.lt hb),I.TY hb,.inr (Gbo I.sz hb),λx c e z=> ?_,λp hp z=> ?_⟩
 .obtain⟨v,q⟩:=I.cell x c e;exact absurd (GaJ q.lt (by rw[z];exact hb)) (Gbz _)
 .exact absurd (GaJ (Gaz (I.pin p hp).1) (by rw[z];exact hb)) (Gbz _)
structure Turn(P:ZQ)(w:World)(K:PySem.W.Frag)(tg:ZJ)(Zp:It)(fp:List ZG)(it:ZG)(tn:Nat->ZK->Prop):Prop where
 mem:it∈fp
 obj:∀i h,tn i h->∀b∈fp,∃o,h.get? b=U o/\∀v,o.data≠ .cell v
 keep:∀i h h',tn i h->(∀b∈fp,∀o,h.get? b=U o->h'.get? b=U o)->tn i h'
 item:∀(X:Cx),X.prog=P->X.w=w->X.K=K->X.calm=O->∀(i:Nat) (e8:LAO) (s:ZI) (Z:St) (H:Hp) (E:VSP),Inv X e8 Z H s->(∀b∈fp,mj X e8 H b)->tn i s.heap->Zp.go i H->
  wpAny (model P w) X.A (pyNext (.ref it)) (λr s1=>∃u,r=U u/\
   wpAny (model P w) X.A (letOwnedTupleGo tg (.ref it) u) (λ_ s2=>∃x H',Inv X e8 Z H' s2/\Zt x u/\Zp.yld i H x H' /\tn (i+1) s2.heap/\∀b∈fp,H' b=J) E s1) E s
 done:∀(X:Cx),X.prog=P->X.w=w->X.K=K->X.calm=O->∀(i:Nat) (e8:LAO) (s:ZI) (Z:St) (H:Hp) (E:VSP),Inv X e8 Z H s->(∀b∈fp,mj X e8 H b)->tn i s.heap->Zp.stop i H->
  wpAny (model P w) X.A (pyNext (.ref it)) (λr s1=>r=J/\Inv X e8 Z H s1) E s
 self:∀(A:ZL) (i:Nat) (s:ZI) (Q:VSP) (E:VSP),tn i s.heap->Q (.ref it) s->wpAny (model P w) A (pyIter (.ref it)) Q E s
abbrev TI:=St->Hp->(It->Hp->Prop)->Prop
def PIE(X:Cx)(e8:LAO)(Z:St)(tg:ZJ)(R:It->Hp->Prop)(zI:ZH)(s2:ZI):Prop:=
 ∃(it:ZG) (fp:List ZG) (tn:Nat->ZK->Prop) (Zp:It) (H' :Hp),zI= .ref it/\Inv X e8 Z H' s2/\Turn X.prog X.w X.K tg Zp fp it tn/\tn 0 s2.heap/\(∀b∈fp,mj X e8 H' b)/\R Zp H'
def PI(X:Cx)(tg iter:ZJ)(wi:TI):Prop:=
 ∀(e8:LAO) (s:ZI) (Z:St) (H:Hp) (R:It->Hp->Prop),Inv X e8 Z H s->wi Z H R->
  wpAny (model X.prog X.w) X.A (eval iter X.env) (λv s1=>wpAny (model X.prog X.w) X.A (pyIter v) (PIE X e8 Z tg R) X.xe s1) X.xe s
def GP{s:ZI}{o:ZM}(ho:s.heap.get? it=U o)(hc:o.cls= .type n)(hd:o.data= .fields vs)
  (hn:["enumerate","zip","dict_itemiterator","dict_reverseitemiterator","odict_iterator","itertools.zip_longest","itertools.pairwise"].contains n=M)(hQ:Q () s):wpAny Zr A (letOwnedTupleGo tg (.ref it) u) Q E s:=by
 cases tg<;>first
  |exact Gad hQ
  |(cases u<;>first
    |exact Gad hQ
    |(refine Gab (wpAny_load ho ?_)
      rw[hc,hd];show wpAny Zr A (if(["enumerate","zip","dict_itemiterator","dict_reverseitemiterator","odict_iterator","itertools.zip_longest","itertools.pairwise"].contains n&&vs[0]? ==U (rawInt _))=O then _ else _) Q E s;rw[Gai (by intro h;rw[hn] at h;cases h)];exact Gad hQ))
noncomputable def Itl(K:PySem.W.Frag)(a:ZG):It:=
 ⟨λi H=>∃xs x,SqL K H a xs/\xs[i]? =U x,λi H x H' =>H' =H/\∀xs,SqL K H a xs->xs[i]? =U x,λi H=>∃xs,SqL K H a xs/\xs.length<=i⟩
noncomputable def Itt(K:PySem.W.Frag)(a:ZG):It:=
 ⟨λi H=>∃xs x,SqT K H a xs/\xs[i]? =U x,λi H x H' =>H' =H/\∀xs,SqT K H a xs->xs[i]? =U x,λi H=>∃xs,SqT K H a xs/\xs.length<=i⟩
noncomputable def Itr(lo:Int)(n:Nat):It:=⟨λi _=>i<n,λi H x H' =>H' =H/\x= .int (lo+i),λi _=>n<=i⟩
theorem EC{K:PySem.W.Frag}(a it:ZG):Turn P w K tg (Itl K a) [it] it (λi h=>h.IsListIter it a i) where
 mem:=by simp
 obj:=λi h st b hb=>by
  have e:b=it:=by simpa using hb
  subst e;obtain⟨o,e,c,d⟩:=st;simp_all
 keep:=λi h h' st k=>st.at λo e=>k it (by simp) o e
 item:=by
  intro X hP hw hK hc i e8 s Z H E I hf st hg;subst hP hw hK;obtain⟨xs,x,hq,hx⟩:=hg;obtain⟨its,rv,p,hz⟩:=I.list hq;obtain⟨u,hu,ru⟩:=rv.get hx;obtain⟨f0,f1,f2,f3,f4,f5⟩:=hf it (by simp);refine wpAny_pyNext_list_item st p.isList (by simpa using hu) λh' xJ sb=> ?_;have I1:Inv X e8 Z H {s with heap:=h' }:=I.turned (λb o hb e=>(sb.2 b hb).trans e) f0 f1 f3 f4 f5;obtain⟨o,e,c,d⟩:=id xJ;exact⟨u,rfl,GP e c d (by decide) ⟨x,H,I1,ru,⟨rfl,λys hy=>by rw[I.wO hy hq];exact hx⟩,xJ,λb hb=>(hf b hb).1⟩⟩
 done:=by
  intro X hP hw hK hc i e8 s Z H E I hf st hg;subst hP hw hK;obtain⟨xs,hq,hx⟩:=hg;obtain⟨its,rv,p,hz⟩:=I.list hq;obtain⟨f0,f1,f2,f3,f4,f5⟩:=hf it (by simp);have hl:=rv.length;exact wpAny_pyNext_list_end (I.ok.hd hc) st p.isList (by simp;lia) λh' eb=> ⟨rfl,I.turned (λb o hb e=>eb b o hb e) f0 f1 f3 f4 f5⟩
 self:=λ_ _ _ _ _ st h=>wpAny_pyIter_listiter st h
theorem Bs{K:PySem.W.Frag}(a it:ZG):Turn P w K tg (Itt K a) [it] it (λi h=>h.IsTupleIter it a i) where
 mem:=by simp
 obj:=λi h st b hb=>by
  have e:b=it:=by simpa using hb
  subst e;obtain⟨o,e,c,d⟩:=st;simp_all
 keep:=λi h h' st k=>st.at λo e=>k it (by simp) o e
 item:=by
  intro X hP hw hK hc i e8 s Z H E I hf st hg;subst hP hw hK;obtain⟨xs,x,hq,hx⟩:=hg;obtain⟨its,rv,p,hz⟩:=I.tuple hq;obtain⟨u,hu,ru⟩:=rv.get hx;obtain⟨f0,f1,f2,f3,f4,f5⟩:=hf it (by simp);refine wpAny_pyNext_tuple_item st (show s.heap.IsTuple a its.toArray from p) (by simpa using hu) λh' xJ sb=> ?_;have I1:Inv X e8 Z H {s with heap:=h' }:=I.turned (λb o hb e=>(sb.2 b hb).trans e) f0 f1 f3 f4 f5;obtain⟨o,e,c,d⟩:=id xJ;exact⟨u,rfl,GP e c d (by decide) ⟨x,H,I1,ru,⟨rfl,λys hy=>by rw[I.tX hy hq];exact hx⟩,xJ,λb hb=>(hf b hb).1⟩⟩
 done:=by
  intro X hP hw hK hc i e8 s Z H E I hf st hg;subst hP hw hK;obtain⟨xs,hq,hx⟩:=hg;obtain⟨its,rv,p,hz⟩:=I.tuple hq;obtain⟨f0,f1,f2,f3,f4,f5⟩:=hf it (by simp);have hl:=rv.length;exact wpAny_pyNext_tuple_end (I.ok.hd hc) st (show s.heap.IsTuple a its.toArray from p) (by simp;lia) λh' eb=> ⟨rfl,I.turned (λb o hb e=>eb b o hb e) f0 f1 f3 f4 f5⟩
 self:=λ_ _ _ _ _ st h=>wpAny_pyIter_tupleiter st h
theorem Bt{K:PySem.W.Frag}(it:ZG)(lo:Int)(n:Nat):Turn P w K tg (Itr lo n) [it] it (λi h=>IsRangeIter h it (lo+(i:Nat)*1) ((n:Int)-(i:Nat)) 1) where
 mem:=by simp
 obj:=λi h st b hb=>by
  simp_all
 keep:=λi h h' st k=>k it (by simp) _ st
 item:=by
  intro X hP hw hK hc i e8 s Z H E I hf st hg;subst hP hw hK;obtain⟨f0,f1,f2,f3,f4,f5⟩:=hf it (by simp);have W:=Walks.range (prog:=X.prog) (w:=X.w) (I.ok.hd hc) it lo 1 n;refine W.item i s _ _ hg st λv h' tk hv xJ kk=> ?_;obtain⟨t,rfl⟩:=hv;have I1:Inv X e8 Z H {s with heap:=h',toks:=tk}:=I.turned (λb o hb e=>kk b o (by simpa using hb) e) f0 f1 f3 f4 f5;refine⟨_,rfl,GP xJ rfl rfl (by decide) ⟨.int (lo+i),H,I1,⟨t, ?_⟩,⟨rfl,rfl⟩,xJ,λb hb=>(hf b hb).1⟩⟩;rw[Int.mul_one]
 done:=by
  intro X hP hw hK hc i e8 s Z H E I hf st hg;obtain⟨f0,f1,f2,f3,f4,f5⟩:=hf it (by simp);exact wpAny_pyNext_range_end (I.ok.hd hc) st (by have:n<=i:=hg;lia) λh' eb=> ⟨rfl,I.turned (λb o hb e=>eb b o hb e) f0 f1 f3 f4 f5⟩
 self:=λ_ _ _ _ _ st h=>wpAny_pyIter_rangeiter st h
section
variable{Z:St}
def km{X:Cx}{tg:ZJ}{e8:LAO}{s:ZI}{R:It->Hp->Prop}{E:VSP}{lo hi:Int}{t u v:Tok}{tk:Nat}(I:Inv X e8 Z H s)(h1: -(2^62)<=lo)(h2:lo<2^62)(h3: -(2^62)<=hi)(h4:hi<2^62)
  (q:R (Itr lo (hi -lo).toNat) H):wpAny (model X.prog X.w) X.A (pyIter (.ref s.heap.objs.size)) (PIE X e8 Z tg R) E {s with heap:=s.heap.push {cls:= .type "range",data:= .fields #[.int lo t,.int hi u,.int 1 v]},toks:=tk}:=by
 refine wpAny_pyIter_range (IsRange.new ..) (small_one h1 h2 h3 h4) ?_;have I1:Inv X e8 Z H {s with heap:=s.heap.push {cls:= .type "range",data:= .fields #[.int lo t,.int hi u,.int 1 v]},toks:=tk}:=I.kept λb o e=>Gag _ e;refine⟨(s.heap.push {cls:= .type "range",data:= .fields #[.int lo t,.int hi u,.int 1 v]}).objs.size,[(s.heap.push {cls:= .type "range",data:= .fields #[.int lo t,.int hi u,.int 1 v]}).objs.size],_,_,H,rfl,
  I1.kept (t' :=tk) λb o e=>Gag _ e,Bt _ lo (hi -lo).toNat, ?_,λb hb=> ?_,q⟩
 .have e1:lo+((0:Nat):Int)*1=lo:=by simp
  have e2:(((hi -lo).toNat:Nat):Int)-((0:Nat):Int)=Builtin.Range.rangeSize lo hi 1:=by rw[rangeSize_one];split<;>lia
  show IsRangeIter _ _ (lo+((0:Nat):Int)*1) ((((hi -lo).toNat:Nat):Int)-((0:Nat):Int)) 1;rw[e1,e2];exact Gaw _ rfl
 .have e:b=(s.heap.push {cls:= .type "range",data:= .fields #[.int lo t,.int hi u,.int 1 v]}).objs.size:=by simpa using hb
  subst e;exact I1.EB (Gan _) (I1.hok.fresh (Gan _))
def R0(ta:TA):TI:=λZ H R=>ta Z H λvs H1=>∃j:Int,vs=[.int j]/\-(2^62)<=j/\j<2^62/\R (Itr 0 j.toNat) H1
def R4(ta:TA):TI:=λZ H R=>ta Z H λvs H1=>∃i j:Int,vs=[.int i,.int j]/\(-(2^62)<=i/\i<2^62/\-(2^62)<=j/\j<2^62)/\R (Itr i (j -i).toNat) H1
def ED{X:Cx}(hg:Gl X "range")(hm:X.mg "range"=J)(ha:PA X [a] ta)(hs:autoParam (starEach [a] X.env=[(M,eval a X.env)]) Za1._auto_1):PI X tg (.Call (.Name "range" p) [a] [] pos) (R0 ta):=by
 intro e8 s Z H R I h;refine Call_ (kh I hg hm boot_range (GbG (thn (ha pos e8 s Z H _ I h) λus s1 ⟨vs,H1,I1,r1,q1⟩=> ?_) hs rfl));obtain⟨j,e,q1,q2,q⟩:=q1;subst e;cases r1 with
 |cons r rr=>
  cases rr;obtain⟨t,rfl⟩:=r;exact call_range_1 (km I1 (by lia) (by lia) q1 q2 (by simpa using q))
def EF{X:Cx}(hg:Gl X "range")(hm:X.mg "range"=J)(ha:PA X [a,b] ta)(hs:autoParam (starEach [a,b] X.env=[(M,eval a X.env),(M,eval b X.env)]) Za1._auto_1)(xd:autoParam (starEach [b] X.env=[(M,eval b X.env)]) Za1._auto_1):
  PI X tg (.Call (.Name "range" p) [a,b] [] pos) (R4 ta):=by
 intro e8 s Z H R I h;refine Call_ (kh I hg hm boot_range (GbG (thn (ha pos e8 s Z H _ I h) λus s1 ⟨vs,H1,I1,r1,q1⟩=> ?_) (by rw[hs,xd]) (by rw[xd];rfl)));obtain⟨i,j,e,⟨q1,q2,q3,q4⟩,q⟩:=q1;subst e;cases r1 with
 |cons r rr=>
  cases rr with
  |cons r' rr=>
   cases rr;obtain⟨t,rfl⟩:=r;obtain⟨t',rfl⟩:=r';exact call_range_2 (km I1 q1 q2 q3 q4 q)
def Ub(wi:TI)(g:TG)(tb:TS):TS:=λD Z H=>wi Z H λZp H1=>∃W:Nat->Nat->St->Hp->Prop,(∃m,W 0 m Z H1)/\∀i m Z H,W i m Z H->
 (Zp.stop i H/\D.nx Z H)\/(Zp.go i H/\∃N:St->Hp->Prop,(∀Z' H',N Z' H' ->∃m',m' <m/\W (i+1) m' Z' H')/\∀x H',Zp.yld i H x H' ->g x Z H' λZ2 H2=>tb {D with nx:=N,ct:=N,bk:=D.nx} Z2 H2)
noncomputable def qp(fp:List ZG)(h:ZK):LAO:=fp.filterMap λb=>(h.get? b).map λo=>(b,o)
variable{h:ZK}
def jQ(hb:b∈fp)(e:h.get? b=U o):(b,o)∈qp fp h:=Gdc.mpr ⟨b,hb,by rw[e];rfl⟩
def EG(hp:p∈qp fp h):p.1∈fp/\h.get? p.1=U p.2:=by
 obtain⟨b,hb,e⟩:=Gdc.mp hp;cases q:h.get? b with
 |none=>rw[q] at e;cases e
 |some o=>
  rw[q] at e;have e' :=Option.some.inj e;subst e';exact⟨hb,q⟩
def Inv.pinned{s:ZI}(I:Inv X e8 Z H s)(hf:∀b∈fp,mj X e8 H b)(ho:∀b∈fp,∃o,s.heap.get? b=U o/\∀v,o.data≠ .cell v):Inv X (e8++qp fp s.heap) Z H s:=
 I.CN λp hp=>(Gau.mp hp).elim (λz=>I.pin p (Gbl _ z)) λz=>by
  obtain⟨hb,e⟩:=EG z;obtain⟨f0,f1,f2,_⟩:=hf p.1 hb;obtain⟨o,e',d⟩:=ho p.1 hb;simp_all
def Inv.mY(I:Inv X (e8++pl) Z H s):Inv X e8 Z H s:=I.CN λp hp=>I.pin p (Gbl _ (GbQ _ hp))
def GQ{X:Cx}(hp:PassesOwn (model X.prog X.w) X.A X.env X.xe)(hc:X.calm=O)(hi:PI X tg iter wi)(hg:PG X tg g)(hb:PSs X body tb)
  (hs:∀x,foldedSetIterable iter X.env x=pure x:=by intro _;rfl):PS X (.For tg iter body [] pos) (Ub wi g tb):=by
 intro e8 s Z H D I h;refine wpAny_For (thn (hi e8 s Z H _ I h) λv s1 h1=>thn h1 λzI s2 h2=> ?_) hs;obtain⟨it,fp,tn,Zp,H2,e,I2,T,yY,f2,W,⟨m0,w0⟩,turn⟩:=h2;subst e;have stat:∀{H' :Hp},(∀b∈fp,H' b=J)->∀b∈fp,mj X e8 H' b:=λhn b hb=> ⟨hn b hb,(f2 b hb).2⟩;refine codeAny_forLoop_any (λn s' =>∃i Z' H',Inv X e8 Z' H' s' /\tn i s'.heap/\(∀b∈fp,H' b=J)/\W i n Z' H') ?_ m0 ⟨0,Z,H2,I2,yY,λb hb=>(f2 b hb).1,w0⟩;rintro n s3 ⟨i,Z3,H3,I3,Xv,Y4,w3⟩;rcases turn i n Z3 H3 w3 with⟨stop,qn⟩| ⟨go,N,hN,step⟩
 .refine Gci hp (thn (T.done X rfl rfl rfl hc i e8 s3 Z3 H3 X.xe I3 (stat Y4) Xv stop) λr s4 ⟨hr,I4⟩=> ?_);subst hr;exact GdD ⟨Z3,H3,I4,qn⟩
 .refine Gci hp (thn (T.item X rfl rfl rfl hc i e8 s3 Z3 H3 X.xe I3 (stat Y4) Xv go) λr s4 ⟨u,hr,h4⟩=> ?_);subst hr;refine Gci hp (thn h4 λ_ s5 ⟨x,H5,I5,r5,y5,yX,Xm⟩=> ?_);have I5' :=I5.pinned (stat Xm) (T.obj _ _ yX);refine Gci hp (thn (hg _ s5 Z3 H5 x u _ I5' r5 (step x H5 y5)) λ_ s6 ⟨Z6,H6,I6,q6⟩=> ?_);refine Gci hp (thn (hb _ s6 Z6 H6 _ I6 q6) λf s7 q7=> ?_);have again:∀{Z7:St} {H7:Hp},Inv X (e8++qp fp s5.heap) Z7 H7 s7->N Z7 H7->∃m,m<n/\∃i Z' H',Inv X e8 Z' H' s7/\tn i s7.heap/\(∀b∈fp,H' b=J)/\W i m Z' H' :=λ{Z7 H7} I7 n7=>by
   obtain⟨m',hm,w7⟩:=hN Z7 H7 n7;refine⟨m',hm,i+1,Z7,H7,I7.mY,T.keep _ _ _ yX λb hb o e=>(I7.pin (b,o) (Gbl _ (Gbl _ (jQ hb e)))).1,λb hb=> ?_,w7⟩;obtain⟨o,e,d⟩:=T.obj _ _ yX b hb;exact(I7.pin (b,o) (Gbl _ (Gbl _ (jQ hb e)))).2.1
  cases f with
  |next=>obtain⟨Z7,H7,I7,n7⟩:=q7;exact again I7 n7
  |cont=>obtain⟨Z7,H7,I7,n7⟩:=q7;exact again I7 n7
  |brk=>obtain⟨Z7,H7,I7,q7⟩:=q7;exact⟨Z7,H7,I7.mY,q7⟩
  |ret v=>obtain⟨x7,Z7,H7,I7,r7,q7⟩:=q7;exact⟨x7,Z7,H7,I7.mY,r7,q7⟩
end
abbrev R2:=V->V->Hp->VK->Prop
def OpR(X:Cx)(f:ZH->ZH->Sem ZH)(r:R2):Prop:=
 ∀(e8:LAO) (s:ZI) (Z:St) (H:Hp) (x y:V) (v u:ZH) (Q:VK),Inv X e8 Z H s->Zt x v->Zt y u->r x y H Q->
  wpAny (model X.prog X.w) X.A (f v u) (EP X e8 Z Q) X.xe s
def UnR(X:Cx)(f:ZH->Sem ZH)(r:V->Hp->VK->Prop):Prop:=
 ∀(e8:LAO) (s:ZI) (Z:St) (H:Hp) (x:V) (v:ZH) (Q:VK),Inv X e8 Z H s->Zt x v->r x H Q->
  wpAny (model X.prog X.w) X.A (f v) (EP X e8 Z Q) X.xe s
def i0(X:Cx)(f:ZH)(r:List V->Hp->VK->Prop):Prop:=
 ∀(e8:LAO) (s:ZI) (Z:St) (H:Hp) (xs:List V) (us:List ZH) (Q:VK),Inv X e8 Z H s->Zu xs us->r xs H Q->
  wpAny (model X.prog X.w) X.A (call f us) (EP X e8 Z Q) X.xe s
def tOp(r:R2)(ta tb:TE):TE:=λZ H Q=>ta Z H λx H1=>tb Z H1 λy H2=>r x y H2 Q
def tUn(r:V->Hp->VK->Prop)(ta:TE):TE:=λZ H Q=>ta Z H λx H1=>r x H1 Q
def rI(C:Int->Int->Prop)(g:Int->Int->V):R2:=λx y H Q=>∃i j,x= .int i/\y= .int j/\C i j/\Q (g i j) H
def rI0(g:Int->Int->V):R2:=λx y H Q=>∃i j,x= .int i/\y= .int j/\Q (g i j) H
def rU(g:Int->V):V->Hp->VK->Prop:=λx H Q=>∃i,x= .int i/\Q (g i) H
section
def ND{X:Cx}{ta tb:TE}{Z:St}{R:V->V->Hp->Prop}{f:ZH->ZH->Sem ZH}(ha:PE X a ta)(hb:PE X b tb)(I:Inv X e8 Z H s)
  (h:ta Z H λx H1=>tb Z H1 λy H2=>R x y H2)
  (hf:∀v u s2 x y H2,Inv X e8 Z H2 s2->Zt x v->Zt y u->R x y H2->wpAny (model X.prog X.w) X.A (f v u) Q X.xe s2):
  wpAny (model X.prog X.w) X.A (eval a X.env) (λv s₁=>wpAny (model X.prog X.w) X.A (eval b X.env) (λu s₂=>wpAny (model X.prog X.w) X.A (f v u) Q X.xe s₂) X.xe s₁) X.xe s:=by
 refine thn (ha e8 s Z H _ I h) λv s1 ⟨x,H1,I1,r1,q1⟩=> ?_;refine thn (hb e8 s1 Z H1 _ I1 q1) λu s2 ⟨y,H2,I2,r2,q2⟩=> ?_;exact hf v u s2 x y H2 I2 r1 r2 q2
def R5(ho:OpR X (binaryOp op) r)(ha:PE X a ta)(hb:PE X b tb):PE X (.BinOp a op b pos) (tOp r ta tb):=by
 intro e8 s Z H Q I h;exact wpAny_BinOp (ND ha hb I h λv u s2 x y H2 I2 rx ry q=>ho e8 s2 Z H2 x y v u Q I2 rx ry q)
def R6(ho:UnR X (unaryOp op) r)(ha:PE X a ta):PE X (.UnaryOp op a pos) (tUn r ta):=by
 intro e8 s Z H Q I h;exact UnaryOp_ (thn (ha e8 s Z H _ I h) λv s1 ⟨x,H1,I1,r1,q1⟩=>ho e8 s1 Z H1 x v Q I1 r1 q1)
variable{g:Int->Int->Int}
def opI{X:Cx}{f:ZH->ZH->Sem ZH}{C:Int->Int->Prop}
  (rule:∀(i j:Int) t u s Q E,C i j->Q (.int (g i j) s.toks) {s with toks:=s.toks+1}->wpAny (model X.prog X.w) X.A (f (.int i t) (.int j u)) Q E s):
  OpR X f (rI C λi j=> .int (g i j)):=by
 intro e8 s Z H x y v u Q I rx ry h;obtain⟨i,j,rfl,rfl,hc,q⟩:=h;obtain⟨t,rfl⟩:=rx;obtain⟨t',rfl⟩:=ry;exact rule i j t t' s _ _ hc ⟨.int (g i j),H,I.tok _,⟨_,rfl⟩,q⟩
def R7{X:Cx}{f:ZH->ZH->Sem ZH}
  (rule:∀(i j:Int) t u s Q E,Q (.int (g i j) s.toks) {s with toks:=s.toks+1}->wpAny (model X.prog X.w) X.A (f (.int i t) (.int j u)) Q E s):
  OpR X f (rI0 λi j=> .int (g i j)):=by
 intro e8 s Z H x y v u Q I rx ry h;obtain⟨i,j,rfl,rfl,q⟩:=h;obtain⟨t,rfl⟩:=rx;obtain⟨t',rfl⟩:=ry;exact rule i j t t' s _ _ ⟨.int (g i j),H,I.tok _,⟨_,rfl⟩,q⟩
def Kh{X:Cx}{f:ZH->ZH->Sem ZH}{g:Int->Int->Bool}
  (rule:∀(i j:Int) t u s Q E,Q (.bool (g i j)) s->wpAny (model X.prog X.w) X.A (f (.int i t) (.int j u)) Q E s):
  OpR X f (rI0 λi j=> .bl (g i j)):=by
 intro e8 s Z H x y v u Q I rx ry h;obtain⟨i,j,rfl,rfl,q⟩:=h;obtain⟨t,rfl⟩:=rx;obtain⟨t',rfl⟩:=ry;exact rule i j t t' s _ _ ⟨.bl (g i j),H,I,rfl,q⟩
def R8(i j:Int):Prop:=0<j/\j<1073741824
def R9(i j:Int):Prop:=0<=j/\j<=1000000/\i.natAbs<2^64
def Ki(i j:Int):Prop:=(-(2^64)<i/\i<2^64)\/(-(2^64)<j/\j<2^64)
def Ki.ok(h:Ki i j):IntMulOk i j:=by
 rcases h with⟨h1,h2⟩| ⟨h1,h2⟩
 .exact .of_left (intBits_le_64 h1 h2)
 .exact .of_right (intBits_le_64 h1 h2)
def NF:OpR X (binaryOp .Add) (rI0 λi j=> .int (i+j)):=R7 λ_ _ _ _ _ _ _ q=>add_int q
def NG:OpR X (binaryOp .Sub) (rI0 λi j=> .int (i -j)):=R7 λ_ _ _ _ _ _ _ q=>sub_int q
def NH:OpR X (binaryOp .Mult) (rI Ki λi j=> .int (i*j)):=opI λ_ _ _ _ _ _ _ hc q=>mul_int q hc.ok
def Kj:OpR X (binaryOp .FloorDiv) (rI R8 λi j=> .int (i/j)):=opI λi j _ _ _ _ _ hc q=>by
 have h1:=hc.1;have h2:=hc.2;exact floordiv_int (by lia) (by rw[Int.fdiv_eq_ediv_of_nonneg i (by lia)];exact q) (.inl (PyProof.noPylong_small (by lia)))
def NI:OpR X (binaryOp .Mod) (rI (λ_ j=>0<j) λi j=> .int (i%j)):=opI λi j _ _ _ _ _ hc q=>by
 exact mod_int' (by lia) (by rw[Int.fmod_eq_emod_of_nonneg i (by lia)];exact q)
def NJ:OpR X (binaryOp .Pow) (rI R9 λi j=> .int (i^j.toNat)):=opI λ_ _ _ _ _ _ _ hc q=>pow_int_small hc.1 hc.2.1 hc.2.2 q
def unI{X:Cx}{f:ZH->Sem ZH}{g:Int->Int}
  (rule:∀(i:Int) t s Q E,Q (.int (g i) s.toks) {s with toks:=s.toks+1}->wpAny (model X.prog X.w) X.A (f (.int i t)) Q E s):
  UnR X f (rU λi=> .int (g i)):=by
 intro e8 s Z H x v Q I rx h;obtain⟨i,rfl,q⟩:=h;obtain⟨t,rfl⟩:=rx;exact rule i t s _ _ ⟨.int (g i),H,I.tok _,⟨_,rfl⟩,q⟩
def NK:UnR X (unaryOp .USub) (rU λi=> .int (-i)):=unI λ_ _ _ _ _ q=>neg_int q
end
section
variable{ta tb tc:TE}
def GR{Z:St}(I:Inv X e8 Z H s)(q:Q (.bl k) H)(e:k=k'):EP X e8 Z Q (.bool k') s:=by
 subst e;exact⟨.bl k,H,I,rfl,q⟩
def Ra:OpR X (compareOp .Lt) (rI0 λi j=> .bl (decide (i<j))):=Kh λ_ _ _ _ _ _ _ q=>lt_int q
def Rb:OpR X (compareOp .LtE) (rI0 λi j=> .bl (decide (i<=j))):=Kh λ_ _ _ _ _ _ _ q=>le_int q
def Rf:OpR X (compareOp .Gt) (rI0 λi j=> .bl (decide (j<i))):=Kh λ_ _ _ _ _ _ _ q=>gt_int q
def Rg:OpR X (compareOp .GtE) (rI0 λi j=> .bl (decide (j<=i))):=Kh λ_ _ _ _ _ _ _ q=>ge_int q
def NL:OpR X (compareOp .Is) (λx y H Q=>y= .non/\Q (.bl (decide (x= .non))) H):=by
 intro e8 s Z H x y v u Q I rx ry h;obtain⟨rfl,q⟩:=h;cases ry;refine is_none_gen (GR I q ?_);cases x<;>first
  |(cases rx;rfl)
  |(obtain⟨t,rfl⟩:=rx;rfl)
def Kk:OpR X (compareOp .IsNot) (λx y H Q=>y= .non/\Q (.bl (!decide (x= .non))) H):=by
 intro e8 s Z H x y v u Q I rx ry h;obtain⟨rfl,q⟩:=h;cases ry;refine isnot_none_gen (GR I q ?_);cases x<;>first
  |(cases rx;rfl)
  |(obtain⟨t,rfl⟩:=rx;rfl)
def OpR.or(h:OpR X f r)(h' :OpR X f r'):OpR X f (λx y H Q=>r x y H Q\/r' x y H Q):=by
 intro e8 s Z H x y v u Q I rx ry q;rcases q with q|q
 .exact h e8 s Z H x y v u Q I rx ry q
 .exact h' e8 s Z H x y v u Q I rx ry q
def Km(ho:OpR X (compareOp op) r)(ha:PE X a ta)(hb:PE X b tb)(hm:behindInMarks op b=M):PE X (.Compare a [op] [b] pos) (tOp r ta tb):=by
 intro e8 s Z H Q I h;exact wpAny_Compare1 (ND ha hb I h λv u s2 x y H2 I2 rx ry q=>ho e8 s2 Z H2 x y v u Q I2 rx ry q) hm
def MN(t:TE):TT:=λZ H Q=>t Z H λx H' =>∃k,x= .bl k/\Q k H'
def Ko(ho:OpR X (compareOp op) r)(ha:PE X a ta)(hb:PE X b tb)(hm:behindInMarks op b=M):PT X (.Compare a [op] [b] pos) (MN (tOp r ta tb)):=by
 intro e8 s Z H Q I h;refine wpAny_isTrue_Compare1 (thn (ha e8 s Z H _ I h) λv s1 ⟨x,H1,I1,r1,q1⟩=>thn (hb e8 s1 Z H1 _ I1 q1) λu s2 ⟨y,H2,I2,r2,q2⟩=>
  thn (ho e8 s2 Z H2 x y v u _ I2 r1 r2 q2) λc s3 ⟨z,H3,I3,r3,k,e,q3⟩=> ?_) hm
 subst e;cases r3;exact Gbu ⟨H3,I3,q3⟩
def GU(r r' :R2)(ta tb tc:TE):TE:=λZ H Q=>ta Z H λx H1=>tb Z H1 λy H2=>r x y H2 λz H3=>∃k,z= .bl k/\
 (if k=O then tc Z H3 λw' H4=>r' y w' H4 Q else Q (.bl M) H3)
def GV(ho:OpR X (compareOp op) r)(xn :OpR X (compareOp op') r')(ha:PE X a ta)(hb:PE X b tb)(hc:PE X c tc)
  (hm:lastMarks [op,op'] [b,c]=M:=by with_unfolding_all rfl):PE X (.Compare a [op,op'] [b,c] pos) (GU r r' ta tb tc):=by
 intro e8 s Z H Q I h;refine Compare_chain (thn (ha e8 s Z H _ I h) λv s1 ⟨x,H1,I1,r1,q1⟩=>chain_link (thn (hb e8 s1 Z H1 _ I1 q1) λu s2 ⟨y,H2,I2,r2,q2⟩=>
  thn (ho e8 s2 Z H2 x y v u _ I2 r1 r2 q2) λd s3 ⟨z,H3,I3,r3,k,e,q3⟩=> ?_)) hm
 subst e;cases r3;refine Gbu ?_;cases k with
 |false=>exact ite_ff ⟨.bl M,H3,I3,rfl,q3⟩
 |true=>exact ite_tt (chain_last (thn (hc e8 s3 Z H3 _ I3 q3) λw' s4 ⟨z',H4,I4,r4,q4⟩=>xn e8 s4 Z H4 y z' u w' Q I4 r2 r4 q4))
def GW(ho:OpR X (compareOp op) r)(xn :OpR X (compareOp op') r')(ha:PE X a ta)(hb:PE X b tb)(hc:PE X c tc)
  (hm:lastMarks [op,op'] [b,c]=M:=by with_unfolding_all rfl):PT X (.Compare a [op,op'] [b,c] pos) (MN (GU r r' ta tb tc)):=by
 intro e8 s Z H Q I h;refine isTrue_chain (thn (ha e8 s Z H _ I h) λv s1 ⟨x,H1,I1,r1,q1⟩=>test_link (thn (hb e8 s1 Z H1 _ I1 q1) λu s2 ⟨y,H2,I2,r2,q2⟩=>
  thn (ho e8 s2 Z H2 x y v u _ I2 r1 r2 q2) λd s3 ⟨z,H3,I3,r3,k,e,q3⟩=> ?_)) hm
 subst e;cases r3;refine Gbu ?_;cases k with
 |false=>
  obtain⟨k',e',q'⟩:=q3;cases e';exact ite_ff ⟨H3,I3,q'⟩
 |true=>
  refine ite_tt (test_last (thn (hc e8 s3 Z H3 _ I3 q3) λw' s4 ⟨z',H4,I4,r4,q4⟩=>thn (xn e8 s4 Z H4 y z' u w' _ I4 r2 r4 q4) λd' s5 ⟨z2,H5,I5,r5,k2,e2,q5⟩=> ?_));subst e2;cases r5;exact Gbu ⟨H5,I5,q5⟩
def Bu:(sizeLine:Nat)<2^63:=by rw[Gbt];decide
def Bv:OpR X (binaryOp .Add) (λx y H Q=>∃i j,x= .str i/\y= .str j/\i.length+j.length<=sizeLine/\Q (.str (i++j)) H):=by
 intro e8 s Z H x y v u Q I rx ry h;obtain⟨i,j,rfl,rfl,hz,q⟩:=h;obtain⟨t,rfl⟩:=rx;obtain⟨t',rfl⟩:=ry;exact add_str (λt' tk=> ⟨.str (i++j),H,I.tok _,⟨_,rfl⟩,q⟩) hz
def vals1(r:Zu [x] us):∃u,us=[u]/\Zt x u:=by
 cases r with
 |cons r1 r2=>cases r2;exact⟨_,rfl,r1⟩
def vals2(r:Zu [x,y] us):∃u w',us=[u,w']/\Zt x u/\Zt y w' :=by
 cases r with
 |cons r1 r2=>
  cases r2 with
  |cons r3 r4=>cases r4;exact⟨_,_,rfl,r1,r3⟩
def EH{X:Cx}(hc:X.calm=O):i0 X (.builtin "min") (λxs H Q=>∃i j,xs=[.int i,.int j]/\Q (.int (if j<i then j else i)) H):=by
 intro e8 s Z H xs us Q I r h;obtain⟨i,j,rfl,q⟩:=h;obtain⟨u,w',rfl,⟨t,rfl⟩,⟨t',rfl⟩⟩:=vals2 r;refine min_two_ints (I.ok.hd hc) λh' tk k=> ⟨_,H,I.kept k, ?_,q⟩;by_cases hj:j<i
 .rw[Gao hj,Gao hj];exact⟨_,rfl⟩
 .rw[Gai hj,Gai hj];exact⟨_,rfl⟩
def EI:i0 X (.type "int") (λxs H Q=>(∃i,xs=[.int i]/\Q (.int i) H)\/∃k,xs=[.bl k]/\Q (.int (if k then 1 else 0)) H):=by
 intro e8 s Z H xs us Q I r h;rcases h with⟨i,rfl,q⟩| ⟨k,rfl,q⟩
 .obtain⟨u,rfl,t,rfl⟩:=vals1 r;exact call_int_int ⟨.int i,H,I,⟨_,rfl⟩,q⟩
 .obtain⟨u,rfl,r1⟩:=vals1 r;cases r1;exact call_int_bool ⟨.int (if k then 1 else 0),H,I.tok _,⟨_,rfl⟩,q⟩
def Rh(K:PySem.W.Frag)(x:V)(H:Hp)(n:Nat):Prop:=
 match x with
 | .str y=>y.length<=sizeLine/\n=y.length
 | .ref p=>(∃xs,SqL K H p xs/\n=xs.length)\/∃xs,SqT K H p xs/\n=xs.length
 |_=>False
def GX{X:Cx}:i0 X (.builtin "len") (λxs H Q=>∃x n,xs=[x]/\Rh X.K x H n/\Q (.int n) H):=by
 intro e8 s Z H xs us Q I r h;obtain⟨x,n,rfl,e,q⟩:=h;obtain⟨u,rfl,rx⟩:=vals1 r;have hs:=Gbt;cases x with
 |str y=>
  obtain⟨t,rfl⟩:=rx;obtain⟨hy,e'⟩:y.length<=sizeLine/\n=y.length:=e;subst e';exact len_str (by lia) ⟨.int _,H,I.tok _,⟨_,rfl⟩,q⟩
 |ref p=>
  cases rx;have e' :=e;rcases e' with⟨xs,hx,e'⟩| ⟨xs,hx,e'⟩
  .subst e';obtain⟨its,r',pl,hz⟩:=I.list hx;have eL:=r'.length;exact Calls.call_len_list pl.isList (by simp only[Gav];lia) ⟨.int xs.length,H,I.tok _,⟨_,by simp only[Gav];rw[eL]⟩,q⟩
  .subst e';obtain⟨its,r',pl,hz⟩:=I.tuple hx;have eL:=r'.length;exact len_tuple pl (by simp only[Gav];lia) ⟨.int xs.length,H,I.tok _,⟨_,by simp only[Gav];rw[eL]⟩,q⟩
 |_=>exact(show False from e).elim
end
section
variable{H:Hp}
inductive pR(K:PySem.W.Frag)(H:Hp):V->ZH->Prop where
 |non:pR K H .non (.type "NoneType")
 |bl (x:Bool):pR K H (.bl x) (.type "bool")
 |int (i:Int):pR K H (.int i) (.type "int")
 |str (x:Str):pR K H (.str x) (.type "str")
 |lst {a:ZG} {xs:List V} (e:H a=U (.lst xs)):pR K H (.ref a) (.type "list")
 |frz {a:ZG} {o:ZM} {xs:List V} (e:H a=U (.frz o (.lst xs))):pR K H (.ref a) (.type "list")
 |tup {a:ZG} {xs:List V} (e:H a=U (.tup xs)):pR K H (.ref a) (.type "tuple")
 |dT {a:ZG} {eD:List (List Key×V)} (e:H a=U (.dT eD)):pR K H (.ref a) (.type "dict")
def EJ{X:Cx}{Z:St}(I:Inv X e8 Z H s)(rx:Zt x u)(ty:pR X.K H x t)(e:PySem.W.kitOne X.K t c=U b)(h:∀tk,Q (.bool b) {s with toks:=tk}):
  wpAny (model X.prog X.w) A (call (.builtin "isinstance") [u,c]) Q E s:=by
 cases ty with
 |non=>cases(show u=Value.none from rx);exact GbS PySem.W.kitx_none I.kIn True.intro e (λz=>nomatch z) h
 |bl y=>cases(show u=Value.bool y from rx);exact GbS PySem.W.kitx_bool I.kIn True.intro e (λz=>nomatch z) h
 |int i=>obtain⟨t,q⟩:=(show∃t,u=Value.int i t from rx);cases q;exact GbS PySem.W.kitx_int I.kIn True.intro e (λz=>nomatch z) h
 |str y=>obtain⟨t,q⟩:=(show∃t,u=Value.str y t from rx);cases q;exact GbS PySem.W.kitx_str I.kIn True.intro e (λz=>nomatch z) h
 | @lst a xs ea=>
  cases(show u=Value.ref a from rx);obtain⟨_,_,n,_,h1⟩:=(show cJ X.prog X.w H s.heap a (.lst xs) from I.hok a _ ea)
  exact GbS PySem.W.kitx_list I.kIn ⟨_,h1,rfl⟩ e (λz=>nomatch z) h
 | @frz a ob xs ea=>
  cases(show u=Value.ref a from rx);obtain⟨_,_,_,n,_,h1⟩:=(show cJ X.prog X.w H s.heap a (.frz ob (.lst xs)) from I.hok a _ ea)
  exact GbS PySem.W.kitx_list I.kIn ⟨_,h1,rfl⟩ e (λz=>nomatch z) h
 | @tup a xs ea=>
  cases(show u=Value.ref a from rx);obtain⟨_,_,_,p⟩:=(show cJ X.prog X.w H s.heap a (.tup xs) from I.hok a _ ea)
  obtain⟨o,h1,h2,_⟩:=p;exact GbS PySem.W.kitx_tuple I.kIn ⟨o,h1,h2⟩ e (λz=>nomatch z) h
 | @dT a eD ea=>
  cases(show u=Value.ref a from rx);obtain⟨_,_,xs,_,o,es,ep,h1,h2,_⟩:=(show cJ X.prog X.w H s.heap a (.dT eD) from I.hok a _ ea)
  exact GbS PySem.W.kitx_dict I.kIn ⟨o,h1,h2.1⟩ e (λz=>nomatch z) h
end
structure iT(k:Nat)(A:ZL):Prop where
 hd:A.handled=J
 dp:A.depth+3*k+5<recursionLimit
 un:A.units+16*k+200<cLine
def iT.mono(r:iT k A)(h:j<=k):iT j A:=⟨r.hd,by have:=r.dp;lia,by have:=r.un;lia⟩
theorem iT.deeper{A:ZL}(r:iT (k+1) A)(env:Env):iT k (A.deeper env):=
 ⟨r.hd,by have:=r.dp;show A.depth+1+3*k+5<_;lia,by have:=r.un;show A.units+3+16*k+200<_;lia⟩
theorem iT.depth{A:ZL}(r:iT k A):A.depth<recursionLimit:=by have:=r.dp;lia
theorem iT.units{A:ZL}(r:iT k A):A.units+64<cLine:=by have:=r.un;lia
def Uc:TA:=λ_ H Q=>Q [] H
def Ri(ta:TE)(tr:TA):TA:=λZ H Q=>ta Z H λx H1=>tr Z H1 λxs H2=>Q (x::xs) H2
section
variable{t:TA}
def o9:PA X [] Uc:=λ_ _ _ _ H Q I h=>Calls.spliced_nil ⟨[],H,I,.nil,h⟩
def kU{X:Cx}(ha:PE X e te)(hr:PA X es t)(hs:autoParam (starEach (e::es) X.env=(M,eval e X.env)::starEach es X.env) Za1._auto_1):PA X (e::es) (Ri te t):=by
 intro pos e8 s Z H Q I h;rw[hs];show wpAny _ _ (spliced ((M,eval e X.env)::backTo pos (starEach es X.env))) _ _ s;refine GcC (thn (ha e8 s Z H _ I h) λu s1 ⟨x,H1,I1,r1,q1⟩=> ?_);exact thn (hr pos e8 s1 Z H1 _ I1 q1) λus s2 ⟨xs,H2,I2,r2,q2⟩=> ⟨x::xs,H2,I2,.cons r1 r2,q2⟩
def Ud(t:TA):TE:=λZ H Q=>t Z H λxs H1=>xs.length<=sizeLine/\∀p,H1 p=J->Q (.ref p) (upd H1 p (.tup xs))
def Ue(t:TA):TE:=λZ H Q=>t Z H λxs H1=>xs.length<=sizeLine/\∀p,H1 p=J->Q (.ref p) (upd H1 p (.lst xs))
def NM(h:PA X es t):PE X (.Tuple es x1 pos) (Ud t):=by
 intro e8 s Z H Q I hq;refine wpAny_Tuple_spliced (thn (h pos e8 s Z H _ I hq) λus s1 ⟨xs,H1,I1,r,z,q⟩=> ⟨by rw[<-r.length];exact z, ?_⟩);have hf:=I1.hok.fresh (Gan _);refine⟨.ref s1.heap.objs.size,upd H1 s1.heap.objs.size (.tup xs),I1.laid (λb u e=>Gag _ e) (Gan _) ?_,rfl,q _ hf⟩;exact⟨z,us,r,⟨_,Gaw _ rfl,rfl,_,rfl⟩⟩
def GY(h:PA X es t):PE X (.List es pos) (Ue t):=by
 intro e8 s Z H Q I hq;refine wpAny_List_spliced (thn (h pos e8 s Z H _ I hq) λus s1 ⟨xs,H1,I1,r,z,q⟩=> ⟨by rw[<-r.length];exact z, ?_⟩);have hf:=I1.hok.fresh (Gan _);refine⟨.ref s1.heap.objs.size,upd H1 s1.heap.objs.size (.lst xs),I1.laid (λb u e=>Gag _ e) (Gan _) ?_,rfl,q _ hf⟩;exact⟨z,us,0,r,Gaw _ rfl⟩
end
abbrev Sp:=List V->Hp->VK->XK->Prop
abbrev CXT:=List Env->Hp->ZI->XK->VSP
structure Kp(P:ZQ)(w:World)(K:PySem.W.Frag)(mg:Str->Option ZH)(base:ZK)(A:ZL)(outer:List Env)(s:ZI)(H:Hp):Prop where
 frames:A.frames=U outer
 mod:Mod K mg base
 bs:∀b o,base.get? b=U o->s.heap.get? b=U o/\H b=J
 bsz:base.objs.size<=s.heap.objs.size
 qo:s.heap.FunFrames base outer
 frf:∀b∈frs outer,H b=J
 hok:HOk P w H s.heap
 bare:AllBare s.gens
def CE(outer:List Env)(P:ZQ)(w:World)(H:Hp)(s:ZI)(Q:VK)(u:ZH)(s' :ZI):Prop:=
 ∃v H',s'.os=s.os/\AllBare s'.gens/\Un (frs outer) [] H H' s.heap s'.heap/\HOk P w H' s'.heap/\Zt v u/\Q v H'
def CR(CX:CXT)(outer:List Env)(P:ZQ)(w:World)(H:Hp)(s:ZI)(Q:VK)(E:XK)(r:Result)(s' :ZI):Prop:=
 match r with
 | .ok (.ret u)=>CE outer P w H s Q u s'
 | .ok _=>False
 | .error e=>CX outer H s E e s'
structure jr(P:ZQ)(w:World)(K:PySem.W.Frag)(mg:Str->Option ZH)(base:ZK)(CX:CXT)(k:Nat)(f:ZG)(fd:ZR)(ps:List Str)(sp:Sp):Prop where
 len:∀vs H Q E,sp vs H Q E->vs.length=ps.length
 run:∀(A:ZL) (outer:List Env) (s:ZI) (H:Hp) (args:Args) (us:List ZH) (vs:List V) (Q:VK) (E:XK),iT k A->Kp P w K mg base A outer s H->BindsTo s fd args (ps.zip us)->Zu vs us->sp vs H Q E->
  codeAny (model P w) A (.call (.ref f) args) (CR CX outer P w H s Q E) s
section
variable{Z:St}{X:Cx}
def Inv.Ug(I:Inv X e8 Z H s):Kp X.prog X.w X.K X.mg X.base X.A X.stack s H:=
 ⟨I.ok.frames,I.ok.mod,I.bs,Gbo I.ok.bsz I.sz,I.stack,I.CM,I.hok,I.bare⟩
def Inv.after(I:Inv X e8 Z H s)(h:CE X.stack X.prog X.w H s Q u s'):EP X e8 Z Q u s' :=by
 obtain⟨v,H',os,bare,un,hok,r,q⟩:=h;obtain⟨hh,g,d,t,Yp⟩:=s';obtain rfl:Yp =s.os:=os;exact⟨v,H',I.call un hok bare (λb z=>absurd z (by simp)),r,q⟩
end
def Rj(sp:Sp)(zD:List V)(E:XK)(t:TA):TE:=λZ H Q=>t Z H λvs H1=>sp (vs++zD) H1 Q E
def Binds(K:PySem.W.Frag)(fd:ZR)(ps:List Str)(ds:List ZH):Prop:=
 ∀(s:ZI) (us:List ZH),K.In s.heap->(us++ds).length=ps.length->BindsTo s fd ⟨us,[]⟩ (ps.zip (us++ds))
def Binds.all{K:PySem.W.Frag}{fd:ZR}{ps:List Str}(h:∀us,us.length=ps.length->bindArgs fd ⟨us,[]⟩=pure (ps.zip us)):Binds K fd ps []:=λs us _ hl=>by
 rw[Gbh] at hl⊢;exact .of_eq (h us hl)
def Passes(CX:CXT)(X:Cx)(E:XK):Prop:=∀(e8:LAO) (Z:St) (H:Hp) (s:ZI) (e:ZH) (s' :ZI),Inv X e8 Z H s->CX X.stack H s E e s' ->X.xe e s'
section
variable{X:Cx}
def NN{Z:St}(F:jr X.prog X.w X.K X.mg X.base CX k f fd ps sp)(hr:iT k X.A)(hb:Binds X.K fd ps ds)(hd:Zu zD ds)(hx:Passes CX X E)
  (I:Inv X e8 Z H s)(r:Zu vs us)(h:sp (vs++zD) H Q E):wpAny (model X.prog X.w) X.A (call (.ref f) us) (EP X e8 Z Q) X.xe s:=by
 have r2:=r.append hd;have hl:(us++ds).length=ps.length:=by rw[<-r2.length];exact F.len _ _ _ _ h
 refine wpAny_call (codeAny_mono (F.run X.A X.stack s H ⟨us,[]⟩ (us++ds) (vs++zD) Q E hr I.Ug (hb s us I.kIn hl) r2 h) λr s' hq=> ?_);cases r with
 |error e=>exact hx e8 Z H s e s' I hq
 |ok fl=>
  cases fl with
  |ret u=>exact I.after hq
  |next=>exact False.elim hq
  |brk=>exact False.elim hq
  |cont=>exact False.elim hq
def Kq(F:jr X.prog X.w X.K X.mg X.base CX k f fd ps sp)(hr:iT k X.A)(hg:Gl X x)(hm:X.mg x=U (.ref f))(hk:PySem.W.keepIn X.K (.ref f)=O)(hb:Binds X.K fd ps ds)(hd:Zu zD ds)(hx:Passes CX X E)
  (ha:PA X (e::es) t)(yw:autoParam ((x==("__debug__":Str))=M) Za2._auto_1)(he:autoParam (starEach (e::es) X.env=(M,eval e X.env)::starEach es X.env) Za1._auto_1)(xm:autoParam ((backTo pos (starEach es X.env)).any (·.1)=M) Za1._auto_1):
  PE X (.Call (.Name x p) (e::es) [] pos) (Rj sp zD E t):=by
 intro e8 s Z H Q I h;refine Gdd (Kc I hg hm ?_ yw);refine PySem.W.callWith_K I.ok.mod.kin hk (thn (ha pos e8 s Z H _ I h) λus s1 ⟨vs,H1,I1,r,q⟩=> ⟨I1.kIn, ?_⟩) he xm;exact NN F hr hb hd hx I1 r q
end
structure gL(N P:List Str)(sc:ZO):Prop where
 kind:sc.kind= .function
 co:sc.isCoroutine=M
 gen:sc.isGenerator=M
 nd:N.Nodup
 pre:N.take P.length=P
 par:∀x∈P,sc.names.lookup x=U .local\/sc.names.lookup x=U .cell
 Qv:∀y∈sc.names,y.2≠ .free
theorem tY{kindOf:Str->Option ZS}{x:Str}:∀{binds m},(∀v,(x,v)∉binds)->bindL kindOf binds m x=m x
 |[],_,_=>rfl
 |(n,v)::r,m,h=>by
  unfold bindL;rw[tY λw hw=>h w (Gaf _ hw)];split
  .have:x≠n:=by rintro rfl;exact h v Gaj
   simp[this]
  .rfl
theorem tZ{kindOf:Str->Option ZS}{x:Str}:∀{binds m},(∀v,(x,v)∉binds)->bindC kindOf binds m x=m x
 |[],_,_=>rfl
 |(n,v)::r,m,h=>by
  unfold bindC;rw[tZ λw hw=>h w (Gaf _ hw)];split
  .rfl
  .have:x≠n:=by rintro rfl;exact h v Gaj
   simp[this]
theorem u0{kindOf:Str->Option ZS}:∀{P:List Str} {vs:List ZH} {i:Nat} {m:Str->Option ZH},P.Nodup->P[i]? =U x->vs[i]? =U v->kindOf x=U .local->
  bindL kindOf (P.zip vs) m x=U v
 |[],_,_,_,_,h,_,_=>by simp at h
 |_::_,[],_,_,_,_,h,_=>by simp at h
 |p::P,w::vs,0,m,nd,h1,h2,hk=>by
  simp at h1 h2;subst h1;subst h2;show bindL kindOf ((p,w)::P.zip vs) m p=_;unfold bindL;rw[tY λv hv=>(Gbb.mp nd).1 (List.of_mem_zip hv).1,Gao hk];simp
 |p::P,w::vs,i+1,m,nd,h1,h2,hk=>by
  show bindL kindOf ((p,w)::P.zip vs) m x=_;exact u0 (Gbb.mp nd).2 (by simpa using h1) (by simpa using h2) hk
theorem u3{kindOf:Str->Option ZS}:∀{P:List Str} {vs:List ZH} {i:Nat} {m:Str->Option ZH},P.Nodup->P[i]? =U x->vs[i]? =U v->kindOf x≠U .local->
  bindC kindOf (P.zip vs) m x=U v
 |[],_,_,_,_,h,_,_=>by simp at h
 |_::_,[],_,_,_,_,h,_=>by simp at h
 |p::P,w::vs,0,m,nd,h1,h2,hk=>by
  simp at h1 h2;subst h1;subst h2;show bindC kindOf ((p,w)::P.zip vs) m p=_;unfold bindC;rw[tZ λv hv=>(Gbb.mp nd).1 (List.of_mem_zip hv).1,Gai hk];simp
 |p::P,w::vs,i+1,m,nd,h1,h2,hk=>by
  show bindC kindOf ((p,w)::P.zip vs) m x=_;exact u3 (Gbb.mp nd).2 (by simpa using h1) (by simpa using h2) hk
noncomputable def start(N:List Str)(vs:List V):St:=vs.map U++List.replicate (N.length -vs.length) J
noncomputable def Bw(CX:CXT)(P:ZQ)(w:World)(K:PySem.W.Frag)(mg:Str->Option ZH)(base:ZK)(N:List Str)(qual:Str)(scope:ZO)(f:ZG)(cd:ZH)(A:ZL)(outer:List Env)(s:ZI)(H:Hp)(E:XK):Cx where
 prog:=P
 w:=w
 K:=K
 mg:=mg
 base:=base
 A:=A.deeper (envOfC qual scope s.heap.objs.size f cd)
 N:=N
 s₀:=s
 H0:=H
 env:=envOfC qual scope s.heap.objs.size f cd
 outer:=outer
 stack:=envOfC qual scope s.heap.objs.size f cd::outer
 ex:=[]
 calm:=O
 fn:=λ_=>O
 pn:=[]
 xe:=λe s' =>wpAny (model P w) (A.deeper (envOfC qual scope s.heap.objs.size f cd)) (leaving (envOfC qual scope s.heap.objs.size f cd) e) (λ_ Wm =>CX outer H s E e Wm) (λe' Wm =>CX outer H s E e' Wm) s'
def wQ{sc:ZO}(h:sc.names.lookup x=U .cell):∃c,(cellsFrom n sc.names []).lookup x=U c:=by
 have q:=PySem.W.cellsFrom_some sc.names n [] (.inl h);exact Option.isSome_iff_exists.mp q
def EK{K:PySem.W.Frag}{ps:List Str}{scope:ZO}{A:ZL}{s:ZI}{vs:List V}
  (S:gL N ps scope)(hd:A.handled=J)(e0:Kp P w K mg base A outer s H)(hl:vs.length=ps.length)(r:Zu vs us)
  (x:InCallC s s.heap.objs.size (bindL (envOfC qual scope s.heap.objs.size f cd).kindOf (ps.zip us) λ_=>J) (cellsFrom (s.heap.objs.size+1) scope.names []) (bindC (envOfC qual scope s.heap.objs.size f cd).kindOf (ps.zip us) λ_=>J) s1):
  Inv (Bw CX P w K mg base N qual scope f cd A outer s H E) [] (start N vs) H s1:=by
 have xm:ps.length<=N.length:=by have:=congrArg List.length S.pre;rw[List.length_take] at this;lia
 obtain⟨h1,tk,rfl,hk⟩:=x.done;have noA:∀b:ZG,b∉(Bw CX P w K mg base N qual scope f cd A outer s H E).ex:=λb z=>absurd (show b∈([]:List ZG) from z) (by simp);refine⟨⟨e0.mod,S.kind,rfl,rfl,Gan _,λy z c h1 h2=> ?_,λy hy=> ?_,λy c _ h=> ?_,λ_=>hd,Around.frames_deeper e0.frames,.inr ⟨rfl,rfl⟩,λb z=>absurd z (noA b),e0.bs,e0.bsz,λb _ _=>noA b,λb z=>absurd z (noA b),e0.qo,e0.frf⟩,
  rfl,e0.bare,Un.kept hk,⟨_,x.toInCall.ns,λi y v h1 h2 h3=> ?_⟩,λy c h=> ⟨_,x.cell y c h⟩,e0.hok.fresh (Gan _),λy c h=> ?_,λp hp=>absurd (show p∈([]:LAO) from hp) (by simp),e0.hok.kept hk, ?_⟩
 .exact name_of_addr x.apart (PySem.mem_of_lookup h1) (PySem.mem_of_lookup h2)
 .rcases hy with hy|hy
  .exact wQ hy
  .exact absurd rfl (S.Qv _ (PySem.mem_of_lookup hy))
 .exact GcM (x.above y c (PySem.mem_of_lookup h))
 .have hi:i<vs.length:=by
   unfold start at h2;by_cases hi:i<vs.length
   .exact hi
   .rw[GaM (by simpa using hi)] at h2;rw[Gcz] at h2;lia
  have ha:vs[i]? =U v:=by
   unfold start at h2;rw[GaR (by simpa using hi),Gap] at h2;cases e:vs[i]? with
   |none=>rw[e] at h2;cases h2
   |some a=>rw[e] at h2;cases h2;rfl
  obtain⟨u,hu,rv⟩:=r.get ha;have hp:ps[i]? =U y:=by
   rw[<-S.pre,Gcr (by lia)];exact h1
  have ndP:ps.Nodup:=by rw[<-S.pre];exact S.nd.sublist (List.take_sublist _ _)
  refine⟨u,rv, ?_⟩;rcases S.par y (Gax hp) with k|k
  .exact .inl ⟨k,u0 ndP hp hu k⟩
  .obtain⟨c,e⟩:=wQ k;refine .inr ⟨.inl k,c,e, ?_⟩;have q:=x.cell y c e;rw[u3 ndP hp hu (by show scope.names.lookup y≠_;rw[k];decide)] at q;exact q
 .exact e0.hok.fresh (GcM (x.above y c (PySem.mem_of_lookup h)))
 .unfold start;show _=N.length;rw[Gal,Gae,GdB];lia
def Rk{K:PySem.W.Frag}{kV:ZH}{ps:List Str}{sp:Sp}
    (lk:K.lookup f=U ⟨oc,od,.func (PySem.W.fnOf name qual params body scope dV kV doc pm an xj ct),zu⟩)(xq:PySem.W.codeIn K xj qual=O)(S:gL N ps scope)
  (len:∀vs H Q E,sp vs H Q E->vs.length=ps.length)
  (xT:∀A outer s H vs Q E,iT k (A.deeper (envOfC qual scope s.heap.objs.size f xj))->sp vs H Q E->
   ∃t,PSs (Bw CX P w K mg base N qual scope f xj A outer s H E) body t/\t {nx:=λ_ H' =>Q .non H',rt:=Q} (start N vs) H):
  jr P w K mg base CX (k+1) f (PySem.W.fnOf name qual params body scope dV kV doc pm an xj ct) ps sp:=by
 refine⟨len,λA outer s H args us vs Q E hr e0 hb r yN=> ?_⟩;have hl:=len _ _ _ _ yN;have KX:=e0.mod.kin.keeps λb o e=>(e0.bs b o e).1;have lim:=e0.mod.nolimit.keeps λb o e=>(e0.bs b o e).1;have hkind:∀y∈ps.zip us,scope.names.lookup y.1=U .local\/(scope.names.lookup y.1=U .cell/\((cellsFrom (s.heap.objs.size+1) scope.names []).lookup y.1).isSome=O):=λ⟨n,v⟩ hy=>by
  rcases S.par n (List.of_mem_zip hy).1 with q|q
  .exact .inl q
  .exact .inr ⟨q,PySem.W.cellsFrom_some _ _ _ (.inl q)⟩
 refine codeAny_call_function hr.depth (KX _ _ lk) rfl S.co S.gen rfl (PySem.W.codeRec_of KX xq) (hb _ _ _ _ ?_);refine wpAny_newFunctionEnv_cells S.kind hkind λenv he s1 x=> ?_;subst he;refine⟨lim.keeps x.toInCall.keep,codeAny_func ?_⟩;obtain⟨t,ht,hq⟩:=xT A outer s H vs Q E (hr.deeper _) yN;have I:Inv (Bw CX P w K mg base N qual scope f xj A outer s H E) [] (start N vs) H s1:=EK S hr.hd e0 hl r x;refine Gcc (ht [] s1 (start N vs) H _ I hq) (λfl s' hs=> ?_) λe s' hs=>hs;have fin:∀{Z' :St} {H' :Hp} {v:V} {u:ZH},Inv (Bw CX P w K mg base N qual scope f xj A outer s H E) [] Z' H' s' ->Zt v u->Q v H' ->CE outer P w H s Q u s' :=
  λ{Z' H' v u} Zp rv q=> ⟨v,H',Zp.os,Zp.bare,Zp.base,Zp.hok,rv,q⟩
 cases fl with
 |ret u=>
  obtain⟨v,Z',H',Zp,rv,q⟩:=hs;exact fin Zp rv q
 |next=>
  obtain⟨Z',H',Zp,q⟩:=hs;exact fin (v:=V.non) Zp rfl q
 |brk=>
  obtain⟨_,_,_,q⟩:=hs;exact False.elim q
 |cont=>
  obtain⟨_,_,_,q⟩:=hs;exact False.elim q
section
variable{t:TA}{r:List V->Hp->VK->Prop}
def tCB(r:List V->Hp->VK->Prop)(t:TA):TE:=λZ H Q=>t Z H λvs H1=>r vs H1 Q
variable{X:Cx}
def qq{x:Str}{p pos:Pos}{e:ZJ}{es:List ZJ}{id:String}(hc:i0 X (.builtin id) r)(hg:Gl X x)(hm:X.mg x=J)(hv:bootBuiltins x=U (.builtin id))(ha:PA X (e::es) t)(hn:autoParam (x≠"__name__") Za2._auto_1)(yw:autoParam ((x==("__debug__":Str))=M) Za2._auto_1)
  (he:autoParam (starEach (e::es) X.env=(M,eval e X.env)::starEach es X.env) Za1._auto_1)(xm:autoParam ((backTo pos (starEach es X.env)).any (·.1)=M) Za1._auto_1):PE X (.Call (.Name x p) (e::es) [] pos) (tCB r t):=by
 intro e8 s Z H Q I h;refine Gdd (kh I hg hm hv ?_ hn yw);exact PyProof.Rows.callWith_builtin1 (thn (ha pos e8 s Z H _ I h) λus s1 ⟨vs,H1,I1,r1,q1⟩=>hc e8 s1 Z H1 vs us Q I1 r1 q1) he xm
def oe(hc:i0 X (.type T) r)(hg:Gl X x)(hm:X.mg x=J)(hv:bootBuiltins x=U (.type T))(ha:PA X (e::es) t)(hn:autoParam (x≠"__name__") Za2._auto_1)(yw:autoParam ((x==("__debug__":Str))=M) Za2._auto_1)
  (he:autoParam (starEach (e::es) X.env=(M,eval e X.env)::starEach es X.env) Za1._auto_1)(xm:autoParam ((backTo pos (starEach es X.env)).any (·.1)=M) Za1._auto_1):PE X (.Call (.Name x p) (e::es) [] pos) (tCB r t):=by
 intro e8 s Z H Q I h;refine Gdd (kh I hg hm hv ?_ hn yw);exact GbG (thn (ha pos e8 s Z H _ I h) λus s1 ⟨vs,H1,I1,r1,q1⟩=>hc e8 s1 Z H1 vs us Q I1 r1 q1) he xm
end
end L2
namespace HT
open PySem PyProof.Rows
noncomputable def lexLt:List Int->List Int->Bool
 |[],[]=>M
 |[],_::_=>O
 |_::_,[]=>M
 |x::xs,y::ys=>if x=y then lexLt xs ys else decide (x<y)
def Bx(x y:Int)(xs ys:List Int):lexLt (x::xs) (y::ys)=if x=y then lexLt xs ys else decide (x<y):=rfl
def sZ:lexLt [] []=M:=rfl
def qr(y:Int)(ys:List Int):lexLt [] (y::ys)=O:=rfl
def qt(x:Int)(xs:List Int):lexLt (x::xs) []=M:=rfl
def GZ(A:ZL)(s:ZI)(a:Int)(t:Tok)(c:Int)(u:Tok):∃e,SeqAt.EqAt A s (.int a t) (.int c u) e/\(e=O↔a=c):=
 ⟨(a==c),SeqAt.EqAt.int_int a t c u,by simp⟩
def Ha(A:ZL)(s:ZI)(a:Int)(t:Tok)(c:Int)(u:Tok)(prog:ZQ)(w:World)(E:VSP)(Q:VSP)(h:Q (.bool (decide (a<c))) s):
  wpAny (model prog w) A (richCompare .Lt (.int a t) (.int c u)) Q E s:=
 (PyProof.Rows.lt_int h:wpAny (model prog w) A (compareOp .Lt (.int a t) (.int c u)) Q E s)
section
open PySem.SeqAt
open PySem.AutoSeq1 (wpAny_loadPart')
open PySem.MeetsSeq PySem.MeetsSeq2 PySem.MeetsSeq3
def t8(l b:ZG)(items hJ:Array ZH)(n n2:Nat)(dd yU:Option ZG)(sl yL:Array (Option ZH))(ns ms:List Int)(hi:IntsAre items.toList ns)(hj:IntsAre hJ.toList ms):
  Meets (Builtin.«tuple.__lt__» ⟨[.ref l,.ref b],[]⟩)
   (λ_ R s=>s.heap.get? l=U {cls:= .type "tuple",dict:=dd,data:= .seq items n,slots:=sl}/\s.heap.get? b=U {cls:= .type "tuple",dict:=yU,data:= .seq hJ n2,slots:=yL}/\
    R (.ok (.ret (.bool (lexLt ns ms)))) s):=
 .of_wp λprog w A R s h=>by
  obtain⟨hp,g,d,tk,os⟩:=s;obtain⟨hl,hb,h⟩:=h
  have f2:=AutoSeq1.sub_tuple_tuple;have z1:items.size=ns.length:=by rw[<-hi.length];simp
  have z2:hJ.size=ms.length:=by rw[<-hj.length];simp
  wp_walk using wpAny_loadPart' hl,wpAny_loadPart' hb,wpAny_forIn_list _ (λrest b s' =>b.1=J/\s' =⟨hp,g,d,tk,os⟩/\∃(vs ws:List ZH) (zw xY :List Int),rest=vs.zip ws/\
   IntsAre vs zw /\IntsAre ws xY /\zw.length+hJ.size=xY.length+items.size/\R (.ok (.ret (.bool (lexLt zw xY)))) ⟨hp,g,d,tk,os⟩) _
  case turn=>
   rintro⟨y,x⟩ rest b s' ⟨xH,rfl,vs,ws,zw,xY,hz,WX,Wt,eL,hR⟩;cases WX with
   |nil=>rw[List.zip_nil_left] at hz;cases hz
   |cons a t WV =>
    cases Wt with
    |nil=>rw[List.zip_nil_right] at hz;cases hz
    |cons c u WT =>
     rw[List.zip_cons_cons] at hz;injection hz with hyx zO
     injection hyx with hy hx
     subst hy hx;rw[Bx] at hR;simp only[GaF] at eL;obtain⟨e,he,zT⟩:=GZ A.in1 ⟨hp,g,d,tk,os⟩ a t c u;refine Gab (he prog w _ _ ?_);cases e with
     |true=>
      rw[Gao (zT.mp rfl)] at hR
      wp_walk
      exact⟨rfl,rfl,_,_,_,_,zO,WV,WT,by lia,hR⟩
     |false=>
      rw[Gai (λq=>absurd (zT.mpr q) GaB)] at hR;have hri:=Ha A.in1 ⟨hp,g,d,tk,os⟩ a t c u prog w
      wp_walk using hri
      exact⟨_,rfl,by simpa using hR⟩
  case fin=>
   rintro⟨b1,b2⟩ s' ⟨xH,rfl,vs,ws,zw,xY,hz,WX,Wt,eL,hR⟩;simp only at xH;subst xH;have hv:lexLt zw xY =decide (items.size<hJ.size):=by
    cases WX with
    |nil=>
     cases Wt with
     |nil=>
      simp only[Gbm] at eL;rw[sZ];exact(GaE (by lia)).symm
     |cons c u hw=>
      simp only[Gbm,GaF] at eL;rw[qr];exact(GaD (by lia)).symm
    |cons a t hv=>
     cases Wt with
     |nil=>
      simp only[Gbm,GaF] at eL;rw[qt];exact(GaE (by lia)).symm
     |cons c u hw=>
      rw[List.zip_cons_cons] at hz;cases hz
   rw[hv] at hR
   wp_walk
   exact⟨_,rfl,by simpa[Builtin.Tuple.tupleCompareSizes] using hR⟩
  case h=>
   exact⟨rfl,rfl,items.toList,hJ.toList,ns,ms,rfl,hi,hj,by lia,h⟩
end
section
variable{items:Array ZH}
def By{A:ZL}{s:ZI}{hJ:Array ZH}(hl:IsTup s.heap l items)(hb:IsTup s.heap b hJ)(hi:IntsAre items.toList ns)(hj:IntsAre hJ.toList ms)
  (hu:A.units<cLine)(h:Q (.bool (lexLt ns ms)) s):wpAny (model prog w) A (compareOp .Lt (.ref l) (.ref b)) Q E s:=by
 obtain⟨⟨cls,dd,data,sl⟩,ho,hc,n,hd⟩:=id hl;obtain⟨⟨Wj,yU,data2,yL⟩,xV,yS,n2,hd2⟩:=id hb;simp only at hc hd yS hd2;subst hc hd yS hd2;exact richCompare_meets_room (op:= .Lt) ⟨_,ho,rfl⟩ ⟨_,xV,rfl⟩ PySem.F.slot_tuple_lt PySem.F.entry_tuple_lt (PySem.F.args_tuple_lt_2 _ _) (t8 l b items hJ n n2 dd yU sl yL ns ms hi hj)
  ⟨ho,xV,show Value.bool (lexLt ns ms)≠Value.notImplemented/\Q (.bool (lexLt ns ms)) s from⟨(λx=>nomatch x),h⟩⟩ hu
def Kr{s:ZI}{vs ws:List ZH}(ht:IsTup s.heap t vs.toArray)(hb:IsTup s.heap b ws.toArray)(hv:vs≠[])
  (h1:ws=[]->Q (.ref t) s)(h2:ws≠[]->Q (.ref s.heap.objs.size) {s with heap:=s.heap.push {cls:= .type "tuple",data:= .seq (vs++ws).toArray}})
  (xC:vs.length+ws.length<=sizeLine):wpAny (model prog w) A (binaryOp .Add (.ref t) (.ref b)) Q E s:=by
 obtain⟨⟨cls,dd,data,sl⟩,ho,hc,n,hd⟩:=id ht;obtain⟨⟨Wj,yU,data2,yL⟩,xV,yS,n2,hd2⟩:=id hb;simp only at hc hd yS hd2;subst hc hd yS hd2;have e:vs.toArray++ws.toArray=(vs++ws).toArray:=by simp
 by_cases hw:ws=[]
 .exact concat_meets ⟨_,ho,rfl⟩ ⟨_,xV,rfl⟩ noFill_tuple_add seq_tuple_add Gdw Gdq (Gde _ _)
   (tuple_addW1 t b vs.toArray ws.toArray n n2 dd yU sl yL (by simpa using hv) (by simp[hw])) ⟨ho,xV,h1 hw⟩
 .refine concat_meets ⟨_,ho,rfl⟩ ⟨_,xV,rfl⟩ noFill_tuple_add seq_tuple_add Gdw Gdq (Gde _ _)
   (tuple_addW2 t b vs.toArray ws.toArray n n2 dd yU sl yL (by simpa using hv) (by simpa using hw) (by rw[Gav,Gav];exact xC)) ⟨ho,xV, ?_⟩
  rw[e];exact h2 hw
noncomputable def sIx(n d:Nat):Option Int->Nat
 |none=>d
 |some v=>if v<0 then(v+(n:Int)).toNat else min v.toNat n
def NO(n d:Nat)(hd:d<=n)(o:Option Int):sIx n d o<=n:=by
 cases o with
 |none=>exact hd
 |some v=>
  show(if v<0 then(v+(n:Int)).toNat else min v.toNat n)<=n;by_cases hv:v<0
  .rw[Gao hv];lia
  .rw[Gai hv];exact Nat.min_le_right _ _
def CP(v:Int)(n d:Nat):(if v<0 then max (v+(n:Int)) 0 else min v (n:Int))=((sIx n d (U v):Nat):Int):=by
 show(if v<0 then max (v+(n:Int)) 0 else min v (n:Int))=(((if v<0 then(v+(n:Int)).toNat else min v.toNat n):Nat):Int);by_cases hv:v<0
 .simp only[Gao hv];lia
 .simp only[Gai hv];lia
def Bz(lo hi:Option Int)(n:Nat):Builtin.Slice.sliceAdjust lo hi 1 (n:Int)=(((sIx n 0 lo:Nat):Int),((sIx n n hi:Nat):Int)):=by
 have h1:¬((1:Int)<0):=by lia
 unfold Builtin.Slice.sliceAdjust;simp only[h1,if_false];refine Prod.ext ?_ ?_
 .cases lo with
  |none=>rfl
  |some v=>exact CP v n 0
 .cases hi with
  |none=>rfl
  |some v=>exact CP v n n
def BA(i j:Nat):Builtin.Slice.slicePlaces (i:Int) (j:Int) 1=j -i:=by
 unfold Builtin.Slice.slicePlaces;have h1:(1:Int)>0:=by lia
 simp only[h1,Gdn,Int.ediv_one];split<;>lia
def qu(p:IsPart v o)(h:Q o s):wpAny (model prog w) A (Builtin.Slice.slicePartIndex v) Q E s:=by
 cases p with
 |none=>exact slicePart_none h
 |int i t=>exact slicePart_int h
variable{lo hi:Option Int}{vl vu:ZH}{sl:ZG}
def og{E:VSP}{s:ZI}{n:Nat}{Q:Int×Int×Nat->ZI->Prop}(hs:s.heap.IsSliceOf sl vl vu .none)(pl:IsPart vl lo)(pu:IsPart vu hi)
  (h:Q (((sIx n 0 lo:Nat):Int),1,sIx n n hi -sIx n 0 lo) s):wpAny (model prog w) A (Builtin.Slice.sliceApplied (.ref sl) (pure (n:Int))) Q E s:=by
 obtain⟨os,yf,XW,xu⟩:=id hs;unfold Builtin.Slice.sliceApplied Builtin.Slice.sliceFields;refine Gab (Gab (wpAny_field yf xu (x:=vl) rfl (Gab (wpAny_field yf xu (x:=vu) rfl (Gab (wpAny_field yf xu (x:= .none) rfl (Gad ?_)))))));refine Gab (slicePart_none ?_);show wpAny _ _ (if((1:Int)==0)=O then _ else _) _ _ s;rw[Gai (by decide)];refine Gab (qu pl (Gab (qu pu (Gab (Gad ?_)))));show wpAny _ _ (match Builtin.Slice.sliceAdjust lo hi 1 (n:Int) with|(lo,hi)=>pure (lo,(1:Int),Builtin.Slice.slicePlaces lo hi 1)) _ _ s;rw[Bz lo hi n];show wpAny _ _ (pure (((sIx n 0 lo:Nat):Int),(1:Int),Builtin.Slice.slicePlaces ((sIx n 0 lo:Nat):Int) ((sIx n n hi:Nat):Int) 1)) _ _ s;rw[BA];exact Gad h
def Hb(xs:Array ZH)(i k:Nat):((List.range k).filterMap λ(m:Nat)=>xs[((i:Int)+(m:Int)*1).toNat]?).toArray=((xs.toList.drop i).take k).toArray:=by
 have e:(λ(m:Nat)=>xs[((i:Int)+(m:Int)*1).toNat]?)=λm=>xs[i+m]? :=by
  funext m
  have:((i:Int)+(m:Int)*1).toNat=i+m:=by lia
  rw[this]
 rw[e];have:=pick_run xs i k;rw[List.filterMap_map] at this;have e2:((λx=>xs[x]?)∘λx=>i+x)=λm=>xs[i+m]? :=rfl;rw[e2] at this;rw[this]
def mZ{E:VSP}{s:ZI}{t:ZG}{Q:VSP}(ht:IsTup s.heap t items)(hs:s.heap.IsSliceOf sl vl vu .none)(pl:IsPart vl lo)(pu:IsPart vu hi)
  (hw:¬(sIx items.size 0 lo=0/\sIx items.size items.size hi=items.size))
  (h:Q (.ref s.heap.objs.size) {s with heap:=s.heap.push {cls:= .type "tuple",data:= .seq ((items.toList.drop (sIx items.size 0 lo)).take (sIx items.size items.size hi -sIx items.size 0 lo)).toArray}})
  (xC:items.size<=sizeLine):wpAny (model prog w) A (getItem (.ref t) (.ref sl)) Q E s:=by
 have htake:sizeOk (.seq ((items.toList.drop (sIx items.size 0 lo)).take (sIx items.size items.size hi -sIx items.size 0 lo)).toArray):=by
  show((items.toList.drop (sIx items.size 0 lo)).take (sIx items.size items.size hi -sIx items.size 0 lo)).toArray.size<=sizeLine;rw[Gav,List.length_take,Gcs,GaZ];lia
 have hj:sIx items.size items.size hi<=items.size:=NO _ _ (Gan _) hi;obtain⟨os,yf,XW,xu⟩:=id hs;have hTs:s.TypeIs (.ref sl) "slice":=⟨os,yf,XW⟩
 unfold getItem
 try with_reducible refine GbJ ?_
 first|refine Gab (Gad ?_)|skip
 refine Gab (wpAny_sequenceKey ht.typeIs (by decide) ?_);refine Gab (Gbq (name:=Str.ofString "__getitem__") ht.typeIs Gcy
  (Gbc Gcy ht.typeIs entry_tuple_getitem ?_ (args_tuple_getitem _ _)))
 show wpAny _ _ (Builtin.Tuple.tupleItemsOf (.ref t)>>=_) _ _ s;refine Gab (tupleItemsOf_ ht ?_);refine Gab (GdE hTs ?_);rw[Gao (by decide)];refine Gab (og hs pl pu ?_);have hno:¬((((sIx items.size 0 lo:Nat):Int)==0&&(1:Int)==1&&(sIx items.size items.size hi -sIx items.size 0 lo)==items.size)=O):=by
  intro q;rw[Gah,Gah] at q;have q1:((sIx items.size 0 lo:Nat):Int)=0:=eq_of_beq q.1.1;have q2:sIx items.size items.size hi -sIx items.size 0 lo=items.size:=eq_of_beq q.2;exact hw ⟨by lia,by lia⟩
 show wpAny _ _ (if(((sIx items.size 0 lo:Nat):Int)==0&&(1:Int)==1&&(sIx items.size items.size hi -sIx items.size 0 lo)==items.size)=O then _ else _) _ _ s;rw[Gai hno,Hb]
 first
  |exact Gab (m:=Builtin.Tuple.tupleExact _) (Gbj (Gad ⟨_,rfl,Gad h⟩) htake)
  |exact Gab (m:=Builtin.Tuple.tupleExact _) (Gbj (Gab (Gad (Gad ⟨_,rfl,Gad h⟩))) htake)
  |exact Gab (Gab (m:=Builtin.Tuple.tupleExact _) (Gbj (Gad (Gad ⟨_,rfl,Gad h⟩)) htake))
  |exact Gab (Gab (m:=Builtin.Tuple.tupleExact _) (Gbj (Gad ⟨_,rfl,Gad h⟩) htake))
end
end HT
namespace L2
open PySem PySem.Spec PyProof.Rows
abbrev TO:=St->Hp->(Option Int->Hp->Prop)->Prop
def PO(X:Cx)(e:Option ZJ)(t:TO):Prop:=
 ∀(e8:LAO) (s:ZI) (Z:St) (H:Hp) (Q:Option Int->Hp->Prop),Inv X e8 Z H s->t Z H Q->
  wpAny (model X.prog X.w) X.A (evalPart e X.env) (λu s' =>∃o H',Inv X e8 Z H' s' /\IsPart u o/\Q o H') X.xe s
def Ks:TO:=λ_ H Q=>Q J H
def Rl(t:TE):TO:=λZ H Q=>t Z H λx H1=>∃i,x= .int i/\Q (U i) H1
def intsAre_of{ns:List Int}:∀{us},Zu (ns.map V.int) us->IntsAre us ns:=by
 induction ns with
 |nil=>intro us r;rw[Gdf] at r;cases r;exact .nil
 |cons n ns ih=>
  intro us r;cases r with
  |cons r1 r2=>
   obtain⟨t,e⟩:=r1;subst e;exact .cons n t (ih r2)
section
variable{X:Cx}{te:TE}{lo hi:Option ZJ}{tl th:TO}
def Kt:PO X J Ks:=by
 intro e8 s Z H Q I h;exact Gad ⟨J,H,I,.none,h⟩
def Ku(h:PE X e te):PO X (U e) (Rl te):=by
 intro e8 s Z H Q I hw;refine thn (h e8 s Z H _ I hw) λu s1 ⟨x,H1,I1,r1,q1⟩=> ?_;obtain⟨i,rfl,q⟩:=q1;obtain⟨t,rfl⟩:=r1;exact⟨U i,H1,I1,.int i t,q⟩
def SlR(X:Cx)(r:V->Option Int->Option Int->Hp->VK->Prop):Prop:=
 ∀(e8:LAO) (s:ZI) (Z:St) (H:Hp) (x:V) (v vl vu:ZH) (lo hi:Option Int) (sl:ZG) (Q:VK),Inv X e8 Z H s->Zt x v->s.heap.IsSliceOf sl vl vu .none->IsPart vl lo->IsPart vu hi->r x lo hi H Q->
  ∃T id,typeLookup (.type T) "__getitem__"=pure (U (.builtin id))/\s.TypeIs v T/\wpAny (model X.prog X.w) X.A (getItem v (.ref sl)) (EP X e8 Z Q) X.xe s
def SlR.or(h:SlR X r)(h' :SlR X r'):SlR X (λx lo hi H Q=>r x lo hi H Q\/r' x lo hi H Q):=by
 intro e8 s Z H x v vl vu lo hi sl Q I rx hs pl pu q;rcases q with q|q
 .exact h e8 s Z H x v vl vu lo hi sl Q I rx hs pl pu q
 .exact h' e8 s Z H x v vl vu lo hi sl Q I rx hs pl pu q
def tSl(r:V->Option Int->Option Int->Hp->VK->Prop)(te:TE)(tl th:TO):TE:=λZ H Q=>te Z H λx H1=>tl Z H1 λl H2=>th Z H2 λu H3=>r x l u H3 Q
def Hc(hr:SlR X r)(he:PE X e te)(hl:PO X lo tl)(hu:PO X hi th):PE X (.Subscript e (.Slice lo hi J p2) pos) (tSl r te tl th):=by
 intro e8 s Z H Q I h;refine Subscript_ (thn (he e8 s Z H _ I h) λv s1 ⟨x,H1,I1,r1,q1⟩=> ?_);refine wpAny_Slice (thn (hl e8 s1 Z H1 _ I1 q1) λvl s2 ⟨l,H2,I2,pl,q2⟩=>thn (hu e8 s2 Z H2 _ I2 q2) λvu s3 ⟨u,H3,I3,pu,q3⟩=> ?_);refine Gad ?_;have I4:Inv X e8 Z H3 {s3 with heap:=s3.heap.push {cls:= .type "slice",data:= .fields #[vl,vu,.none]}}:=I3.kept λb ob q=>Gag _ q;obtain⟨T,id,hT,ht,hg⟩:=hr e8 {s3 with heap:=s3.heap.push {cls:= .type "slice",data:= .fields #[vl,vu,.none]}} Z H3 x v vl vu l u s3.heap.objs.size Q I4 r1 (Heap.IsSliceOf.new ..) pl pu q3;exact tail_any ht hT hg (by with_unfolding_all rfl)
def EM(xs:List V)(lo hi:Option Int):List V:=(xs.drop (HT.sIx xs.length 0 lo)).take (HT.sIx xs.length xs.length hi -HT.sIx xs.length 0 lo)
def oU(xs:List V)(lo hi:Option Int):(EM xs lo hi).length<=xs.length:=by
 unfold EM;rw[List.length_take,Gcs];lia
def Uh(K:PySem.W.Frag):V->Option Int->Option Int->Hp->VK->Prop:=λx lo hi H Q=>∃a xs,x= .ref a/\SqT K H a xs/\
 ¬(HT.sIx xs.length 0 lo=0/\HT.sIx xs.length xs.length hi=xs.length)/\∀p,H p=J->Q (.ref p) (upd H p (.tup (EM xs lo hi)))
def NP:SlR X (Uh X.K):=by
 intro e8 s Z H x v vl vu lo hi sl Q I rx hs pl pu h;obtain⟨a,xs,rfl,hx,hw,q⟩:=h;cases rx;obtain⟨its,r,ht,hz⟩:=I.tuple hx;have eL:its.toArray.size=xs.length:=by rw[Gav];exact r.length.symm
 refine⟨"tuple",_,Gcy.lookup,ht.typeIs, ?_⟩;refine HT.mZ ht hs pl pu (by rw[eL];exact hw) ?_ (by rw[eL];exact hz);rw[eL];refine⟨.ref s.heap.objs.size,_,I.laid (λb ob q=>Gag _ q) (Gan _) ?_,rfl,q _ (I.hok.fresh (Gan _))⟩;exact⟨Gbo (oU xs lo hi) hz,_,(r.drop (HT.sIx xs.length 0 lo)).take (HT.sIx xs.length xs.length hi -HT.sIx xs.length 0 lo),IsTup.new _ _⟩
def Rm(K:PySem.W.Frag):R2:=λx y H Q=>∃a b ns ms,x= .ref a/\y= .ref b/\SqT K H a (ns.map V.int)/\SqT K H b (ms.map V.int)/\Q (.bl (HT.lexLt ns ms)) H
def NQ(hu:X.A.units<cLine):OpR X (compareOp .Lt) (Rm X.K):=by
 intro e8 s Z H x y v u Q I rx ry h;obtain⟨a,b,ns,ms,rfl,rfl,ha,hb,q⟩:=h;cases rx;cases ry;obtain⟨its,r1,p1,_⟩:=I.tuple ha;obtain⟨eO,r2,p2,_⟩:=I.tuple hb;have i1:=intsAre_of r1;have i2:=intsAre_of r2;exact HT.By p1 p2 i1 i2 hu ⟨.bl (HT.lexLt ns ms),H,I,rfl,q⟩
def MO(K:PySem.W.Frag):R2:=λx y H Q=>∃a b xs ys,x= .ref a/\y= .ref b/\SqT K H a xs/\SqT K H b ys/\xs≠[]/\xs.length+ys.length<=sizeLine/\
 (ys=[]->Q (.ref a) H)/\(ys≠[]->∀p,H p=J->Q (.ref p) (upd H p (.tup (xs++ys))))
def Zu.cz(r:Zu xs us):us=[]↔xs=[]:=by
 cases r with
 |nil=>simp
 |cons _ _=>simp
def Kv:OpR X (binaryOp .Add) (MO X.K):=by
 intro e8 s Z H x y v u Q I rx ry h;obtain⟨a,b,xs,ys,rfl,rfl,ha,hb,hx,hz,q1,q2⟩:=h;cases rx;cases ry;obtain⟨its,r1,p1,_⟩:=I.tuple ha;obtain⟨eO,r2,p2,_⟩:=I.tuple hb;refine HT.Kr p1 p2 (λz=>hx (r1.cz.mp z)) (λz=> ⟨.ref a,H,I,rfl,q1 (r2.cz.mp z)⟩) (λz=> ?_) (by rw[<-r1.length,<-r2.length];exact hz);refine⟨.ref s.heap.objs.size,_,I.laid (λb ob q=>Gag _ q) (Gan _) ?_,rfl,q2 (λw=>z (r2.cz.mpr w)) _ (I.hok.fresh (Gan _))⟩;exact⟨by rw[Gal];exact hz,_,r1.append r2,IsTup.new _ _⟩
end
noncomputable def ixN(n:Nat)(i:Int):Option Nat:=if 0<=i then(if i<n then U i.toNat else J) else if -(n:Int)<=i then U (i+n).toNat else J
def atI{α:Type}(xs:List α)(i:Int):Option α:=(ixN xs.length i).bind λj=>xs[j]?
def Kw(h:ixN n i=U j):seqIndex? i n=U j/\j<n/\-(n:Int)<=i/\i<n:=by
 unfold ixN at h;by_cases h0:0<=i
 .rw[Gao h0] at h;by_cases h1:i<n
  .rw[Gao h1] at h;have e:=Option.some.inj h;exact⟨by rw[seqIndex_of h0 h1,e],by lia,by lia,h1⟩
  .simp_all
 .rw[Gai h0] at h;by_cases h1: -(n:Int)<=i
  .rw[Gao h1] at h;have e:=Option.some.inj h;exact⟨by rw[seqIndex_neg (by lia) h1,e],by lia,h1,by lia⟩
  .simp_all
def vm{xs:List α}(h:atI xs i=U v):∃j,seqIndex? i xs.length=U j/\xs[j]? =U v/\j<xs.length/\-(xs.length:Int)<=i/\i<xs.length:=by
 unfold atI at h;cases e:ixN xs.length i with
 |none=>rw[e] at h;cases h
 |some j=>
  rw[e] at h;obtain⟨h1,h2,h3,h4⟩:=Kw e;exact⟨j,h1,h,h2,h3,h4⟩
def vn(b:ZJ):Prop:=∀o i,subscripted b M o i=operate [o,i] (getItem o i)
def IxR(X:Cx)(r:R2):Prop:=
 ∀(value slice:ZJ) (e8:LAO) (s:ZI) (Z:St) (H:Hp) (x y:V) (v u:ZH) (Q:VK),Inv X e8 Z H s->Zt x v->Zt y u->r x y H Q->
  subscripted slice M v u=operate [v,u] (getItem v u)->wpAny (model X.prog X.w) X.A (subscriptTail value slice v u) (EP X e8 Z Q) X.xe s
def MtR(X:Cx)(id:String)(r:V->List V->Hp->VK->Prop):Prop:=
 ∀(e8:LAO) (s:ZI) (Z:St) (H:Hp) (x:V) (xs:List V) (v:ZH) (us:List ZH) (Q:VK),Inv X e8 Z H s->Zt x v->Zu xs us->r x xs H Q->
  wpAny (model X.prog X.w) X.A (call (.builtin id) (v::us)) (EP X e8 Z Q) X.xe s
section
variable{a b:ZJ}
def IxR.or(h:IxR X r)(h' :IxR X r'):IxR X (λx y H Q=>r x y H Q\/r' x y H Q):=by
 intro value slice e8 s Z H x y v u Q I rx ry q hs;rcases q with q|q
 .exact h value slice e8 s Z H x y v u Q I rx ry q hs
 .exact h' value slice e8 s Z H x y v u Q I rx ry q hs
def Rn(hr:IxR X r)(ha:PE X a ta)(hb:PE X b tb)(hs:vn b):PE X (.Subscript a b pos) (tOp r ta tb):=by
 intro e8 s Z H Q I h;exact Subscript_ (ND ha hb I h λv u s2 x y H2 I2 rx ry q=>hr a b e8 s2 Z H2 x y v u Q I2 rx ry q (hs _ _))
def Ro(K:PySem.W.Frag):R2:=λx y H Q=>∃p xs i v,x= .ref p/\y= .int i/\SqL K H p xs/\atI xs i=U v/\Q v H
def Rp(K:PySem.W.Frag):R2:=λx y H Q=>∃p xs i v,x= .ref p/\y= .int i/\SqT K H p xs/\atI xs i=U v/\Q v H
def Rq:R2:=λx y H Q=>∃z i c,x= .str z/\y= .int i/\z.length<=sizeLine/\atI z.cps.toList i=U c/\Q (.str ⟨#[c]⟩) H
def Kx{X:Cx}:IxR X (Ro X.K):=by
 intro value slice e8 s Z H x y v u Q I rx ry h hs;obtain⟨p,xs,i,z,rfl,rfl,hq,he,q⟩:=h;cases rx;obtain⟨t,rfl⟩:=ry;obtain⟨its,r,pl,hz⟩:=I.list hq;obtain⟨j,h1,h2,h3,h4,h5⟩:=vm he;obtain⟨w,ew,xK⟩:=r.get h2;have hl:=r.length;have hn:=Bu;have fin:EP X e8 Z Q w s:=⟨z,H,I,xK,q⟩
 by_cases h0:0<=i
 .have hj:i.toNat=j:=by
   rw[seqIndex_of h0 h5] at h1;simp_all
  exact item_listR pl.isList h0 (by lia) (by rw[hj];simpa using ew) fin hs
 .have hj:(i+(its.toArray.size:Int)).toNat=j:=by
   rw[seqIndex_neg (by lia) h4] at h1;rw[Gav,<-hl];exact Option.some.inj h1
  exact subscriptTail_builtinR pl.isList.typeIs slot_list_getitem.lookup
   (wpAny_getItem_list_neg pl.isList (by lia) (by rw[Gav]<;>lia) (by lia) (by rw[hj];simpa using ew) ⟨rfl,fin⟩) hs
def NR{X:Cx}:IxR X (Rp X.K):=by
 intro value slice e8 s Z H x y v u Q I rx ry h hs;obtain⟨p,xs,i,z,rfl,rfl,hq,he,q⟩:=h;cases rx;obtain⟨t,rfl⟩:=ry;obtain⟨its,r,pl,hz⟩:=I.tuple hq;obtain⟨j,h1,h2,h3,h4,h5⟩:=vm he;obtain⟨w,ew,xK⟩:=r.get h2;have hl:=r.length;have hn:=Bu;have fin:EP X e8 Z Q w s:=⟨z,H,I,xK,q⟩
 exact subscriptTail_builtinR pl.typeIs slot_tuple_getitem.lookup
  (getItem_tuple pl (by lia) (by lia) (by rw[Gav,<-hl];exact h1) (by simpa using ew) ⟨rfl,fin⟩) hs
def NS:IxR X Rq:=by
 intro value slice e8 s Z H x y v u Q I rx ry h hs;obtain⟨z,i,c,rfl,rfl,hz,he,q⟩:=h;obtain⟨t,rfl⟩:=rx;obtain⟨t',rfl⟩:=ry;obtain⟨j,h1,h2,h3,h4,h5⟩:=vm he;have hl:z.cps.toList.length=z.length:=by simp[Str.length]
 rw[hl] at h1 h4 h5;have hn:=Bu;exact tail_any (typeIs_str s z t) slot_str_getitem.lookup (getItem_str (by
  have e1:decide (i< -(2^63:Int))=M:=GaE (by lia);have e2:decide (i>=2^63)=M:=GaE (by lia);rw[e1,e2,Bool.or_false]) (by rw[h1];simpa using h2) ⟨.str ⟨#[c]⟩,H,I.tok _,⟨_,rfl⟩,q⟩) hs
def rIx(K:PySem.W.Frag):R2:=λx y H Q=>Ro K x y H Q\/Rp K x y H Q\/Rq x y H Q
def NT{X:Cx}:IxR X (rIx X.K):=Kx.or (NR.or NS)
def vo(lo hi:Option Int)(n:Nat):(sliceBounds lo hi J n).1=((HT.sIx n 0 lo:Nat):Int)/\(sliceBounds lo hi J n).2.1=((HT.sIx n n hi:Nat):Int)/\(sliceBounds lo hi J n).2.2=1:=by
 refine⟨?_, ?_,rfl⟩
 .cases lo with
  |none=>simp[sliceBounds,HT.sIx]
  |some i=>
   simp only[sliceBounds,HT.sIx,Option.getD_none,show(1:Int)>0 by decide,Gdn];by_cases h:i<0
   .simp only[h,Gdn]<;>lia
   .simp only[h,if_false]<;>lia
 .cases hi with
  |none=>simp[sliceBounds,HT.sIx]
  |some i=>
   simp only[sliceBounds,HT.sIx,Option.getD_none,show(1:Int)>0 by decide,Gdn];by_cases h:i<0
   .simp only[h,Gdn]<;>lia
   .simp only[h,if_false]<;>lia
def t9(its:List ZH)(lo hi:Option Int):slicePick its.toArray lo hi J=((its.drop (HT.sIx its.length 0 lo)).take (HT.sIx its.length its.length hi -HT.sIx its.length 0 lo)).toArray:=by
 obtain⟨h1,h2,h3⟩:=vo lo hi its.toArray.size;unfold slicePick;rw[h1,h2,h3];simp only[sliceRange_one,pick_run]<;>rfl
def Ui(K:PySem.W.Frag):V->Option Int->Option Int->Hp->VK->Prop:=λx lo hi H Q=>∃a xs,x= .ref a/\SqL K H a xs/\∀p,H p=J->Q (.ref p) (upd H p (.lst (EM xs lo hi)))
def Ky{X:Cx}:SlR X (Ui X.K):=by
 intro e8 s Z H x v vl vu lo hi sl Q I rx hs pl pu h;obtain⟨a,xs,rfl,hx,q⟩:=h;cases rx;obtain⟨its,r,ht,hz⟩:=I.list hx;have eL:=r.length;refine⟨"list",_,slot_list_getitem.lookup,ht.isList.typeIs, ?_⟩;refine wpAny_getItem_list_slice ht.isList hs pl pu .none (by simp) ?_ (by rw[Gav]<;>lia);rw[t9,<-eL];refine⟨.ref s.heap.objs.size,_,I.laid (λb ob q=>Gag _ q) (Gan _) ?_,rfl,q _ (I.hok.fresh (Gan _))⟩;exact⟨Gbo (oU xs lo hi) hz,_,0,(r.drop (HT.sIx xs.length 0 lo)).take (HT.sIx xs.length xs.length hi -HT.sIx xs.length 0 lo),Gaw _ rfl⟩
noncomputable def u4:V->Bool
 | .non=>O
 | .bl _=>O
 | .int _=>O
 | .str _=>O
 |_=>M
noncomputable def eqV:V->V->Bool
 | .non,.non=>O
 | .bl a,.bl b=>a==b
 | .bl a,.int b=>(if a then 1 else 0)==b
 | .int a,.bl b=>a==(if b then 1 else 0)
 | .int a,.int b=>a==b
 | .str a,.str b=>a==b
 |_,_=>M
def He(ry:Zt y u)(rx:Zt x v)(fy:u4 y=O)(fx:u4 x=O):SeqAt.EqAt A s u v (eqV y x):=by
 cases y with
 |non=>
  cases ry;cases x with
  |non=>cases rx;exact SeqAt.EqAt.same _
  |bl b=>cases rx;exact SeqAt.EqAt.none_bool b
  |int b=>obtain⟨t,rfl⟩:=rx;exact SeqAt.EqAt.none_int b t
  |str b=>obtain⟨t,rfl⟩:=rx;exact SeqAt.EqAt.none_str b t
  |_=>exact absurd (show M=O from fx) GaB
 |bl a=>
  cases ry;cases x with
  |non=>cases rx;exact SeqAt.EqAt.bool_none a
  |bl b=>cases rx;exact SeqAt.EqAt.bool_bool a b
  |int b=>obtain⟨t,rfl⟩:=rx;exact SeqAt.EqAt.bool_int a b t
  |str b=>obtain⟨t,rfl⟩:=rx;exact SeqAt.EqAt.bool_str a b t
  |_=>exact absurd (show M=O from fx) GaB
 |int a=>
  obtain⟨t',rfl⟩:=ry;cases x with
  |non=>cases rx;exact SeqAt.EqAt.int_none a t'
  |bl b=>cases rx;exact SeqAt.EqAt.int_bool a t' b
  |int b=>obtain⟨t,rfl⟩:=rx;exact SeqAt.EqAt.int_int a t' b t
  |str b=>obtain⟨t,rfl⟩:=rx;exact SeqAt.EqAt.int_str a t' b t
  |_=>exact absurd (show M=O from fx) GaB
 |str a=>
  obtain⟨t',rfl⟩:=ry;cases x with
  |non=>cases rx;exact SeqAt.EqAt.str_none a t'
  |bl b=>cases rx;exact SeqAt.EqAt.str_bool a t' b
  |int b=>obtain⟨t,rfl⟩:=rx;exact SeqAt.EqAt.str_int a t' b t
  |str b=>obtain⟨t,rfl⟩:=rx;exact SeqAt.EqAt.str_str a t' b t
  |_=>exact absurd (show M=O from fx) GaB
 |_=>exact absurd (show M=O from fy) GaB
def tf{X:Cx}:i0 X (.type "tuple") (λxs H Q=>∃p ys,xs=[.ref p]/\((SqL X.K H p ys/\∀l,H l=J->Q (.ref l) (upd H l (.tup ys)))\/(SqT X.K H p ys/\Q (.ref p) H))):=by
 intro e8 s Z H xs us Q I r h;obtain⟨p,ys,rfl,h⟩:=h;obtain⟨u,rfl,rx⟩:=vals1 r;cases rx;rcases h with⟨hq,q⟩| ⟨hq,q⟩
 .obtain⟨its,r',pl,hz⟩:=I.list hq;have eL:=r'.length;refine call_tuple_list pl.isList (λh' kp=> ?_) (by simp only[Gav]<;>lia);have I1:Inv X e8 Z H {s with heap:=h' }:=I.kept kp;have I2:Inv X e8 Z (upd H h'.objs.size (.tup ys)) {s with heap:=h'.push {cls:= .type "tuple",data:= .seq its.toArray}}:=
   I1.laid (λb o e=>Gag _ e) (Gan _) (show cJ X.prog X.w _ _ _ (.tup ys) from⟨hz,its,r',IsTup.new _ _⟩)
  exact⟨.ref h'.objs.size,_,I2,rfl,q _ (I1.hok.fresh (Gan _))⟩
 .obtain⟨its,r',pl,hz⟩:=I.tuple hq;exact call_tuple_same pl ⟨.ref p,H,I,rfl,q⟩
def tyV(K:PySem.W.Frag)(T:String)(x:V)(H:Hp):Prop:=match x with
 | .str _=>T="str"
 | .int _=>T="int"
 | .ref p=>(T="list"/\∃xs,SqL K H p xs)\/(T="tuple"/\∃o,K.lookup p=U o/\o.cls= .type "tuple"/\o.dict=J)\/
   (T="dict"/\∃eD,H p=U (.dT eD))
 |_=>False
def NU{X:Cx}{Z:St}{s:ZI}(I:Inv X e8 Z H s)(r:Zt x v)(ty:tyV X.K T x H):
  s.TypeIs v T/\∀a,v= .ref a->∃ob,s.heap.get? a=U ob/\ob.dict=J:=by
 cases x with
 |str z=>
  obtain⟨t,rfl⟩:=r;cases(show T="str" from ty);exact⟨typeIs_str s z t,λ_ e=>nomatch e⟩
 |int i=>
  obtain⟨t,rfl⟩:=r;cases(show T="int" from ty);exact⟨typeIs_int s i t,λ_ e=>nomatch e⟩
 |ref p=>
  cases r;rcases ty with⟨rfl,xs,hq⟩| ⟨rfl,o,hk,hc,hd⟩| ⟨rfl,eD,hk⟩
  .obtain⟨its,_,pl,_⟩:=I.list hq;refine⟨pl.isList.typeIs,λa e=> ?_⟩;cases e;obtain⟨o,n,e,c,hd,_⟩:=pl;exact⟨o,e,hd⟩
  .refine⟨⟨o,I.kIn p o hk,hc⟩,λa e=> ?_⟩;cases e;exact⟨o,I.kIn _ o hk,hd⟩
  .obtain⟨_,_,_,_,o,_,_,e,ex,_⟩:=I.hok p _ hk;refine⟨⟨o,e,ex.1⟩,λa e2=> ?_⟩;cases e2;exact⟨o,e,ex.2.1⟩
 |_=>exact False.elim ty
def tBM(K:PySem.W.Frag)(T:String)(r:V->List V->Hp->VK->Prop)(to:TE)(t:TA):TE:=λZ H Q=>to Z H λx H1=>tyV K T x H1/\t Z H1 λxs H2=>r x xs H2 Q
def CQ{X:Cx}{o e:ZJ}{es:List ZJ}{t:TA}{name:Str}{apos eE:Pos}{T id:String}{r:V->List V->Hp->VK->Prop}(pa:PlainAttrs T)(slot:Slot T name id)(YB:typeOf (.builtin id)=pure (.type "method_descriptor"))(hm:MtR X id r)(ho:PE X o to)(ha:PA X (e::es) t)
  (eX:autoParam (attributeBase o name X.env (eval o X.env)=eval o X.env) Za1._auto_1)
  (xF:((backTo eE (starEach (e::es) X.env)).all (λx=> !x.1)&&(backToKw eE (keywordEach [] X.env)).all (λx=>x.1.isSome)
   &&decide ((e::es).length+([]:List Keyword).length+(if([]:List Keyword).isEmpty then 0 else 1)<30))=O:=by rfl)
  (eW:autoParam ((apos.endLine==eE.line)=O) Za1._auto_1)(hs:autoParam (starEach (e::es) X.env=(M,eval e X.env)::starEach es X.env) Za1._auto_1)(ze:autoParam ((backTo eE (starEach es X.env)).any (·.1)=M) Za1._auto_1):
  PE X (.Call (.Attribute o name apos) (e::es) [] eE) (tBM X.K T r to t):=by
 intro e8 s Z H Q I h;refine wpAny_Call_method_late eX xF eW rfl (thn (ho e8 s Z H _ I h) λv s1 ⟨x,H1,I1,r1,ty,q1⟩=> ?_);obtain⟨h1,h2⟩:=NU I1 r1 ty;refine⟨T,id,pa,slot,YB,h1,h2, ?_⟩;have hA:=ha eE e8 s1 Z H1 _ I1 q1;rw[hs] at hA⊢;refine GcH (by show(M||(backTo eE (starEach es X.env)).any (·.1))=M;rw[ze]<;>rfl) (GdF ?_);exact thn hA λus s2 ⟨vs,H2,I2,r2,q2⟩=>hm e8 s2 Z H2 x vs v us Q I2 r1 r2 q2
end
def MtM(X:Cx)(id:String)(r:V->List V->Hp->VK->Prop):Prop:=
 ∀(e8:LAO) (s:ZI) (Z:St) (H:Hp) (x:V) (xs:List V) (v:ZH) (us:List ZH) (Q:VK),Inv X e8 Z H s->Zt x v->Zu xs us->r x xs H Q->
  wpAny (model X.prog X.w) X.A (call (.builtin id) (v::us)) (EP X e8 Z Q) X.xe s
def Zu.one(p:Zu [x] us):∃u,us=[u]/\Zt x u:=by
 cases p with
 |cons r t=>cases t;exact⟨_,rfl,r⟩
section
variable{ys:List V}{s:ZI}{Z:St}
def Inv.NV{its its' :List ZH}(I:Inv X e8 Z H s)(hH:H l=U (.lst xs))
  (e:s.heap.get? l=U {cls:= .type "list",data:= .seq its.toArray n})(hf:f its.toArray=its'.toArray)(hv:Zu ys its')(hz:ys.length<=sizeLine):
  Inv X e8 Z (upd H l (.lst ys)) {s with heap:=s.heap.update l (Obj.mapSeq f),toks:=t' }:=by
 have q:=PySem.IsL.update e f;rw[hf] at q;refine I.write (by rw[hH];exact trivial) (.inl rfl) (λb' u hb hu=>(Gce s.heap (Obj.mapSeq f) (Ne.symm hb)).trans hu) ⟨_,q⟩ ?_;exact⟨hz,its',_,hv,q⟩
def Inv.Uj{its:List ZH}(I:Inv X e8 Z H s)(hv:Zu ys its)(hz:ys.length<=sizeLine):
  Inv X e8 Z (upd H s.heap.objs.size (.lst ys)) {s with heap:=s.heap.push {cls:= .type "list",data:= .seq its.toArray},toks:=t' }:=
 I.laid (λ_ _ q=>Gag _ q) (Gan _) ⟨hz,its,0,hv,Gaw _ rfl⟩
theorem Inv.fresh{Z:St}{s:ZI}(I:Inv X e8 Z H s):H s.heap.objs.size=J:=I.hok.fresh (Gan _)
def Inv.Kz{xs:List V}(I:Inv X e8 Z H s)(hH:H l=U (.lst xs)):xs.length<=sizeLine/\∃its n,Zu xs its/\xs.length=its.length/\s.heap.get? l=U {cls:= .type "list",data:= .seq its.toArray n}:=by
 obtain⟨z,its,n,r,e⟩:=I.hok l _ hH;exact⟨z,its,n,r,r.length,e⟩
def Hg(h:n<=sizeLine):Builtin.List.listTooLong n=M:=by
 exact GaE (by lia)
end
def CT:V->List V->Hp->VK->Prop:=λx vs H Q=>∃l xs y,x= .ref l/\vs=[y]/\H l=U (.lst xs)/\xs.length<sizeLine/\Q .non (upd H l (.lst (xs++[y])))
def oh:MtM X "list.append" CT:=by
 intro e8 s Z H x vs v us Q I rx rv h;obtain⟨l,xs,y,rfl,rfl,hH,hz,q⟩:=h;cases rx;obtain⟨u,rfl,ru⟩:=rv.one;obtain⟨z,its,n,r,hl,e⟩:=I.Kz hH;refine call_meets F.slot_list_append ⟨_,e,rfl⟩ F.entry_list_append (F.args_list_append_2 _ _) (PySem.list_append l its.toArray n u (by rw[Gav];lia)) ⟨e, ?_⟩;refine⟨.non,_,I.NV (its' :=its++[u]) hH e (by simp) (r.append (.cons ru .nil)) ?_,rfl,q⟩;rw[Gal,GcN];lia
def KA:V->List V->Hp->VK->Prop:=λx vs H Q=>∃l b xs zs,x= .ref l/\vs=[.ref b]/\H l=U (.lst xs)/\H b=U (.lst zs)/\xs.length+zs.length<=sizeLine/\Q .non (upd H l (.lst (xs++zs)))
def EO:MtM X "list.extend" KA:=by
 intro e8 s Z H x vs v us Q I rx rv h;obtain⟨l,b,xs,zs,rfl,rfl,hH,hB,hz,q⟩:=h;cases rx;obtain⟨u,rfl,ru⟩:=rv.one;cases ru;obtain⟨z,its,n,r,hl,e⟩:=I.Kz hH;obtain⟨z2,eO,n2,r2,zR,e2⟩:=I.Kz hB;have xC:its.toArray.size+eO.toArray.size<=sizeLine:=by rw[Gav,Gav];lia
 have hlong:¬(!its.toArray.isEmpty&&Builtin.List.listTooLong (its.toArray.size+eO.toArray.size))=O:=by
  rw[Hg xC,Gdo];lia
 refine call_meets F.slot_list_extend ⟨_,e,rfl⟩ F.entry_list_extend (F.args_list_extend_2 _ _)
  (AutoSeq1.list_extend_list_list_0 l its.toArray n b eO.toArray n2 hlong (by rw[Gav];lia) (by lia)) ⟨e,e2, ?_⟩
 refine⟨.non,_,I.NV hH e (by simp) (r.append r2) ?_,rfl,q⟩;simp_all
section
variable{Y:Type} [DecidableEq Y]
noncomputable def je(eD:List (Y×V))(k:Y):Option V:=(eD.find? λkv=>decide (kv.1=k)).map (·.2)
noncomputable def putK(eD:List (Y×V))(k:Y)(v:V):List (Y×V):=
 if(eD.any λkv=>decide (kv.1=k))=O then eD.map (λkv=>if kv.1=k then(kv.1,v) else kv) else eD++[(k,v)]
def n4{r:List (Y×V)}(e:p.1=k):je (p::r) k=U p.2:=by simp[je,e]
def jt{r:List (Y×V)}(e:¬p.1=k):je (p::r) k=je r k:=by simp[je,e]
theorem qv(k:Y):∀eD,(eD.any λkv=>decide (kv.1=k))=(je eD k).isSome
 |[]=>rfl
 |p::r=>by
  rw[GdR];by_cases e:p.1=k
  .simp only[n4 e,GaD e,Bool.true_or,Option.isSome_some]
  .rw[jt e,GaE e];exact qv k r
def oV(eD:List (Y×V))(k:Y)(v:V):(putK eD k v).length<=eD.length+1:=by
 unfold putK;split
 .simp_all
 .simp_all
def Hh{eD:List (Y×V)}{k:Y}(v:V)(h:je eD k=J):putK eD k v=eD++[(k,v)]:=by
 unfold putK;rw[qv,h];simp_all
def GG.ER{o:Option V}{u:Option ZH}(r:GG o u):o.isSome=u.isSome:=by
 cases o with
 |none=>cases u with
  |none=>rfl
  |some _=>exact(show False from r).elim
 |some _=>cases u with
  |none=>exact(show False from r).elim
  |some _=>rfl
theorem GG.getD{o:Option V}{u:Option ZH}(r:GG o u)(rd:Zt d d'):Zt (o.getD d) (u.getD d'):=by
 cases o with
 |none=>cases u with
  |none=>exact rd
  |some _=>exact(show False from r).elim
 |some _=>cases u with
  |none=>exact(show False from r).elim
  |some _=>exact r
end
def Rr(r:Zt (kV k) u):(cK P w).is k u=O:=by
 cases k with
 |inl i=>obtain⟨t,e⟩:=(show∃t,u=Value.int i t from r);subst e;exact oS P w i t
 |inr x=>obtain⟨t,e⟩:=(show∃t,u=Value.str x t from r);subst e;exact oT P w x t
theorem u5:∀{ks us},Zu (ks.map kV) us->ItemsAre (cK P w) ks us
 |[],_,r=>by rw[Gdf] at r;cases r;exact .nil
 |k::ks,_,r=>by
  cases r with
  |cons h t=>exact .cons (Rr h) (u5 t)
abbrev KT(H:Hp):List (List Key×V)->List (List Key×ZG×ZH)->Prop:=Paired λp q=>p.1=q.1/\H q.2.1=U (.tup (p.1.map kV))/\Zt p.2 q.2.2
def KT.val(r:KT H eD xs)(k:List Key):GG (je eD k) ((atKey xs k).map (·.2)):=by
 induction r with
 |nil=>exact True.intro
 | @cons p q ps qs h t ih=>
  obtain⟨h1,_,h2⟩:=h;by_cases e:p.1=k
  .have e' :=h1.symm.trans e;have b:atKey (q::qs) k=U q.2:=by simp[atKey,e']
   rw[n4 e,b];exact h2
  .have e' :¬q.1=k:=λz=>e (h1.trans z);have b:atKey (q::qs) k=atKey qs k:=by simp[atKey,e']
   rw[jt e,b];exact ih
def KT.Uk{eD:List (List Key×V)}{xs:List (List Key×ZG×ZH)}(r:KT H eD xs)(k:List Key)(ry:Zt y u):
  KT H (eD.map λkv=>if kv.1=k then(kv.1,y) else kv) (xs.map (putAt k u)):=by
 induction r with
 |nil=>exact .nil
 | @cons p q ps qs h t ih=>
  rw[Gay];refine .cons ?_ ih;obtain⟨h1,h2,h3⟩:=h;unfold putAt;by_cases e:p.1=k
  .rw[Gao e,Gao (h1.symm.trans e)];exact⟨h1,h2,ry⟩
  .rw[Gai e,Gai (λz=>e (h1.trans z))];exact⟨h1,h2,h3⟩
def KT.put(r:KT H eD xs)(k:List Key)(hb:H b=U (.tup (k.map kV)))(ry:Zt y u):
  KT H (putK eD k y) (storedH xs k b u):=by
 have e:(eD.any λkv=>decide (kv.1=k))=(atKey xs k).isSome:=by
  rw[qv,(r.val k).ER,Option.isSome_map]
 unfold putK storedH;rw[e];by_cases q:(atKey xs k).isSome=O
 .rw[Gao q,Gao q];exact r.Uk k ry
 .rw[Gai q,Gai q];exact Paired.snoc r ⟨rfl,hb,ry⟩
def KT.keeps(r:KT H eD xs)(ht:∀b ys,H b=U (.tup ys)->H' b=U (.tup ys)):KT H' eD xs:=
 Paired.Ka r λ_ _ z=> ⟨z.1,ht _ _ z.2.1,z.2.2⟩
section
def Rt(ok:HOk P w H h)(e:Rd H a u):cJ P w H h a u:=e.ok ok
def oj{ks:List Key}(ok:HOk P w H h)(e:H a=U (.tup (ks.map kV))):(tupleKind (cK P w)).is h ks a:=by
 obtain⟨_,its,r,o,h1,h2,n,h3⟩:=(show cJ P w H h a (.tup (ks.map kV)) from ok a _ e)
 exact⟨o,its.toArray,n,h1,h2,h3,by simpa using u5 r⟩
variable{eD:List (List Key×V)}
def Hj{h:ZK}(ok:HOk P w H h)(e:Rd H a (.dT eD)):eD.length<=sizeLine/\(a==sysModules)=M/\
  ∃xs,KT H eD xs/\h.DictOfH (tupleKind (cK P w)) a xs:=by
 obtain⟨z,y,xs,r,o,es,ep,h1,h2,h3,h4,h5⟩:=(show cJ P w H h a (.dT eD) from Rt ok e)
 refine⟨z,y,xs,r,o,es,ep,h1,h2,h3,h4,λx hx=> ?_,h5⟩;have all:∀{l:List (List Key×V)} {m:List (List Key×ZG×ZH)},KT H l m->∀x∈m,(tupleKind (cK P w)).is h x.1 x.2.1:=by
  intro l m q;induction q with
  |nil=>intro x hx;exact nomatch hx
  | @cons p q ps qs hq t ih=>
   intro x hx;rcases Gat.mp hx with e|hx
   .subst e;exact oj ok (by rw[<-hq.1];exact hq.2.1)
   .exact ih x hx
 exact all r x hx
def Hk{h:ZK}(ok:HOk P w H h)(e:H a=U (.dT eD)):eD.length<=sizeLine/\(a==sysModules)=M/\
  ∃xs,KT H eD xs/\h.DictOfH (tupleKind (cK P w)) a xs:=Hj ok (.inl e)
end
def KC(H:Hp)(a:ZG)(y:V)(r:Option V):Prop:=
 ∃eD k b,Rd H a (.dT eD)/\y= .ref b/\H b=U (.tup (k.map kV))/\r=je eD k
def Hl(H:Hp)(a:ZG)(y v:V)(H' :Hp):Prop:=
 ∃eD k b,H a=U (.dT eD)/\y= .ref b/\H b=U (.tup (k.map kV))/\eD.length<sizeLine/\H' =upd H a (.dT (putK eD k v))
def Hl.t{eD:List (List Key×V)}{k:List Key}(e:H a=U (.dT eD))(eb:H b=U (.tup (k.map kV)))(hl:eD.length<sizeLine):
  Hl H a (.ref b) v (upd H a (.dT (putK eD k v))):=⟨eD,k,b,e,rfl,eb,hl,rfl⟩
section
variable{Z:St}
def Inv.big{s:ZI}(I:Inv X e8 Z H s):sysModules<s.heap.objs.size:=by
 have h:=(I.mod.glob.keeps I.bk).lt;exact Nat.lt_trans (by decide) h
def qc{X:Cx}{s:ZI}{h' :ZK}(I:Inv X e8 Z H s)(mu:Mut (H a))(hs:Heap.SameBut a s.heap h')(he:∃q,h'.get? a=U q)(new:cJ X.prog X.w (upd H a ob) h' a ob):
  Inv X e8 Z (upd H a ob) {s with heap:=h',toks:=t' }:=
 I.write mu (.inl rfl) (λb q hb z=>(hs.2 b hb).trans z) he new
def ES{X:Cx}{A:ZL}(hu:A.units+1<cLine)(I:Inv X e8 Z H s)(g:Hl H a y v H')(ry:Zt y u)(rv:Zt v r)(h:∀s',Inv X e8 Z H' s' ->Q () s'):
  wpAny (model X.prog X.w) A (setItem (.ref a) u r) Q E s:=by
 obtain⟨eD,k,b,e,ey,eb,l,eH⟩:=g;subst ey eH;cases(show u=Value.ref b from ry);obtain⟨z,hd,xs,rel,dd⟩:=Hk I.hok e;have hz:xs.length<=sizeLine:=by rw[<-Paired.length rel];exact z
 have hl:(putK eD k v).length<=sizeLine:=by have:=oV eD k v;lia
 refine wpAny_setItem_heap (tupleKind_room_in1 hu) (oj I.hok eb) dd λh' Xq hs=>h _ ?_;obtain⟨q,es,ep,hq,h2,h3,h4,_,h5⟩:=Xq;refine qc I (by rw[e];exact True.intro) hs ⟨q,hq⟩ ⟨hl,hd,_,(rel.put k eb rv).keeps λc ys ec=> ?_,q,es,ep,hq,h2,h3,h4,h5⟩;rw[ao (tU ec e (λz=>nomatch z))];exact ec
end
def Hm(h:ZK)(hb:sysModules<h.objs.size):cJ P w H (h.push {cls:= .type "dict",data:= .dict #[]}) h.objs.size (.dT []):=
 ⟨Gba _,beq_eq_false_iff_ne.mpr (Ne.symm (GaI hb)),[],.nil,_,#[],0,Gaw _ rfl,⟨rfl,rfl,rfl⟩,rfl,rfl,GdP⟩
def NW:TE:=λ_ H Q=>∀p,H p=J->Q (.ref p) (upd H p (.dT []))
def wR:PE X (.Dict [] [] pos) NW:=λe8 s Z H Q I h=>
 wpAny_Dict_empty ⟨.ref s.heap.objs.size,_,I.laid (λ_ _ q=>Gag _ q) (Gan _) (Hm s.heap I.big),rfl,h _ (I.hok.fresh (Gan _))⟩
structure M2(X:Cx)(o:ZJ)(m:Str)(apos:Pos)(e f:ZJ)(eE:Pos):Prop where
 base:attributeBase o m X.env (eval o X.env)=eval o X.env
 few:((backTo eE (starEach [e,f] X.env)).all (λx=> !x.1)&&(backToKw eE (keywordEach [] X.env)).all (λx=>x.1.isSome)
  &&decide (([e,f]:List ZJ).length+([]:List Keyword).length+(if([]:List Keyword).isEmpty then 0 else 1)<30))=O
 line:(apos.endLine==eE.line)=O
 trees:backTo eE (starEach [e,f] X.env)=[(M,eval e X.env),(M,eval f X.env)]
def IsD(H:Hp)(a:ZG):Prop:=∃eD,Rd H a (.dT eD)
def BB{Z:St}{s:ZI}(I:Inv X e8 Z H s)(d:IsD H a):
  s.TypeIs (.ref a) "dict"/\(∀b,Value.ref a= .ref b->∃ob,s.heap.get? b=U ob/\ob.dict=J)/\(a==sysModules)=M:=by
 obtain⟨eD,e⟩:=d;obtain⟨_,hd,xs,_,dd⟩:=Hj I.hok e;refine⟨dd.typeIs,λb q=> ?_,hd⟩;cases q;obtain⟨ob,_,_,h1,h2,_⟩:=dd;exact⟨ob,h1,h2.2.1⟩
def NX{X:Cx}{Z:St}{o:Option V}{A:ZL}(hu:A.units+1<cLine)(I:Inv X e8 Z H s)(g:KC H a y o)(ry:Zt y u)(rd:Zt d r)(h:∀w' s',Inv X e8 Z H s' ->Zt (o.getD d) w' ->Q w' s'):
  wpAny (model X.prog X.w) A (call (.builtin "dict.get") [.ref a,u,r]) Q E s:=by
 obtain⟨eD,k,b,e,ey,eb,l⟩:=g;subst ey;cases(show u=Value.ref b from ry);obtain⟨z,hd,xs,rel,dd⟩:=Hj I.hok e;refine call_meetsIn PySem.F.slot_dict_get dd.typeIs PySem.F.entry_dict_get (PySem.F.args_dict_get_3 _ _ _) (meetsH_dict_get_default (tupleKind (cK X.prog X.w)) a b hd r) ⟨tupleKind_room_in1 hu,k,xs,oj I.hok eb,dd,h _ _ (I.tok _) ?_⟩;rw[l];exact(rel.val k).getD rd
def NY(td ty tx:TE):TE:=λZ H Q=>td Z H λx H1=>∃a,x= .ref a/\IsD H1 a/\ty Z H1 λy H2=>tx Z H2 λz H3=>∃o,KC H3 a y o/\Q (o.getD z) H3
def Hn{X:Cx}(hu:X.A.units+1<cLine)(ho:PE X o td)(he:PE X e ty)(hf:PE X f tx)(m:M2 X o "get" apos e f eE):PE X (.Call (.Attribute o "get" apos) [e,f] [] eE) (NY td ty tx):=by
 intro e8 s Z H Q I h;refine wpAny_Call_method m.base m.few m.line Gdr PySem.F.slot_dict_get PySem.F.type_dict_get (thn (ho e8 s Z H _ I h) λu s1 ⟨x,H1,I1,rx,a,ex,d,q1⟩=> ?_);subst ex;obtain rfl:u=Value.ref a:=rx;obtain⟨t1,t2,_⟩:=BB I1 d;refine⟨t1,t2, ?_⟩;rw[m.trees];refine GcH rfl (GdF (GcC (thn (he e8 s1 Z H1 _ I1 q1) λiv s2 ⟨y,H2,I2,ry,q2⟩=>
  GcC (thn (hf e8 s2 Z H2 _ I2 q2) λfv s3 ⟨z,H3,I3,rz,ov,g,q3⟩=>Calls.spliced_nil ?_))))
 exact NX hu I3 g ry rz λw' s4 I4 xK => ⟨_,H3,I4,xK,q3⟩
end L2
namespace Att
open PySem PySem.W PySem.Calls PyProof.Rows
def pS:∀ns vs,WellAll P h vs (ns.map WData.int)->IntsAre vs ns:=by
 intro ns;induction ns with
 |nil=>
  intro vs w;rw[Gdf] at w;cases w;exact .nil
 |cons n ns ih=>
  intro vs w;rw[Gay] at w;cases w with
  |cons a b=>
   cases a;exact .cons _ _ (ih _ b)
def ET{l:OpenLaw}{h:ZK}(hn:l.most=U n)
  (yH:l.row.toRowW.claim.pre args=O)(WS:WellAll P h vals args):
  ∃a vs ns,vals=[Value.ref a]/\args=[WData.list (ns.map WData.int)]/\h.get? a=U {cls:= .type "list",data:= .seq vs.toArray}/\IntsAre vs ns/\ns.length<=n:=by
 have hsh:WShape.hasAll [] args [.list .int]=O:=(pre_splitW yH).1;have hc:l.pre.holds [] {args:=args}=O:=(pre_splitW yH).2;obtain⟨d,r,rfl,h1,h2⟩:=hasAllW_cons hsh;obtain rfl:=hasAllW_nil h2;obtain⟨xs,rfl,h3⟩:=hasW_list h1;obtain⟨ns,rfl⟩:=items_int h3;have eL:ns.length<=n:=by
  unfold OpenLaw.pre at hc;have h4:(WTm.not (.lt (.lit (.int (n:Int))) (.len (.arg 0)))).holds [] {args:=[.list (ns.map .int)]}=O:=by
   have h4:=(holds_andW hc).1;rw[hn] at h4;exact h4
  have h5:=condW_of h4 (w_not (w_lt w_lit (w_len_list (w_arg rfl))));rw[Gae] at h5;refine Nat.le_of_not_lt λq=> ?_;have q' :(n:Int)<((ns.length:Nat):Int):=by lia
  first
   |(rw[GaD q'] at h5;exact absurd h5 (by decide))
   |(simp at h5;lia)
 cases WS with
 |cons w1 w2=>
  cases w2;cases w1 with
  |list ho yK=>exact⟨_,_,ns,rfl,rfl,ho,pS ns _ yK,eL⟩
def EU(l:OpenLaw)(args:List WData):l.row.toRowW.claim.post args (.bool O) args=O:=
 postW_of (r:=l.row.toRowW) (X:=(O==O))
  (show WShape.has [] (.bool O) .bool=O by first|rfl|decide|simp[WShape.has,WShape.arms,WShape.armsAll])
  (show(WTm.eq .res (.lit (.bool O))).value [] {args:=args,res:=U (.bool O),after:=args}=U (.bool (O==O)) from w_eq_bool (w_res rfl) w_lit) rfl
def wU{l:OpenLaw}{d:DefRec}
  (hn:l.most=U n)(zW:d.params.defaults=[])
  (call:∀w s₀ s₁ mg mb fa o pm cd doc a vs ns,
   Ground q loose [] XP w s₀ mg mb s₁.heap->YP w s₁.heap->
   s₁.heap.get? fa=U o->o.data= .func (docDef d.name d.params d.body d.scope pm cd doc)->s₁.heap.CodeRec cd d.name->mg d.name=U (.ref fa)->
   s₁.heap.get? a=U {cls:= .type "list",data:= .seq vs.toArray}->IntsAre vs ns->ns.length<=n->s₁.gens=#[]->
   codeAny (model l.prog w) callerA (.call (.ref fa) ⟨[.ref a],[]⟩) (λr s' =>r= .ok (.ret (.bool O))/\OldK s₁.heap s'.heap/\s'.os=s₁.os/\AllBare s'.gens) s₁):
  WalkO q loose XP YP l.row.toRowW d [] (λf vs=>PySem.call f vs):=by
 intro w s₀ s₁ mg mb G Y fa o pm cd doc dV kV ho hd xq hD zQ hg args vals as yH hlay hrd WS hlo;obtain rfl:dV= .none:=Dflts.none hD zW;obtain rfl:kV= .none:=Dflts.noKw hD;obtain⟨a,vs,ns,rfl,rfl,zi,hints,eL⟩:=ET hn yH WS;refine enter_call (codeAny_mono (call w s₀ s₁ mg mb fa o pm cd doc a vs ns G Y ho (fd_plain hd) xq zQ zi hints eL hg) λr s' hq=> ?_);obtain⟨rfl,h2,h3,h4⟩:=hq;exact⟨.inl ⟨.bool O,.bool O,[],rfl,λ_=>rfl,.bool O,EU l _,λ_=> ⟨List.Pairwise.nil,λ_ hm=>(nomatch hm)⟩⟩,h2,h3,h4⟩
end Att
namespace L2
open PySem PySem.Spec PyProof.Rows
def EV{ns:List Int}(p:IntsAre vs ns):Zu (ns.map V.int) vs:=by
 induction p with
 |nil=>exact .nil
 |cons n t h ih=>exact .cons ⟨t,rfl⟩ ih
def KD(H:Hp):Prop:=∀b,H b=J\/∃o xs,H b=U (.frz o (.lst xs))
def Ho{K:PySem.W.Frag}{s₁:ZI}{vs:List ZH}{ns:List Int}
  (KX:K.In s₁.heap)(zA:s₁.heap.Ns mainGlobals mg)(hb:s₁.heap.Ns builtinsNs mb)(Xi:∀x:Str,x≠"__name__"->mb x=bootBuiltins x)(Xd:s₁.heap.NoLimit)(hg:s₁.gens=#[])
  (ha:s₁.heap.get? a=U {cls:= .type "list",data:= .seq vs.toArray})(hi:IntsAre vs ns)(hl:ns.length<=sizeLine)(hr:iT k callerA)
  (F:∀base,K.In base->base.Ns mainGlobals mg->jr P w K mg base CX k fa fd [x] sp)(zZ:∀s u,BindsTo s fd ⟨[u],[]⟩ [(x,u)])
  (yN:∀H,KD H->SqL K H a (ns.map V.int)->sp [.ref a] H (λv _=>v= .bl O) λ_ _ _=>False)
  (Xl:∀H e s',CX [] H s₁ (λ_ _ _=>False) e s' ->False):
  codeAny (model P w) callerA (.call (.ref fa) ⟨[.ref a],[]⟩) (λr s' =>r= .ok (.ret (.bool O))/\OldK s₁.heap s'.heap/\s'.os=s₁.os/\AllBare s'.gens) s₁:=by
 have rv:=EV hi;have lenV:=hi.length;have core:∀H:Hp,KD H->SqL K H a (ns.map V.int)->HOk P w H s₁.heap->(∀b,H b≠J->b=a)->(H a≠J->K.lookup a=J)->
   codeAny (model P w) callerA (.call (.ref fa) ⟨[.ref a],[]⟩) (λr s' =>r= .ok (.ret (.bool O))/\OldK s₁.heap s'.heap/\s'.os=s₁.os/\AllBare s'.gens) s₁:=by
  intro H hO hS hok hA hK;have base_of:∀{b:ZG} {o:ZM},s₁.heap.get? b=U o->H b=J->(wL s₁.heap H).get? b=U o:=λe n=>GH e n;have noA:∀{b:ZG} {o:ZM} {es:Array DictEntry} {ep:Nat},s₁.heap.get? b=U o->o.data= .dict es ep->H b=J:=λ{b o es ep} e d=>by
   cases q:H b with
   |none=>rfl
   |some u=>
    grind
  have nsK:∀{b:ZG} {m:Str->Option ZH},s₁.heap.Ns b m->(wL s₁.heap H).Ns b m:=λ{b m} ⟨o,es,ep,e,d,r⟩=> ⟨o,es,ep,base_of e (noA e d),d,r⟩;have XZ:=λb o e=>base_of (KX b o e) (by
   cases q:H b with
   |none=>rfl
   |some u=>
    have e' :=hA b (by rw[q];simp);subst e';rw[hK (by rw[q];simp)] at e;cases e)
  have hM:Mod K mg (wL s₁.heap H):=⟨XZ,nsK zA,⟨mb,nsK hb,Xi⟩,let⟨mc,h1,h2⟩:=Xd;⟨mc,nsK h1,h2⟩⟩
  have e0:Kp P w K mg (wL s₁.heap H) callerA [] s₁ H:=⟨rfl,hM,λb o e=>Kb e,Nat.le_of_eq (EA _ _),trivial,λb hb=>absurd (show b∈([]:List ZG) from hb) (by simp),hok,.of_eq hg⟩
  refine codeAny_mono ((F _ XZ (nsK zA)).run callerA [] s₁ H ⟨[.ref a],[]⟩ [.ref a] [.ref a] _ _ hr e0 (zZ s₁ (.ref a)) (.cons rfl .nil) (yN H hO hS)) λr s' h=> ?_;cases r with
  |error e=>exact(Xl H e s' h).elim
  |ok fl=>
   cases fl with
   |next=>exact False.elim h
   |brk=>exact False.elim h
   |cont=>exact False.elim h
   |ret u=>
    obtain⟨v,H',os,bare,un,xQ,r',q⟩:=h;have q' :=q;subst q';obtain rfl:u=Value.bool O:=r';refine⟨rfl,OldK.of_keep λb o e=> ?_,os,bare⟩;cases q:H b with
    |none=>exact un.keep b o e q (by intro z;exact absurd (show b∈([]:List ZG) from z) (by simp)) (by simp)
    |some u=>
     rcases hO b with z| ⟨ob,xs,z⟩
     .rw[q] at z;cases z
     .have z2:=un.sX b ob _ z;obtain⟨e1,_⟩:=hok b _ z;obtain⟨e2,_⟩:=xQ b _ z2;rw[e] at e1;cases e1;exact e2
 cases hk:K.lookup a with
 |some o=>
  have e:=KX a o hk;rw[ha] at e;cases e;refine core (λ_=>J) (λ_=> .inl rfl) (.inr ⟨_,vs.toArray,_,hk,rfl,rfl,rfl,by rw[Gav,lenV];exact hl,by simpa using rv⟩) (λb u z=>by have z' :(J:Option HO)=U u:=z;cases z') (λb z=>absurd rfl z) λz=>absurd rfl z
 |none=>
  refine core (λb=>if b=a then U (.frz {cls:= .type "list",data:= .seq vs.toArray} (.lst (ns.map V.int))) else J) (λb=> ?_) (.inl (.inr ⟨{cls:= .type "list",data:= .seq vs.toArray},Gao rfl⟩)) (λb u z=> ?_) (λb z=> ?_) λ_=>hk
  .by_cases hb:b=a
   .exact .inr ⟨_,_,Gao hb⟩
   .exact .inl (Gai hb)
  .by_cases hb:b=a
   .have z' :=(Gao hb).symm.trans z;cases z';subst hb;exact⟨ha,by rw[Gae];exact hl,vs,_,rv,ha⟩
   .have z' :=(Gai hb).symm.trans z;cases z'
  .by_cases hb:b=a
   .exact hb
   .exact absurd (Gai hb) z
def KG{l:PySem.W.OpenLaw}{YP:World->ZK->Prop}{d:DefRec}{K:ZT->PySem.W.Frag}{CX:World->CXT}{sp:World->Sp}{x:Str}
  (hn:l.most=U n)(Xc:n<=sizeLine)(zW:d.params.defaults=[])(hr:iT k callerA)
  (hY:∀w h,YP w h->(K w.params).In h)
  (F:∀w (mg:Str->Option ZH) fa h,(K w.params).In h->h.Ns mainGlobals mg->mg d.name=U (.ref fa)->
   ∃fd,(∀s u,BindsTo s fd ⟨[u],[]⟩ [(x,u)])/\
    ∀base,(K w.params).In base->base.Ns mainGlobals mg->jr l.prog w (K w.params) mg base (CX w) k fa fd [x] (sp w))
  (yN:∀w H a (ns:List Int),ns.length<=n->KD H->SqL (K w.params) H a (ns.map V.int)->sp w [.ref a] H (λv _=>v= .bl O) λ_ _ _=>False)
  (Xl:∀w H s e s',CX w [] H s (λ_ _ _=>False) e s' ->False):
  PySem.W.WalkO q loose XP YP l.row.toRowW d [] (λf vs=>PySem.call f vs):=by
 refine Att.wU hn zW λw s₀ s₁ mg mb fa o pm cd doc a vs ns G Y ho hd xq zQ zi hints eL hg=> ?_;have KX:=hY w _ Y;obtain⟨fd,hb,hF⟩:=F w mg fa _ KX G.T.g zQ;exact Ho KX G.T.g G.T.b G.T.builtins G.T.nolimit hg zi hints (Gbo eL Xc) hr hF hb (λH hO hS=>yN w H a ns eL hO hS) λH e s' =>Xl w H s₁ e s'
noncomputable def kW(s:ZP):Arguments:=match s with
 | .FunctionDef _ a _ _ _ _ _ _ _ _=>a
 |_=>{posonlyargs:=[],args:=[],vararg:=J,kwonlyargs:=[],kw_defaults:=[],kwarg:=J,defaults:=[]}
noncomputable def gq(s:ZP):List ZP:=match s with
 | .FunctionDef _ _ b _ _ _ _ _ _ _=>b
 |_=>[]
noncomputable def aY(s:ZP):ZO:=match s with
 | .FunctionDef _ _ _ _ _ _ sc _ _ _=>sc
 |_=>{kind:= .function,names:=[],isGenerator:=M,isCoroutine:=M}
noncomputable abbrev CX0:CXT:=λ_ _ _ _ _ _=>False
noncomputable abbrev E0:XK:=λ_ _ _=>False
def Ru:Passes CX0 X E0:=λ_ _ _ _ _ _ _ h=>h.elim
structure Fun(K:PySem.W.Frag)(x qual:Str)(st:ZP)(f:ZG)(fd:ZR):Prop where
 ex:∃(oc:ZH) (od:Option ZG) (kV doc pm:ZH) (an:Option ZG) (xj ct:ZH) (zu:Array (Option ZH)),
  fd=PySem.W.fnOf x qual (kW st) (gq st) (aY st) .none kV doc pm an xj ct/\K.lookup f=U ⟨oc,od,.func fd,zu⟩/\PySem.W.codeIn K xj qual=O
 kp:PySem.W.keepIn K (.ref f)=O
section
variable{f:ZG}{st:ZP}{x qual:Str}
def Fun.ok{K:PySem.W.Frag}{mg:Str->Option ZH}{base:ZK}{fd:ZR}{N ps:List Str}{k:Nat}{sp:Sp}(F:Fun K x qual st f fd)(S:gL N ps (aY st))(len:∀vs H Q E,sp vs H Q E->vs.length=ps.length)
  (xT:∀xj A outer s H vs Q E,iT k (A.deeper (envOfC qual (aY st) s.heap.objs.size f xj))->sp vs H Q E->
   ∃t,PSs (Bw CX0 P w K mg base N qual (aY st) f xj A outer s H E).nox (gq st) t/\t {nx:=λ_ H' =>Q .non H',rt:=Q} (start N vs) H):jr P w K mg base CX0 (k+1) f fd ps sp:=by
 obtain⟨oc,od,kV,doc,pm,an,xj,ct,zu,rfl,lk,xq⟩:=F.ex;refine Rk lk xq S len λA outer s H vs Q E hr yN=> ?_;obtain⟨t,h,q⟩:=xT xj A outer s H vs Q E hr yN;exact⟨t,h.nox,q⟩
def NZ{K:PySem.W.Frag}{oc:ZH}{od an:Option ZG}{zu:Array (Option ZH)}{kV doc pm xj ct:ZH}(l:K.lookup f=U ⟨oc,od,.func (PySem.W.fnOf x qual (kW st) (gq st) (aY st) .none kV doc pm an xj ct),zu⟩)
  (c:PySem.W.codeIn K xj qual=O)(k:PySem.W.keepIn K (.ref f)=O):Fun K x qual st f (PySem.W.fnOf x qual (kW st) (gq st) (aY st) .none kV doc pm an xj ct):=⟨⟨oc,od,kV,doc,pm,an,xj,ct,zu,rfl,l,c⟩,k⟩
end
def Rw{A:ZL}(hr:iT k A):A.units+1<cLine:=GcD (Nat.add_le_add_left (by decide:1<=64) _) hr.units
def c9(H H' :Hp):Prop:=∀b o,H b=U o->H' b=U o
def c9.trans(a:c9 H H1)(b:c9 H1 H2):c9 H H2:=λc o h=>b c o (a c o h)
def c9.free(e:c9 H H')(h:H' l=Option.none):H l=Option.none:=by
 cases q:H l with
 |none=>rfl
 |some o=>
  rw[e l o q] at h;cases h
end L2
namespace Hd
noncomputable section
open PySem PySem.W PyProof.Rows L2
abbrev p0:=PySem.Challenge.pw_dosehouse_k62_a_round
noncomputable def top(i:Nat):ZP:=p0.main.body.getD i (.Pass ⟨0,0,0,0⟩)
noncomputable def view:ZQ:={p0 with main:={p0.main with body:=[1,2,3,5,7,9,10,11,12,13,15,17,19,21,22,23,24,25,26,27,28,29,31,32,33,34,35,36,38,39,40,41,42,43,44,45,46,47,48,49,50,51,52,53,54,55,56,57,58,59,60,61,62].map top}}
abbrev fd(n:Str)(i:Nat)(m:Str)(t c:Nat):ZR:=fnOf n n (kW (top i)) (gq (top i)) (aY (top i)) .none .none .none (.str m t) J (.ref c) .none
noncomputable def fo(d:ZR):ZM:=⟨.type "function",J,.func d,#[]⟩
noncomputable def co(n:Str)(t l k a:Nat)(x y:ZH)(b u:Nat):ZM:={cls:= .type "code",data:= .fields #[.str n t,.str n (t+1),.str "/claim/cut.py" (t+2),.int l 0,.int k 0,.int 0 0,.int 0 0,.int 3 0,.ref a,.bool O,.int 181 0,.ref (a+1),.none,x,y,.ref b,.int u 0,.int l 0,.str "/claim/cut.py" (u+1)]}
noncomputable def e(P:ZT)(n:Str)(t:Nat)(v:ZH):DictEntry:=⟨PyData.keyHash P n,.str n t,v⟩
noncomputable def r(P:ZT)(n:Str)(t a:Nat):DictEntry:=e P n t (.ref a)
noncomputable abbrev m0:Str:="dosehouse.books"
noncomputable abbrev m1:Str:="dosehouse.bounds"
noncomputable abbrev m2:Str:="dosehouse.doses"
noncomputable abbrev m3:Str:="dosehouse.dues"
noncomputable abbrev m4:Str:="dosehouse.faults"
noncomputable abbrev m5:Str:="dosehouse.parts"
noncomputable abbrev m6:Str:="dosehouse.rounds"
noncomputable abbrev m7:Str:="dosehouse.weights"
noncomputable abbrev m8:Str:="dosehouse.windows"
noncomputable abbrev m9:Str:="law_dosehouse_k62_a_round"
abbrev u6:=fd "laid_in" 1 m0 187 20
abbrev lI:=fd "with_giving" 2 m0 187 27
abbrev n5:=fd "givings_of" 3 m0 187 32
abbrev u7:=fd "rounded" 5 m5 213 39
abbrev Hq:=fd "dose" 7 m2 228 46
abbrev Hr:=fd "span" 9 m3 246 53
abbrev wW:=fd "due_of" 10 m3 246 60
abbrev wX:=fd "astray" 11 m3 246 67
abbrev CU:=fd "state" 12 m3 246 72
abbrev qx:=fd "taper_of" 13 m3 246 79
abbrev CV:=fd "bound" 15 m1 294 86
abbrev oW:=fd "weight_at" 17 m7 304 93
abbrev Hs:=fd "sums" 19 m8 317 100
abbrev ju:=fd "goes_by_weight" 21 m4 333 105
abbrev lJ:=fd "lone_faults" 22 m4 333 110
abbrev dg:=fd "marks_by_target" 23 m4 333 117
abbrev n6:=fd "cap_faults" 24 m4 333 124
abbrev jv:=fd "gaps_by_stuffs" 25 m4 333 131
abbrev lL:=fd "gap_between" 26 m4 333 138
abbrev n8:=fd "gap_faults" 27 m4 333 143
abbrev ko:=fd "twice_faults" 28 m4 333 148
abbrev wY:=fd "faults" 29 m4 333 155
abbrev lM:=fd "due_numbers" 31 m6 418 162
abbrev kq:=fd "giving_hours" 32 m6 418 167
abbrev u9:=fd "dues_in" 33 m6 418 174
abbrev oX:=fd "open_dues" 34 m6 418 181
abbrev ua:=fd "dose_at" 35 m6 418 188
abbrev qy:=fd "round_at" 36 m6 418 195
abbrev oY:=fd "_law_mixed" 38 m9 491 202
abbrev ub:=fd "_law_far" 39 m9 491 209
abbrev uc:=fd "_law_cap" 40 m9 491 216
abbrev oZ:=fd "_law_stuff" 41 m9 491 223
abbrev qz:=fd "_law_dues" 42 m9 491 230
abbrev p8:=fd "_law_order" 43 m9 491 237
abbrev pb:=fd "_law_world" 44 m9 491 244
abbrev qA:=fd "_law_hour" 45 m9 491 251
abbrev pe:=fd "_law_spots" 46 m9 491 256
abbrev n9:=fd "_law_weight" 47 m9 491 263
abbrev ud:=fd "_law_due" 48 m9 491 270
abbrev qB:=fd "_law_most" 49 m9 491 277
abbrev qC:=fd "_law_caps" 50 m9 491 284
abbrev qD:=fd "_law_near" 51 m9 491 291
abbrev ue:=fd "_law_own" 52 m9 491 296
abbrev nh:=fd "_law_faults" 53 m9 491 303
abbrev qE:=fd "_law_with" 54 m9 491 310
abbrev qF:=fd "_law_book" 55 m9 491 317
abbrev qG:=fd "_law_many" 56 m9 491 324
abbrev k7:=fd "_law_dues_that" 57 m9 491 329
abbrev qH:=fd "_law_dose" 58 m9 491 336
abbrev lN:=fd "_law_planned" 59 m9 491 343
abbrev pf:=fd "_law_round" 60 m9 491 350
abbrev iW:=fd "_law_alike" 61 m9 491 355
abbrev MP:=fd "law" 62 m9 491 362
def K(P:ZT):Frag:=[(3,{cls:= .type "dict",data:= .dict #[e P "__name__" 165 (.str "law_dosehouse_k62_a_round" 491),e P "__doc__" 166 (.none),e P "__package__" 167 (.none),e P "__loader__" 168 (.builtin "__main__.__loader__#opaque"),e P "__spec__" 169 (.none),r P "__annotations__" 170 6,r P "__builtins__" 171 4,e P "__file__" 173 (.str "/claim/cut.py" 172),e P "__cached__" 174 (.none),r P "laid_in" 196 21,r P "with_giving" 206 28,r P "givings_of" 212 33,r P "rounded" 227 40,r P "dose" 245 47,r P "span" 257 54,r P "due_of" 268 61,r P "astray" 277 68,r P "state" 283 73,r P "taper_of" 293 80,r P "bound" 303 87,r P "weight_at" 316 94,r P "sums" 332 101,r P "goes_by_weight" 340 106,r P "lone_faults" 346 111,r P "marks_by_target" 357 118,r P "cap_faults" 375 125,r P "gaps_by_stuffs" 384 132,r P "gap_between" 393 139,r P "gap_faults" 399 144,r P "twice_faults" 405 149,r P "faults" 417 156,r P "due_numbers" 427 163,r P "giving_hours" 433 168,r P "dues_in" 448 175,r P "open_dues" 457 182,r P "dose_at" 472 189,r P "round_at" 490 196,r P "_law_mixed" 502 203,r P "_law_far" 509 210,r P "_law_cap" 521 217,r P "_law_stuff" 536 224,r P "_law_dues" 549 231,r P "_law_order" 572 238,r P "_law_world" 589 245,r P "_law_hour" 602 252,r P "_law_spots" 608 257,r P "_law_weight" 619 264,r P "_law_due" 629 271,r P "_law_most" 637 278,r P "_law_caps" 656 285,r P "_law_near" 673 292,r P "_law_own" 679 297,r P "_law_faults" 691 304,r P "_law_with" 701 311,r P "_law_book" 721 318,r P "_law_many" 728 325,r P "_law_dues_that" 734 330,r P "_law_dose" 749 337,r P "_law_planned" 764 344,r P "_law_round" 780 351,r P "_law_alike" 786 356,r P "law" 798 363] 62}),
 (21,fo u6),(20,co "laid_in" 189 2 2 15 (.ref 17) (.ref 18) 19 194),
 (28,fo lI),(27,co "with_giving" 197 4 4 22 (.ref 24) (.ref 25) 26 204),
 (33,fo n5),(32,co "givings_of" 207 6 2 29 (.none) (.none) 31 210),
 (40,fo u7),(39,co "rounded" 215 9 4 34 (.ref 36) (.ref 37) 38 225),
 (47,fo Hq),(46,co "dose" 230 19 5 41 (.ref 43) (.ref 44) 45 243),
 (54,fo Hr),(53,co "span" 248 30 2 48 (.ref 50) (.ref 51) 52 255),
 (61,fo wW),(60,co "due_of" 258 34 2 55 (.ref 57) (.ref 58) 59 266),
 (68,fo wX),(67,co "astray" 269 43 2 62 (.ref 64) (.ref 65) 66 275),
 (73,fo CU),(72,co "state" 278 48 4 69 (.none) (.none) 71 281),
 (80,fo qx),(79,co "taper_of" 284 57 2 74 (.ref 76) (.ref 77) 78 291),
 (87,fo CV),(86,co "bound" 296 64 2 81 (.ref 83) (.ref 84) 85 301),
 (94,fo oW),(93,co "weight_at" 306 73 3 88 (.ref 90) (.ref 91) 92 314),
 (101,fo Hs),(100,co "sums" 319 80 2 95 (.ref 97) (.ref 98) 99 330),
 (106,fo ju),(105,co "goes_by_weight" 335 94 1 102 (.none) (.none) 104 338),
 (111,fo lJ),(110,co "lone_faults" 341 96 3 107 (.none) (.none) 109 344),
 (118,fo dg),(117,co "marks_by_target" 347 114 2 112 (.ref 114) (.ref 115) 116 355),
 (125,fo n6),(124,co "cap_faults" 358 120 3 119 (.ref 121) (.ref 122) 123 373),
 (132,fo jv),(131,co "gaps_by_stuffs" 376 131 1 126 (.ref 128) (.ref 129) 130 382),
 (139,fo lL),(138,co "gap_between" 385 137 3 133 (.ref 135) (.ref 136) 137 391),
 (144,fo n8),(143,co "gap_faults" 394 141 2 140 (.none) (.none) 142 397),
 (149,fo ko),(148,co "twice_faults" 400 154 2 145 (.none) (.none) 147 403),
 (156,fo wY),(155,co "faults" 406 161 2 150 (.ref 152) (.ref 153) 154 415),
 (163,fo lM),(162,co "due_numbers" 420 169 1 157 (.ref 159) (.ref 160) 161 425),
 (168,fo kq),(167,co "giving_hours" 428 174 2 164 (.none) (.none) 166 431),
 (175,fo u9),(174,co "dues_in" 434 176 4 169 (.ref 171) (.ref 172) 173 446),
 (182,fo oX),(181,co "open_dues" 449 184 3 176 (.ref 178) (.ref 179) 180 455),
 (189,fo ua),(188,co "dose_at" 458 186 5 183 (.ref 185) (.ref 186) 187 470),
 (196,fo qy),(195,co "round_at" 473 194 3 190 (.ref 192) (.ref 193) 194 488),
 (203,fo oY),(202,co "_law_mixed" 493 214 2 197 (.ref 199) (.ref 200) 201 500),
 (210,fo ub),(209,co "_law_far" 503 220 1 204 (.ref 206) (.ref 207) 208 507),
 (217,fo uc),(216,co "_law_cap" 510 222 4 211 (.ref 213) (.ref 214) 215 519),
 (224,fo oZ),(223,co "_law_stuff" 522 230 4 218 (.ref 220) (.ref 221) 222 534),
 (231,fo qz),(230,co "_law_dues" 537 240 3 225 (.ref 227) (.ref 228) 229 547),
 (238,fo p8),(237,co "_law_order" 550 248 6 232 (.ref 234) (.ref 235) 236 570),
 (245,fo pb),(244,co "_law_world" 573 264 1 239 (.ref 241) (.ref 242) 243 587),
 (252,fo qA),(251,co "_law_hour" 590 283 4 246 (.ref 248) (.ref 249) 250 600),
 (257,fo pe),(256,co "_law_spots" 603 291 1 253 (.none) (.none) 255 606),
 (264,fo n9),(263,co "_law_weight" 609 293 3 258 (.ref 260) (.ref 261) 262 617),
 (271,fo ud),(270,co "_law_due" 620 299 2 265 (.ref 267) (.ref 268) 269 627),
 (278,fo qB),(277,co "_law_most" 630 306 2 272 (.ref 274) (.ref 275) 276 635),
 (285,fo qC),(284,co "_law_caps" 638 314 5 279 (.ref 281) (.ref 282) 283 654),
 (292,fo qD),(291,co "_law_near" 657 327 4 286 (.ref 288) (.ref 289) 290 671),
 (297,fo ue),(296,co "_law_own" 674 339 5 293 (.none) (.none) 295 677),
 (304,fo nh),(303,co "_law_faults" 680 358 2 298 (.ref 300) (.ref 301) 302 689),
 (311,fo qE),(310,co "_law_with" 692 365 4 305 (.ref 307) (.ref 308) 309 699),
 (318,fo qF),(317,co "_law_book" 702 367 3 312 (.ref 314) (.ref 315) 316 719),
 (325,fo qG),(324,co "_law_many" 722 387 1 319 (.ref 321) (.ref 322) 323 726),
 (330,fo k7),(329,co "_law_dues_that" 729 391 4 326 (.none) (.none) 328 732),
 (337,fo qH),(336,co "_law_dose" 735 408 5 331 (.ref 333) (.ref 334) 335 747),
 (344,fo lN),(343,co "_law_planned" 750 421 5 338 (.ref 340) (.ref 341) 342 762),
 (351,fo pf),(350,co "_law_round" 765 431 3 345 (.ref 347) (.ref 348) 349 778),
 (356,fo iW),(355,co "_law_alike" 781 445 2 352 (.none) (.none) 354 784),
 (363,fo MP),(362,co "law" 787 459 1 357 (.ref 359) (.ref 360) 361 796)]
noncomputable def as_:List ZG:=[3,21,20,28,27,33,32,40,39,47,46,54,53,61,60,68,67,73,72,80,79,87,86,94,93,101,100,106,105,111,110,118,117,125,124,132,131,139,138,144,143,149,148,156,155,163,162,168,167,175,174,182,181,189,188,196,195,203,202,210,209,217,216,224,223,231,230,238,237,245,244,252,251,257,256,264,263,271,270,278,277,285,284,292,291,297,296,304,303,311,310,318,317,325,324,330,329,337,336,344,343,351,350,356,355,363,362]
def hook:Hook:=kHook K as_ (λ_=>rfl)
def xt(s:ZI):Bool:=xlAt view [] s&&recOk (RowW.records (OpenRow.toRowW (OpenLaw.row PySem.Challenge.rw_dosehouse_k62_a_round))) s
def left:LeftO p0 view [] xt hook.obs hook.val 3778:=λw=>by kernel_rfl
end
end Hd
section
open PySem PySem.Spec PySem.W PyProof.Rows L2
def Hd.close(hc:∀d:DefRec,d.params.defaults=[]->d.name="law"->WalkO Hd.view [] (XL Hd.view []) (Hook.says Hd.hook) PySem.Challenge.rw_dosehouse_k62_a_round.row.toRowW d [] (λf vs=>PySem.call f vs)):PySem.Challenge.rw_dosehouse_k62_a_round.Holds:=by
 refine holds_law (by kernel_rfl) λWK=> ?_;refine holds_open (q:=Hd.view) (loose:=[]) (Xt:=Hd.xt) (XP:=XL Hd.view []) (Yf:=Hook.obs Hd.hook) (Ya:=Hook.val Hd.hook) (YP:=Hook.says Hd.hook) (N:=3778) Hd.left (Hook.of Hd.hook) (Hook.keeps Hd.hook) (λs e=>xl_of s (Bool.and_eq_true_iff.mp e).1) XL.keeps (by rfl) (by rfl) (by rfl) (λs e=>recFacts_of (Bool.and_eq_true_iff.mp e).2) (by rfl) WK (by decide+kernel) ⟨rfl,rfl,rfl,rfl,rfl,by decide+kernel⟩ ?hw ?hc
 case hw=>w_witness2
 case hc=>exact hc _ rfl rfl
end
namespace DL
open PySem
abbrev Key:=Sum Int Str
set_option genInjectivity true in
inductive D where
 |non
 |bl (b:Bool)
 |int (i:Int)
 |str (x:Str)
 |tup (ds:List D)
 |lst (ds:List D)
 |dT (eD:List (List Key×D))
 |scr (ns:List Int)
 |fl (ds:List D)
 deriving Inhabited
mutual
@[simp] def D.imm:D->Bool
 | .non=>O
 | .bl _=>O
 | .int _=>O
 | .str _=>O
 | .tup ds=>aA ds
 | .lst _=>M
 | .dT _=>M
 | .scr _=>O
 | .fl ds=>aA ds
@[simp] def aA:List D->Bool
 |[]=>O
 |d::ds=>d.imm&&aA ds
end
def D.qI:D->Bool
 | .lst ds=>aA ds
 | .dT eD=>aA (eD.map (·.2))
 |d=>d.imm
noncomputable def D.top:D->Bool
 | .lst _=>O
 | .dT _=>O
 |_=>M
noncomputable def af:Nat:=16777216
set_option genInjectivity true in
inductive Slot where
 |sh (d:D)
 |own (d:D)
 |lok (d:D)
 |bor (d:D)
abbrev Env:=List (Option Slot)
set_option genInjectivity true in
inductive Cls where
 |c|tn|to|tb
 deriving DecidableEq
set_option genInjectivity true in
structure RV where
 k:Cls
 d:D
abbrev SpF:=List D->Option D
abbrev SpV:=List D->Option RV
abbrev DE:=Env->Option RV
abbrev DT:=Env->Option Bool
abbrev DA:=Env->Option (List RV)
abbrev DG:=D->Env->Option Env
set_option genInjectivity true in
inductive Out where
 |nx (e:Env)
 |ret (d:D)
 |bk (e:Env)
 |ct (e:Env)
abbrev DS:=Env->Option Out
def ku(d:D):RV:=⟨if d.top then .tn else .c,d⟩
noncomputable def RV.free(r:RV):Bool:=match r.k with
 | .c=>O
 | .tn=>O
 |_=>M
@[simp] noncomputable def vE(i:Nat):DE:=λenv=>match env[i]? with
 |some (U (.sh d))=>U ⟨.c,d⟩
 |some (U (.own d))=>U ⟨.to,d⟩
 |some (U (.lok d))=>U ⟨.tb,d⟩
 |some (U (.bor d))=>U ⟨.tb,d⟩
 |_=>J
@[simp] noncomputable def kE(d:D):DE:=λ_=>U ⟨.c,d⟩
@[simp] noncomputable def ZF(o:D->D->Option RV)(f g:DE):DE:=λenv=>(f env).bind λx=>(g env).bind λy=>o x.d y.d
@[simp] noncomputable def unE(o:D->Option RV)(f:DE):DE:=λenv=>(f env).bind λx=>o x.d
def aF:D->D->Option RV
 | .int i,.int j=>U ⟨.c,.int (i+j)⟩
 | .str x,.str y=>if x.length+y.length<=af then U ⟨.c,.str (x++y)⟩ else J
 | .tup x,.tup y=>if x.length+y.length<=af/\0<x.length then U ⟨.c,.tup (x++y)⟩ else J
 | .lst x,.lst y=>if x.length+y.length<=af then U ⟨.tn,.lst (x++y)⟩ else J
 |_,_=>J
noncomputable def iU:D->D->Option RV
 | .int i,.int j=>U ⟨.c,.int (i -j)⟩
 |_,_=>J
noncomputable def aQ(i j:Int):Bool:=decide (i.natAbs<18446744073709551616)||decide (j.natAbs<18446744073709551616)
def b6:D->D->Option RV
 | .int i,.int j=>if aQ i j then U ⟨.c,.int (i*j)⟩ else J
 |_,_=>J
noncomputable def cW:D->D->Option RV
 | .int i,.int j=>if 0<j/\j<1073741824 then U ⟨.c,.int (i/j)⟩ else J
 |_,_=>J
noncomputable def bh:D->D->Option RV
 | .int i,.int j=>if 0<j then U ⟨.c,.int (i%j)⟩ else J
 |_,_=>J
noncomputable def wZ:D->D->Option RV
 | .int i,.int j=>if 0<=j/\j<=1000/\i.natAbs<1000000 then U ⟨.c,.int (i^j.toNat)⟩ else J
 |_,_=>J
noncomputable def EW:D->Option RV
 | .int i=>U ⟨.c,.int (-i)⟩
 |_=>J
@[simp] noncomputable def aJ:Nat->D->Bool
 |_,.non=>O
 |_,.bl _=>O
 |_,.int _=>O
 |_,.str _=>O
 |n+1,.tup ds=>ds.all (aJ n)
 |n+1,.lst ds=>ds.all (aJ n)
 |_,_=>M
@[simp] def D.plain(d:D):Bool:=aJ 20 d
mutual
def eqD:D->D->Bool
 | .non,.non=>O
 | .bl a,.bl b=>a==b
 | .bl a,.int b=>(if a then 1 else 0)==b
 | .int a,.bl b=>a==(if b then 1 else 0)
 | .int a,.int b=>a==b
 | .str a,.str b=>a==b
 | .tup a,.tup b=>jw a b
 | .lst a,.lst b=>jw a b
 |_,_=>M
@[simp] def jw:List D->List D->Bool
 |[],[]=>O
 |a::as,b::bs=>eqD a b&&jw as bs
 |_,_=>M
end
@[simp] theorem Td:eqD .non .non=O:=rfl
@[simp] theorem Ul:eqD (.bl a) (.bl b)=(a==b):=rfl
@[simp] theorem Um:eqD (.bl a) (.int b)=((if a then 1 else 0)==b):=rfl
@[simp] theorem Uo:eqD (.int a) (.bl b)=(a==(if b then 1 else 0)):=rfl
@[simp] theorem Uq:eqD (.int a) (.int b)=(a==b):=rfl
@[simp] theorem Ur:eqD (.str a) (.str b)=(a==b):=rfl
@[simp] theorem Us:eqD (.tup a) (.tup b)=jw a b:=rfl
@[simp] theorem Ut:eqD (.lst a) (.lst b)=jw a b:=rfl
@[simp] theorem MQ:eqD .non (.int b)=M:=rfl
@[simp] theorem MR:eqD (.int a) .non=M:=rfl
@[simp] theorem MT:eqD (.int a) (.str b)=M:=rfl
@[simp] theorem MU:eqD (.str a) (.int b)=M:=rfl
@[simp] theorem MV:eqD .non (.str b)=M:=rfl
@[simp] theorem MW:eqD (.str a) .non=M:=rfl
@[simp] theorem MX:eqD (.int a) (.tup b)=M:=rfl
@[simp] theorem MY:eqD (.tup a) (.int b)=M:=rfl
@[simp] theorem MZ:eqD (.str a) (.tup b)=M:=rfl
@[simp] theorem N0:eqD (.tup a) (.str b)=M:=rfl
@[simp] theorem N5:eqD .non (.tup b)=M:=rfl
@[simp] theorem N6:eqD (.tup a) .non=M:=rfl
@[simp] theorem O0:eqD .non (.bl b)=M:=rfl
@[simp] theorem O1:eqD (.bl a) .non=M:=rfl
def eqB(x y:D):Option Bool:=if x.plain&&y.plain then U (eqD x y) else J
def neB(x y:D):Option Bool:=if x.plain&&y.plain then U (!eqD x y) else J
noncomputable def dw:D->Bool
 | .non=>O
 |_=>M
def kf(x y:D):Option Bool:=if dw y then U (dw x) else J
def iX(x y:D):Option Bool:=if dw y then U (!dw x) else J
noncomputable def ltB:D->D->Option Bool
 | .int i,.int j=>U (decide (i<j))
 |_,_=>J
noncomputable def leB:D->D->Option Bool
 | .int i,.int j=>U (decide (i<=j))
 |_,_=>J
noncomputable def gtB:D->D->Option Bool
 | .int i,.int j=>U (decide (j<i))
 |_,_=>J
noncomputable def geB:D->D->Option Bool
 | .int i,.int j=>U (decide (j<=i))
 |_,_=>J
@[simp] noncomputable def az(o:D->D->Option Bool)(f g:DE):DT:=λenv=>(f env).bind λx=>(g env).bind λy=>o x.d y.d
@[simp] noncomputable def bE(t:DT):DE:=λenv=>(t env).map λb=> ⟨.c,.bl b⟩
@[simp] noncomputable def jf(f:DE):DT:=λenv=>(f env).bind λx=>match x.d with
 | .bl b=>U b
 |_=>J
@[simp] noncomputable def fI(t u:DT):DT:=λenv=>(t env).bind λb=>if b then u env else U M
@[simp] noncomputable def orT(t u:DT):DT:=λenv=>(t env).bind λb=>if b then U O else u env
@[simp] noncomputable def tm(t:DT):DT:=λenv=>(t env).map (!·)
@[simp] noncomputable def jg(o p:D->D->Option Bool)(f g h:DE):DT:=λenv=>(f env).bind λx=>(g env).bind λy=>(o x.d y.d).bind λb=>if b then(h env).bind λz=>p y.d z.d else U M
@[simp] noncomputable def ifE(t:DT)(f g:DE):DE:=λenv=>(t env).bind λb=>if b then f env else g env
noncomputable def atD{α:Type}(xs:List α)(i:Int):Option α:=if 0<=i then xs[i.toNat]? else if -(xs.length:Int)<=i then xs[(i+xs.length).toNat]? else J
noncomputable def keyOf:D->Option Key
 | .int i=>U (.inl i)
 | .str x=>U (.inr x)
 |_=>J
@[simp] def keysOf:List D->Option (List Key)
 |[]=>U []
 |d::ds=>(keyOf d).bind λk=>(keysOf ds).map (k:: ·)
section
variable{Y:Type} [DecidableEq Y]
noncomputable def look(eD:List (Y×D))(k:Y):Option D:=(eD.find? λkv=>decide (kv.1=k)).map (·.2)
noncomputable def put(eD:List (Y×D))(k:Y)(v:D):List (Y×D):=
 if(eD.any λkv=>decide (kv.1=k))=O then eD.map (λkv=>if kv.1=k then(kv.1,v) else kv) else eD++[(k,v)]
end
def ixD:D->D->Option D
 | .lst xs,.int i=>atD xs i
 | .tup xs,.int i=>atD xs i
 | .str x,.int i=>if x.length<=af then(atD x.cps.toList i).map λc=> .str ⟨#[c]⟩ else J
 | .scr ns,.int i=>(atD ns i).map .int
 | .fl xs,.int i=>atD xs i
 |_,_=>J
@[simp] def ZE(f g:DE):DE:=λenv=>(f env).bind λx=>(g env).bind λy=>(ixD x.d y.d).map λd=> ⟨.c,d⟩
@[simp] noncomputable def aX:DA:=λ_=>U []
@[simp] noncomputable def aa(f:DE)(r:DA):DA:=λenv=>(f env).bind λx=>(r env).bind λxs=>U (x::xs)
@[simp] def aO(a:DA):DE:=λenv=>(a env).bind λrs=>if rs.all (·.free)&&decide (rs.length<=af) then U ⟨.c,.tup (rs.map (·.d))⟩ else J
@[simp] def de(a:DA):DE:=λenv=>(a env).bind λrs=>if rs.all (·.free)&&decide (rs.length<=af) then U ⟨.tn,.lst (rs.map (·.d))⟩ else J
@[simp] def ak(sp:SpF)(a:DA):DE:=λenv=>(a env).bind λrs=>(sp (rs.map (·.d))).map ku
@[simp] noncomputable def bD(o:SpV)(a:DA):DE:=λenv=>(a env).bind λrs=>o (rs.map (·.d))
def cO:SpV
 |[.lst xs]=>U ⟨.c,.int xs.length⟩
 |[.tup xs]=>U ⟨.c,.int xs.length⟩
 |[.str x]=>if x.length<=af then U ⟨.c,.int x.length⟩ else J
 |[.scr ns]=>U ⟨.c,.int ns.length⟩
 |[.fl xs]=>U ⟨.c,.int xs.length⟩
 |_=>J
noncomputable def uf:SpV
 |[.int i,.int j]=>U ⟨.c,.int (if j<i then j else i)⟩
 |_=>J
noncomputable def dz:SpV
 |[.lst xs]=>U ⟨.c,.tup xs⟩
 |[.tup xs]=>U ⟨.c,.tup xs⟩
 |_=>J
@[simp] noncomputable def qJ:List D->Option (List Bool)
 |[]=>U []
 | .bl b::ds=>(qJ ds).map (b:: ·)
 |_=>J
@[simp] noncomputable def CW:List D->Option (List Int)
 |[]=>U []
 | .int i::ds=>(CW ds).map (i:: ·)
 |_=>J
def jy:D->Option (List D)
 | .lst xs=>U xs
 | .tup xs=>U xs
 | .scr ns=>U (ns.map .int)
 |_=>J
def one(o:SpV):SpV
 |[d]=>(jy d).bind o
 |_=>J
def anyS:SpV:=one λds=>(qJ ds).map λbs=> ⟨.c,.bl (bs.any id)⟩
def BC:SpV:=one λds=>(qJ ds).map λbs=> ⟨.c,.bl (bs.all id)⟩
def om(i:Int)(ns:List Int):Int:=ns.foldl (λa b=>if b>a then b else a) i
noncomputable def pT(T:String):D->Bool
 | .non=>T=="NoneType"
 | .bl _=>T=="bool"||T=="int"
 | .int _=>T=="int"
 | .str _=>T=="str"
 | .tup _=>T=="tuple"
 | .lst _=>T=="list"
 | .dT _=>T=="dict"
 | .scr _=>T=="list"
 | .fl _=>T=="list"
noncomputable def kx:D->Bool
 | .scr _=>O
 |_=>M
@[simp] def oq(T:String)(f:DE):DT:=λenv=>(f env).bind λx=>if kx x.d then J else U (pT T x.d)
noncomputable def sIx(n d:Nat):Option Int->Nat
 |none=>d
 |some v=>if v<0 then(v+(n:Int)).toNat else min v.toNat n
def cutD{α:Type}(xs:List α)(lo hi:Option Int):List α:=(xs.drop (sIx xs.length 0 lo)).take (sIx xs.length xs.length hi -sIx xs.length 0 lo)
abbrev DO:=Env->Option (Option Int)
@[simp] noncomputable def noO:DO:=λ_=>U J
@[simp] noncomputable def CY(f:DE):DO:=λenv=>(f env).bind λx=>match x.d with
 | .int i=>U (U i)
 |_=>J
def slD(lo hi:Option Int):D->Option RV
 | .lst xs=>U ⟨.tn,.lst (cutD xs lo hi)⟩
 | .tup xs=>if sIx xs.length 0 lo=0/\sIx xs.length xs.length hi=xs.length then J else U ⟨.c,.tup (cutD xs lo hi)⟩
 | .scr ns=>U ⟨.tn,.lst (cutD (ns.map .int) lo hi)⟩
 |_=>J
@[simp] def slE(f:DE)(lo hi:DO):DE:=λenv=>(f env).bind λx=>(lo env).bind λl=>(hi env).bind λh=>slD l h x.d
@[simp] noncomputable def gN(i:Nat):DG:=λd env=>U (env.set i (U (.sh d)))
@[simp] noncomputable def gNs:List Nat->List D->Env->Option Env
 |[],[],env=>U env
 |i::is,d::ds,env=>gNs is ds (env.set i (U (.sh d)))
 |_,_,_=>J
@[simp] def gT(is:List Nat):DG:=λd env=>match d with
 | .tup ds=>gNs is ds env
 |_=>J
@[simp] noncomputable def ni:DS:=λenv=>U (.nx env)
@[simp] noncomputable def Ht:DS:=λ_=>J
@[simp] noncomputable def bkS:DS:=λenv=>U (.bk env)
@[simp] noncomputable def ah(f g:DS):DS:=λenv=>(f env).bind λo=>match o with
 | .nx e=>g e
 |o=>U o
noncomputable def stored(i:Nat)(r:RV)(env:Env):Option Env:=match r.k with
 | .c=>U (env.set i (U (.sh r.d)))
 | .tn=>U (env.set i (U (.own r.d)))
 |_=>J
@[simp] def aq(i:Nat)(f:DE):DS:=λenv=>(f env).bind λr=>(stored i r env).map .nx
def ug(r:RV):Bool:=match r.k with
 | .c=>r.d.imm
 | .tn=>r.d.qI
 | .to=>r.d.qI
 | .tb=>M
@[simp] def Zv(f:DE):DS:=λenv=>(f env).bind λr=>if ug r then U (.ret r.d) else J
@[simp] noncomputable def ifS(t:DT)(f g:DS):DS:=λenv=>(t env).bind λb=>if b then f env else g env
@[simp] noncomputable def Zw(g:DG)(body:DS):List D->Env->Option Out
 |[],env=>U (.nx env)
 |d::ds,env=>(g d env).bind λe=>(body e).bind λo=>match o with
  | .nx e=>Zw g body ds e
  | .ct e=>Zw g body ds e
  | .bk e=>U (.nx e)
  | .ret d=>U (.ret d)
abbrev DI:=Env->Option (List D)
@[simp] noncomputable def bc(l:Option Nat)(env:Env):Env:=match l with
 |none=>env
 |some i=>match env[i]? with
  |some (U (.own d))=>env.set i (U (.lok d))
  |_=>env
@[simp] noncomputable def pg(l:Option Nat)(env:Env):Bool:=match l with
 |none=>M
 |some i=>match env[i]? with
  |some (U (.own _))=>O
  |_=>M
@[simp] noncomputable def jh(l:Option Nat)(env:Env):Env:=match l with
 |none=>env
 |some i=>match env[i]? with
  |some (U (.lok d))=>env.set i (U (.own d))
  |_=>env
def freed(l:Option Nat)(b:Bool):Out->Out
 | .nx e=> .nx (if b then jh l e else e)
 |o=>o
@[simp] def cX(l:Option Nat)(src:DI)(g:DG)(body:DS):DS:=λenv=>(src (bc l env)).bind λds=>(Zw g body ds (bc l env)).map (freed l (pg l env))
noncomputable def i7(t:DT)(body:DS):Nat->Env->Option Out
 |0,_=>J
 |n+1,env=>(t env).bind λb=>if b then(body env).bind λo=>match o with
   | .nx e=>i7 t body n e
   | .ct e=>i7 t body n e
   | .bk e=>U (.nx e)
   | .ret d=>U (.ret d)
  else U (.nx env)
def qK(t:DT)(body:DS):DS:=i7 t body 100000
@[simp] def cQ(f:DE):DI:=λenv=>(f env).bind λr=>if r.k= .to then J else match r.d with
 | .lst xs=>U xs
 | .tup xs=>U xs
 | .scr ns=>U (ns.map .int)
 |_=>J
noncomputable def aC(lo:Int)(n:Nat):List D:=(List.range n).map λ(k:Nat)=> .int (lo+(k:Int))
noncomputable def aS(i:Int):Bool:=decide (-4611686018427387904<=i)&&decide (i<4611686018427387904)
@[simp] def cA(f:DE):DI:=λenv=>(f env).bind λr=>match r.d with
 | .int j=>if aS j then U (aC 0 j.toNat) else J
 |_=>J
@[simp] def vp(f g:DE):DI:=λenv=>(f env).bind λx=>(g env).bind λy=>match x.d,y.d with
 | .int i,.int j=>if aS i&&aS j then U (aC i (j -i).toNat) else J
 |_,_=>J
@[simp] noncomputable def ownAt(i:Nat)(env:Env):Option D:=match env[i]? with
 |some (U (.own d))=>U d
 |_=>J
@[simp] def dN(i:Nat)(f:DE):DS:=λenv=>(f env).bind λr=>(ownAt i env).bind λd=>match d with
 | .lst xs=>if r.free&&decide (xs.length<af) then U (.nx (env.set i (U (.own (.lst (xs++[r.d])))))) else J
 |_=>J
@[simp] def O2(i:Nat)(f:DE):DS:=λenv=>(f env).bind λr=>(ownAt i env).bind λd=>match d,r.d with
 | .lst xs,.lst ys=>if(r.k== .tn)&&decide (xs.length+ys.length<=af) then U (.nx (env.set i (U (.own (.lst (xs++ys)))))) else J
 |_,_=>J
def putD(d k v:D):Option D:=match d with
 | .dT eD=>match k with
  | .tup ks=>if eD.length<af then(keysOf ks).map λk=> .dT (put eD k v) else J
  |_=>J
 |_=>J
@[simp] noncomputable def vq:DE:=λ_=>U ⟨.tn,.dT []⟩
@[simp] def EX(i:Nat)(k v:DE):DS:=λenv=>(v env).bind λx=>(k env).bind λy=>(ownAt i env).bind λd=>if x.free then(putD d y.d x.d).map λd=> .nx (env.set i (U (.own d))) else J
noncomputable def dh:Option Slot->Option Slot
 |some (.sh d)=>U (.sh d)
 |some (.own d)=>U (.bor d)
 |some (.lok d)=>U (.bor d)
 |some (.bor d)=>U (.bor d)
 |none=>J
def Zx(n:Nat)(ay:List Nat)(env:Env):Env:=List.replicate n J++ay.map λi=>dh (env[i]?.getD J)
@[simp] def cB(g:DG)(t:DT)(f:DE):List D->Env->Option (List D)
 |[],_=>U []
 |d::ds,env=>(g d env).bind λe=>(t e).bind λb=>if b then(f e).bind λr=>if r.free then(cB g t f ds e).map (r.d:: ·) else J else cB g t f ds e
@[simp] def fJ(l:Option Nat)(n:Nat)(ay:List Nat)(src:DI)(g:DG)(t:DT)(f:DE):DE:=λenv=>(src (bc l env)).bind λds=>if ds.length<=af then(cB g t f ds (Zx n ay env)).map λrs=> ⟨.tn,.lst rs⟩ else J
@[simp] noncomputable def fK:DT:=λ_=>U O
@[simp] noncomputable def i8(n:Nat)(ds:List D):Env:=ds.map (λd=>U (.sh d))++List.replicate (n -ds.length) J
@[simp] def bu(n np:Nat)(body:DS):SpF:=λds=>if ds.length=np then(body (i8 n ds)).bind λo=>match o with
  | .ret d=>U d
  | .nx _=>U .non
  |_=>J
 else J
@[simp] theorem KH:Str.ofString a=Str.ofString b↔a=b:=by
 constructor
 .intro h;rw[Str.ofString_eq_toList,Str.ofString_eq_toList] at h;have h1:a.toList.map Char.toNat=b.toList.map Char.toNat:=by
   injection h with h
   exact Array.toList_inj.mpr h|>λz=>by simpa using z
  have h2:a.toList=b.toList:=by
   have inj:∀(x y:List Char),x.map Char.toNat=y.map Char.toNat->x=y:=by
    intro x;induction x with
    |nil=>intro y e;cases y with
     |nil=>rfl
     |cons=>simp at e
    |cons c x ih=>intro y e;cases y with
     |nil=>simp at e
     |cons c' y=>
      simp only[Gay,GcY] at e;rw[ih y e.2,Char.toNat_inj.mp e.1]
   exact inj _ _ h1
  exact String.toList_inj.mp h2
 .rintro rfl;rfl
@[simp] theorem Rx:aF (.int i) (.int j)=U ⟨.c,.int (i+j)⟩:=rfl
@[simp] theorem Rz{x y:Str}:aF (.str x) (.str y)=if x.length+y.length<=af then U ⟨.c,.str (x++y)⟩ else J:=rfl
@[simp] theorem RA{ds es:List D}:aF (.tup ds) (.tup es)=if ds.length+es.length<=af/\0<ds.length then U ⟨.c,.tup (ds++es)⟩ else J:=rfl
@[simp] theorem RB{ds es:List D}:aF (.lst ds) (.lst es)=if ds.length+es.length<=af then U ⟨.tn,.lst (ds++es)⟩ else J:=rfl
@[simp] theorem RC:iU (.int i) (.int j)=U ⟨.c,.int (i -j)⟩:=rfl
@[simp] theorem RE:b6 (.int i) (.int j)=if aQ i j then U ⟨.c,.int (i*j)⟩ else J:=rfl
@[simp] theorem Qx:cW (.int i) (.int j)=if 0<j/\j<1073741824 then U ⟨.c,.int (i/j)⟩ else J:=rfl
@[simp] theorem RF:bh (.int i) (.int j)=if 0<j then U ⟨.c,.int (i%j)⟩ else J:=rfl
@[simp] theorem RG{i j:Int}:wZ (.int i) (.int j)=if 0<=j/\j<=1000/\i.natAbs<1000000 then U ⟨.c,.int (i^j.toNat)⟩ else J:=rfl
@[simp] theorem RH:EW (.int i)=U ⟨.c,.int (-i)⟩:=rfl
@[simp] theorem Te:ltB (.int i) (.int j)=U (decide (i<j)):=rfl
@[simp] theorem Tf:leB (.int i) (.int j)=U (decide (i<=j)):=rfl
@[simp] theorem Th:gtB (.int i) (.int j)=U (decide (j<i)):=rfl
@[simp] theorem Ti:geB (.int i) (.int j)=U (decide (j<=i)):=rfl
@[simp] theorem Tj:eqB (.int i) (.int j)=U (i==j):=rfl
@[simp] theorem Tn:eqB (.str x) (.str y)=U (x==y):=rfl
@[simp] theorem Uu:eqB .non (.int j)=U M:=rfl
@[simp] theorem Uv:eqB (.int j) .non=U M:=rfl
@[simp] theorem Uw:eqB .non .non=U O:=rfl
@[simp] theorem To:neB (.int i) (.int j)=U (!(i==j)):=rfl
@[simp] theorem Tp:neB (.str x) (.str y)=U (!(x==y)):=rfl
@[simp] theorem Ux:neB .non (.int j)=U O:=rfl
@[simp] theorem Uy:neB (.int j) .non=U O:=rfl
@[simp] theorem Uz:neB .non .non=U M:=rfl
@[simp] theorem Qy:dw .non=O:=rfl
@[simp] theorem Qz:dw (.int i)=M:=rfl
@[simp] theorem QA:dw (.str x)=M:=rfl
@[simp] theorem RI:dw (.bl b)=M:=rfl
@[simp] theorem QB:dw (.tup ds)=M:=rfl
@[simp] theorem QC:dw (.lst ds)=M:=rfl
@[simp] theorem RJ:dw (.fl ds)=M:=rfl
@[simp] theorem RK:kf d .non=U (dw d):=rfl
@[simp] theorem QD:iX d .non=U (!dw d):=rfl
@[simp] theorem A0{ds:List D}:cO [.lst ds]=U ⟨.c,.int ds.length⟩:=rfl
@[simp] theorem CZ{ds:List D}:cO [.fl ds]=U ⟨.c,.int ds.length⟩:=rfl
@[simp] theorem A1{ds:List D}:cO [.tup ds]=U ⟨.c,.int ds.length⟩:=rfl
@[simp] theorem RL{x:Str}:cO [.str x]=if x.length<=af then U ⟨.c,.int x.length⟩ else J:=rfl
@[simp] theorem RM{ns:List Int}:cO [.scr ns]=U ⟨.c,.int ns.length⟩:=rfl
@[simp] theorem QE:uf [.int i,.int j]=U ⟨.c,.int (if j<i then j else i)⟩:=rfl
@[simp] theorem O3:dz [.lst ds]=U ⟨.c,.tup ds⟩:=rfl
@[simp] theorem O4:dz [.tup ds]=U ⟨.c,.tup ds⟩:=rfl
@[simp] theorem RN:pT T .non=(T=="NoneType"):=rfl
@[simp] theorem Tq:pT T (.bl b)=(T=="bool"||T=="int"):=rfl
@[simp] theorem RO:pT T (.int i)=(T=="int"):=rfl
@[simp] theorem RP:pT T (.str x)=(T=="str"):=rfl
@[simp] theorem RQ:pT T (.tup ds)=(T=="tuple"):=rfl
@[simp] theorem RS:pT T (.lst ds)=(T=="list"):=rfl
@[simp] theorem Ts:pT T (.fl ds)=(T=="list"):=rfl
@[simp] theorem QF:kx .non=M:=rfl
@[simp] theorem RT:kx (.bl b)=M:=rfl
@[simp] theorem QG:kx (.int i)=M:=rfl
@[simp] theorem QH:kx (.str x)=M:=rfl
@[simp] theorem QI:kx (.tup ds)=M:=rfl
@[simp] theorem QJ:kx (.lst ds)=M:=rfl
@[simp] theorem RU:kx (.fl ds)=M:=rfl
@[simp] theorem Tt:slD lo hi (.lst ds)=U ⟨.tn,.lst (cutD ds lo hi)⟩:=rfl
@[simp] theorem Tu{ds:List D}:slD lo hi (.tup ds)=if sIx ds.length 0 lo=0/\sIx ds.length ds.length hi=ds.length then J else U ⟨.c,.tup (cutD ds lo hi)⟩:=rfl
@[simp] theorem Tv{ns:List Int}:slD lo hi (.scr ns)=U ⟨.tn,.lst (cutD (ns.map .int) lo hi)⟩:=rfl
@[simp] theorem RW{env:Env}:stored n ⟨.c,d⟩ env=U (env.set n (U (.sh d))):=rfl
@[simp] theorem QK{env:Env}:stored n ⟨.tn,d⟩ env=U (env.set n (U (.own d))):=rfl
@[simp] theorem Tw{d:D}:ug ⟨.c,d⟩=d.imm:=rfl
@[simp] theorem RX{d:D}:ug ⟨.tn,d⟩=d.qI:=rfl
@[simp] theorem RY{d:D}:ug ⟨.to,d⟩=d.qI:=rfl
@[simp] theorem QL:(D.lst ds).qI=aA ds:=rfl
@[simp] theorem RZ{eD:List (List Key×D)}:(D.dT eD).qI=aA (eD.map (·.2)):=rfl
@[simp] theorem S0:ku .non=⟨.c,.non⟩:=rfl
@[simp] theorem Tx:ku (.bl b)=⟨.c,.bl b⟩:=rfl
@[simp] theorem S1:ku (.int i)=⟨.c,.int i⟩:=rfl
@[simp] theorem S2:ku (.str x)=⟨.c,.str x⟩:=rfl
@[simp] theorem S3:ku (.tup ds)=⟨.c,.tup ds⟩:=rfl
@[simp] theorem S4:ku (.lst ds)=⟨.tn,.lst ds⟩:=rfl
@[simp] theorem Tz:ku (.dT eD)=⟨.tn,.dT eD⟩:=rfl
@[simp] theorem UA:RV.free ⟨.c,d⟩=O:=rfl
@[simp] theorem TB:RV.free ⟨.tn,d⟩=O:=rfl
@[simp] theorem S5:freed l b (.nx env)= .nx (if b then jh l env else env):=rfl
@[simp] theorem QM:freed l b (.ret d)= .ret d:=rfl
@[simp] theorem QN:keyOf (.int i)=U (.inl i):=rfl
@[simp] theorem QO:keyOf (.str x)=U (.inr x):=rfl
@[simp] theorem TC:ixD (.lst ds) (.int i)=atD ds i:=rfl
@[simp] theorem UB:ixD (.fl ds) (.int i)=atD ds i:=rfl
@[simp] theorem TF:ixD (.tup ds) (.int i)=atD ds i:=rfl
@[simp] theorem TH:ixD (.scr ns) (.int i)=(atD ns i).map .int:=rfl
@[simp] theorem TJ{x:Str}:ixD (.str x) (.int i)=if x.length<=af then(atD x.cps.toList i).map λc=> .str ⟨#[c]⟩ else J:=rfl
def bO{α:Type}{xs:List α}{k:Nat}:atD xs (k:Int)=xs[k]? :=by
 unfold atD;simp
@[simp] theorem V2{α:Type}{xs:List α}:atD xs 0=xs[0]? :=rfl
@[simp] theorem V3{α:Type}{xs:List α}:atD xs 1=xs[1]? :=rfl
@[simp] theorem V4{α:Type}{xs:List α}:atD xs 2=xs[2]? :=rfl
@[simp] theorem V5{α:Type}{xs:List α}:atD xs 3=xs[3]? :=rfl
@[simp] theorem V6{α:Type}{xs:List α}:atD xs 4=xs[4]? :=rfl
@[simp] theorem V7{α:Type}{xs:List α}:atD xs 5=xs[5]? :=rfl
open PySem.Spec PyProof.Rows L2
abbrev ai:=PySem.W.Frag
abbrev St:=L2.St
def isT:HO->Prop
 | .tup _=>True
 | .frz _ _=>True
 |_=>False
def Kl(K:ai)(a:ZG)(xs:List V):Prop:=∃(o:ZM) (its:Array ZH) (n:Nat),K.lookup a=U o/\o.cls= .type "list"/\o.dict=J/\o.data= .seq its n/\its.size<=sizeLine/\Zu xs its.toList
def Scr(K:ai)(H:Hp)(a:ZG)(ns:List Int):Prop:=(∃o,H a=U (.frz o (.lst (ns.map V.int))))\/Kl K a (ns.map V.int)
inductive Rep (K:ai) (F:ZG->Prop) (H:Hp):D->V->Prop where
 |non:Rep K F H .non .non
 |bl (b:Bool):Rep K F H (.bl b) (.bl b)
 |int (i:Int):Rep K F H (.int i) (.int i)
 |str (x:Str):Rep K F H (.str x) (.str x)
 |tup {a:ZG} {vs:List V} {ds:List D} (h:H a=U (.tup vs)) (l:ds.length=vs.length) (r:∀(i:Nat) d v,ds[i]? =U d->vs[i]? =U v->Rep K F H d v):Rep K F H (.tup ds) (.ref a)
 |lst {a:ZG} {vs:List V} {ds:List D} (f:F a) (h:Rd H a (.lst vs)) (l:ds.length=vs.length) (r:∀(i:Nat) d v,ds[i]? =U d->vs[i]? =U v->Rep K F H d v):Rep K F H (.lst ds) (.ref a)
 |scr {a:ZG} {ns:List Int} (h:Scr K H a ns):Rep K F H (.scr ns) (.ref a)
 |fl {a:ZG} {o:ZM} {vs:List V} {ds:List D} (h:H a=U (.frz o (.lst vs))) (l:ds.length=vs.length) (r:∀(i:Nat) d v,ds[i]? =U d->vs[i]? =U v->Rep K F H d v):Rep K F H (.fl ds) (.ref a)
 |dT {a:ZG} {ws:List (List Key×V)} {eD:List (List Key×D)} (f:F a) (h:H a=U (.dT ws)) (l:eD.map (·.1)=ws.map (·.1)) (r:∀(i:Nat) p q,eD[i]? =U p->ws[i]? =U q->Rep K F H p.2 q.2):Rep K F H (.dT eD) (.ref a)
def aN(K:ai)(F:ZG->Prop)(H:Hp)(ds:List D)(vs:List V):Prop:=ds.length=vs.length/\∀(i:Nat) d v,ds[i]? =U d->vs[i]? =U v->Rep K F H d v
def aZ{Y:Type}(K:ai)(F:ZG->Prop)(H:Hp)(eD:List (Y×D))(ws:List (Y×V)):Prop:=eD.map (·.1)=ws.map (·.1)/\∀(i:Nat) p q,eD[i]? =U p->ws[i]? =U q->Rep K F H p.2 q.2
inductive Inn (K:ai) (F:ZG->Prop) (H:Hp):D->V->Prop where
 |non:Inn K F H .non .non
 |bl (b:Bool):Inn K F H (.bl b) (.bl b)
 |int (i:Int):Inn K F H (.int i) (.int i)
 |str (x:Str):Inn K F H (.str x) (.str x)
 |tup {a:ZG} {vs:List V} {ds:List D} (h:H a=U (.tup vs)) (r:aN K F H ds vs):Inn K F H (.tup ds) (.ref a)
 |lst {a:ZG} {vs:List V} {ds:List D} (h:Rd H a (.lst vs)) (r:aN K F H ds vs):Inn K F H (.lst ds) (.ref a)
 |scr {a:ZG} {ns:List Int} (h:Scr K H a ns):Inn K F H (.scr ns) (.ref a)
 |fl {a:ZG} {o:ZM} {vs:List V} {ds:List D} (h:H a=U (.frz o (.lst vs))) (r:aN K F H ds vs):Inn K F H (.fl ds) (.ref a)
 |dT {a:ZG} {ws:List (List Key×V)} {eD:List (List Key×D)} (h:H a=U (.dT ws)) (r:aZ K F H eD ws):Inn K F H (.dT eD) (.ref a)
section
variable{F:ZG->Prop}{H H' :Hp}
def Rep.inn{K:ai}(h:Rep K F H d v):Inn K F H d v:=by
 cases h with
 |non=>exact .non
 |bl b=>exact .bl b
 |int i=>exact .int i
 |str x=>exact .str x
 |tup h l r=>exact .tup h ⟨l,r⟩
 |lst f h l r=>exact .lst h ⟨l,r⟩
 |scr h=>exact .scr h
 |fl h l r=>exact .fl h ⟨l,r⟩
 |dT f h l r=>exact .dT h ⟨l,r⟩
def Inn.rep{K:ai}{d:D}(h:Inn K F H d v)(hf:∀a,v= .ref a->d.top=O->F a):Rep K F H d v:=by
 cases h with
 |non=>exact .non
 |bl b=>exact .bl b
 |int i=>exact .int i
 |str x=>exact .str x
 |tup h r=>exact .tup h r.1 r.2
 |lst h r=>exact .lst (hf _ rfl rfl) h r.1 r.2
 |scr h=>exact .scr h
 |fl h r=>exact .fl h r.1 r.2
 |dT h r=>exact .dT (hf _ rfl rfl) h r.1 r.2
def i9(F:ZG->Prop)(H H' :Hp):Prop:=∀b o,H b=U o->(F b\/isT o)->H' b=U o
def i9.ZC(h:c9 H H'):i9 F H H' :=λb o e _=>h b o e
theorem i9.tup{vs:List V}{a:ZG}(s:i9 F H H')(h:H a=U (.tup vs)):H' a=U (.tup vs):=s _ _ h (.inr trivial)
def i9.scr{K:ai}{a:ZG}{ns:List Int}(s:i9 F H H')(h:Scr K H a ns):Scr K H' a ns:=by
 rcases h with⟨o,h⟩|h
 .exact .inl ⟨o,s _ _ h (.inr trivial)⟩
 .exact .inr h
def i9.rd(s:i9 F H H')(f:F a)(h:Rd H a u):Rd H' a u:=by
 rcases h with h| ⟨o,h⟩
 .exact .inl (s _ _ h (.inl f))
 .exact .inr ⟨o,s _ _ h (.inl f)⟩
def Rd.there(h:Rd H a u):H a≠J:=by
 rcases h with h| ⟨o,h⟩<;>rw[h]<;>simp
def Rep.gen{K:ai}{F' :ZG->Prop}(s:i9 F H H')(hF:∀b,F b->H b≠J->F' b)(h:Rep K F H d v):Rep K F' H' d v:=by
 induction h with
 |non=>exact .non
 |bl b=>exact .bl b
 |int i=>exact .int i
 |str x=>exact .str x
 |tup h l r ih=>exact .tup (s.tup h) l ih
 |lst f h l r ih=>exact .lst (hF _ f (Rd.there h)) (s.rd f h) l ih
 |scr h=>exact .scr (s.scr h)
 |fl h l r ih=>exact .fl (s _ _ h (.inr trivial)) l ih
 |dT f h l r ih=>exact .dT (hF _ f (by rw[h];simp)) (s _ _ h (.inl f)) l ih
def Rep.same{K:ai}(s:c9 H H')(h:Rep K F H d v):Rep K F H' d v:=h.gen (.ZC s) λ_ f _=>f
def Rep.imp{K:ai}{F' :ZG->Prop}(hF:∀b,F b->F' b)(h:Rep K F H d v):Rep K F' H d v:=h.gen (.ZC λ_ _ e=>e) λb f _=>hF b f
theorem aN.gen{K:ai}{F' :ZG->Prop}(s:i9 F H H')(hF:∀b,F b->H b≠J->F' b)(h:aN K F H ds vs):aN K F' H' ds vs:=⟨h.1,λi d v e1 e2=>(h.2 i d v e1 e2).gen s hF⟩
theorem aZ.gen{K:ai}{F' :ZG->Prop}{Y:Type}{eD:List (Y×D)}{ws:List (Y×V)}(s:i9 F H H')(hF:∀b,F b->H b≠J->F' b)(h:aZ K F H eD ws):aZ K F' H' eD ws:=⟨h.1,λi p q e1 e2=>(h.2 i p q e1 e2).gen s hF⟩
theorem Inn.gen{K:ai}{F' :ZG->Prop}{d:D}(s:i9 F H H')(hF:∀b,F b->H b≠J->F' b)(ht:∀a,v= .ref a->d.top=O->∀o,H a=U o->H' a=U o)(h:Inn K F H d v):Inn K F' H' d v:=by
 have rd:∀{a:ZG} {u:HO},(∀o,H a=U o->H' a=U o)->Rd H a u->Rd H' a u:=λk h=>by
  rcases h with h| ⟨o,h⟩
  .exact .inl (k _ h)
  .exact .inr ⟨o,k _ h⟩
 cases h with
 |non=>exact .non
 |bl b=>exact .bl b
 |int i=>exact .int i
 |str x=>exact .str x
 |tup h r=>exact .tup (s.tup h) (r.gen s hF)
 |lst h r=>exact .lst (rd (ht _ rfl rfl) h) (r.gen s hF)
 |scr h=>exact .scr (s.scr h)
 |fl h r=>exact .fl (s _ _ h (.inr trivial)) (r.gen s hF)
 |dT h r=>exact .dT (ht _ rfl rfl _ h) (r.gen s hF)
def Inn.same{K:ai}(s:c9 H H')(h:Inn K F H d v):Inn K F H' d v:=h.gen (.ZC s) (λ_ f _=>f) λ_ _ _ o e=>s _ o e
def Inn.imp{K:ai}{F' :ZG->Prop}(hF:∀b,F b->F' b)(h:Inn K F H d v):Inn K F' H d v:=h.gen (.ZC λ_ _ e=>e) (λb f _=>hF b f) λ_ _ _ _ e=>e
def Inn.any{K:ai}(h:Inn K F H d v):Rep K (λ_=>True) H d v:=(h.imp λ_ _=>trivial).rep λ_ _ _=>trivial
def nj(h:aA ds=O):∀(i:Nat) d,ds[i]? =U d->d.imm=O:=by
 induction ds with
 |nil=>intro i d e;simp at e
 |cons x xs ih=>
  unfold aA at h;rw[Gah] at h;intro i d e;cases i with
  |zero=>simp at e;subst e;exact h.1
  |succ i=>exact ih h.2 i d (by simpa using e)
theorem Rep.imm{K:ai}{d:D}(h:Rep K F H d v)(hd:d.imm=O):Rep K F' H d v:=by
 induction h with
 |non=>exact .non
 |bl b=>exact .bl b
 |int i=>exact .int i
 |str x=>exact .str x
 |tup h l r ih=>
  exact .tup h l λi d v e1 e2=>ih i d v e1 e2 (nj hd i d e1)
 |lst f h l r ih=>simp at hd
 |scr h=>exact .scr h
 |fl h l r ih=>
  exact .fl h l λi d v e1 e2=>ih i d v e1 e2 (nj hd i d e1)
 |dT f h l r ih=>simp at hd
theorem Inn.imm{K:ai}{d:D}(h:Inn K F H d v)(hd:d.imm=O):Rep K F' H d v:=by
 refine Rep.imm (h.rep λa _ ht=> ?_) hd;cases d<;>simp[D.top] at ht<;>simp at hd
def aN.nil{K:ai}:aN K F H [] []:=⟨rfl,λi d v e=>by simp at e⟩
def aN.cz{K:ai}(h:aN K F H [] vs):vs=[]:=List.eq_nil_of_length_eq_zero h.1.symm
def aN.cons{K:ai}{d:D}{v:V}{ds:List D}{vs:List V}(h:Rep K F H d v)(r:aN K F H ds vs):aN K F H (d::ds) (v::vs):=by
 refine⟨by simp[r.1],λi x u e1 e2=> ?_⟩;cases i with
 |zero=>simp at e1 e2;subst e1;subst e2;exact h
 |succ i=>exact r.2 i x u (by simpa using e1) (by simpa using e2)
def aN.cons_inv{K:ai}(h:aN K F H (d::ds) vs):∃v r,vs=v::r/\Rep K F H d v/\aN K F H ds r:=by
 cases vs with
 |nil=>exact absurd h.1 (by simp)
 |cons v r=>exact⟨v,r,rfl,h.2 0 d v rfl rfl,by simpa using h.1,λi x u e1 e2=>h.2 (i+1) x u (by simpa using e1) (by simpa using e2)⟩
theorem aN.append{K:ai}:∀{ds es vs us},aN K F H ds vs->aN K F H es us->aN K F H (ds++es) (vs++us)
 |[],es,vs,us,h,r=>by rw[h.cz];exact r
 |d::ds,es,vs,us,h,r=>by
  obtain⟨v,w,rfl,h1,h2⟩:=h.cons_inv;exact .cons h1 (h2.append r)
theorem aN.take{K:ai}{ds:List D}{vs:List V}(n:Nat)(h:aN K F H ds vs):aN K F H (ds.take n) (vs.take n):=by
 refine⟨by simp[h.1],λi x u e1 e2=> ?_⟩;by_cases hi:i<n
 .rw[Gcr hi] at e1 e2;exact h.2 i x u e1 e2
 .rw[GbD (by simp;lia)] at e1;cases e1
theorem aN.drop{K:ai}{ds:List D}{vs:List V}(n:Nat)(h:aN K F H ds vs):aN K F H (ds.drop n) (vs.drop n):=by
 refine⟨by simp[h.1],λi x u e1 e2=> ?_⟩;rw[Gdg] at e1 e2;exact h.2 _ x u e1 e2
def aN.get{K:ai}{i:Nat}(h:aN K F H ds vs)(e:ds[i]? =U d):∃v,vs[i]? =U v/\Rep K F H d v:=by
 have hi:=(Gak.mp e).1;have xb :i<vs.length:=by rw[<-h.1];exact hi
 exact⟨vs[i],by simp,h.2 i d _ e (by simp)⟩
theorem aN.imm{K:ai}(h:aN K F H ds vs)(hd:aA ds=O):aN K F' H ds vs:=⟨h.1,λi d v e1 e2=>(h.2 i d v e1 e2).imm (nj hd i d e1)⟩
end
def b5:Option (Option Slot)->Prop
 |some (U (.own _))=>True
 |some (U (.lok _))=>True
 |some (U (.bor _))=>True
 |_=>False
def A2:Option (Option Slot)->Prop
 |some (U (.own _))=>True
 |some (U (.lok _))=>True
 |_=>False
def isO:Option (Option Slot)->Prop
 |some (U (.own _))=>True
 |_=>False
def A3:Option (Option Slot)->Prop
 |some (U (.lok _))=>True
 |some (U (.bor _))=>True
 |_=>False
def uh(h:b5 x):isO x\/A3 x:=by
 match x,h with
 |some (U (.own _)),_=>exact .inl trivial
 |some (U (.lok _)),_=>exact .inr trivial
 |some (U (.bor _)),_=>exact .inr trivial
def A3.top(h:A3 x):b5 x:=by
 match x,h with
 |some (U (.lok _)),_=>trivial
 |some (U (.bor _)),_=>trivial
def isO.ol(h:isO x):A2 x:=by
 match x,h with
 |some (U (.own _)),_=>trivial
def A2.top(h:A2 x):b5 x:=by
 match x,h with
 |some (U (.own _)),_=>trivial
 |some (U (.lok _)),_=>trivial
def Cln(eC:ZG->Prop)(env:Env)(Z:St)(a:ZG):Prop:=¬eC a/\∀i:Nat,b5 env[i]? ->Z[i]? ≠U (U (V.ref a))
def isW:HO->Prop
 | .lst _=>True
 | .dT _=>True
 |_=>False
def Wr(H:Hp)(a:ZG):Prop:=∃o,H a=U o/\isW o
def Ow(env:Env)(Z:St)(a:ZG):Prop:=∃i:Nat,isO env[i]? /\Z[i]? =U (U (.ref a))
structure av(K:ai)(H0:Hp)(eC:ZG->Prop)(env:Env)(Z:St)(H:Hp):Prop where
 same:c9 H0 H
 len:env.length=Z.length
 bad:∀a,eC a->H a≠J
 sh:∀(i:Nat) d,env[i]? =U (U (.sh d))->∃v,Z[i]? =U (U v)/\Rep K (Cln eC env Z) H d v
 ow:∀(i:Nat) d,(env[i]? =U (U (.own d))\/env[i]? =U (U (.lok d)))->∃a,Z[i]? =U (U (.ref a))/\H0 a=J/\¬eC a/\Wr H a/\d.top=O/\Inn K (Cln eC env Z) H d (.ref a)
 bo:∀(i:Nat) d,env[i]? =U (U (.bor d))->∃a,Z[i]? =U (U (.ref a))/\Wr H a/\d.top=O/\Inn K (Cln eC env Z) H d (.ref a)
 dj:∀(i j:Nat) a,A2 env[i]? ->b5 env[j]? ->Z[i]? =U (U (.ref a))->Z[j]? =U (U (.ref a))->i=j
structure Stp(env:Env)(Z:St)(H:Hp)(eQ :Env)(Z' :St)(H' :Hp):Prop where
 keep:∀b o,H b=U o->¬Ow env Z b->H' b=U o
 ow:∀b,Ow eQ Z' b->Ow env Z b\/H b=J
 lk:∀i:Nat,A3 eQ[i]? ->eQ[i]? =env[i]? /\Z'[i]? =Z[i]?
def Stp.refl:Stp env Z H env Z H:=⟨λ_ _ e _=>e,λ_ h=> .inl h,λ_ _=> ⟨rfl,rfl⟩⟩
def Stp.ZC(s:c9 H H'):Stp env Z H env Z H' :=⟨λb o e _=>s b o e,λ_ h=> .inl h,λ_ _=> ⟨rfl,rfl⟩⟩
theorem Stp.trans(a:Stp e1 s1 H1 e2 s2 H2)(b:Stp e2 s2 H2 e3 s3 H3):Stp e1 s1 H1 e3 s3 H3:=by
 refine⟨λc o e n=>b.keep c o (a.keep c o e n) λh=> ?_,λc h=> ?_,λi h=> ?_⟩
 .rcases a.ow c h with q|q
  .exact n q
  .rw[e] at q;cases q
 .rcases b.ow c h with q|q
  .exact a.ow c q
  .by_cases z:Ow e1 s1 c
   .exact .inl z
   .right
    cases e:H1 c with
    |none=>rfl
    |some o=>rw[a.keep c o e z] at q;cases q
 .obtain⟨h1,h2⟩:=b.lk i h;rw[h1] at h;obtain⟨h3,h4⟩:=a.lk i h;exact⟨h1.trans h3,h2.trans h4⟩
section
variable{K:ai}{H0 H H' :Hp}{eC:ZG->Prop}{env:Env}{Z:St}{d:D}{v:V}{a:ZG}
def Wr.same(s:c9 H H')(w:Wr H a):Wr H' a:=let⟨o,h1,h2⟩:=w;⟨o,s a o h1,h2⟩
def Wr.there(w:Wr H a):H a≠J:=let⟨o,h1,_⟩:=w;by rw[h1];simp
theorem av.mono(E:av K H0 eC env Z H)(s:c9 H H'):av K H0 eC env Z H' where
 same:=E.same.trans s
 len:=E.len
 bad:=λa h e=>E.bad a h (s.free e)
 sh:=λi d e=>let⟨v,h1,h2⟩:=E.sh i d e;⟨v,h1,h2.same s⟩
 ow:=λi d e=>let⟨a,h1,h2,h3,h4,h5,h6⟩:=E.ow i d e;⟨a,h1,h2,h3,h4.same s,h5,h6.same s⟩
 bo:=λi d e=>let⟨a,h1,h2,h3,h4⟩:=E.bo i d e;⟨a,h1,h2.same s,h3,h4.same s⟩
 dj:=E.dj
variable{i:Nat}
def av.S6(E:av K H0 eC env Z H)(h:b5 env[i]?):∃d a,d.top=O/\Z[i]? =U (U (.ref a))/\Wr H a/\Inn K (Cln eC env Z) H d (.ref a):=by
 match e:env[i]?,h with
 |some (U (.own d)),_=>obtain⟨a,h1,_,_,h4,h5,h6⟩:=E.ow i d (.inl e);exact⟨d,a,h5,h1,h4,h6⟩
 |some (U (.lok d)),_=>obtain⟨a,h1,_,_,h4,h5,h6⟩:=E.ow i d (.inr e);exact⟨d,a,h5,h1,h4,h6⟩
 |some (U (.bor d)),_=>obtain⟨a,h1,h4,h5,h6⟩:=E.bo i d e;exact⟨d,a,h5,h1,h4,h6⟩
def av.N7(E:av K H0 eC env Z H)(h:b5 env[i]?)(e:Z[i]? =U (U (.ref a))):Wr H a:=by
 obtain⟨d,b,h1,h2,h3,h4⟩:=E.S6 h;lia
def av.nq(E:av K H0 eC env Z H)(h:b5 env[i]?)(e:Z[i]? =U (U (.ref a))):H a≠J:=(E.N7 h e).there
def av.vt(E:av K H0 eC env Z H)(h:H a=J):Cln eC env Z a:=⟨λb=>E.bad a b h,λi t e=>E.nq t e h⟩
def iV(K:ai)(H0:Hp)(eC:ZG->Prop)(env:Env)(Z:St)(H H' :Hp)(r:RV)(v:V):Prop:=
 match r.k with
 | .c=>Rep K (Cln eC env Z) H' r.d v
 | .tn=>∃a,v= .ref a/\H a=J/\Wr H' a/\r.d.top=O/\Inn K (λb=>Cln eC env Z b/\b≠a) H' r.d v
 | .to=>∃a,v= .ref a/\H0 a=J/\Wr H' a/\r.d.top=O/\Inn K (Cln eC env Z) H' r.d v
 | .tb=>Inn K (Cln eC env Z) H' r.d v/\∀a,v= .ref a->r.d.top=O->¬Ow env Z a
theorem iV.inn{r:RV}(h:iV K H0 eC env Z H H' r v):Inn K (Cln eC env Z) H' r.d v:=by
 obtain⟨k,d⟩:=r;cases k with
 |c=>exact Rep.inn h
 |tn=>obtain⟨_,_,_,_,_,h⟩:=h;exact h.imp λ_ z=>z.1
 |to=>obtain⟨_,_,_,_,_,h⟩:=h;exact h
 |tb=>exact h.1
theorem iV.rep{r:RV}(h:iV K H0 eC env Z H H' r v)(E:av K H0 eC env Z H)(hf:r.free=O):Rep K (Cln eC env Z) H' r.d v:=by
 obtain⟨k,d⟩:=r;cases k with
 |c=>exact h
 |tn=>
  obtain⟨a,e,h1,_,_,h2⟩:=h;exact(h2.imp λ_ z=>z.1).rep λb eb _=>by rw[e] at eb;cases eb;exact E.vt h1
 |to=>simp[RV.free] at hf
 |tb=>simp[RV.free] at hf
theorem iV.same(h:iV K H0 eC env Z H H' r v)(s:c9 H' H2):iV K H0 eC env Z H H2 r v:=by
 obtain⟨k,d⟩:=r;cases k with
 |c=>exact Rep.same s h
 |tn=>obtain⟨a,e,h1,w,t,h2⟩:=h;subst e;exact⟨a,rfl,h1,w.same s,t,h2.same s⟩
 |to=>obtain⟨a,e,h1,w,t,h2⟩:=h;subst e;exact⟨a,rfl,h1,w.same s,t,h2.same s⟩
 |tb=>exact⟨h.1.same s,h.2⟩
def iV.from(s:c9 H H1)(h:iV K H0 eC env Z H1 H' r v):iV K H0 eC env Z H H' r v:=by
 obtain⟨k,d⟩:=r;cases k with
 |c=>exact h
 |tn=>obtain⟨a,e,h1,w,t,h2⟩:=h;exact⟨a,e,s.free h1,w,t,h2⟩
 |to=>exact h
 |tb=>exact h
def ui(K:ai)(H0 H' :Hp)(d:D)(v:V):Prop:=
 (d.top=O->∃a,v= .ref a/\H0 a=J/\Wr H' a)/\Inn K (λb=>H0 b=J/\v≠ .ref b) H' d v
def ui.rv(E:av K H0 eC env Z H)(h:ui K H H' d v):iV K H0 eC env Z H H' (ku d) v:=by
 obtain⟨h1,h2⟩:=h;unfold ku;by_cases t:d.top=O
 .rw[Gao t];obtain⟨a,e,n,w⟩:=h1 t;subst e;exact⟨a,rfl,n,w,t,h2.imp λb z=> ⟨E.vt z.1,λq=>z.2 (by rw[q])⟩⟩
 .rw[Gai t];exact(h2.imp λb z=>E.vt z.1).rep λ_ _ z=>absurd z t
end
def tE(X:Cx)(f:DE):TE:=λZ H Q=>∃H0 eC env r,av X.K H0 eC env Z H/\f env=U r/\∀v H',c9 H H' ->iV X.K H0 eC env Z H H' r v->Q v H'
def tT(X:Cx)(t:DT):TT:=λZ H Q=>∃H0 eC env b,av X.K H0 eC env Z H/\t env=U b/\∀H',c9 H H' ->Q b H'
def tA(X:Cx)(a:DA):TA:=λZ H Q=>∃H0 eC env rs,av X.K H0 eC env Z H/\a env=U rs/\∀vs H',c9 H H' ->Paired (iV X.K H0 eC env Z H H') rs vs->Q vs H'
def S7(X:Cx)(H0:Hp)(eC:ZG->Prop)(env:Env)(Z:St)(H:Hp)(E:Ends):Out->Prop
 | .nx e=>∀Z' H',av X.K H0 eC e Z' H' ->Stp env Z H e Z' H' ->E.nx Z' H'
 | .bk e=>∀Z' H',av X.K H0 eC e Z' H' ->Stp env Z H e Z' H' ->E.bk Z' H'
 | .ct e=>∀Z' H',av X.K H0 eC e Z' H' ->Stp env Z H e Z' H' ->E.ct Z' H'
 | .ret d=>∀v H',c9 H0 H' ->ui X.K H0 H' d v->E.rt v H'
def tS(X:Cx)(f:DS):TS:=λE Z H=>∃H0 eC env o,av X.K H0 eC env Z H/\f env=U o/\S7 X H0 eC env Z H E o
def tG(X:Cx)(g:DG):TG:=λv Z H Q=>∃H0 eC env d eQ,av X.K H0 eC env Z H/\g d env=U eQ /\Rep X.K (Cln eC env Z) H d v/\∀Z' H',av X.K H0 eC eQ Z' H' ->Stp env Z H eQ Z' H' ->Q Z' H'
abbrev PEd(X:Cx)(e:ZJ)(f:DE):Prop:=PE X e (tE X f)
abbrev PTd(X:Cx)(e:ZJ)(t:DT):Prop:=PT X e (tT X t)
abbrev PWd(X:Cx)(e:ZJ)(t:DT):Prop:=PW X e (tT X t)
abbrev PAd(X:Cx)(es:List ZJ)(a:DA):Prop:=PA X es (tA X a)
abbrev PSd(X:Cx)(st:ZP)(f:DS):Prop:=PS X st (tS X f)
abbrev lD(X:Cx)(st:List ZP)(f:DS):Prop:=PSs X st (tS X f)
abbrev PGd(X:Cx)(e:ZJ)(g:DG):Prop:=PG X e (tG X g)
section
variable{X:Cx}{a b:ZJ}
def _root_.L2.PE.aG(h:PE X e t')(i:∀Z H Q,t Z H Q->t' Z H Q):PE X e t:=λe8 s Z H Q I q=>h e8 s Z H Q I (i Z H Q q)
def _root_.L2.PT.aG(h:PT X e t')(i:∀Z H Q,t Z H Q->t' Z H Q):PT X e t:=λe8 s Z H Q I q=>h e8 s Z H Q I (i Z H Q q)
def _root_.L2.PW.aG(h:PW X e t')(i:∀Z H Q,t Z H Q->t' Z H Q):PW X e t:=λwh e8 s Z H Q I q=>h wh e8 s Z H Q I (i Z H Q q)
def _root_.L2.PA.aG(h:PA X es t')(i:∀Z H Q,t Z H Q->t' Z H Q):PA X es t:=λpos e8 s Z H Q I q=>h pos e8 s Z H Q I (i Z H Q q)
def _root_.L2.PS.aG{st:ZP}{t t' :TS}(h:PS X st t')(i:∀D Z H,t D Z H->t' D Z H):PS X st t:=λe8 s Z H D I q=>h e8 s Z H D I (i D Z H q)
def _root_.L2.PSs.aG{st:List ZP}{t t' :TS}(h:PSs X st t')(i:∀D Z H,t D Z H->t' D Z H):PSs X st t:=λe8 s Z H D I q=>h e8 s Z H D I (i D Z H q)
def _root_.L2.PG.aG(h:PG X e t')(i:∀v Z H Q,t v Z H Q->t' v Z H Q):PG X e t:=λe8 s Z H v u Q I r q=>h e8 s Z H v u Q I r (i v Z H Q q)
def bF:c9 H H:=λ_ _ e=>e
def eh{α β:Type}{o:Option α}{k:α->Option β}{y:β}(h:o.bind k=U y):∃x,o=U x/\k x=U y:=Option.bind_eq_some_iff.mp h
def Hu(i:Nat)(hN:autoParam (X.N[i]? =U x) Za1._auto_1)(hv:Vis X.env.scope x:=by first|exact Or.inl rfl|exact Or.inr (Or.inl rfl)|exact Or.inr (Or.inr rfl))(hd:autoParam ((x==("__debug__":Str))=M) Za2._auto_1)
  (xq:autoParam ((x==("__classdict__":Str))=M) Za2._auto_1):PEd X (.Name x pos) (vE i):=by
 refine(kg hN hv hd xq).aG ?_;rintro Z H Q ⟨H0,eC,env,r,E,e,k⟩;unfold vE at e
 match q:env[i]?,e with
 |some (U (.sh d)),e=>
  cases e;obtain⟨v,h1,h2⟩:=E.sh i d q;exact⟨v,h1,k v H bF h2⟩
 |some (U (.own d)),e=>
  cases e;obtain⟨a,h1,h2,h3,h4,h5,h6⟩:=E.ow i d (.inl q);exact⟨_,h1,k _ H bF ⟨a,rfl,h2,h4,h5,h6⟩⟩
 |some (U (.lok d)),e=>
  cases e;obtain⟨a,h1,h2,h3,h4,h5,h6⟩:=E.ow i d (.inr q);refine⟨_,h1,k _ H bF ⟨h6,λb eb _ ⟨j,ho,hj⟩=> ?_⟩⟩;cases eb;have:=E.dj j i a ho.ol (by rw[q];trivial) hj h1;subst this;rw[q] at ho;exact ho
 |some (U (.bor d)),e=>
  cases e;obtain⟨a,h1,h4,h5,h6⟩:=E.bo i d q;refine⟨_,h1,k _ H bF ⟨h6,λb eb _ ⟨j,ho,hj⟩=> ?_⟩⟩;cases eb;have:=E.dj j i a ho.ol (by rw[q];trivial) hj h1;subst this;rw[q] at ho;exact ho
def mq:PEd X (.Constant (.int i) j pos) (kE (.int i)):=GI.aG λZ H Q ⟨_,_,_,_,_,e,k⟩=>by cases e;exact k _ H bF (.int i)
def S8{b:Bool}:PEd X (.Constant (.bool b) j pos) (kE (.bl b)):=QR.aG λZ H Q ⟨_,_,_,_,_,e,k⟩=>by cases e;exact k _ H bF (.bl b)
def O5:PEd X (.Constant .none j pos) (kE .non):=Nq.aG λZ H Q ⟨_,_,_,_,_,e,k⟩=>by cases e;exact k _ H bF .non
def O6:PEd X (.Constant (.str x) j pos) (kE (.str x)):=Nr.aG λZ H Q ⟨_,_,_,_,_,e,k⟩=>by cases e;exact k _ H bF (.str x)
def RvN(K:ai)(F:ZG->Prop)(H H' :Hp)(r:RV)(v:V):Prop:=
 match r.k with
 | .c=>Rep K F H' r.d v
 | .tn=>∃a,v= .ref a/\H a=J/\Wr H' a/\r.d.top=O/\Inn K (λb=>F b/\b≠a) H' r.d v
 |_=>False
def RvN.ok{K:ai}{r:RV}(h:RvN K (Cln eC env Z) H1 H' r v)(s:c9 H H1):iV K H0 eC env Z H H' r v:=by
 obtain⟨k,d⟩:=r;cases k with
 |c=>exact h
 |tn=>obtain⟨a,e,h1,w,t,h2⟩:=h;exact⟨a,e,s.free h1,w,t,h2⟩
 |to=>exact(show False from h).elim
 |tb=>exact(show False from h).elim
def OpD(X:Cx)(o:D->D->Option RV)(r:R2):Prop:=∀(F:ZG->Prop) (H:Hp) (dx dy:D) (x y:V) (rv:RV) (Q:VK),Inn X.K F H dx x->Inn X.K F H dy y->o dx dy=U rv->
 (∀v H',c9 H H' ->RvN X.K F H H' rv v->Q v H')->r x y H Q
def qL(ho:OpR X (binaryOp op) r)(hd:OpD X o r)(ha:PEd X a f)(hb:PEd X b g):PEd X (.BinOp a op b pos) (ZF o f g):=by
 refine(R5 ho ha hb).aG ?_;rintro Z H Q ⟨H0,eC,env,rv,E,e,k⟩;obtain⟨x,hx,e⟩:=eh e;obtain⟨y,hy,e⟩:=eh e;exact⟨H0,eC,env,x,E,hx,λvx H1 s1 R1=> ⟨H0,eC,env,y,E.mono s1,hy,λvy H2 s2 R2=>hd _ H2 x.d y.d vx vy rv Q (R1.inn.same s2) R2.inn e λv H3 s3 R3=>
  k v H3 (s1.trans (s2.trans s3)) (R3.ok (s1.trans s2))⟩⟩
variable{gi:Int->Int->Int}
def O7{o:D->D->Option RV}(h:∀dx dy rv,o dx dy=U rv->∃i j,dx= .int i/\dy= .int j/\rv=⟨.c,.int (gi i j)⟩):OpD X o (rI0 λi j=> .int (gi i j)):=by
 intro F H dx dy x y rv Q ix iy e k;obtain⟨i,j,rfl,rfl,rfl⟩:=h dx dy rv e;cases ix;cases iy
 exact⟨i,j,rfl,rfl,k _ H bF (.int _)⟩
def D0{o:D->D->Option RV}{C:Int->Int->Prop}(h:∀dx dy rv,o dx dy=U rv->∃i j,dx= .int i/\dy= .int j/\C i j/\rv=⟨.c,.int (gi i j)⟩):OpD X o (rI C λi j=> .int (gi i j)):=by
 intro F H dx dy x y rv Q ix iy e k;obtain⟨i,j,rfl,rfl,hc,rfl⟩:=h dx dy rv e;cases ix;cases iy
 exact⟨i,j,rfl,rfl,hc,k _ H bF (.int _)⟩
def KI:OpD X iU (rI0 λi j=> .int (i -j)):=O7 λdx dy rv e=>by
 unfold iU at e;split at e
 .simp_all
 .cases e
def KJ:OpD X b6 (rI Ki λi j=> .int (i*j)):=D0 λdx dy rv e=>by
 unfold b6 at e;split at e
 .split at e
  .rename_i i j q;cases e;refine⟨i,j,rfl,rfl, ?_,rfl⟩;unfold aQ at q;rw[GaX] at q;rcases q with q|q
   .left;have:=Gaq q;lia
   .right;have:=Gaq q;lia
  .cases e
 .cases e
def Hv:OpD X cW (rI R8 λi j=> .int (i/j)):=D0 λdx dy rv e=>by
 unfold cW at e;split at e
 .split at e
  .rename_i i j q;cases e;exact⟨i,j,rfl,rfl,q,rfl⟩
  .cases e
 .cases e
def KN:OpD X bh (rI (λ_ j=>0<j) λi j=> .int (i%j)):=D0 λdx dy rv e=>by
 unfold bh at e;split at e
 .simp_all
 .cases e
def KO:OpD X wZ (rI R9 λi j=> .int (i^j.toNat)):=D0 λdx dy rv e=>by
 unfold wZ at e;split at e
 .split at e
  .rename_i i j q;cases e;exact⟨i,j,rfl,rfl,⟨q.1,by lia,by lia⟩,rfl⟩
  .cases e
 .cases e
def N8:R2:=λx y H Q=>∃l b xs zs,x= .ref l/\y= .ref b/\Rd H l (.lst xs)/\Rd H b (.lst zs)/\xs.length+zs.length<=sizeLine/\∀p,H p=J->Q (.ref p) (upd H p (.lst (xs++zs)))
def KP:OpR X (binaryOp .Add) N8:=by
 intro e8 s Z H x y v u Q I rx ry h;obtain⟨l,b,xs,zs,rfl,rfl,hH,hB,hz,q⟩:=h;cases rx;cases ry;obtain⟨z,its,n,r,e⟩:=(show cJ X.prog X.w H s.heap l (.lst xs) from hH.ok I.hok)
 obtain⟨z2,eO,n2,r2,e2⟩:=(show cJ X.prog X.w H s.heap b (.lst zs) from hB.ok I.hok)
 have hl:=r.length;have zR:=r2.length;refine PySem.P.add_list e e2 ?_ (by rw[Gav,Gav];lia);have ea:its.toArray++eO.toArray=(its++eO).toArray:=by simp
 rw[ea];exact⟨.ref _,_,I.Uj (r.append r2) (by rw[Gal];lia),rfl,q _ I.fresh⟩
def eU:af=sizeLine:=by rw[Gbt];rfl
def aW(n:H p=J):c9 H (upd H p o):=λb u e=>by rw[ao (dq e n)];exact e
def fq{K:ai}{H:Hp}(n:H p=J)(r:aN K F H ds vs):Rep K F (upd H p (.tup vs)) (.tup ds) (.ref p):=by
 have r2:=r.gen (.ZC (aW (o:= .tup vs) n)) λ_ f _=>f;exact .tup aD r2.1 r2.2
def ft{K:ai}{F:ZG->Prop}{H:Hp}(n:H p=J)(r:aN K F H ds vs):Inn K (λb=>F b/\b≠p) (upd H p (.lst vs)) (.lst ds) (.ref p):=
 .lst (.inl aD) (r.gen (.ZC (aW n)) λb f hb=> ⟨f,λz=>hb (z▸n)⟩)
def ou:Wr (upd H p (.lst xs)) p:=⟨_,aD,trivial⟩
def Hw(K:ai):R2:=λx y H Q=>rI0 (λi j=> .int (i+j)) x y H Q\/(∃i j,x= .str i/\y= .str j/\i.length+j.length<=sizeLine/\Q (.str (i++j)) H)\/N8 x y H Q\/MO K x y H Q
def D1:OpR X (binaryOp .Add) (Hw X.K):=NF.or (Bv.or (KP.or Kv))
def nn{α:Type}{P:Prop}{x:Option α}{y:α}(h:x=U y)(e:x=J):P:=by rw[e] at h;cases h
def aN.ne{K:ai}(r:aN K F H ds vs):vs=[]↔ds=[]:=by
 constructor
 .intro z;subst z;exact List.eq_nil_of_length_eq_zero r.1
 .intro z;subst z;exact r.cz
def D2:OpD X aF (Hw X.K):=by
 intro F H dx dy x y rv Q ix iy e k;cases dx<;>first|(cases dy<;>exact nn e rfl)|skip
 all_goals cases dy<;>try exact nn e rfl
 case int=>
  cases e;cases ix;cases iy;exact .inl ⟨_,_,rfl,rfl,k _ H bF (.int _)⟩
 case str x y=>
  by_cases q:x.length+y.length<=af
  .cases(Gao q).symm.trans e;cases ix;cases iy;exact .inr (.inl ⟨_,_,rfl,rfl,by rw[<-eU];exact q,k _ H bF (.str _)⟩)
  .exact nn e (Gai q)
 case tup xs ys=>
  by_cases q:xs.length+ys.length<=af/\0<xs.length
  .cases(Gao q).symm.trans e;cases ix with
   |tup hx rx=>
    cases iy with
    |tup hy ry=>
     refine .inr (.inr (.inr ⟨_,_,_,_,rfl,rfl,SqT.of hx,SqT.of hy, ?_, ?_, ?_, ?_⟩))
     .intro z;have:=rx.ne.mp z;simp_all
     .rw[<-rx.1,<-ry.1];exact q.1
     .intro z;have:=ry.ne.mp z;subst this;refine k _ H bF ?_;rw[Gbh];exact .tup hx rx.1 rx.2
     .intro z p n;exact k _ _ (aW n) (fq n (rx.append ry))
  .exact nn e (Gai q)
 case lst xs ys=>
  by_cases q:xs.length+ys.length<=af
  .cases(Gao q).symm.trans e;cases ix with
   |lst hx rx=>
    cases iy with
    |lst hy ry=>
     refine .inr (.inr (.inl ⟨_,_,_,_,rfl,rfl,hx,hy,by rw[<-rx.1,<-ry.1];exact q,λp n=> ?_⟩));exact k _ _ (aW n) ⟨p,rfl,n,ou,rfl,ft n (rx.append ry)⟩
  .exact nn e (Gai q)
def UnD(X:Cx)(o:D->Option RV)(r:V->Hp->VK->Prop):Prop:=∀(F:ZG->Prop) (H:Hp) (dx:D) (x:V) (rv:RV) (Q:VK),Inn X.K F H dx x->o dx=U rv->(∀v H',c9 H H' ->RvN X.K F H H' rv v->Q v H')->r x H Q
def S9(ho:UnR X (unaryOp op) r)(hd:UnD X o r)(ha:PEd X a f):PEd X (.UnaryOp op a pos) (unE o f):=by
 refine(R6 ho ha).aG ?_;rintro Z H Q ⟨H0,eC,env,rv,E,e,k⟩;obtain⟨x,hx,e⟩:=eh e;exact⟨H0,eC,env,x,E,hx,λvx H1 s1 R1=>hd _ H1 x.d vx rv Q R1.inn e λv H3 s3 R3=>k v H3 (s1.trans s3) (R3.ok s1)⟩
def KQ:UnD X EW (rU λi=> .int (-i)):=by
 intro F H dx x rv Q ix e k;unfold EW at e;split at e
 .cases e;cases ix;exact⟨_,rfl,k _ H bF (.int _)⟩
 .cases e
def O8(ha:PEd X a f)(hb:PEd X b g):PEd X (.BinOp a .Add b pos) (ZF aF f g):=qL D1 D2 ha hb
def O9(ha:PEd X a f)(hb:PEd X b g):PEd X (.BinOp a .Sub b pos) (ZF iU f g):=qL NG KI ha hb
def Oa(ha:PEd X a f)(hb:PEd X b g):PEd X (.BinOp a .Mult b pos) (ZF b6 f g):=qL NH KJ ha hb
def KR(ha:PEd X a f)(hb:PEd X b g):PEd X (.BinOp a .FloorDiv b pos) (ZF cW f g):=qL Kj Hv ha hb
def Ob(ha:PEd X a f)(hb:PEd X b g):PEd X (.BinOp a .Mod b pos) (ZF bh f g):=qL NI KN ha hb
def Oc(ha:PEd X a f)(hb:PEd X b g):PEd X (.BinOp a .Pow b pos) (ZF wZ f g):=qL NJ KO ha hb
def Od(ha:PEd X a f):PEd X (.UnaryOp .USub a pos) (unE EW f):=S9 NK KQ ha
def OpB(X:Cx)(o:D->D->Option Bool)(r:R2):Prop:=∀(F:ZG->Prop) (H:Hp) (dx dy:D) (x y:V) (b:Bool) (Q:VK),Inn X.K F H dx x->Inn X.K F H dy y->o dx dy=U b->Q (.bl b) H->r x y H Q
def Oe(ho:OpR X (compareOp op) r)(hd:OpB X o r)(ha:PEd X a f)(hb:PEd X b g)(hm:behindInMarks op b=M):PTd X (.Compare a [op] [b] pos) (az o f g):=by
 refine(Ko ho ha hb hm).aG ?_;rintro Z H Q ⟨H0,eC,env,bb,E,e,k⟩;obtain⟨x,hx,e⟩:=eh e;obtain⟨y,hy,e⟩:=eh e;exact⟨H0,eC,env,x,E,hx,λvx H1 s1 R1=> ⟨H0,eC,env,y,E.mono s1,hy,λvy H2 s2 R2=>hd _ H2 x.d y.d vx vy bb _ (R1.inn.same s2) R2.inn e ⟨bb,rfl,k H2 (s1.trans s2)⟩⟩⟩
def Of(ho:OpR X (compareOp op) r)(hd:OpB X o r)(ha:PEd X a f)(hb:PEd X b g)(hm:behindInMarks op b=M):PEd X (.Compare a [op] [b] pos) (bE (az o f g)):=by
 refine(Km ho ha hb hm).aG ?_;rintro Z H Q ⟨H0,eC,env,rv,E,e,k⟩;obtain⟨bb,e',rfl⟩:=Gaa.mp e;have e:=e';obtain⟨x,hx,e⟩:=eh e;obtain⟨y,hy,e⟩:=eh e;exact⟨H0,eC,env,x,E,hx,λvx H1 s1 R1=> ⟨H0,eC,env,y,E.mono s1,hy,λvy H2 s2 R2=>hd _ H2 x.d y.d vx vy bb _ (R1.inn.same s2) R2.inn e (k _ H2 (s1.trans s2) (.bl bb))⟩⟩
def D3{o:D->D->Option Bool}{gb:Int->Int->Bool}(h:∀dx dy b,o dx dy=U b->∃i j,dx= .int i/\dy= .int j/\b=gb i j):OpB X o (rI0 λi j=> .bl (gb i j)):=by
 intro F H dx dy x y b Q ix iy e q;obtain⟨i,j,rfl,rfl,rfl⟩:=h dx dy b e;cases ix;cases iy
 exact⟨i,j,rfl,rfl,q⟩
def Og:OpB X ltB (rI0 λi j=> .bl (decide (i<j))):=D3 λdx dy b e=>by
 unfold ltB at e;split at e<;>cases e;exact⟨_,_,rfl,rfl,rfl⟩
def Oh:OpB X leB (rI0 λi j=> .bl (decide (i<=j))):=D3 λdx dy b e=>by
 unfold leB at e;split at e<;>cases e;exact⟨_,_,rfl,rfl,rfl⟩
def Oi:OpB X gtB (rI0 λi j=> .bl (decide (j<i))):=D3 λdx dy b e=>by
 unfold gtB at e;split at e<;>cases e;exact⟨_,_,rfl,rfl,rfl⟩
def Oj:OpB X geB (rI0 λi j=> .bl (decide (j<=i))):=D3 λdx dy b e=>by
 unfold geB at e;split at e<;>cases e;exact⟨_,_,rfl,rfl,rfl⟩
def uj{K:ai}(h:Inn K F H d x):decide (x= .non)=dw d:=by
 cases h<;>simp[dw]
def KS:OpB X kf (λx y H Q=>y= .non/\Q (.bl (decide (x= .non))) H):=by
 intro F H dx dy x y b Q ix iy e q;simp only[kf] at e;split at e
 .rename_i h;cases e;cases iy<;>simp[dw] at h
  exact⟨rfl,by rw[uj ix];exact q⟩
 .cases e
def Hx:OpB X iX (λx y H Q=>y= .non/\Q (.bl (!decide (x= .non))) H):=by
 intro F H dx dy x y b Q ix iy e q;simp only[iX] at e;split at e
 .rename_i h;cases e;cases iy<;>simp[dw] at h
  exact⟨rfl,by rw[uj ix];exact q⟩
 .cases e
def Ol{e:ZJ}{f:DE}(h:PEd X e f)(he:∀whole,isTrue e X.env whole=(do let v<-whole;standAt e.pos;holding [v] (truthy v)):=by intro _;rfl):PTd X e (jf f):=by
 refine(Nt h he).aG ?_;rintro Z H Q ⟨H0,eC,env,bb,E,e,k⟩;obtain⟨x,hx,e⟩:=eh e;split at e
 .rename_i b hb;cases e;refine⟨H0,eC,env,x,E,hx,λvx H1 s1 R1=> ⟨bb, ?_,k H1 s1⟩⟩;have i:=R1.inn;rw[hb] at i;cases i;rfl
 .cases e
def Hy(h:PEd X e f):PEd X e (bE (jf f)):=by
 refine h.aG ?_;rintro Z H Q ⟨H0,eC,env,rv,E,e,k⟩;obtain⟨bb,e',rfl⟩:=Gaa.mp e;have e:=e';obtain⟨x,hx,e⟩:=eh e;split at e
 .rename_i b hb;cases e;refine⟨H0,eC,env,x,E,hx,λvx H1 s1 R1=>k _ H1 s1 ?_⟩;have i:=R1.inn;rw[hb] at i;cases i;exact .bl _
 .cases e
def KU(ha:PTd X a t):PWd X (.BoolOp .And [a] pos) t:=Ke ha
def Om(ha:PTd X a t):PWd X (.BoolOp .Or [a] pos) t:=Nu ha
def Oo{t:DT}(ha:PTd X a t)(hb:PWd X (.BoolOp .And (b::rest) pos) u):PWd X (.BoolOp .And (a::b::rest) pos) (fI t u):=by
 refine(Nv ha hb).aG ?_;rintro Z H Q ⟨H0,eC,env,bb,E,e,k⟩;obtain⟨x,hx,e⟩:=eh e;refine⟨H0,eC,env,x,E,hx,λH1 s1=> ?_⟩;cases x with
 |true=>rw[Gao rfl];rw[Gao rfl] at e;exact⟨H0,eC,env,bb,E.mono s1,e,λH2 s2=>k H2 (s1.trans s2)⟩
 |false=>rw[Gai GaB];rw[Gai GaB] at e;cases e;exact k H1 s1
def Sa{t:DT}(ha:PTd X a t)(hb:PWd X (.BoolOp .Or (b::rest) pos) u):PWd X (.BoolOp .Or (a::b::rest) pos) (orT t u):=by
 refine(QS ha hb).aG ?_;rintro Z H Q ⟨H0,eC,env,bb,E,e,k⟩;obtain⟨x,hx,e⟩:=eh e;refine⟨H0,eC,env,x,E,hx,λH1 s1=> ?_⟩;cases x with
 |false=>rw[Gai GaB];rw[Gai GaB] at e;exact⟨H0,eC,env,bb,E.mono s1,e,λH2 s2=>k H2 (s1.trans s2)⟩
 |true=>rw[Gao rfl];rw[Gao rfl] at e;cases e;exact k H1 s1
def Oq(ha:PTd X a t):PTd X (.UnaryOp .Not a pos) (tm t):=by
 refine(Nw ha).aG ?_;rintro Z H Q ⟨H0,eC,env,bb,E,e,k⟩;obtain⟨x,hx,rfl⟩:=Gaa.mp e;exact⟨H0,eC,env,x,E,hx,λH1 s1=>k H1 s1⟩
def Ot(ha:PEd X a (bE t)):PEd X (.BoolOp op [a] pos) (bE t):=Nx ha
def Ou{t:DT}(ha:PEd X a (bE t))(hb:PEd X (.BoolOp .And (b::rest) pos) (bE u)):PEd X (.BoolOp .And (a::b::rest) pos) (bE (fI t u)):=by
 refine(Ny ha hb).aG ?_;rintro Z H Q ⟨H0,eC,env,rv,E,e,k⟩;obtain⟨bb,e',rfl⟩:=Gaa.mp e;have e:=e';obtain⟨x,hx,e⟩:=eh e;refine⟨H0,eC,env,⟨.c,.bl x⟩,E,by unfold bE;rw[hx];rfl,λv H1 s1 R=> ?_⟩;have R' :=R.inn;cases R';refine⟨x,rfl, ?_⟩;cases x with
 |true=>rw[Gao rfl];rw[Gao rfl] at e;exact⟨H0,eC,env,⟨.c,.bl bb⟩,E.mono s1,by unfold bE;rw[e];rfl,λv2 H2 s2 R2=>k v2 H2 (s1.trans s2) (R2.from s1)⟩
 |false=>rw[Gai GaB];rw[Gai GaB] at e;cases e;exact k _ H1 s1 (.bl M)
def Sb{t:DT}(ha:PEd X a (bE t))(hb:PEd X (.BoolOp .Or (b::rest) pos) (bE u)):PEd X (.BoolOp .Or (a::b::rest) pos) (bE (orT t u)):=by
 refine(QV ha hb).aG ?_;rintro Z H Q ⟨H0,eC,env,rv,E,e,k⟩;obtain⟨bb,e',rfl⟩:=Gaa.mp e;have e:=e';obtain⟨x,hx,e⟩:=eh e;refine⟨H0,eC,env,⟨.c,.bl x⟩,E,by unfold bE;rw[hx];rfl,λv H1 s1 R=> ?_⟩;have R' :=R.inn;cases R';refine⟨x,rfl, ?_⟩;cases x with
 |false=>rw[Gai GaB];rw[Gai GaB] at e;exact⟨H0,eC,env,⟨.c,.bl bb⟩,E.mono s1,by unfold bE;rw[e];rfl,λv2 H2 s2 R2=>k v2 H2 (s1.trans s2) (R2.from s1)⟩
 |true=>rw[Gao rfl];rw[Gao rfl] at e;cases e;exact k _ H1 s1 (.bl O)
def Ov(ha:PEd X a (bE t)):PEd X (.UnaryOp .Not a pos) (bE (tm t)):=by
 refine(Nz ha).aG ?_;rintro Z H Q ⟨H0,eC,env,rv,E,e,k⟩;obtain⟨bb,e',rfl⟩:=Gaa.mp e;have e:=e';obtain⟨x,hx,rfl⟩:=Gaa.mp e;refine⟨H0,eC,env,⟨.c,.bl x⟩,E,by unfold bE;rw[hx];rfl,λv H1 s1 R=> ?_⟩;have R' :=R.inn;cases R';exact⟨x,rfl,k _ H1 s1 (.bl _)⟩
def Hz(hc:PTd X c t)(ha:PEd X a f)(hb:PEd X b g):PEd X (.IfExp c a b pos) (ifE t f g):=by
 refine(GJ hc ha hb).aG ?_;rintro Z H Q ⟨H0,eC,env,rv,E,e,k⟩;obtain⟨x,hx,e⟩:=eh e;refine⟨H0,eC,env,x,E,hx,λH1 s1=> ?_⟩;cases x with
 |true=>rw[Gao rfl];rw[Gao rfl] at e;exact⟨H0,eC,env,rv,E.mono s1,e,λv H2 s2 R=>k v H2 (s1.trans s2) (R.from s1)⟩
 |false=>rw[Gai GaB];rw[Gai GaB] at e;exact⟨H0,eC,env,rv,E.mono s1,e,λv H2 s2 R=>k v H2 (s1.trans s2) (R.from s1)⟩
def HA(ho:OpR X (compareOp op) r)(hd:OpB X o r)(xn :OpR X (compareOp op') r')(xc :OpB X p r')(ha:PEd X a f)(hb:PEd X b g)(hc:PEd X c h)
  (hm:lastMarks [op,op'] [b,c]=M:=by with_unfolding_all rfl):PTd X (.Compare a [op,op'] [b,c] pos) (jg o p f g h):=by
 refine(GW ho xn ha hb hc hm).aG ?_;rintro Z H Q ⟨H0,eC,env,bb,E,e,k⟩;obtain⟨x,hx,e⟩:=eh e;obtain⟨y,hy,e⟩:=eh e;obtain⟨b1,h1,e⟩:=eh e;refine⟨H0,eC,env,x,E,hx,λvx H1 s1 R1=> ⟨H0,eC,env,y,E.mono s1,hy,λvy H2 s2 R2=>hd _ H2 x.d y.d vx vy b1 _ (R1.inn.same s2) R2.inn h1 ⟨b1,rfl, ?_⟩⟩⟩;cases b1 with
 |true=>
  obtain⟨z,hz,e⟩:=eh e;exact⟨H0,eC,env,z,(E.mono s1).mono s2,hz,λvz H3 s3 R3=>xc _ H3 y.d z.d vy vz bb _ (R2.inn.same s3) R3.inn e ⟨bb,rfl,k H3 (s1.trans (s2.trans s3))⟩⟩
 |false=>
  cases e;exact⟨M,rfl,k H2 (s1.trans s2)⟩
end
section
variable{X:Cx}
def Scr.sq{K:ai}{ns:List Int}(h:Scr K H a ns):SqL K H a (ns.map V.int):=by
 rcases h with⟨o,h⟩|h
 .exact .inl (.inr ⟨o,h⟩)
 .exact .inr h
def BD{K:ai}(r:aN K F H ds vs)(e:atD ds i=U d):∃v,atI vs i=U v/\Rep K F H d v:=by
 unfold atD at e;unfold atI ixN;rw[<-r.1];split at e
 .rename_i h0;obtain⟨v,h1,h2⟩:=r.get e;have hi:=(Gak.mp e).1;refine⟨v, ?_,h2⟩;rw[Gao h0,Gao (by lia)];exact h1
 .rename_i h0;split at e
  .rename_i h1;obtain⟨v,h2,h3⟩:=r.get e;refine⟨v, ?_,h3⟩;rw[Gai h0,Gao h1];exact h2
  .cases e
theorem A4{K:ai} [DecidableEq Y]:∀{eD:List (Y×D)} {ws:List (Y×V)} {k:Y} {d:D},aZ K F H eD ws->look eD k=U d->∃v,je ws k=U v/\Rep K F H d v
 |[],ws,k,d,_,e=>by simp[look] at e
 |p::eD,[],k,d,r,_=>absurd r.1 (by simp)
 |p::eD,q::ws,k,d,r,e=>by
  have h1:p.1=q.1/\eD.map (·.1)=ws.map (·.1):=by have:=r.1;simpa using this
  have r2:aZ K F H eD ws:=⟨h1.2,λi x y e1 e2=>r.2 (i+1) x y (by simpa using e1) (by simpa using e2)⟩
  by_cases z:p.1=k
  .have e' :look (p::eD) k=U p.2:=by simp[look,z]
   rw[e'] at e;cases e;exact⟨q.2,n4 (h1.1.symm.trans z),r.2 0 p q rfl rfl⟩
  .have e' :look (p::eD) k=look eD k:=by simp[look,z]
   rw[e'] at e;obtain⟨v,h3,h4⟩:=A4 r2 e;exact⟨v,by rw[jt (λw=>z (h1.1.trans w))];exact h3,h4⟩
theorem uk{K:ai} [DecidableEq Y]:∀{eD:List (Y×D)} {ws:List (Y×V)} {k:Y},aZ K F H eD ws->look eD k=J->je ws k=J
 |[],[],k,_,_=>rfl
 |[],q::ws,k,r,_=>absurd r.1 (by simp)
 |p::eD,[],k,r,_=>absurd r.1 (by simp)
 |p::eD,q::ws,k,r,e=>by
  have h1:p.1=q.1/\eD.map (·.1)=ws.map (·.1):=by have:=r.1;simpa using this
  have r2:aZ K F H eD ws:=⟨h1.2,λi x y e1 e2=>r.2 (i+1) x y (by simpa using e1) (by simpa using e2)⟩
  by_cases z:p.1=k
  .have e' :look (p::eD) k=U p.2:=by simp[look,z]
   rw[e'] at e;cases e
  .have e' :look (p::eD) k=look eD k:=by simp[look,z]
   rw[e'] at e;rw[jt (λw=>z (h1.1.trans w))];exact uk r2 e
def EY{K:ai}(i:Inn K F H d x)(e:keyOf d=U k):x=kV k:=by
 unfold keyOf at e;split at e<;>cases e<;>cases i<;>rfl
theorem iY{K:ai}:∀{ds vs ks},aN K F H ds vs->keysOf ds=U ks->vs=ks.map kV
 |[],vs,ks,r,e=>by cases e;rw[r.cz];rfl
 |d::ds,vs,ks,r,e=>by
  obtain⟨v,w,rfl,h1,h2⟩:=r.cons_inv;obtain⟨k,hk,e⟩:=eh e;obtain⟨Zf,Xe,rfl⟩:=Gaa.mp e;rw[EY h1.inn hk,iY h2 Xe]
  rfl
def KV{K:ai}(ix:Inn K F H d x)(iy:Inn K F H k y):
  ∀eD ks key,d= .dT eD->k= .tup ks->keysOf ks=U key->∃a ws,x= .ref a/\aZ K F H eD ws/\KC H a y (je ws key):=by
 intro eD ks key ed ek e;subst ed ek;cases ix with
 |dT h r=>
  cases iy with
  |tup hy ry=>exact⟨_,_,rfl,r,⟨_,key,_,.inl h,rfl,by rw[<-iY ry e];exact hy,rfl⟩⟩
def ph(ha:PEd X a f)(hb:PEd X b g)(hs:vn b:=by exactλ_ _=>rfl):PEd X (.Subscript a b pos) (ZE f g):=by
 refine(Rn NT ha hb hs).aG ?_;rintro Z H Q ⟨H0,eC,env,rv,E,e,k⟩;obtain⟨x,hx,e⟩:=eh e;obtain⟨y,hy,e⟩:=eh e;obtain⟨d,e',rfl⟩:=Gaa.mp e;clear e;have e:=e';clear e';refine⟨H0,eC,env,x,E,hx,λvx H1 s1 R1=> ⟨H0,eC,env,y,E.mono s1,hy,λvy H2 s2 R2=> ?_⟩⟩;have ix:=R1.inn.same s2;have iy:=R2.inn;have fin:∀v,Rep X.K (Cln eC env Z) H2 d v->Q v H2:=λv r=>k v H2 (s1.trans s2) r;generalize x.d=dx at ix e;generalize y.d=dy at iy e;cases dx<;>first|(cases dy<;>exact nn e rfl)|skip
 all_goals cases dy<;>try exact nn e rfl
 all_goals cases iy
 case lst.int.int=>cases ix with
  |lst h r=>
   obtain⟨v,h1,h2⟩:=BD r e;exact .inl ⟨_,_,_,v,rfl,rfl,.inl h,h1,fin v h2⟩
 case tup.int.int=>cases ix with
  |tup h r=>
   obtain⟨v,h1,h2⟩:=BD r e;exact .inr (.inl ⟨_,_,_,v,rfl,rfl,SqT.of h,h1,fin v h2⟩)
 case str.int.int x _=>
  by_cases hz:x.length<=af
  .obtain⟨ch,w,rfl⟩:=Gaa.mp ((Gao hz).symm.trans e);cases ix;refine .inr (.inr ⟨_,_,ch,rfl,rfl,by rw[<-eU];exact hz, ?_,fin _ (.str _)⟩);unfold atD at w;unfold atI ixN;split at w
   .rename_i h0;have hi:=(Gak.mp w).1;rw[Gao h0,Gao (by lia)];exact w
   .rename_i h0;split at w
    .rename_i h1;rw[Gai h0,Gao h1];exact w
    .cases w
  .exact nn e (Gai hz)
 case scr.int.int=>
  obtain⟨n,w,rfl⟩:=Gaa.mp e;cases ix with
  |scr h=>
   refine .inl ⟨_,_,_,.int n,rfl,rfl,h.sq, ?_,fin _ (.int n)⟩;unfold atD at w;unfold atI ixN;rw[Gae];split at w
   .rename_i h0;have hi:=(Gak.mp w).1;rw[Gao h0,Gao (by lia)];show(List.map V.int _)[_]? =_;rw[Gap,w];rfl
   .rename_i h0;split at w
    .rename_i h1;rw[Gai h0,Gao h1];show(List.map V.int _)[_]? =_;rw[Gap,w];rfl
    .cases w
 case fl.int.int=>cases ix with
  |fl h r=>
   obtain⟨v,h1,h2⟩:=BD r e;exact .inl ⟨_,_,_,v,rfl,rfl,.inl (.inr ⟨_,h⟩),h1,fin v h2⟩
def gF:PAd X [] aX:=by
 refine o9.aG ?_;rintro Z H Q ⟨H0,eC,env,rs,E,e,k⟩;cases e;exact k [] H bF .nil
def A5{K:ai}(s:c9 H H1)(p:Paired (iV K H0 eC env Z H1 H') rs vs):Paired (iV K H0 eC env Z H H') rs vs:=L2.Paired.Ka p λ_ _ h=>h.from s
def cL(ha:PEd X e f)(hr:PAd X es r)(hs:autoParam (starEach (e::es) X.env=(M,eval e X.env)::starEach es X.env) Za1._auto_1):PAd X (e::es) (aa f r):=by
 refine(kU ha hr hs).aG ?_;rintro Z H Q ⟨H0,eC,env,rs,E,e,k⟩;obtain⟨x,hx,e⟩:=eh e;obtain⟨xs,Ws,e⟩:=eh e;cases e;exact⟨H0,eC,env,x,E,hx,λvx H1 s1 R1=> ⟨H0,eC,env,xs,E.mono s1,Ws,λvs H2 s2 Rs=>k _ H2 (s1.trans s2) (.cons (R1.same s2) (A5 s1 Rs))⟩⟩
def um{K:ai}{rs:List RV}(E:av K H0 eC env Z H)(p:Paired (iV K H0 eC env Z H H') rs vs):rs.all (·.free)=O->aN K (Cln eC env Z) H' (rs.map (·.d)) vs:=by
 induction p with
 |nil=>exactλ_=>aN.nil
 |cons h t ih=>
  intro f;rw[GbA,Gah] at f;exact aN.cons (h.rep E f.1) (ih f.2)
def BE(ha:PAd X es r):PEd X (.Tuple es j pos) (aO r):=by
 refine(NM ha).aG ?_;rintro Z H Q ⟨H0,eC,env,rv,E,e,k⟩;obtain⟨rs,hr,e⟩:=eh e;split at e
 .rename_i q;rw[Gah] at q;cases e;refine⟨H0,eC,env,rs,E,hr,λvs H1 s1 Rs=> ?_⟩;have rep:=um E Rs q.1;refine⟨by rw[<-rep.1,Gae];exact Gaq q.2,λp n=> ?_⟩;exact k _ _ (s1.trans (aW n)) (fq n rep)
 .cases e
def Ox(ha:PAd X es r):PEd X (.List es pos) (de r):=by
 refine(GY ha).aG ?_;rintro Z H Q ⟨H0,eC,env,rv,E,e,k⟩;obtain⟨rs,hr,e⟩:=eh e;split at e
 .rename_i q;rw[Gah] at q;cases e;refine⟨H0,eC,env,rs,E,hr,λvs H1 s1 Rs=> ?_⟩;have rep:=um E Rs q.1;refine⟨by rw[<-rep.1,Gae];exact Gaq q.2,λp n=> ?_⟩;exact k _ _ (s1.trans (aW n)) ⟨p,rfl,s1.free n,ou,rfl,ft n rep⟩
 .cases e
noncomputable def spD(K:ai)(np:Nat)(sp:SpF):Sp:=λvs H Q _=>∃ds d,ds.length=np/\aN K (λ_=>True) H ds vs/\sp ds=U d/\∀v H',c9 H H' ->ui K H H' d v->Q v H'
def EZ{K:ai}{rs:List RV}(p:Paired (iV K H0 eC env Z H H') rs vs):aN K (λ_=>True) H' (rs.map (·.d)) vs:=by
 induction p with
 |nil=>exact aN.nil
 |cons h t ih=>exact aN.cons h.inn.any ih
def KW(F:jr X.prog X.w X.K X.mg X.base CX k fa fd ps (spD X.K np sp))(hr:iT k X.A)(hg:Gl X x)
  (hm:X.mg x=U (.ref fa))(hk:PySem.W.keepIn X.K (.ref fa)=O)(hb:Binds X.K fd ps [])(hx:Passes CX X E)(ha:PAd X (e::es) r)(hl:∀env rs,r env=U rs->rs.length=np)
  (yw:autoParam ((x==("__debug__":Str))=M) Za2._auto_1)(he:autoParam (starEach (e::es) X.env=(M,eval e X.env)::starEach es X.env) Za1._auto_1)(xm:autoParam ((backTo pos (starEach es X.env)).any (·.1)=M) Za1._auto_1):
  PEd X (.Call (.Name x p) (e::es) [] pos) (ak sp r):=by
 refine(Kq F hr hg hm hk hb .nil hx ha yw he xm).aG ?_;rintro Z H Q ⟨H0,eC,env,rv,E,e,k⟩;obtain⟨rs,yl,e⟩:=eh e;obtain⟨d,hd,rfl⟩:=Gaa.mp e;refine⟨H0,eC,env,rs,E,yl,λvs H1 s1 Rs=> ⟨rs.map (·.d),d,by rw[Gae];exact hl env rs yl, ?_,hd,λv H2 s2 R2=>k v H2 (s1.trans s2) ((R2.rv (E.mono s1)).from s1)⟩⟩;rw[Gbh];exact EZ Rs
def CallD(X:Cx)(o:SpV)(r:List V->Hp->VK->Prop):Prop:=∀(F:ZG->Prop) (H:Hp) (ds:List D) (vs:List V) (rv:RV) (Q:VK),Paired (Inn X.K F H) ds vs->o ds=U rv->(∀v H',c9 H H' ->RvN X.K F H H' rv v->Q v H')->r vs H Q
def qM{K:ai}{rs:List RV}(p:Paired (iV K H0 eC env Z H H') rs vs):Paired (Inn K (Cln eC env Z) H') (rs.map (·.d)) vs:=by
 induction p with
 |nil=>exact .nil
 |cons h t ih=>exact .cons h.inn ih
def qN{e:ZJ}{pos:Pos}{id:String}{o:SpV}{r:List V->Hp->VK->Prop}{x:Str}{p:Pos}{es:List ZJ}(hc:i0 X (.builtin id) r)(hd:CallD X o r)(hg:Gl X x)(hm:X.mg x=J)(hv:bootBuiltins x=U (.builtin id))(ha:PAd X (e::es) ra)
  (hn:autoParam (x≠"__name__") Za2._auto_1)(yw:autoParam ((x==("__debug__":Str))=M) Za2._auto_1)(he:autoParam (starEach (e::es) X.env=(M,eval e X.env)::starEach es X.env) Za1._auto_1)(xm:autoParam ((backTo pos (starEach es X.env)).any (·.1)=M) Za1._auto_1):
  PEd X (.Call (.Name x p) (e::es) [] pos) (bD o ra):=by
 refine(qq hc hg hm hv ha hn yw he xm).aG ?_;rintro Z H Q ⟨H0,eC,env,rv,E,e,k⟩;obtain⟨rs,yl,e⟩:=eh e;exact⟨H0,eC,env,rs,E,yl,λvs H1 s1 Rs=>hd _ H1 _ vs rv Q (qM Rs) e λv H2 s2 R2=>k v H2 (s1.trans s2) (R2.ok s1)⟩
def A6(hc:i0 X (.type T) r)(hd:CallD X o r)(hg:Gl X x)(hm:X.mg x=J)(hv:bootBuiltins x=U (.type T))(ha:PAd X (e::es) ra)
  (hn:autoParam (x≠"__name__") Za2._auto_1)(yw:autoParam ((x==("__debug__":Str))=M) Za2._auto_1)(he:autoParam (starEach (e::es) X.env=(M,eval e X.env)::starEach es X.env) Za1._auto_1)(xm:autoParam ((backTo pos (starEach es X.env)).any (·.1)=M) Za1._auto_1):
  PEd X (.Call (.Name x p) (e::es) [] pos) (bD o ra):=by
 refine(oe hc hg hm hv ha hn yw he xm).aG ?_;rintro Z H Q ⟨H0,eC,env,rv,E,e,k⟩;obtain⟨rs,yl,e⟩:=eh e;exact⟨H0,eC,env,rs,E,yl,λvs H1 s1 Rs=>hd _ H1 _ vs rv Q (qM Rs) e λv H2 s2 R2=>k v H2 (s1.trans s2) (R2.ok s1)⟩
def iZ{R:D->V->Prop}{d:D}{vs:List V}(h:Paired R [d] vs):∃v,vs=[v]/\R d v:=by
 cases h with
 |cons h t=>cases t;exact⟨_,rfl,h⟩
def KY{R:D->V->Prop}{d d2:D}{vs:List V}(h:Paired R [d,d2] vs):∃v w,vs=[v,w]/\R d v/\R d2 w:=by
 cases h with
 |cons h t=>cases t with
  |cons h2 t=>cases t;exact⟨_,_,rfl,h,h2⟩
def F4:CallD X cO (λxs H Q=>∃x n,xs=[x]/\Rh X.K x H n/\Q (.int n) H):=by
 intro F H ds vs rv Q ps e k;rcases ds with _| ⟨d,_| ⟨_,_⟩⟩
 .exact nn e rfl
 .obtain⟨v,rfl,i⟩:=iZ ps;cases d<;>try exact nn e rfl
  case lst=>cases e;cases i with
   |lst h r=>exact⟨_,_,rfl,.inl ⟨_,.inl h,r.1⟩,k _ H bF (.int _)⟩
  case tup=>cases e;cases i with
   |tup h r=>exact⟨_,_,rfl,.inr ⟨_,SqT.of h,r.1⟩,k _ H bF (.int _)⟩
  case str x=>
   by_cases q:x.length<=af
   .cases(Gao q).symm.trans e;cases i
    exact⟨_,_,rfl,⟨by rw[<-eU];exact q,rfl⟩,k _ H bF (.int _)⟩
   .exact nn e (Gai q)
  case scr=>cases e;cases i with
   |scr h=>exact⟨_,_,rfl,.inl ⟨_,h.sq,by simp⟩,k _ H bF (.int _)⟩
  case fl=>cases e;cases i with
   |fl h r=>exact⟨_,_,rfl,.inl ⟨_,.inl (.inr ⟨_,h⟩),r.1⟩,k _ H bF (.int _)⟩
 .cases d<;>exact nn e rfl
def BF:CallD X uf (λxs H Q=>∃i j,xs=[.int i,.int j]/\Q (.int (if j<i then j else i)) H):=by
 intro F H ds vs rv Q ps e k;unfold uf at e;split at e
 .cases e;obtain⟨v,w,rfl,i1,i2⟩:=KY ps;cases i1;cases i2
  exact⟨_,_,rfl,k _ H bF (.int _)⟩
 .cases e
def A7:CallD X dz (λxs H Q=>∃p ys,xs=[.ref p]/\((SqL X.K H p ys/\∀l,H l=J->Q (.ref l) (upd H l (.tup ys)))\/(SqT X.K H p ys/\Q (.ref p) H))):=by
 intro F H ds vs rv Q ps e k;unfold dz at e;split at e
 .cases e;obtain⟨v,rfl,i⟩:=iZ ps;cases i with
  |lst h r=>
   refine⟨_,_,rfl,.inl ⟨.inl h,λl n=> ?_⟩⟩;exact k _ _ (aW n) (fq n r)
 .cases e;obtain⟨v,rfl,i⟩:=iZ ps;cases i with
  |tup h r=>exact⟨_,_,rfl,.inr ⟨SqT.of h,k _ H bF (.tup h r.1 r.2)⟩⟩
 .cases e
end
section
def eG{α:Type}{l:List α}{i j:Nat}{x y:α}(e:(l.set i x)[j]? =U y):(i=j/\y=x)\/(i≠j/\l[j]? =U y):=by
 by_cases h:i=j
 .subst h;have hi:i<l.length:=by have:=(Gak.mp e).1;simpa using this
  simp_all
 .rw[Gam h] at e;exact .inr ⟨h,e⟩
def set_same{α:Type}{l:List α}{i:Nat}{x:α}(e:l[i]? =U x):l.set i x=l:=by
 apply GcJ;intro j;by_cases h:i=j
 .subst h;rw[Gbs (Gak.mp e).1,e]
 .simp_all
def cM{α:Type}{l:List α}{i:Nat}{x:α}(h:i<l.length):(l.set i x)[i]? =U x:=Gbs h
variable{env:Env}
def ie(h:b5 (env.set i (U (.sh d)))[j]?):i≠j/\b5 env[j]? :=by
 by_cases q:i=j
 .subst q;by_cases z:i<env.length
  .rw[cM z] at h;exact h.elim
  .rw[GbD (by simpa using Nat.le_of_not_lt z)] at h;exact h.elim
 .rw[Gam q] at h;exact⟨q,h⟩
def av.lO{K:ai}{Z:St}(E:av K H0 eC env Z H)(r:Rep K (Cln eC env Z) H d v):av K H0 eC (env.set i (U (.sh d))) (Z.set i (U v)) H:=by
 have xf:∀b,Cln eC env Z b->Cln eC (env.set i (U (.sh d))) (Z.set i (U v)) b:=λb ⟨h1,h2⟩=> ⟨h1,λj t e=>by
  obtain⟨q,t⟩:=ie t;rw[Gam q] at e;exact h2 j t e⟩
 refine⟨E.same,by simp[E.len],E.bad,λj dj e=> ?_,λj dj e=> ?_,λj dj e=> ?_,λj k b t1 t2 e1 e2=> ?_⟩
 .rcases eG e with⟨q,e⟩| ⟨q,e⟩
  .cases e;subst q;have hi:i<env.length:=by have:=(Gak.mp e);simpa using this.1
   exact⟨v,cM (by rw[<-E.len];exact hi),r.imp xf⟩
  .obtain⟨w,h1,h2⟩:=E.sh j dj e;exact⟨w,by rw[Gam q];exact h1,h2.imp xf⟩
 .have e' :i≠j/\(env[j]? =U (U (.own dj))\/env[j]? =U (U (.lok dj))):=by
   rcases e with e|e
   .rcases eG e with⟨q,e⟩| ⟨q,e⟩
    .cases e
    .exact⟨q,.inl e⟩
   .rcases eG e with⟨q,e⟩| ⟨q,e⟩
    .cases e
    .exact⟨q,.inr e⟩
  obtain⟨b,h1,h2,h3,h4,h5,h6⟩:=E.ow j dj e'.2;exact⟨b,by rw[Gam e'.1];exact h1,h2,h3,h4,h5,h6.imp xf⟩
 .rcases eG e with⟨q,e⟩| ⟨q,e⟩
  .cases e
  .obtain⟨b,h1,hw,h2,h3⟩:=E.bo j dj e;exact⟨b,by rw[Gam q];exact h1,hw,h2,h3.imp xf⟩
 .obtain⟨q1,yW⟩:=ie t1.top;obtain⟨q2,t2⟩:=ie t2;rw[Gam q1] at e1 t1;rw[Gam q2] at e2;exact E.dj j k b t1 t2 e1 e2
def Stp.lO{Z:St}:Stp env Z H (env.set i (U (.sh d))) (Z.set i (U v)) H:=⟨λ_ _ e _=>e,λb ⟨j,h,e⟩=>by
 have h' :=h.ol.top;obtain⟨q,_⟩:=ie h';rw[Gam q] at h e;exact .inl ⟨j,h,e⟩,λj h=>by
 obtain⟨q,_⟩:=ie h.top;rw[Gam q,Gam q];exact⟨rfl,rfl⟩⟩
def j3(h:b5 (env.set i (U (.own d)))[j]?)(hi:i<env.length):i=j\/(i≠j/\b5 env[j]?):=by
 by_cases q:i=j
 .exact .inl q
 .rw[Gam q] at h;exact .inr ⟨q,h⟩
def av.HB{K:ai}{H0 H H' :Hp}{eC:ZG->Prop}{Z:St}{d:D}(E:av K H0 eC env Z H)(hi:i<env.length)(n0:H0 a=J)(nb:¬eC a)(w:Wr H' a)(t:d.top=O)(s:c9 H0 H')(bd:∀b,eC b->H' b≠J)
  (ne:∀j b,j≠i->b5 env[j]? ->Z[j]? =U (U (.ref b))->b≠a/\H' b=H b)
  (inn:Inn K (Cln eC (env.set i (U (.own d))) (Z.set i (U (.ref a)))) H' d (.ref a))
  (xf:∀b,Cln eC env Z b->H b≠J->Cln eC (env.set i (U (.own d))) (Z.set i (U (.ref a))) b)
  (dM:i9 (Cln eC env Z) H H'):
  av K H0 eC (env.set i (U (.own d))) (Z.set i (U (.ref a))) H' :=by
 have keep:∀{j:Nat} {b:ZG} {dj:D},j≠i->b5 env[j]? ->Z[j]? =U (U (.ref b))->Inn K (Cln eC env Z) H dj (.ref b)->Inn K (Cln eC (env.set i (U (.own d))) (Z.set i (U (.ref a)))) H' dj (.ref b):=λ{j b dj} hj tj ej h=>
  h.gen dM xf λb' eb _ o e=>by cases eb;rw[(ne j b hj tj ej).2];exact e
 refine⟨s,by simp[E.len],bd,λj dj e=> ?_,λj dj e=> ?_,λj dj e=> ?_,λj k b t1 t2 e1 e2=> ?_⟩
 .rcases eG e with⟨q,e⟩| ⟨q,e⟩
  .cases e
  .obtain⟨u,h1,h2⟩:=E.sh j dj e;exact⟨u,by rw[Gam q];exact h1,h2.gen dM xf⟩
 .have e' :(i=j/\dj=d)\/(i≠j/\(env[j]? =U (U (.own dj))\/env[j]? =U (U (.lok dj)))):=by
   rcases e with e|e
   .rcases eG e with⟨q,e⟩| ⟨q,e⟩
    .cases e;exact .inl ⟨q,rfl⟩
    .exact .inr ⟨q,.inl e⟩
   .rcases eG e with⟨q,e⟩| ⟨q,e⟩
    .cases e
    .exact .inr ⟨q,.inr e⟩
  rcases e' with⟨q,rfl⟩| ⟨q,e'⟩
  .subst q;exact⟨a,cM (by rw[<-E.len];exact hi),n0,nb,w,t,inn⟩
  .obtain⟨b,h1,h2,h3,h4,h5,h6⟩:=E.ow j dj e';have tj:b5 env[j]? :=by rcases e' with e' |e' <;>rw[e']<;>trivial
   refine⟨b,by rw[Gam q];exact h1,h2,h3, ?_,h5,keep (Ne.symm q) tj h1 h6⟩;unfold Wr;rw[(ne j b (Ne.symm q) tj h1).2];exact h4
 .rcases eG e with⟨q,e⟩| ⟨q,e⟩
  .cases e
  .obtain⟨b,h1,hw,h2,h3⟩:=E.bo j dj e;have tj:b5 env[j]? :=by rw[e];trivial
   refine⟨b,by rw[Gam q];exact h1, ?_,h2,keep (Ne.symm q) tj h1 h3⟩;unfold Wr;rw[(ne j b (Ne.symm q) tj h1).2];exact hw
 .rcases j3 t1.top hi with q1| ⟨q1,yW⟩
  .rcases j3 t2 hi with q2| ⟨q2,WH⟩
   .rw[<-q1,<-q2]
   .subst q1;rw[cM (by rw[<-E.len];exact hi)] at e1;cases e1;rw[Gam q2] at e2;exact absurd rfl (ne k a (Ne.symm q2) WH e2).1
  .rcases j3 t2 hi with q2| ⟨q2,WH⟩
   .subst q2;rw[cM (by rw[<-E.len];exact hi)] at e2;cases e2;rw[Gam q1] at e1;exact absurd rfl (ne j a (Ne.symm q1) yW e1).1
   .rw[Gam q1] at e1 t1;rw[Gam q2] at e2;exact E.dj j k b t1 WH e1 e2
def A8{Z:St}(hi:i<env.length)(hs:env.length=Z.length)(h:Cln eC env Z b)(hb:b≠a):Cln eC (env.set i (U (.own d))) (Z.set i (U (.ref a))) b:=⟨h.1,λj t e=>by
 rcases j3 t hi with q| ⟨q,t⟩
 .simp_all
 .rw[Gam q] at e;exact h.2 j t e⟩
def av.qO{K:ai}{H:Hp}{Z:St}{d:D}(E:av K H0 eC env Z H)(s:c9 H H')(hi:i<env.length)(n:H a=J)(w:Wr H' a)(t:d.top=O)(YQ:Inn K (λb=>Cln eC env Z b/\b≠a) H' d (.ref a)):
  av K H0 eC (env.set i (U (.own d))) (Z.set i (U (.ref a))) H' :=by
 have xf:∀b,Cln eC env Z b->b≠a->Cln eC (env.set i (U (.own d))) (Z.set i (U (.ref a))) b:=λb h hb=>A8 hi E.len h hb;have cln' :∀b,Cln eC env Z b->H b≠J->Cln eC (env.set i (U (.own d))) (Z.set i (U (.ref a))) b:=λb h hb=>xf b h λz=>hb (z▸n);refine E.HB hi (E.same.free n) (λb=>E.bad a b n) w t (E.same.trans s) (λb h e=>E.bad b h (s.free e)) (λj b hj tj ej=> ?_) (YQ.imp λb h=>xf b h.1 h.2) cln' (.ZC s);have hb:=E.nq tj ej;refine⟨λz=>hb (z▸n), ?_⟩;cases q:H b with
 |none=>exact absurd q hb
 |some o=>exact s b o q
def Stp.qO{Z:St}(s:c9 H H')(hi:i<env.length)(hs:env.length=Z.length)(n:H a=J):Stp env Z H (env.set i (U (.own d))) (Z.set i (U (.ref a))) H' :=⟨λb o e _=>s b o e,λb ⟨j,h,e⟩=>by
 by_cases q:i=j
 .simp_all
 .rw[Gam q] at h e;exact .inl ⟨j,h,e⟩,λj h=>by
 by_cases q:i=j
 .subst q;rw[cM hi] at h;exact h.elim
 .rw[Gam q,Gam q];exact⟨rfl,rfl⟩⟩
def av.change{K:ai}{i:Nat}{d' :D}(E:av K H0 eC env Z H)(e:env[i]? =U (U (.own d)))(ea:Z[i]? =U (U (.ref a)))(wo:isW o)(t:d'.top=O)
  (inn:Inn K (Cln eC env Z) (upd H a o) d' (.ref a)):av K H0 eC (env.set i (U (.own d'))) Z (upd H a o)/\Stp env Z H (env.set i (U (.own d'))) Z (upd H a o):=by
 have hi:=(Gak.mp e).1;obtain⟨a',h1,h2,h3,h4,h5,h6⟩:=E.ow i d (.inl e);rw[ea] at h1;cases h1;have hZ:=set_same ea;have hX:∀j,b5 (env.set i (U (.own d')))[j]? ↔b5 env[j]? :=λj=>by
  by_cases q:i=j
  .subst q;rw[cM hi,e];exact⟨λ_=>trivial,λ_=>trivial⟩
  .simp_all
 have clnE:∀b,Cln eC env Z b->Cln eC (env.set i (U (.own d'))) Z b:=λb h=> ⟨h.1,λj tj ej=>h.2 j ((hX j).mp tj) ej⟩;have ca:∀b,Cln eC env Z b->b≠a:=λb h z=>by subst z;exact h.2 i (by rw[e];trivial) ea
 have dM:i9 (Cln eC env Z) H (upd H a o):=λb x hb q=>by
  have:b≠a:=by
   rintro rfl;rcases q with q|q
   .exact ca b q rfl
   .obtain⟨y,hy,wy⟩:=h4;rw[hb] at hy;cases hy;cases x<;>simp[isT] at q<;>exact wy
  rw[ao this];exact hb
 have keepA:∀b x,H b=U x->b≠a->(upd H a o) b=U x:=λb x hb hn=>by rw[ao hn];exact hb
 refine⟨?_,⟨λb x hb n=>keepA b x hb λz=>n ⟨i,by rw[e];trivial,by rw[z];exact ea⟩,λb ⟨j,h,ej⟩=> .inl ?_,λj h=> ?_⟩⟩
 .have:=E.HB hi h2 h3 ⟨o,aD,wo⟩ t (λb x hb=>keepA b x (E.same b x hb) λz=>by rw[z,h2] at hb;cases hb)
   (λb hb z=>by
    by_cases q:b=a
    .lia
    .rw[ao q] at z;exact E.bad b hb z)
   (λj b hj tj ej=>by
    have:b≠a:=by rintro rfl;exact hj (E.dj i j b (by rw[e];trivial) tj ea ej).symm
    exact⟨this,by rw[ao this]⟩)
   (by rw[hZ];exact inn.imp clnE) (λb h _=>by rw[hZ];exact clnE b h) dM
  rw[hZ] at this;exact this
 .by_cases q:i=j
  .subst q;exact⟨i,by rw[e];trivial,ej⟩
  .rw[Gam q] at h;exact⟨j,h,ej⟩
 .by_cases q:i=j
  .subst q;rw[cM hi] at h;exact h.elim
  .rw[Gam q];exact⟨rfl,rfl⟩
end
section
variable{X:Cx}{b:ZJ}
def Oy:lD X [] ni:=by
 refine Kf.aG ?_;rintro D Z H ⟨H0,eC,env,o,E,e,k⟩;cases e;exact k Z H E .refl
variable{st:ZP}
def KZ{rest:List ZP}(h1:PSd X st s1)(h2:lD X rest s2):lD X (st::rest) (ah s1 s2):=by
 refine(mX h1 h2).aG ?_;rintro D Z H ⟨H0,eC,env,o,E,e,k⟩;obtain⟨o1,h1,e⟩:=eh e;refine⟨H0,eC,env,o1,E,h1, ?_⟩;cases o1 with
 |nx e1=>
  intro Z1 H1 E1 p1;refine⟨H0,eC,e1,o,E1,e, ?_⟩;cases o with
  |nx e2=>exactλZ2 H2 E2 p2=>k Z2 H2 E2 (p1.trans p2)
  |bk e2=>exactλZ2 H2 E2 p2=>k Z2 H2 E2 (p1.trans p2)
  |ct e2=>exactλZ2 H2 E2 p2=>k Z2 H2 E2 (p1.trans p2)
  |ret d=>exact k
 |bk e1=>cases e;exact k
 |ct e1=>cases e;exact k
 |ret d=>cases e;exact k
def Oz(h1:PSd X st s1):lD X [st] s1:=vk h1
def HC:PSd X (.Break pos) bkS:=by
 refine GK.aG ?_;rintro D Z H ⟨H0,eC,env,o,E,e,k⟩;cases e;exact k Z H E .refl
variable{d:D}
def L0{K:ai}(i:Inn K F H' d v)(hd:d.imm=O):ui K H0 H' d v:=by
 refine⟨λt=> ?_,(i.imm hd).inn⟩;cases d<;>simp[D.top] at t<;>simp at hd
def UC{K:ai}{eD:List (Y×D)}(r:aZ K F H eD ws)(h:aA (eD.map (·.2))=O):aZ K F' H eD ws:=
 ⟨r.1,λi p q e1 e2=>(r.2 i p q e1 e2).imm (nj h i p.2 (by rw[Gap,e1];rfl))⟩
def D4{K:ai}{H0:Hp}(i:Inn K F H' d (.ref a))(hd:d.qI=O)(n:H0 a=J)(w:Wr H' a):ui K H0 H' d (.ref a):=by
 refine⟨λ_=> ⟨a,rfl,n,w⟩, ?_⟩;cases i with
 |tup h r=>exact(Inn.imm (.tup h r) (by exact hd)).inn
 |scr h=>exact .scr h
 |fl h r=>exact(Inn.imm (.fl h r) (by exact hd)).inn
 |lst h r=>exact .lst h (r.imm hd)
 |dT h r=>exact .dT h (UC r hd)
def OC(he:PEd X e f):PSd X (.Return (U e) pos) (Zv f):=by
 refine(GL he).aG ?_;rintro D Z H ⟨H0,eC,env,o,E,e,k⟩;obtain⟨r,hr,e⟩:=eh e;split at e
 .rename_i ok;cases e;refine⟨H0,eC,env,r,E,hr,λv H1 s1 R=>k v H1 (E.same.trans s1) ?_⟩;obtain⟨kd,d⟩:=r;cases kd with
  |c=>exact L0 R.inn ok
  |tn=>
   have ii:=R.inn;obtain⟨a,rfl,n,w,t,i⟩:=R;exact D4 ii ok (E.same.free n) w
  |to=>
   have ii:=R.inn;obtain⟨a,rfl,n,w,t,i⟩:=R;exact D4 ii ok n w
  |tb=>exact absurd (show M=O from ok) GaB
 .cases e
def Sd(hc:PTd X c t)(ha:lD X xs s1)(hb:lD X ys s2):PSd X (.If c xs ys pos) (ifS t s1 s2):=by
 refine(QY hc ha hb).aG ?_;rintro D Z H ⟨H0,eC,env,o,E,e,k⟩;obtain⟨x,hx,e⟩:=eh e;refine⟨H0,eC,env,x,E,hx,λH1 s1=> ?_⟩;have st:Stp env Z H env Z H1:= .ZC s1;have fin:∀{s:DS},s env=U o->tS X s D Z H1:=λ{s} e=> ⟨H0,eC,env,o,E.mono s1,e,by
  cases o with
  |nx e2=>exactλZ2 H2 E2 p2=>k Z2 H2 E2 (st.trans p2)
  |bk e2=>exactλZ2 H2 E2 p2=>k Z2 H2 E2 (st.trans p2)
  |ct e2=>exactλZ2 H2 E2 p2=>k Z2 H2 E2 (st.trans p2)
  |ret d=>exact k⟩
 dsimp only;cases x with
 |true=>rw[Gao rfl];rw[Gao rfl] at e;exact fin e
 |false=>rw[Gai GaB];rw[Gai GaB] at e;exact fin e
def BG{X:Cx}{env:Env}{Z:St}(E:av X.K H0 eC env Z H)(hl:Z.length=X.N.length)(hi:X.N[i]? =U x):i<env.length:=by
 rw[E.len,hl];exact(Gak.mp hi).1
def HE{pos:Pos}(hN:X.N.Nodup)(hi:X.N[i]? =U x)(hx:Loc X.env.scope x)(he:PEd X e f)(hs:autoParam (swapsWith e (U (.Name x pos')) pos.line X.env=pure M) Za1._auto_1)
  (hf:autoParam (X.fn x=O\/X.env.scope.names.lookup x=U .local) Za3._auto_1):PSd X (.Assign [.Name x pos'] e pos) (aq i f):=by
 intro e8 s Z H D I hw;have hl:=I.len;refine(Br hN hi hx he hs hf) e8 s Z H D I ?_;obtain⟨H0,eC,env,o,E,e,k⟩:=hw;obtain⟨r,hr,e⟩:=eh e;obtain⟨e',ya,rfl⟩:=Gaa.mp e;have hie:=BG E hl hi;refine⟨H0,eC,env,r,E,hr,λv H1 s1 R=> ?_⟩;have st:Stp env Z H env Z H1:= .ZC s1;obtain⟨kd,d⟩:=r;cases kd with
 |c=>
  cases ya;exact k _ H1 ((E.mono s1).lO R) (st.trans .lO)
 |tn=>
  cases ya;obtain⟨a,rfl,n,w,t,i⟩:=R;exact k _ H1 (E.qO s1 hie n w t i) (.qO s1 hie E.len n)
 |to=>cases ya
 |tb=>cases ya
def BH(K:ai)(F N:ZG->Prop)(Zp:It)(ds:List D)(H1:Hp):Prop:=
 ∀Hi:Hp,(∀b o,H1 b=U o->N b->Hi b=U o)->(∀(i:Nat) d,ds[i]? =U d->Zp.go i Hi/\∀x H2,Zp.yld i Hi x H2->c9 Hi H2/\Rep K F H2 d x)/\Zp.stop ds.length Hi
def tI(X:Cx)(src:DI):TI:=λZ H R=>∃H0 eC env ds,av X.K H0 eC env Z H/\src env=U ds/\∀Zp H',c9 H H' ->BH X.K (λb=>Cln eC env Z b/\H' b≠J) (λb=>¬Ow env Z b) Zp ds H' ->R Zp H'
abbrev PId(X:Cx)(tg iter:ZJ)(src:DI):Prop:=PI X tg iter (tI X src)
def _root_.L2.PI.aG(h:PI X tg iter w')(i:∀Z H R,w Z H R->w' Z H R):PI X tg iter w:=λe8 s Z H R I q=>h e8 s Z H R I (i Z H R q)
def av.lock{K:ai}(E:av K H0 eC env Z H)(l:Option Nat):av K H0 eC (bc l env) Z H/\(∀b,Ow (bc l env) Z b->Ow env Z b)/\∀i:Nat,b5 (bc l env)[i]? ↔b5 env[i]? :=by
 cases l with
 |none=>exact⟨E,λ_ h=>h,λ_=>Iff.rfl⟩
 |some j=>
  unfold bc;dsimp only;split
  .rename_i d q;have hj:j<env.length:=(Gak.mp q).1;have hX:∀i,b5 (env.set j (U (.lok d)))[i]? ↔b5 env[i]? :=λi=>by
    by_cases z:j=i
    .subst z;rw[cM hj,q];exact⟨λ_=>trivial,λ_=>trivial⟩
    .rw[Gam z]
   have xf:∀b,Cln eC env Z b->Cln eC (env.set j (U (.lok d))) Z b:=λb h=> ⟨h.1,λi t e=>h.2 i ((hX i).mp t) e⟩;refine⟨⟨E.same,by simpa using E.len,E.bad,λi di e=> ?_,λi di e=> ?_,λi di e=> ?_,λi k b t1 t2 e1 e2=> ?_⟩,λb ⟨i,h,e⟩=> ?_,hX⟩
   .rcases eG e with⟨z,e⟩| ⟨z,e⟩
    .cases e
    .obtain⟨v,h1,h2⟩:=E.sh i di e;exact⟨v,h1,h2.imp xf⟩
   .have e' :env[i]? =U (U (.own di))\/env[i]? =U (U (.lok di)):=by
     rcases e with e|e
     .rcases eG e with⟨z,e⟩| ⟨z,e⟩
      .cases e
      .exact .inl e
     .rcases eG e with⟨z,e⟩| ⟨z,e⟩
      .cases e;subst z;exact .inl q
      .exact .inr e
    obtain⟨b,h1,h2,h3,h4,h5,h6⟩:=E.ow i di e';exact⟨b,h1,h2,h3,h4,h5,h6.imp xf⟩
   .rcases eG e with⟨z,e⟩| ⟨z,e⟩
    .cases e
    .obtain⟨b,h1,hw,h2,h3⟩:=E.bo i di e;exact⟨b,h1,hw,h2,h3.imp xf⟩
   .have yW :A2 env[i]? :=by
     by_cases z:j=i
     .subst z;rw[q];trivial
     .rw[Gam z] at t1;exact t1
    exact E.dj i k b yW ((hX k).mp t2) e1 e2
   .by_cases z:j=i
    .subst z;rw[cM hj] at h;exact h.elim
    .rw[Gam z] at h;exact⟨i,h,e⟩
  .exact⟨E,λ_ h=>h,λ_=>Iff.rfl⟩
def av.free{K:ai}(E:av K H0 eC env Z H)(l:Option Nat):av K H0 eC (jh l env) Z H:=by
 cases l with
 |none=>exact E
 |some j=>
  unfold jh;dsimp only;split
  .rename_i d q;have hj:=(Gak.mp q).1;have hX:∀i,b5 (env.set j (U (.own d)))[i]? ↔b5 env[i]? :=λi=>by
    by_cases z:j=i
    .subst z;rw[cM hj,q];exact⟨λ_=>trivial,λ_=>trivial⟩
    .simp_all
   have xf:∀b,Cln eC env Z b->Cln eC (env.set j (U (.own d))) Z b:=λb h=> ⟨h.1,λi t e=>h.2 i ((hX i).mp t) e⟩;refine⟨E.same,by simpa using E.len,E.bad,λi di e=> ?_,λi di e=> ?_,λi di e=> ?_,λi k b t1 t2 e1 e2=> ?_⟩
   .rcases eG e with⟨z,e⟩| ⟨z,e⟩
    .cases e
    .obtain⟨v,h1,h2⟩:=E.sh i di e;exact⟨v,h1,h2.imp xf⟩
   .have e' :env[i]? =U (U (.own di))\/env[i]? =U (U (.lok di)):=by
     rcases e with e|e
     .rcases eG e with⟨z,e⟩| ⟨z,e⟩
      .cases e;subst z;exact .inr q
      .exact .inl e
     .rcases eG e with⟨z,e⟩| ⟨z,e⟩
      .cases e
      .exact .inr e
    obtain⟨b,h1,h2,h3,h4,h5,h6⟩:=E.ow i di e';exact⟨b,h1,h2,h3,h4,h5,h6.imp xf⟩
   .rcases eG e with⟨z,e⟩| ⟨z,e⟩
    .cases e
    .obtain⟨b,h1,hw,h2,h3⟩:=E.bo i di e;exact⟨b,h1,hw,h2,h3.imp xf⟩
   .have yW :A2 env[i]? :=by
     by_cases z:j=i
     .subst z;rw[q]
      trivial
     .simp_all
    exact E.dj i k b yW ((hX k).mp t2) e1 e2
  .exact E
end
section
variable{X:Cx}{a b:ZJ}
def A9(h:∀j,l=U j->j≠i):(bc l env)[i]? =env[i]? :=by
 unfold bc;split
 .rfl
 .rename_i j;split
  .simp_all
  .rfl
def Stp.loop(p:Stp (bc l env) Z H xB ZN HN)(lo:∀b,Ow (bc l env) Z b->Ow env Z b):Stp env Z H (if pg l env then jh l xB else xB) ZN HN:=by
 have same:pg l env=M->bc l env=env:=λh=>by
  unfold pg at h;unfold bc;split at h
  .rfl
  .split at h
   .cases h
   .rfl
 cases ho:pg l env with
 |false=>
  simp_all
 |true=>
  rw[Gao rfl];unfold pg at ho;split at ho
  .cases ho
  .rename_i j;split at ho
   .rename_i d q;have hj:=(Gak.mp q).1;have lockj:(bc (U j) env)[j]? =U (U (.lok d)):=by unfold bc;simp only[q];exact cM hj
    have other:∀i,j≠i->(bc (U j) env)[i]? =env[i]? :=λi hi=>A9 λk e=>by cases e;exact hi
    refine⟨λb o e n=>p.keep b o e λz=>n (lo b z),λb ⟨i,h,e⟩=> ?_,λi h=> ?_⟩
    .by_cases z:j=i
     .subst z;unfold jh at h;dsimp only at h;split at h
      .rename_i d' q';obtain⟨h1,h2⟩:=p.lk j (by rw[q'];trivial);rw[h2] at e;exact .inl ⟨j,by rw[q];trivial,e⟩
      .rcases p.ow b ⟨j,h,e⟩ with w|w
       .exact .inl (lo b w)
       .exact .inr w
     .have h' :isO xB[i]? :=by
       unfold jh at h;dsimp only at h;split at h
       .rw[Gam z] at h;exact h
       .exact h
      rcases p.ow b ⟨i,h',e⟩ with w|w
      .exact .inl (lo b w)
      .exact .inr w
    .by_cases z:j=i
     .subst z;unfold jh at h⊢;dsimp only at h⊢;split at h
      .rename_i d' q';have hj' :=(Gak.mp q').1;rw[cM hj'] at h;exact h.elim
      .rename_i q';obtain⟨h1,_⟩:=p.lk j h;rw[lockj] at h1;exact absurd h1 (q' d)
     .have hN:(jh (U j) xB)[i]? =xB[i]? :=by
       unfold jh;dsimp only;split
       .rw[Gam z]
       .rfl
      rw[hN] at h⊢;obtain⟨h1,h2⟩:=p.lk i h;rw[other i z] at h1;exact⟨h1,h2⟩
   .cases ho
def uo{b:ZG}(p:Stp env Z H eQ Z' H')(h:Cln eC env Z b)(hb:H b≠J):Cln eC eQ Z' b:=⟨h.1,λi t e=>by
 rcases uh t with o|o
 .rcases p.ow b ⟨i,o,e⟩ with⟨j,w,ej⟩|w
  .exact h.2 j w.ol.top ej
  .exact hb w
 .obtain⟨h1,h2⟩:=p.lk i o;rw[h1] at t;rw[h2] at e;exact h.2 i t e⟩
def OE(hp:PassesOwn (model X.prog X.w) X.A X.env X.xe)(hc:X.calm=O)(hi:PId X tg iter src)(hg:PGd X tg gd)(hb:lD X body sb)
  (hs:∀x,foldedSetIterable iter X.env x=pure x:=by intro _;rfl):PSd X (.For tg iter body [] pos) (cX l src gd sb):=by
 refine(GQ hp hc hi hg hb hs).aG ?_;rintro D Z H ⟨H0,eC,env,o,E,e,k⟩;obtain⟨ds,xu,e⟩:=eh e;obtain⟨o1,X9,rfl⟩:=Gaa.mp e;obtain⟨EL,lo,_⟩:=E.lock l;refine⟨H0,eC,bc l env,ds,EL,xu,λZp H1 sH it=> ?_⟩;have E1:=EL.mono sH;have st1:Stp env Z H env Z H1:= .ZC sH;have nxOk:∀xB ZN HN,o1= .nx xB->av X.K H0 eC xB ZN HN->Stp (bc l env) Z H1 xB ZN HN->D.nx ZN HN:=λxB ZN HN eo EN pN=>by
  subst eo;refine k ZN HN ?_ (st1.trans (pN.loop lo));split
  .exact EN.free l
  .exact EN
 refine⟨λi m Z' H' =>m=ds.length -i/\i<=ds.length/\∃eK,av X.K H0 eC eK Z' H' /\Stp (bc l env) Z H1 eK Z' H' /\Zw gd sb (ds.drop i) eK=U o1,
  ⟨ds.length,by simp,Gba _,_,E1,.refl,by simpa using X9⟩, ?_⟩
 rintro i m Z' H' ⟨rfl,hle,eK,Ei,pi,ei⟩;obtain⟨items,stop⟩:=it H' λb o hb n=>pi.keep b o hb n;by_cases eY:i<ds.length
 .obtain⟨go,yld⟩:=items i ds[i] (by simp);refine .inr ⟨go,λZ2 H2=>(ds.length -(i+1))=ds.length -(i+1)/\i+1<=ds.length/\∃eK,av X.K H0 eC eK Z2 H2/\Stp (bc l env) Z H1 eK Z2 H2/\Zw gd sb (ds.drop (i+1)) eK=U o1,λZ2 H2 q=> ⟨_,by lia,q⟩,λx H2 y=> ?_⟩;obtain⟨s2,rep⟩:=yld x H2 y;have hd:=GbN eY;rw[hd] at ei;obtain⟨e2,yB,ei⟩:=eh ei;obtain⟨o2,Xj,ei⟩:=eh ei;refine⟨H0,eC,eK,ds[i],e2,Ei.mono s2,yB,rep.imp λb q=>uo pi q.1 q.2,λZ3 H3 E3 p3=> ?_⟩;have p3' :=(pi.trans (.ZC s2)).trans p3;refine⟨H0,eC,e2,o2,E3,Xj, ?_⟩;cases o2 with
  |nx e4=>exactλZ4 H4 E4 p4=> ⟨rfl,eY,e4,E4,p3'.trans p4,ei⟩
  |ct e4=>exactλZ4 H4 E4 p4=> ⟨rfl,eY,e4,E4,p3'.trans p4,ei⟩
  |bk e4=>
   cases ei
   exactλZ4 H4 E4 p4=>nxOk e4 Z4 H4 rfl E4 (p3'.trans p4)
  |ret d=>
   cases ei;exact k
 .have hi:i=ds.length:=by lia
  subst hi;rw[List.drop_length] at ei;cases ei;exact .inl ⟨stop,nxOk eK Z' H' rfl Ei pi⟩
def HF(hp:PassesOwn (model X.prog X.w) X.A X.env X.xe)(hc:PTd X c t)(hb:lD X body sb):PSd X (.While c body [] pos) (qK t sb):=by
 refine(GO hp hc hb).aG ?_;rintro D Z H ⟨H0,eC,env,o,E,e,k⟩;refine⟨λm Z' H' =>∃eK,av X.K H0 eC eK Z' H' /\Stp env Z H eK Z' H' /\i7 t sb m eK=U o,⟨100000,env,E,.refl,e⟩, ?_⟩;rintro m Z' H' ⟨eK,Ei,pi,ei⟩;cases m with
 |zero=>cases ei
 |succ m=>
  obtain⟨bb,Xi,ei⟩:=eh ei;refine⟨H0,eC,eK,bb,Ei,Xi,λH1 s1=> ?_⟩;have pi1:=pi.trans (.ZC s1);cases bb with
  |true=>
   obtain⟨o2,Xj,ei⟩:=eh ei;refine⟨λZ2 H2=>∃eK,av X.K H0 eC eK Z2 H2/\Stp env Z H eK Z2 H2/\i7 t sb m eK=U o,λZ2 H2 q=> ⟨m,by lia,q⟩,H0,eC,eK,o2,Ei.mono s1,Xj, ?_⟩;cases o2 with
   |nx e4=>exactλZ4 H4 E4 p4=> ⟨e4,E4,pi1.trans p4,ei⟩
   |ct e4=>exactλZ4 H4 E4 p4=> ⟨e4,E4,pi1.trans p4,ei⟩
   |bk e4=>cases ei;exactλZ4 H4 E4 p4=>k Z4 H4 E4 (pi1.trans p4)
   |ret d=>cases ei;exact k
  |false=>
   cases ei;exact k Z' H1 (Ei.mono s1) pi1
def av.fu{K:ai}{H:Hp}{b:ZG}(E:av K H0 eC env Z H)(h:Ow env Z b)(hb:H b=U o):¬isT o:=by
 intro q;obtain⟨i,h1,h2⟩:=h;obtain⟨y,hy,wy⟩:=E.N7 h1.ol.top h2;rw[hb] at hy;cases hy
 cases o<;>simp[isT] at q<;>exact wy
def av.kX{K:ai}{H Hi:Hp}(E:av K H0 eC env Z H)(keep:∀b o,H b=U o->¬Ow env Z b->Hi b=U o)(r:Rep K (Cln eC env Z) H d v):
  Rep K (λb=>Cln eC env Z b/\H b≠J) Hi d v:=
 r.gen (λb o hb q=>keep b o hb (by
  rcases q with q|q
  .exactλ⟨i,h1,h2⟩=>q.2 i h1.ol.top h2
  .exactλw=>E.fu w hb q)) λb q hb=> ⟨q,hb⟩
def UD(K:ai)(tl:TE):TI:=λZ H R=>tl Z H λx H1=>∃a,x= .ref a/\(((∃xs,SqL K H1 a xs)/\R (Itl K a) H1)\/((∃xs,SqT K H1 a xs)/\R (Itt K a) H1))
def HG(hl:PE X l tl):PI X tg l (UD X.K tl):=by
 intro e8 s Z H R I h;refine thn (hl e8 s Z H _ I h) λv s1 ⟨x,H1,I1,r1,q1⟩=> ?_;obtain⟨a,e,q1⟩:=q1;subst e;cases r1;have fp:∀b∈[s1.heap.objs.size],mj X e8 H1 b:=λb hb=>by
  have e:b=s1.heap.objs.size:=by simpa using hb
  subst e;exact I1.EB (Gan _) (I1.hok.fresh (Gan _))
 rcases q1 with⟨⟨xs,hq⟩,q⟩| ⟨⟨xs,hq⟩,q⟩
 .obtain⟨its,rv,p,hz⟩:=I1.list hq;refine wpAny_pyIter_list p.isList ?_;exact⟨s1.heap.objs.size,[s1.heap.objs.size],_,_,H1,rfl,I1.kept λb o e=>Gag _ e,EC a _,⟨_,Gaw _ rfl,rfl,rfl⟩,fp,q⟩
 .obtain⟨its,rv,p,hz⟩:=I1.tuple hq;refine Gdh (show s1.heap.IsTuple a its.toArray from p) ?_;exact⟨s1.heap.objs.size,[s1.heap.objs.size],_,_,H1,rfl,I1.kept λb o e=>Gag _ e,Bs a _,⟨_,Gaw _ rfl,rfl,rfl⟩,fp,q⟩
theorem D5{d:D}(E:av X.K H0 eC env Z H)(ht:d.top=O)(hk:kd≠ .to)(Rv:iV X.K H0 eC env Z H H1 ⟨kd,d⟩ v):∀a,v= .ref a->¬Ow env Z a:=λa ea=>by
 cases kd with
 |c=>
  have Rv' :=Rv;have fin:∀b,Cln eC env Z b->¬Ow env Z b:=λb f ⟨i,h1,h2⟩=>f.2 i h1.ol.top h2;cases Rv' with
  |tup h l r=>simp[D.top] at ht
  |lst f h l r=>cases ea;exact fin _ f
  |dT f h l r=>cases ea;exact fin _ f
  |non=>cases ea
  |bl b=>cases ea
  |int i=>cases ea
  |str x=>cases ea
  |scr h=>simp[D.top] at ht
  |fl _ _=>simp[D.top] at ht
 |tn=>
  obtain⟨a',e',n,_⟩:=Rv;rw[e'] at ea;cases ea
  exactλ⟨i,h1,h2⟩=>E.nq h1.ol.top h2 n
 |to=>exact absurd rfl hk
 |tb=>exact Rv.2 a ea ht
def OF(he:PEd X e f):PId X tg e (cQ f):=by
 refine(HG he).aG ?_;rintro Z H R ⟨H0,eC,env,ds,E,hf,k⟩;obtain⟨⟨kd,d⟩,hr,hf⟩:=eh hf;split at hf
 .cases hf
 rename_i hk;refine⟨H0,eC,env,_,E,hr,λv H1 s1 Rv=> ?_⟩;have ii:=Rv.inn;have E1:=E.mono s1;split at hf
 .rename_i xs hd;cases hf;have xc :=hd;subst xc;have hno:=D5 E rfl hk Rv;cases ii with
  | @lst la lv _ h r=>
   refine⟨_,rfl,.inl ⟨⟨_,.inl h⟩,k _ H1 s1 λHi keep=> ?_⟩⟩;have hh:Rd Hi la (.lst lv):=by
    rcases h with h| ⟨o,h⟩
    .exact .inl (keep _ _ h (hno _ rfl))
    .exact .inr ⟨o,keep _ _ h (hno _ rfl)⟩
   refine⟨λi d hd=> ?_,⟨_,.inl hh,by rw[r.1];exact Gan _⟩⟩;obtain⟨x,h1,h2⟩:=r.get hd;refine⟨⟨_,x,.inl hh,h1⟩,λy H2 ⟨e2,e3⟩=> ?_⟩;subst e2;refine⟨bF, ?_⟩;have:=e3 _ (.inl hh);rw[h1] at this;cases this;exact E1.kX keep h2
 .rename_i xs hd;cases hf;have xc :=hd;subst xc;cases ii with
  | @tup la lv _ h r=>
   refine⟨_,rfl,.inr ⟨⟨_,SqT.of h⟩,k _ H1 s1 λHi keep=> ?_⟩⟩;have hh:=keep _ _ h λw=>E1.fu w h trivial;refine⟨λi d hd=> ?_,⟨_,SqT.of hh,by rw[r.1];exact Gan _⟩⟩;obtain⟨x,h1,h2⟩:=r.get hd;refine⟨⟨_,x,SqT.of hh,h1⟩,λy H2 ⟨e2,e3⟩=> ?_⟩;subst e2;refine⟨bF, ?_⟩;have:=e3 _ (SqT.of hh);rw[h1] at this;cases this;exact E1.kX keep h2
 .rename_i ns hd;cases hf;have xc :=hd;subst xc;cases ii with
  | @scr la _ h=>
   refine⟨_,rfl,.inl ⟨⟨_,h.sq⟩,k _ H1 s1 λHi keep=> ?_⟩⟩;have hh:Scr X.K Hi la ns:=by
    rcases h with⟨o,h⟩|h
    .exact .inl ⟨o,keep _ _ h λw=>E1.fu w h trivial⟩
    .exact .inr h
   refine⟨λi d hd=> ?_,⟨_,hh.sq,by simp⟩⟩;rw[Gap] at hd;cases q:ns[i]? with
   |none=>rw[q] at hd;cases hd
   |some n=>
    rw[q] at hd;cases hd;refine⟨⟨_,.int n,hh.sq,by rw[Gap,q];rfl⟩,λy H2 ⟨e2,e3⟩=> ?_⟩;subst e2;have:=e3 _ hh.sq;rw[Gap,q] at this;cases this;exact⟨bF,.int n⟩
 .cases hf
def km{lo:Int}{n:Nat}{F N:ZG->Prop}:BH X.K F N (Itr lo n) (aC lo n) H1:=λHi _=>by
 refine⟨λi d hd=> ?_,by show n<=(aC lo n).length;simp[aC]⟩;have hi:i<n:=by have:=(Gak.mp hd).1;simpa[aC] using this
 refine⟨hi,λx H2 ⟨e1,e2⟩=> ?_⟩;subst e1 e2;have:d= .int (lo+(i:Int)):=by
  unfold aC at hd;rw[Gap,GdO hi] at hd;cases hd;rfl
 subst this;exact⟨bF,.int _⟩
def fw(h:aS i=O): -(2^62)<=i/\i<2^62:=by
 unfold aS at h;lia
def F5(hg:Gl X "range")(hm:X.mg "range"=J)(he:PEd X e f)(hs:autoParam (starEach [e] X.env=[(M,eval e X.env)]) Za1._auto_1):PId X tg (.Call (.Name "range" p) [e] [] pos) (cA f):=by
 refine(ED hg hm (cL he gF hs) hs).aG ?_;rintro Z H R ⟨H0,eC,env,ds,E,hf,k⟩;obtain⟨r,hr,hf⟩:=eh hf;split at hf
 .rename_i j hd;split at hf
  .rename_i hz;cases hf;refine⟨H0,eC,env,[r],E,by unfold aa aX;rw[hr];rfl,λvs H1 s1 Rs=> ?_⟩;cases Rs with
   |cons R1 t=>
    cases t;have i:=R1.inn;rw[hd] at i;cases i;exact⟨j,rfl,(fw hz).1,(fw hz).2,k _ H1 s1 km⟩
  .cases hf
 .cases hf
def F6(hg:Gl X "range")(hm:X.mg "range"=J)(ha:PEd X a f)(hb:PEd X b g)(hs:autoParam (starEach [a,b] X.env=[(M,eval a X.env),(M,eval b X.env)]) Za1._auto_1)(xd:autoParam (starEach [b] X.env=[(M,eval b X.env)]) Za1._auto_1):
  PId X tg (.Call (.Name "range" p) [a,b] [] pos) (vp f g):=by
 refine(EF hg hm (cL ha (cL hb gF xd) (by rw[hs,xd])) hs xd).aG ?_;rintro Z H R ⟨H0,eC,env,ds,E,hf,k⟩;obtain⟨r,hr,hf⟩:=eh hf;obtain⟨r',ym,hf⟩:=eh hf;split at hf
 .rename_i i j hd xc;split at hf
  .rename_i hz;rw[Gah] at hz;cases hf;refine⟨H0,eC,env,[r,r'],E,by simp only[aa,hr,ym];rfl,λvs H1 s1 Rs=> ?_⟩;cases Rs with
   |cons R1 t=>
    cases t with
    |cons R2 t=>
     cases t;have i1:=R1.inn;rw[hd] at i1;cases i1;have i2:=R2.inn;rw[xc] at i2;cases i2;exact⟨i,j,rfl,⟨(fw hz.1).1,(fw hz.1).2,(fw hz.2).1,(fw hz.2).2⟩,k _ H1 s1 km⟩
  .cases hf
 .cases hf
def D6(hN:X.N.Nodup)(hi:X.N[i]? =U x)(hx:Loc X.env.scope x)(hf:autoParam (X.fn x=O\/X.env.scope.names.lookup x=U .local) Za3._auto_1):PGd X (.Name x pos) (gN i):=by
 refine(CO hN hi hx hf).aG ?_;rintro v Z H Q ⟨H0,eC,env,d,eQ,E,hg,r,k⟩;cases hg;exact k _ H (E.lO r) .lO
def tGs(X:Cx)(is:List Nat):TGs:=λvs Z H Q=>∃H0 eC env ds eQ,av X.K H0 eC env Z H/\gNs is ds env=U eQ /\aN X.K (λb=>Cln eC env Z b/\H b≠J) H ds vs/\∀Z' H',av X.K H0 eC eQ Z' H' ->Stp env Z H eQ Z' H' ->Q Z' H'
def _root_.L2.PGs.aG(h:PGs X es t')(i:∀v Z H Q,t v Z H Q->t' v Z H Q):PGs X es t:=λe8 s Z H v u Q I r q=>h e8 s Z H v u Q I r (i v Z H Q q)
def L1:PGs X [] (tGs X []):=by
 refine Kg.aG ?_;rintro vs Z H Q ⟨H0,eC,env,ds,eQ,E,hg,r,k⟩;cases ds with
 |nil=>cases hg;exact⟨r.cz,k Z H E .refl⟩
 |cons d ds=>cases hg
def HH(h1:PGd X e (gN i))(h2:PGs X es (tGs X is))(hs:autoParam ((assignEach (e::es) X.env).map (·.2)=assign e X.env::(assignEach es X.env).map (·.2)) Za1._auto_1):PGs X (e::es) (tGs X (i::is)):=by
 refine(GN h1 h2 hs).aG ?_;rintro vs Z H Q ⟨H0,eC,env,ds,eQ,E,hg,r,k⟩;cases ds with
 |nil=>cases hg
 |cons d ds=>
  obtain⟨v,vr,rfl,r1,r2⟩:=r.cons_inv;refine⟨v,vr,rfl,H0,eC,env,d,_,E,rfl,r1.imp λ_ q=>q.1,λZ1 H1 E1 p1=> ?_⟩;refine⟨H0,eC,_,ds,eQ,E1,hg,r2.gen (λb o hb q=>p1.keep b o hb (by
   rcases q with q|q
   .exactλ⟨j,w1,w2⟩=>q.1.2 j w1.ol.top w2
   .exactλw=>E.fu w hb q)) (λb q hb=> ⟨uo p1 q.1 hb, ?_⟩),λZ2 H2 E2 p2=>k Z2 H2 E2 (p1.trans p2)⟩
  cases o:H b with
  |none=>exact absurd o hb
  |some x=>rw[p1.keep b x o λ⟨j,w1,w2⟩=>q.1.2 j w1.ol.top w2];simp
theorem D7:∀{is ds env eQ},gNs is ds env=U eQ ->ds.length=is.length
 |[],[],_,_,_=>rfl
 |[],_::_,_,_,h=>by cases h
 |_::_,[],_,_,h=>by cases h
 |i::is,d::ds,env,eQ,h=>by
  have:=D7 (ds:=ds) h;simp[this]
def OG{is:List Nat}(hc:X.calm=O)(h:PGs X es (tGs X is))(hn:autoParam ((assignEach es X.env).length=n) Za1._auto_1)(ya:autoParam ((assignEach es X.env).findIdx? (·.1)=J) Za1._auto_1)(hl:autoParam (is.length=n) Za1._auto_1):PGd X (.Tuple es j pos) (gT is):=by
 refine(NB hc h hn ya).aG ?_;rintro v Z H Q ⟨H0,eC,env,d,eQ,E,hg,r,k⟩;unfold gT at hg;split at hg
 .rename_i ds;cases r with
  |tup h l r=>
   refine⟨_,_,rfl,SqT.of h,by rw[<-l,D7 hg,hl],H0,eC,env,ds,eQ,E,hg,⟨l,λi d v e1 e2=>(r i d v e1 e2).gen (.ZC bF) λb q hb=> ⟨q,hb⟩⟩,k⟩
 .cases hg
end
section
variable{b:ZJ}{t:DT}
def nr(h:ownAt i env=U d):env[i]? =U (U (.own d)):=by
 unfold ownAt at h;split at h
 .simp_all
 .cases h
def kY{K:ai}{H:Hp}(w:Wr H a)(i:Inn K F H (.lst ds) (.ref a)):∃vs,H a=U (.lst vs)/\aN K F H ds vs:=by
 cases i with
 |lst h r=>
  rcases h with h| ⟨o,h⟩
  .exact⟨_,h,r⟩
  .obtain⟨y,hy,wy⟩:=w;rw[h] at hy;cases hy;exact wy.elim
variable{apos eE:Pos}{X:Cx}
def F7{pos:Pos}(hN:X.N[i]? =U x)(hv:Vis X.env.scope x)(he:PEd X e f)(hd:autoParam ((x==("__debug__":Str))=M) Za2._auto_1)(xq:autoParam ((x==("__classdict__":Str))=M) Za2._auto_1)
  (xa:autoParam (starEach [e] X.env=[(M,eval e X.env)]) Za1._auto_1)
  (eX:autoParam (attributeBase (.Name x px) "append" X.env (eval (.Name x px) X.env)=eval (.Name x px) X.env) Za1._auto_1)
  (xF:((backTo eE (starEach [e] X.env)).all (λx=> !x.1)&&(backToKw eE (keywordEach [] X.env)).all (λx=>x.1.isSome)
   &&decide (([e]:List ZJ).length+([]:List Keyword).length+(if([]:List Keyword).isEmpty then 0 else 1)<30))=O:=by rfl)
  (eW:autoParam ((apos.endLine==eE.line)=O) Za1._auto_1)(hs:autoParam (swapsWith (.Call (.Attribute (.Name x px) "append" apos) [e] [] eE) J pos.line X.env=pure M) Za1._auto_1):
  PSd X (.Expr (.Call (.Attribute (.Name x px) "append" apos) [e] [] eE) pos) (dN i f):=by
 refine(qb (CQ GcA PySem.F.slot_list_append PySem.F.type_list_append oh (kg hN hv hd xq) (cL he gF xa) eX xF eW xa rfl) hs).aG ?_;rintro D Z H ⟨H0,eC,env,o,E,e,k⟩;obtain⟨r,hr,e⟩:=eh e;obtain⟨d,hd,e⟩:=eh e;have q:=nr hd;split at e
 .rename_i xs;split at e
  .rename_i z;rw[Gah] at z;cases e;obtain⟨a,h1,h2,h3,h4,h5,h6⟩:=E.ow i _ (.inl q);obtain⟨vs,hH,rp⟩:=kY h4 h6;refine⟨_,h1,.inl ⟨rfl,vs,.inl (.inl hH)⟩,H0,eC,env,[r],E,by unfold aa aX;rw[hr];rfl,λws H2 s2 Rs=> ?_⟩;cases Rs with
   | @cons _ v _ _ R1 tl=>
    cases tl;have yp:=s2 _ _ hH;refine⟨a,vs,v,rfl,rfl,yp,by rw[<-rp.1];exact Gaq z.2, ?_⟩;have E2:=E.mono s2;have rep1:=R1.rep E z.1;have rp2:=(rp.gen (.ZC s2) λ_ f _=>f).append (.cons rep1 .nil);obtain⟨E3,p3⟩:=E2.change (o:= .lst (vs++[v])) q h1 trivial rfl (.lst (.inl aD) (rp2.gen (λb o hb w=>by
     have:b≠a:=by
      rintro rfl;rcases w with w|w
      .exact w.2 i (by rw[q];trivial) h1
      .rw[yp] at hb;cases hb;exact w
     rw[ao this];exact hb) λ_ f _=>f))
    exact k Z _ E3 ((Stp.ZC s2).trans p3)
  .cases e
 .cases e
def F8{pos:Pos}(hN:X.N[i]? =U x)(hv:Vis X.env.scope x)(he:PEd X e f)(hd:autoParam ((x==("__debug__":Str))=M) Za2._auto_1)(xq:autoParam ((x==("__classdict__":Str))=M) Za2._auto_1)
  (xa:autoParam (starEach [e] X.env=[(M,eval e X.env)]) Za1._auto_1)
  (eX:autoParam (attributeBase (.Name x px) "extend" X.env (eval (.Name x px) X.env)=eval (.Name x px) X.env) Za1._auto_1)
  (xF:((backTo eE (starEach [e] X.env)).all (λx=> !x.1)&&(backToKw eE (keywordEach [] X.env)).all (λx=>x.1.isSome)
   &&decide (([e]:List ZJ).length+([]:List Keyword).length+(if([]:List Keyword).isEmpty then 0 else 1)<30))=O:=by rfl)
  (eW:autoParam ((apos.endLine==eE.line)=O) Za1._auto_1)(hs:autoParam (swapsWith (.Call (.Attribute (.Name x px) "extend" apos) [e] [] eE) J pos.line X.env=pure M) Za1._auto_1):
  PSd X (.Expr (.Call (.Attribute (.Name x px) "extend" apos) [e] [] eE) pos) (O2 i f):=by
 refine(qb (CQ GcA PySem.F.slot_list_extend PySem.F.type_list_extend EO (kg hN hv hd xq) (cL he gF xa) eX xF eW xa rfl) hs).aG ?_;rintro D Z H ⟨H0,eC,env,o,E,e,k⟩;obtain⟨⟨kd,rd⟩,hr,e⟩:=eh e;obtain⟨d,hd,e⟩:=eh e;have q:=nr hd;split at e
 .rename_i xs ys hrd;have hrd' :=hrd;subst hrd';split at e
  .rename_i z;rw[Gah] at z;cases e;have hk:kd= .tn:=by have:=z.1;simpa using this
   subst hk;obtain⟨a,h1,h2,h3,h4,h5,h6⟩:=E.ow i _ (.inl q);obtain⟨vs,hH,rp⟩:=kY h4 h6;refine⟨_,h1,.inl ⟨rfl,vs,.inl (.inl hH)⟩,H0,eC,env,[⟨.tn,.lst ys⟩],E,by unfold aa aX;rw[hr];rfl,λws H2 s2 Rs=> ?_⟩;cases Rs with
   | @cons _ v _ _ R1 tl=>
    cases tl;obtain⟨b,rfl,nb,wb,_,ib⟩:=R1;obtain⟨us,hB,ru⟩:=kY wb ib;have yp:=s2 _ _ hH;refine⟨a,b,vs,us,rfl,rfl,yp,hB,by rw[<-rp.1,<-ru.1];exact Gaq z.2, ?_⟩;have E2:=E.mono s2;have rp2:=(rp.gen (.ZC s2) λ_ f _=>f).append (ru.gen (.ZC bF) λ_ f _=>f.1);obtain⟨E3,p3⟩:=E2.change (o:= .lst (vs++us)) q h1 trivial rfl (.lst (.inl aD) (rp2.gen (λb o hb w=>by
     have:b≠a:=by
      rintro rfl;rcases w with w|w
      .exact w.2 i (by rw[q];trivial) h1
      .rw[yp] at hb;cases hb;exact w
     rw[ao this];exact hb) λ_ f _=>f))
    exact k Z _ E3 ((Stp.ZC s2).trans p3)
  .cases e
 .cases e
def UE(K:ai):List V->Hp->VK->Prop:=λxs H Q=>∃x T t b,xs=[x,.ty T]/\pR K H x (.type t)/\PySem.W.kitOne K (.type t) (.type T)=U b/\Q (.bl b) H
def HI:i0 X (.builtin "isinstance") (UE X.K):=by
 intro e8 s Z H xs us Q I r h;obtain⟨x,T,t,bb,rfl,ty,hk,q⟩:=h;obtain⟨u,w',rfl,r1,r2⟩:=vals2 r;cases r2;exact EJ I r1 ty hk λtk=> ⟨.bl bb,H,I.tok _,rfl,q⟩
def qP(K:ai)(T:String):Prop:=∀t∈["NoneType","bool","int","str","tuple","list","dict"],PySem.W.kitOne K (.type t) (.type T)=U (T==t||(t=="bool"&&T=="int"))
def L3{K:ai}(i:Inn K F H d x)(hs:kx d=M):∃t∈["NoneType","bool","int","str","tuple","list","dict"],pR K H x (.type t)/\∀S,pT S d=(S==t||(t=="bool"&&S=="int")):=by
 have rdl:∀{a:ZG} {vs:List V},Rd H a (.lst vs)->pR K H (.ref a) (.type "list"):=λh=>by
  rcases h with h| ⟨o,h⟩
  .exact .lst h
  .exact .frz h
 cases i with
 |non=>exact⟨"NoneType",by simp,.non,λS=>by simp⟩
 |bl b=>exact⟨"bool",by simp,.bl b,λS=>by simp⟩
 |int i=>exact⟨"int",by simp,.int i,λS=>by simp⟩
 |str x=>exact⟨"str",by simp,.str x,λS=>by simp⟩
 |tup h r=>exact⟨"tuple",by simp,.tup h,λS=>by simp⟩
 |lst h r=>exact⟨"list",by simp,rdl h,λS=>by simp⟩
 |dT h r=>exact⟨"dict",by simp,.dT h,λS=>by simp[pT]⟩
 |scr h=>cases hs
 |fl h r=>exact⟨"list",by simp,.frz h,λS=>by simp⟩
def OH(Ys:qP X.K T)(he:PEd X e f)(hg:Gl X "isinstance")(hm:X.mg "isinstance"=J)(yB:Gl X x)(zj:X.mg x=J)(YA:bootBuiltins x=U (.type T))(Xc:autoParam (x≠"__name__") Za2._auto_1)(hd2:autoParam ((x==("__debug__":Str))=M) Za2._auto_1)
  (xa:autoParam (starEach [e,.Name x p2] X.env=(M,eval e X.env)::starEach [.Name x p2] X.env) Za1._auto_1)(xd:autoParam (starEach [.Name x p2] X.env=(M,eval (.Name x p2) X.env)::starEach [] X.env) Za1._auto_1)(xm:autoParam ((backTo pos (starEach [.Name x p2] X.env)).any (·.1)=M) Za1._auto_1):
  PEd X (.Call (.Name "isinstance" p) [e,.Name x p2] [] pos) (bE (oq T f)):=by
 have ht:PE X (.Name x p2) (tC (.ty T)):=Kd yB zj YA rfl Xc hd2;refine(qq HI hg hm (by decide+kernel) (kU he (kU ht o9 xd) xa) (by decide) (by decide) xa xm).aG ?_;rintro Z H Q ⟨H0,eC,env,rv,E,e,k⟩;obtain⟨bb,e',rfl⟩:=Gaa.mp e;have e:=e';obtain⟨r,hr,e⟩:=eh e;split at e
 .cases e
 .rename_i hs;cases e;refine⟨H0,eC,env,r,E,hr,λv H1 s1 R=> ?_⟩;obtain⟨t,ht,ty,hb⟩:=L3 R.inn (by simpa using hs);exact⟨v,T,t,_,rfl,ty,Ys t ht,by rw[<-hb T];exact k _ H1 s1 (.bl _)⟩
def L4:∀env rs,aX env=U rs->rs.length=0:=λenv rs h=>by cases h;rfl
def HJ(h:∀env rs,r env=U rs->rs.length=n):∀env rs,aa f r env=U rs->rs.length=n+1:=λenv rs e=>by
 obtain⟨x,_,e⟩:=eh e;obtain⟨xs,hx,e⟩:=eh e;cases e;rw[GaF,h env xs hx]
theorem av.start{K:ai}{N:List Str}{ds:List D}(hl:ds.length<=N.length)(r:aN K (λ_=>True) H ds vs):av K H (λ_=>False) (i8 N.length ds) (start N vs) H:=by
 have nt:∀i:Nat,¬b5 (i8 N.length ds)[i]? :=λi h=>by
  unfold i8 at h;by_cases hi:i<ds.length
  .rw[GaR (by simpa using hi),Gap] at h;cases q:ds[i]? with
   |none=>rw[q] at h;exact h
   |some d=>rw[q] at h;exact h
  .rw[GaM (by simpa using hi),Gcz] at h;split at h<;>exact h
 have no:∀{i:Nat} {s:Slot},(i8 N.length ds)[i]? =U (U s)->b5 (U (U s))->False:=λ{i s} e h=>nt i (by rw[e];exact h);refine⟨λ_ _ e=>e,by simp[i8,L2.start,r.1],λ_ h=>h.elim,λi d e=> ?_,λi d e=> ?_,λi d e=> ?_,λi j a t _ _ _=>(nt i t.top).elim⟩
 .unfold i8 at e;by_cases hi:i<ds.length
  .rw[GaR (by simpa using hi),Gap] at e;cases q:ds[i]? with
   |none=>rw[q] at e;cases e
   |some d' =>
    rw[q] at e;have e' :d' =d:=by simpa using e
    subst e';obtain⟨v,h1,h2⟩:=r.get q;refine⟨v, ?_,h2.imp λb _=> ⟨λz=>z,λj t=>(nt j t).elim⟩⟩;unfold L2.start;rw[GaR (by rw[Gae,<-r.1];exact hi),Gap,h1];rfl
  .rw[GaM (by simpa using hi),Gcz] at e;split at e<;>cases e
 .rcases e with e|e
  .exact(no e trivial).elim
  .exact(no e trivial).elim
 .exact(no e trivial).elim
def HK{K:ai}{fd:ZR}{N ps:List Str}(F:Fun K x qual sd fa fd)(S:gL N ps (aY sd))(zP:ps.length=np)
  (xT:∀xj A outer s H E,iT k (A.deeper (envOfC qual (aY sd) s.heap.objs.size fa xj))->
   lD (Bw CX0 P w K mg base N qual (aY sd) fa xj A outer s H E).nox (gq sd) body):jr P w K mg base CX0 (k+1) fa fd ps (spD K np (bu N.length np body)):=by
 refine F.ok S (λvs H Q E h=> ?_) λxj A outer s H vs Q E hr h=> ⟨_,xT xj A outer s H E hr, ?_⟩
 .obtain⟨ds,d,h1,h2,_⟩:=h;rw[<-h2.1,h1,zP]
 .obtain⟨ds,d,h1,h2,h3,k⟩:=h;unfold bu at h3;rw[Gao h1] at h3;obtain⟨o,ho,h3⟩:=eh h3;have hl:ds.length<=N.length:=by
   have:=congrArg List.length S.pre
   grind
  refine⟨H,λ_=>False,i8 N.length ds,o,av.start hl h2,ho, ?_⟩;cases o with
  |ret d' =>cases h3;exactλv H' s' R=>k v H' s' R
  |nx e=>cases h3;exactλZ' H' E' p' =>k .non H' E'.same ⟨λt=>(by cases t),.non⟩
  |bk e=>cases h3
  |ct e=>cases h3
def OI{K:ai}{ns:List Int}{sp:SpF}(hO:KD H)(hS:SqL K H a (ns.map V.int))(h:sp [.scr ns]=U (.bl O)):spD K 1 sp [.ref a] H (λv _=>v= .bl O) E:=by
 refine⟨[.scr ns],.bl O,rfl,aN.cons (.scr ?_) .nil,h,λv H' _ R=> ?_⟩
 .rcases hS with(z|z)|z
  .rcases hO a with q| ⟨o,xs,q⟩<;>rw[z] at q<;>cases q
  .exact .inl z
  .exact .inr z
 .have i:=R.2;cases i;rfl
end
def plain_all{ds:List D}{i:Nat}(h:ds.all (aJ n)=O)(e:ds[i]? =U d):aJ n d=O:=Gar.mp h d (Gax e)
inductive BI (K:ai) (F:ZG->Prop) (H:Hp):D->V->Prop where
 |non:BI K F H .non .non
 |bl (b:Bool):BI K F H (.bl b) (.bl b)
 |int (i:Int):BI K F H (.int i) (.int i)
 |str (x:Str):BI K F H (.str x) (.str x)
 |tup {a:ZG} {vs:List V} {ds:List D} (h:H a=U (.tup vs)) (l:ds.length=vs.length) (r:∀(i:Nat) d v,ds[i]? =U d->vs[i]? =U v->Rep K F H d v):BI K F H (.tup ds) (.ref a)
 |lst {a:ZG} {vs:List V} {ds:List D} (f:F a) (h:Rd H a (.lst vs)) (l:ds.length=vs.length) (r:∀(i:Nat) d v,ds[i]? =U d->vs[i]? =U v->Rep K F H d v):BI K F H (.lst ds) (.ref a)
def bS{K:ai}(p:aJ n d=O)(r:Rep K F H d v):BI K F H d v:=by
 cases r with
 |non=>exact .non
 |bl b=>exact .bl b
 |int i=>exact .int i
 |str x=>exact .str x
 |tup h l r=>exact .tup h l r
 |lst f h l r=>exact .lst f h l r
 |_=>cases n<;>exact(GaB p).elim
def qQ:∀n d,aJ n d=O->eqD d d=O:=by
 intro n;induction n with
 |zero=>intro d h;cases d<;>simp at h<;>simp
 |succ n ih=>
  have all:∀ds:List D,ds.all (aJ n)=O->jw ds ds=O:=by
   intro ds;induction ds with
   |nil=>intro _;rfl
   |cons d ds ih2=>
    intro h;rw[GbA,Gah] at h;simp[ih d h.1,ih2 h.2]
  intro d h;cases d<;>simp only[aJ] at h<;>first
   |(simp;done)
   |exact all _ h
   |cases h
theorem ij:∀{ds es},ds.length≠es.length->jw ds es=M
 |[],[],h=>absurd rfl h
 |[],_::_,_=>rfl
 |_::_,[],_=>rfl
 |d::ds,e::es,h=>by
  unfold jw;rw[ij (by simpa using h),Gdo]
theorem fA:∀{ds es},ds.length=es.length->(List.range ds.length).all (λj=>eqD (ds.getD j .non) (es.getD j .non))=jw ds es
 |[],[],_=>rfl
 |[],_::_,h=>by simp at h
 |_::_,[],h=>by simp at h
 |d::ds,e::es,h=>by
  have ih:=fA (by simpa using h);unfold jw;rw[GaF,List.range_succ_eq_map,GbA,GbI,<-ih]
  rfl
section
def vA{K:ai}:∀n {d d' v},aJ n d=O->aJ n d' =O->Rep K F H d v->Rep K G H d' v->d=d' :=by
 intro n;induction n with
 |zero=>intro d d' v h1 h2 r1 r2;cases bS h1 r1<;>first|exact(GaB h1).elim|(cases bS h2 r2;rfl)
 |succ n ih=>
  have all:∀{ds es:List D} {vs:List V},ds.all (aJ n)=O->es.all (aJ n)=O->ds.length=vs.length->es.length=vs.length->(∀(i:Nat) d v,ds[i]? =U d->vs[i]? =U v->Rep K F H d v)->(∀(i:Nat) d v,es[i]? =U d->vs[i]? =U v->Rep K G H d v)->ds=es:=by
   intro ds es vs p1 p2 l1 l2 r1 r2;apply GcJ;intro i;by_cases hi:i<vs.length
   .have e1:ds[i]? =U ds[i]:=by simp
    have e2:es[i]? =U es[i]:=by simp
    have e3:vs[i]? =U vs[i]:=by simp
    rw[e1,e2,ih (plain_all p1 e1) (plain_all p2 e2) (r1 i _ _ e1 e3) (r2 i _ _ e2 e3)]
   .rw[GbD (by lia),GbD (by lia)]
  intro d d' v h1 h2 r1 r2;cases bS h1 r1 with
  |non=>cases bS h2 r2;rfl
  |bl b=>cases bS h2 r2;rfl
  |int i=>cases bS h2 r2;rfl
  |str x=>cases bS h2 r2;rfl
  |tup h l r=>
   cases bS h2 r2 with
   |tup h' l' r' =>
    rw[h] at h';cases h';rw[all (by simpa[aJ] using h1) (by simpa[aJ] using h2) l l' r r']
   |lst f h' l' r' =>rcases h' with h' | ⟨o,h'⟩<;>rw[h] at h' <;>cases h'
  |lst f h l r=>
   cases bS h2 r2 with
   |tup h' l' r' =>rcases h with h| ⟨o,h⟩<;>rw[h] at h' <;>cases h'
   |lst f' h' l' r' =>
    have:∀{xs ys:List V} {a:ZG},Rd H a (.lst xs)->Rd H a (.lst ys)->xs=ys:=λz1 z2=>by
     rcases z1 with z1| ⟨o,z1⟩<;>rcases z2 with z2| ⟨o',z2⟩<;>rw[z1] at z2<;>cases z2<;>rfl
    cases this h h';rw[all (by simpa[aJ] using h1) (by simpa[aJ] using h2) l l' r r']
def item_at{ds:List D}{vs:List V}{its:List ZH}{K:ai}{j:Nat}(l:ds.length=vs.length)(r:∀(i:Nat) d v,ds[i]? =U d->vs[i]? =U v->Rep K F H d v)(rv:Zu vs its)(h:j<its.toArray.size):
  ∃d v,ds[j]? =U d/\ds.getD j .non=d/\Rep K F H d v/\Zt v its.toArray[j]:=by
 have hj:j<its.length:=by simpa using h
 have hv:j<vs.length:=by rw[rv.length];exact hj
 have hd:j<ds.length:=by rw[l];exact hv
 obtain⟨u,e1,e2⟩:=rv.get (i:=j) (x:=vs[j]) (by simp);refine⟨ds[j],vs[j],by simp,by simp[hd],r j _ _ (by simp) (by simp), ?_⟩;simp_all
def in1_units{A:ZL}(h:A.units+(n+1)<cLine):A.in1.units+n<cLine:=by
 lia
variable{Z:St}{X:Cx}
def qR(I:Inv X e8 Z H s):∀n {dx dy x y v u A},aJ n dx=O->aJ n dy=O->Rep X.K F H dx x->Rep X.K G H dy y->Zt x v->Zt y u->A.units+n<cLine->SeqAt.EqAt A s v u (eqD dx dy):=by
 have flat:∀{dx dy:D} {x y:V} {v u:ZH} {A:ZL},Rep X.K F H dx x->Rep X.K G H dy y->Zt x v->Zt y u->u4 x=O->u4 y=O->SeqAt.EqAt A s v u (eqD dx dy):=by
  intro dx dy x y v u A r1 r2 rv ru fx fy;have e:eqD dx dy=eqV x y:=by
   cases r1<;>first|exact(GaB fx).elim|(cases r2<;>first|exact(GaB fy).elim|rfl)
  rw[e];exact He rv ru fx fy
 intro n;induction n with
 |zero=>
  intro dx dy x y v u A p1 p2 r1 r2 rv ru hu;refine flat r1 r2 rv ru ?_ ?_
  .cases bS p1 r1<;>first|rfl|exact(GaB p1).elim
  .cases bS p2 r2<;>first|rfl|exact(GaB p2).elim
 |succ n ih=>
  intro dx dy x y v u A p1 p2 r1 r2 rv ru hu;have hu0:A.units<cLine:=by lia
  cases bS p1 r1 with
  | @tup a vs1 ds1 h l r=>
   cases rv;obtain⟨its,xg,ht,_⟩:=I.tuple (SqT.of h);cases bS p2 r2 with
   |non=>cases ru;exact SeqAt.EqAt.tuple_none ht hu0
   |bl b=>cases ru;exact SeqAt.EqAt.tuple_bool b ht hu0
   |int i=>obtain⟨t,rfl⟩:=ru;exact SeqAt.EqAt.tuple_int i t ht hu0
   |str z=>obtain⟨t,rfl⟩:=ru;exact SeqAt.EqAt.tuple_str z t ht hu0
   |lst f' h' l' r' =>
    cases ru;obtain⟨eO,eZ,pl,_⟩:=I.list (.inl h');exact SeqAt.EqAt.tuple_list ht pl.isList hu0
   | @tup b vs2 ds2 h' l' r' =>
    cases ru;by_cases hab:a=b
    .subst hab;have:=vA (n+1) p1 p2 (Rep.tup h l r) (Rep.tup h' l' r');rw[<-this,qQ _ _ p1];exact SeqAt.EqAt.same _
    .obtain⟨eO,eZ,hU,_⟩:=I.tuple (SqT.of h');have xa:its.toArray.size=ds1.length:=by rw[Gav,<-xg.length,l]
     have xd:eO.toArray.size=ds2.length:=by rw[Gav,<-eZ.length,l']
     have key:=SeqAt.RcAt.tuples (e:=λj=>eqD (ds1.getD j .non) (ds2.getD j .non)) ht hU hu0 λj h1 h2=>by
      obtain⟨d1,v1,q1,q2,q3,q4⟩:=item_at l r xg h1;obtain⟨d2,v2,w1,w2,w3,w4⟩:=item_at l' r' eZ h2;rw[q2,w2];exact ih (plain_all (by simpa[aJ] using p1) q1) (plain_all (by simpa[aJ] using p2) w1) q3 w3 q4 w4 (in1_units hu)
     refine SeqAt.EqAt.of_refs hab ?_;show SeqAt.RcAt A s (.ref a) (.ref b) (jw ds1 ds2);rw[xa,xd] at key;by_cases hl:ds1.length=ds2.length
     .rw[<-hl,Nat.min_self,fA hl] at key
      simpa using key
     .rw[ij hl];have:(ds1.length==ds2.length)=M:=by simpa using hl
      rw[this,Gdo] at key;exact key
  | @lst a vs1 ds1 f h l r=>
   cases rv;obtain⟨its,xg,pl,_⟩:=I.list (.inl h);have ht:=pl.isList;cases bS p2 r2 with
   |non=>cases ru;exact SeqAt.EqAt.list_none ht hu0
   |bl b=>cases ru;exact SeqAt.EqAt.list_bool b ht hu0
   |int i=>obtain⟨t,rfl⟩:=ru;exact SeqAt.EqAt.list_int i t ht hu0
   |str z=>obtain⟨t,rfl⟩:=ru;exact SeqAt.EqAt.list_str z t ht hu0
   |tup h' l' r' =>
    cases ru;obtain⟨eO,eZ,hU,_⟩:=I.tuple (SqT.of h');exact SeqAt.EqAt.list_tuple ht hU hu0
   | @lst b vs2 ds2 f' h' l' r' =>
    cases ru;by_cases hab:a=b
    .subst hab;have:=vA (n+1) p1 p2 (Rep.lst f h l r) (Rep.lst f' h' l' r');rw[<-this,qQ _ _ p1];exact SeqAt.EqAt.same _
    .obtain⟨eO,eZ,yt,_⟩:=I.list (.inl h');have hU:=yt.isList;have xa:its.toArray.size=ds1.length:=by rw[Gav,<-xg.length,l]
     have xd:eO.toArray.size=ds2.length:=by rw[Gav,<-eZ.length,l']
     refine SeqAt.EqAt.of_refs hab ?_;show SeqAt.RcAt A s (.ref a) (.ref b) (jw ds1 ds2);by_cases hl:ds1.length=ds2.length
     .have key:=SeqAt.RcAt.lists (e:=λj=>eqD (ds1.getD j .non) (ds2.getD j .non)) ht hU (by rw[xa,xd,hl]) hu0 λj h1 h2=>by
       obtain⟨d1,v1,q1,q2,q3,q4⟩:=item_at l r xg h1;obtain⟨d2,v2,w1,w2,w3,w4⟩:=item_at l' r' eZ h2;rw[q2,w2];exact ih (plain_all (by simpa[aJ] using p1) q1) (plain_all (by simpa[aJ] using p2) w1) q3 w3 q4 w4 (in1_units hu)
      rw[xa,fA hl] at key;exact key
     .rw[ij hl];exact SeqAt.RcAt.lists_lengths ht hU (by rw[xa,xd];simpa using hl) hu0
  |non=>
   cases rv;cases bS p2 r2 with
   |tup h' l' r' =>cases ru;obtain⟨eO,eZ,hU,_⟩:=I.tuple (SqT.of h');exact SeqAt.EqAt.none_tuple hU hu0
   |lst f' h' l' r' =>cases ru;obtain⟨eO,eZ,yt,_⟩:=I.list (.inl h');exact SeqAt.EqAt.none_list yt.isList hu0
   |_=>exact flat .non (by first|exact .non|exact .bl _|exact .int _|exact .str _) rfl ru rfl rfl
  |bl b=>
   cases bS p2 r2 with
   |tup h' l' r' =>cases rv;cases ru;obtain⟨eO,eZ,hU,_⟩:=I.tuple (SqT.of h');exact SeqAt.EqAt.bool_tuple b hU hu0
   |lst f' h' l' r' =>cases rv;cases ru;obtain⟨eO,eZ,yt,_⟩:=I.list (.inl h');exact SeqAt.EqAt.bool_list b yt.isList hu0
   |_=>exact flat (.bl b) (by first|exact .non|exact .bl _|exact .int _|exact .str _) rv ru rfl rfl
  |int i=>
   cases bS p2 r2 with
   |tup h' l' r' =>obtain⟨t,rfl⟩:=rv;cases ru;obtain⟨eO,eZ,hU,_⟩:=I.tuple (SqT.of h');exact SeqAt.EqAt.int_tuple i t hU hu0
   |lst f' h' l' r' =>obtain⟨t,rfl⟩:=rv;cases ru;obtain⟨eO,eZ,yt,_⟩:=I.list (.inl h');exact SeqAt.EqAt.int_list i t yt.isList hu0
   |_=>exact flat (.int i) (by first|exact .non|exact .bl _|exact .int _|exact .str _) rv ru rfl rfl
  |str z=>
   cases bS p2 r2 with
   |tup h' l' r' =>obtain⟨t,rfl⟩:=rv;cases ru;obtain⟨eO,eZ,hU,_⟩:=I.tuple (SqT.of h');exact SeqAt.EqAt.str_tuple z t hU hu0
   |lst f' h' l' r' =>obtain⟨t,rfl⟩:=rv;cases ru;obtain⟨eO,eZ,yt,_⟩:=I.list (.inl h');exact SeqAt.EqAt.str_list z t yt.isList hu0
   |_=>exact flat (.str z) (by first|exact .non|exact .bl _|exact .int _|exact .str _) rv ru rfl rfl
def Aa{A:ZL}(I:Inv X e8 Z H s)(p1:aJ n dx=O)(p2:aJ n dy=O)(r1:Rep X.K F H dx x)(r2:Rep X.K G H dy y)(rv:Zt x v)(ru:Zt y u)(hu:A.units+n<cLine):
  SeqAt.RcAt A s v u (eqD dx dy)/\SeqAt.RcNeAt A s v u (!eqD dx dy):=by
 have hu0:A.units<cLine:=by lia
 have tupAt:∀{a:ZG} {vs:List V},H a=U (.tup vs)->∃its:List ZH,s.heap.IsTuple a its.toArray:=λh=>let⟨its,_,ht,_⟩:=I.tuple (SqT.of h);⟨its,ht⟩
 have lstAt:∀{a:ZG} {vs:List V},Rd H a (.lst vs)->∃its:List ZH,s.heap.IsList a its.toArray:=λh=>let⟨its,_,pl,_⟩:=I.list (.inl h);⟨its,pl.isList⟩
 cases bS p1 r1 with
 |non=>
  cases rv;cases bS p2 r2 with
  |non=>cases ru;exact⟨.none_none,.none_none⟩
  |bl b=>cases ru;exact⟨.none_bool b,.none_bool b⟩
  |int i=>obtain⟨t,rfl⟩:=ru;exact⟨.none_int i t,.none_int i t⟩
  |str z=>obtain⟨t,rfl⟩:=ru;exact⟨.none_str z t,.none_str z t⟩
  |tup h' l' r' =>cases ru;obtain⟨its,ht⟩:=tupAt h';exact⟨.none_tuple ht hu0,.none_tuple ht hu0⟩
  |lst f' h' l' r' =>cases ru;obtain⟨its,ht⟩:=lstAt h';exact⟨.none_list ht hu0,.none_list ht hu0⟩
 |bl b=>
  cases rv;cases bS p2 r2 with
  |non=>cases ru;exact⟨.bool_none b,.bool_none b⟩
  |bl b' =>cases ru;exact⟨.bool_bool b b',.bool_bool b b'⟩
  |int i=>obtain⟨t,rfl⟩:=ru;exact⟨.bool_int b i t,.bool_int b i t⟩
  |str z=>obtain⟨t,rfl⟩:=ru;exact⟨.bool_str b z t,.bool_str b z t⟩
  |tup h' l' r' =>cases ru;obtain⟨its,ht⟩:=tupAt h';exact⟨.bool_tuple b ht hu0,.bool_tuple b ht hu0⟩
  |lst f' h' l' r' =>cases ru;obtain⟨its,ht⟩:=lstAt h';exact⟨.bool_list b ht hu0,.bool_list b ht hu0⟩
 |int i=>
  obtain⟨t,rfl⟩:=rv;cases bS p2 r2 with
  |non=>cases ru;exact⟨.int_none i t,.int_none i t⟩
  |bl b' =>cases ru;exact⟨.int_bool i t b',.int_bool i t b'⟩
  |int j=>obtain⟨t',rfl⟩:=ru;exact⟨.int_int i t j t',.int_int i t j t'⟩
  |str z=>obtain⟨t',rfl⟩:=ru;exact⟨.int_str i t z t',.int_str i t z t'⟩
  |tup h' l' r' =>cases ru;obtain⟨its,ht⟩:=tupAt h';exact⟨.int_tuple i t ht hu0,.int_tuple i t ht hu0⟩
  |lst f' h' l' r' =>cases ru;obtain⟨its,ht⟩:=lstAt h';exact⟨.int_list i t ht hu0,.int_list i t ht hu0⟩
 |str z=>
  obtain⟨t,rfl⟩:=rv;cases bS p2 r2 with
  |non=>cases ru;exact⟨.str_none z t,.str_none z t⟩
  |bl b' =>cases ru;exact⟨.str_bool z t b',.str_bool z t b'⟩
  |int j=>obtain⟨t',rfl⟩:=ru;exact⟨.str_int z t j t',.str_int z t j t'⟩
  |str z' =>obtain⟨t',rfl⟩:=ru;exact⟨.str_str z t z' t',.str_str z t z' t'⟩
  |tup h' l' r' =>cases ru;obtain⟨its,ht⟩:=tupAt h';exact⟨.str_tuple z t ht hu0,.str_tuple z t ht hu0⟩
  |lst f' h' l' r' =>cases ru;obtain⟨its,ht⟩:=lstAt h';exact⟨.str_list z t ht hu0,.str_list z t ht hu0⟩
 | @tup a vs1 ds1 h l r=>
  cases n with
  |zero=>simp[aJ] at p1
  |succ n=>
   cases rv;obtain⟨its,xg,ht,_⟩:=I.tuple (SqT.of h);cases bS p2 r2 with
   |non=>cases ru;exact⟨.tuple_none ht hu0,.tuple_none ht hu0⟩
   |bl b=>cases ru;exact⟨.tuple_bool b ht hu0,.tuple_bool b ht hu0⟩
   |int i=>obtain⟨t,rfl⟩:=ru;exact⟨.tuple_int i t ht hu0,.tuple_int i t ht hu0⟩
   |str z=>obtain⟨t,rfl⟩:=ru;exact⟨.tuple_str z t ht hu0,.tuple_str z t ht hu0⟩
   |lst f' h' l' r' =>cases ru;obtain⟨eO,hU⟩:=lstAt h';exact⟨.tuple_list ht hU hu0,.tuple_list ht hU hu0⟩
   | @tup b vs2 ds2 h' l' r' =>
    cases ru;obtain⟨eO,eZ,hU,_⟩:=I.tuple (SqT.of h');have xa:its.toArray.size=ds1.length:=by rw[Gav,<-xg.length,l]
    have xd:eO.toArray.size=ds2.length:=by rw[Gav,<-eZ.length,l']
    have items:∀j (h1:j<its.toArray.size) (h2:j<eO.toArray.size),SeqAt.EqAt A.in1 s its.toArray[j] eO.toArray[j] ((λj=>eqD (ds1.getD j .non) (ds2.getD j .non)) j):=λj h1 h2=>by
     obtain⟨d1,v1,q1,q2,q3,q4⟩:=item_at l r xg h1;obtain⟨d2,v2,w1,w2,w3,w4⟩:=item_at l' r' eZ h2;dsimp only;rw[q2,w2];exact qR I n (plain_all (by simpa[aJ] using p1) q1) (plain_all (by simpa[aJ] using p2) w1) q3 w3 q4 w4 (in1_units hu)
    have k1:=SeqAt.RcAt.tuples ht hU hu0 items;have k2:=SeqAt.RcNeAt.tuples ht hU hu0 items;have e:((List.range (min its.toArray.size eO.toArray.size)).all (λj=>eqD (ds1.getD j .non) (ds2.getD j .non))&&its.toArray.size==eO.toArray.size)=jw ds1 ds2:=by
     rw[xa,xd];by_cases hl:ds1.length=ds2.length
     .rw[<-hl,Nat.min_self,fA hl];simp
     .rw[ij hl];have:(ds1.length==ds2.length)=M:=by simpa using hl
      rw[this,Gdo]
    rw[e] at k1 k2;exact⟨k1,k2⟩
 | @lst a vs1 ds1 f h l r=>
  cases n with
  |zero=>simp[aJ] at p1
  |succ n=>
   cases rv;obtain⟨its,xg,pl,_⟩:=I.list (.inl h);have ht:=pl.isList;cases bS p2 r2 with
   |non=>cases ru;exact⟨.list_none ht hu0,.list_none ht hu0⟩
   |bl b=>cases ru;exact⟨.list_bool b ht hu0,.list_bool b ht hu0⟩
   |int i=>obtain⟨t,rfl⟩:=ru;exact⟨.list_int i t ht hu0,.list_int i t ht hu0⟩
   |str z=>obtain⟨t,rfl⟩:=ru;exact⟨.list_str z t ht hu0,.list_str z t ht hu0⟩
   |tup h' l' r' =>cases ru;obtain⟨eO,hU⟩:=tupAt h';exact⟨.list_tuple ht hU hu0,.list_tuple ht hU hu0⟩
   | @lst b vs2 ds2 f' h' l' r' =>
    cases ru;obtain⟨eO,eZ,yt,_⟩:=I.list (.inl h');have hU:=yt.isList;have xa:its.toArray.size=ds1.length:=by rw[Gav,<-xg.length,l]
    have xd:eO.toArray.size=ds2.length:=by rw[Gav,<-eZ.length,l']
    have items:∀j (h1:j<its.toArray.size) (h2:j<eO.toArray.size),SeqAt.EqAt A.in1 s its.toArray[j] eO.toArray[j] ((λj=>eqD (ds1.getD j .non) (ds2.getD j .non)) j):=λj h1 h2=>by
     obtain⟨d1,v1,q1,q2,q3,q4⟩:=item_at l r xg h1;obtain⟨d2,v2,w1,w2,w3,w4⟩:=item_at l' r' eZ h2;dsimp only;rw[q2,w2];exact qR I n (plain_all (by simpa[aJ] using p1) q1) (plain_all (by simpa[aJ] using p2) w1) q3 w3 q4 w4 (in1_units hu)
    show SeqAt.RcAt A s (.ref a) (.ref b) (jw ds1 ds2)/\SeqAt.RcNeAt A s (.ref a) (.ref b) (!jw ds1 ds2);by_cases hl:ds1.length=ds2.length
    .have k1:=SeqAt.RcAt.lists ht hU (by rw[xa,xd,hl]) hu0 items;have k2:=SeqAt.RcNeAt.lists ht hU (by rw[xa,xd,hl]) hu0 items;rw[xa,fA hl] at k1 k2;exact⟨k1,k2⟩
    .rw[ij hl];exact⟨SeqAt.RcAt.lists_lengths ht hU (by rw[xa,xd];simpa using hl) hu0,SeqAt.RcNeAt.lists_lengths ht hU (by rw[xa,xd];simpa using hl) hu0⟩
end
section
def L5(K:ai)(neg:Bool):R2:=λx y H Q=>∃F dx dy,Inn K F H dx x/\Inn K F H dy y/\dx.plain=O/\dy.plain=O/\Q (.bl (if neg then !eqD dx dy else eqD dx dy)) H
variable{X:Cx}
def OJ(hu:X.A.units+20<cLine):OpR X (compareOp .Eq) (L5 X.K M):=by
 intro e8 s Z H x y v u Q I rx ry h;obtain⟨F,dx,dy,i1,i2,p1,p2,q⟩:=h;exact(Aa I p1 p2 i1.any i2.any rx ry hu).1 X.prog X.w _ _ ⟨.bl (eqD dx dy),H,I,rfl,q⟩
def OK(hu:X.A.units+20<cLine):OpR X (compareOp .NotEq) (L5 X.K O):=by
 intro e8 s Z H x y v u Q I rx ry h;obtain⟨F,dx,dy,i1,i2,p1,p2,q⟩:=h;exact(Aa I p1 p2 i1.any i2.any rx ry hu).2 X.prog X.w _ _ ⟨.bl (!eqD dx dy),H,I,rfl,q⟩
def OL:OpB X eqB (L5 X.K M):=by
 intro F H dx dy x y b Q ix iy e q;unfold eqB at e;split at e
 .rename_i z;rw[Gah] at z;cases e;exact⟨F,dx,dy,ix,iy,z.1,z.2,q⟩
 .cases e
def OM:OpB X neB (L5 X.K O):=by
 intro F H dx dy x y b Q ix iy e q;unfold neB at e;split at e
 .rename_i z;rw[Gah] at z;cases e;exact⟨F,dx,dy,ix,iy,z.1,z.2,q⟩
 .cases e
def L6{A:ZL}(hr:iT k A):A.units+20<cLine:=GcD (Nat.add_le_add_left (by decide:20<=64) _) hr.units
def ON:bootBuiltins "len"=U (.builtin "len"):=by decide+kernel
def OO:bootBuiltins "min"=U (.builtin "min"):=by decide+kernel
def OP:bootBuiltins "max"=U (.builtin "max"):=by decide+kernel
def OQ:bootBuiltins "any"=U (.builtin "any"):=by decide+kernel
def OR:bootBuiltins "all"=U (.builtin "all"):=by decide+kernel
def F9:bootBuiltins "sorted"=U (.builtin "sorted"):=by decide+kernel
def HL:bootBuiltins "int"=U (.type "int"):=by decide+kernel
def L7:bootBuiltins "bool"=U (.type "bool"):=by decide+kernel
def OT:bootBuiltins "str"=U (.type "str"):=by decide+kernel
def Ab:bootBuiltins "tuple"=U (.type "tuple"):=by decide+kernel
def D8:bootBuiltins "list"=U (.type "list"):=by decide+kernel
def vB:bootBuiltins "enumerate"=U (.type "enumerate"):=by decide+kernel
def L8{K:ai}:qP K "int":=by
 intro t ht;simp only[Gat,GbE,Gdi] at ht;rcases ht with rfl|rfl|rfl|rfl|rfl|rfl|rfl<;>rfl
def L9{K:ai}:qP K "str":=by
 intro t ht;simp only[Gat,GbE,Gdi] at ht;rcases ht with rfl|rfl|rfl|rfl|rfl|rfl|rfl<;>rfl
def kit_tuple{K:ai}:qP K "tuple":=by
 intro t ht;simp only[Gat,GbE,Gdi] at ht;rcases ht with rfl|rfl|rfl|rfl|rfl|rfl|rfl<;>rfl
def HM{K:ai}:qP K "list":=by
 intro t ht;simp only[Gat,GbE,Gdi] at ht;rcases ht with rfl|rfl|rfl|rfl|rfl|rfl|rfl<;>rfl
def HP{K:ai}:qP K "bool":=by
 intro t ht;simp only[Gat,GbE,Gdi] at ht;rcases ht with rfl|rfl|rfl|rfl|rfl|rfl|rfl<;>rfl
end
section
variable{X:Cx}
def qd(i:Nat)(x:Str)(k:(∀pos,PEd X (.Name x pos) (vE i))->lD X sts f)(hN:autoParam (X.N[i]? =U x) Za1._auto_1)(hv:Vis X.env.scope x:=by first|exact Or.inl rfl|exact Or.inr (Or.inl rfl)|exact Or.inr (Or.inr rfl))(hd:autoParam ((x==("__debug__":Str))=M) Za2._auto_1)
  (xq:autoParam ((x==("__classdict__":Str))=M) Za2._auto_1):lD X sts f:=k λ_=>Hu i hN hv hd xq
def La(i:Nat)(x:Str)(k:Loc X.env.scope x->lD X sts f)(hx:Loc X.env.scope x:=by first|exact Or.inl rfl|exact Or.inr rfl):lD X sts f:=k hx
end
theorem mr{env:PySem.Env}:∀(names:List (Str×ZS)),(∀y∈names,y.2= .free->∃c,env.cells.lookup y.1=U c)->∀(cs:List (Str×ZG)),(∀n c,cs.lookup n=U c->env.cells.lookup n=U c)->
  ∃cl:List (Str×ZG),(forIn names cs λx r=>(do
    if(x.2==NameKind.free)=O then pure (ForInStep.yield ((x.1,<-cellOf env x.1)::r)) else pure (ForInStep.yield r):Sem (ForInStep (List (Str×ZG)))))=pure cl/\
   (∀n c,cl.lookup n=U c->env.cells.lookup n=U c)/\(∀y∈names,y.2= .free->∃c,cl.lookup y.1=U c)/\∀n c,cs.lookup n=U c->∃c',cl.lookup n=U c'
 |[],_,cs,h=>by
  refine⟨cs,rfl,h, ?_,λn c e=> ⟨c,e⟩⟩;intro y hy;cases hy
 |(x,k)::names,hf,cs,h=>by
  by_cases hk:k= .free
  .subst hk;obtain⟨c,hc⟩:=hf (x,.free) Gaj rfl;have xo:cellOf env x=pure c:=by unfold cellOf;rw[hc]<;>rfl
   obtain⟨cl,h1,h2,h3,h4⟩:=mr names (λy hy=>hf y (Gaf _ hy)) ((x,c)::cs) (λn c' e=>by
    by_cases z:n=x
    .simp_all
    .have z' :(n==x)=M:=by simpa using z
     simp[Gbi,z'] at e;exact h n c' e)
   refine⟨cl, ?_,h2,λy hy Wq=> ?_,λn c' e=> ?_⟩
   .rw[GdG];simp only[xo];exact h1
   .rcases Gat.mp hy with rfl|hy
    .exact h4 x c (by simp)
    .exact h3 y hy Wq
   .by_cases z:n=x
    .simp_all
    .have z' :(n==x)=M:=by simpa using z
     exact h4 n c' (by simp[Gbi,z',e])
  .have xw :(k==NameKind.free)=M:=by simpa using hk
   obtain⟨cl,h1,h2,h3,h4⟩:=mr names (λy hy=>hf y (Gaf _ hy)) cs h;refine⟨cl, ?_,h2,λy hy Wq=> ?_,h4⟩
   .rw[GdG];simp only[xw];exact h1
   .rcases Gat.mp hy with rfl|hy
    .exact absurd Wq hk
    .exact h3 y hy Wq
def ji{env:PySem.Env}{scope:ZO}(hf:∀y∈scope.names,y.2= .free->∃c,env.cells.lookup y.1=U c):
  ∃cl,closureFor scope env=pure cl/\(∀n c,cl.lookup n=U c->env.cells.lookup n=U c)/\∀y∈scope.names,y.2= .free->∃c,cl.lookup y.1=U c:=by
 obtain⟨cl,h1,h2,h3,_⟩:=mr scope.names hf [] (λn c e=>by simp at e);refine⟨cl, ?_,h2,h3⟩;exact(congrArg (λm=>m>>=pure) h1).trans (by rfl)
theorem mem_of_lookup:∀{l:List (Str×ZS)},l.lookup x=U k->(x,k)∈l
 |[],h=>by simp at h
 |(n,k')::r,h=>by
  rw[Gbi] at h;cases hx:x==n with
  |true=>rw[hx] at h;cases h;rw[Gbv] at hx;subst hx;exact Gaj
  |false=>rw[hx] at h;exact Gaf _ (mem_of_lookup h)
theorem mw{env:PySem.Env}:∀{names:List (Str×ZS)},(∀y∈names,y.2≠ .cell)->((names.map λ(n,k)=>if(k==NameKind.free&&env.scope.kind== .function&&env.kindOf n==U .cell) then(n,NameKind.cell) else(n,k)).lookup x=U .cell\/
   (names.map λ(n,k)=>if(k==NameKind.free&&env.scope.kind== .function&&env.kindOf n==U .cell) then(n,NameKind.cell) else(n,k)).lookup x=U .free)->(x,NameKind.free)∈names
 |[],_,h=>by simp at h
 |(n,k)::r,hc,h=>by
  have hk:=hc (n,k) Gaj;rw[Gay] at h;dsimp only at h;split at h
  .rename_i q;have q1:k= .free:=by
    simp_all
   subst q1;rw[Gbi] at h;cases hx:x==n with
   |true=>rw[Gbv] at hx;subst hx;exact Gaj
   |false=>rw[hx] at h;exact Gaf _ (mw (λy hy=>hc y (Gaf _ hy)) h)
  .rw[Gbi] at h;cases hx:x==n with
   |true=>
    simp_all
   |false=>rw[hx] at h;exact Gaf _ (mw (λy hy=>hc y (Gaf _ hy)) h)
theorem fL{env:PySem.Env}:∀{names:List (Str×ZS)},names.lookup x=U .free->((names.map λ(n,k)=>if(k==NameKind.free&&env.scope.kind== .function&&env.kindOf n==U .cell) then(n,NameKind.cell) else(n,k)).lookup x=U .cell\/
   (names.map λ(n,k)=>if(k==NameKind.free&&env.scope.kind== .function&&env.kindOf n==U .cell) then(n,NameKind.cell) else(n,k)).lookup x=U .free)
 |[],h=>by simp at h
 |(n,k)::r,h=>by
  rw[Gbi] at h;rw[Gay];dsimp only;cases hx:x==n with
  |true=>
   rw[hx] at h;cases h
   split
   .left;rw[Gbi,hx]
   .right;rw[Gbi,hx]
  |false=>
   rw[hx] at h;split
   .rw[Gbi,hx];exact fL h
   .rw[Gbi,hx];exact fL h
noncomputable def blk(X:Cx)(scope:ZO)(cl:List (Str×ZG))(C:ZG)(N:List Str)(s:ZI)(H:Hp)(ex:List ZG):Cx:=
 {X with N:=N,s₀:=s,H0:=H,env:=compEnvC scope cl C X.env,outer:=X.stack,ex:=ex,fn:=λ_=>M,pn:=[],xe:=λ_ _=>False}
def Ac:Option ZS->Bool
 |some .cell=>O
 |some .free=>O
 |_=>M
structure ik(X:Cx)(scope:ZO)(N:List Str)(n:Nat)(ay:List Nat):Prop where
 cell:(scope.names.all λy=>y.2 != .cell)=O
 kind:scope.kind= .function
 names:(scope.names.all λy=>y.2 != .local||scope.names.lookup y.1==U .local)=O
 free:(scope.names.all λy=>y.2 != .free||Ac (X.env.kindOf y.1))=O
 cap:N.drop n=ay.map λi=>(X.N[i]?).getD ("":Str)
 le:n<=N.length
 lt:(ay.all λi=>decide (i<X.N.length))=O
 fr:((N.drop n).all λx=>scope.names.lookup x==U .free)=O
def qe(X:Cx)(ifs:List ZJ)(tt:TT):Prop:=∀(e8:LAO) (s:ZI) (Z:St) (H:Hp) (Q:Bool->Hp->Prop),Inv X e8 Z H s->tt Z H Q->
 wpAny (model X.prog X.w) X.A (forIn ifs O λc r=>if r=O then do let ok<-isTrue c X.env (eval c X.env);pure (ForInStep.yield ok) else pure (ForInStep.yield r)) (TP X e8 Z Q) X.xe s
def Fb:qe X [] (tT X fK):=λe8 s Z H Q I ⟨_,_,_,_,_,e,k⟩=>by
 cases e;exact wpAny_tests_nil ⟨H,I,k H bF⟩
def Fc(h:PTd X c t):qe X [c] (tT X t):=λe8 s Z H Q I q=>wpAny_tests_one (h e8 s Z H Q I q)
def qf{ay:List Nat}{n j:Nat}{α:Type}{f:Nat->Option α}{y:α}(h:(List.replicate n (J:Option α)++ay.map f)[j]? =U (U y)):∃i,ay[j -n]? =U i/\n<=j/\f i=U y:=by
 by_cases hj:j<n
 .rw[GaR (by simpa using hj),Gcz] at h;lia
 .rw[GaM (by simp;lia),GdB,Gap] at h;cases q:ay[j -n]? with
  |none=>rw[q] at h;cases h
  |some i=>rw[q] at h;simp only[Gcj,GcK] at h;exact⟨i,rfl,by lia,h⟩
def HQ{ay:List Nat}{j:Nat}{α:Type}{f:Nat->Option α}(h1:ay[j -n]? =U i)(h2:n<=j):(List.replicate n (J:Option α)++ay.map f)[j]? =U (f i):=by
 rw[GaM (by simp;lia),GdB,Gap,h1];rfl
noncomputable def kz(n:Nat)(ay:List Nat)(Z:St):St:=List.replicate n J++ay.map λi=>Z[i]?.getD J
def lP(eC:ZG->Prop)(env:Env)(Z:St)(p:ZG):ZG->Prop:=λa=>a=p\/¬Cln eC env Z a
theorem getD_some{α:Type}{o:Option (Option α)}{y:α}(h:o.getD J=U y):o=U (U y):=by
 cases o with
 |none=>cases h
 |some z=>simp only[Option.getD_some] at h;rw[h]
def Ad(e:(Zx n ay env)[j]? =U (U sl)):∃i,ay[j -n]? =U i/\n<=j/\dh (env[i]?.getD J)=U sl:=qf e
def D9{j:Nat}(t:b5 (Zx n ay env)[j]?)(e:(kz n ay Z)[j]? =U (U (.ref a))):∃i:Nat,b5 env[i]? /\Z[i]? =U (U (.ref a)):=by
 cases q:(Zx n ay env)[j]? with
 |none=>rw[q] at t;exact t.elim
 |some z=>
  cases z with
  |none=>rw[q] at t;exact t.elim
  |some sl=>
   obtain⟨i,e1,e2,e3⟩:=Ad q;obtain⟨i',Wi,_,Z8⟩:=qf e;rw[e1] at Wi;cases Wi
   refine⟨i, ?_,getD_some Z8⟩;rw[q] at t;cases r:env[i]? with
   |none=>rw[r] at e3;cases e3
   |some z=>cases z with
    |none=>rw[r] at e3;cases e3
    |some z=>
     rw[r] at e3;cases z with
     |sh d=>cases e3;exact t.elim
     |own d=>trivial
     |lok d=>trivial
     |bor d=>trivial
theorem Lb{j:Nat}:¬isO (Zx n ay env)[j]? :=λt=>by
 match q:(Zx n ay env)[j]?,t with
 |some (U (.own d)),_=>
  obtain⟨i,_,_,e3⟩:=Ad q;cases q:env[i]?.getD J with
  |none=>rw[q] at e3;cases e3
  |some z=>rw[q] at e3;cases z<;>cases e3
variable{H:Hp}
def av.block{K:ai}(E:av K H0 eC env Z H)(n:Nat)(ay:List Nat)(hp:H p=J):
  av K H (lP eC env Z p) (Zx n ay env) (kz n ay Z) (upd H p (.lst [])):=by
 have sm:c9 H (upd H p (.lst [])):=aW hp;have slot:∀(j:Nat) (sl:Slot),(Zx n ay env)[j]? =U (U sl)->∃i,ay[j -n]? =U i/\n<=j/\dh (env[i]?.getD J)=U sl:=λj sl e=>qf e;have noO:∀(j:Nat) d,(Zx n ay env)[j]? ≠U (U (.own d))/\(Zx n ay env)[j]? ≠U (U (.lok d)):=λj d=>by
  constructor<;>
  .intro e;obtain⟨i,_,_,e3⟩:=slot j _ e;cases q:env[i]?.getD J with
   |none=>rw[q] at e3;cases e3
   |some z=>rw[q] at e3;cases z<;>cases e3
 have topAd:∀(j:Nat) a,b5 (Zx n ay env)[j]? ->(kz n ay Z)[j]? =U (U (.ref a))->∃i:Nat,b5 env[i]? /\Z[i]? =U (U (.ref a)):=λj a t e=>D9 t e;have xf:∀b,Cln eC env Z b->H b≠J->Cln (lP eC env Z p) (Zx n ay env) (kz n ay Z) b:=λb h hb=>by
  refine⟨λz=> ?_,λj t e=> ?_⟩
  .rcases z with z|z
   .subst z;exact hb hp
   .exact z h
  .obtain⟨i,t',e'⟩:=topAd j b t e;exact h.2 i t' e'
 refine⟨sm, ?_, ?_, ?_, ?_, ?_, ?_⟩
 .simp[Zx,kz]
 .intro a ha;rcases ha with ha|ha
  .subst ha;rw[aD];simp
  .intro z;refine ha ⟨λb=>E.bad a b (sm.free z),λi t e=>E.nq t e (sm.free z)⟩
 .intro j d e;obtain⟨i,e1,e2,e3⟩:=slot j _ e;have q:env[i]? =U (U (.sh d)):=by
   cases r:env[i]? with
   |none=>rw[r] at e3;cases e3
   |some z=>cases z with
    |none=>rw[r] at e3;cases e3
    |some z=>rw[r] at e3;cases z<;>cases e3;rfl
  obtain⟨v,h1,h2⟩:=E.sh i d q;refine⟨v, ?_,h2.gen (.ZC sm) xf⟩;unfold kz;rw[HQ e1 e2,h1];rfl
 .intro j d e;rcases e with e|e
  .exact absurd e (noO j d).1
  .exact absurd e (noO j d).2
 .intro j d e;obtain⟨i,e1,e2,e3⟩:=slot j _ e;have q:b5 env[i]? /\(env[i]? =U (U (.own d))\/env[i]? =U (U (.lok d))\/env[i]? =U (U (.bor d))):=by
   cases r:env[i]? with
   |none=>rw[r] at e3;cases e3
   |some z=>cases z with
    |none=>rw[r] at e3;cases e3
    |some z=>
     rw[r] at e3;cases z with
     |sh d=>cases e3
     |own d=>cases e3;exact⟨trivial,.inl rfl⟩
     |lok d=>cases e3;exact⟨trivial,.inr (.inl rfl)⟩
     |bor d=>cases e3;exact⟨trivial,.inr (.inr rfl)⟩
  have fact:∃a,Z[i]? =U (U (.ref a))/\Wr H a/\d.top=O/\Inn K (Cln eC env Z) H d (.ref a):=by
   rcases q.2 with q|q|q
   .obtain⟨a,h1,_,_,h4,h5,h6⟩:=E.ow i d (.inl q);exact⟨a,h1,h4,h5,h6⟩
   .obtain⟨a,h1,_,_,h4,h5,h6⟩:=E.ow i d (.inr q);exact⟨a,h1,h4,h5,h6⟩
   .exact E.bo i d q
  obtain⟨a,h1,h4,h5,h6⟩:=fact;refine⟨a, ?_,h4.same sm,h5,h6.gen (.ZC sm) xf λ_ _ _ o e=>sm _ o e⟩;unfold kz;rw[HQ e1 e2,h1];rfl
 .intro j k a t;exfalso;cases q:(Zx n ay env)[j]? with
  |none=>rw[q] at t;exact t
  |some z=>cases z with
   |none=>rw[q] at t;exact t
   |some z=>cases z with
    |sh d=>rw[q] at t;exact t
    |own d=>exact(noO j d).1 q
    |lok d=>exact(noO j d).2 q
    |bor d=>rw[q] at t;exact t
def av.grow{K:ai}{H0:Hp}{eC:ZG->Prop}(E:av K H0 eC env Z H)(hb:eC p)(h0:H0 p=J)(hp:H p=U (.lst vs))(hl:∀i:Nat,A3 env[i]? ->Z[i]? ≠U (U (.ref p))):av K H0 eC env Z (upd H p (.lst us)):=by
 have dM:i9 (Cln eC env Z) H (upd H p (.lst us)):=λb o e q=>by
  refine(ao ?_).trans e;rintro rfl;rcases q with q|q
  .exact q.1 hb
  .rw[hp] at e;cases e;exact q
 have wr:∀{a},Wr H a->Wr (upd H p (.lst us)) a:=λ{a} ⟨o,h1,h2⟩=>by
  by_cases z:a=p
  .subst z;exact⟨_,aD,trivial⟩
  .exact⟨o,(ao z).trans h1,h2⟩
 refine⟨λb o e=>(ao λz=>by subst z;rw[h0] at e;cases e).trans (E.same b o e),E.len,λa ha=> ?_,λi d e=> ?_,λi d e=> ?_,λi d e=> ?_,E.dj⟩
 .by_cases z:a=p
  .subst z;rw[aD];simp
  .rw[ao z];exact E.bad a ha
 .obtain⟨v,h1,h2⟩:=E.sh i d e;exact⟨v,h1,h2.gen dM λ_ f _=>f⟩
 .obtain⟨a,h1,h2,h3,h4,h5,h6⟩:=E.ow i d e;refine⟨a,h1,h2,h3,wr h4,h5,h6.gen dM (λ_ f _=>f) λb eb _ o q=> ?_⟩;cases eb;exact(ao (λz:a=p=>h3 (by rw[z];exact hb))).trans q
 .obtain⟨a,h1,h4,h5,h6⟩:=E.bo i d e;refine⟨a,h1,wr h4,h5,h6.gen dM (λ_ f _=>f) λb eb _ o q=> ?_⟩;cases eb;exact(ao (λz:a=p=>hl i (by rw[e];trivial) (by rw[<-z];exact h1))).trans q
def ex7{a b c d e f g:Type}{P:a->b->c->d->e->f->g->Prop}{G:Prop}(h:∀x1 x2 x3 x4 x5 x6 x7,P x1 x2 x3 x4 x5 x6 x7->G):(∃x1 x2 x3 x4 x5 x6 x7,P x1 x2 x3 x4 x5 x6 x7)->G:=λ⟨x1,x2,x3,x4,x5,x6,x7,q⟩=>h x1 x2 x3 x4 x5 x6 x7 q
structure CoI(X:Cx)(scope:ZO)(cl:List (Str×ZG))(C:ZG)(N:List Str)(s:ZI)(H:Hp)(fp:List ZG)(tn:Nat->ZK->Prop)(eC:ZG->Prop)(env:Env)(Z:St)(p:ZG)(gd:DG)(t:DT)(f:DE)(ds rs:List D)(m:Nat)(s' :ZI)(i:Nat)(Zi:St)(Hi:Hp)(eK:Env)(vs:List V)(done rest:List D):Prop where
 em:m=ds.length -i
 hi:i<=ds.length
 Ii:Inv (blk X scope cl C N s H fp) [] Zi Hi s'
 sti:tn i s'.heap
 fri:∀b∈fp,Hi b=J
 Ei:av X.K H (lP eC env Z p) eK Zi Hi
 hpi:Hi p=U (.lst vs)
 ri:aN X.K (λb=>Cln eC env Z b/\b≠p) Hi done vs
 owi:∀j:Nat,¬isO eK[j]?
 lbi:∀(j:Nat) a,A3 eK[j]? ->Zi[j]? =U (U (.ref a))->¬Cln eC env Z a
 dl:done.length<=i
 ci:cB gd t f (ds.drop i) eK=U rest
 eqi:done++rest=rs
section
def ip{scope:ZO}(h:scope.names.lookup x=U .local):(relabel scope env).names.lookup x=U .local:=lookup_relabel_local h
def Fd{scope:ZO}(h:scope.names.lookup x=U .local):Vis (blk X scope cl C N s H ex).env.scope x:= .inl (ip h)
def Fe{scope:ZO}(h:scope.names.lookup x=U .local):Loc (blk X scope cl C N s H ex).env.scope x:= .inl (ip h)
def HR{scope:ZO}(h:scope.names.lookup x=U .free):Vis (blk X scope cl C N s H ex).env.scope x:= .inr (fL h)
variable{Z:St}
def Ff{X:Cx}{scope:ZO}{cl:List (Str×ZG)}{s:ZI}{h₁:ZK}{C:ZG}(S:ik X scope N n ay)(I:Inv X e8 Z H s)
  (yR:∀x c,cl.lookup x=U c->X.env.cells.lookup x=U c)(Wy:∀y∈scope.names,y.2= .free->∃c,cl.lookup y.1=U c)(hf:∀b∈fp,mj X e8 H b)(Wz:∀b∈fp,b<s.heap.objs.size)
  (hC:s.heap.objs.size+1=C)(zA:h₁.Ns C λ_=>J)(old:∀b o,s.heap.get? b=U o->h₁.get? b=U o)(yi:h₁.get? s.heap.objs.size=U {cls:= .type "list",data:= .seq ([]:List ZH).toArray}):
  Inv (blk X scope cl C N s H fp) [] (kz n ay Z) (upd H s.heap.objs.size (.lst [])) {s with heap:=h₁,toks:=tk}:=by
 have zd:=I.fresh;have hCn:H C=J:=I.hok.fresh (by lia);have xy:C≠s.heap.objs.size:=λz=>by rw[z] at hC;exact Nat.succ_ne_self _ hC
 have xo:∀y∈scope.names,y.2≠ .cell:=λy hy z=>by
  have:=Gar.mp S.cell y hy;rw[z] at this;simp at this
 have cells:∀x c,cl.lookup x=U c->∃v,s.heap.IsCell c v:=λx c e=>I.cell x c (yR x c e);have cNe:∀x c,cl.lookup x=U c->c≠s.heap.objs.size:=λx c e z=>by
  obtain⟨v,q⟩:=cells x c e;exact absurd q.lt (by rw[z];exact Gbz _)
 refine⟨⟨I.ok.mod,S.kind,I.ok.glob,I.ok.blt,by show s.heap.objs.size<=C;lia,λx y c e1 e2=>I.ok.inj x y c (yR x c e1) (yR y c e2),λx hx=> ?_,λx c e=>(by cases e),I.ok.hd,I.ok.frames,.inl rfl,λb hb=> ⟨?_,λx c e=>(hf b hb).2.2.2.2.1 x c (yR x c e)⟩,
  I.bs,Gbo I.ok.bsz I.sz,λb o e hb=> ?_,λb hb hs=> ?_,I.stack,I.CM⟩,rfl,I.bare,Un.laid old (Gan _) zd,⟨_,zA,λj x v e1 e2 e3=> ?_⟩,λx c e=> ?_,(ao xy).trans hCn,λx c e=>(ao (cNe x c e)).trans (I.jP x c (yR x c e)),λp hp=> ?_, ?_, ?_⟩
 .obtain⟨c,hc⟩:=Wy (x,.free) (mw xo hx) rfl;exact⟨c,hc⟩
 .intro z;have:=Wz b hb;have z' :b=C:=z;rw[z',<-hC] at this;exact Gbz _ (Nat.lt_of_succ_lt this)
 .rcases(hf b hb).2.2.2.1 with z|z
  .exact I.ok.K8 b o e z
  .exact absurd (GaJ (Gaz e) (Gbo I.ok.bsz z)) (Gbz _)
 .have xO :b∈frs X.stack:=hs;rcases Gat.mp (I.Bq b xO) with z|z
  .exact(hf b hb).2.1 z
  .exact(hf b hb).2.2.1 z
 ·
  obtain⟨i,f1,f2,f3⟩:=qf e2;have f3' :=getD_some f3;have Wi :N[j]? =U x:=e1;have hd:(N.drop n)[j -n]? =U x:=by rw[Gdg];rw[show n+(j -n)=j by lia];exact Wi
  have hxf:scope.names.lookup x=U .free:=by
   have:=Gar.mp S.fr x (Gax hd)
   simpa using this
  rw[S.cap,Gap,f1] at hd;have hi:i<X.N.length:=Gaq (Gar.mp S.lt i (Gax f1));have hXN:X.N[i]? =U x:=by
   simp only[Gcj,GcK] at hd;rw[Gac hi] at hd⊢
   simpa using hd
  have hk:Ac (X.env.kindOf x)=O:=by
   have:=Gar.mp S.free (x,.free) (mem_of_lookup hxf)
   simpa using this
  have xw :X.env.kindOf x=U .cell\/X.env.kindOf x=U .free:=by
   cases q:X.env.kindOf x with
   |none=>rw[q] at hk;cases hk
   |some z=>rw[q] at hk;cases z<;>first|(cases hk;done)|exact .inl rfl|exact .inr rfl
  obtain⟨m,hm,look⟩:=I.loc;have hv:Vis X.env.scope x:= .inr xw;obtain⟨u,ru,l⟩:=look i x v hXN f3' hv;refine⟨u,ru,.inr ⟨?_, ?_⟩⟩
  .exact fL hxf
  .rcases l with⟨l,_⟩| ⟨_,c,hc,o,ho,yC⟩
   .rcases xw with z|z<;>rw[l] at z<;>cases z
   .obtain⟨c',yo⟩:=Wy (x,.free) (mem_of_lookup hxf) rfl;have:=yR x c' yo;rw[hc] at this;cases this
    exact⟨c,yo,o,old _ _ ho,yC⟩
 .obtain⟨v,o,ho,yC⟩:=cells x c e;exact⟨v,o,old _ _ ho,yC⟩
 .cases hp
 .exact I.hok.laid old (Gan _) ⟨Gba _,[],0,.nil,yi⟩
 .show(kz n ay Z).length=N.length;have:=congrArg List.length S.cap;rw[Gcs,Gae] at this;have:=S.le;simp[kz];lia
def Lc{Z' :St}(I:Inv X e8 Z H s)(hf:∀b∈fp,mj X e8 H b)
  (I' :Inv (blk X scope cl C N s H fp) pins' Z' H' s'):Inv X e8 Z H' s' :=
 I.ML I'.os I'.base I'.hok I'.bare λb hb=> ⟨(hf b hb).2.2.2.1,(hf b hb).2.1,(hf b hb).2.2.2.2.1,(hf b hb).2.2.2.2.2⟩
def Se(K:ai)(H H' :Hp)(F:ZG->Prop)(p:ZG)(rs:List D):Prop:=c9 H H' /\H p=J/\∃vs,H' p=U (.lst vs)/\aN K (λb=>F b/\b≠p) H' rs vs
def pj(gd:DG):Prop:=∀d e e',gd d e=U e' ->(∀j:Nat,¬isO e[j]?)->∀j:Nat,¬isO e'[j]?
def Dc{e:Env}(h:∀j:Nat,¬isO e[j]?):∀j:Nat,¬isO (e.set i (U (.sh d)))[j]? :=λj z=>by
 by_cases q:i=j
 .subst q;by_cases hl:i<e.length
  .rw[Gbs hl] at z;exact z
  .rw[GbD (by simp;lia)] at z;exact z
 .simp_all
def HS:pj (gN i):=λd e e' h n=>by cases h;exact Dc n
theorem uq:∀(is:List Nat) (ds:List D) e e',gNs is ds e=U e' ->(∀j:Nat,¬isO e[j]?)->∀j:Nat,¬isO e'[j]?
 |[],[],e,e',h,n=>by cases h;exact n
 |i::is,d::ds,e,e',h,n=>uq is ds _ e' h (Dc n)
 |[],_::_,_,_,h,_=>by cases h
 |_::_,[],_,_,h,_=>by cases h
def HU:pj (gT is):=λd e e' h n=>by
 unfold gT at h;split at h
 .exact uq is _ e e' h n
 .cases h
def ox{X:Cx}{scope:ZO}{cl:List (Str×ZG)}{H:Hp}{s:ZI}{fp:List ZG}{tn:Nat->ZK->Prop}{t:DT}{ds:List D}{RR:ZH->ZG->Result->ZI->Prop}
      (hc:X.calm=O)(S:ik X scope N n ay)(I:Inv X e8 Z H s)
  (yR:∀x c,cl.lookup x=U c->X.env.cells.lookup x=U c)(Wy:∀y∈scope.names,y.2= .free->∃c,cl.lookup y.1=U c)(hf:∀b∈fp,mj X e8 H b)(T:Turn X.prog X.w X.K tg Zp fp it tn)(st:tn 0 s.heap)
  (hg:∀C s' H',PGd (blk X scope cl C N s' H' fp) tg gd)(ht:∀C s' H',qe (blk X scope cl C N s' H' fp) ifs (tT X t))(he:∀C s' H',PEd (blk X scope cl C N s' H' fp) elt f)
  (EE:av X.K H0 eC env Z H)(io:BH X.K (λb=>Cln eC env Z b/\H b≠J) (λb=>¬Ow env Z b) Zp ds H)(yJ:pj gd)(hz:ds.length<=af)(hl:cB gd t f ds (Zx n ay env)=U rs)
  (Z1:∀p C s' H' m,Inv X e8 Z H' s' ->s'.heap.Ns C m->s.heap.objs.size<=C->mj X e8 H' C->Se X.K H H' (Cln eC env Z) p rs->RR (.ref p) C (.ok .next) s'):
  wpAny (model X.prog X.w) X.A (newList []) (λacc s₃=>wpAny (model X.prog X.w) X.A (newFunctionEnv scope X.env.globals cl [] X.env.qual J .none (U X.env)) (λWk s₄=>
   codeAny (model X.prog X.w) X.A (.compStart (.ListComp elt [⟨tg,iter,ifs,0⟩] scope pos) 0 (.ref it) acc {Wk with scope:=relabel scope X.env}) (RR acc Wk.locals) s₄) E s₃) E s:=by
 have xo:∀y∈scope.names,y.2≠ .cell:=λy hy z=>by
  have:=Gar.mp S.cell y hy;rw[z] at this;simp at this
 refine Gbj (wpAny_newFunctionEnv xo (by intro y hy;simp at hy) (λh₁ hns₁ hsb₁=> ?_) S.kind);dsimp only at hns₁ hsb₁⊢;generalize yp:s.heap.push {cls:= .type "list",dict:=J,data:= .seq ([]:List ZH).toArray}=H2 at hns₁ hsb₁⊢;have hC:s.heap.objs.size+1=H2.objs.size:=by rw[<-yp,GbY]
 have hDC:s.heap.objs.size≠H2.objs.size:=by rw[<-hC];exact GaI (Gdy _)
 have hCle:s.heap.objs.size<=H2.objs.size:=by rw[<-hC];exact GbO _
 have old:∀b o,s.heap.get? b=U o->h₁.get? b=U o:=λb o e=>hsb₁.extBut b o (by rw[<-hC];exact GaI (GbW (Gaz e))) (Gag _ (yp▸Gag _ e));have yi:h₁.get? s.heap.objs.size=U {cls:= .type "list",data:= .seq ([]:List ZH).toArray}:=hsb₁.extBut _ _ hDC (Gag _ (yp▸Gaw _ rfl));have Wz:∀b∈fp,b<s.heap.objs.size:=λb hb=>by obtain⟨o,e,_⟩:=T.obj 0 _ st b hb;exact Gaz e
 have st₁:tn 0 h₁:=T.keep 0 _ _ st λb _ o e=>old b o e;have zd:=I.fresh;generalize hC' :H2.objs.size=C at*;have I1:Inv (blk X scope cl C N s H fp) [] (kz n ay Z) (upd H s.heap.objs.size (.lst [])) {s with heap:=h₁,toks:=s.toks+([]:List (Str×ZH)).length}:=Ff S I yR Wy hf Wz hC (by
  have z:(λx:Str=>([]:List (Str×ZH)).reverse.lookup x)=λ_=>J:=by funext x;rfl
  rw[z] at hns₁;exact hns₁) old yi
 have E1:=EE.block n ay zd;generalize hp:s.heap.objs.size=p at*;have loop:codeAny (model X.prog X.w) X.A (.compLoop (.ListComp elt [⟨tg,iter,ifs,0⟩] scope pos) 0 (.ref it) (.ref p) (compEnvC scope cl C X.env)) (RR (.ref p) C) {s with heap:=h₁,toks:=s.toks+([]:List (Str×ZH)).length}:=by
  refine codeAny_loop rfl (λm s' =>∃i Zi Hi eK vs done rest,CoI X scope cl C N s H fp tn eC env Z p gd t f ds rs m s' i Zi Hi eK vs done rest) ?_ ds.length ?_
  .refineλm s' =>ex7 λi Zi Hi eK vs done rest J0=> ?_
   have e0:=J0.em;subst e0;have hi:=J0.hi;have Ii:=J0.Ii;have sti:=J0.sti;have fri:=J0.fri;have Ei:=J0.Ei;have hpi:=J0.hpi;have ri:=J0.ri;have owi:=J0.owi;have lbi:=J0.lbi;have dl:=J0.dl;have ci:=J0.ci;have eqi:=J0.eqi;have hfi:∀{H' :Hp},(∀b∈fp,H' b=J)->∀b∈fp,mj (blk X scope cl C N s H fp) [] H' b:=λhn b hb=>by
    refine⟨hn b hb,(Ii.ok.exf b hb).1,Ii.ok.K9 b hb,.inl hb,(Ii.ok.exf b hb).2,λq hq=>(by cases hq)⟩
   have y1:∀b o,H b=U o->Hi b=U o:=Ei.same;obtain⟨items,stop⟩:=io Hi λb o hb _=>y1 b o hb;show wpAny _ X.A ((compTurn (.ListComp elt [⟨tg,iter,ifs,0⟩] scope pos) 0 (.ref it) (.ref p) (compEnvC scope cl C X.env)).onRaise (λx=>do noteFrame x (compEnvC scope cl C X.env);theTreesLotGoes x)) _ _ s';refine wpAny_noted ?_;rw[compTurn_list];refine Gab (wpAny_standAt (Gab ?_));by_cases eY:i<ds.length
   .obtain⟨go,yld⟩:=items i ds[i] (by simp[eY]);refine thn (T.item (blk X scope cl C N s H fp) rfl rfl rfl hc i [] s' Zi Hi _ Ii (hfi fri) sti go) λr s4 ⟨u,hr,h4⟩=> ?_;subst hr;refine Gab (thn h4 λ_ s5 ⟨x,H5,I5,r5,y5,yX,Xm⟩=> ?_);obtain⟨s2,rep⟩:=yld x H5 y5;have I5' :=I5.pinned (hfi Xm) (T.obj _ _ yX);have hd:ds.drop i=ds[i]::ds.drop (i+1):=GbN eY;rw[hd] at ci;unfold cB at ci;obtain⟨e2,yB,ci⟩:=eh ci;obtain⟨bb,hU,ci⟩:=eh ci;have clnIn:∀b,Cln eC env Z b/\H b≠J->Cln (lP eC env Z p) eK Zi b:=λb ⟨q1,q2⟩=>by
     refine⟨λz=>z.elim (λz=>q2 (by rw[z];exact zd)) λz=>z q1,λj tj ej=> ?_⟩;rcases uh tj with o|o
     .exact owi j o
     .exact lbi j b o ej q1
    refine Gab (thn (Gcc (hg C s H _ s5 Zi H5 x u (λZ6 H6=>av X.K H (lP eC env Z p) e2 Z6 H6/\Stp eK Zi H5 e2 Z6 H6) I5' r5 ⟨H,lP eC env Z p,eK,ds[i],e2,Ei.mono s2,yB,rep.imp clnIn,λZ' H' E' p' => ⟨E',p'⟩⟩) (λ_ _ q=>q) λ_ _ q=>q.elim) λ_ s6 ⟨Z6,H6,I6,E6,p6⟩=> ?_);have WQ:=yJ _ _ _ yB owi;have s56:c9 H5 H6:=λb o e=>p6.keep b o e λ⟨j,z,_⟩=>owi j z;have XA:∀(j:Nat) a,A3 e2[j]? ->Z6[j]? =U (U (.ref a))->¬Cln eC env Z a:=λj a z ej=>by
     obtain⟨q1,q2⟩:=p6.lk j z;rw[q1] at z;rw[q2] at ej
     exact lbi j a z ej
    have again:∀{H7:Hp} {s7:ZI} {Wl :List V} {xU xM :List D},Inv (blk X scope cl C N s H fp) ([]++qp fp s5.heap) Z6 H7 s7->av X.K H (lP eC env Z p) e2 Z6 H7->H7 p=U (.lst Wl)->aN X.K (λb=>Cln eC env Z b/\b≠p) H7 xU Wl ->
      xU.length<=i+1->cB gd t f (ds.drop (i+1)) e2=U xM ->xU ++xM =rs->
      ∃m,m<ds.length -i/\∃i Zi Hi eK vs done rest,CoI X scope cl C N s H fp tn eC env Z p gd t f ds rs m s7 i Zi Hi eK vs done rest:=by
     intro H7 s7 Wl xU xM I7 E7 Wv r7 Za c7 q7;refine⟨ds.length -(i+1),by lia,i+1,Z6,H7,e2,Wl,xU,xM,⟨rfl,eY,I7.mY,T.keep _ _ _ yX λb hb o e=>(I7.pin (b,o) (Gbl _ (Gbl _ (jQ hb e)))).1,λb hb=> ?_,E7,Wv,r7,WQ,XA,Za,c7,q7⟩⟩;obtain⟨o,e,d⟩:=T.obj _ _ yX b hb;exact(I7.pin (b,o) (Gbl _ (Gbl _ (jQ hb e)))).2.1
    refine Gab (thn (Gcc (ht C s H _ s6 Z6 H6 (λb' H7=>b' =bb/\c9 H6 H7) I6 ⟨H,lP eC env Z p,e2,bb,E6,hU,λH' s' => ⟨rfl,s'⟩⟩) (λ_ _ q=>q) λ_ _ q=>q.elim) λok s7 ⟨H7,I7,hok,Xx⟩=> ?_);subst hok;have sAll:c9 Hi H7:=s2.trans (s56.trans Xx);have E7:=E6.mono Xx;have Wv:H7 p=U (.lst vs):=sAll _ _ hpi;have r7:=ri.gen (F' :=λb=>Cln eC env Z b/\b≠p) (.ZC sAll) λ_ q _=>q;cases ok with
    |false=>
     rw[Gai GaB] at ci;exact Gad ⟨rfl,again I7 E7 Wv r7 (Nat.le_succ_of_le dl) ci eqi⟩
    |true=>
     rw[Gao rfl] at ci;obtain⟨r,hr,ci⟩:=eh ci;split at ci
     .rename_i yc;obtain⟨xM,c8,rfl⟩:=Gaa.mp ci;refine Gab (Gab (thn (Gcc (he C s H _ s7 Z6 H7 (λv H8=>c9 H7 H8/\iV X.K H (lP eC env Z p) e2 Z6 H7 H8 r v) I7 ⟨H,lP eC env Z p,e2,r,E7,hr,λv H' s' R=> ⟨s',R⟩⟩) (λ_ _ q=>q) λ_ _ q=>q.elim) λy s8 ⟨v,H8,I8,ry,WL,R⟩=> ?_));have E8:=E7.mono WL;have X4:H8 p=U (.lst vs):=WL _ _ Wv;have r8:=(r7.gen (F' :=λb=>Cln eC env Z b/\b≠p) (.ZC WL) λ_ q _=>q)
      have vr:Rep X.K (λb=>Cln eC env Z b/\b≠p) H8 r.d v:=(R.rep E7 yc).imp λb q=> ⟨Classical.byContradiction λz=>q.1 (.inr z),λz=>q.1 (.inl z)⟩;have eL:vs.length<sizeLine:=by
       rw[<-eU,<-ri.1];lia
      refine Gab (thn (Gcc (oh (X:=blk X scope cl C N s H fp) _ s8 Z6 H8 (.ref p) [v] (.ref p) [y] (λ_ H9=>H9=upd H8 p (.lst (vs++[v]))) I8 rfl (.cons ry .nil) ⟨p,vs,v,rfl,rfl,X4,eL,rfl⟩) (λ_ _ q=>q) λ_ _ q=>q.elim) λ_ s9 ⟨_,H9,I9,_,h9⟩=> ?_);subst h9;have lbp:∀j:Nat,A3 e2[j]? ->Z6[j]? ≠U (U (.ref p)):=λj z ej=>XA j p z ej (EE.vt zd);have dM:i9 (λb=>Cln eC env Z b/\b≠p) H8 (upd H8 p (.lst (vs++[v]))):=λb o e q=>by
       refine(ao ?_).trans e;rintro rfl;rcases q with q|q
       .exact q.2 rfl
       .rw[X4] at e;cases e;exact q
      refine Gad (Gad ⟨rfl,again I9 (E8.grow (.inl rfl) zd X4 lbp) aD ((r8.append (aN.cons vr .nil)).gen dM λ_ q _=>q) (by simp;lia) c8 ?_⟩);rw[<-eqi,Gbd];rfl
     .cases ci
   .have xb :i=ds.length:=by lia
    subst xb;rw[List.drop_length] at ci;cases ci;rw[Gbh] at eqi;subst eqi;refine thn (T.done (blk X scope cl C N s H fp) rfl rfl rfl hc ds.length [] s' Zi Hi _ Ii (hfi fri) sti stop) λr s4 ⟨hr,I4⟩=> ?_;subst hr;obtain⟨m,hm,_⟩:=I4.loc;have IX:=Lc I hf I4;exact Gad (Z1 p C s4 Hi m IX hm hCle ⟨I4.free,(I.EB (by rw[hp];exact hCle) (I.hok.fresh (by rw[hp];exact hCle))).2⟩ ⟨y1,zd,vs,hpi,ri⟩)
  .exact⟨0,_,_,_,[],[],rs,⟨by simp,Gba _,I1,st₁,λb hb=>(ao (by rintro rfl;exact Gbz _ (Wz _ hb))).trans (hf b hb).1,E1,aD,aN.nil,λj=>Lb,λj a z e=>by
    obtain⟨i,t1,t2⟩:=D9 z.top e
    exactλq=>q.2 i t1 t2,Gan _,by simpa using hl,rfl⟩⟩
 exact codeAny_compStart_list loop (T.self X.A 0 _ _ _ st₁ loop)
end
section
variable{X:Cx}
def nu:Zx n ay (bc l env)=Zx n ay env:=by
 cases l with
 |none=>rfl
 |some j=>
  unfold bc;dsimp only;split
  .rename_i d q;unfold Zx;congr 1;apply GaO;intro i _;by_cases z:j=i
   .subst z;rw[Gbs (Gak.mp q).1,q]
    rfl
   .simp_all
  .rfl
theorem ik.cells{scope:ZO}{Z:St}(S:ik X scope N n ay)(I:Inv X e8 Z H s):∀y∈scope.names,y.2= .free->∃c,X.env.cells.lookup y.1=U c:=λy hy hf=>by
 have hk:=Gar.mp S.free y hy;rw[hf] at hk;refine I.ok.has y.1 ?_;cases q:X.env.kindOf y.1 with
 |none=>rw[q] at hk;cases hk
 |some z=>rw[q] at hk;cases z<;>first|(cases hk;done)|exact .inl rfl|exact .inr rfl
def ik.BJ{scope:ZO}(S:ik X scope N n ay):∀y∈scope.names,y.2= .local->scope.names.lookup y.1=U .local:=λy hy hl=>by
 have:=Gar.mp S.names y hy;simp_all
structure Blk(X:Cx)(scope:ZO)(N:List Str)(tg elt:ZJ)(ifs:List ZJ)(gd:DG)(t:DT)(f:DE):Prop where
 g:∀cl C s H ex,PGd (blk X scope cl C N s H ex) tg gd
 t:∀cl C s H ex,qe (blk X scope cl C N s H ex) ifs (tT X t)
 e:∀cl C s H ex,PEd (blk X scope cl C N s H ex) elt f
def _root_.L2.Inv.HV{s:ZI}(I:Inv X e8 Z H s)(F:mj X e8 H C)(hs:Heap.SameBut C s.heap h'):Inv X e8 Z H {s with heap:=h' }:=
 I.turned (λb o hb e=>(hs.2 b hb).trans e) F.1 F.2.1 F.2.2.2.1 F.2.2.2.2.1 F.2.2.2.2.2
def Ld(hc:X.calm=O)(S:ik X scope N n ay)(hi:PId X tg iter src)(yJ:pj gd)(B:Blk X scope N tg elt ifs gd t f)
  (hs:∀x,foldedSetIterable iter X.env x=pure x:=by intro _;rfl):PEd X (.ListComp elt [⟨tg,iter,ifs,0⟩] scope pos) (fJ l n ay src gd t f):=by
 intro e8 s Z H Q I hw;obtain⟨H0,eC,env,r,E,e,k⟩:=hw;obtain⟨ds,xu,e⟩:=eh e;split at e
 .rename_i hz;obtain⟨rs,yl,rfl⟩:=Gaa.mp e;obtain⟨EL,lo,hX⟩:=E.lock l;obtain⟨cl,h1,h2,h3⟩:=ji (S.cells I);refine Gdj rfl hs h1 S.kind S.BJ ?_;refine thn (hi e8 s Z H (λZp H' =>c9 H H' /\BH X.K (λb=>Cln eC (bc l env) Z b/\H' b≠J) (λb=>¬Ow (bc l env) Z b) Zp ds H') I ⟨H0,eC,bc l env,ds,EL,xu,λZp H' s' io=> ⟨s',io⟩⟩) λv s1 q1=>thn q1 λzI s2 q2=> ?_;obtain⟨it,fp,tn,Zp,H2,e,I2,T,yY,f2,sH,io⟩:=q2;subst e;refine ox hc S I2 h2 h3 f2 T yY (λC s' H' =>B.g cl C s' H' fp) (λC s' H' =>B.t cl C s' H' fp) (λC s' H' =>B.e cl C s' H' fp) (EL.mono sH) io yJ hz (by rw[nu];exact yl) ?_;intro p C s' H' m IX hm hC hF G;refine⟨m,hm,λh' xO => ⟨.ref p,H',IX.HV hF xO,rfl, ?_⟩⟩;obtain⟨g1,g2,vs,g3,g4⟩:=G;exact k _ H' (sH.trans g1) ⟨p,rfl,sH.free g2,⟨_,g3,trivial⟩,rfl,.lst (.inl g3) (g4.gen (.ZC bF) λb q _=> ⟨⟨q.1.1,λi ti ei=>q.1.2 i ((hX i).mpr ti) ei⟩,q.2⟩)⟩
 .cases e
def Le{pos:Pos}(hN:X.N.Nodup)(xb :X.N[i]? =U x)(hx:Loc X.env.scope x)(hc:X.calm=O)(S:ik X scope N n ay)
  (hi:PId X tg iter src)(yJ:pj gd)(B:Blk X scope N tg elt ifs gd t f)
  (YC:autoParam (swapsWith (.ListComp elt [⟨tg,iter,ifs,0⟩] scope lpos) (U (.Name x pos')) pos.line X.env=pure O) Za1._auto_1)(hs:∀x,foldedSetIterable iter X.env x=pure x:=by intro _;rfl)
  (hf:autoParam (X.fn x=O\/X.env.scope.names.lookup x=U .local) Za3._auto_1):PSd X (.Assign [.Name x pos'] (.ListComp elt [⟨tg,iter,ifs,0⟩] scope lpos) pos) (aq i (fJ l n ay src gd t f)):=by
 intro e8 s Z H D I hw;have hl:=I.len;obtain⟨H0,eC,env,o,E,e,k⟩:=hw;obtain⟨r,hr,e⟩:=eh e;obtain⟨e',ya,rfl⟩:=Gaa.mp e;have hie:=BG E hl xb;obtain⟨ds,xu,hr⟩:=eh hr;split at hr
 .rename_i hz;obtain⟨rs,yl,rfl⟩:=Gaa.mp hr;cases ya;obtain⟨EL,lo,hX⟩:=E.lock l;obtain⟨cl,h1,h2,h3⟩:=ji (S.cells I);rw[exec_Assign_Name_used _ _ _ _ YC];refine Gab (wpAny_standAt (Gab ?_));refine Gab (Gcc (Gdj rfl hs h1 S.kind S.BJ ?_) (λ_ s' hq=>Gad (Gad hq)) λ_ _ e=>e);refine thn (hi e8 s Z H (λZp H' =>c9 H H' /\BH X.K (λb=>Cln eC (bc l env) Z b/\H' b≠J) (λb=>¬Ow (bc l env) Z b) Zp ds H') I ⟨H0,eC,bc l env,ds,EL,xu,λZp H' s' io=> ⟨s',io⟩⟩) λv s1 q1=>thn q1 λzI s2 q2=> ?_;obtain⟨it,fp,tn,Zp,H2,e,I2,T,yY,f2,sH,io⟩:=q2;subst e;refine ox hc S I2 h2 h3 f2 T yY (λC s' H' =>B.g cl C s' H' fp) (λC s' H' =>B.t cl C s' H' fp) (λC s' H' =>B.e cl C s' H' fp) (EL.mono sH) io yJ hz (by rw[nu];exact yl) ?_;intro p C s' H' m IX hm hC hF G;obtain⟨g1,g2,vs,g3,g4⟩:=G;refine wpAny_assign_Name (tW IX hN xb hx (v:= .ref p) rfl (λWm I'' ⟨a,YD,ha⟩=> ?_) hf);have hCa:C≠a:=by
   rcases ha with ha|ha
   .rw[ha];exact hF.2.1
   .exactλz=>hF.2.2.2.2.1 x a ha z.symm
  refine⟨m,hm.sameBut YD hCa,λh' xO => ⟨_,H',I''.HV hF xO, ?_⟩⟩;exact k _ H' (E.qO (sH.trans g1) hie (sH.free g2) ⟨_,g3,trivial⟩ rfl (.lst (.inl g3) (g4.gen (.ZC bF) λb q _=> ⟨⟨q.1.1,λi ti ei=>q.1.2 i ((hX i).mpr ti) ei⟩,q.2⟩))) (.qO (sH.trans g1) hie E.len (sH.free g2))
 .cases hr
end
theorem mz{env:PySem.Env}:∀{names:List (Str×ZS)},names.lookup x=U .globalImplicit->(names.map λ(n,k)=>if(k==NameKind.free&&env.scope.kind== .function&&env.kindOf n==U .cell) then(n,NameKind.cell) else(n,k)).lookup x=U .globalImplicit
 |[],h=>by simp at h
 |(n,k)::r,h=>by
  rw[Gbi] at h;rw[Gay];dsimp only;cases hx:x==n with
  |true=>
   simp_all
  |false=>
   rw[hx] at h;split
   .rw[Gbi,hx];exact mz h
   .rw[Gbi,hx];exact mz h
section
variable{scope:ZO}
def OU(h:scope.names.lookup x=U .globalImplicit):Gl (blk X scope cl C N s H ex) x:=mz h
def OV(h:scope.names.lookup x=U .local):(blk X scope cl C N s H ex).fn x=O\/(blk X scope cl C N s H ex).env.scope.names.lookup x=U .local:= .inr (ip h)
end
section
variable{X:Cx}
def tO(X:Cx)(o:DO):TO:=λZ H Q=>∃H0 eC env i,av X.K H0 eC env Z H/\o env=U i/\∀H',c9 H H' ->Q i H'
def _root_.L2.PO.aG(h:PO X e t')(i:∀Z H Q,t Z H Q->t' Z H Q):PO X e t:=λe8 s Z H Q I q=>h e8 s Z H Q I (i Z H Q q)
def Fg:PO X J (tO X noO):=Kt.aG λZ H Q ⟨_,_,_,_,_,e,k⟩=>by cases e;exact k H bF
def Fh(he:PEd X e f):PO X (U e) (tO X (CY f)):=by
 refine(Ku he).aG ?_;rintro Z H Q ⟨H0,eC,env,o,E,ho,k⟩;obtain⟨r,hr,ho⟩:=eh ho;split at ho
 .rename_i i hd;cases ho;refine⟨H0,eC,env,r,E,hr,λv H1 s1 R=> ?_⟩;have q:=R.inn;rw[hd] at q;cases q;exact⟨i,rfl,k H1 s1⟩
 .cases ho
def qS{K:ai}{F:ZG->Prop}{ds:List D}{vs:List V}{lo hi:Option Int}(r:aN K F H ds vs):aN K F H (cutD ds lo hi) (EM vs lo hi):=by
 unfold cutD EM;rw[<-r.1];exact(r.drop _).take _
theorem Ae{K:ai}:∀{ns:List Int},aN K F H (ns.map .int) (ns.map V.int)
 |[]=> .nil
 |n::ns=> .cons (.int n) Ae
def HW{e:ZJ}{pos:Pos}{lo hi:Option ZJ}{p2:Pos}(he:PEd X e f)(hl:PO X lo (tO X l))(hu:PO X hi (tO X u)):PEd X (.Subscript e (.Slice lo hi J p2) pos) (slE f l u):=by
 refine(Hc (Ky.or NP) he hl hu).aG ?_;rintro Z H Q ⟨H0,eC,env,rv,E,hf,k⟩;obtain⟨r,hr,hf⟩:=eh hf;obtain⟨lv,zk,hf⟩:=eh hf;obtain⟨uv,xN,hf⟩:=eh hf;refine⟨H0,eC,env,r,E,hr,λv H1 s1 R=> ⟨H0,eC,env,lv,E.mono s1,zk,λH2 s2=> ⟨H0,eC,env,uv,(E.mono s1).mono s2,xN,λH3 s3=> ?_⟩⟩⟩;have i3:=(R.inn.same s2).same s3;have s13:=s1.trans (s2.trans s3);unfold slD at hf;split at hf
 .rename_i xs hd;cases hf;rw[hd] at i3;cases i3 with
  |lst hh rr=>exact .inl ⟨_,_,rfl,.inl hh,λp n=>k _ _ (s13.trans (aW n)) ⟨p,rfl,s13.free n,ou,rfl,ft n (qS rr)⟩⟩
 .rename_i xs hd;split at hf
  .cases hf
  .rename_i hw;cases hf;rw[hd] at i3;cases i3 with
   |tup hh rr=>exact .inr ⟨_,_,rfl,SqT.of hh,by rw[<-rr.1];exact hw,λp n=>k _ _ (s13.trans (aW n)) (fq n (qS rr))⟩
 .rename_i ns hd;cases hf;rw[hd] at i3;cases i3 with
  |scr hh=>exact .inl ⟨_,_,rfl,hh.sq,λp n=>k _ _ (s13.trans (aW n)) ⟨p,rfl,s13.free n,ou,rfl,ft n (qS Ae)⟩⟩
 .cases hf
def qT{Z:St}{ys:List V}(hc:X.calm=O)(I:Inv X e8 Z H s)(h:SqL X.K H p ys\/SqT X.K H p ys)
  (k:∀It fp wr P St s₂,Walks X.prog X.w X.A.in1 It fp wr ys.length P St->St 0 s₂.heap->(∀b∈fp,b<s₂.heap.objs.size)->(∀i v,P i v->∃y,ys[i]? =U y/\Zt y v)->
   (∀h' tk,(∀b o,b∉wr->s₂.heap.get? b=U o->h'.get? b=U o)->Inv X e8 Z H {s₂ with heap:=h',toks:=tk})->Q (.ref It) s₂):wpAny (model X.prog X.w) X.A.in1 (pyIter (.ref p)) Q E s:=by
 have hh:X.A.in1.handled=J:=I.ok.hd hc;have kept:∀{oi:ZM} {h' :ZK} {tk:Nat},(∀b o,b∉[s.heap.objs.size]->(s.heap.push oi).get? b=U o->h'.get? b=U o)->Inv X e8 Z H {s with heap:=h',toks:=tk}:=λ{oi h' tk} hk=>
  I.kept λb o e=>hk b o (by simp only[GaU];exact GaI (Gaz e)) (Gag _ e)
 have get:∀{its:List ZH},Zu ys its->∀(i:Nat) v,its.toArray[i]? =U v->∃y,ys[i]? =U y/\Zt y v:=λ{its} r i v e=>by
  have e' :its[i]? =U v:=by simpa using e
  obtain⟨hi,_⟩:=Gak.mp e';have xb :i<ys.length:=by rw[r.length];exact hi
  obtain⟨u,hu,ru⟩:=r.get (x:=ys[i]) (i:=i) (by simp);simp_all
 have lts:∀{oi:ZM},p<s.heap.objs.size->∀b∈[s.heap.objs.size,p],b<(s.heap.push oi).objs.size:=λ{oi} hp b hb=>by
  rw[GbY];rcases Gat.mp hb with rfl|hb
  .simp_all
  .rcases Gat.mp hb with rfl|hb
   .exact GbW hp
   .cases hb
 rcases h with hq|hq
 .obtain⟨its,rv,pl,hz⟩:=I.list hq;have eY:p<s.heap.objs.size:=by obtain⟨_,e,_⟩:=pl.isList;exact Gaz e
  have W:=Walks.list (prog:=X.prog) (w:=X.w) hh s.heap.objs.size p (GaI eY) its.toArray;have xC:its.toArray.size=ys.length:=by rw[Gav,rv.length]
  rw[xC] at W;exact wpAny_pyIter_list pl.isList (k _ _ _ _ _ _ W ⟨⟨_,Gaw _ rfl,rfl,rfl⟩,pl.isList.push _⟩ (lts eY) (get rv) λh' tk hk=>kept hk)
 .obtain⟨its,rv,pl,hz⟩:=I.tuple hq;have pl' :s.heap.IsTuple p its.toArray:=pl;have eY:p<s.heap.objs.size:=by obtain⟨_,e,_⟩:=pl';exact Gaz e
  have W:=Walks.tuple (prog:=X.prog) (w:=X.w) hh s.heap.objs.size p (GaI eY) its.toArray;have xC:its.toArray.size=ys.length:=by rw[Gav,rv.length]
  rw[xC] at W;exact Gdh pl' (k _ _ _ _ _ _ W ⟨⟨_,Gaw _ rfl,rfl,rfl⟩,pl'.at λo e=>Gag _ e⟩ (lts eY) (get rv) λh' tk hk=>kept hk)
def range_any(bs:List Bool):(List.range bs.length).any (λi=>bs[i]?.getD M)=bs.any id:=by
 rw[GdH];simp only[GbZ,GaS];constructor
 .rintro⟨i,hi,h⟩;rw[Gac hi] at h;exact⟨bs[i],GaA hi,h⟩
 .rintro⟨b,hb,h⟩;obtain⟨i,hi,rfl⟩:=GbB hb;exact⟨i,hi,by rw[Gac hi];exact h⟩
def range_all(bs:List Bool):(List.range bs.length).all (λi=>bs[i]?.getD M)=bs.all id:=by
 rw[GdH];simp only[Gar,GaS];constructor
 .intro h b hb;obtain⟨i,hi,rfl⟩:=GbB hb;have:=h i hi;rw[Gac hi] at this;exact this
 .intro h i hi;rw[Gac hi];exact h _ (GaA hi)
def pz{bs:List Bool}(hP:∀i v,P i v->∃y,(bs.map V.bl)[i]? =U y/\Zt y v):TruthOf X.prog X.w A P (λi=>bs[i]?.getD M):=by
 intro i v s Q E p q;obtain⟨y,hy,r⟩:=hP i v p;rw[Gap] at hy;cases hb:bs[i]? with
 |none=>rw[hb] at hy;cases hy
 |some b=>
  rw[hb] at hy;cases hy;cases r;refine Gbu ?_;simp_all
def Fj(hc:X.calm=O):i0 X (.builtin "any") (λxs H Q=>∃(p:ZG) (bs:List Bool),xs=[.ref p]/\(SqL X.K H p (bs.map V.bl)\/SqT X.K H p (bs.map V.bl))/\Q (.bl (bs.any id)) H):=by
 intro e8 s Z H xs us Q I rv h;obtain⟨p,bs,rfl,hq,q⟩:=h;obtain⟨u,rfl,ru⟩:=rv.one;cases ru;refine call_any_walk (qT hc I hq λIt fp wr P St s₂ W st lt hP kept=> ⟨It,fp,wr,_,P,St,_,rfl,W,st,pz hP,λh' tk hk=> ?_⟩);rw[Gae,range_any];exact⟨.bl (bs.any id),H,kept h' tk hk,rfl,q⟩
def Fl(hc:X.calm=O):i0 X (.builtin "all") (λxs H Q=>∃(p:ZG) (bs:List Bool),xs=[.ref p]/\(SqL X.K H p (bs.map V.bl)\/SqT X.K H p (bs.map V.bl))/\Q (.bl (bs.all id)) H):=by
 intro e8 s Z H xs us Q I rv h;obtain⟨p,bs,rfl,hq,q⟩:=h;obtain⟨u,rfl,ru⟩:=rv.one;cases ru;refine call_all_walk (qT hc I hq λIt fp wr P St s₂ W st lt hP kept=> ⟨It,fp,wr,_,P,St,_,rfl,W,st,pz hP,λh' tk hk=> ?_⟩);rw[Gae,range_all];exact⟨.bl (bs.all id),H,kept h' tk hk,rfl,q⟩
def vC(ns:List Int)(i:Nat):Int:=ns[i]?.getD 0
def Af{P:Nat->ZH->Prop}{ns:List Int}(hP:∀i v,P i v->∃y,(ns.map V.int)[i]? =U y/\Zt y v):∀i v,P i v->∃t,v= .int (vC ns i) t:=by
 intro i v p;obtain⟨y,hy,r⟩:=hP i v p;rw[Gap] at hy;cases hb:ns[i]? with
 |none=>rw[hb] at hy;cases hy
 |some n=>
  rw[hb] at hy;cases hy
  obtain⟨t,rfl⟩:=r;exact⟨t,by unfold vC;rw[hb];rfl⟩
def Fm{f:Int->Int->Int}{i:Int}{ns:List Int}(hk:k<ns.length):(ns.take (k+1)).foldl f i=f ((ns.take k).foldl f i) (ns[k]):=by
 rw[Gdz hk,List.foldl_append];rfl
theorem HX{n:Int}{ns:List Int}:∀k,k<=ns.length->vC (n::ns) (argBest (λi j=>decide (vC (n::ns) i>vC (n::ns) j)) k)=(ns.take k).foldl (λa b=>if b>a then b else a) n
 |0,_=>by simp[argBest,vC]
 |k+1,hk=>by
  have ih:= @HX n ns k (by lia);rw[Fm (by lia),argBest];have e:vC (n::ns) (k+1)=ns[k]:=by simp[vC,show k<ns.length by lia]
  rw[ih,e];simp only[decide_eq_true_eq];split
  .exact e
  .exact ih
theorem qU{K:ai}:∀{ds vs bs},aN K F H ds vs->qJ ds=U bs->vs=bs.map V.bl
 |[],vs,bs,r,e=>by cases e;exact r.cz
 |d::ds,vs,bs,r,e=>by
  obtain⟨v,w,rfl,h1,h2⟩:=r.cons_inv;cases d<;>try (cases e;done)
  obtain⟨xk,e',rfl⟩:=Gaa.mp e;cases h1;rw[qU h2 e'];rfl
theorem Dd{K:ai}:∀{ds vs bs},aN K F H ds vs->CW ds=U bs->vs=bs.map V.int
 |[],vs,bs,r,e=>by cases e;exact r.cz
 |d::ds,vs,bs,r,e=>by
  obtain⟨v,w,rfl,h1,h2⟩:=r.cons_inv;cases d<;>try (cases e;done)
  obtain⟨xk,e',rfl⟩:=Gaa.mp e;cases h1;rw[Dd h2 e'];rfl
def vD{K:ai}(i:Inn K F H d v)(e:jy d=U ds):∃p vs,v= .ref p/\(SqL K H p vs\/SqT K H p vs)/\aN K F H ds vs:=by
 unfold jy at e;split at e
 .cases e;cases i with
  |lst h r=>exact⟨_,_,rfl,.inl (.inl h),r⟩
 .cases e;cases i with
  |tup h r=>exact⟨_,_,rfl,.inr (SqT.of h),r⟩
 .rename_i ns;cases e;cases i with
  |scr h=>
   refine⟨_,_,rfl,.inl h.sq,by simp,λi d v e1 e2=> ?_⟩;rw[Gap] at e1 e2;cases q:ns[i]? with
   |none=>rw[q] at e1;cases e1
   |some n=>rw[q] at e1 e2;cases e1;cases e2;exact .int n
 .cases e
def BK(h:one o ds=U rv):∃d xs,ds=[d]/\jy d=U xs/\o xs=U rv:=by
 unfold one at h;split at h
 .obtain⟨xs,h1,h2⟩:=eh h;exact⟨_,xs,rfl,h1,h2⟩
 .cases h
def Fn:CallD X anyS (λxs H Q=>∃(p:ZG) (bs:List Bool),xs=[.ref p]/\(SqL X.K H p (bs.map V.bl)\/SqT X.K H p (bs.map V.bl))/\Q (.bl (bs.any id)) H):=by
 intro F H ds vs rv Q ps e k;obtain⟨d,xs,rfl,h1,h2⟩:=BK e;obtain⟨bs,hb,rfl⟩:=Gaa.mp h2;obtain⟨v,rfl,i⟩:=iZ ps;obtain⟨p,vs,rfl,hs,r⟩:=vD i h1;rw[qU r hb] at hs;exact⟨p,bs,rfl,hs,k _ H bF (.bl _)⟩
def Fo:CallD X BC (λxs H Q=>∃(p:ZG) (bs:List Bool),xs=[.ref p]/\(SqL X.K H p (bs.map V.bl)\/SqT X.K H p (bs.map V.bl))/\Q (.bl (bs.all id)) H):=by
 intro F H ds vs rv Q ps e k;obtain⟨d,xs,rfl,h1,h2⟩:=BK e;obtain⟨bs,hb,rfl⟩:=Gaa.mp h2;obtain⟨v,rfl,i⟩:=iZ ps;obtain⟨p,vs,rfl,hs,r⟩:=vD i h1;rw[qU r hb] at hs;exact⟨p,bs,rfl,hs,k _ H bF (.bl _)⟩
def HY(ho:OpR X (compareOp op) r)(hd:OpB X o r)(xn :OpR X (compareOp op') r')(xc :OpB X p r')(ha:PEd X a f)(hb:PEd X b g)(hc:PEd X c h)
  (hm:lastMarks [op,op'] [b,c]=M:=by with_unfolding_all rfl):PEd X (.Compare a [op,op'] [b,c] pos) (bE (jg o p f g h)):=by
 refine(GV ho xn ha hb hc hm).aG ?_;rintro Z H Q ⟨H0,eC,env,rv,E,e,k⟩;obtain⟨bb,e',rfl⟩:=Gaa.mp e;have e:=e';obtain⟨x,hx,e⟩:=eh e;obtain⟨y,hy,e⟩:=eh e;obtain⟨b1,h1,e⟩:=eh e;refine⟨H0,eC,env,x,E,hx,λvx H1 s1 R1=> ⟨H0,eC,env,y,E.mono s1,hy,λvy H2 s2 R2=>hd _ H2 x.d y.d vx vy b1 _ (R1.inn.same s2) R2.inn h1 ⟨b1,rfl, ?_⟩⟩⟩;cases b1 with
 |true=>
  obtain⟨z,hz,e⟩:=eh e;exact⟨H0,eC,env,z,(E.mono s1).mono s2,hz,λvz H3 s3 R3=>xc _ H3 y.d z.d vy vz bb _ (R2.inn.same s3) R3.inn e (k _ H3 (s1.trans (s2.trans s3)) (.bl bb))⟩
 |false=>
  cases e;exact k _ H2 (s1.trans s2) (.bl M)
end
section
variable{a:ZJ}
def aZ.cons{Y:Type}{K:ai}{F:ZG->Prop}{H:Hp}{eD:List (Y×D)}{ws:List (Y×V)}{k:Y}{d:D}{v:V}(h:Rep K F H d v)(r:aZ K F H eD ws):aZ K F H ((k,d)::eD) ((k,v)::ws):=by
 refine⟨by simp[r.1],λi x u e1 e2=> ?_⟩;cases i with
 |zero=>simp at e1 e2;subst e1;subst e2;exact h
 |succ i=>exact r.2 i x u (by simpa using e1) (by simpa using e2)
def aZ.cons_inv{Y:Type}{K:ai}{eD:List (Y×D)}{ws:List (Y×V)}{k:Y}(h:aZ K F H ((k,d)::eD) ws):∃v r,ws=(k,v)::r/\Rep K F H d v/\aZ K F H eD r:=by
 cases ws with
 |nil=>exact absurd h.1 (by simp)
 |cons q r=>
  obtain⟨k',v⟩:=q;have h1:k=k' /\eD.map (·.1)=r.map (·.1):=by have:=h.1;simpa using this
  obtain⟨rfl,h2⟩:=h1;exact⟨v,r,rfl,h.2 0 (k,d) (k,v) rfl rfl,h2,λi x y e1 e2=>h.2 (i+1) x y (by simpa using e1) (by simpa using e2)⟩
def aZ.nil{K:ai}:aZ K F H ([]:List (Y×D)) []:=⟨rfl,λi p q e=>by simp at e⟩
def aZ.cz{Y:Type}{K:ai}{ws:List (Y×V)}(h:aZ K F H [] ws):ws=[]:=by
 cases ws with
 |nil=>rfl
 |cons q r=>exact absurd h.1 (by simp)
def aZ.len{K:ai}{eD:List (Y×D)}{ws:List (Y×V)}(h:aZ K F H eD ws):eD.length=ws.length:=by
 have:=congrArg List.length h.1
 simpa using this
theorem aZ.over{K:ai} [DecidableEq Y](hv:Rep K F H d v):∀{eD:List (Y×D)} {ws:List (Y×V)},aZ K F H eD ws->
  aZ K F H (eD.map λkv=>if kv.1=k then(kv.1,d) else kv) (ws.map λkv=>if kv.1=k then(kv.1,v) else kv)
 |[],ws,r=>by rw[r.cz];exact .nil
 |(k',d')::eD,ws,r=>by
  obtain⟨v',w,rfl,h1,h2⟩:=r.cons_inv;rw[Gay,Gay];split
  .exact .cons hv (aZ.over hv h2)
  .exact .cons h1 (aZ.over hv h2)
theorem aZ.snoc{K:ai}(hv:Rep K F H d v):∀{eD ws},aZ K F H eD ws->aZ K F H (eD++[(k,d)]) (ws++[(k,v)])
 |[],ws,r=>by rw[r.cz];exact .cons hv .nil
 |(k',d')::eD,ws,r=>by
  obtain⟨v',w,rfl,h1,h2⟩:=r.cons_inv;exact .cons h1 (aZ.snoc hv h2)
theorem aZ.any{K:ai} [DecidableEq Y]:∀{eD:List (Y×D)} {ws:List (Y×V)},aZ K F H eD ws->(eD.any λkv=>decide (kv.1=k))=(ws.any λkv=>decide (kv.1=k))
 |[],ws,r=>by rw[r.cz];rfl
 |(k',d')::eD,ws,r=>by
  obtain⟨v',w,rfl,h1,h2⟩:=r.cons_inv;rw[GdR,GdR,aZ.any h2]
theorem aZ.put{Y:Type}{K:ai}{F:ZG->Prop}{eD:List (Y×D)}{ws:List (Y×V)}{k:Y}{d:D}{v:V} [DecidableEq Y](r:aZ K F H eD ws)(hv:Rep K F H d v):aZ K F H (put eD k d) (putK ws k v):=by
 unfold DL.put putK;rw[r.any];split
 .exact r.over hv
 .exact r.snoc hv
def OW{K:ai}{H:Hp}{a:ZG}(i:Inn K F H (.dT eD) (.ref a)):∃ws,H a=U (.dT ws)/\aZ K F H eD ws:=by
 cases i with
 |dT h r=>exact⟨_,h,r⟩
def N9:V->V->V->Hp->(Hp->Prop)->Prop:=λo i v H Q=>∃a H4,o= .ref a/\Hl H a i v H4/\Q H4
def Lf{X:Cx}(hu:X.A.units+1<cLine):U7 X N9:=by
 intro e8 s Z H o i v ov iv u Q I ro ri rv h;obtain⟨a,H4,rfl,g,q⟩:=h;cases ro;exact ES hu I g ri rv λs4 I4=> ⟨H4,I4,q⟩
def UG(td ty tv:TE):TS:=λD Z H=>tv Z H λv H1=>td Z H1 λx H2=>ty Z H2 λy H3=>N9 x y v H3 λH4=>D.nx Z H4
def OX{X:Cx}{pos:Pos}(hu:X.A.units+1<cLine)(ho:PE X o td)(hi:PE X i ty)(hv:PE X value tv)(hs:swapsWith value (U (.Subscript o i pos')) pos.line X.env=pure M):PS X (.Assign [.Subscript o i pos'] value pos) (UG td ty tv):=by
 intro e8 s Z H D I h;refine wpAny_Assign_Subscript (thn (hv e8 s Z H _ I h) λr s1 ⟨v,H1,I1,rv,q1⟩=>thn (ho e8 s1 Z H1 _ I1 q1) λu s2 ⟨x,H2,I2,rx,q2⟩=>thn (hi e8 s2 Z H2 _ I2 q2) λiv s3 ⟨y,H3,I3,ry,q3⟩=> ?_) hs;exact thn (Lf hu e8 s3 Z H3 x y v u iv r _ I3 rx ry rv q3) λ_ s4 ⟨H4,I4,q4⟩=> ⟨Z,H4,I4,q4⟩
def HZ{H:Hp}{i:Nat}{a:ZG}(q:env[i]? =U (U (.own d)))(h1:Z[i]? =U (U (.ref a)))(hH:H a=U o')(hw:isW o'):i9 (Cln eC env Z) H (upd H a o):=λb x hb w=>by
 have:b≠a:=by
  rintro rfl;rcases w with w|w
  .exact w.2 i (by rw[q];trivial) h1
  .rw[hH] at hb;cases hb
   cases o' <;>simp[isT] at w<;>exact hw
 rw[ao this];exact hb
def OY{X:Cx}{pos:Pos}(hu:X.A.units+1<cLine)(hN:X.N[i]? =U x)(hv:Vis X.env.scope x)(hk:PEd X k fk)(he:PEd X value fv)(hd:autoParam ((x==("__debug__":Str))=M) Za2._auto_1)(xq:autoParam ((x==("__classdict__":Str))=M) Za2._auto_1)
  (hs:autoParam (swapsWith value (U (.Subscript (.Name x px) k pos')) pos.line X.env=pure M) Za1._auto_1):PSd X (.Assign [.Subscript (.Name x px) k pos'] value pos) (EX i fk fv):=by
 refine(OX hu (kg hN hv hd xq) hk he hs).aG ?_;rintro D Z H ⟨H0,eC,env,o,E,e,kk⟩;obtain⟨r,hr,e⟩:=eh e;obtain⟨y,hy,e⟩:=eh e;obtain⟨d,hd,e⟩:=eh e;have q:=nr hd;split at e
 .rename_i yc;obtain⟨d',hp,rfl⟩:=Gaa.mp e;refine⟨H0,eC,env,r,E,hr,λv H1 s1 R=> ?_⟩;have E1:=E.mono s1;obtain⟨a,h1,h2,h3,h4,h5,h6⟩:=E1.ow i _ (.inl q);refine⟨_,h1,H0,eC,env,y,E1,hy,λvy H3 s3 Ry=> ?_⟩;have E3:=E1.mono s3;have rep:=(R.rep E yc).same s3;have i6:=h6.same s3;have iy:=Ry.inn;have fin:∀(o' :HO) (WO :HO),H3 a=U WO ->isW WO ->isW o' ->d'.top=O->Inn X.K (Cln eC env Z) (upd H3 a o') d' (.ref a)->D.nx Z (upd H3 a o'):=λo' WO hH hw Yz ht inn=>by
   obtain⟨E4,p4⟩:=E3.change (d' :=d') (o:=o') q h1 Yz ht inn;exact kk Z _ E4 (((Stp.ZC s1).trans (.ZC s3)).trans p4)
  unfold putD at hp;split at hp
  .rename_i eD;split at hp
   .rename_i ks Xe;split at hp
    .rename_i hz;obtain⟨key,xD,rfl⟩:=Gaa.mp hp;obtain⟨ws,hH,rp⟩:=OW i6;rw[Xe] at iy;cases iy with
     |tup hb rb=>
      have:=iY rb xD;subst this;refine⟨a,_,rfl,Hl.t hH hb (by rw[<-rp.len,<-eU];exact hz),fin _ _ hH trivial trivial rfl ?_⟩;exact .dT aD ((rp.put rep).gen (HZ q h1 hH trivial) λ_ f _=>f)
    .cases hp
   .cases hp
  .cases hp
 .cases e
def I0:PEd X (.Dict [] [] pos) vq:=wR.aG λZ H Q ⟨_,_,_,_,E,e,k⟩ p n=>by
 cases e;exact k _ _ (aW n) ⟨p,rfl,n,⟨_,aD,trivial⟩,rfl,.dT aD .nil⟩
end
open PySem.W (KasT kas_rev kas_asc kas_desc kas_tail3 kas_descPart kas_count kas_place kas_bin kas_sort)
section
variable{rk:Nat->Int}{N:Nat}
def Asks(rk:Nat->Int)(N:Nat){α:Type}:KasT α->(α->Prop)->Prop
 | .ret a,Q=>Q a
 | .ask i j k,Q=>i<N/\j<N/\Asks rk N (k (decide (rk i<rk j))) Q
theorem Asks.mono{Q Q' :α->Prop}(hq:∀a,Q a->Q' a):∀t,Asks rk N t Q->Asks rk N t Q'
 | .ret a,h=>hq a h
 | .ask i j k,h=> ⟨h.1,h.2.1,Asks.mono hq _ h.2.2⟩
theorem Asks.then{β:Type}{f:α->KasT β}{Q:β->Prop}:∀t,Asks rk N t (λa=>Asks rk N (f a) Q)->Asks rk N (t.bind f) Q
 | .ret a,h=>h
 | .ask i j k,h=> ⟨h.1,h.2.1,Asks.then _ h.2.2⟩
theorem Asks.wp{cmp:Nat->Nat->(Bool->ZI->Prop)->ZI->Prop}{Q:α->Prop}{G:α->ZI->Prop}(hc:∀i j C,i<N->j<N->C (decide (rk i<rk j)) s->cmp i j C s)(hG:∀a,Q a->G a s):
  ∀t,Asks rk N t Q->t.kasWp cmp G s
 | .ret a,h=>hG a h
 | .ask i j k,h=>hc i j _ h.1 h.2.1 (Asks.wp hc hG _ h.2.2)
def Ord(N:Nat)(p:Array Nat):Prop:=p.toList.Perm (List.range N)
theorem Ord.size{p:Array Nat}(h:Ord N p):p.size=N:=by
 have:=List.Perm.length_eq h
 simpa using this
def Ord.lt{p:Array Nat}(h:Ord N p)(hN:0<N):p.getD i 0<N:=by
 by_cases hi:i<p.size
 .have e:p.getD i 0=p[i]:=by simp[hi]
  rw[e];have m:p[i]∈p.toList:=by simp
  exact GaS.mp (h.mem_iff.mp m)
 .have e:p.getD i 0=0:=by simp[Array.getD,hi]
  rw[e];exact hN
def Ord.De{p' :Array Nat}(h:Ord N p)(q:p'.Perm p):Ord N p' :=List.Perm.trans (Array.perm_iff_toList_perm.mp q) h
noncomputable def cw(rk:Nat->Int)(p:Array Nat)(i:Nat):Int:=rk (p.getD i 0)
def iq(h:p'[i]? =p[j]?):cw rk p' i=cw rk p j:=by
 unfold cw;simp_all
def Up(rk:Nat->Int)(p:Array Nat)(k:Nat):Prop:=∀u v,u<=v->v<k->cw rk p u<=cw rk p v
def Down(rk:Nat->Int)(p:Array Nat)(k:Nat):Prop:=∀u v,u<=v->v<k->cw rk p v<=cw rk p u
def BL{p:Array Nat}(hj:j<=p.size)(k:Nat):cw rk (kas_rev p i j) k=if i<=k/\k<j then cw rk p (i+j -1 -k) else cw rk p k:=by
 have g:=getElem?_mirror_all (i:=i) hj k;split
 .rename_i c;rw[Gao c] at g;exact iq g
 .rename_i c;rw[Gai c] at g;exact iq g
def jz{p:Array Nat}(hj:j<=p.size)(he:∀k,i<=k->k<j->cw rk p k=cw rk p (j -1))(k:Nat):cw rk (kas_rev p i j) k=cw rk p k:=by
 rw[BL hj]
 grind
def nv(h:Ord N p):Ord N (kas_rev p i j):=h.De (mirror_perm p i j ((j -i)/2))
theorem BM(hp:Ord N p)(hN:0<N):∀f n,1<=n->Up rk p n->Asks rk N (kas_asc p f n) λm=>n<=m/\m<=n+f/\Up rk p m/\(m=n+f\/cw rk p m<cw rk p (m -1))
 |0,n,h1,hu=> ⟨Gan n,Gan n,hu,.inl rfl⟩
 |f+1,n,h1,hu=>by
  refine⟨hp.lt hN,hp.lt hN, ?_⟩;by_cases c:rk (p.getD n 0)<rk (p.getD (n -1) 0)
  .rw[GaD c];exact⟨Gan n,by lia,hu,.inr c⟩
  .rw[GaE c];have nxt:Up rk p (n+1):=λu v xN hv=>by
    rcases Gbg v n with hvn|hvn
    .exact hu u v xN hvn
    .have ev:v=n:=by lia
     subst ev;have c' :=GcR.mp c;rcases Gch xN with e|e
     .simp_all
     .exact GdU (hu u (v -1) (by lia) (by lia)) c'
   refine Asks.mono (λm hm=> ?_) _ (BM hp hN f (n+1) (by lia) nxt)
   grind
def Down.snoc(hd:Down rk p k)(hk:1<=k)(e:∀i,cw rk p' i=cw rk p i)(c:cw rk p k<=cw rk p (k -1)):Down rk p' (k+1):=λu v xN hv=>by
 rw[e,e];rcases Gbg v k with hvk|hvk
 .exact hd u v xN hvk
 .have ev:v=k:=by lia
  subst ev;rcases Gch xN with q|q
  .simp_all
  .exact GdU c (hd u (v -1) (by lia) (by lia))
theorem qg(hN:0<N):∀f p n q,Ord N p->1<=n->n+f<=N->Down rk p n->q+1<=n->(∀i,n -(q+1)<=i->i<n->cw rk p i=cw rk p (n -1))->
  Asks rk N (kas_desc f p n q) λr=>Ord N r.1/\n<=r.2.1/\r.2.1<=n+f/\Down rk r.1 r.2.1/\r.2.2+1<=r.2.1/\∀i,r.2.1 -(r.2.2+1)<=i->i<r.2.1->cw rk r.1 i=cw rk r.1 (r.2.1 -1)
 |0,p,n,q,hp,h1,zB,hd,hq,he=> ⟨hp,Gan n,Gan n,hd,hq,he⟩
 |f+1,p,n,q,hp,h1,zB,hd,hq,he=>by
  have sz:=hp.size;refine⟨hp.lt hN,hp.lt hN, ?_⟩;by_cases c:rk (p.getD n 0)<rk (p.getD (n -1) 0)
  .rw[GaD c];have c' :=GdV c;by_cases z:q>0
   .rw[Gao z];have eq:=λk=>jz (by lia) he k;exact Asks.mono (λr ⟨a1,a2,a3,a4⟩=> ⟨a1,by lia,by lia,a4⟩) _ (qg hN f _ (n+1) 0 (nv hp) (by lia) (by lia) (hd.snoc h1 eq c') (by lia) λi i1 i2=>by rw[show i=n+1 -1 by lia])
   .rw[Gai z];exact Asks.mono (λr ⟨a1,a2,a3,a4⟩=> ⟨a1,by lia,by lia,a4⟩) _ (qg hN f p (n+1) 0 hp (by lia) (by lia) (hd.snoc h1 (λ_=>rfl) c') (by lia) λi i1 i2=>by rw[show i=n+1 -1 by lia])
  .rw[GaE c];refine⟨hp.lt hN,hp.lt hN, ?_⟩;by_cases g:rk (p.getD (n -1) 0)<rk (p.getD n 0)
   .rw[GaD g];exact⟨hp,Gan n,Nat.le_add_right n (f+1),hd,hq,he⟩
   .rw[GaE g];have eq:cw rk p n=cw rk p (n -1):=Int.le_antisymm (GcR.mp g) (GcR.mp c);refine Asks.mono (λr ⟨a1,a2,a3,a4⟩=> ⟨a1,by lia,by lia,a4⟩) _ (qg hN f p (n+1) (q+1) hp (by lia) (by lia) (hd.snoc h1 (λ_=>rfl) (Int.le_of_eq eq)) (by lia) λi i1 i2=> ?_);rcases Gbg i n with hi|hi
    .rw[he i (by lia) hi,show n+1 -1=n by lia,eq]
    .rw[show i=n+1 -1 by lia]
def Df(hp:Ord N p)(hN:0<N)(h1:1<=n)(hn:n<=Zr)(hM:Zr<=N)(hd:Down rk p n):Asks rk N (kas_tail3 n Zr p) λr=>Ord N r.2/\1<=r.1/\r.1<=Zr/\Up rk r.2 r.1:=by
 have sz:=hp.size;refine Asks.then _ (Asks.mono (λm ⟨a1,a2,a3,_⟩=> ⟨nv hp,by lia,by lia,a3⟩) _ (BM (nv hp) hN (Zr -n) n h1 λu v xN hv=> ?_));rw[BL (by lia),BL (by lia),Gao ⟨Gba _,by lia⟩,Gao ⟨Gba _,hv⟩];exact hd _ _ (by lia) (by lia)
def pA(hp:Ord N p)(hN:0<N)(h1:1<=n)(hn:n+1<=Zr)(hM:Zr<=N)(hd:Down rk p (n+1)):Asks rk N (kas_descPart n Zr p) λr=>Ord N r.2/\1<=r.1/\r.1<=Zr/\Up rk r.2 r.1:=by
 refine Asks.then _ (Asks.mono (λr ⟨a1,a2,a3,a4,a5,a6⟩=> ?_) _ (qg hN (Zr -(n+1)) p (n+1) 0 hp (by lia) (by lia) hd (by lia) λi i1 i2=>by rw[show i=n+1 -1 by lia]));have s1:=a1.size;split
 .refine Df (nv a1) hN (by lia) (by lia) hM λu v xN hv=> ?_;rw[jz (by lia) a6,jz (by lia) a6];exact a4 u v xN hv
 .exact Df a1 hN (by lia) (by lia) hM a4
def Ia(hp:Ord N p)(Zj:1<=Zr)(hM:Zr<=N):Asks rk N (kas_count Zr p) λr=>Ord N r.2/\1<=r.1/\r.1<=Zr/\Up rk r.2 r.1:=by
 have hN:0<N:=by lia
 have sz:=hp.size;refine Asks.then _ (Asks.mono (λn ⟨a1,a2,a3,a4⟩=> ?_) _ (BM hp hN (Zr -1) 1 (Gan 1) λu v xN hv=>by rw[show u=v by lia];exact GcW _));by_cases c:(n==Zr)=O
 .rw[Gao c];exact⟨hp,a1,by lia,a3⟩
 .rw[Gai c];have fall:cw rk p n<cw rk p (n -1):=by
   rcases a4 with z|z
   .lia
   .exact z
  by_cases g:n>1
  .rw[Gao g];refine⟨hp.lt hN,hp.lt hN, ?_⟩;by_cases r:rk (p.getD 0 0)<rk (p.getD (n -1) 0)
   .rw[GaD r];exact⟨hp,a1,by lia,a3⟩
   .rw[GaE r];have all:∀k,0<=k->k<n->cw rk p k=cw rk p (n -1):=λk _ hk=>by
     have b1:=a3 0 k (Gba _) hk;have b2:=a3 k (n -1) (by lia) (by lia);have b3:cw rk p (n -1)<=cw rk p 0:=GcR.mp r;lia
    refine pA (nv hp) hN a1 (by lia) hM λu v xN hv=> ?_;rw[jz (by lia) all,jz (by lia) all];rcases Gbg v n with hvn|hvn
    .rw[all u (Gba _) (by lia),all v (Gba _) hvn];exact GcW _
    .have ev:v=n:=by lia
     subst ev;rcases Gch xN with q|q
     .subst q;exact GcW _
     .rw[all u (Gba _) q];exact GdV fall
  .have en:n=1:=by lia
   subst en;refine pA hp hN (Gan 1) (by lia) hM λu v xN hv=> ?_;rcases Gch xN with q|q
   .subst q;exact GcW _
   .have eu:u=0:=by lia
    have ev:v=1:=by lia
    subst eu ev;exact GdV fall
theorem qV(hp:Ord N p)(hN:0<N)(hu:Up rk p k):∀f l r,l<=r->r<=k->r -l<=f->(∀i,i<l->cw rk p i<=cw rk p k)->(∀i,r<=i->i<k->cw rk p k<cw rk p i)->
  Asks rk N (kas_place p k f l r) λm=>m<=k/\(∀i,i<m->cw rk p i<=cw rk p k)/\∀i,m<=i->i<k->cw rk p k<cw rk p i
 |0,l,r,h1,h2,h3,h4,h5=>by
  have e:l=r:=by lia
  subst e;exact⟨h2,h4,h5⟩
 |f+1,l,r,h1,h2,h3,h4,h5=>by
  unfold kas_place;by_cases c:l>=r
  .rw[Gao c];have e:l=r:=by lia
   subst e;exact⟨h2,h4,h5⟩
  .rw[Gai c];refine⟨hp.lt hN,hp.lt hN, ?_⟩;by_cases g:rk (p.getD k 0)<rk (p.getD ((l+r)/2) 0)
   .rw[GaD g];exact qV hp hN hu f l ((l+r)/2) (by lia) (by lia) (by lia) h4 λi i1 i2=>Int.lt_of_lt_of_le g (hu ((l+r)/2) i i1 i2)
   .rw[GaE g];exact qV hp hN hu f ((l+r)/2+1) r (by lia) h2 (by lia) (λi i1=>GdU (hu i ((l+r)/2) (by lia) (by lia)) (GcR.mp g)) h5
def OZ{p:Array Nat}(hk:k<p.size)(hd:d<=k)(i:Nat):cw rk (bubble p k d) i=if i=k -d then cw rk p k else if k -d<i/\i<=k then cw rk p (i -1) else cw rk p i:=by
 have g:=getElem?_bubble hk d hd i;split
 .rename_i c;rw[Gao c] at g;exact iq g
 .rename_i c;rw[Gai c] at g;split
  .rename_i c2;rw[Gao c2] at g;exact iq g
  .rename_i c2;rw[Gai c2] at g;exact iq g
theorem Ib(hN:0<N):∀f p k,Ord N p->k+f=N->Up rk p k->Asks rk N (kas_bin f p k) λr=>Ord N r/\Up rk r N
 |0,p,k,hp,hk,hu=>by
  have e:k=N:=by lia
  subst e;exact⟨hp,hu⟩
 |f+1,p,k,hp,hk,hu=>by
  have sz:=hp.size;refine Asks.then _ (Asks.mono (λm ⟨a1,a2,a3⟩=> ?_) _ (qV hp hN hu k 0 k (Gba _) (Gan _) (by lia) (λi hi=>by lia) λi i1 i2=>by lia));refine Ib hN f _ (k+1) (hp.De (bubble_perm p k (k -m))) (by lia) λu v xN hv=> ?_;have B:=λi=>OZ (rk:=rk) (p:=p) (k:=k) (d:=k -m) (by lia) (by lia) i;rw[B u,B v];have em:k -(k -m)=m:=by lia
  rw[em];by_cases u1:u=m
  .rw[Gao u1];by_cases v1:v=m
   .rw[Gao v1];exact GcW _
   .rw[Gai v1];rw[Gao ⟨by lia,by lia⟩];exact GdV (a3 (v -1) (by lia) (by lia))
  .rw[Gai u1];by_cases u2:m<u/\u<=k
   .rw[Gao u2,Gai (show¬v=m by lia),Gao ⟨by lia,by lia⟩];exact hu (u -1) (v -1) (by lia) (by lia)
   .rw[Gai u2];by_cases v1:v=m
    .rw[Gao v1];exact a2 u (by lia)
    .rw[Gai v1];by_cases v2:m<v/\v<=k
     .rw[Gao v2];exact hu u (v -1) (by lia) (by lia)
     .rw[Gai v2];exact hu u v xN (by lia)
def Lg(hN:1<=N):Asks rk N (kas_sort N) λr=>Ord N r/\Up rk r N:=by
 have h0:Ord N (List.toArray (List.range N)):=List.Perm.refl _;refine Asks.then _ (Asks.mono (λr ⟨a1,a2,a3,a4⟩=> ?_) _ (Ia h0 hN (Gan N)));split
 .exact Ib (by lia) _ _ _ a1 (by lia) (by rw[show max r.1 1=r.1 by lia];exact a4)
 .have e:r.1=N:=by lia
  rw[e] at a4;exact⟨a1,a4⟩
end
def FO(h:ZK)(a:ZG)(T:String)(vs:Array ZH):Prop:=∃o,h.get? a=U o/\o.cls= .type T/\o.data= .fields vs
def Ic(h:ZK)(d:ZG)(es:Array DictEntry)(ep:Nat):Prop:=∃o,h.get? d=U o/\o.ExactDict/\o.data= .dict es ep
section
def Ie{z:ZI}(x:Ic z.heap d es ep)(h:Q es z):wpAny (model prog w) A (dictEntries d p) Q E z:=let⟨_,ho,_,hd⟩:=x;wpAny_dictEntries ho hd h
def Na{z:ZI}(x:Ic z.heap d es ep)(h:Q ep z):wpAny (model prog w) A (dictEpoch d p) Q E z:=let⟨_,ho,_,hd⟩:=x;wpAny_dictEpoch ho hd h
def FO.ty{z:ZI}(x:FO z.heap a T vs):z.TypeIs (.ref a) T:=let⟨o,ho,hc,_⟩:=x;⟨o,ho,hc⟩
def vF{z:ZI}(x:FO z.heap a T vs)(h:Q vs z):wpAny (model prog w) A (fieldsOf (.ref a)) Q E z:=let⟨_,ho,_,hd⟩:=x;wpAny_fieldsOf ho hd h
def fM{z:ZI}{vs:Array ZH}(f:FO z.heap a T vs)(h:∀h',FO h' a T (vs.setIfInBounds k x)/\Heap.SameBut a z.heap h' ->Q () {z with heap:=h' })(hk:k<vs.size):
  wpAny (model prog w) A (setField (.ref a) k x) Q E z:=by
 obtain⟨⟨c,dc,dt,sl⟩,ho,hc,hd⟩:=f;cases hc;cases hd
 exact GcO ho rfl hk (h _ ⟨⟨_,Gbf _ ho rfl,rfl,rfl⟩,GbC ..⟩)
variable{h:ZK}
def FO.at{h' :ZK}(x:FO h a T vs)(k:∀o,h.get? a=U o->h'.get? a=U o):FO h' a T vs:=let⟨o,q,r⟩:=x;⟨o,k o q,r⟩
def FO.lt(x:FO h a T vs):a<h.objs.size:=let⟨_,q,_⟩:=x;Gaz q
def jR{z:ZI}(f:FO z.heap a T vs)(e:vs[i]? =U x)(h:Q x z):wpAny (model prog w) A (field (.ref a) i) Q E z:=let⟨_,ho,_,hd⟩:=f;wpAny_field ho hd e h
def Ig{A:ZL}{z:ZI}(hh:A.handled=J)(h:∀h' a,(∀b o,z.heap.get? b=U o->h'.get? b=U o)/\(∃o,h'.get? a=U o/\o.cls= .type "StopIteration")->E (.ref a) {z with heap:=h' }):
  wpAny (model prog w) A (newExc (.type "StopIteration") []>>=λe=>(raiseNew e:Sem α)) Q E z:=by
 .unfold raiseNew
  wp_walk
  exact h _ _ ⟨λb o e=>Gag _ (Gag _ e),_,Gaw _ rfl,rfl⟩
 all_goals size_fits
def vG{z:ZI}(x:∃o,z.heap.get? e=U o/\o.cls= .type "StopIteration")(h:Q O z):wpAny (model prog w) A (isInstance (.ref e) (.type "StopIteration")) Q E z:=
 wpAny_isInstance x isSubtype_stop h
def Sf(es:Array DictEntry)(i:Nat):(if(i:Int)<0 then J else es[(i:Int).toNat]?)=es[i]? :=by simp;lia
def Emp(h:ZK)(S:ZG):Prop:=∃c,h.get? S=U {cls:= .type "list",data:= .seq #[] c}
def on{α:Type}{t:Sem α}{Q Q' :α->ZI->Prop}(h:wpAny (model prog w) A t Q E z)(k:∀a s,Q a s->Q' a s):wpAny (model prog w) A t Q' E z:=Gcc h k λ_ _ x=>x
def touched{z:ZI}(e:Emp z.heap S)(h:∀h2,Emp h2 S/\(∀b o,b≠S->z.heap.get? b=U o->h2.get? b=U o)->Q () {z with heap:=h2}):wpAny (model prog w) A (Builtin.List.listTouch (.ref S)) Q E z:=by
 obtain⟨c,e⟩:=e;have e1:=Gbf (Obj.mapSeq (·.push Value.none)) e rfl;refine Gab (wpAny_updateSeq e rfl (wpAny_updateSeq e1 rfl (h _ ⟨⟨_,Gbf (Obj.mapSeq (·.pop)) e1 rfl⟩,λb o n k=> ?_⟩)));rw[Gce _ _ (Ne.symm n),Gce _ _ (Ne.symm n),k]
def Ih{A:ZL}{z:ZI}(hT:z.TypeIs v T)(n1:(Value.type T== .type "list")=M)(n2:(Value.type T== .type "tuple")=M)(n3:Builtin.List.listSameRef (.ref S) v=M)
  (h:wpAny (model prog w) A.in1 (pyIter v) (λi s1=>wpAny (model prog w) A.in1 (Builtin.List.listLengthHint v) (λ_ s2=>Emp s2.heap S/\∀h2,Emp h2 S->(∀b o,b≠S->s2.heap.get? b=U o->h2.get? b=U o)->
   codeAny (model prog w) A (.builtin "list.extend.loop" ⟨[.ref S,i,res],[]⟩) R {s2 with heap:=h2}) (λe s' =>R (.error e) s') s1) (λe s' =>R (.error e) s') z):
  wpAny (model prog w) A.in1 (Builtin.List.listExtendWith (.ref S) v res) (λfin s' =>match fin with| .done f=>R (.ok f) s' | .again c' =>c'.quiet=O/\codeAny (model prog w) A c' R s') (λe s' =>R (.error e) s') z:=by
 wp_walk using GdE hT,on h
 intro i s1 q
 wp_walk using on q
 rintro b s2 ⟨e,q⟩;have quiet:Code.quiet (.builtin "list.extend.loop" ⟨[.ref S,i,res],[]⟩)=O:=Gdx F.plain_extend_loop _;apply GcE<;>intro _
 .wp_walk using touched e
  exactλh2 k=>Gad ⟨quiet,q h2 k.1 k.2⟩
 .exact Gad ⟨quiet,q _ e λ_ _ _ k=>k⟩
def Lh(h:∀R,(∀v s',Q v s' ->R (.ok (.ret v)) s')->codeAny (model prog w) A c R z):wpAny (model prog w) A (runValue c) Q E z:=wpAny_runValue (h _ λ_ _ q=>q)
def gather{A:ZL}{z:ZI}
  (h:∀R,(∀s' acc c,s'.heap.get? z.heap.objs.size=U {cls:= .type "list",dict:=J,data:= .seq acc c,slots:=#[]}->Q acc.toList s' ->R (.ok (.ret (.ref z.heap.objs.size))) s')->
   wpAny (model prog w) A.in1 (Builtin.List.listExtendWith (.ref z.heap.objs.size) v (.ref z.heap.objs.size)) (λfin s' =>match fin with| .done f=>R (.ok f) s' | .again c' =>c'.quiet=O/\codeAny (model prog w) A c' R s') (λe s' =>R (.error e) s') {z with heap:=z.heap.push (seqObj "list" #[] 0)}):
  wpAny (model prog w) A (collect v) Q E z:=by
 unfold collect;apply Gab;apply Lh;intro R r;apply GbT entry_proto_collect';apply Gab;refine wpAny_newList (Gad ⟨Code.quiet_builtin _ (by decide+kernel), ?_⟩);apply GbT entry_list_iadd';exact h R λs' acc c k q=>r _ _ (Gab (wpAny_load k (Gad q)))
def vH{A:ZL}{z:ZI}
  (h:∀h1,Emp h1 z.heap.objs.size->(∀b o,z.heap.get? b=U o->h1.get? b=U o)->∀R,
   (∀s' acc c,s'.heap.get? z.heap.objs.size=U {cls:= .type "list",dict:=J,data:= .seq acc c,slots:=#[]}->Q acc.toList s' ->R (.ok (.ret (.ref z.heap.objs.size))) s')->
   wpAny (model prog w) A.in1 (Builtin.List.listExtendWith (.ref z.heap.objs.size) v (.ref z.heap.objs.size)) (λfin s' =>match fin with| .done f=>R (.ok f) s' | .again c' =>c'.quiet=O/\codeAny (model prog w) A c' R s') (λe s' =>R (.error e) s') {z with heap:=h1}):
  wpAny (model prog w) A (collect v) Q E z:=gather (h _ ⟨0,Gaw _ rfl⟩ λb o=>Gag _)
def Ag(h:ZK)(S:ZG)(acc:Array ZH):Prop:=∃c,h.get? S=U {cls:= .type "list",dict:=J,data:= .seq acc c,slots:=#[]}
end
noncomputable def b7:D->List Int
 | .non=>[0]
 | .int i=>[1,i]
 | .str x=>2::x.cps.toList.map Int.ofNat
 |_=>[3]
noncomputable def dO{α:Type} [DecidableEq α](lt:α->α->Bool):List α->List α->Bool
 |[],[]=>M
 |[],_::_=>O
 |_::_,[]=>M
 |a::as,b::bs=>if a=b then dO lt as bs else lt a b
noncomputable def ltI(a b:Int):Bool:=decide (a<b)
def ltC:List (List Int)->List (List Int)->Bool:=dO (dO ltI)
def code:D->List (List Int)
 | .tup ds=>ds.map b7
 |d=>[b7 d]
def Fp(d:D):List D->List D
 |[]=>[d]
 |e::es=>if ltC (code d) (code e) then d::e::es else e::Fp d es
def bG:List D->List D
 |[]=>[]
 |d::ds=>Fp d (bG ds)
noncomputable def tyD:D->Nat
 | .non=>0
 | .int _=>1
 | .str _=>2
 |_=>3
def lE(d:D):Bool:=tyD d !=3
def lQ:List D->List D->Bool
 |a::as,b::bs=>if b7 a=b7 b then lQ as bs else(tyD a==tyD b&&(tyD a==1||tyD a==2))
 |_,_=>O
noncomputable def Fq:D->Bool
 | .int _=>O
 |_=>M
def lF(t:Nat):D->Bool
 | .tup (f::r)=>tyD f==t&&r.all lE
 |_=>M
def Ah:D->D->Bool
 | .tup a,.tup b=>lQ a b
 |_,_=>M
def ZA(ds:List D):Bool:=ds.all Fq||((ds.all (lF 1)||ds.all (lF 2))&&ds.all λx=>ds.all λy=>Ah x y)
def Zy:SpV:=one λds=>if decide (ds.length<64)&&ZA ds then U ⟨.tn,.lst (bG ds)⟩ else J
structure vI{α:Type}(lt:α->α->Bool):Prop where
 irr:∀a,lt a a=M
 tr:∀a b c,lt a b=O->lt b c=O->lt a c=O
 tot:∀a b,lt a b=M->lt b a=M->a=b
def UH:vI ltI:=⟨λa=>by simp[ltI],λa b c h1 h2=>by simp[ltI] at*;lia,λa b h1 h2=>by simp[ltI] at*;lia⟩
section
variable{α:Type} [DecidableEq α]
def vI.lex{lt:α->α->Bool}(L:vI lt):vI (dO lt):=by
 refine⟨λa=> ?_,λa=> ?_,λa=> ?_⟩
 .induction a with
  |nil=>rfl
  |cons x xs ih=>simp[dO,ih]
 .induction a with
  |nil=>
   intro b c h1 h2;cases c with
   |nil=>cases b<;>simp[dO] at h1 h2
   |cons z zs=>rfl
  |cons x xs ih=>
   intro b c h1 h2;cases b with
   |nil=>simp[dO] at h1
   |cons y ys=>
    cases c with
    |nil=>simp[dO] at h2
    |cons z zs=>
     unfold dO at h1 h2⊢;by_cases e1:x=y
     .subst e1;rw[Gao rfl] at h1;by_cases e2:x=z
      .subst e2;rw[Gao rfl] at h2⊢;exact ih ys zs h1 h2
      .simp_all
     .rw[Gai e1] at h1;by_cases e2:y=z
      .simp_all
      .rw[Gai e2] at h2;by_cases e3:x=z
       .subst e3;have:=L.tr x y x h1 h2;rw[L.irr] at this;cases this
       .rw[Gai e3];exact L.tr x y z h1 h2
 .induction a with
  |nil=>
   intro b h1 h2;cases b with
   |nil=>rfl
   |cons y ys=>simp[dO] at h1
  |cons x xs ih=>
   intro b h1 h2;cases b with
   |nil=>simp[dO] at h2
   |cons y ys=>
    unfold dO at h1 h2;by_cases e:x=y
    .subst e;rw[Gao rfl] at h1 h2;rw[ih ys h1 h2]
    .rw[Gai e] at h1;rw[Gai (Ne.symm e)] at h2;exact absurd (L.tot x y h1 h2) e
def vI.nt{lt:α->α->Bool}{k x y:α}(L:vI lt)(h1:lt k y=O)(h2:lt x y=M):lt k x=O:=by
 cases h:lt y x with
 |true=>exact L.tr k y x h1 h
 |false=>rw[L.tot x y h2 h];exact h1
def vI.UI{lt:α->α->Bool}{x y:α}(L:vI lt)(h:lt x y=O):lt y x=M:=by
 cases q:lt y x with
 |false=>rfl
 |true=>have:=L.tr x y x h q;rw[L.irr] at this;cases this
end
def Fs:vI ltC:=UH.lex.lex
def rank(cs:List (List (List Int)))(i:Nat):Int:=((cs.filter λc=>ltC c (cs[i]?.getD [])).length:Nat)
theorem mA{α:Type}{p q:α->Bool}:∀{l:List α},(∀x∈l,p x=O->q x=O)->(l.filter p).length<=(l.filter q).length
 |[],_=>Gan _
 |x::l,h=>by
  have ih:=mA λy hy=>h y (Gaf _ hy);have hx:=h x Gaj;cases hp:p x with
  |false=>
   rw[Gby,hp];refine Gbo ih ?_;rw[Gby];split
   .simp_all
   .exact Gan _
  |true=>rw[Gby,Gby,hp,hx hp];simp;exact ih
theorem lT{α:Type}{p q:α->Bool}:∀{l:List α} {z:α},z∈l->p z=M->q z=O->(∀x∈l,p x=O->q x=O)->(l.filter p).length<(l.filter q).length
 |[],z,hz,_,_,_=>by cases hz
 |x::l,z,hz,h1,h2,h=>by
  rcases Gat.mp hz with e|hz
  .subst e;have:=mA λy hy=>h y (Gaf _ hy);rw[Gby,Gby,h1,h2];simp;lia
  .have ih:=lT hz h1 h2 λy hy=>h y (Gaf _ hy);have hx:=h x Gaj;cases hp:p x with
   |false=>
    rw[Gby,hp];simp only[Bool.false_eq_true,if_false];rw[Gby];split
    .rw[GaF];lia
    .exact ih
   |true=>rw[Gby,Gby,hp,hx hp];simp;exact ih
def Dg{cs:List (List (List Int))}(hi:i<cs.length)(hj:j<cs.length):decide (rank cs i<rank cs j)=ltC cs[i] cs[j]:=by
 unfold rank;rw[Gac hi,Gac hj];cases h:ltC cs[i] cs[j] with
 |true=>
  refine GaD (Int.ofNat_lt.mpr ?_);exact lT (GaA hi) (Fs.irr _) h λc _ hc=>Fs.tr _ _ _ hc h
 |false=>
  refine GaE (GcR.mpr (Int.ofNat_le.mpr ?_));exact mA λc _ hc=>Fs.nt hc h
def fc(ds:List D):Prop:=ds.Pairwise λa b=>ltC (code b) (code a)=M
theorem oy(d:D):∀es,(Fp d es).Perm (d::es)
 |[]=>List.Perm.refl _
 |e::es=>by
  unfold Fp;split
  .exact List.Perm.refl _
  .exact((oy d es).cons e).trans (List.Perm.swap d e es)
theorem bT:∀ds,(bG ds).Perm ds
 |[]=>List.Perm.refl _
 |d::ds=>(oy d _).trans ((bT ds).cons d)
theorem pB(d:D):∀{es},fc es->fc (Fp d es)
 |[],_=>List.pairwise_singleton _ _
 |e::es,h=>by
  have h' :=GaV.mp h;unfold Fp;split
  .rename_i c;refine GaV.mpr ⟨λb hb=> ?_,h⟩;rcases Gat.mp hb with q|q
   .subst q;exact Fs.UI c
   .cases z:ltC (code b) (code d) with
    |false=>rfl
    |true=>have:=Fs.tr _ _ _ z c;rw[h'.1 b q] at this;cases this
  .rename_i c;refine GaV.mpr ⟨λb hb=> ?_,pB d h'.2⟩;rcases Gat.mp ((oy d es).mem_iff.mp hb) with q|q
   .subst q;simpa using c
   .exact h'.1 b q
theorem cR:∀ds,fc (bG ds)
 |[]=>List.Pairwise.nil
 |d::ds=>pB d (cR ds)
theorem gr:∀{xs ys},xs.Perm ys->fc xs->fc ys->(∀a∈xs,∀b∈xs,code a=code b->a=b)->xs=ys
 |[],ys,hp,_,_,_=>(List.nil_perm.mp hp).symm
 |x::xs,ys,hp,hx,hy,hi=>by
  cases ys with
  |nil=>exact absurd (List.perm_nil.mp hp) (by simp)
  |cons y ys=>
   have px:=GaV.mp hx;have py:=GaV.mp hy;have e:x=y:=by
    have mx:=hp.mem_iff.mp Gaj;have my:=hp.mem_iff.mpr Gaj;rcases Gat.mp mx with q|q
    .exact q
    .rcases Gat.mp my with r|r
     .exact r.symm
     .exact hi x Gaj y my (Fs.tot _ _ (py.1 x q) (px.1 y r)).symm.symm
   subst e;rw[gr (List.perm_cons x|>.mp hp) px.2 py.2 λa ha b hb=>hi a (Gaf _ ha) b (Gaf _ hb)]
@[simp] noncomputable def fE:Nat->List D->List D
 |_,[]=>[]
 |i,x::xs=> .tup [.int i,x]::fE (i+1) xs
@[simp] def ur(f:DE):DI:=λenv=>(f env).bind λr=>if r.k= .to then J else match r.d with
 | .lst xs=>U (fE 0 xs)
 | .tup xs=>U (fE 0 xs)
 |_=>J
theorem gS:∀i xs,(fE i xs).length=xs.length
 |_,[]=>rfl
 |i,x::xs=>by simp[gS (i+1) xs]
theorem gU:∀(k:Nat) (xs:List D) (i:Nat),(fE k xs)[i]? =(xs[i]?).map λx=> .tup [.int ((k+i:Nat)),x]
 |_,[],i=>by simp
 |k,x::xs,i=>by
  cases i with
  |zero=>simp
  |succ i=>
   simp only[fE,GcB];rw[gU (k+1) xs i,show k+1+i=k+(i+1) by lia]
def pC(x:D)(ds:List D):Option Bool:=if aJ 10 x&&ds.all (aJ 10) then U (ds.any λy=>eqD y x) else J
def inB(x y:D):Option Bool:=match y with
 | .lst ds=>pC x ds
 | .tup ds=>pC x ds
 |_=>J
def Ai(x y:D):Option Bool:=(inB x y).map (!·)
noncomputable def Aj:SpV
 |[.int i]=>U ⟨.c,.int i⟩
 |[.bl b]=>U ⟨.c,.int (if b then 1 else 0)⟩
 |_=>J
@[simp] theorem Sg:Aj [.int i]=U ⟨.c,.int i⟩:=rfl
@[simp] theorem TK:Aj [.bl b]=U ⟨.c,.int (if b then 1 else 0)⟩:=rfl
noncomputable def iu{α:Type}(xs:List α)(i:Int)(y:α):List α:=xs.take (if i<0 then(i+(xs.length:Int)).toNat else min i.toNat xs.length)++y::xs.drop (if i<0 then(i+(xs.length:Int)).toNat else min i.toNat xs.length)
def uu(xs:List α)(i:Int)(y:α):(iu xs i y).length=xs.length+1:=by
 unfold iu
 grind
def BN(xs:List α)(i:Int)(y:α):(iu xs i y).Perm (y::xs):=by
 refine GdA.trans ?_;simp_all
@[simp] def P0(i:Nat)(k v:DE):DS:=λenv=>(k env).bind λx=>(v env).bind λr=>(ownAt i env).bind λd=>match d,x.d with
 | .lst xs,.int j=>if r.free&&(decide (xs.length<af)&&aS j) then U (.nx (env.set i (U (.own (.lst (iu xs j r.d)))))) else J
 |_,_=>J
@[simp] def Ij(f:DE):DE:=λenv=>(f env).bind λr=>match r.d with
 | .int j=>if j<=af/\-1000000<=j then U ⟨.tn,.lst (aC 0 j.toNat)⟩ else J
 |_=>J
def mmD(best:Int->List Int->Int)(dv:D)(d:D):Option RV:=(jy d).bind λds=>(CW ds).map λns=>match ns with
 |[]=> ⟨.c,dv⟩
 |n::ns=> ⟨.c,.int (best n ns)⟩
@[simp] def mmE(best:Int->List Int->Int)(dv:D)(f:DE):DE:=λenv=>(f env).bind λr=>mmD best dv r.d
noncomputable def unI:D->Int
 | .int i=>i
 |_=>0
noncomputable def Pa:Key->D
 | .inl i=> .int i
 | .inr x=> .str x
def Ft:D->D->Option (Option D)
 | .dT eD,.tup ks=>(keysOf ks).map λk=>look eD k
 |_,_=>J
@[simp] def Ik(o k d:DE):DE:=λenv=>(o env).bind λx=>(k env).bind λy=>(d env).bind λr=>if r.k= .c then(Ft x.d y.d).map λv=> ⟨.c,v.getD r.d⟩ else J
@[simp] theorem TL:Ft (.dT eD) (.tup ks)=(keysOf ks).map λk=>look eD k:=rfl
def cP(eD:List (List Key×D)):List D:=eD.map λp=> .tup [.tup (p.1.map Pa),p.2]
@[simp] noncomputable def Dh(vw:List (List Key×D)->List D)(f:DE):DI:=λenv=>(f env).bind λr=>if r.k= .tn then match r.d with
 | .dT eD=>U (vw eD)
 |_=>J
 else J
@[simp] noncomputable def Sh(i:Nat)(env:Env):Bool:=(List.range env.length).all λj=>j==i||match env[j]? with
 |some (U (.bor _))=>M
 |_=>O
@[simp] def dictAt(i:Nat)(env:Env):Option (List (List Key×D)):=match env[i]? with
 |some (U (.own (.dT eD)))=>U eD
 |some (U (.lok (.dT eD)))=>U eD
 |some (U (.bor (.dT eD)))=>if Sh i env then U eD else J
 |_=>J
@[simp] def vJ(vw:List (List Key×D)->List D)(i n:Nat)(ay:List Nat)(g:DG)(t:DT)(f:DE):DE:=λenv=>(dictAt i env).bind λeD=>
 if(vw eD).length<=af then(cB g t f (vw eD) (Zx n ay (env.set i J))).map λrs=> ⟨.tn,.lst rs⟩ else J
noncomputable def vL:D->Bool
 | .tup (_::_)=>O
 |_=>M
@[simp] noncomputable def Il(env:Env):Bool:=env.all λz=>match z with
 |some (.bor _)=>M
 |_=>O
noncomputable def dd1(ks:List Int)(k:Int):List Int:=if k∈ks then ks else ks++[k]
def ddF(ns:List Int):List Int:=ns.foldl dd1 []
abbrev Rws:=List (List Key×D)
abbrev DM:=Env->Rws->Option (Env×Rws)
@[simp] noncomputable def Si(f g:DM):DM:=λenv eA=>(f env eA).bind λq=>g q.1 q.2
@[simp] noncomputable def setM(j:Nat)(f:DE):DM:=λenv eA=>(f env).bind λr=>match r.k with
 | .c=>U (env.set j (U (.sh r.d)),eA)
 |_=>J
def Io(eD:Rws)(k:List Key)(d:D):Option Rws:=if eD.length<af then match eD.findIdx? (λp=>decide (p.1=k)) with
 |some j=>match eD[j]? with
  |some (_,.lst ds)=>if ds.length<af then U (eD.set j (k,.lst (ds++[d]))) else J
  |_=>J
 |none=>U (eD++[(k,.lst [d])])
 else J
@[simp] def Sj(k f:DE):DM:=λenv eA=>(k env).bind λy=>(f env).bind λr=>match y.d with
 | .tup ks=>if r.d.imm&&Il env then(keysOf ks).bind λk=>(Io eA k r.d).map λyr =>(env,yr) else J
 |_=>J
@[simp] noncomputable def qW(j:Nat)(f:DM):List D->DM
 |[],env,eA=>U (env,eA)
 |d::ds,env,eA=>(f (env.set j (U (.sh d))) eA).bind λq=>qW j f ds q.1 q.2
@[simp] def Nb(j:Nat)(e:DE)(f:DM):DM:=λenv eA=>(e env).bind λr=>match r.d with
 | .tup xs=>if aA xs then qW j f xs env eA else J
 |_=>J
@[simp] noncomputable def Ip(i:Nat)(f:DM):DS:=λenv=>(f (env.set i J) []).bind λq=>U (.ret (.dT q.2))
open PySem.W (KatLex KatTups kas_sort kas_ask kat_kind kat_lt kat_one kat_run kat_snds BoolBack kat_lt_int)
def FlV:D->ZH->Prop
 | .non,v=>v= .none
 | .int i,v=>∃t,v= .int i t
 | .str x,v=>∃t,v= .str x t
 |_,_=>False
def jS(h:ZK):D->ZH->Prop
 | .int i,v=>∃t,v= .int i t
 | .tup fs,v=>∃a o n us,v= .ref a/\h.get? a=U o/\o.cls= .type "tuple"/\o.data= .seq (List.toArray us) n/\Paired FlV fs us
 |_,_=>False
def jS.keep{h h' :ZK}{d:D}{v:ZH}(k:jS h d v)(e:∀b o,h.get? b=U o->h'.get? b=U o):jS h' d v:=by
 cases d with
 |int i=>exact k
 |tup fs=>obtain⟨a,o,n,us,h1,h2,h3⟩:=k;exact⟨a,o,n,us,h1,e _ _ h2,h3⟩
 |_=>exact k
def kA{α β:Type}{R S:α->β->Prop}{xs:List α}{ys:List β}(h:∀a b,R a b->S a b)(p:Paired R xs ys):Paired S xs ys:=L2.Paired.Ka p h
def Li{xs ys:List Nat}(h:xs.map Int.ofNat=ys.map Int.ofNat):xs=ys:=by
 induction xs generalizing ys with
 |nil=>cases ys with
  |nil=>rfl
  |cons=>simp at h
 |cons x xs ih=>cases ys with
  |nil=>simp at h
  |cons y ys=>
   simp only[Gay,GcY] at h;rw[ih h.2,Int.ofNat_inj.mp h.1]
def Lj{x y:Str}(h:x.cps.toList=y.cps.toList):x=y:=by
 cases x;simp_all
def oz(ha:lE a=O)(hb:lE b=O)(h:b7 a=b7 b):a=b:=by
 cases a<;>cases b<;>simp[lE,tyD] at ha hb<;>simp[b7] at h
 .rfl
 .rw[h]
 .have:=Lj (Li h);rw[this]
theorem uw:∀{as bs:List D},as.all lE=O->bs.all lE=O->as.map b7=bs.map b7->as=bs
 |[],[],_,_,_=>rfl
 |[],_::_,_,_,h=>by simp at h
 |_::_,[],_,_,h=>by simp at h
 |a::as,b::bs,ha,hb,h=>by
  rw[GbA,Gah] at ha hb;simp only[Gay,GcY] at h;rw[oz ha.1 hb.1 h.1,uw ha.2 hb.2 h.2]
def Pb(h:(tyD a==t)=O)(ht:t≠3):lE a=O:=by
 unfold lE;simp_all
def kZ(ht:t≠3)(h:lF t d=O):∃f r,d= .tup (f::r)/\tyD f=t/\(f::r).all lE=O:=by
 unfold lF at h;split at h
 .rename_i f r;rw[Gah] at h;refine⟨f,r,rfl,Gbv.mp h.1, ?_⟩;rw[GbA,Gah];exact⟨Pb h.1 ht,h.2⟩
 .cases h
def jA(h:Fq d=O):∃i,d= .int i:=by
 unfold Fq at h;split at h
 .exact⟨_,rfl⟩
 .cases h
def Ak(h:ZA ds=O):∀a∈ds,∀b∈ds,code a=code b->a=b:=by
 intro a ha b hb e;unfold ZA at h;rw[GaX,Gah,GaX] at h;have tup:∀t,t≠3->ds.all (lF t)=O->a=b:=λt ht hk=>by
  obtain⟨f,r,rfl,_,q1⟩:=kZ ht (Gar.mp hk a ha);obtain⟨f',r',rfl,_,q2⟩:=kZ ht (Gar.mp hk b hb);rw[uw q1 q2 e]
 rcases h with h| ⟨h|h,_⟩
 .obtain⟨i,rfl⟩:=jA (Gar.mp h a ha);obtain⟨j,rfl⟩:=jA (Gar.mp h b hb);simp[code,b7] at e;rw[e]
 .exact tup 1 (by decide) h
 .exact tup 2 (by decide) h
def Di:dO ltI (b7 (.int i)) (b7 (.int j))=decide (i<j):=by
 unfold b7;simp only[dO];by_cases e:i=j
 .subst e;simp
 .rw[Gai e]
  rfl
theorem Dj:∀(xs ys:List Nat),dO ltI (xs.map Int.ofNat) (ys.map Int.ofNat)=decide (xs<ys)
 |[],[]=>by simp[dO]
 |[],y::ys=>by simp[dO]
 |x::xs,[]=>by simp[dO]
 |x::xs,y::ys=>by
  simp only[Gay,dO];by_cases e:x=y
  .subst e;rw[Dj xs ys];simp
  .rw[Gai (λz:Int.ofNat x=Int.ofNat y=>e (Int.ofNat_inj.mp z))];have:(x::xs<y::ys)↔x<y:=by rw[List.cons_lt_cons_iff];simp[e]
   unfold ltI;simp[this]
def Lk{x y:Str}:dO ltI (b7 (.str x)) (b7 (.str y))=decide (x.cps.toList<y.cps.toList):=by
 exact Dj _ _
section
variable{prog:ZQ}{w:World}{A:ZL}{E:VSP}{s:ZI}
def Sk(ha:FlV a u)(hb:FlV b v)(ht:tyD a=tyD b)(h:Q (decide (b7 a=b7 b)) s):wpAny (model prog w) A (eqBool u v) Q E s:=by
 cases a<;>cases b<;>simp[tyD] at ht<;>try exact ha.elim
 .cases ha;cases hb;exact Gab (wpAny_rule (Gad h))
 .obtain⟨t,rfl⟩:=ha;obtain⟨t',rfl⟩:=hb;refine wpAny_eqBool_int ?_;rename_i i j;have e:decide (b7 (.int i)=b7 (.int j))=(i==j):=by
   simp only[b7];by_cases q:i=j
   .subst q;simp
   .simp[q]
  rw[e] at h;exact h
 .obtain⟨t,rfl⟩:=ha;obtain⟨t',rfl⟩:=hb;refine eqBool_str ?_;rename_i i j;have e:decide (b7 (.str i)=b7 (.str j))=(i==j):=by
   by_cases q:i=j
   .subst q;simp
   .have:¬b7 (.str i)=b7 (.str j):=λz=>q (by
     have:=oz rfl rfl z;cases this
     rfl)
    simp[q,this]
  rw[e] at h;exact h
def Sl{one:Bool}{Q:Bool->ZI->Prop}(ha:FlV a u)(hb:FlV b v)(ht:tyD a=tyD b)(hk:tyD a=1\/tyD a=2)(h:Q (dO ltI (b7 a) (b7 b)) s):wpAny (model prog w) A (oneLt' one u v) Q E s:=by
 cases a<;>cases b<;>simp[tyD] at ht hk
 .obtain⟨t,rfl⟩:=ha;obtain⟨t',rfl⟩:=hb;rw[Di] at h;cases one with
  |true=>exact oneLt_int h
  |false=>exact kat_one _ _ (PyProof.Rows.lt_int h)
 .obtain⟨t,rfl⟩:=ha;obtain⟨t',rfl⟩:=hb;rw[Lk] at h;cases one with
  |true=>exact oneLt_str h
  |false=>exact kat_one _ _ (PyProof.Rows.lt_str h)
def Pc:∀{as bs us vs} i,Paired FlV as us->Paired FlV bs vs->lQ as bs=O->fin=decide (as.length<bs.length)->Q (ltC (as.map b7) (bs.map b7)) s->KatLex prog w A b fin Q (us.zip vs) i s:=by
 intro as;induction as with
 |nil=>
  intro bs us vs i p1 p2 _ hf h;have h' :Q fin s:=by
   rw[hf];cases p2 with
   |nil=>exact h
   |cons _ _=>rw[GaD (by simp)];exact h
  cases p1;exact h'
 |cons a as ih=>
  intro bs us vs i p1 p2 hc hf h;cases p1 with
  | @cons _ u _ us ha ta=>
  cases p2 with
  |nil=>
   have h' :Q fin s:=by rw[hf];exact h
   exact h'
  | @cons c v cs vs hb tb=>
  unfold lQ at hc;have h0:ltC ((a::as).map b7) ((c::cs).map b7)=if b7 a=b7 c then ltC (as.map b7) (cs.map b7) else dO ltI (b7 a) (b7 c):=rfl
  rw[h0] at h;have ht:tyD a=tyD c:=by
   split at hc
   .rename_i e;cases a<;>first|exact ha.elim|(cases c<;>first|exact hb.elim|rfl|(simp[b7] at e;done))
   .rw[Gah] at hc;exact Gbv.mp hc.1
  refine Sk ha hb ht ?_;by_cases e:b7 a=b7 c
  .rw[GaD e];rw[Gao e] at h hc;exact ih (i+1) ta tb hc (by rw[hf];simp) h
  .rw[GaE e];rw[Gai e] at h hc;rw[Gah,GaX] at hc;exact Sl ha hb ht (hc.2.imp Gbv.mp Gbv.mp) h
variable{ds:List D}
def Al(hK:Paired (jS s.heap) ds vs)(hok:ZA ds=O)(hY:(ds.all Fq=O/\Y=oneType')\/((ds.all (lF 1)||ds.all (lF 2))=O/\(ds.all λx=>ds.all λy=>Ah x y)=O/\Y=tuples' O)):
  ∀i j C,i<ds.length->j<ds.length->C (decide (rank (ds.map code) i<rank (ds.map code) j)) s->kas_ask prog w A Y vs i j C s:=by
 intro i j C hi hj h;have hl:=hK.length;rw[Dg (by simpa using hi) (by simpa using hj)] at h;simp only[Gca] at h;unfold kas_ask;have gi:vs.getD i Value.none=vs[i]:=by simp[<-hl,hi]
 have gj:vs.getD j Value.none=vs[j]:=by simp[<-hl,hj]
 rw[gi,gj];have at_:∀{ds:List D} {vs:List ZH},Paired (jS s.heap) ds vs->∀(i:Nat) (h1:i<ds.length) (h2:i<vs.length),jS s.heap ds[i] vs[i]:=by
  intro ds vs hK;induction hK with
  |nil=>intro i h1;simp at h1
  |cons h t ih=>
   intro i h1 h2;cases i with
   |zero=>exact h
   |succ i=>exact ih i (by simpa using h1) (by simpa using h2)
 have ki:=at_ hK i hi (by lia);have kj:=at_ hK j hj (by lia);rcases hY with⟨a1,rfl⟩| ⟨a1,a2,rfl⟩
 .obtain⟨x,hx⟩:=jA (Gar.mp a1 ds[i] (GaA hi));obtain⟨y,hy⟩:=jA (Gar.mp a1 ds[j] (GaA hj));rw[hx] at ki h;rw[hy] at kj h;obtain⟨t,ei⟩:=ki;obtain⟨t',ej⟩:=kj;rw[ei,ej];refine kat_lt_int ?_;have e:ltC (code (.int x)) (code (.int y))=decide (x<y):=by
   show dO (dO ltI) [b7 (.int x)] [b7 (.int y)]=_;unfold dO;split
   .rename_i z;have:=oz (a:= .int x) (b:= .int y) rfl rfl z;cases this;simp[dO]
   .exact Di
  rw[e] at h;exact h
 .have tup:∀d∈ds,∃fs,d= .tup fs:=λd hd=>by
   rw[GaX] at a1;rcases a1 with a1|a1
   .obtain⟨f,r,e,_⟩:=kZ (by decide) (Gar.mp a1 d hd);exact⟨_,e⟩
   .obtain⟨f,r,e,_⟩:=kZ (by decide) (Gar.mp a1 d hd);exact⟨_,e⟩
  have cm:=Gar.mp (Gar.mp a2 ds[i] (GaA hi)) ds[j] (GaA hj);obtain⟨xs,hx⟩:=tup ds[i] (GaA hi);obtain⟨ys,hy⟩:=tup ds[j] (GaA hj);rw[hx] at ki h cm;rw[hy] at kj h cm;obtain⟨a,o,n,us,ei,h1,h2,h3,h4⟩:=ki;obtain⟨a',o',n',Ze,ej,xI,zo,Z4,Y1⟩:=kj;rw[ei,ej];refine kat_lt h1 h3 xI Z4 ?_;exact Pc 0 h4 Y1 cm (by rw[Gav,Gav,h4.length,Y1.length]) h
def ux{vs:List ZH}(ht:t≠3)(p:Paired (jS s.heap) ds vs):ds.all (lF t)=O->∃fs,∃gs,KatTups s.heap vs fs/\Paired FlV gs fs/\(∀g∈gs,tyD g=t)/\fs.length=vs.length:=by
 induction p with
 |nil=>exactλ_=> ⟨[],[],trivial,.nil,(by intro g hg;cases hg),rfl⟩
 |cons h tl ih=>
  intro hk;rw[GbA,Gah] at hk;obtain⟨fs,gs,h1,h2,h3,h4⟩:=ih hk.2;obtain⟨f,r,rfl,q1,q2⟩:=kZ ht hk.1;obtain⟨a,o,n,us,rfl,g1,g2,g3,g4⟩:=h;cases g4 with
  |cons p t=>
   refine⟨_::fs,f::gs,KatTups.cons g1 g2 g3 (by simp) h1,.cons p h2,λg hg=> ?_,by simp[h4]⟩;rcases Gat.mp hg with e|e
   .subst e;exact q1
   .exact h3 g e
def Dk(hd:FlV d v)(ht:tyD d=t):(t=1->PySem.W.Looks Zr h (typeOf v) (.type "int"))/\(t=2->PySem.W.Looks Zr h (typeOf v) (.type "str")):=by
 subst ht;cases d<;>simp[tyD]<;>try exact hd.elim
 .obtain⟨u,rfl⟩:=hd;exact PySem.W.Looks.of_pure rfl
 .obtain⟨u,rfl⟩:=hd;exact PySem.W.Looks.of_pure rfl
def uy{vs:List ZH}(hK:Paired (jS s.heap) ds vs)(hok:ZA ds=O)(h2:2<=ds.length)
  (h:∀Y,((ds.all Fq=O/\Y=oneType')\/((ds.all (lF 1)||ds.all (lF 2))=O/\(ds.all λx=>ds.all λy=>Ah x y)=O/\Y=tuples' O))->Q Y s):wpAny (model prog w) A (keyKind' vs.toArray) Q E s:=by
 have hl:=hK.length;unfold ZA at hok;rw[GaX,Gah] at hok;rcases hok with hok| ⟨hok,hc⟩
 .have ia:∀{ds:List D} {vs:List ZH},Paired (jS s.heap) ds vs->ds.all Fq=O->∃ns,IntsAre vs ns:=by
   intro ds vs hK;induction hK with
   |nil=>intro _;exact⟨[],.nil⟩
   |cons p t ih=>
    intro hk;rw[GbA,Gah] at hk;obtain⟨ns,q⟩:=ih hk.2;obtain⟨i,rfl⟩:=jA hk.1;obtain⟨u,rfl⟩:=p;exact⟨i::ns,.cons i u q⟩
  obtain⟨ns,q⟩:=ia hK hok
  match vs,hl,q with
  |[],e,_=>rw[Gbm] at e;lia
  |[_],e,_=>rw[GcN] at e;lia
  |v1::v2::vr,_,q=>
   rw[keyKind_ints q];exact Gad (h _ (.inl ⟨hok,rfl⟩))
 .have xQ :=hok;rw[GaX] at xQ;rcases xQ with a1|a1
  .obtain⟨fs,gs,q1,q2,q3,q4⟩:=ux (by decide) hK a1;refine kat_kind (T:= .type "int") q1 (by rw[q4,<-hl];lia) (λv hv=> ?_) (by rfl) (h _ (.inr ⟨hok,hc,rfl⟩));obtain⟨g,hg,Xf⟩:∃g∈gs,FlV g v:=by
    clear q1 q3 q4;induction q2 with
    |nil=>cases hv
    |cons p t ih=>
     rcases Gat.mp hv with e|e
     .simp_all
     .obtain⟨g,h1,h2⟩:=ih e;exact⟨g,Gaf _ h1,h2⟩
   exact(Dk Xf (q3 g hg)).1 rfl
  .obtain⟨fs,gs,q1,q2,q3,q4⟩:=ux (by decide) hK a1;refine kat_kind (T:= .type "str") q1 (by rw[q4,<-hl];lia) (λv hv=> ?_) (by rfl) (h _ (.inr ⟨hok,hc,rfl⟩));obtain⟨g,hg,Xf⟩:∃g∈gs,FlV g v:=by
    clear q1 q3 q4;induction q2 with
    |nil=>cases hv
    |cons p t ih=>
     rcases Gat.mp hv with e|e
     .subst e;exact⟨_,Gaj,p⟩
     .obtain⟨g,h1,h2⟩:=ih e;exact⟨g,Gaf _ h1,h2⟩
   exact(Dk Xf (q3 g hg)).2 rfl
def Iq(vs:List ZH):(vs.toArray.zip vs.toArray).map (·.2)=vs.toArray:=by
 apply Array.toList_inj.mp;rw[Array.toList_map,Array.toList_zip];exact List.map_snd_zip (Gan _)
def BO{vs:List ZH}{P:PySem.Fin->ZI->Prop}{Ok:Array ZH->Prop}(ho:s.heap.get? a=U (seqObj "list" vs.toArray n))(sz:vs.length<=sizeLine)(one:vs.length<2->Ok vs.toArray)(len:∀out,Ok out->out.size=vs.length)
  (big:∀G,(∀b o,b≠a->s.heap.get? b=U o->G.get? b=U o)->2<=vs.length->wpAny (model prog w) A (keyKind' vs.toArray) (λY s1=>wpAny (model prog w) A (sortRuns'.run (SortSt.mk' Y (vs.toArray.zip vs.toArray) #[] 7 J)) (λr s2=>s2={s with heap:=G}/\failedOf r.2=J/\Ok ((arrOf r.2).map (·.2))) E s1) E {s with heap:=G})
  (h:∀out,Ok out->P (.done (.ret .none)) {s with heap:=sortedHeap s.heap a vs out}):wpAny (model prog w) A (Builtin.«list.sort» ⟨[.ref a],[]⟩) P E s:=by
 have⟨ep,e1⟩:∃ep,(s.heap.update a (Obj.mapSeq λ_=>(#[]:Array ZH))).get? a=U (seqObj "list" #[] ep):=⟨_,get?_update_seq ho _⟩
 rw[list_sort_plain];refine Gab (listItems_at ho rfl (Gab (listUpdate_at ho rfl (Gab (seqEpoch_at e1 rfl (Gab (wpAny_newTuple (Gab (wpAny_newList (GbJ ?_) (Gba _))) sz)))) (by simpa using sz) (Gba _))));have e2:=Gag (seqObj "list" #[] 0) (Gag (seqObj "tuple" vs.toArray 0) e1);have last:∀st:SortSt,failedOf st=J->Ok ((arrOf st).map (·.2))->wpAny (model prog w) A (do
   let touched:=(<-seqEpoch a) !=ep
   Builtin.List.listUpdate (.ref a) λ_=>(arrOf st).map (·.2)
   if let U e:=failedOf st then rule "list.sort.comparison-raised";throw e
   if touched then rule "list.sort.modified";raiseError "ValueError" "list modified during sort"
   ret .none) P E {s with heap:=((s.heap.update a (Obj.mapSeq λ_=>(#[]:Array ZH))).push (seqObj "tuple" vs.toArray 0)).push (seqObj "list" #[] 0)}:=λst f ok=>by
  refine Gab (seqEpoch_at e2 rfl (Gab (listUpdate_at e2 rfl ?_ (Gba _) (by rw[len _ ok];lia))));rw[f]
  wp_walk
  exact h _ ok
 by_cases c:vs.length<2
 .have c' :vs.toArray.size<2:=by simpa using c
  rw[Gao c',Gao c'];refine Gab (Gad (Gab (Gad (last (SortSt.mk' general' (vs.toArray.zip vs.toArray) #[] 7 J) rfl ?_))));rw[Iq];exact one c
 .have c' :¬vs.toArray.size<2:=by simpa using c
  rw[Gai c',Gai c'];refine Gab (on (big _ (λb o n q=>Gag _ (Gag _ ((Gce _ _ (Ne.symm n)).trans q))) (by lia)) λY s1 q=>Gab (on q ?_));rintro⟨⟨⟩,st⟩ s2 ⟨rfl,f,ok⟩;exact last st f ok
def l4(cs:List (List (List Int)))(vs:List ZH)(out:Array ZH):Prop:=∃p:Array Nat,Ord vs.length p/\Up (rank cs) p vs.length/\out=List.toArray (p.toList.map λi=>vs.getD i Value.none)
def l4.len{vs:List ZH}{out:Array ZH}(x:l4 cs vs out):out.size=vs.length:=by
 obtain⟨p,h1,_,rfl⟩:=x;rw[Gav,Gae,GaZ,h1.size]
def l4.one{vs:List ZH}(c:vs.length<2):l4 cs vs vs.toArray:=by
 refine⟨List.toArray (List.range vs.length),List.Perm.refl _,λu v q r=> ?_, ?_⟩
 .rw[show u=v by lia];exact GcW _
 .rcases vs with _| ⟨x,_| ⟨y,t⟩⟩
  .rfl
  .rfl
  .exact absurd c (by simp)
def vM(prog:ZQ)(w:World)(A:ZL)(E:VSP)(s:ZI)(cs:List (List (List Int)))(vs:List ZH):Prop:=
 2<=vs.length->∀Q:SortKind->ZI->Prop,(∀Y,(∀i j C,i<vs.length->j<vs.length->C (decide (rank cs i<rank cs j)) s->kas_ask prog w A Y vs i j C s)->Q Y s)->wpAny (model prog w) A (keyKind' vs.toArray) Q E s
def lU{vs:List ZH}(ho:s.heap.get? a=U (seqObj "list" vs.toArray n))(yT:vs.length<64)
  (hK:∀G,(∀b o,b≠a->s.heap.get? b=U o->G.get? b=U o)->vM prog w A E {s with heap:=G} cs vs)
  (h:∀p,Ord vs.length p->Up (rank cs) p vs.length->P (.done (.ret .none)) {s with heap:=sortedHeap s.heap a vs (List.toArray (p.toList.map λi=>vs.getD i Value.none))}):wpAny (model prog w) A (Builtin.«list.sort» ⟨[.ref a],[]⟩) P E s:=by
 refine BO ho (by rw[Gbt];lia) l4.one (λ_ q=>q.len) (λG kp c=>hK G kp c _ λY hY=> ?_) λ_ ⟨p,h1,h2,e⟩=>e▸h p h1 h2;refine Gcc (kat_run (Q:=λst s2=>s2={s with heap:=G}/\failedOf st=J/\l4 cs vs ((arrOf st).map (·.2))) (G:=λp s' =>s' ={s with heap:=G}/\Ord vs.length p/\Up (rank cs) p vs.length) rfl (by lia) yT (λp st s' q1 q2 q3 q4=> ?_) (Asks.wp (λi j C hi hj=>hY i j C hi hj) (λp hp=> ⟨rfl,hp.1,hp.2⟩) _ (Lg (by lia)))) (λr s' q=>q) λ_ _ e=>e;exact⟨q4.1,q3,p,q4.2.1,q4.2.2,kat_snds rfl q2⟩
def vN{vs:List ZH}(ho:s.heap.get? a=U (seqObj "list" vs.toArray n))(yT:vs.length<64)(hK:Paired (jS s.heap) ds vs)(hok:ZA ds=O)
  (h:∀p,Ord vs.length p->Up (rank (ds.map code)) p vs.length->P (.done (.ret .none)) {s with heap:=sortedHeap s.heap a vs (List.toArray (p.toList.map λi=>vs.getD i Value.none))}):wpAny (model prog w) A (Builtin.«list.sort» ⟨[.ref a],[]⟩) P E s:=by
 have hl:=hK.length;refine lU ho yT (λG kp c Q q=> ?_) h;have one:∀{d:D} {v:ZH},jS s.heap d v->jS G d v:=λ{d v} k=>by
  cases d with
  |tup fs=>
   obtain⟨b,o,m,us,h1,h2,h3,h4⟩:=k;refine⟨b,o,m,us,h1,kp b o (λz=> ?_) h2,h3,h4⟩;lia
  |_=>exact k
 have hKG:=kA (λ_ _=>one) hK;exact uy hKG hok (by lia) λY hY=>q Y λi j C hi hj hc=>Al hKG hok hY i j C (by lia) (by lia) hc
def Am{o:ZM}{vs:List ZH}(ho:s.heap.get? l=U o)(hc:o.cls= .type T)(hT:T="list"\/T="tuple")(hd:o.data= .seq vs.toArray n)
  (h:Q vs {s with heap:=(s.heap.push (seqObj "list" #[] 0)).update s.heap.objs.size (Obj.mapSeq (· ++vs.toArray))})(xC:vs.length<=sizeLine):wpAny (model prog w) A (collect (.ref l)) Q E s:=by
 have e0:(s.heap.push (seqObj "list" #[] 0)).get? s.heap.objs.size=U (seqObj "list" #[] 0):=Gaw _ rfl;have el:=Gag (seqObj "list" #[] 0) ho;have up:(#[]++vs.toArray:Array ZH)=vs.toArray:=by simp
 have ek:((s.heap.push (seqObj "list" #[] 0)).update s.heap.objs.size (Obj.mapSeq (· ++vs.toArray))).get? s.heap.objs.size=U (seqObj "list" (#[]++vs.toArray) _):=get?_update_seq e0 _;rw[up] at ek;refine gather λR r=> ?_;have c:(Builtin.List.listSameRef (.ref s.heap.objs.size) (.ref l)||Value.type T== .type "list"||Value.type T== .type "tuple")=O:=by rcases hT with rfl|rfl<;>rw[GaX]<;>simp
 exact Gab (GdE ⟨o,el,hc⟩ (wpAny_ite_true (by rw[c];rfl) (Gab (listItems_at el hd (Gab (listItems_at e0 rfl (GbU (by simp) (Gab (listUpdate_at e0 rfl (Gad (r _ vs.toArray _ ek h)) (Gba _) (by rw[up,Gav];lia))))))))))
def Fu{o:ZM}{vs:List ZH}(ho:s.heap.get? l=U o)(hc:o.cls= .type T)(hT:T="list"\/T="tuple")(hd:o.data= .seq vs.toArray n)(yT:vs.length<64)(hK:Paired (jS s.heap) ds vs)(hok:ZA ds=O)
  (h:∀p,Ord vs.length p->Up (rank (ds.map code)) p vs.length->Q (.ref (s.heap.objs.size+1)) {s with heap:=sortedAll s.heap vs (List.toArray (p.toList.map λi=>vs.getD i Value.none))}):wpAny (model prog w) A (call (.builtin "sorted") [.ref l]) Q E s:=by
 have szl:vs.length<=sizeLine:=by rw[Gbt];lia
 refine Calls.call_function_entry kind_sorted plain_sorted entry_sorted (args_sorted1 _) ?_;unfold Builtin.«sorted»;refine Gab (m:=checkCount "sorted" 1 1 _) (Gad (Gab (Am ho hc hT hd ?_ szl)));refine Gab (wpAny_newList ?_ szl);generalize hG:(s.heap.push (seqObj "list" #[] 0)).update s.heap.objs.size (Obj.mapSeq (· ++vs.toArray))=G;have xC:G.objs.size=s.heap.objs.size+1:=by rw[<-hG,Heap.size_update,size_push']
 have yO:(G.push (seqObj "list" vs.toArray 0)).get? (s.heap.objs.size+1)=U (seqObj "list" vs.toArray 0):=by rw[<-xC];exact Gaw _ rfl
 have keep:∀b o,s.heap.get? b=U o->(G.push (seqObj "list" vs.toArray 0)).get? b=U o:=λb o e=>by
  have eY:=Gaz e;refine Gag _ ?_;rw[<-hG,Heap.get?_update_ne _ _ _ _ (GaI eY)];exact Gag _ e
 have hKG:Paired (jS (G.push (seqObj "list" vs.toArray 0))) ds vs:=by
  exact kA (λ_ _ p=>p.keep keep) hK
 show wpAny _ _ _ _ _ {s with heap:=G.push (seqObj "list" vs.toArray 0)};rw[xC];refine Gab (GbJ (Gbc slot_list_sort ⟨_,yO,rfl⟩ entry_list_sort (vN (s:={s with heap:=G.push (seqObj "list" vs.toArray 0)}) yO yT hKG hok λp h1 h2=> ⟨_,rfl, ?_⟩) (args_list_sort _)));have:=h p h1 h2;unfold sortedAll at this;rw[hG] at this;exact Gad ⟨_,rfl,this⟩
end
section
def Sm{K:ai}(r:Rep K F H d v)(hf:lE d=O)(ru:Zt v u):FlV d u:=by
 cases r<;>simp[lE,tyD] at hf
 .cases ru;rfl
 .exact ru
 .exact ru
theorem Ir{K:ai}:∀{ds vs us},aN K F H ds vs->ds.all lE=O->Zu vs us->Paired FlV ds us
 |[],vs,us,r,_,ru=>by
  have:=r.cz;subst this;cases ru;exact .nil
 |d::ds,vs,us,r,hf,ru=>by
  obtain⟨v,w,rfl,h1,h2⟩:=r.cons_inv;rw[GbA,Gah] at hf;cases ru with
  |cons r1 r2=>exact .cons (Sm h1 hf.1 r1) (Ir h2 hf.2 r2)
def isKey(d:D):Bool:=match d with
 | .int _=>O
 | .tup fs=>fs.all lE
 |_=>M
variable{X:Cx}
def oj{Z:St}{s:ZI}(I:Inv X e8 Z H s)(r:Rep X.K F H d v)(hk:isKey d=O)(ru:Zt v u):jS s.heap d u:=by
 cases r<;>simp[isKey] at hk
 .exact ru
 .rename_i a vs fs h l r;cases ru;obtain⟨its,rv,⟨o,h1,h2,n,h3⟩,_⟩:=I.tuple (SqT.of h);exact⟨a,o,n,its,rfl,h1,h2,h3,Ir ⟨l,r⟩ (Gar.mpr hk) rv⟩
theorem vO{X:Cx}{Z:St}{s:ZI}(I:Inv X e8 Z H s):∀{ds vs us},aN X.K F H ds vs->ds.all isKey=O->Zu vs us->Paired (jS s.heap) ds us
 |[],vs,us,r,_,ru=>by
  have:=r.cz;subst this;cases ru;exact .nil
 |d::ds,vs,us,r,hf,ru=>by
  obtain⟨v,w,rfl,h1,h2⟩:=r.cons_inv;rw[GbA,Gah] at hf;cases ru with
  |cons r1 r2=>exact .cons (oj I h1 hf.1 r1) (vO I h2 hf.2 r2)
def An{ds:List D}(h:ZA ds=O):ds.all isKey=O:=by
 unfold ZA at h;rw[GaX,Gah,GaX] at h;refine Gar.mpr λd hd=> ?_;have tup:∀t,t≠3->ds.all (lF t)=O->isKey d=O:=λt ht hk=>by
  obtain⟨f,r,rfl,_,q1⟩:=kZ ht (Gar.mp hk d hd);exact q1
 rcases h with h| ⟨h|h,_⟩
 .obtain⟨i,rfl⟩:=jA (Gar.mp h d hd);rfl
 .exact tup 1 (by decide) h
 .exact tup 2 (by decide) h
def range_getD{α:Type}{xs:List α}{d:α}:(List.range xs.length).map (λi=>xs.getD i d)=xs:=by
 apply GcS
 .simp
 .intro i h1 h2;simp[h2]
variable{p:Array Nat}
def jB{α:Type}{xs:List α}{d:α}(h:Ord xs.length p):(p.toList.map λi=>xs.getD i d).Perm xs:=by
 have:=GcU (λi=>xs.getD i d) h;rw[range_getD] at this;exact this
def Iu(h:Ord n p)(hi:i<p.toList.length):p.toList[i]<n:=GaS.mp (h.mem_iff.mp (GaA hi))
def qX{ds:List D}(h:Ord ds.length p)(hu:Up (rank (ds.map code)) p ds.length):fc (p.toList.map λi=>ds.getD i .non):=by
 refine GcZ.mpr λi j hi hj yn=> ?_;rw[Gae] at hi hj;rw[Gca,Gca];have bi:=Iu h hi;have bj:=Iu h hj;have hs:=h.size;have xb :i<p.size:=by simpa using hi
 have hj' :j<p.size:=by simpa using hj
 have u:=hu i j (GcM yn) (by lia);unfold cw at u;have ei:p.getD i 0=p.toList[i]:=by simp[xb]
 have ej:p.getD j 0=p.toList[j]:=by simp[hj']
 rw[ei,ej] at u;have r:=Dg (cs:=ds.map code) (i:=p.toList[j]) (j:=p.toList[i]) (by simpa using bj) (by simpa using bi);rw[GaE (GcR.mpr u)] at r;simp only[Gca] at r;have gd:∀{k:Nat} (hk:k<ds.length),ds.getD k .non=ds[k]:=λ{k} hk=>by simp[hk]
 have gi:=gd bi;have gj:=gd bj;rw[gi,gj];exact r.symm
def Ao{K:ai}{ds:List D}{vs:List V}(h:Ord ds.length p)(r:aN K F H ds vs):aN K F H (p.toList.map λi=>ds.getD i .non) (p.toList.map λi=>vs.getD i .non):=by
 refine⟨by simp,λi d v e1 e2=> ?_⟩;rw[Gap] at e1 e2;cases q:p.toList[i]? with
 |none=>rw[q] at e1;cases e1
 |some k=>
  rw[q] at e1 e2;have hk:=GaS.mp (h.mem_iff.mp (Gax q));have xR:k<vs.length:=by rw[<-r.1];exact hk
  cases e1;cases e2;exact r.2 k _ _ (by simp[hk]) (by simp[xR])
def Ap{vs:List V}{us:List ZH}(h:Ord vs.length p)(r:Zu vs us):Zu (p.toList.map λi=>vs.getD i .non) (p.toList.map λi=>us.getD i Value.none):=by
 have all:∀(l:List Nat),(∀i∈l,i<vs.length)->Zu (l.map λi=>vs.getD i .non) (l.map λi=>us.getD i Value.none):=by
  intro l;induction l with
  |nil=>intro _;exact .nil
  |cons i l ih=>
   intro hm;have hi:=hm i Gaj;obtain⟨u,hu,ru⟩:=r.get (x:=vs[i]) (i:=i) (by simp);refine .cons ?_ (ih λj hj=>hm j (Gaf _ hj));simp_all
 exact all _ λi hi=>GaS.mp (h.mem_iff.mp hi)
def Dl(K:ai):List V->Hp->VK->Prop:=λxs H Q=>∃(p:ZG) (ds:List D) (vs:List V) (F:ZG->Prop),xs=[.ref p]/\(SqL K H p vs\/SqT K H p vs)/\aN K F H ds vs/\ds.length<64/\ZA ds=O/\
 ∀l out,H l=J->(∀F',aN K F' H ds vs->aN K F' H (bG ds) out)->Q (.ref l) (upd H l (.lst out))
def Aq:i0 X (.builtin "sorted") (Dl X.K):=by
 intro e8 s Z H xs us Q I rv h;obtain⟨p,ds,vs,F,rfl,hq,hr,yT,hok,q⟩:=h;obtain⟨u,rfl,ru⟩:=rv.one;cases ru;obtain⟨o,T,n,its,ho,hc,hT,hd,xg⟩:∃(o:ZM) (T:String) (n:Nat) (its:List ZH),s.heap.get? p=U o/\o.cls= .type T/\(T="list"\/T="tuple")/\o.data= .seq its.toArray n/\Zu vs its:=by
  rcases hq with hq|hq
  .obtain⟨its,xg,pl,_⟩:=I.list hq;obtain⟨o,h1,h2,n,h3⟩:=pl.isList;exact⟨o,"list",n,its,h1,h2,.inl rfl,h3,xg⟩
  .obtain⟨its,xg,⟨o,h1,h2,n,h3⟩,_⟩:=I.tuple hq;exact⟨o,"tuple",n,its,h1,h2,.inr rfl,h3,xg⟩
 have e1:its.length=ds.length:=by rw[<-xg.length,hr.1]
 have hK:=vO I hr (An hok) xg;refine Fu ho hc hT hd (by lia) hK hok λod h1 h2=> ?_;have xI :Ord ds.length od:=by rw[<-e1];exact h1
 have zo :Up (rank (ds.map code)) od ds.length:=by rw[<-e1];exact h2
 have uniq:=gr ((jB xI).trans (bT ds).symm) (qX xI zo) (cR ds) λa ha b hb=>Ak hok a ((jB xI).mem_iff.mp ha) b ((jB xI).mem_iff.mp hb);obtain⟨c,xA⟩:=sortedAll_at s.heap its (List.toArray (od.toList.map λi=>its.getD i Value.none));have fresh:=I.hok.fresh (GbO _);have h1v:Ord vs.length od:=by rw[<-hr.1];exact xI
 refine⟨.ref (s.heap.objs.size+1),_,I.laid (o:= .lst (od.toList.map λi=>vs.getD i .non)) (λb ob e=>sortedAll_old e) (GbO _) ?_,rfl,q _ _ fresh λF' r=> ?_⟩
 .refine⟨?_,_,c,Ap h1v xg,xA⟩;rw[Gae,GaZ,h1v.size,<-hr.1,Gbt];lia
 .rw[<-uniq];exact Ao xI r
def vP:CallD X Zy (Dl X.K):=by
 intro F H ds vs rv Q ps e k;obtain⟨d,xs,rfl,h1,h2⟩:=BK e;split at h2
 .rename_i c;rw[Gah] at c;cases h2;obtain⟨v,rfl,i⟩:=iZ ps;obtain⟨p,vs,rfl,hs,r⟩:=vD i h1;exact⟨p,xs,vs,F,rfl,hs,r,Gaq c.1,c.2,λl out hl hr=>k _ _ (aW hl) ⟨l,rfl,hl,ou,rfl,ft hl (hr F r)⟩⟩
 .cases h2
end
section
variable{X:Cx}
def _root_.L2.Inv.qY{s s' :ZI}{ch:List ZG}(I:Inv X e8 Z H s)(hf:∀b∈ch,mj X e8 H b)(yf:s'.os=s.os)(hg:s'.gens=s.gens)
  (k:∀b u,b∉ch->s.heap.get? b=U u->s'.heap.get? b=U u)(hT:s.heap.objs.size<=T)(new:cJ X.prog X.w (upd H T o) s'.heap T o):Inv X e8 Z (upd H T o) s' :=by
 have hn:H T=J:=I.hok.fresh hT;have ne:∀{b u},H b=U u->b≠T:=λ{b u} q=>dq q hn;refine I.ML (ch:=ch) yf ⟨λb ob q _ _ hx=>k b ob hx q,λb ob q _ _ hx=> ⟨ob.slots,k b ob hx q⟩,λb ob q n _=> ?_,λb ob q hx=> ⟨ob,k b ob hx q⟩,λb xs q=> ?_,λb ob u q=> ?_,λb ps q=> ⟨#[], ?_⟩⟩ ?_ (by rw[hg];exact I.bare) λb hb=> ⟨(hf b hb).2.2.2.1,(hf b hb).2.1,(hf b hb).2.2.2.2.1,(hf b hb).2.2.2.2.2⟩
 .rw[ao (GaI (GaJ (Gaz q) hT))];exact n
 .rw[ao (ne q)];exact q
 .rw[ao (ne q)];exact q
 .rw[ao (ne q),q];simp
 .intro b u q;by_cases hb:b=T
  .subst hb;rw[aD] at q;cases q;exact new
  .rw[ao hb] at q;have tr:∀{c v},H c=U v->c∉ch:=λ{c v} z hc=>by rw[(hf c hc).1] at z;cases z
   refine(I.hok b u q).dM (λc v hc z=>k c v ?_ z) (λc z=>by rw[ao (ne z)];exact z) λc xs z=>by rw[ao (ne z)];exact z
   rcases hc with hc|hc
   .rw[hc];exact tr q
   .exact tr hc
def Ite(K:ai)(l:ZG):It:=
 ⟨λi H=>∃xs x,SqL K H l xs/\xs[i]? =U x,λi H x H' =>∃p y,H p=J/\x= .ref p/\H' =upd H p (.tup [.int i,y])/\∀xs,SqL K H l xs->xs[i]? =U y,λi H=>∃xs,SqL K H l xs/\xs.length<=i⟩
theorem Fv{K:ai}(en it l:ZG)(xy:en≠it):Turn P w K (.Tuple elts x1 tp) (Ite K l) [en,it] en (λi h=>(∃old,IsEnum h en it i old)/\h.IsListIter it l i) where
 mem:=by simp
 obj:=λi h st b hb=>by
  obtain⟨⟨old,he⟩,o,e,c,d⟩:=st;rcases Gat.mp hb with z|z
  .simp_all
  .simp_all
 keep:=λi h h' st k=> ⟨let⟨old,he⟩:=st.1;⟨old,k en (by simp) _ he⟩,st.2.at λo e=>k it (by simp) o e⟩
 item:=by
  intro X hP hw hK hc i e8 s Z H E I hf st hg;subst hP hw hK;obtain⟨⟨old,he⟩,hit⟩:=st;obtain⟨xs,x,hq,hx⟩:=hg;obtain⟨its,rv,p,hz⟩:=I.list hq;obtain⟨u,hu,ru⟩:=rv.get hx;refine wpAny_pyNext_enum_item he hit p.isList (by simpa using hu) xy λh' ho xE hT xC kk=> ⟨_,rfl, ?_⟩;refine wpAny_letOwnedTupleGo_enum ho λh2 xS sb=> ?_;have hltE:=Gaz he;have kept:∀b o,b∉[en,it]->s.heap.get? b=U o->h2.get? b=U o:=λb o hb e=>by
   have b1:b≠en:=λz=>hb (by simp[z]);have b2:b≠it:=λz=>hb (by simp[z]);exact(sb.2 b b1).trans (kk b o b1 b2 e)
  have Wh:h2.get? s.heap.objs.size=U {cls:= .type "tuple",data:= .seq #[.int i s.toks,u]}:=(sb.2 _ (GbR hltE)).trans hT;have I1:Inv X e8 Z (upd H s.heap.objs.size (.tup [.int i,x])) {s with heap:=h2,toks:=s.toks+1}:=I.qY hf rfl rfl kept (Gan _) (by
   refine⟨by simp[Gbt],[.int i s.toks,u],.cons ⟨_,rfl⟩ (.cons ru .nil),_,Wh,rfl,0,rfl⟩)
  refine⟨.ref s.heap.objs.size,_,I1,rfl,⟨_,x,I.fresh,rfl,rfl,λys hy=>by rw[I.wO hy hq];exact hx⟩,⟨⟨u,by simpa using xS⟩,xE.at λo e=>(sb.2 it (Ne.symm xy)).trans e⟩,λb hb=> ?_⟩;obtain⟨o,ob,_⟩:∃o,s.heap.get? b=U o/\True:=by
   rcases Gat.mp hb with z|z
   .subst z;exact⟨_,he,trivial⟩
   .have z' :b=it:=by simpa using z
    subst z';obtain⟨o,e,_⟩:=hit;exact⟨o,e,trivial⟩
  rw[ao (GaI (Gaz ob))];exact(hf b hb).1
 done:=by
  intro X hP hw hK hc i e8 s Z H E I hf st hg;subst hP hw hK;obtain⟨⟨old,he⟩,hit⟩:=st;obtain⟨xs,hq,hx⟩:=hg;obtain⟨its,rv,p,hz⟩:=I.list hq;obtain⟨f0,f1,f2,f3,f4,f5⟩:=hf it (by simp);have hl:=rv.length;exact wpAny_pyNext_enum_end (I.ok.hd hc) he hit p.isList (by simp;lia) λh' eb=> ⟨rfl,I.turned (λb o hb e=>eb b o hb e) f0 f1 f3 f4 f5⟩
 self:=λ_ _ _ _ _ st h=>let⟨old,he⟩:=st.1;Gds he h
def qZ{A:ZL}{z:ZI}(hh:A.handled=J)(hit:z.heap.IsTupleIter it t i)(ht:z.heap.IsTuple t its)
  (hQ:∀x h',its[i]? =U x->h'.IsTupleIter it t (i+1)->Heap.SameBut it z.heap h' ->Q x {z with heap:=h' })
  (hE:∀h' e,its[i]? =J->Heap.ExtBut it z.heap h' ->(∃o,h'.get? e=U o/\o.cls= .type "StopIteration")->E (.ref e) {z with heap:=h' }):wpAny (model prog w) A (Builtin.SmallTypes.nextOf (.ref it)) Q E z:=by
 have f:FO z.heap it _ _:=hit;obtain⟨ol,YJ,_,nl,YV⟩:=ht
 wp_walk using Gbq f.ty F.slot_tuple_iterator_next,Gbc F.slot_tuple_iterator_next f.ty F.entry_tuple_iterator_next (ha:=F.args_tuple_iterator_next_1 _),jR (i:=0) (x:= .ref t) f rfl,jR (i:=1) (x:= .int i 0) f rfl,Gcq YJ YV
 rw[show its[(i:Int).toNat]? =its[i]? by simp];cases h:its[i]? with
 |some x=>
  wp_walk using fM f
  .exactλh' k=>Gad ⟨_,rfl,Gad (hQ x h' h k.1 k.2)⟩
  .show _<2;decide
 |none=>
  wp_walk using fM f
  .exactλh1 k=>Ig hh λh' a q=>hE h' a h (λb o n e=>q.1 b o (k.2.extBut b o n e)) q.2
  .show _<2;decide
theorem Fw{A:ZL}(hh:A.handled=J)(it l:ZG)(xy:l≠it)(its:Array ZH):Draws prog w A it [it,l] its.size (λi v=>its[i]? =U v) (λi h=>h.IsTupleIter it l i/\h.IsTuple l its) where
 live:=λ_ _ st=>let⟨o,ho,_⟩:=st.1;⟨o,ho⟩
 frame:=λ_ _ _ st hk=> ⟨st.1.at λo e=>hk it (by simp) o e,let⟨o,ho,r⟩:=st.2;⟨o,hk l (by simp) _ ho,r⟩⟩
 item:=λi z Q E hi st hQ=>qZ hh st.1 st.2 (λx h' hx xE xO =>hQ x h' z.toks hx ⟨xE,let⟨o,ho,r⟩:=st.2;⟨o,xO.extBut _ _ xy ho,r⟩⟩ xO) λ_ _ q=>absurd hi (by simpa using q)
 done:=λz Q E st hE=>qZ hh st.1 st.2 (λ_ _ q=>absurd (Gbe.mp q).1 (Gbz _)) λh' e _=>hE h' e
def Sn(K:ai)(l:ZG):It:=
 ⟨λi H=>∃xs x,SqT K H l xs/\xs[i]? =U x,λi H x H' =>∃p y,H p=J/\x= .ref p/\H' =upd H p (.tup [.int i,y])/\∀xs,SqT K H l xs->xs[i]? =U y,λi H=>∃xs,SqT K H l xs/\xs.length<=i⟩
theorem BP{K:ai}(en it l:ZG)(xy:en≠it)(hle:l≠en)(YO:l≠it):Turn P w K (.Tuple elts x1 tp) (Sn K l) [en,it] en (λi h=>(∃old,IsEnum h en it i old)/\h.IsTupleIter it l i) where
 mem:=by simp
 obj:=λi h st b hb=>by
  obtain⟨⟨old,he⟩,o,e,c,d⟩:=st;rcases Gat.mp hb with z|z
  .subst z;exact⟨_,he,λv z=>by
    have z' :Data.fields _=Data.cell v:=z;cases z'⟩
  .have z' :b=it:=by simpa using z
   subst z';exact⟨o,e,λv z=>by rw[d] at z;cases z⟩
 keep:=λi h h' st k=> ⟨let⟨old,he⟩:=st.1;⟨old,k en (by simp) _ he⟩,st.2.at λo e=>k it (by simp) o e⟩
 item:=by
  intro X hP hw hK hc i e8 s Z H E I hf st hg;subst hP hw hK;obtain⟨⟨old,he⟩,hit⟩:=st;obtain⟨xs,x,hq,hx⟩:=hg;obtain⟨its,rv,p,hz⟩:=I.tuple hq;obtain⟨u,hu,ru⟩:=rv.get hx;have hi:i<its.toArray.size:=by
   have:=(Gak.mp hu).1
   simpa using this
  refine wpAny_pyNext_enum_itemD (Fw (A:=X.A.in1) (I.ok.hd hc) it l YO its.toArray) he ⟨hit,p⟩ hi xy (by simp[xy,Ne.symm hle]) λu' h' tk XG ho xE hT xC kk=> ⟨_,rfl, ?_⟩;have hit1:=xE.1;have eu:u' =u:=by
   have zN:its.toArray[i]? =U u:=by simpa using hu
   rw[zN] at XG;cases XG;rfl
  subst eu;refine wpAny_letOwnedTupleGo_enum (s:={s with heap:=h',toks:=tk+1}) ho λh2 xS sb=> ?_;have hltE:en<s.heap.objs.size:=Gaz he;have kept:∀b o,b∉[en,it]->s.heap.get? b=U o->h2.get? b=U o:=λb o hb e=>by
   have b1:b≠en:=λz=>hb (by simp[z]);have b2:b≠it:=λz=>hb (by simp[z]);exact(sb.2 b b1).trans (kk b o b1 b2 e)
  have Wh:h2.get? s.heap.objs.size=U {cls:= .type "tuple",data:= .seq #[.int i tk,u']}:=(sb.2 _ (GbR hltE)).trans hT;have I1:Inv X e8 Z (upd H s.heap.objs.size (.tup [.int i,x])) {s with heap:=h2,toks:=tk+1}:=I.qY (ch:=[en,it]) hf rfl rfl kept (Gan _) (by
   refine⟨by simp[Gbt],[.int i tk,u'],.cons ⟨_,rfl⟩ (.cons ru .nil),_,Wh,rfl,0,rfl⟩)
  refine⟨.ref s.heap.objs.size,_,I1,rfl,⟨_,x,I.fresh,rfl,rfl,λys hy=>by rw[I.tX hy hq];exact hx⟩,⟨⟨u',by simpa using xS⟩,hit1.at λo e=>(sb.2 it (Ne.symm xy)).trans e⟩,λb hb=> ?_⟩;obtain⟨o,ob,_⟩:∃o,s.heap.get? b=U o/\True:=by
   rcases Gat.mp hb with z|z
   .subst z;exact⟨_,he,trivial⟩
   .have z' :b=it:=by simpa using z
    subst z';obtain⟨o,e,_⟩:=hit;exact⟨o,e,trivial⟩
  rw[ao (GaI (Gaz ob))];exact(hf b hb).1
 done:=by
  intro X hP hw hK hc i e8 s Z H E I hf st hg;subst hP hw hK;obtain⟨⟨old,he⟩,hit⟩:=st;obtain⟨xs,hq,hx⟩:=hg;obtain⟨its,rv,p,hz⟩:=I.tuple hq;obtain⟨f0,f1,f2,f3,f4,f5⟩:=hf it (by simp);have hl:=rv.length;have fe:FO s.heap en "enumerate" _:=⟨_,he,rfl,rfl⟩
  have pt:s.heap.IsTuple l its.toArray:=p
  wp_walk using Gbq fe.ty F.slot_enumerate_next,Gbc F.slot_enumerate_next fe.ty F.entry_enumerate_next (ha:=F.args_enumerate_next_1 _),jR (i:=2) (x:= .ref it) fe rfl,qZ (A:=X.A.in1) (I.ok.hd hc) hit pt
  .exactλx h' q=>absurd (Gbe.mp q).1 (by simp;lia)
  .exactλh' e _ eb q=>Gab (vG q (Gad ⟨rfl,I.turned (t' :=s.toks) (λb o hb e=>eb b o hb e) f0 f1 f3 f4 f5⟩))
 self:=λ_ _ _ _ _ st h=>let⟨old,he⟩:=st.1;Gds he h
def Iv{b:Bool}{Q:Bool->ZI->Prop}(h:∀b,Q b z):wpAny (model prog w) A (pure b) Q E z:=Gad (h b)
def Ar(l:ZG)(items:Array ZH):
  Meets (Builtin.«enumerate.__new__» ⟨[.type "enumerate",.ref l],[]⟩) (λ_ R s=>s.heap.IsTuple l items/\
   R (.ok (.ret (.ref (s.heap.objs.size+1)))) {s with heap:=(s.heap.push {cls:= .type "tuple_iterator",data:= .fields #[.ref l,.int 0 0]}).push {cls:= .type "enumerate",data:= .fields #[.none,.bool M,.ref s.heap.objs.size,rawInt 0,.none,.none]}}):=by
 apply Meets.of_wp;rintro prog w A R s ⟨hl,h⟩;have sub:=sub_enumerate
 wp_walk using Gdh hl,wpAny_stack_any
 intro st;refine Iv λshort=> ?_;have sz:(s.heap.push {cls:= .type "tuple_iterator",data:= .fields #[.ref l,.int 0 0]}).objs.size=s.heap.objs.size+1:=GbY ..;rw[<-sz] at h;cases short<;>wp_walk using Gdh hl<;>exact⟨_,rfl,h⟩
def BQ{z:ZI}(hL:z.heap.IsTuple l items)
  (h:∀h',IsEnum h' (z.heap.objs.size+1) z.heap.objs.size 0 .none->h'.IsTupleIter z.heap.objs.size l 0->(∀b o,z.heap.get? b=U o->h'.get? b=U o)->Q (.ref (z.heap.objs.size+1)) {z with heap:=h' }):
  wpAny (model prog w) A (call (.type "enumerate") [.ref l]) Q E z:=by
 have sz:(z.heap.push {cls:= .type "tuple_iterator",data:= .fields #[.ref l,.int 0 0]}).objs.size=z.heap.objs.size+1:=GbY ..;have en:IsEnum ((z.heap.push {cls:= .type "tuple_iterator",data:= .fields #[.ref l,.int 0 0]}).push {cls:= .type "enumerate",data:= .fields #[.none,.bool M,.ref z.heap.objs.size,rawInt 0,.none,.none]}) (z.heap.objs.size+1) z.heap.objs.size 0 .none:=sz▸Gaw _ rfl;exact callType_new F.called_enumerate (by decide) (F.typeCall_enumerate_1 _) (F.newCall_enumerate_1 _) (λ_=>F.args_object_init_2 _ _) F.entry_enumerate_new (Ar l items) ⟨hL,⟨_,en,rfl⟩,h _ en ⟨_,Gag _ (Gaw _ rfl),rfl,rfl⟩ λb o q=>Gag _ (Gag _ q)⟩
def So(K:ai)(tl:TA):TI:=λZ H R=>tl Z H λvs H1=>∃l,vs=[.ref l]/\(((∃xs,SqL K H1 l xs)/\R (Ite K l) H1)\/((∃xs,SqT K H1 l xs)/\R (Sn K l) H1))
def Ll(hg:Gl X "enumerate")(hm:X.mg "enumerate"=J)(ha:PA X [a] ta)(hs:autoParam (starEach [a] X.env=[(M,eval a X.env)]) Za1._auto_1):PI X (.Tuple elts x1 tp) (.Call (.Name "enumerate" p) [a] [] pos) (So X.K ta):=by
 intro e8 s Z H R I h;refine Call_ (kh I hg hm vB (GbG (thn (ha pos e8 s Z H _ I h) λus s1 ⟨vs,H1,I1,r1,q1⟩=> ?_) hs rfl));obtain⟨l,e,q1⟩:=q1;subst e;cases r1 with
 |cons r rr=>
  cases rr;cases r;have Y5:∀b∈[s1.heap.objs.size+1,s1.heap.objs.size],mj X e8 H1 b:=λb hb=>by
   rcases Gat.mp hb with z|z
   .subst z;exact I1.EB (GbO _) (I1.hok.fresh (GbO _))
   .have z' :b=s1.heap.objs.size:=by simpa using z
    subst z';exact I1.EB (Gan _) (I1.hok.fresh (Gan _))
  rcases q1 with⟨⟨xs,hq⟩,q⟩| ⟨⟨xs,hq⟩,q⟩
  .obtain⟨its,rv,pl,hz⟩:=I1.list hq;refine call_enumerate_list pl.isList λh' he hit xC kk=> ?_;refine Gds he ?_;exact⟨s1.heap.objs.size+1,[s1.heap.objs.size+1,s1.heap.objs.size],_,_,H1,rfl,I1.kept kk,Fv _ _ l (Nat.succ_ne_self _),⟨⟨.none,he⟩,hit⟩,Y5,q⟩
  .obtain⟨its,rv,pl,hz⟩:=I1.tuple hq;have eY:=pl.lt;refine BQ (show s1.heap.IsTuple l its.toArray from pl) λh' he hit kk=> ?_;refine Gds he ?_;exact⟨s1.heap.objs.size+1,[s1.heap.objs.size+1,s1.heap.objs.size],_,_,H1,rfl,I1.kept kk,BP _ _ l (Nat.succ_ne_self _) (GaI (GbW eY)) (GaI eY),⟨⟨.none,he⟩,hit⟩,Y5,q⟩
def Lm(hg:Gl X "enumerate")(hm:X.mg "enumerate"=J)(he:PEd X e f)(hs:autoParam (starEach [e] X.env=[(M,eval e X.env)]) Za1._auto_1):PId X (.Tuple elts x1 tp) (.Call (.Name "enumerate" p) [e] [] pos) (ur f):=by
 refine(Ll hg hm (cL he gF hs) hs).aG ?_;rintro Z H R ⟨H0,eC,env,ds,E,hf,k⟩;obtain⟨⟨kd,d⟩,hr,hf⟩:=eh hf;split at hf
 .cases hf
 rename_i hk;split at hf
 .rename_i xs hd;have xc :=hd;subst xc;cases hf;refine⟨H0,eC,env,[⟨kd,.lst xs⟩],E,by unfold aa aX;rw[hr];rfl,λvs H1 s1 Rs=> ?_⟩;cases Rs with
  |cons Rv tl=>
   cases tl;have ii:=Rv.inn;have hno:=D5 E rfl hk Rv;have E1:=E.mono s1;cases ii with
   | @lst la lv _ h r=>
    refine⟨_,rfl,.inl ⟨⟨_,.inl h⟩,k _ H1 s1 λHi keep=> ?_⟩⟩;have hh:Rd Hi la (.lst lv):=by
     rcases h with h| ⟨o,h⟩
     .exact .inl (keep _ _ h (hno _ rfl))
     .exact .inr ⟨o,keep _ _ h (hno _ rfl)⟩
    refine⟨λi d hd=> ?_,⟨_,.inl hh,by rw[gS,r.1];exact Gan _⟩⟩;rw[gU] at hd;obtain⟨y,hy,rfl⟩:=Gaa.mp hd;obtain⟨v,h1,h2⟩:=r.get hy;refine⟨⟨_,v,.inl hh,h1⟩,λz H2 ⟨p,w,hp,ez,eH,ew⟩=> ?_⟩;subst ez eH;have:=ew _ (.inl hh);rw[h1] at this;cases this;refine⟨aW hp, ?_⟩;have rp:=E1.kX keep h2;rw[show(((0+i:Nat)):Int)=(i:Int) by simp];exact fq hp (.cons (.int _) (.cons rp .nil))
 .rename_i xs hd;have xc :=hd;subst xc;cases hf;refine⟨H0,eC,env,[⟨kd,.tup xs⟩],E,by unfold aa aX;rw[hr];rfl,λvs H1 s1 Rs=> ?_⟩;cases Rs with
  |cons Rv tl=>
   cases tl;have ii:=Rv.inn;have E1:=E.mono s1;cases ii with
   | @tup la lv _ h r=>
    refine⟨_,rfl,.inr ⟨⟨_,SqT.of h⟩,k _ H1 s1 λHi keep=> ?_⟩⟩;have hh:=keep _ _ h λw=>E1.fu w h trivial;refine⟨λi d hd=> ?_,⟨_,SqT.of hh,by rw[gS,r.1];exact Gan _⟩⟩;rw[gU] at hd;obtain⟨y,hy,rfl⟩:=Gaa.mp hd;obtain⟨v,h1,h2⟩:=r.get hy;refine⟨⟨_,v,SqT.of hh,h1⟩,λz H2 ⟨p,w,hp,ez,eH,ew⟩=> ?_⟩;subst ez eH;have:=ew _ (SqT.of hh);rw[h1] at this;cases this;refine⟨aW hp, ?_⟩;have rp:=E1.kX keep h2;rw[show(((0+i:Nat)):Int)=(i:Int) by simp];exact fq hp (.cons (.int _) (.cons rp .nil))
 .cases hf
end
section
variable{a b:ZJ}
def Ln{K:ai}(n:Nat)(p:aJ n d=O)(q:aJ n d' =O)(r:Rep K F H d v)(t:Rep K F H d' v):d=d' :=vA n p q r t
noncomputable def Sq:ZH->V
 | .bool b=> .bl b
 | .int i _=> .int i
 | .str x _=> .str x
 | .ref a=> .ref a
 | .type n=> .ty n
 |_=> .non
def As(h:Zt v u):Sq u=v:=by
 cases v<;>first|(obtain⟨t,rfl⟩:=h;rfl)|(have h' :=h;unfold Zt at h';subst h';rfl)
def Iw(h:Zt v u)(h' :Zt v' u):v=v' :=(As h).symm.trans (As h')
def Au(K:ai)(neg:Bool):R2:=λx y H Q=>∃p xs dx ds,y= .ref p/\(SqL K H p xs\/SqT K H p xs)/\aJ 10 dx=O/\ds.all (aJ 10)=O/\Rep K (λ_=>True) H dx x/\aN K (λ_=>True) H ds xs/\Q (.bl (if neg then !ds.any (λy=>eqD y dx) else ds.any (λy=>eqD y dx))) H
variable{X:Cx}
def ny{Z:L2.St}{its:List ZH}{ds:List D}(I:Inv X e8 Z H z)(hu:X.A.units+20<cLine)(r:Zu xs its)(hx:aJ 10 dx=O)(hs:ds.all (aJ 10)=O)
  (rx:Rep X.K (λ_=>True) H dx x)(rs:aN X.K (λ_=>True) H ds xs)(rv:Zt x v):∃ev,(∀w∈its,SeqAt.EqAt X.A.in1 z w v (ev w))/\its.any ev=ds.any λy=>eqD y dx:=by
 classical
 have hll:=r.length;have tri:∀(i:Nat) (w:ZH),its[i]? =U w->∃d u,ds[i]? =U d/\xs[i]? =U u/\Zt u w/\Rep X.K (λ_=>True) H d u/\aJ 10 d=O:=λi w hw=>by
  have hi:i<its.length:=(Gak.mp hw).1;have hd:ds[i]? =U (ds[i]'(by rw[rs.1,hll];exact hi)):=Gac _;obtain⟨u,hu1,zN⟩:=rs.get hd;obtain⟨w',XD,Yy⟩:=r.get hu1;rw[hw] at XD;cases XD
  exact⟨_,u,hd,hu1,Yy,zN,Gar.mp hs _ (Gax hd)⟩
 refine⟨λw=>decide (∃(i:Nat) (d:D),its[i]? =U w/\ds[i]? =U d/\eqD d dx=O),λw hw=> ?_, ?_⟩
 .obtain⟨i,hi⟩:=Gco hw;obtain⟨d,u,h1,h2,h3,h4,h5⟩:=tri i w hi;have key:decide (∃(i:Nat) (d:D),its[i]? =U w/\ds[i]? =U d/\eqD d dx=O)=eqD d dx:=by
   cases q:eqD d dx with
   |true=>exact GaD ⟨i,d,hi,h1,q⟩
   |false=>
    refine GaE ?_;rintro⟨j,d',g1,g2,g3⟩;obtain⟨d2,u2,k1,k2,k3,k4,k5⟩:=tri j w g1;rw[g2] at k1;cases k1
    have eu:=Iw h3 k3;subst eu;rw[Ln 10 h5 k5 h4 k4] at q;rw[q] at g3;cases g3
  show SeqAt.EqAt X.A.in1 z w v (decide _);rw[key];exact qR I 10 h5 hx h4 rx h3 rv (by show X.A.units+1+10<_;lia)
 .rw[GdH,GbZ,GbZ];constructor
  .rintro⟨w,hw,e⟩;obtain⟨i,d,_,h2,h3⟩:=Gaq e;exact⟨d,Gax h2,h3⟩
  .rintro⟨d,hd,e⟩;obtain⟨i,hi⟩:=Gco hd;have hl:i<its.length:=by rw[<-hll,<-rs.1];exact(Gak.mp hi).1
   exact⟨its[i],GaA hl,GaD ⟨i,d,Gac hl,hi,e⟩⟩
def Pd(hu:X.A.units+20<cLine):OpR X (compareOp .In) (Au X.K M):=by
 intro e8 z Z H x y v u Q I rx ry h;obtain⟨p,xs,dx,ds,rfl,hq,fx,fs,r1,r2,q⟩:=h;cases ry;rcases hq with hq|hq
 .obtain⟨its,r,pl,hz⟩:=I.list hq;obtain⟨ev,e1,e2⟩:=ny I hu r fx fs r1 r2 rx;refine SeqAt.in_listAt ev pl.isList (λw hw=>e1 w (by simpa using hw)) ⟨.bl _,H,I,rfl, ?_⟩;simp_all
 .obtain⟨its,r,pl,hz⟩:=I.tuple hq;obtain⟨ev,e1,e2⟩:=ny I hu r fx fs r1 r2 rx;refine SeqAt.in_tupleAt ev pl (λw hw=>e1 w (by simpa using hw)) ⟨.bl _,H,I,rfl, ?_⟩;simp_all
def Lo(hu:X.A.units+20<cLine):OpR X (compareOp .NotIn) (Au X.K O):=by
 intro e8 z Z H x y v u Q I rx ry h;obtain⟨p,xs,dx,ds,rfl,hq,fx,fs,r1,r2,q⟩:=h;cases ry;rcases hq with hq|hq
 .obtain⟨its,r,pl,hz⟩:=I.list hq;obtain⟨ev,e1,e2⟩:=ny I hu r fx fs r1 r2 rx;refine SeqAt.notIn_listAt ev pl.isList (λw hw=>e1 w (by simpa using hw)) ⟨.bl _,H,I,rfl, ?_⟩;simp_all
 .obtain⟨its,r,pl,hz⟩:=I.tuple hq;obtain⟨ev,e1,e2⟩:=ny I hu r fx fs r1 r2 rx;refine SeqAt.notIn_tupleAt ev pl (λw hw=>e1 w (by simpa using hw)) ⟨.bl _,H,I,rfl, ?_⟩;simp_all
def Pe(hu:X.A.units+20<cLine):OpR X (compareOp .In) (Au X.K M):=Pd hu
def Lp(hu:X.A.units+20<cLine):OpR X (compareOp .NotIn) (Au X.K O):=Lo hu
def Dm{b:Bool}(ix:Inn X.K F H dx x)(iy:Inn X.K F H dy y)(e:inB dx dy=U b)(q:Q (.bl (if neg then !b else b)) H):Au X.K neg x y H Q:=by
 have seq:∀{ds:List D} {p:ZG} {vs:List V},y= .ref p->(SqL X.K H p vs\/SqT X.K H p vs)->aN X.K F H ds vs->pC dx ds=U b->Au X.K neg x y H Q:=λ{ds p vs} ey hs r hb=>by
  unfold pC at hb;split at hb
  .rename_i c;rw[Gah] at c;cases hb;exact⟨p,vs,dx,ds,ey,hs,c.1,c.2,ix.any,⟨r.1,λi d v e1 e2=>(r.2 i d v e1 e2).inn.any⟩,q⟩
  .cases hb
 unfold inB at e;split at e
 .cases iy with
  |lst h r=>exact seq rfl (.inl (.inl h)) r e
 .cases iy with
  |tup h r=>exact seq rfl (.inr (SqT.of h)) r e
 .cases e
def Pf:OpB X inB (Au X.K M):=λF H dx dy x y b Q ix iy e q=>Dm ix iy e q
def Lq:OpB X Ai (Au X.K O):=λF H dx dy x y b Q ix iy e q=>by
 obtain⟨b',e',rfl⟩:=Gaa.mp e;exact Dm ix iy e' q
end
namespace Fr
end Fr
def Fx:CallD X Aj (λxs H Q=>(∃i,xs=[.int i]/\Q (.int i) H)\/∃k,xs=[.bl k]/\Q (.int (if k then 1 else 0)) H):=by
 intro F H ds vs rv Q ps e k;unfold Aj at e;split at e
 .cases e;obtain⟨v,rfl,i⟩:=iZ ps;cases i;exact .inl ⟨_,rfl,k _ H bF (.int _)⟩
 .cases e;obtain⟨v,rfl,i⟩:=iZ ps;cases i;exact .inr ⟨_,rfl,k _ H bF (.int _)⟩
 .cases e
def Iy(r:Zu xs its)(hx:Zt x u)(j:Int):Zu (iu xs j x) (PySem.W.kl_ins its j u):=by
 have hl:=r.length;unfold iu PySem.W.kl_ins;rw[hl];have tk:∀{xs:List V} {its:List ZH} (r:Zu xs its) (n:Nat),Zu (xs.take n) (its.take n):=by
  intro xs its r;induction r with
  |nil=>intro n;simp;exact .nil
  |cons h t ih=>intro n;cases n with
   |zero=>exact .nil
   |succ n=>exact .cons h (ih n)
 have dr:∀{xs:List V} {its:List ZH} (r:Zu xs its) (n:Nat),Zu (xs.drop n) (its.drop n):=by
  intro xs its r;induction r with
  |nil=>intro n;simp;exact .nil
  |cons h t ih=>intro n;cases n with
   |zero=>exact .cons h t
   |succ n=>exact ih n
 exact(tk r _).append (.cons hx (dr r _))
def Lr:V->List V->Hp->VK->Prop:=λx vs H Q=>∃l xs j y,x= .ref l/\vs=[.int j,y]/\H l=U (.lst xs)/\xs.length<sizeLine/\-(2^62)<=j/\j<2^62/\Q .non (upd H l (.lst (iu xs j y)))
def Fy:MtM X "list.insert" Lr:=by
 intro e8 z Z H x vs v us Q I rx rv h;obtain⟨l,xs,j,y,rfl,rfl,hH,hz,h1,h2,q⟩:=h;cases rx;cases rv with
 |cons r1 t1=>
  cases t1 with
  |cons r2 t2=>
   cases t2;obtain⟨t,rfl⟩:=r1;rename_i u;obtain⟨_,its,n,r,hl,e⟩:=I.Kz hH;have hfit:Builtin.List.listFitsIndex j=O:=by simp[Builtin.List.listFitsIndex];lia
   refine call_meets F.slot_list_insert ⟨_,e,rfl⟩ F.entry_list_insert (F.args_list_insert_3 _ _ _) (PySem.AutoSeq1.list_insert_list_int_val_1 l its.toArray n j t u (by simp[hfit]) (by rw[Gav];lia)) ⟨e, ?_⟩;refine⟨.non,_,I.NV (its' :=PySem.W.kl_ins its j u) hH e ?_ (Iy r r2 j) ?_,rfl,q⟩
   .rw[PySem.W.kl_ins_eq]
    rfl
   .rw[uu];lia
def Fz{X:Cx}{pos apos eE:Pos}(hN:X.N[i]? =U x)(hv:Vis X.env.scope x)(he:PEd X e f)(ha:PEd X a g)(hd:autoParam ((x==("__debug__":Str))=M) Za2._auto_1)(xq:autoParam ((x==("__classdict__":Str))=M) Za2._auto_1)
  (xa:autoParam (starEach [e,a] X.env=(M,eval e X.env)::starEach [a] X.env) Za1._auto_1)(xd:autoParam (starEach [a] X.env=[(M,eval a X.env)]) Za1._auto_1)
  (eX:autoParam (attributeBase (.Name x px) "insert" X.env (eval (.Name x px) X.env)=eval (.Name x px) X.env) Za1._auto_1)
  (xF:((backTo eE (starEach [e,a] X.env)).all (λx=> !x.1)&&(backToKw eE (keywordEach [] X.env)).all (λx=>x.1.isSome)
   &&decide (([e,a]:List ZJ).length+([]:List Keyword).length+(if([]:List Keyword).isEmpty then 0 else 1)<30))=O:=by rfl)
  (eW:autoParam ((apos.endLine==eE.line)=O) Za1._auto_1)(hs:autoParam (swapsWith (.Call (.Attribute (.Name x px) "insert" apos) [e,a] [] eE) J pos.line X.env=pure M) Za1._auto_1):
  PSd X (.Expr (.Call (.Attribute (.Name x px) "insert" apos) [e,a] [] eE) pos) (P0 i f g):=by
 refine(qb (CQ GcA PySem.F.slot_list_insert PySem.F.type_list_insert Fy (kg hN hv hd xq) (cL he (cL ha gF xd) xa) eX xF eW xa (by rw[xd];rfl)) hs).aG ?_;rintro D Z H ⟨H0,eC,env,o,E,e,k⟩;obtain⟨r,hr,e⟩:=eh e;obtain⟨r2,YF,e⟩:=eh e;obtain⟨d,hd,e⟩:=eh e;have q:=nr hd;obtain⟨kd,rd⟩:=r;split at e
 .rename_i xs j hj;have hj' :=hj;split at e
  .rename_i z;rw[Gah,Gah] at z;obtain⟨z1,z2,z3⟩:=z;cases e;subst hj';obtain⟨a,h1,h2,h3,h4,h5,h6⟩:=E.ow i _ (.inl q);obtain⟨vs,hH,rp⟩:=kY h4 h6;refine⟨_,h1,.inl ⟨rfl,vs,.inl (.inl hH)⟩,H0,eC,env,[⟨kd,.int j⟩,r2],E,by unfold aa aX;rw[hr,YF];rfl,λws H2 s2 Rs=> ?_⟩;cases Rs with
   | @cons _ v _ _ R1 tl=>
    cases tl with
    | @cons _ v2 _ _ R2 tl=>
    cases tl;have i1:=R1.inn;cases i1;have yp:=s2 _ _ hH;have sj:=fw z3;refine⟨a,vs,j,v2,rfl,rfl,yp,by rw[<-rp.1];exact Gaq z2,sj.1,sj.2, ?_⟩;have E2:=E.mono s2;have rep1:=R2.rep E z1;have rp1:=rp.gen (.ZC s2) λ_ f _=>f;have rp2:aN X.K (Cln eC env Z) H2 (iu xs j r2.d) (iu vs j v2):=by
     unfold iu;rw[<-rp1.1];exact(rp1.take _).append (.cons rep1 (rp1.drop _))
    obtain⟨E3,p3⟩:=E2.change (o:= .lst (iu vs j v2)) q h1 trivial rfl (.lst (.inl aD) (rp2.gen (λb o hb w=>by
     have:b≠a:=by
      rintro rfl;rcases w with w|w
      .exact w.2 i (by rw[q];trivial) h1
      .rw[yp] at hb;cases hb;exact w
     rw[ao this];exact hb) λ_ f _=>f))
    exact k Z _ E3 ((Stp.ZC s2).trans p3)
  .cases e
 .cases e
theorem r9:∀{xs:List α} {ys:List β},xs.length=ys.length->(∀(i:Nat) x y,xs[i]? =U x->ys[i]? =U y->F x y)->Paired F xs ys
 |[],[],_,_=> .nil
 |[],_::_,h,_=>by cases h
 |_::_,[],h,_=>by cases h
 |x::xs,y::ys,h,g=> .cons (g 0 x y rfl rfl) (r9 (by simpa using h) λi a b ha hb=>g (i+1) a b (by simpa using ha) (by simpa using hb))
def Sr(ta:TA):TE:=λZ H Q=>ta Z H λvs H1=>∃j:Int,vs=[.int j]/\∀p,H1 p=J->Q (.ref p) (upd H1 p (.rng 0 j))
def FA{X:Cx}(hg:Gl X "range")(hm:X.mg "range"=J)(ha:PA X [a] ta)(hs:autoParam (starEach [a] X.env=[(M,eval a X.env)]) Za1._auto_1):PE X (.Call (.Name "range" p) [a] [] pos) (Sr ta):=by
 intro e8 z Z H Q I h;refine Call_ (kh I hg hm boot_range (GbG (thn (ha pos e8 z Z H _ I h) λus s1 ⟨vs,H1,I1,r1,q1⟩=> ?_) hs rfl));obtain⟨j,e,q⟩:=q1;subst e;cases r1 with
 |cons r rr=>
  cases rr;obtain⟨t,rfl⟩:=r;refine call_range_1 ?_;exact⟨.ref s1.heap.objs.size,_,I1.laid (o:= .rng 0 j) (λb o e=>Gag _ e) (Gan _) ⟨_,_,_,Gaw _ rfl⟩,rfl,q _ I1.fresh⟩
def tq{X:Cx}(hc:X.calm=O):i0 X (.type "list") (λxs H Q=>∃p j,xs=[.ref p]/\H p=U (.rng 0 j)/\j<=sizeLine/\-(2^62)<=j/\∀l,H l=J->Q (.ref l) (upd H l (.lst ((List.range j.toNat).map λ(k:Nat)=>V.int ((0:Int)+(k:Int)))))):=by
 intro e8 z Z H xs us Q I r h;obtain⟨p,j,rfl,hp,hj,zS,q⟩:=h;obtain⟨u,rfl,rx⟩:=vals1 r;cases rx;obtain⟨t,u,v,ho⟩:=(show cJ X.prog X.w H z.heap p (.rng 0 j) from I.hok p _ hp)
 have hsl:=Gbt;have hn:Builtin.Range.rangeSize 0 j 1=(j.toNat:Int):=by rw[rangeSize_one];split<;>lia
 refine call_list_range (I.ok.hd hc) ho (small_one (by lia) (by lia) (by lia) (by lia)) hn (by lia) λh' tk xZ c' hk hS yi=> ?_;refine⟨.ref z.heap.objs.size,_,I.laid (o:= .lst ((List.range j.toNat).map λ(k:Nat)=>V.int ((0:Int)+(k:Int)))) hk (Gan _) ⟨by simp;lia,xZ.toList,c', ?_,by simpa using hS⟩,rfl,q _ I.fresh⟩;refine r9 (by simp[yi.1]) λi x y hx hy=> ?_;rw[Gap] at hx;have hi:i<j.toNat:=by
  rcases Gbg i j.toNat with h|h
  .exact h
  .simp_all
 rw[GdO hi] at hx;cases hx;obtain⟨t,rfl⟩:=yi.2 i y (by simpa using hy);exact⟨t,by simp⟩
theorem rf{K:ai}{α:Type}{dd:α->D}{vv:α->V}(h:∀n,Rep K F H (dd n) (vv n)):∀{l:List α},aN K F H (l.map dd) (l.map vv)
 |[]=> .nil
 |x::l=> .cons (h x) (rf h)
def FC{X:Cx}(hc:X.calm=O)(hg:Gl X "list")(hm:X.mg "list"=J)(yB:Gl X "range")(zj:X.mg "range"=J)(he:PEd X e f)(hs:autoParam (starEach [e] X.env=[(M,eval e X.env)]) Za1._auto_1)
  (xd:autoParam (starEach [.Call (.Name "range" p2) [e] [] pos2] X.env=[(M,eval (.Call (.Name "range" p2) [e] [] pos2) X.env)]) Za1._auto_1):
  PEd X (.Call (.Name "list" p) [.Call (.Name "range" p2) [e] [] pos2] [] pos) (Ij f):=by
 refine(oe (tq hc) hg hm D8 (kU (FA yB zj (cL he gF hs) hs) o9 xd) (by decide) (by decide) xd rfl).aG ?_;rintro Z H Q ⟨H0,eC,env,rv,E,e,k⟩;obtain⟨r,hr,e⟩:=eh e;split at e
 .rename_i j hd;split at e
  .rename_i hz;cases e;refine⟨H0,eC,env,[r],E,by unfold aa aX;rw[hr];rfl,λvs H1 s1 Rs=> ?_⟩;cases Rs with
   |cons R1 t=>
    cases t;have i:=R1.inn;rw[hd] at i;cases i;refine⟨j,rfl,λp hp=> ?_⟩;refine⟨p,j,rfl,aD,by rw[<-eU];exact hz.1,by lia,λl hl=> ?_⟩;have s12:=s1.trans (aW (o:=HO.rng 0 j) hp);exact k _ _ (s12.trans (aW hl)) ⟨l,rfl,s12.free hl,ou,rfl,ft hl (rf λn=> .int _)⟩
  .cases e
 .cases e
def FD:lD X b Ht:=by
 rintro e8 z Z H D I ⟨H0,eC,env,o,E,e,k⟩;cases e
def Ss(prog:ZQ)(w:World)(A:ZL)(op:CmpOp)(G:ZI->Prop)(P:Nat->ZH->Prop)(bt:Nat->Nat->Bool):Prop:=
 ∀i j vi vj (z:ZI) (Q:VSP) (E:VSP),G z->P i vi->P j vj->Q (.bool (bt i j)) z->wpAny (model prog w) A (richCompare op vi vj) Q E z
def mmO(mx:Bool):CmpOp:=bif mx then .Gt else .Lt
def mmN(mx:Bool):String:=bif mx then "max.loop" else "min.loop"
noncomputable def jC:Option ZH->Array ZH
 |none=>#[]
 |some v=>#[v,v]
section
variable{prog:ZQ}{w:World}{A:ZL}{I:ZG}
def vQ{z:ZI}(e:Ag z.heap B (jC old))(h:∀h',Ag h' B (jC v)->(∀b o,b≠B->z.heap.get? b=U o->h'.get? b=U o)->Q () {z with heap:=h' }):
  wpAny (model prog w) A (updateSeq B λ_=>jC v) Q E z:=by
 obtain⟨c,e⟩:=e;have l1:(jC old).size<=2:=by cases old<;>simp[jC]
 have l2:(jC v).size<=2:=by cases v<;>simp[jC]
 have:=Gbt;refine wpAny_updateSeq e rfl (h _ ⟨_,Gbf _ e rfl⟩ λb o n q=> ?_) (by lia) (by lia);rw[Gce _ _ (Ne.symm n),q]
def Dn{z:ZI}(mx:Bool)
  (h:wpAny (model prog w) A.in1 (pyNext (.ref I)) (λr s' =>Ag s'.heap B (jC old)/\match r,old with
   |none,U v=>∀h',(∀b o,b≠B->s'.heap.get? b=U o->h'.get? b=U o)->R (.ok (.ret v)) {s' with heap:=h' }
   |none,J=>∃k d t,kw=(k,d)::t/\R (.ok (.ret d)) s'
   |some x,U v=>∃bt:Bool,(∀Q E,Q (.bool bt) s' ->wpAny (model prog w) A.in1 (richCompare (mmO mx) x v) Q E s')/\∀h',Ag h' B (jC (U (if bt then x else v)))->(∀b o,b≠B->s'.heap.get? b=U o->h'.get? b=U o)->codeAny (model prog w) A (.builtin (mmN mx) ⟨[.ref I,.none,.ref B],kw⟩) R {s' with heap:=h' }
   |some x,J=>∀h',Ag h' B (jC (U x))->(∀b o,b≠B->s'.heap.get? b=U o->h'.get? b=U o)->codeAny (model prog w) A (.builtin (mmN mx) ⟨[.ref I,.none,.ref B],kw⟩) R {s' with heap:=h' }) (λ_ _=>False) z)(hB:Ag z.heap B (jC old)):
  codeAny (model prog w) A (.builtin (mmN mx) ⟨[.ref I,.none,.ref B],kw⟩) R z:=by
 obtain⟨c,e⟩:=id hB;have quiet:Code.quiet (.builtin (mmN mx) ⟨[.ref I,.none,.ref B],kw⟩)=O:=by cases mx<;>exact Gdx (by decide+kernel) _
 cases mx
 all_goals
  first
  |(apply GbT F.entry_min_loop;rw[Around.under_plainId F.plain_min_loop])
  |(apply GbT F.entry_max_loop;rw[Around.under_plainId F.plain_max_loop])
  refine Gab (Gcq e rfl (Gab (wpAny_tryCatch (Gcc h (λr s' q=> ?_) λ_ _ q=>q.elim))));obtain⟨e',q⟩:=q;rcases r with _|x<;>rcases old with _|v
  .obtain⟨k,d,t,rfl,q⟩:=q;exact Gab (wpAny_rule (Gad q))
  .exact Gab (vQ (v:=J) e' λh' _ k=>Gab (wpAny_letGo (Gad (q h' k))))
  .exact Gab (Gad (Gab (vQ (v:=U x) e' λh' l k=>Gad ⟨quiet,q h' l k⟩)))
  .obtain⟨bt,q1,q2⟩:=q;refine Gab (Gad (Gab (wpAny_tryCatch (GbJ (Gab (q1 _ _ (Gab (GbJ (Gbu (Gab (wpAny_letGo (Gad ?_))))))))))));cases bt
   .exact Gab (wpAny_letGo (Gad ⟨quiet,q2 _ e' λ_ _ _ k=>k⟩))
   .exact Gab (vQ (v:=U x) e' λh' l k=>Gab (wpAny_letGo (Gad ⟨quiet,q2 h' l k⟩)))
variable{fp wr:List ZG}{n:Nat}{P:Nat->ZH->Prop}{St:Nat->ZK->Prop}{G:ZI->Prop}
theorem Dp{z:ZI}(mx:Bool)(W:Walks prog w A.in1 I fp wr n P St)(bt:Nat->Nat->Bool)(zY:Ss prog w A.in1 (mmO mx) G P bt)(hf:B∉fp)
  (hG:∀h' tk,(∀b o,b∉wr->b≠B->z.heap.get? b=U o->h'.get? b=U o)->G {z with heap:=h',toks:=tk})
  (hE:n=0->∃k d t,kw=(k,d)::t/\∀h' tk,(∀b o,b∉wr->b≠B->z.heap.get? b=U o->h'.get? b=U o)->R (.ok (.ret d)) {z with heap:=h',toks:=tk})
  (hR:0<n->∀v h' tk,P (argBest bt (n -1)) v->(∀b o,b∉wr->b≠B->z.heap.get? b=U o->h'.get? b=U o)->R (.ok (.ret v)) {z with heap:=h',toks:=tk}):
  ∀k i old h tk,i+k=n->St i h->Ag h B (jC old)->(∀b o,b∉wr->b≠B->z.heap.get? b=U o->h.get? b=U o)->(match old with|none=>i=0|some v=>0<i/\P (argBest bt (i -1)) v)->
   codeAny (model prog w) A (.builtin (mmN mx) ⟨[.ref I,.none,.ref B],kw⟩) R {z with heap:=h,toks:=tk}
 |0,i,old,h,tk,hk,st,l,kp,ho=>by
  cases hk;refine Dn mx (W.done {z with heap:=h,toks:=tk} _ _ st λh' yj k=> ⟨let⟨c,e⟩:=l;⟨c,k B _ (λm=>hf (W.sub _ m)) e⟩, ?_⟩) l;have kp' :=λb o q1 q2 q=>k b o q1 (kp b o q1 q2 q);cases old with
  |none=>
   obtain⟨a,d,t,q1,q2⟩:=hE ho;exact⟨a,d,t,q1,q2 h' yj kp'⟩
  |some v=>exactλh2 k2=>hR ho.1 v h2 yj ho.2 λb o q1 q2 q=>k2 b o q2 (kp' b o q1 q2 q)
 |k+1,i,old,h,tk,hk,st,l,kp,ho=>by
  refine Dn mx (W.item i {z with heap:=h,toks:=tk} _ _ (by lia) st λx h' yj hP xJ k' => ⟨let⟨c,e⟩:=l;⟨c,k' B _ (λm=>hf (W.sub _ m)) e⟩, ?_⟩) l;have kp' :=λb o q1 q2 q=>k' b o q1 (kp b o q1 q2 q);have go:∀v h2,Ag h2 B (jC (U v))->(∀b o,b≠B->h'.get? b=U o->h2.get? b=U o)->P (argBest bt i) v->codeAny (model prog w) A (.builtin (mmN mx) ⟨[.ref I,.none,.ref B],kw⟩) R {z with heap:=h2,toks:=yj }:=λv h2 l2 k2 hv=>
   Dp mx W bt zY hf hG hE hR k (i+1) (U v) h2 yj (by lia) (W.frame _ _ _ xJ λb m o q=>k2 b o (λe=>hf (e▸m)) q) l2 (λb o q1 q2 q=>k2 b o q2 (kp' b o q1 q2 q)) ⟨Gct _,hv⟩
  cases old with
  |none=>
   cases ho
   exactλh2 l2 k2=>go x h2 l2 k2 hP
  |some v=>
   obtain⟨pos,hv⟩:=ho;obtain⟨j,rfl⟩:∃j,i=j+1:=⟨i -1,by lia⟩
   refine⟨bt (j+1) (argBest bt j),λQ E q=>zY _ _ x v _ Q E (hG h' yj kp') hP hv q,λh2 l2 k2=>go _ h2 l2 k2 ?_⟩;show P (if bt (j+1) (argBest bt j)=O then j+1 else argBest bt j) _;split
   .exact hP
   .exact hv
def BR(a d:ZH):argsOk "min" ⟨[a],[(Str.ofString "default",d)]⟩:=by unfold argsOk;kernel_rfl
def BS(a d:ZH):argsOk "max" ⟨[a],[(Str.ofString "default",d)]⟩:=by unfold argsOk;kernel_rfl
def mmF(mx:Bool):String:=bif mx then "max" else "min"
abbrev MMs(prog:ZQ)(w:World)(A:ZL)(mx:Bool)(od:Option ZH)(Q:VSP)(it:ZH)(s₂:ZI):Prop:=∃I fp wr n P St bt G,it= .ref I/\Walks prog w A.in1 I fp wr n P St/\St 0 s₂.heap/\(∀b∈fp,b<s₂.heap.objs.size)/\Ss prog w A.in1 (mmO mx) G P bt/\
 (∀h' tk,(∀b o,b∉wr->s₂.heap.get? b=U o->h'.get? b=U o)->G {s₂ with heap:=h',toks:=tk})/\(n=0->∃d,od=U d/\∀h' tk,(∀b o,b∉wr->s₂.heap.get? b=U o->h'.get? b=U o)->Q d {s₂ with heap:=h',toks:=tk})/\
 (0<n->∀v h' tk,P (argBest bt (n -1)) v->(∀b o,b∉wr->s₂.heap.get? b=U o->h'.get? b=U o)->Q v {s₂ with heap:=h',toks:=tk})
def nz{E Q:VSP}{it:ZH}{s₂:ZI}(mx:Bool)(od:Option ZH)(q:MMs prog w A mx od Q it s₂):codeAny (model prog w) A (.builtin (mmN mx) ⟨[it,.none,.ref s₂.heap.objs.size],od.toList.map λd=>(Str.ofString "default",d)⟩) (λr s' =>match r with| .ok (.ret v)=>Q v s' | .ok _=>False| .error e=>E e s') {s₂ with heap:=s₂.heap.push {cls:= .type "list",data:= .seq #[]}}:=by
 obtain⟨I,fp,wr,n,P,St,bt,G,rfl,W,st,lt,hc,hG,h0,hv⟩:=q;have up:∀{h' :ZK},(∀b o,b∉wr->b≠s₂.heap.objs.size->s₂.heap.get? b=U o->h'.get? b=U o)->∀b o,b∉wr->s₂.heap.get? b=U o->h'.get? b=U o:=λk b o q e=>k b o q (GaI (Gaz e)) e;refine Dp mx W bt hc (λm=>Gbz _ (lt _ m)) (λh' tk k=>hG h' tk (up k)) (λn0=> ?_) (λp v h' tk hp k=>hv p v h' tk hp (up k)) n 0 J _ s₂.toks (GaP _) (W.frame _ _ _ st λb _ o e=>Gag _ e) ⟨0,Gaw _ rfl⟩ (λb o _ _ e=>Gag _ e) rfl;obtain⟨d,rfl,hd⟩:=h0 n0;exact⟨_,d,_,rfl,λh' tk k=>hd h' tk (up k)⟩
def Ls(mx:Bool)(od:Option ZH)(h:wpAny (model prog w) A.in1 (pyIter x) (MMs prog w A mx od Q) E z):wpAny (model prog w) A (call (.builtin (mmF mx)) [x] (od.toList.map λd=>(Str.ofString "default",d))) Q E z:=by
 have quiet:∀a,Code.quiet (.builtin (mmN mx) a)=O:=λa=>by cases mx<;>exact Gdx (by decide+kernel) _
 cases mx<;>cases od
 .exact GcP F.kind_min F.plain_min F.entry_min (F.args_min1 _) (Gab (GcX (a:=[J,J]) rfl (Gab (Gad (Gab (on h λ_ _ q=>Gab (Gbj (Gad ⟨quiet _,nz _ _ q⟩))))))))
 .exact GcP F.kind_min F.plain_min F.entry_min (BR _ _) (Gab (GcX (a:=[J,U _]) rfl (Gab (Gad (Gab (on h λ_ _ q=>Gab (Gbj (Gad ⟨quiet _,nz _ _ q⟩))))))))
 .exact GcP F.kind_max F.plain_max F.entry_max (F.args_max1 _) (Gab (GcX (a:=[J,J]) rfl (Gab (Gad (Gab (on h λ_ _ q=>Gab (Gbj (Gad ⟨quiet _,nz _ _ q⟩))))))))
 .exact GcP F.kind_max F.plain_max F.entry_max (BS _ _) (Gab (GcX (a:=[J,U _]) rfl (Gab (Gad (Gab (on h λ_ _ q=>Gab (Gbj (Gad ⟨quiet _,nz _ _ q⟩))))))))
end
section
def Pg(K:ai)(dv:V)(t:TA):TE:=λZ H Q=>t Z H λvs H1=>∃(p:ZG) (ns:List Int),vs=[.ref p]/\(SqL K H1 p (ns.map V.int)\/SqT K H1 p (ns.map V.int))/\Q (match ns with|[]=>dv|n::ns=> .int (om n ns)) H1
variable{X:Cx}
def Lu(hc:X.calm=O)(hg:Gl X "max")(hm:X.mg "max"=J)(ha:PA X [e] t)(hd:PE X dx (tC dv))(hs:autoParam (starEach [e] X.env=[(M,eval e X.env)]) Za1._auto_1):PE X (.Call (.Name "max" p) [e] [⟨U "default",dx,kp⟩] pos) (Pg X.K dv t):=by
 intro e8 z Z H Q I h;refine Gdd (kh I hg hm OP ?_);refine PyProof.Rows.callWith_kw (thn (ha pos e8 z Z H _ I h) λus s1 ⟨vs,H1,I1,r1,q1⟩=> ?_) (by rw[hs];rfl) (by rw[hs];rfl) rfl rfl;obtain⟨l,ns,e1,hq,q⟩:=q1;subst e1;cases r1 with
 |cons r rr=>
  cases rr;cases r;refine PyProof.Rows.kws_cons (thn (hd e8 s1 Z H1 (λv H2=>v=dv/\H2=H1) I1 ⟨rfl,rfl⟩) λdu s2 ⟨v,H2,I2,r2,e2,e3⟩=>PyProof.Rows.kws_nil ?_);subst e2 e3;refine Ls O (U du) (qT hc I2 hq λIt fp wr P St s₃ W st lt hP kept=> ⟨It,fp,wr,_,P,St,_,λ_=>True,rfl,W,st,lt,λi j vi vj zz Q' E' _ hi hj YH =>CmpOf.ints_gt (vC ns) (Af hP) i j vi vj zz Q' E' hi hj YH,λ_ _ _=>trivial,λhn=> ⟨du,rfl,λh' tk hk=> ?_⟩,λhn u h' tk hu hk=> ?_⟩)
  .cases ns with
   |nil=>exact⟨v,H2,kept h' tk hk,r2,q⟩
   |cons n ns=>simp at hn
  .cases ns with
   |nil=>simp at hn
   |cons n ns=>
    obtain⟨t,rfl⟩:=Af hP _ _ hu;rw[show((n::ns).map V.int).length -1=ns.length by simp,HX _ (Gan _),List.take_length];exact⟨.int (om n ns),H2,kept h' tk hk,⟨t,rfl⟩,q⟩
def Lv{dd:D}(hc:X.calm=O)(hg:Gl X "max")(hm:X.mg "max"=J)(he:PEd X e f)(hd:PE X dx (tC dv))(YU:∀K F H,Inn K F H dd dv)(ht:dd.top=M)(hs:autoParam (starEach [e] X.env=[(M,eval e X.env)]) Za1._auto_1):PEd X (.Call (.Name "max" p) [e] [⟨U "default",dx,kp⟩] pos) (mmE om dd f):=by
 refine(Lu hc hg hm (cL he gF hs) hd hs).aG ?_;rintro Z H Q ⟨H0,eC,env,rv,E,e,k⟩;obtain⟨r,hr,e⟩:=eh e;refine⟨H0,eC,env,[r],E,by unfold aa aX;rw[hr];rfl,λvs H1 s1 Rs=> ?_⟩;cases Rs with
 |cons R1 tl=>
  cases tl;obtain⟨ds,h1,e⟩:=eh e;obtain⟨ns,h2,e⟩:=Gaa.mp e;obtain⟨p,vs,rfl,hq,rr⟩:=vD R1.inn h1;rw[Dd rr h2] at hq;refine⟨p,ns,rfl,hq, ?_⟩;subst e;cases ns with
  |nil=>exact k _ _ s1 ((YU _ _ _).rep λa _ w=>by rw[ht] at w;cases w)
  |cons n ns=>exact k _ _ s1 (.int _)
end
def Lw{K:ai}(k:Key):Rep K F H (Pa k) (kV k):=by
 cases k with
 |inl i=>exact .int i
 |inr x=>exact .str x
def Ph{K:ai}(i:Inn K F H d v)(e:Ft d k=U o):∃p,v= .ref p/\IsD H p:=by
 unfold Ft at e;split at e
 .cases i with
  |dT h r=>exact⟨_,rfl,_,.inl h⟩
 .cases e
def Iz{K:ai}{rd:D}{o' :Option D}(ix:Inn K F H dx (.ref p))(iy:Inn K F H dy y)(e:Ft dx dy=U o')(rz:Rep K F H rd vz):∃o,KC H p y o/\Rep K F H (o'.getD rd) (o.getD vz):=by
 have fin:∀{Y:Type} [DecidableEq Y] {eD:List (Y×D)} {ws:List (Y×V)} {k:Y},aZ K F H eD ws->Rep K F H ((look eD k).getD rd) ((je ws k).getD vz):=λ{Y _ eD ws k} rp=>by
  cases z:look eD k with
  |none=>rw[uk rp z];exact rz
  |some d=>obtain⟨v,h1,h2⟩:=A4 rp z;rw[h1];exact h2
 unfold Ft at e;split at e
 .obtain⟨k',hk,rfl⟩:=Gaa.mp e;obtain⟨q,ws,eq,rp,gg⟩:=KV ix iy _ _ k' rfl rfl hk;cases eq;exact⟨_,gg,fin rp⟩
 .cases e
def Lx{X:Cx}(hu:X.A.units+1<cLine)(ho:PEd X o f)(he:PEd X a g)(hd:PEd X b h)(m:M2 X o "get" apos a b eE):PEd X (.Call (.Attribute o "get" apos) [a,b] [] eE) (Ik f g h):=by
 refine(Hn hu ho he hd m).aG ?_;rintro Z H Q ⟨H0,eC,env,rv,E,e,k⟩;obtain⟨x,hx,e⟩:=eh e;obtain⟨y,hy,e⟩:=eh e;obtain⟨r,hr,e⟩:=eh e;split at e
 .rename_i hc;obtain⟨o',e',rfl⟩:=Gaa.mp e;refine⟨H0,eC,env,x,E,hx,λvx H1 s1 R1=> ?_⟩;obtain⟨p,rfl,hD⟩:=Ph R1.inn e';refine⟨p,rfl,hD,H0,eC,env,y,E.mono s1,hy,λvy H2 s2 R2=> ⟨H0,eC,env,r,(E.mono s1).mono s2,hr,λvz H3 s3 R3=> ?_⟩⟩;have rz:=R3.rep ((E.mono s1).mono s2) (by unfold RV.free;rw[hc]);obtain⟨ov,gg,rp⟩:=Iz ((R1.inn.same s2).same s3) (R2.inn.same s3) e' rz;exact⟨ov,gg,k _ H3 (s1.trans (s2.trans s3)) rp⟩
 .cases e
section
def pU(d:ZG)(hd:(d==sysModules)=M):MeetsIn prog w (Builtin.«dict.items» ⟨[.ref d],[]⟩) (λ_ R s=>s.TypeIs (.ref d) "dict"/\R (.ok (.ret (.ref s.heap.objs.size))) {s with heap:=s.heap.push {cls:= .type "dict_items",data:= .fields #[.ref d]}}):=by
 apply MeetsIn.of_wp;rintro A R s ⟨hm,h⟩
 wp_walk using wpAny_notOrdered_dict hm,Gbj
 .exact⟨_,rfl,h⟩
 .size_fits
variable{s:ZI}
def rg{es:Array DictEntry}(hv:s.heap.IsItemsView v d)(hm:Ic s.heap d es ep)
  (hQ:Q (.ref s.heap.objs.size) {s with heap:=s.heap.push {cls:= .type "dict_itemiterator",data:= .fields #[.none,.bool M,.ref d,.int 0 0,.int es.size 0,.int ep 0,.none,.none]}}):wpAny (model prog w) A (pyIter (.ref v)) Q E s:=by
 have f:FO s.heap v _ _:=hv;apply Gdt f.ty F.slot_dict_items_iter;apply Gbc F.slot_dict_items_iter f.ty F.entry_dict_items_iter
 wp_walk using jR f rfl,Ie hm,Na hm,Gbj
 .exact⟨_,rfl,_,_,⟨_,Gaw _ rfl,rfl⟩,GcI.lookup,hQ⟩
 .simp[sizeOk,Builtin.Dict_items.ownsTuple,Builtin.Dict_items.ownedTupleFields,Gbt]
abbrev ItI(h:ZK)(it d:ZG)(i n ep:Nat)(f0 f1 ok ov:ZH):Prop:=FO h it "dict_itemiterator" #[f0,f1,.ref d,.int i 0,.int n 0,.int ep 0,ok,ov]
def Kept(h:ZK)(it:ZG)(f0 f1:ZH):Prop:=f0= .none\/∃(a:ZG) (oa:ZM) (f:Bool),f0=rawInt a/\f1= .bool f/\h.get? a=U oa/\a≠it
def FE(f:FO s.heap it "dict_itemiterator" #[f0,f1,x2,x3,x4,x5,ok,ov])(hf:Kept s.heap it f0 f1)
  (h:∀h' g0 g1 zv zt,FO h' it "dict_itemiterator" #[g0,g1,x2,x3,x4,x5,zv,zt]->((f0= .none/\g0=rawInt s.heap.objs.size/\g1= .bool M)\/(f0≠ .none/\g0=f0/\g1= .bool O))->
   h'.get? s.heap.objs.size=U {cls:= .type "tuple",data:= .seq #[k,v]}->h'.objs.size=s.heap.objs.size+1->(∀b o,b≠it->s.heap.get? b=U o->h'.get? b=U o)->Q (.ref s.heap.objs.size) {s with heap:=h' }):
  wpAny (model prog w) A (Builtin.Dict_items.pairFromOwner (.ref it) 6 k v) Q E s:=by
 have ne:s.heap.objs.size≠it:=GbR f.lt;apply Gab;refine wpAny_newTuple ?_;have f2:=f.at λo=>Gag {cls:= .type "tuple",data:= .seq #[k,v]};have t2:(s.heap.push {cls:= .type "tuple",data:= .seq #[k,v]}).get? s.heap.objs.size=_:=Gaw _ rfl;have k2:∀b o,s.heap.get? b=U o->(s.heap.push {cls:= .type "tuple",data:= .seq #[k,v]}).get? b=U o:=λb o=>Gag _;have z2:(s.heap.push {cls:= .type "tuple",data:= .seq #[k,v]}).objs.size=s.heap.objs.size+1:=GbY ..;generalize s.heap.push {cls:= .type "tuple",data:= .seq #[k,v]}=p at*;have fin:∀h',Heap.SameBut it p h' ->h'.get? s.heap.objs.size=U {cls:= .type "tuple",data:= .seq #[k,v]}/\h'.objs.size=s.heap.objs.size+1/\∀b o,b≠it->s.heap.get? b=U o->h'.get? b=U o:=λh' sb=> ⟨sb.extBut _ _ ne t2,sb.1.trans z2,λb o n e=>sb.extBut b o n (k2 b o e)⟩;rcases hf with rfl| ⟨a,oa,b,rfl,rfl,ha,Zi⟩
 .wp_walk using jR (i:=0) (x:= .none) f2 rfl,jR (i:=6) (x:=ok) f2 rfl,jR (i:=7) (x:=ov) f2 rfl,fM f2
  .rintro h3 ⟨f3,s3⟩;refine Gab (fM f3 (λh4 ⟨f4,s4⟩=>Gab (fM f4 (λh5 ⟨f5,s5⟩=>Gab (fM f5 (λh6 ⟨f6,s6⟩=>Gab (wpAny_letGo (Gad ?_))) (by simp))) (by simp))) (by simp));obtain⟨q1,q2,q3⟩:=fin h6 (((s3.trans s4).trans s5).trans s6);exact h h6 _ _ _ _ f6 (.inl ⟨rfl,rfl,rfl⟩) q1 q2 q3
  .show _<8;decide
 .wp_walk using jR (i:=0) (x:=rawInt a) f2 rfl,PySem.W.kdx_alive (k2 a oa ha),jR (i:=1) (x:= .bool b) f2 rfl
  have q1:(Value.bool b !=Value.bool O)= !b:=by cases b<;>rfl
  rw[q1];have no:rawInt (a:Int)≠Value.none:=by simp[rawInt]
  cases b with
  |true=>
   wp_walk
   obtain⟨q1,q2,q3⟩:=fin p (Heap.SameBut.refl _ _);exact h p _ _ _ _ f2 (.inr ⟨no,rfl,rfl⟩) q1 q2 q3
  |false=>
   wp_walk using fM f2
   .rintro h3 ⟨f3,s3⟩
    wp_walk
    obtain⟨q1,q2,q3⟩:=fin h3 s3;exact h h3 _ _ _ _ f3 (.inr ⟨no,rfl,rfl⟩) q1 q2 q3
   .show _<8;decide
def kB{A:ZL}{es:Array DictEntry}(hh:A.handled=J)(hit:ItI s.heap it d i es.size ep f0 f1 ok ov)(hm:Ic s.heap d es ep)(hf:Kept s.heap it f0 f1)
  (hQ:∀e h' g0 g1 zv zt,es[i]? =U e->ItI h' it d (i+1) es.size ep g0 g1 zv zt ->((f0= .none/\g0=rawInt s.heap.objs.size/\g1= .bool M)\/(f0≠ .none/\g0=f0/\g1= .bool O))->
   h'.get? s.heap.objs.size=U {cls:= .type "tuple",data:= .seq #[e.key,e.val]}->(∀b o,b≠it->s.heap.get? b=U o->h'.get? b=U o)->Q (U (.ref s.heap.objs.size)) {s with heap:=h' })
  (hE:∀h',es.size<=i->Heap.ExtBut it s.heap h' ->Q J {s with heap:=h' }):wpAny (model prog w) A (pyNext (.ref it)) Q E s:=by
 have hT:=hit.ty
 wp_walk using Gbq hT GcI,Gbc GcI hT F.entry_dict_itemiterator_next (ha:=F.args_dict_itemiterator_next_1 _),Ie hm,Na hm,vF hit,GcF hT
 rw[Sf];cases h:es[i]? with
 |some e=>
  wp_walk using GcF hT,wpAny_isOneOf_itemiter hT,fM hit
  .rintro h1 ⟨f,hs⟩;replace f:ItI h1 it d (i+1) es.size ep f0 f1 ok ov:=f;have kp:Kept h1 it f0 f1:=hf.imp id λ⟨a,o,b,q1,q2,q3,q4⟩=> ⟨a,o,b,q1,q2,hs.extBut a o q4 q3,q4⟩
   wp_walk using wpAny_isOneOf_itemiter f.ty,FE f kp
   intro h' g0 g1 zv zt f' g t _ k;rw[show h1.objs.size=s.heap.objs.size from hs.1] at*;exact Gad ⟨_,rfl,Gad (hQ e h' g0 g1 zv zt h f' g t λb o n q=>k b o n (hs.extBut b o n q))⟩
  .show _<8;decide
 |none=>
  wp_walk using GcF hT,fM hit
  .rintro h' ⟨f,hs⟩;exact Ig hh λh2 a k=>Gab (vG k.2 (Gad (hE h2 (by simpa using h) λb o n e=>k.1 b o (hs.extBut b o n e))))
  .show _<8;decide
def IA{E:VSP}{elts:List ZJ}{pos:Pos}{it d a:ZG}{i n ep:Nat}{f1 ok ov:ZH}{Q:Unit->ZI->Prop}(he:ItI s.heap it d i n ep (rawInt a) f1 ok ov)
  (hQ:∀h',ItI h' it d i n ep .none f1 ok ov->Heap.SameBut it s.heap h' ->Q () {s with heap:=h' }):
  wpAny (model prog w) A (letOwnedTupleGo (.Tuple elts x1 pos) (.ref it) (.ref a)) Q E s:=by
 obtain⟨⟨c,dc,dt,sl⟩,ho,hc,hd⟩:=id he;cases hc;cases hd;apply Gab;apply wpAny_load ho;apply GcE<;>intro hi
 .exact Gab (wpAny_rule (fM he (λh' k=>hQ h' k.1 k.2) (by simp)))
 .simp_all
end
section
variable{X:Cx}{b:ZJ}{Z:St}{H:Hp}
def _root_.L2.Inv.freeze{s:ZI}(I:Inv X e8 Z H s)(e:H d=U (.dT eD))(ho:s.heap.get? d=U o):Inv X e8 Z (upd H d (.frz o (.dT eD))) s:=by
 have:=qc (t' :=s.toks) (ob:= .frz o (.dT eD)) I (by rw[e];trivial) (Heap.SameBut.refl _ _) ⟨o,ho⟩
  ⟨ho,(I.hok d _ e).dM (λb u _ q=>q) (λb q=>by rw[ao (tU q e (by simp))];exact q) λb xs q=>by rw[ao (tU q e (by simp))];exact q⟩
 exact this
def _root_.L2.Inv.Pj(I:Inv X e8 Z H s)(e:H d=U (.frz o (.dT eD)))(hn:∀o u,X.H0 d≠U (.frz o u)):Inv X e8 Z (upd H d (.dT eD)) s:=by
 have ne:∀{b:ZG},H b=J->b≠d:=λq z=>by rw[z,e] at q;cases q
 have nt:∀{b:ZG} {u:HO},H b=U u->u≠ .frz o (.dT eD)->b≠d:=λq hu z=>by rw[z,e] at q;cases q;exact hu rfl
 refine⟨I.ok,I.os,I.bare,⟨I.base.keep,I.base.slot,λb ob q n hx=> ?_,I.base.there,λb xs q=> ?_,λb ob u q=> ?_,λb ps q=> ?_⟩,I.loc,I.cell, ?_,λx c q=> ?_,λp hp=> ?_,λb u q=> ?_,I.len⟩
 .have:=I.base.free b ob q n hx;rw[ao (ne this)];exact this
 .have:=I.base.wI b xs q;rw[ao (nt this (by simp))];exact this
 .have:=I.base.sX b ob u q;rw[ao (λz=>hn ob u (by rw[<-z];exact q))];exact this
 .obtain⟨more,q'⟩:=I.base.wJ b ps q;exact⟨more,by rw[ao (nt q' (by simp))];exact q'⟩
 .rw[ao (ne I.free)];exact I.free
 .rw[ao (ne (I.jP x c q))];exact I.jP x c q
 .obtain⟨h1,h2,h3⟩:=I.pin p hp;exact⟨h1,by rw[ao (ne h2)];exact h2,h3⟩
 .have st:∀{b:ZG} {u:HO},cJ X.prog X.w H s.heap b u->cJ X.prog X.w (upd H d (.dT eD)) s.heap b u:=λx=>
   x.dM (λ_ _ _ q=>q) (λc q=>by rw[ao (nt q (by simp))];exact q) λc xs q=>by rw[ao (nt q (by simp))];exact q
  by_cases hb:b=d
  .subst hb;rw[aD] at q;cases q
   exact st (I.hok b _ e).2
  .rw[ao hb] at q;exact st (I.hok b _ q)
def Dq{s:ZI}{eD:List (List Key×V)}{o:ZM}{es:Array DictEntry}(I:Inv X e8 Z H s)(e:H d=U (.frz o (.dT eD)))(hd:o.data= .dict es ep):Ic s.heap d es ep/\es.size=eD.length/\
  ∀(i:Nat) p,eD[i]? =U p->∃b en,es[i]? =U en/\en.key= .ref b/\H b=U (.tup (p.1.map kV))/\Zt p.2 en.val:=by
 obtain⟨ho,h1,h2,xs,kt,o',WC,WD,xn,hx,xc,he,_⟩:=I.hok d _ e;rw[ho] at xn;cases xn;rw[hd] at xc;cases xc;have hl:=Paired.length kt;have hs:es.size=xs.length:=by rw[<-GaZ,he,Gae]
 refine⟨⟨o,ho,hx,hd⟩,by lia,λi p hp=> ?_⟩;have hi:i<xs.length:=by rw[<-hl];exact(Gak.mp hp).1
 have rel:∀{l:List (List Key×V)} {m:List (List Key×ZG×ZH)},Paired (λ(p:List Key×V) (q:List Key×ZG×ZH)=>p.1=q.1/\H q.2.1=U (.tup (p.1.map kV))/\Zt p.2 q.2.2) l m->∀(i:Nat) p q,l[i]? =U p->m[i]? =U q->H q.2.1=U (.tup (p.1.map kV))/\Zt p.2 q.2.2:=by
  intro l m q;induction q with
  |nil=>intro i p q h;simp at h
  |cons hq t ih=>
   intro i p' q' h1 h2;cases i with
   |zero=>simp at h1 h2;subst h1 h2;exact hq.2
   |succ i=>exact ih i p' q' (by simpa using h1) (by simpa using h2)
 obtain⟨r1,r2⟩:=rel kt i p xs[i] hp (by simp);refine⟨xs[i].2.1,entryOfKey (tupleKind (cK X.prog X.w)) xs[i], ?_,rfl,r1,r2⟩;have:es.toList[i]? =U (entryOfKey (tupleKind (cK X.prog X.w)) xs[i]):=by rw[he];simp[hi]
 simpa using this
def Pk(d:ZG)(o:ZM)(eD:List (List Key×V)):It:=
 ⟨λi H=>H d=U (.frz o (.dT eD))/\i<eD.length,λi H x H' =>∃p b q,eD[i]? =U p/\H b=U (.tup (p.1.map kV))/\H q=J/\x= .ref q/\H' =upd H q (.tup [.ref b,p.2]),λi H=>H d=U (.frz o (.dT eD))/\eD.length<=i⟩
def BU{s:ZI}(hit:ItI s.heap it d i n ep f0 f1 ok ov)(h:Q (.ref it) s):wpAny (model prog w) A (pyIter (.ref it)) Q E s:=by
 have hT:=hit.ty;apply Gdt hT Gdp;apply Gbc Gdp hT PySem.W.kcp_entry (ha:=PySem.F.args_dict_itemiterator_iter_1 _);exact Gad ⟨_,rfl,_,_,hT,PySem.F.slot_dict_itemiterator_next.lookup,h⟩
theorem BV{K:ai}(it d:ZG)(o:ZM)(eD:List (List Key×V))(es:Array DictEntry)(ep:Nat)(hd:o.data= .dict es ep)(xy:d≠it):
  Turn P w K (.Tuple elts x1 tp) (Pk d o eD) [it] it (λi h=>∃f1 ok ov,ItI h it d i es.size ep .none f1 ok ov) where
 mem:=by simp
 obj:=λi h st b hb=>by
  have e:b=it:=by simpa using hb
  subst e;obtain⟨f1,ok,ov,o,e,c,d⟩:=st;simp_all
 keep:=λi h h' st k=>let⟨f1,ok,ov,e⟩:=st;⟨f1,ok,ov,e.at (k it (by simp))⟩
 item:=by
  intro X hP hw hK hc i e8 s Z H E I hf st hg;obtain⟨he,hi⟩:=hg;obtain⟨hr,hz,hx⟩:=Dq I he hd;obtain⟨f1,ok,ov,hit⟩:=st;obtain⟨b,en,q1,q2,q3,q4⟩:=hx i eD[i] (by simp);refine kB (I.ok.hd hc) hit hr (.inl rfl) (λZn h' g0 g1 zv zt Wn xE hg hT kk=> ⟨_,rfl, ?_⟩) λ_ hl _=>absurd hl (by lia);cases q1.symm.trans Wn;have Xg:g0=rawInt s.heap.objs.size:=by
   rcases hg with⟨_,z,_⟩| ⟨z,_⟩
   .exact z
   .exact absurd rfl z
  subst Xg;refine IA xE λh2 xS sb=> ?_;have eY:=hit.lt;have kept:∀b o,b∉[it]->s.heap.get? b=U o->h2.get? b=U o:=λb o hb e=>by
   have b1:b≠it:=λz=>hb (by simp[z]);exact(sb.2 b b1).trans (kk b o b1 e)
  have Wh:h2.get? s.heap.objs.size=U {cls:= .type "tuple",data:= .seq #[en.key,en.val]}:=(sb.2 _ (GbR eY)).trans hT;have I1:Inv X e8 Z (upd H s.heap.objs.size (.tup [.ref b,eD[i].2])) {s with heap:=h2}:=I.qY hf rfl rfl kept (Gan _) (by
   refine⟨by simp[Gbt],[en.key,en.val],.cons q2 (.cons q4 .nil),_,Wh,rfl,0,rfl⟩)
  refine⟨.ref s.heap.objs.size,_,I1,rfl,⟨eD[i],b,_,by simp,q3,I.fresh,rfl,rfl⟩,⟨_,_,_,xS⟩,λb' hb=> ?_⟩;have z:b' =it:=by simpa using hb
  subst z;rw[ao (GaI eY)];exact(hf b' hb).1
 done:=by
  intro X hP hw hK hc i e8 s Z H E I hf st hg;obtain⟨he,hi⟩:=hg;obtain⟨hr,hz,hx⟩:=Dq I he hd;obtain⟨f0,f1,f2,f3,f4,f5⟩:=hf it (by simp);obtain⟨Zm,ok,ov,hit⟩:=st;exact kB (I.ok.hd hc) hit hr (.inl rfl) (λ_ _ _ _ _ _ q=>absurd (Gbe.mp q).1 (by lia)) λh' _ eb=> ⟨rfl,I.turned (λb o hb e=>eb b o hb e) f0 f1 f3 f4 f5⟩
 self:=λ_ _ _ _ _ st h=>let⟨_,_,_,e⟩:=st;BU e h
def IB(X:Cx)(Zp:ZG->ZM->List (List Key×V)->It)(to:TE):TI:=λZ H R=>to Z H λx H1=>∃d eD,x= .ref d/\H1 d=U (.dT eD)/\∀o,(∀o u,X.H0 d≠U (.frz o u))->R (Zp d o eD) (upd H1 d (.frz o (.dT eD)))
def Av{apos eE:Pos}(ho:PE X o to)(eX:autoParam (attributeBase o "items" X.env (eval o X.env)=eval o X.env) Za1._auto_1)(eW:autoParam ((apos.endLine==eE.line)=O) Za1._auto_1):PI X (.Tuple elts x1 tp) (.Call (.Attribute o "items" apos) [] [] eE) (IB X Pk to):=by
 intro e8 s Z H R I h;refine wpAny_Call_method0_late eX eW (thn (ho e8 s Z H _ I h) λv s1 ⟨x,H1,I1,r1,d,eD,ex,hd,q1⟩=> ?_);subst ex;cases r1;obtain⟨_,xu,xs,kt,ob,es,ep,X8,hx,yC,he,_⟩:=Hk I1.hok hd;obtain⟨t1,t2,_⟩:=BB I1 ⟨eD,.inl hd⟩;refine⟨"dict","dict.items",Gdr,PySem.F.slot_dict_items,PySem.F.type_dict_items,t1,t2,GcH rfl (PySem.evalArgs_none ?_)⟩;refine call_meetsIn PySem.F.slot_dict_items t1 PySem.F.entry_dict_items (PySem.F.args_dict_items_1 _) (pU d xu) ⟨t1, ?_⟩;generalize hh1:s1.heap.push {cls:= .type "dict_items",data:= .fields #[.ref d]}=h1;have hv:h1.IsItemsView s1.heap.objs.size d:=by rw[<-hh1];exact⟨_,Gaw _ rfl,rfl,rfl⟩
 have k1:∀b u,s1.heap.get? b=U u->h1.get? b=U u:=λb u q=>by rw[<-hh1];exact Gag _ q
 have I2:Inv X e8 Z H1 {s1 with heap:=h1}:=I1.kept (t' :=s1.toks) k1;refine rg (s:={s1 with heap:=h1}) hv ⟨ob,k1 _ _ X8,hx,yC⟩ ?_;have I3:Inv X e8 Z H1 {s1 with heap:=h1.push {cls:= .type "dict_itemiterator",data:= .fields #[.none,.bool M,.ref d,.int 0 0,.int es.size 0,.int ep 0,.none,.none]}}:=I2.kept (t' :=s1.toks) λb u q=>Gag _ q;have I4:=I3.freeze hd (o:=ob) (Gag _ (k1 _ _ X8));have eY:d<h1.objs.size:=Gaz (k1 _ _ X8);have fresh:(upd H1 d (.frz ob (.dT eD))) h1.objs.size=J:=by
  rw[ao (GbR eY)];exact I2.fresh
 refine⟨h1.objs.size,[h1.objs.size],_,_,_,rfl,I4,BV _ d ob eD es ep yC (GaI eY),⟨_,_,_,_,Gaw _ rfl,rfl,rfl⟩,λb hb=> ?_,q1 ob λo u z=> ?_⟩
 .have z:b=h1.objs.size:=by simpa using hb
  subst z;exact I2.EB (Gan _) fresh
 .have:=I1.base.sX d o u z;rw[hd] at this;cases this
end
section
variable{a b:ZJ}
def BW(Zp:ZG->ZM->List (List Key×V)->It)(vw:List (List Key×D)->List D):Prop:=
 ∀{K:ai} {Hf:Hp} {a:ZG} {o:ZM} {ws:List (List Key×V)} {eD:List (List Key×D)} {F F' Nn:ZG->Prop},Hf a=U (.frz o (.dT ws))->aZ K F Hf eD ws->
  (∀b u,Hf b=U u->(F b\/isT u)->Nn b)->(∀b,F b->Hf b≠J->F' b)->BH K F' Nn (Zp a o ws) (vw eD) Hf
def uz{K:ai}{eD:List (Y×D)}{ws:List (Y×V)}(r:aZ K F H eD ws):eD.length=ws.length:=by
 have:=congrArg List.length r.1
 simpa using this
def FF{Y:Type}{K:ai}{eD:List (Y×D)}{ws:List (Y×V)}{i:Nat}{p:Y×D}(r:aZ K F H eD ws)(e:eD[i]? =U p):∃q,ws[i]? =U q/\p.1=q.1/\Rep K F H p.2 q.2:=by
 have hi:i<ws.length:=by rw[<-uz r];exact(Gak.mp e).1
 have hq:=Gac hi;refine⟨ws[i],hq, ?_,r.2 i p _ e hq⟩;have:=congrArg (λl=>l[i]?) r.1;simp only[Gap,e,hq,Gcj,GcK] at this;exact this
def rh:BW Pk cP:=by
 intro K Hf a o ws eD F F' Nn hA r hN hF Hi keep;have Y0:=keep a _ hA (hN a _ hA (.inr trivial));have r' :=r.gen (λb u hb q=>keep b u hb (hN b u hb q)) hF;refine⟨λi d hd=> ?_,Y0,by unfold cP;rw[Gae,uz r];exact Gan _⟩;unfold cP at hd;rw[Gap] at hd;obtain⟨p,hp,rfl⟩:=Gaa.mp hd;obtain⟨q,h1,h2,h3⟩:=FF r' hp;refine⟨⟨Y0,(Gak.mp h1).1⟩,λx H2 ⟨q',b,t,e2,e3,e4,e5,e6⟩=> ?_⟩;subst e5 e6;rw[h1] at e2;cases e2;refine⟨aW e4,fq e4 (.cons ?_ (.cons h3 .nil))⟩;have rs:aN K F' Hi (p.1.map Pa) (q.1.map kV):=by rw[h2];exact rf λk=>Lw k
 exact .tup e3 rs.1 rs.2
def Ly(hi:PI X tg iter (IB X Zp (tE X f)))(hv:BW Zp vw):PId X tg iter (Dh vw f):=by
 refine hi.aG ?_;rintro Z H R ⟨H0,eC,env,ds,E,hf,k⟩;obtain⟨⟨kd,d⟩,hr,hf⟩:=eh hf;split at hf
 .rename_i hk;have xw :kd= .tn:=hk;subst xw;split at hf
  .rename_i eD hd;have xc :d= .dT eD:=hd;subst xc;cases hf;refine⟨H0,eC,env,⟨.tn,.dT eD⟩,E,hr,λv H1 s1 Rv=> ?_⟩;obtain⟨a,ev,hn,wr,_,ii⟩:=Rv;subst ev;cases ii with
   | @dT _ ws _ h r=>
    refine⟨a,ws,rfl,h,λo zB=> ?_⟩;have sm:c9 H (upd H1 a (.frz o (.dT ws))):=λb u q=>by
     rw[ao (dq q hn)];exact s1 b u q
    have E1:=E.mono sm;refine k _ _ sm (hv aD (r.gen (λb u hb q=> ?_) λb q _=>q) (λb u hb q=> ?_) λb q hb=> ⟨q.1,hb⟩)
    .have:b≠a:=by
      rcases q with q|q
      .exact q.2
      .intro z;subst z;rw[h] at hb;cases hb;exact q
     rw[ao this];exact hb
    .rcases q with q|q
     .exactλ⟨i,h1,h2⟩=>q.1.2 i h1.ol.top h2
     .exactλw=>E1.fu w hb q
  .cases hf
 .cases hf
variable{apos eE:Pos}
def IC{X:Cx}(ho:PEd X o f)(eX:autoParam (attributeBase o "items" X.env (eval o X.env)=eval o X.env) Za1._auto_1)(eW:autoParam ((apos.endLine==eE.line)=O) Za1._auto_1):PId X (.Tuple elts x1 tp) (.Call (.Attribute o "items" apos) [] [] eE) (Dh cP f):=Ly (Av ho eX eW) rh
def jD{env:Env}(h:(env.set i J)[j]? =U (U sl)):j≠i/\env[j]? =U (U sl):=by
 by_cases z:i=j
 .subst z;rw[Gdu] at h;simp at h
 .rw[Gam z] at h;exact⟨Ne.symm z,h⟩
def nA{env:Env}(h:b5 (env.set i J)[j]?):j≠i/\b5 env[j]? :=by
 by_cases z:i=j
 .subst z;rw[Gdu] at h;split at h
  .split at h<;>exact h.elim
  .simp_all
 .rw[Gam z] at h;exact⟨Ne.symm z,h⟩
def Aw{env:Env}(h:A2 (env.set i J)[j]?):j≠i/\A2 env[j]? :=by
 by_cases z:i=j
 .subst z;rw[Gdu] at h;split at h
  .split at h<;>exact h.elim
  .simp_all
 .rw[Gam z] at h;exact⟨Ne.symm z,h⟩
def av.Su{K:ai}{eC:ZG->Prop}{env:Env}{H:Hp}{i:Nat}{a:ZG}{ws:List (List Key×V)}(E:av K H0 eC env Z H)(ti:b5 env[i]?)(ea:Z[i]? =U (U (.ref a)))
  (yE:∀j,j≠i->b5 env[j]? ->Z[j]? ≠U (U (.ref a)))(hH:H a=U (.dT ws)):
  av K (λb=>if b=a then J else H0 b) (λb=>eC b\/b=a) (env.set i J) Z (upd H a (.frz o (.dT ws)))/\∀b,Cln (λb=>eC b\/b=a) (env.set i J) Z b↔Cln eC env Z b:=by
 have cl:∀b,Cln (λb=>eC b\/b=a) (env.set i J) Z b↔Cln eC env Z b:=λb=>by
  constructor
  .intro q;refine⟨λz=>q.1 (.inl z),λj tj ej=> ?_⟩;by_cases z:j=i
   .subst z;rw[ea] at ej;cases ej;exact q.1 (.inr rfl)
   .exact q.2 j (by rw[Gam (Ne.symm z)];exact tj) ej
  .intro q;refine⟨λz=> ?_,λj tj ej=>q.2 j (nA tj).2 ej⟩;rcases z with z|z
   .exact q.1 z
   .subst z;exact q.2 i ti ea
 have na:¬Cln eC env Z a:=λq=>q.2 i ti ea;have dM:i9 (Cln eC env Z) H (upd H a (.frz o (.dT ws))):=λb u hb q=>by
  have:b≠a:=by
   rcases q with q|q
   .intro z;subst z;exact na q
   .intro z;subst z;rw[hH] at hb;cases hb;exact q
  rw[ao this];exact hb
 have hF:∀b,Cln eC env Z b->H b≠J->Cln (λb=>eC b\/b=a) (env.set i J) Z b:=λb q _=>(cl b).mpr q;refine⟨⟨λb u q=> ?_,by rw[List.length_set];exact E.len,λb q=> ?_,λj d q=> ?_,λj d q=> ?_,λj d q=> ?_,λj k b tj tk ej ek=> ?_⟩,cl⟩
 .by_cases z:b=a
  .subst z;rw[Gao rfl] at q;cases q
  .rw[Gai z] at q;rw[ao z];exact E.same b u q
 .rcases q with q|q
  .by_cases z:b=a
   .subst z;rw[aD];simp
   .rw[ao z];exact E.bad b q
  .subst q;rw[aD];simp
 .obtain⟨v,h1,h2⟩:=E.sh j d (jD q).2;exact⟨v,h1,h2.gen dM hF⟩
 .have q' :j≠i/\(env[j]? =U (U (.own d))\/env[j]? =U (U (.lok d))):=by
   rcases q with q|q
   .exact⟨(jD q).1,.inl (jD q).2⟩
   .exact⟨(jD q).1,.inr (jD q).2⟩
  have tj:b5 env[j]? :=by rcases q'.2 with z|z<;>rw[z]<;>trivial
  obtain⟨a',h1,h2,h3,h4,h5,h6⟩:=E.ow j d q'.2;have ne:a' ≠a:=λz=>yE j q'.1 tj (by rw[h1,z]);refine⟨a',h1,by rw[Gai ne];exact h2,λz=>z.elim h3 ne, ?_,h5,h6.gen dM hF λb eb _ u hu=> ?_⟩
  .obtain⟨u,hu,wu⟩:=h4;exact⟨u,by rw[ao ne];exact hu,wu⟩
  .cases eb;rw[ao ne];exact hu
 .have q' :=jD q;have tj:b5 env[j]? :=by rw[q'.2];trivial
  obtain⟨a',h1,h4,h5,h6⟩:=E.bo j d q'.2;have ne:a' ≠a:=λz=>yE j q'.1 tj (by rw[h1,z]);refine⟨a',h1, ?_,h5,h6.gen dM hF λb eb _ u hu=> ?_⟩
  .obtain⟨u,hu,wu⟩:=h4;exact⟨u,by rw[ao ne];exact hu,wu⟩
  .cases eb;rw[ao ne];exact hu
 .exact E.dj j k b (Aw tj).2 (nA tk).2 ej ek
def Rep.Pj{K:ai}{F:ZG->Prop}{H:Hp}{a:ZG}{ws:List (List Key×V)}(hH:H a=U (.frz o (.dT ws)))(nf:¬F a)(r:Rep K F H d v):Rep K F (upd H a (.dT ws)) d v:=by
 induction r with
 |non=>exact .non
 |bl b=>exact .bl b
 |int i=>exact .int i
 |str x=>exact .str x
 | @tup b vs ds h l r ih=>
  refine .tup ?_ l ih;rw[ao λz=>by subst z;rw[hH] at h;cases h];exact h
 | @lst b vs ds f h l r ih=>
  have ne:b≠a:=λz=>by subst z;exact nf f
  refine .lst f ?_ l ih;rcases h with h| ⟨o',h⟩
  .exact .inl (by rw[ao ne];exact h)
  .exact .inr ⟨o',by rw[ao ne];exact h⟩
 | @fl b o' vs ds h l r ih=>exact .fl (by rw[ao λz=>by subst z;rw[hH] at h;cases h];exact h) l ih
 | @scr b ns h=>
  refine .scr ?_;rcases h with⟨o',h⟩|h
  .exact .inl ⟨o',by rw[ao λz=>by subst z;rw[hH] at h;cases h];exact h⟩
  .exact .inr h
 | @dT b ws' eD f h l r ih=>exact .dT f (by rw[ao λz=>by subst z;exact nf f];exact h) l ih
def Nc{H:Hp}{a:ZG}{K:ai}(ii:Inn K F H (.dT eD) (.ref a)):∃ws,H a=U (.dT ws)/\aZ K F H eD ws:=by
 cases ii with
 |dT h r=>exact⟨_,h,r⟩
def FG{K:ai}{H:Hp}{i:Nat}(E:av K H0 eC env Z H)(e:dictAt i env=U eD):
  ∃a ws,b5 env[i]? /\Z[i]? =U (U (.ref a))/\(∀j,j≠i->b5 env[j]? ->Z[j]? ≠U (U (.ref a)))/\H a=U (.dT ws)/\aZ K (Cln eC env Z) H eD ws:=by
 unfold dictAt at e;have own:∀{d:D},(env[i]? =U (U (.own d))\/env[i]? =U (U (.lok d)))->d= .dT eD->∃a ws,b5 env[i]? /\Z[i]? =U (U (.ref a))/\(∀j:Nat,j≠i->b5 env[j]? ->Z[j]? ≠U (U (.ref a)))/\H a=U (.dT ws)/\aZ K (Cln eC env Z) H eD ws:=by
  intro d q hd;subst hd;obtain⟨a,h1,h2,h3,h4,h5,h6⟩:=E.ow i _ q;obtain⟨ws,g1,g2⟩:=Nc h6;refine⟨a,ws,by rcases q with z|z<;>rw[z]<;>trivial,h1,λj hj tj ej=>hj (E.dj i j a (by rcases q with z|z<;>rw[z]<;>trivial) tj h1 ej).symm,g1,g2⟩
 split at e
 .rename_i q;cases e;exact own (.inl q) rfl
 .rename_i q;cases e;exact own (.inr q) rfl
 .rename_i q;split at e
  .rename_i hs;cases e;obtain⟨a,h1,h4,h5,h6⟩:=E.bo i _ q;obtain⟨ws,g1,g2⟩:=Nc h6;refine⟨a,ws,by rw[q];trivial,h1,λj hj tj ej=> ?_,g1,g2⟩;have eY:j<env.length:=by
    rcases Gbg j env.length with z|z
    .exact z
    .rw[GbD z] at tj;exact tj.elim
   have hsj:=Gar.mp hs j (GaS.mpr eY);cases hq:env[j]? with
   |none=>rw[hq] at tj;exact tj.elim
   |some sl=>
    cases sl with
    |none=>rw[hq] at tj;exact tj.elim
    |some sl=>
     cases sl with
     |sh d=>rw[hq] at tj;exact tj.elim
     |own d=>exact hj (E.dj j i a (by rw[hq];trivial) (by rw[q];trivial) ej h1)
     |lok d=>exact hj (E.dj j i a (by rw[hq];trivial) (by rw[q];trivial) ej h1)
     |bor d=>rw[hq] at hsj;simp[hj] at hsj
  .cases e
 .cases e
def ID{X:Cx}(hc:X.calm=O)(S:ik X scope N n ay)
  (hi:PI X tg iter (IB X Zp (QQ i)))(hv:BW Zp vw)(yJ:pj gd)(B:Blk X scope N tg elt ifs gd t f)
  (hs:∀x,foldedSetIterable iter X.env x=pure x:=by intro _;rfl):PEd X (.ListComp elt [⟨tg,iter,ifs,0⟩] scope pos) (vJ vw i n ay gd t f):=by
 intro e8 s Z H Q I hw;obtain⟨H0,eC,env,r,E,e,k⟩:=hw;obtain⟨eD,hk,e⟩:=eh e;split at e
 .rename_i hz;obtain⟨rs,yl,rfl⟩:=Gaa.mp e;obtain⟨a,ws,ti,ea,yE,hH,rp⟩:=FG E hk;obtain⟨cl,h1,h2,h3⟩:=ji (S.cells I);refine Gdj rfl hs h1 S.kind S.BJ ?_;refine thn (hi e8 s Z H (λJ' H' =>∃o,(∀o u,X.H0 a≠U (.frz o u))/\J' =Zp a o ws/\H' =upd H a (.frz o (.dT ws))) I ⟨.ref a,ea,a,ws,rfl,hH,λo zB=> ⟨o,zB,rfl,rfl⟩⟩) λv s1 q1=>thn q1 λzI s2 q2=> ?_;obtain⟨it,fp,tn,J2,H2,e,I2,T,yY,f2,o,zB,eJ,eH⟩:=q2;subst e eJ eH;obtain⟨E2,Xr⟩:=E.Su (o:=o) ti ea yE hH;have na:¬Cln eC env Z a:=λq=>q.2 i ti ea;have dM:i9 (Cln eC env Z) H (upd H a (.frz o (.dT ws))):=λb u hb q=>by
   have:b≠a:=by
    rcases q with q|q
    .lia
    .intro z;subst z;rw[hH] at hb;cases hb;exact q
   rw[ao this];exact hb
  have io:BH X.K (λb=>Cln (λb=>eC b\/b=a) (env.set i J) Z b/\(upd H a (.frz o (.dT ws))) b≠J) (λb=>¬Ow (env.set i J) Z b) (Zp a o ws) (vw eD) (upd H a (.frz o (.dT ws))):=
   hv aD (rp.gen dM λb q _=>(Xr b).mpr q) (λb u hb q=>by
    rcases q with q|q
    .exactλ⟨j,h1,h2⟩=>q.2 j h1.ol.top h2
    .exactλw=>E2.fu w hb q) λb q hb=> ⟨q,hb⟩
  refine ox hc S I2 h2 h3 f2 T yY (λC s' H' =>B.g cl C s' H' fp) (λC s' H' =>B.t cl C s' H' fp) (λC s' H' =>B.e cl C s' H' fp) E2 io yJ hz yl ?_;intro p C s' H' m IX hm hC hF G;obtain⟨g1,g2,vs,g3,g4⟩:=G;have hA:=g1 a _ aD;have yb:p≠a:=λz=>by subst z;rw[aD] at g2;cases g2
  refine⟨m,hm,λh' xO => ⟨.ref p,upd H' a (.dT ws),(IX.HV hF xO).Pj hA zB,rfl, ?_⟩⟩;have sm:c9 H (upd H' a (.dT ws)):=λb u q=>by
   by_cases z:b=a
   .subst z;rw[aD,<-q,hH]
   .rw[ao z];exact g1 b u (by rw[ao z];exact q)
  have Y3 :(upd H' a (.dT ws)) p=U (.lst vs):=by rw[ao yb];exact g3
  refine k _ _ sm ⟨p,rfl,by rw[ao yb] at g2;exact g2,⟨_,Y3,trivial⟩,rfl,.lst (.inl Y3) ⟨g4.1,λj d v e1 e2=> ?_⟩⟩;have r1:=Rep.Pj hA (λq=>na ((Xr a).mp q.1)) (g4.2 j d v e1 e2);exact r1.imp λb q=> ⟨(Xr b).mp q.1,q.2⟩
 .cases e
def vS{X:Cx}(hN:X.N[i]? =U x)(hv:Vis X.env.scope x)(hc:X.calm=O)(S:ik X scope N n ay)
  (yJ:pj gd)(B:Blk X scope N (.Tuple elts x1 tp) elt ifs gd t f)(hd:autoParam ((x==("__debug__":Str))=M) Za2._auto_1)(xq:autoParam ((x==("__classdict__":Str))=M) Za2._auto_1)
  (eX:autoParam (attributeBase (.Name x px) "items" X.env (eval (.Name x px) X.env)=eval (.Name x px) X.env) Za1._auto_1)(eW:autoParam ((apos.endLine==eE.line)=O) Za1._auto_1)
  (hs:∀y,foldedSetIterable (.Call (.Attribute (.Name x px) "items" apos) [] [] eE) X.env y=pure y:=by intro _;rfl):
  PEd X (.ListComp elt [⟨.Tuple elts x1 tp,.Call (.Attribute (.Name x px) "items" apos) [] [] eE,ifs,0⟩] scope pos) (vJ cP i n ay gd t f):=ID hc S (Av (kg hN hv hd xq) eX eW) rh yJ B hs
end
open PySem.W (KatLex KatTups kas_sort kas_ask kat_kind kat_lt kat_one kat_run kat_snds BoolBack kat_lt_int)
def IE{k:Nat}(nb:Il env=O)(e:env[k]? =U (U (.bor d))):False:=by
 have:=Gar.mp nb _ (Gax e);cases this
def av.IF{K:ai}{H0 H:Hp}{eC:ZG->Prop}(E:av K H0 eC env Z H)(hb:eC a)(h0:H0 a=J)(h:H a=U o)(ho:¬isT o)(nb:Il env=O):av K H0 eC env Z (upd H a o'):=by
 have dM:i9 (Cln eC env Z) H (upd H a o'):=λb x hx q=>by
  have:b≠a:=by
   rintro rfl;rcases q with q|q
   .exact q.1 hb
   .rw[h] at hx;cases hx;exact ho q
  rw[ao this];exact hx
 refine⟨λb x hx=> ?_,E.len,λb q z=> ?_,λk dk e=> ?_,λk dk e=> ?_,λk dk e=>(IE nb e).elim,E.dj⟩
 .have:b≠a:=by rintro rfl;rw[h0] at hx;cases hx
  rw[ao this];exact E.same b x hx
 .by_cases m:b=a
  .subst m;rw[aD] at z;cases z
  .rw[ao m] at z;exact E.bad b q z
 .obtain⟨u,h1,h2⟩:=E.sh k dk e;exact⟨u,h1,h2.gen dM λ_ f _=>f⟩
 .obtain⟨b,h1,h2,h3,h4,h5,h6⟩:=E.ow k dk e;have m:b≠a:=λz=>h3 (z▸hb);refine⟨b,h1,h2,h3, ?_,h5,h6.gen dM (λ_ f _=>f) λc ec _ x hx=> ?_⟩
  .unfold Wr;rw[ao m];exact h4
  .cases ec;rw[ao m];exact hx
def av.hide{K:ai}{env:Env}{Z:St}(E:av K H0 eC env Z H)(i:Nat)(v:V):av K H0 eC (env.set i J) (Z.set i (U v)) H:=by
 have hX:∀{k:Nat},b5 (env.set i J)[k]? ->i≠k/\b5 env[k]? :=λ{k} t=>by
  by_cases q:i=k
  .subst q;by_cases z:i<env.length
   .rw[cM z] at t;exact t.elim
   .rw[GbD (by simpa using Nat.le_of_not_lt z)] at t;exact t.elim
  .simp_all
 have xf:∀b,Cln eC env Z b->Cln eC (env.set i J) (Z.set i (U v)) b:=λb h=> ⟨h.1,λk t e=>by
  obtain⟨q,t⟩:=hX t;rw[Gam q] at e;exact h.2 k t e⟩
 refine⟨E.same,by simp[E.len],E.bad,λk dk e=> ?_,λk dk e=> ?_,λk dk e=> ?_,λk l b t1 t2 e1 e2=> ?_⟩
 .rcases eG e with⟨q,e⟩| ⟨q,e⟩
  .cases e
  .obtain⟨u,h1,h2⟩:=E.sh k dk e;exact⟨u,by rw[Gam q];exact h1,h2.imp xf⟩
 .have e' :i≠k/\(env[k]? =U (U (.own dk))\/env[k]? =U (U (.lok dk))):=by
   rcases e with e|e
   .rcases eG e with⟨q,e⟩| ⟨q,e⟩
    .cases e
    .exact⟨q,.inl e⟩
   .rcases eG e with⟨q,e⟩| ⟨q,e⟩
    .cases e
    .exact⟨q,.inr e⟩
  obtain⟨b,h1,h2,h3,h4,h5,h6⟩:=E.ow k dk e'.2;exact⟨b,by rw[Gam e'.1];exact h1,h2,h3,h4,h5,h6.imp xf⟩
 .rcases eG e with⟨q,e⟩| ⟨q,e⟩
  .cases e
  .obtain⟨b,h1,hw,h2,h3⟩:=E.bo k dk e;exact⟨b,by rw[Gam q];exact h1,hw,h2,h3.imp xf⟩
 .obtain⟨q1,yW⟩:=hX t1.top;obtain⟨q2,t2⟩:=hX t2;rw[Gam q1] at e1 t1;rw[Gam q2] at e2;exact E.dj k l b t1 t2 e1 e2
def av.Dr{K:ai}{H H' :Hp}{eC New:ZG->Prop}(E:av K H0 eC env Z H)(s:c9 H H')(h1:∀b,New b->H b=J)(h2:∀b,New b->H' b≠J):av K H0 (λb=>eC b\/New b) env Z H' :=by
 have xf:∀b,Cln eC env Z b->H b≠J->Cln (λb=>eC b\/New b) env Z b:=λb h n=> ⟨λq=>q.elim h.1 λz=>n (h1 b z),h.2⟩;refine⟨E.same.trans s,E.len,λb q z=>q.elim (λq=>E.bad b q (s.free z)) λq=>h2 b q z,λk dk e=> ?_,λk dk e=> ?_,λk dk e=> ?_,E.dj⟩
 .obtain⟨u,q1,q2⟩:=E.sh k dk e;exact⟨u,q1,q2.gen (.ZC s) xf⟩
 .obtain⟨b,q1,q2,q3,q4,q5,q6⟩:=E.ow k dk e;exact⟨b,q1,q2,λz=>z.elim q3 λz=>q4.there (h1 b z),q4.same s,q5,q6.gen (.ZC s) xf λc ec _ x hx=>s c x hx⟩
 .obtain⟨b,q1,qw,q2,q3⟩:=E.bo k dk e;exact⟨b,q1,qw.same s,q2,q3.gen (.ZC s) xf λc ec _ x hx=>s c x hx⟩
open PySem.W (kas_item)
open PySem.W (kas_item kas_swaps_map)
def vT{s:ZI}{ds:List D}(hK:Paired (jS s.heap) ds vs)(hok:ZA ds=O):vM prog w A E s (ds.map code) vs:=λh2 Q hQ=>by
 have hl:=hK.length;exact uy hK hok (by lia) λY hY=>hQ Y λi j C hi hj hc=>Al hK hok hY i j C (by lia) (by lia) hc
def FH{h G:ZK}(kG:∀b o,h.get? b=U o->G.get? b=U o)(k:jS h d v):jS G d v:=by
 cases d with
 |int i=>exact k
 |tup fs=>
  obtain⟨b,o,m,us,h1,h2,h3,h4⟩:=k;exact⟨b,o,m,us,h1,kG b o h2,h3,h4⟩
 |_=>exact k
def Ris(xs:Array Nat):Prop:=∀i j:Nat,i<j->∀x y,xs[i]? =U x->xs[j]? =U y->x<y
def Bel(xs:Array Nat)(j r:Nat):Prop:=r<=xs.size/\(∀(i x:Nat),i<r->xs[i]? =U x->x<j)/\∀(i x:Nat),r<=i->xs[i]? =U x->j<=x
theorem rj{xs:Array Nat}(hr:Ris xs):∀f lo hi,lo<=hi->hi<=xs.size->hi -lo<=f->(∀i x,i<lo->xs[i]? =U x->x<j)->(∀i x,hi<=i->xs[i]? =U x->j<=x)->Bel xs j (SetTable.below.go xs j f lo hi)
 |0,lo,hi,h1,h2,h3,h4,h5=>by
  have e:lo=hi:=by lia
  subst e;exact⟨h2,h4,h5⟩
 |f+1,lo,hi,h1,h2,h3,h4,h5=>by
  unfold SetTable.below.go;by_cases c:lo<hi
  .rw[Gao c];have hm:(lo+hi)/2<xs.size:=by lia
   have gm:=GaG hm;have gd:xs.getD ((lo+hi)/2) j=xs[(lo+hi)/2]:=by simp[hm]
   dsimp only;rw[gd];by_cases c2:xs[(lo+hi)/2]<j
   .rw[Gao c2];refine rj hr f _ _ (by lia) h2 (by lia) (λi x xb hx=> ?_) h5;rcases Gbg i ((lo+hi)/2) with q|q
    .have:=hr i _ q x _ hx gm;lia
    .rw[show i=(lo+hi)/2 by lia,gm] at hx;cases hx;exact c2
   .rw[Gai c2];refine rj hr f _ _ (by lia) (by lia) (by lia) h4 (λi x xb hx=> ?_);rcases Gbg ((lo+hi)/2) i with q|q
    .have:=hr _ i q _ x gm hx;lia
    .rw[show i=(lo+hi)/2 by lia,gm] at hx;cases hx;lia
  .rw[Gai c];have e:lo=hi:=by lia
   subst e;exact⟨h2,h4,h5⟩
def jE(hr:Ris xs):Bel xs j (SetTable.below xs j):=
 rj hr xs.size 0 xs.size (Gba _) (Gan _) (by lia) (λi x hi=>by lia) (λi x hi hx=>by
  rw[Gcf hi] at hx;cases hx)
def vU{xs:Array Nat}(hp:p<=xs.size):(SetTable.insertAt xs p j)[i]? =if i<p then xs[i]? else if i=p then U j else xs[i -1]? :=by
 have e:(SetTable.insertAt xs p j)[i]? =(SetTable.insertAt xs p j).toList[i]? :=by simp
 rw[e,Gcu];have l1:(xs.toList.take p).length=p:=by simp;lia
 by_cases c:i<p
 .rw[Gao c,GaR (by rw[l1];exact c),Gcr c];simp
 .rw[Gai c,GaM (by rw[l1];lia),l1];by_cases c2:i=p
  .simp_all
  .rw[Gai c2,show i -p=(i -p -1)+1 by lia,GcB,Gdg,show p+(i -p -1)=i -1 by lia];simp
def BX(hr:Ris xs)(hn:xs[SetTable.below xs j]? ≠U j):Ris (SetTable.insertAt xs (SetTable.below xs j) j):=by
 obtain⟨b1,b2,b3⟩:=jE (j:=j) hr;generalize SetTable.below xs j=p at*;have b3' :∀(i x:Nat),p<=i->xs[i]? =U x->j<x:=λi x hi hx=>by
  have h1:=b3 i x hi hx;rcases Gbg j x with q|q
  .exact q
  .have e:x=j:=by lia
   subst e;rcases Gbg p i with c|c
   .obtain⟨y,hy⟩:∃y,xs[p]? =U y:=⟨xs[p]'(by
     have:i<xs.size:=by
      rcases Gbg i xs.size with z|z
      .exact z
      .rw[Gcf z] at hx;cases hx
     lia),GaG _⟩
    have h2:=b3 p y (Gan _) hy;have h3:=hr p i c y x hy hx;lia
   .rw[show i=p by lia] at hx;exact absurd hx hn
 intro i k hik x y hx hy;rw[vU b1] at hx hy;by_cases c1:i<p
 .rw[Gao c1] at hx;by_cases c2:k<p
  .rw[Gao c2] at hy;exact hr i k hik x y hx hy
  .rw[Gai c2] at hy;have h1:=b2 i x c1 hx;by_cases c3:k=p
   .rw[Gao c3] at hy;cases hy;exact h1
   .rw[Gai c3] at hy;have:=b3' (k -1) y (by lia) hy;lia
 .rw[Gai c1,] at hx;rw[Gai (by lia)] at hy;by_cases c2:i=p
  .rw[Gao c2] at hx;cases hx
   rw[Gai (by lia)] at hy;exact b3' (k -1) y (by lia) hy
  .rw[Gai c2] at hx;rw[Gai (by lia)] at hy;exact hr (i -1) (k -1) (by lia) x y hx hy
def Tb(bt:Bool)(t:SetTable):Prop:=t.led= !bt/\(t.plain=O->Ris t.place)
def Ax{g:Nat->Option Nat}:Ris (((List.range n).filterMap λj=>(g j).map λk=>(j,k)).map (·.1)).toArray:=by
 have pw:∀(l:List Nat),l.Pairwise (· < ·)->((l.filterMap λj=>(g j).map λk=>(j,k)).map (·.1)).Pairwise (· < ·):=by
  intro l;induction l with
  |nil=>intro _;exact List.Pairwise.nil
  |cons a l ih=>
   intro h;have h' :=GaV.mp h;rw[Gcv];cases hg:g a with
   |none=>simpa[hg] using ih h'.2
   |some k=>
    refine GaV.mpr ⟨λb hb=> ?_,ih h'.2⟩;obtain⟨q,hq,rfl⟩:=Gas.mp hb;obtain⟨j,hj,e⟩:=Gdc.mp hq;cases hgj:g j with
    |none=>rw[hgj] at e;cases e
    |some k' =>rw[hgj] at e;cases e;exact h'.1 j hj
 have:=pw (List.range n) List.pairwise_lt_range;intro i j yn x y hx hy;generalize ((List.range n).filterMap λj=>(g j).map λk=>(j,k)).map (·.1)=l at*;have zJ :l[i]? =U x:=by simpa using hx
 have hy' :l[j]? =U y:=by simpa using hy
 obtain⟨h1,rfl⟩:=Gak.mp zJ;obtain⟨h2,rfl⟩:=Gak.mp hy';exact GcZ.mp this i j h1 h2 yn
def SAt(g:ZK)(a:ZG)(es:Array (Int×ZH))(t:SetTable):Prop:=∃o ep,g.get? a=U o/\o.ExactSet/\o.data= .set es ep t
def Ds{z:ZI}{fs:Array (Int×ZH)}(x:SAt z.heap a es t)(b:fs.size<=sizeLine)(h:∀g,SAt g a fs u/\Heap.SameBut a z.heap g->Q () {z with heap:=g}):wpAny (model prog w) A (storeSet a fs u) Q E z:=by
 obtain⟨o,ep,ho,hx,hd⟩:=x;have q:=Gbf (Obj.putSet fs u) ho (by rw[putSet_of fs u hd];rfl);rw[putSet_of fs u hd] at q;exact wpAny_storeSet_of ho hd (h _ ⟨⟨_,_,q,hx,rfl⟩,GbC ..⟩) b
theorem uA{A:ZL}(Zp:Nat->ZI->Prop)
  (step:∀i s Q E,i<n->Zp i s->(∀v s',(∀Q' E',(∀b y,Zp (i+1) y->Q' b y)->wpAny (model prog w) A.in1 (setAdd S v) Q' E' s')->Q (U v) s')->wpAny (model prog w) A.in1 (pyNext (.ref I)) Q E s)
  (stop:∀s Q E,Zp n s->(∀s',R (.ok (.ret .none)) s' ->Q J s')->wpAny (model prog w) A.in1 (pyNext (.ref I)) Q E s):
  ∀k i s,i+k=n->Zp i s->codeAny (model prog w) A (.builtin "set.update.loop" ⟨[.ref S,.ref I],[]⟩) R s
 |0,i,s,hk,j=>by
  subst hk;apply GbT Gdk;exact Gab (stop s _ _ j λs' r=>Gad r)
 |k+1,i,s,hk,j=>by
  apply GbT Gdk;exact Gab (step i s _ _ (by lia) j λv s' add=>Gab (GbJ (add _ _ λb y q=>Gad ⟨Gdx PyProof.Rows.F.plain_set_update_loop _,uA Zp step stop k (i+1) y (by lia) q⟩)))
noncomputable def lG(w:World):Bool:=w.params.followText "set-order"
section
variable{w:World}
abbrev rA(w:World):ZM:={cls:= .type "set",dict:=J,data:= .set #[] 0 (.fresh 0 0 (!lG w))}
def after(h:codeAny (model prog w) A c (wants Q E) z)(k:∀v s',Q v s' ->R (.ok (.ret v)) s')(e:∀x s',E x s' ->R (.error x) s'):codeAny (model prog w) A c R z:=by
 refine codeAny_mono h ?_;rintro(x|(v|_|_|_)) s' q
 .exact e x s' q
 all_goals first|exact k _ s' q|exact q.elim
def IG{z:ZI}(a:ZH)(h:R (.ref z.heap.objs.size) {z with heap:=z.heap.push (rA w)}):codeAny (model prog w) A (.call (.builtin "set.__new__") ⟨[.type "set",a],[]⟩) (wants R E) z:=by
 have c:=PySem.F.newCall_set_1 a;have q:Code.quiet (.builtin "set.__new__" ⟨[.type "set",a],[]⟩)=O:=Gdx PySem.F.plain_set_new _;have sub:=PySem.sub_set_self;apply codeAny_of_tree;refine Gab (GcX c (Gad ⟨q,GbT PySem.F.entry_set_new ?_⟩))
 wp_walk using wpAny_askSetting
 exact h
def Pl{A:ZL}{z:ZI}(hl:z.heap.IsList l items)
  (h:∀h1,h1.get? z.heap.objs.size=U (rA w)->h1.IsListIter (z.heap.objs.size+1) l 0->(∀b o,z.heap.get? b=U o->h1.get? b=U o)->
   codeAny (model prog w) A.in1.in1 (.builtin "set.update.loop" ⟨[.ref z.heap.objs.size,.ref (z.heap.objs.size+1)],[]⟩) (wants (λ_ s' =>R (.ref z.heap.objs.size) s') E) {z with heap:=h1}):
  wpAny (model prog w) A (call (.type "set") [.ref l]) R E z:=by
 obtain⟨c,tl,mro⟩:=GbF.mro;have made:=GbF.made;have sub:=GbF.sub;have nt:=GbF.notType;have cc:=GbF.canCreate;have ct:=PySem.F.typeCall_set_1 (.ref l);apply wpAny_call;apply codeAny_of_tree;refine Gad ⟨Code.quiet_builtin _ (by decide+kernel), ?_⟩;apply GbT PySem.F.entry_type_call;rw[Around.under_plain (weight_type_call_type "set" [.ref l] []) rfl]
 wp_walk
 refine after (IG (.ref l) (R:=λo y=>o= .ref z.heap.objs.size/\y={z with heap:=z.heap.push (rA w)}) ⟨rfl,rfl⟩) ?_ λ_ _ q=>q;rintro _ _ ⟨rfl,rfl⟩;have eS:(z.heap.push (rA w)).get? z.heap.objs.size=U (rA w):=Gaw _ rfl;have tS:Shared.TypeIs {z with heap:=z.heap.push (rA w)} (.ref z.heap.objs.size) "set":=⟨_,eS,rfl⟩
 have lo:=GbF.init.lookup;have bi:=GbF.init.bind (.ref z.heap.objs.size)
 wp_walk
 refine after (Q:=λr s' =>r= .none/\R (.ref z.heap.objs.size) s') (E:=E) ?_ (λv s' q=> ?_) λ_ _ q=>q
 .apply codeAny_call_builtin GbF.init.plain PySem.F.entry_set_init;apply PySem.check_set_init_1 tS;obtain⟨⟨oc,od,dt,sl⟩,ho,hc,n,hd⟩:=hl;cases hc;cases hd
  have el:=Gag (rA w) ho;have s1:=PySem.F.sub_list_set;have s2:=PySem.F.sub_list_frozenset;have nd:(Value.type "list"==Value.type "dict")=M:=rfl;have il:(z.heap.push (rA w)).IsList l items:=⟨_,el,rfl,n,rfl⟩
  clear mro made nt cc ct lo bi
  wp_walk using wpAny_pyIter_list il
  have sz:(z.heap.push (rA w)).objs.size=z.heap.objs.size+1:=GbY ..;rw[show Shared.heap {z with heap:=z.heap.push (rA w)}=z.heap.push (rA w) from rfl,sz];exact after (h _ (Gag _ eS) ⟨_,sz▸Gaw _ rfl,rfl,rfl⟩ λb o q=>Gag _ (Gag _ q)) (λv s' q=>Gad (Gad ⟨rfl,q⟩)) λ_ _ q=>q
 .obtain⟨rfl,q⟩:=q
  wp_walk
  exact q
end
namespace Fr
def uB:Manifest.owners.lookup (String.ofList ['r', 'o', 't', 'a', 'r', 'e', 't', 'i', '_', 't', 'e', 's'].reverse)=U Manifest.sig_set_iterator:=by kernel_rfl
def rB:isSubtype (.type "set_iterator") (.type "set_iterator")=pure O:=by rw[isSubtype_type];kernel_rfl
def cb:PySem.Slot "set_iterator" "__next__" "set_iterator.__next__":=
 .of (n:="__next__") (by rw[GdI];kernel_rfl) (by decide+kernel) (by decide+kernel) (by decide+kernel) (.inl (by decide+kernel)) rB
def dP:entryFor table "set_iterator.__next__"=U Builtin.«set_iterator.__next__» :=entryFor_of_tree (by kernel_rfl)
def ff(a:ZH):argsOk "set_iterator.__next__" ⟨[a],[]⟩:=by
 unfold argsOk;rw[signature?_of (n:=['_', '_', 't', 'x', 'e', 'n', '_', '_']) (by kernel_rfl) uB]
 kernel_rfl
def rC:PySem.Slot "set_iterator" "__iter__" "set_iterator.__iter__":=
 .of (n:="__iter__") (by rw[GdI];kernel_rfl) (by decide+kernel) (by decide+kernel) (by decide+kernel) (.inl (by decide+kernel)) rB
def pV(a:ZH):argsOk "set_iterator.__iter__" ⟨[a],[]⟩:=by
 unfold argsOk;rw[signature?_of (n:=['_', '_', 'r', 'e', 't', 'i', '_', '_']) (by kernel_rfl) uB]
 kernel_rfl
def oA:entryFor table "set_iterator.__iter__"=U Builtin.«dict_keyiterator.__iter__» :=
 entryFor_alias (id' :="dict_keyiterator.__iter__") (by kernel_rfl) (by decide+kernel) (by decide+kernel) (by kernel_rfl)
def rD:isSubtype (.type "set") (.type "set")=pure O:=by rw[isSubtype_type];kernel_rfl
def Lz:Manifest.owners.lookup (String.ofList ['t', 'e', 's'].reverse)=U Manifest.sig_set:=by kernel_rfl
def Ay:PySem.Slot "set" "__iter__" "set.__iter__":=
 .of (n:="__iter__") (by rw[GdI];kernel_rfl) (by decide+kernel) (by decide+kernel) (by decide+kernel) (.inl (by decide+kernel)) rD
def LA:PySem.Slot "set" "__len__" "set.__len__":=
 .of (n:="__len__") (by rw[GdI];kernel_rfl) (by decide+kernel) (by decide+kernel) (by decide+kernel) (.inl (by decide+kernel)) rD
def tu(a:ZH):argsOk "set.__iter__" ⟨[a],[]⟩:=by
 unfold argsOk;rw[signature?_of (n:=['_', '_', 'r', 'e', 't', 'i', '_', '_']) (by kernel_rfl) Lz]
 kernel_rfl
def rE:entryFor table "set.__iter__"=U Builtin.«frozenset.__iter__» :=
 entryFor_alias (id' :="frozenset.__iter__") (by kernel_rfl) (by decide+kernel) (by decide+kernel) (by kernel_rfl)
end Fr
theorem mB{α:Type}:∀(xs:List α) (i:Nat) h,(xs[i]::xs.eraseIdx i).Perm xs
 |x::xs,0,h=>by simp
 |x::xs,i+1,h=>by
  have h' :i<xs.length:=by simpa using h
  exact(List.Perm.swap _ _ _).trans ((mB xs i h').cons x)
theorem Dt:∀(f k:Nat) (left:List α) (out:Array α),left.length=f->(pickOrder.go next f k left out).toList.Perm (out.toList++left)
 |0,k,left,out,e=>by
  have:left=[]:=Gbn.mp e;subst this;simp[pickOrder.go]
 |f+1,k,left,out,e=>by
  have hl:next k%left.length<left.length:=GcT _ (by lia);unfold pickOrder.go;rw[Gac hl];refine(Dt f (k+1) _ _ (by rw[List.length_eraseIdx_of_lt hl];lia)).trans ?_;rw[Array.toList_push,Gbd];refine List.Perm.append_left _ ?_;exact(mB _ _ hl)
def uC(next:Nat->Nat)(xs:Array α):(pickOrder next xs).toList.Perm xs.toList:=by
 have:=Dt (next:=next) xs.size 0 xs.toList #[] (by simp)
 simpa[pickOrder] using this
section
variable{w:World}
def vW(n:Nat):∀(xs:List α) z (Q:List α->ZI->Prop),xs.length=n->(∀ys d,ys.Perm xs->Q ys {z with drawn:=d})->wpAny (model prog w) A (drawOrder n xs) Q E z:=by
 induction n with
 |zero=>
  intro xs z Q e h;have:xs=[]:=Gbn.mp e;subst this;exact Gad (h [] z.drawn (List.Perm.refl _))
 |succ n ih=>
  intro xs z Q e h;cases xs with
  |nil=>cases e
  |cons x xs=>
  refine Gab (λΓ p hΓ=> ⟨Nat.succ_ne_zero _, ?_⟩)
  suffices hs:∀(i:Nat),i<(x::xs).length->wpAny (model prog w) A (match(x::xs)[i]? with|some y=>(do return y::(<-drawOrder n ((x::xs).eraseIdx i)))|none=>unsupported "internal:drawOrder") Q E {z with drawn:=z.drawn.bump .order} from hs _ (GcT _ (Gct _))
  intro i hi;rw[Gac hi];refine Gab (ih _ _ _ (by rw[List.length_eraseIdx_of_lt hi];lia) λys d hp=> ?_);exact Gad (h _ d ((hp.cons _).trans (mB _ _ hi)))
def mC(h:ZK)(a:ZG)(es:Array (Int×ZH))(ep:Nat)(t:SetTable):Prop:=∃o,h.get? a=U o/\o.ExactSet/\o.data= .set es ep t
def mC.at{h h' :ZK}(x:mC h a es ep t)(e:∀o,h.get? a=U o->h'.get? a=U o):mC h' a es ep t:=let⟨o,ho,r⟩:=x;⟨o,e _ ho,r⟩
def mC.ty{z:ZI}(x:mC z.heap a es ep t):z.TypeIs (.ref a) "set":=let⟨o,ho,hc,_⟩:=x;⟨o,ho,hc.1⟩
inductive Way (w:World) (a:ZG) (es:Array (Int×ZH)) (ep:Nat) (t:SetTable) (h:ZK) (tp:ZG):ZH->Nat->List (Int×ZH)->Prop
 |text {i:Nat}:lG w=O->Way w a es ep t h tp (rawInt 0) i (pickOrder (w.params.setOrder a ep) es).toList
 |drawn {i:Nat} {ps:List Nat}:IsTup h tp (ps.map λ(j:Nat)=>rawInt j).toArray->ps.Perm (List.range es.size)->Way w a es ep t h tp (.ref tp) i (ps.map λj=>es.getD j (0,.none))
 |plain {i:Nat} {s:Nat}:lG w=M->¬(t.plain=M/\es.size>1)->Ris t.place->t.led=O->(s=if i=0 then 0 else t.place.getD (i -1) 0+1)->Way w a es ep t h tp (rawInt s) i es.toList
def gM(w:World)(h:ZK)(it a tp:ZG)(es:Array (Int×ZH))(ep:Nat)(t:SetTable)(xs:List (Int×ZH))(i:Nat):Prop:=
 ∃o first,h.get? it=U o/\o.cls= .type "set_iterator"/\o.data= .fields #[first,rawInt i,.ref a,rawInt es.size,rawInt ep]/\Way w a es ep t h tp first i xs
def Way.perm{es:Array (Int×ZH)}{xs:List (Int×ZH)}(x:Way w a es ep t h tp f i xs):xs.Perm es.toList:=by
 cases x with
 |text _=>exact uC _ _
 |drawn _ hp=>
  refine(hp.map _).trans ?_;have:(List.range es.size).map (λj=>es.getD j (0,Value.none))=es.toList:=by
   apply GcS
   .simp
   .intro i h1 h2;simp at h1 h2⊢;simp[h2]
  rw[this]
 |plain _ _ _ _ _=>exact List.Perm.refl _
def below_at{xs:Array Nat}(hr:Ris xs)(hi:i<=xs.size):SetTable.below xs (if i=0 then 0 else xs.getD (i -1) 0+1)=i:=by
 obtain⟨h1,h2,h3⟩:=jE hr;generalize SetTable.below xs (if i=0 then 0 else xs.getD (i -1) 0+1)=r at*;by_cases c:i=0
 .subst c;rcases Nat.eq_zero_or_pos r with q|q
  .exact q
  .have:=h2 0 xs[0] q (GaG _);simp_all
 .have hg:xs.getD (i -1) 0=xs[i -1]'(by lia):=by simp[show i -1<xs.size by lia]
  rw[hg] at h2 h3;have g1:xs[i -1]? =U (xs[i -1]'(by lia)):=GaG _;have a1:i<=r:=by
   rcases Gbg r i with q|q
   .have:=h3 (i -1) _ (by lia) g1;lia
   .exact q
  have a2:r<=i:=by
   rcases Gbg i r with q|q
   .have g2:xs[i]? =U (xs[i]'(by lia)):=GaG _;have b1:=h2 i _ q g2;have b2:=hr (i -1) i (by lia) _ _ g1 g2;lia
   .exact q
  lia
def gM.ty{z:ZI}(x:gM w z.heap it a tp es ep t xs i):z.TypeIs (.ref it) "set_iterator":=let⟨o,f,ho,hc,_⟩:=x;⟨o,ho,hc⟩
def l6(h:Q (lG w) z):wpAny (model prog w) A setsByText Q E z:=Gab (wpAny_askSetting (Gad h))
def rF{z:ZI}{es:Array (Int×ZH)}{t:SetTable}(hm:mC z.heap a es ep t)(hf:t.fits es.size=O)
  (h1:lG w=M)(h2:¬(t.plain=M/\es.size>1))(h3:Ris t.place)(h4:t.led=O)(hi:i<=es.size)(hs:s=if i=0 then 0 else t.place.getD (i -1) 0+1)
  (h:Q (es[i]?.map λe=>(e.2,t.place.getD i 0+1)) z):wpAny (model prog w) A (setNext a s i ep) Q E z:=by
 obtain⟨o,ho,hx,hd⟩:=hm;have xC:t.place.size=es.size:=by
  unfold SetTable.fits at hf;lia
 refine Gab (GaT ho hd hf (Gab (l6 ?_)));rw[h1];show wpAny _ _ (if(!t.plain&&decide (es.size>1))=O then _ else _) _ _ z;rw[Gai (by intro q;simp at q;exact h2 q)];show wpAny _ _ ((if(!t.led&& !es.isEmpty)=O then unsupported "set:maker-not-led" else pure ())>>=_) _ _ z;rw[Gai (by rw[h4];simp)];have hb:SetTable.below t.place s=i:=by rw[hs];exact below_at h3 (by lia)
 rw[hb];refine Gad ?_;rcases Gbg i es.size with c|c
 .simp_all
 .rw[Gcf c] at h⊢;exact h
def uD{z:ZI}{es:Array (Int×ZH)}{t:SetTable}(hm:mC z.heap a es ep t)(hf:t.fits es.size=O)
  (h1:lG w=O)(h:Q ((pickOrder (w.params.setOrder a ep) es)[i]?.map λe=>(e.2,s)) z):wpAny (model prog w) A (setNext a s i ep) Q E z:=by
 obtain⟨o,ho,hx,hd⟩:=hm;refine Gab (GaT ho hd hf (Gab (l6 ?_)));rw[h1];simp only[Gdn];rw[Gai (by simp)];refine Gab ?_;refine Gab (GaT ho hd hf (Gab (l6 ?_)));rw[h1];refine Gab (wpAny_askSetting (Gad ?_));exact Gad h
def BY{z:ZI}{es:Array (Int×ZH)}{t:SetTable}(hm:mC z.heap a es ep t)(hf:t.fits es.size=O)(hj:j<es.size)
  (h:Q es[j].2 z):wpAny (model prog w) A (setNextDrawn a j ep) Q E z:=by
 obtain⟨o,ho,hx,hd⟩:=hm;refine Gab (GaT ho hd hf ?_)
 try dsimp only
 rw[Gai (by simp),GaG hj];exact Gad h
def FI(x:IsTup h tp vs)(xy:tp≠it)(sb:Heap.SameBut it h h'):IsTup h' tp vs:=by
 obtain⟨o,ho,r⟩:=x;exact⟨o,(sb.2 tp xy).trans ho,r⟩
def IH{z:ZI}{es:Array (Int×ZH)}{t:SetTable}(hit:gM w z.heap it a tp es ep t xs i)(hm:mC z.heap a es ep t)(hf:t.fits es.size=O)(xy:tp≠it)(hx:xs[i]? =U e)
  (hQ:∀h',gM w h' it a tp es ep t xs (i+1)->Heap.SameBut it z.heap h' ->Q (U e.2) {z with heap:=h' }):wpAny (model prog w) A (pyNext (.ref it)) Q E z:=by
 obtain⟨o,first,ho,hc,hd,hw⟩:=id hit;obtain⟨os,yf,Ws,xu⟩:=id hm;have hl:i<es.size:=by
  have h1:=(Gak.mp hx).1;have:=hw.perm.length_eq;simp at this;lia
 unfold pyNext;refine Gab (wpAny_attempt (Gbq (name:=Str.ofString "__next__") hit.ty Fr.cb (Gbc Fr.cb hit.ty Fr.dP ?_ (Fr.ff _))));refine Gab (GcX (a:=(Value.ref it,[])) rfl ?_);refine Gab (wpAny_fieldsOf ho hd ?_);refine Gab (Gab (GaT yf xu hf (Gad ?_)));rw[Gai (by simp)];have up:∀(f:ZH),Way w a es ep t z.heap tp f (i+1) xs->∀h' o',h'.get? it=U o' ->o'.cls= .type "set_iterator"->o'.data= .fields #[f,rawInt ((i+1:Nat):Int),.ref a,rawInt es.size,rawInt ep]->Heap.SameBut it z.heap h' ->gM w h' it a tp es ep t xs (i+1):=λf YT h' o' g1 g2 g3 sb=>by
  refine⟨o',f,g1,g2,g3, ?_⟩;cases YT with
  |text q=>exact .text q
  |drawn q1 q2=>exact .drawn (FI q1 xy sb) q2
  |plain q1 q2 q3 q4 q5=>exact .plain q1 q2 q3 q4 q5
 cases hw with
 |text hb=>
  refine Gab (uD hm hf hb ?_);have zJ :(pickOrder (w.params.setOrder a ep) es)[i]? =U e:=by simpa using hx
  simp only[Gbw,zJ,Gcj];refine Gab (GcO ho hd (by simp) ?_);have xV:=Gbf (Obj.mapFields (·.setIfInBounds 0 (rawInt ((Int.toNat 0:Nat):Int)))) ho (Gck (Gbr hd _));have hd2:=Gbr hd (·.setIfInBounds 0 (rawInt ((Int.toNat 0:Nat):Int)));refine Gab (GcO (s:={z with heap:=_}) xV hd2 (by simp) ?_);have sb:=(GbC z.heap it (Obj.mapFields (·.setIfInBounds 0 (rawInt ((Int.toNat 0:Nat):Int))))).trans (GbC _ it (Obj.mapFields (·.setIfInBounds 1 (rawInt ((i:Int)+1)))));refine Gad ⟨e.2,rfl,Gad (hQ _ (up (rawInt 0) (.text hb) _ _ (Gbf _ xV (Gck (Gbr hd2 _))) ((GcL ..).trans ((GcL ..).trans hc)) (by rw[Gbr hd2];simp[rawInt]) sb) sb)⟩
 | @drawn _ ps ht hp=>
  obtain⟨p,hpi,rfl⟩:∃p,ps[i]? =U p/\es.getD p (0,Value.none)=e:=by
   rw[Gap] at hx;obtain⟨p,h1,h2⟩:=Gaa.mp hx;exact⟨p,h1,h2⟩
  have xm:p<es.size:=by
   have:=hp.mem_iff.mp (Gax hpi)
   simpa using this
  obtain⟨ot,X6,YW,n,yC⟩:=id ht;refine Gab (Gcq X6 yC ?_);have hq:(List.map (λ(j:Nat)=>rawInt j) ps).toArray[i]? =U (rawInt p):=by simp[hpi]
  simp only[Gbw,hq];refine Gab (BY hm hf xm ?_);refine Gab (GcO ho hd (by simp) ?_);have sb:=(GbC z.heap it (Obj.mapFields (·.setIfInBounds 1 (rawInt ((i:Int)+1)))))
  have eg:es.getD p (0,Value.none)=es[p]:=by simp[Array.getD,xm]
  rw[eg] at hQ;refine Gad ⟨es[p].2,rfl,Gad (hQ _ (up (.ref tp) (.drawn ht hp) _ _ (Gbf _ ho (Gck (Gbr hd _))) ((GcL ..).trans hc) (by rw[Gbr hd];simp[rawInt]) sb) sb)⟩
 | @plain _ s q1 q2 q3 q4 q5=>
  dsimp only[rawInt];simp only[Gbw];have zJ :es[i]? =U e:=by simpa using hx
  refine Gab (rF hm hf q1 q2 q3 q4 (GcM hl) q5 ?_);rw[zJ];refine Gab (GcO ho hd (by simp) ?_);have xV:=Gbf (Obj.mapFields (·.setIfInBounds 0 (rawInt ((t.place.getD i 0+1:Nat):Int)))) ho (Gck (Gbr hd _));have hd2:=Gbr hd (·.setIfInBounds 0 (rawInt ((t.place.getD i 0+1:Nat):Int)));refine Gab (GcO (s:={z with heap:=_}) xV hd2 (by simp) ?_);have sb:=(GbC z.heap it (Obj.mapFields (·.setIfInBounds 0 (rawInt ((t.place.getD i 0+1:Nat):Int))))).trans (GbC _ it (Obj.mapFields (·.setIfInBounds 1 (rawInt ((i:Int)+1)))));refine Gad ⟨e.2,rfl,Gad (hQ _ (up (rawInt ((t.place.getD i 0+1:Nat):Int)) (.plain q1 q2 q3 q4 (by simp)) _ _ (Gbf _ xV (Gck (Gbr hd2 _))) ((GcL ..).trans ((GcL ..).trans hc)) (by rw[Gbr hd2];simp[rawInt]) sb) sb)⟩
end
section
variable{z:ZI}
def LB{A:ZL}{es:Array (Int×ZH)}{t:SetTable}(hh:A.handled=J)(hit:gM w z.heap it a tp es ep t xs i)(hm:mC z.heap a es ep t)(hf:t.fits es.size=O)(hi:i=es.size)
  (hQ:∀h',Heap.ExtBut it z.heap h' ->Q J {z with heap:=h' }):wpAny (model prog w) A (pyNext (.ref it)) Q E z:=by
 obtain⟨o,first,ho,hc,hd,hw⟩:=id hit;obtain⟨os,yf,Ws,xu⟩:=id hm;have f:FO z.heap it "set_iterator" _:=⟨o,ho,hc,hd⟩
 have out:∀h1 (P:PySem.Fin->ZI->Prop),Heap.SameBut it z.heap h1->wpAny (model prog w) A.in1 (newExc (.type "StopIteration") []>>=λe=>(raiseNew e:Sem PySem.Fin)) P (λe s' =>wpAny (model prog w) A (isInstance e (.type "StopIteration")>>=λb=>if b=O then pure J else throw e) Q E s') {z with heap:=h1}:=λh1 P sb=>
  Ig hh λh2 e k=>Gab (vG k.2 (Gad (hQ h2 λb o n q=>k.1 b o (sb.extBut b o n q))))
 cases hw with
 |text hb=>
  have no:(pickOrder (w.params.setOrder a ep) es)[i]? =J:=Gcf (by
   have:=(uC (w.params.setOrder a ep) es).length_eq;simp only[GaZ] at this;lia)
  have r:∀{Q' :Option (ZH×Nat)->ZI->Prop} {E'},Q' J z->wpAny (model prog w) A.in1 (setNext a (Int.toNat 0) (i:Int).toNat (ep:Int).toNat) Q' E' z:=λq=>uD (i:=(i:Int).toNat) hm hf hb (by simp only[Gbw,no,Option.map_none];exact q)
  wp_walk using Gbq f.ty Fr.cb,Gbc Fr.cb f.ty Fr.dP (ha:=Fr.ff _),vF f,GaT yf xu hf,r,fM f
  .exactλh1 k=>out h1 _ k.2
  .show _<5;decide
 | @drawn _ ps ht hp=>
  obtain⟨ot,X6,YW,n,yC⟩:=id ht;have no:(List.map (λ(j:Nat)=>rawInt j) ps).toArray[(i:Int).toNat]? =J:=by
   have:=hp.length_eq;simp at this;simp;lia
  wp_walk using Gbq f.ty Fr.cb,Gbc Fr.cb f.ty Fr.dP (ha:=Fr.ff _),vF f,GaT yf xu hf,Gcq X6 yC
  rw[no];exact Gab (fM f (λh1 ⟨f1,s1⟩=>Gab (fM f1 (λh2 ⟨f2,s2⟩=>out h2 _ (s1.trans s2)) (by simp))) (by simp))
 | @plain _ s q1 q2 q3 q4 q5=>
  have r:∀{Q' :Option (ZH×Nat)->ZI->Prop} {E'},Q' J z->wpAny (model prog w) A.in1 (setNext a (s:Int).toNat (i:Int).toNat (ep:Int).toNat) Q' E' z:=λq=>rF (i:=i) hm hf q1 q2 q3 q4 (Nat.le_of_eq hi) q5 (by rw[Gcf (by lia)];exact q)
  wp_walk using Gbq f.ty Fr.cb,Gbc Fr.cb f.ty Fr.dP (ha:=Fr.ff _),vF f,GaT yf xu hf,r,fM f
  .exactλh1 k=>out h1 _ k.2
  .show _<5;decide
def BZ(hit:gM w z.heap it a tp es ep t xs i)(h:Q (.ref it) z):wpAny (model prog w) A (pyIter (.ref it)) Q E z:=
 Gdt hit.ty Fr.rC (Gbc Fr.rC hit.ty Fr.oA (Gad ⟨_,rfl,_,_,hit.ty,Fr.cb.lookup,h⟩) (Fr.pV _))
def Way.at{h h' :ZK}(x:Way w a es ep t h tp f i xs)(k:∀o,h.get? tp=U o->h'.get? tp=U o):Way w a es ep t h' tp f i xs:=by
 cases x with
 |text q=>exact .text q
 |drawn q1 q2=>
  obtain⟨o,ho,r⟩:=q1;exact .drawn ⟨o,k o ho,r⟩ q2
 |plain q1 q2 q3 q4 q5=>exact .plain q1 q2 q3 q4 q5
theorem FJ{A:ZL}(hh:A.handled=J)(I a tp:ZG)(xy:a≠I)(YK:tp≠I)(es:Array (Int×ZH))(ep:Nat)(t:SetTable)(hf:t.fits es.size=O)(xs:List (Int×ZH))(Ws:xs.length=es.size):
  Walks prog w A I [I,a,tp] [I] es.size (λi v=>∃e,xs[i]? =U e/\v=e.2) (λi h=>gM w h I a tp es ep t xs i/\mC h a es ep t) where
 sub:=λb hb=>by simp at hb;simp[hb]
 frame:=λi h h' st hk=>by
  obtain⟨⟨o,f,ho,hc,hd,hw⟩,hs⟩:=st;exact⟨⟨o,f,hk I (by simp) o ho,hc,hd,hw.at λo e=>hk tp (by simp) o e⟩,hs.at λo e=>hk a (by simp) o e⟩
 item:=λi z Q E hi st hQ=>by
  have hx:xs[i]? =U (xs[i]'(by lia)):=Gac _;exact IH st.1 st.2 hf YK hx λh' xE xO =>hQ _ h' z.toks ⟨_,hx,rfl⟩ ⟨xE,st.2.at λo e=>xO.extBut a o xy e⟩ λb o hb e=>xO.extBut b o (λh=>hb (by simp[h])) e
 done:=λz Q E st hQ=>LB hh st.1 st.2 hf rfl λh' zV =>hQ h' z.toks λb o hb e=>zV b o (λh=>hb (by simp[h])) e
 self:=λ_ _ _ _ st hQ=>BZ st.1 hQ
def II{es:Array (Int×ZH)}{t:SetTable}(hm:mC z.heap a es ep t)(hf:t.fits es.size=O)(hT:Tb (lG w) t)(eL:es.size<=sizeLine)
  (hQ:∀(h' :ZK) (it tp:ZG) (d:Drawn) (xs:List (Int×ZH)),z.heap.objs.size<=it->tp≠it->z.heap.objs.size<=tp->(∀b o,z.heap.get? b=U o->h'.get? b=U o)->gM w h' it a tp es ep t xs 0->xs.length=es.size->xs.Perm es.toList->Q (.ref it) {z with heap:=h',drawn:=d}):
  wpAny (model prog w) A (pyIter (.ref a)) Q E z:=by
 obtain⟨o,ho,hx,hd⟩:=id hm;have hTy:z.TypeIs (.ref a) "set":=hm.ty;have xC:t.place.size=es.size:=by
  unfold SetTable.fits at hf;simp at hf;lia
 refine Gdt hTy Fr.Ay (Gbc Fr.Ay hTy Fr.rE ?_ (Fr.tu _));refine Gab (m:=Builtin.Frozenset.slot0 "__iter__" ⟨[.ref a],[]⟩) (GcX (a:=a) rfl ?_);refine Gab (Gab (Gab (GaT ho hd hf (Gad (Gad ?_)))));refine Gab ?_;refine Gab (GaT ho hd hf (Gab (l6 ?_)));refine Gad ?_;by_cases c:(!lG w&&(!t.plain&&decide (es.size>1)))=O
 .show wpAny _ _ (if(!lG w&&(!t.plain&&decide (es.size>1)))=O then _ else _) _ _ z;rw[Gao c];refine Gab (vW es.size (List.range es.size) z _ (by simp) λps d hp=> ?_);have xm:ps.length=es.size:=by rw[hp.length_eq];simp
  refine Gab (wpAny_newTuple ?_ (by rw[Gae];lia));have X9:(z.heap.push {cls:= .type "tuple",data:= .seq (ps.map λ(i:Nat)=>rawInt i).toArray}).get? a=U o:=Gag _ ho;refine Gab (m:=setEpoch a) (Gab (GaT (s:={z with heap:=_,drawn:=d}) X9 hd hf (Gad ?_)));refine Gab (Gbj (Gad ⟨_,rfl,"set_iterator",_,⟨_,Gaw _ rfl,rfl⟩,Fr.cb.lookup, ?_⟩) (by size_fits));refine hQ _ _ z.heap.objs.size d (ps.map λj=>es.getD j (0,.none)) (by rw[GbY];exact GbO _) (by rw[GbY];exact GaI (Gdy _)) (Gan _) (λb o e=>Gag _ (Gag _ e)) ?_ (by simp[xm]) (Way.perm (w:=w) (a:=a) (ep:=ep) (i:=0) (t:=t) (.drawn (h:=z.heap.push {cls:= .type "tuple",data:= .seq (ps.map λ(i:Nat)=>rawInt i).toArray}) (tp:=z.heap.objs.size) ⟨_,Gaw _ rfl,rfl,0,rfl⟩ hp));exact⟨_,_,Gaw _ rfl,rfl,rfl,.drawn ⟨_,Gag _ (Gaw _ rfl),rfl,0,rfl⟩ hp⟩
 .show wpAny _ _ (if(!lG w&&(!t.plain&&decide (es.size>1)))=O then _ else _) _ _ z;rw[Gai c];refine Gab (m:=setEpoch a) (Gab (GaT ho hd hf (Gad ?_)));refine Gab (Gbj (Gad ⟨_,rfl,"set_iterator",_,⟨_,Gaw _ rfl,rfl⟩,Fr.cb.lookup, ?_⟩) (by size_fits));obtain⟨xs,hW⟩:∃xs,Way w a es ep t (z.heap.push {cls:= .type "set_iterator",data:= .fields #[rawInt 0,rawInt 0,.ref a,rawInt es.size,rawInt ep]}) (z.heap.objs.size+1) (rawInt 0) 0 xs:=by
   cases hb:lG w with
   |true=>exact⟨_,.text hb⟩
   |false=>
    have c' :¬(t.plain=M/\es.size>1):=λq=>c (by rw[hb,q.1];simp[q.2]);refine⟨_,.plain (s:=0) hb c' ?_ (by rw[hT.1,hb];rfl) (by simp)⟩;cases hp:t.plain with
    |true=>exact hT.2 hp
    |false=>
     intro i j yn x y hx hy;have h2:=(Gbe.mp hy).1;lia
  exact hQ _ _ (z.heap.objs.size+1) z.drawn xs (Gan _) (GbR (Gdy _)) (GbO _) (λb o e=>Gag _ e) ⟨_,_,Gaw _ rfl,rfl,rfl,hW⟩ (by have:=hW.perm.length_eq;simpa using this) hW.perm
def IJ(hT:z.TypeIs (.ref d) "set")(h:Q M z):wpAny (model prog w) A (Builtin.List.listLengthHint (.ref d)) Q E z:=by
 have sp:splitId "set.__len__"=U ("set","__len__"):=by decide+kernel
 apply Gab;apply GdJ hT Fr.LA.lookup;dsimp only;rw[sp]
 wp_walk using wpAny_isInstance hT Fr.rD,GdE hT
 exact h
def C0{A:ZL}{es:Array (Int×ZH)}{t:SetTable}(hh:A.handled=J)(hm:mC z.heap a es ep t)(hf:t.fits es.size=O)(hT:Tb (lG w) t)(eL:es.size<=sizeLine)(S:ZG)(res:ZH)(hS:Emp z.heap S)(Xk:S≠a)
  (hR:∀h' tk d xZ c' (xs:List (Int×ZH)),(∀b o,b≠S->z.heap.get? b=U o->h'.get? b=U o)->h'.get? S=U {cls:= .type "list",dict:=J,data:= .seq xZ c',slots:=#[]}->xs.Perm es.toList->xZ.toList=xs.map (·.2)->R (.ok (.ret res)) {z with heap:=h',toks:=tk,drawn:=d}):
  wpAny (model prog w) A.in1 (Builtin.List.listExtendWith (.ref S) (.ref a) res) (λfin s' =>match fin with| .done f=>R (.ok f) s' | .again c' =>c'.quiet=O/\codeAny (model prog w) A c' R s') (λe s' =>R (.error e) s') z:=by
 have lS:=let⟨_,e⟩:=hS
 Gaz e
 have la:=let⟨o,ho,_⟩:=hm
 Gaz ho
 refine Ih hm.ty rfl rfl (by simp[Builtin.List.listSameRef,Xk]) (II hm hf hT eL λh1 it tp d xs gi ne gt k1 hI xl xp=>IJ (let⟨o,ho,hc,_⟩:=hm;⟨o,k1 _ _ ho,hc.1⟩) ⟨let⟨c,e⟩:=hS;⟨c,k1 _ _ e⟩,λh2 ⟨c,e⟩ k=> ?_⟩);have W:=(FJ (prog:=prog) (w:=w) (A:=A.in1) hh it a tp (GaI (GaJ la gi)) ne es ep t hf xs xl).toS;have nit:=GbR (GaJ lS gi);have ntp:=GbR (GaJ lS gt);refine codeAny_extend_loopS W eL S (by simp[Ne.symm nit,Ne.symm ntp,Xk]) res es.size 0 _ #[] c rfl (Gba _) ⟨let⟨o,f,ho,hc,hd,hw⟩:=hI;⟨o,f,k it o nit ho,hc,hd,hw.at λo=>k tp o ntp⟩,hm.at λo q=>k a o (Ne.symm Xk) (k1 _ _ q)⟩ e (ItemsOf.nil _) λs' xZ c' mv e' items=> ?_;rw[Moved.eq_with mv];refine hR s'.heap s'.toks d xZ c' xs (λb o n q=>mv.heap b o (λm=> ?_) (k b o n (k1 _ _ q))) e' xp (GcJ λi=> ?_)
 .have lb:=Gaz q
  grind
 .rw[Gbp,Gap];cases q:xZ[i]? with
  |some v=>
   obtain⟨en,h1,rfl⟩:=items.2 i v q;rw[h1]
   rfl
  |none=>
   have:es.size<=i:=by rw[<-items.1];simpa using q
   simp_all
def Az{A:ZL}{es:Array (Int×ZH)}{t:SetTable}(hh:A.handled=J)(hm:mC z.heap a es ep t)(hf:t.fits es.size=O)(hT:Tb (lG w) t)(eL:es.size<=sizeLine)
  (h:∀h' tk d (xs:List (Int×ZH)),z.heap.objs.size<h'.objs.size->(∀b o,z.heap.get? b=U o->h'.get? b=U o)->xs.Perm es.toList->Q (xs.map (·.2)) {z with heap:=h',toks:=tk,drawn:=d}):wpAny (model prog w) A (collect (.ref a)) Q E z:=by
 have old:∀{b o},z.heap.get? b=U o->b≠z.heap.objs.size:=λe=>GaI (Gaz e);refine vH λh1 e k R r=>C0 hh (hm.at (k a)) hf hT eL _ _ e (let⟨o,ho,_⟩:=hm;Ne.symm (old ho)) λh' tk d acc c xs k' e' xp ha=> ?_;exact r _ acc c e' (ha▸h h' tk d xs (Gaz e') (λb o q=>k' b o (old q) (k b o q)) xp)
end
def _root_.L2.Inv.draw(I:Inv X e8 Z H s)(d:Drawn):Inv X e8 Z H {s with drawn:=d}:=⟨I.ok,I.os,I.bare,I.base,I.loc,I.cell,I.free,I.jP,I.pin,I.hok,I.len⟩
namespace Fr
end Fr
section
variable{K:Type} [DecidableEq K]
variable{s:ZI}
def IK{knd:HeapKind prog w K}{o:ZM}{es:Array DictEntry}{ys:List (K×ZG×ZH)}(ho:s.heap.get? d=U o)(hc:o.ExactDict)(hd:o.data= .dict es ep)(he:(f es).toList=ys.map (entryOfKey knd))
  (Ww:∀x∈ys,knd.is s.heap x.1 x.2.1)(hn:(ys.map (·.1)).Nodup)(hz:es.size<=sizeLine)(hf:(f es).size<=es.size+1)(h:∀h',h'.DictOfH knd d ys->Heap.SameBut d s.heap h' ->Q () {s with heap:=h' }):wpAny (model prog w) A (updateDictKeys d f p) Q E s:=by
 have sb:=GbC s.heap d (Obj.mapDictKeys f);refine wpAny_updateDictKeys ho hd (h _ ⟨_,f es,ep+1,Gbf _ ho ?_,hc.mapDictKeys _,Obj.data_mapDictKeys hd _,he,λx m=>knd.keeps (Ww x m) ho hd sb,hn⟩ sb) hz hf;exact Obj.isFreed_of_dict (Obj.data_mapDictKeys hd _)
def pW{knd:HeapKind prog w K}{xs:List (K×ZG×ZH)}(hu:knd.room A)(xD:knd.is s.heap k a)(hm:s.heap.DictOfH knd d xs)
  (zb:∀p,atKey xs k=U p->Q p.2 {s with toks:=s.toks+knd.draws k})
  (Xb:atKey xs k=J->∀h',h'.DictOfH knd d (storedH xs k a v)->Heap.SameBut d s.heap h' ->Q v {s with heap:=h',toks:=s.toks+knd.draws k})
  (xC:xs.length<=sizeLine):
  wpAny (model prog w) A (dictSetDefault d (.ref a) v) Q E s:=by
 obtain⟨o,es,ep,ho,hc,hd,he,Ww,hn⟩:=hm;have sz:=size_of_entries he
 wp_walk using knd.pyHash hu xD,wpAny_dictFind_heap (s:={s with toks:=s.toks+knd.draws k}) hu xD ho hd he Ww hn
 .intro no;have none' :=atKey_none_of_get no;have ys:=storedH_new none' a v;refine Gab (wpAny_rule (Gab (IK (knd:=knd) (ys:=storedH xs k a v) (s:={s with toks:=s.toks+knd.draws k}) ho hc hd ?_ ?_ ?_ (by lia) (by simp) λh' q1 q2=>Gad (Xb none' h' q1 q2))))
  .rw[ys,Array.toList_push,he,GaC];rfl
  .rw[ys];intro x m;rcases Gau.mp m with m|m
   .exact Ww x m
   .rw[GaU.mp m];exact xD
  .rw[ys,GaC,GaW];exact⟨hn,by simp,λx m y n=>by simp at n;rw[n];exactλe=>not_mem_keys_of_get no (e▸m)⟩
 .intro j p at_;have e:=entry_at he j;rw[at_] at e
  wp_walk using wpAny_dictEntries (s:={s with toks:=s.toks+knd.draws k}) ho hd
  rw[e]
  wp_walk
  exact zb p (atKey_of_get hn at_)
def nB{knd:HeapKind prog w K}(d a:ZG)(hd:(d==sysModules)=M)(dflt:ZH):
  MeetsIn prog w (Builtin.«dict.setdefault» ⟨[.ref d,.ref a,dflt],[]⟩) (λA R s=>knd.room A.in1/\∃k xs,knd.is s.heap k a/\s.heap.DictOfH knd d xs/\xs.length<=sizeLine/\
   (∀p,atKey xs k=U p->R (.ok (.ret p.2)) {s with toks:=s.toks+knd.draws k})/\
   (atKey xs k=J->∀h',h'.DictOfH knd d (storedH xs k a dflt)->Heap.SameBut d s.heap h' ->R (.ok (.ret dflt)) {s with heap:=h',toks:=s.toks+knd.draws k})):=by
 apply MeetsIn.of_wp;rintro A R s ⟨hu,k,xs,xD,hm,xC,h1,h2⟩
 wp_walk using wpAny_notOrdered_dict hm.typeIs,pW hu xD hm
 .exactλp q=>Gad ⟨_,rfl,h1 p q⟩
 .exactλq h' q1 q2=>Gad ⟨_,rfl,h2 q h' q1 q2⟩
 .exact xC
end
def vX{X:Cx}{Z:St}{A:ZL}{eD:List (List Key×V)}{k:List Key}(hu:A.units+1<cLine)(I:Inv X e8 Z H s)(e:H a=U (.dT eD))(eb:H b=U (.tup (k.map kV)))(hl:eD.length<sizeLine)(rd:Zt d r)
  (h1:∀v w' s',je eD k=U v->Inv X e8 Z H s' ->Zt v w' ->Q w' s')(h2:∀s',je eD k=J->Inv X e8 Z (upd H a (.dT (putK eD k d))) s' ->Q r s'):
  wpAny (model X.prog X.w) A (call (.builtin "dict.setdefault") [.ref a,.ref b,r]) Q E s:=by
 obtain⟨z,hd,xs,rel,dd⟩:=Hk I.hok e;have hz:xs.length<=sizeLine:=by rw[<-Paired.length rel];exact z
 refine call_meetsIn PySem.F.slot_dict_setdefault dd.typeIs PySem.F.entry_dict_setdefault (PySem.F.args_dict_setdefault_3 _ _ _) (nB a b hd r) ⟨tupleKind_room_in1 hu,k,xs,L2.oj I.hok eb,dd,hz,λp hp=> ?_,λhn h' Xq hs=> ?_⟩
 .have rv:=rel.val k;rw[hp] at rv;cases hv:je eD k with
  |none=>rw[hv] at rv;exact rv.elim
  |some v=>rw[hv] at rv;exact h1 v _ _ hv (I.tok _) rv
 .have rv:=rel.val k;rw[hn] at rv;cases hv:je eD k with
  |some v=>rw[hv] at rv;exact rv.elim
  |none=>
   refine h2 _ hv ?_;have yA :(putK eD k d).length<=sizeLine:=by have:=oV eD k d;lia
   obtain⟨q,es,ep,hq,g2,g3,g4,_,g5⟩:=Xq;refine qc I (by rw[e];exact True.intro) hs ⟨q,hq⟩ ⟨yA,hd,_,(rel.put k eb rd).keeps λc ys ec=> ?_,q,es,ep,hq,g2,g3,g4,g5⟩;rw[ao (tU ec e (λz=>nomatch z))];exact ec
def Pn(td ty tx:TE):TE:=λZ H Q=>td Z H λx H1=>∃a,x= .ref a/\IsD H1 a/\ty Z H1 λy H2=>tx Z H2 λz H3=>∃eD k b,H3 a=U (.dT eD)/\y= .ref b/\H3 b=U (.tup (k.map kV))/\eD.length<sizeLine/\
 (∀v,je eD k=U v->Q v H3)/\(je eD k=J->Q z (upd H3 a (.dT (putK eD k z))))
def IL{X:Cx}(hu:X.A.units+1<cLine)(ho:PE X o td)(he:PE X e ty)(hf:PE X f tx)(m:M2 X o "setdefault" apos e f eE):PE X (.Call (.Attribute o "setdefault" apos) [e,f] [] eE) (Pn td ty tx):=by
 intro e8 s Z H Q I h;refine wpAny_Call_method m.base m.few m.line Gdr PySem.F.slot_dict_setdefault PySem.F.type_dict_setdefault (thn (ho e8 s Z H _ I h) λu s1 ⟨x,H1,I1,rx,a,ex,d,q1⟩=> ?_);subst ex;obtain rfl:u=Value.ref a:=rx;obtain⟨t1,t2,_⟩:=BB I1 d;refine⟨t1,t2, ?_⟩;rw[m.trees];refine GcH rfl (GdF (GcC (thn (he e8 s1 Z H1 _ I1 q1) λiv s2 ⟨y,H2,I2,ry,q2⟩=>
  GcC (thn (hf e8 s2 Z H2 _ I2 q2) λfv s3 ⟨z,H3,I3,rz,eD,k,b,e1,e2,e3,e4,e5,e6⟩=>Calls.spliced_nil ?_))))
 subst e2;cases(show iv=Value.ref b from ry);exact vX hu I3 e1 e3 e4 rz (λv w' s4 hv I4 rv=> ⟨_,H3,I4,rv,e5 v hv⟩) λs4 hv I4=> ⟨_,_,I4,rz,e6 hv⟩
def gC(eC:ZG->Prop)(p:ZG)(ws:List (List Key×V))(b:ZG):Prop:=eC b\/b=p\/V.ref b∈ws.map (·.2)
structure dX(K:ai)(eC:ZG->Prop)(env:Env)(Z:St)(H:Hp)(i:Nat)(p:ZG)(ws:List (List Key×V))(eD:Rws):Prop where
 at_:Z[i]? =U (U (.ref p))
 hid:env[i]? =U J
 top:H p=U (.dT ws)
 keys:eD.map (·.1)=ws.map (·.1)
 row:∀(j:Nat) k v d,ws[j]? =U (k,v)->eD[j]? =U (k,d)->∃a ds vs,v= .ref a/\d= .lst ds/\a≠p/\H a=U (.lst vs)/\aN K (λ_=>False) H ds vs
 inj:∀(j j' :Nat) k k' a,ws[j]? =U (k,V.ref a)->ws[j']? =U (k',V.ref a)->j=j'
def mD(H H' :Hp):Prop:=∀b o,H b=U o->isT o->H' b=U o
def mD.trans(a:mD H H1)(b:mD H1 H2):mD H H2:=λc o e t=>b c o (a c o e t) t
def mD.same(s:c9 H H1):mD H H1:=λc o e _=>s c o e
theorem mD.upd(h:H a=U o)(n:¬isT o):mD H (upd H a o'):=λc x e t=>by
 have:c≠a:=by rintro rfl;rw[h] at e;cases e;exact n t
 rw[ao this];exact e
theorem dX.mono{K:ai}(N:dX K eC env Z H i p ws eD)(s:c9 H H'):dX K eC env Z H' i p ws eD where
 at_:=N.at_
 hid:=N.hid
 top:=s _ _ N.top
 keys:=N.keys
 row:=λj k v d h1 h2=>let⟨a,ds,vs,e1,e2,e3,e4,e5⟩:=N.row j k v d h1 h2;⟨a,ds,vs,e1,e2,e3,s _ _ e4,e5.gen (.ZC s) λ_ f _=>f⟩
 inj:=N.inj
theorem dX.lO{K:ai}{env:Env}{Z:St}(N:dX K eC env Z H i p ws eD)(yn:i≠j):dX K eC (env.set j (U (.sh d))) (Z.set j (U v)) H i p ws eD where
 at_:=by rw[Gam (Ne.symm yn)];exact N.at_
 hid:=by rw[Gam (Ne.symm yn)];exact N.hid
 top:=N.top
 keys:=N.keys
 row:=λj k v d h1 h2=>let⟨a,ds,vs,e1,e2,e3,e4,e5⟩:=N.row j k v d h1 h2;⟨a,ds,vs,e1,e2,e3,e4,e5⟩
 inj:=N.inj
def dX.Po{K:ai}(N:dX K eC env Z H i p ws eD):dX K Bad' env Z H i p ws eD:=⟨N.at_,N.hid,N.top,N.keys,N.row,N.inj⟩
def dX.app{K:ai}{H:Hp}{eC:ZG->Prop}{d:D}{v:V}{j:Nat}{eD:Rws}(N:dX K eC env Z H i p ws eD)(ba:eC a)(ha:ws[j]? =U (k,.ref a))(hd:eD[j]? =U (k,.lst ds))(hv:H a=U (.lst vs))(rp:aN K (λ_=>False) H (ds++[d]) (vs++[v])):
  dX K eC env Z (upd H a (.lst (vs++[v]))) i p ws (eD.set j (k,.lst (ds++[d]))):=by
 have dM:i9 (λ_=>False) H (upd H a (.lst (vs++[v]))):=λb x hx q=>by
  have:b≠a:=by
   rintro rfl;rcases q with q|q
   .exact q
   .rw[hv] at hx;cases hx;exact q
  rw[ao this];exact hx
 have yb:p≠a:=by
  obtain⟨a',_,_,e1,_,e3,_⟩:=N.row j k _ _ ha hd;lia
 have zm:=(Gak.mp hd).1;refine⟨N.at_,N.hid,by rw[ao yb];exact N.top, ?_,λj' k' v' d' h1 h2=> ?_,N.inj⟩
 .rw[List.map_set,<-N.keys];apply GcJ;intro m;by_cases q:j=m
  .subst q;rw[Gbs (by simpa using zm),Gap,hd]
   rfl
  .simp_all
 .by_cases q:j=j'
  .subst q;rw[ha] at h1;cases h1;rw[Gbs zm] at h2;cases h2;exact⟨a,_,_,rfl,rfl,Ne.symm yb,aD,rp.gen dM λ_ f _=>f⟩
  .rw[Gam q] at h2;obtain⟨a',xv,us,e1,e2,e3,e4,e5⟩:=N.row j' k' v' d' h1 h2;subst e1;have na:a' ≠a:=by
    rintro rfl;exact q (N.inj j j' _ _ _ ha h1)
   exact⟨a',xv,us,rfl,e2,e3,by rw[ao na];exact e4,e5.gen dM λ_ f _=>f⟩
def dX.make{K:ai}{H:Hp}{eC:ZG->Prop}{ws:List (List Key×V)}(N:dX K eC env Z H i p ws eD)(bp:eC p)(ba:eC a)(hn:V.ref a∉ws.map (·.2))(yb:a≠p)(hv:H a=U (.lst [])):dX K eC env Z (upd H p (.dT (ws++[(k,.ref a)]))) i p (ws++[(k,.ref a)]) (eD++[(k,.lst [])]):=by
 have dM:i9 (λ_=>False) H (upd H p (.dT (ws++[(k,.ref a)]))):=λb x hx q=>by
  have:b≠p:=by
   rintro rfl;rcases q with q|q
   .exact q
   .rw[N.top] at hx;cases hx;exact q
  rw[ao this];exact hx
 have eL:eD.length=ws.length:=by have:=congrArg List.length N.keys;simpa using this
 refine⟨N.at_,N.hid,aD,by rw[GaC,GaC,N.keys];rfl,λj' k' v' d' h1 h2=> ?_,λj1 j2 k1 k2 b h1 h2=> ?_⟩
 .by_cases q:j' <ws.length
  .rw[GaR q] at h1;rw[GaR (by lia)] at h2;obtain⟨a',xv,us,e1,e2,e3,e4,e5⟩:=N.row j' k' v' d' h1 h2;exact⟨a',xv,us,e1,e2,e3,by rw[ao e3];exact e4,e5.gen dM λ_ f _=>f⟩
  .rw[GaM (by lia)] at h1;rw[GaM (by lia)] at h2;rw[eL] at h2;cases hz:j' -ws.length with
   |zero=>
    rw[hz] at h1 h2;cases h1;cases h2
    exact⟨a,[],[],rfl,rfl,yb,by rw[ao yb];exact hv,.nil⟩
   |succ n=>rw[hz] at h1;simp at h1
 .by_cases q1:j1<ws.length
  .rw[GaR q1] at h1;by_cases q2:j2<ws.length
   .rw[GaR q2] at h2;exact N.inj j1 j2 _ _ _ h1 h2
   .rw[GaM (by lia)] at h2;cases hz:j2 -ws.length with
    |zero=>
     rw[hz] at h2;cases h2
     exact absurd (Gas.mpr ⟨_,Gax h1,rfl⟩) hn
    |succ n=>rw[hz] at h2;simp at h2
  .rw[GaM (by lia)] at h1;cases hz:j1 -ws.length with
   |succ n=>rw[hz] at h1;simp at h1
   |zero=>
    rw[hz] at h1;cases h1
    by_cases q2:j2<ws.length
    .rw[GaR q2] at h2;exact absurd (Gas.mpr ⟨_,Gax h2,rfl⟩) hn
    .rw[GaM (by lia)] at h2;cases hz2:j2 -ws.length with
     |succ n=>rw[hz2] at h2;simp at h2
     |zero=>lia
def FrW(H0:Hp)(eC:ZG->Prop)(p:ZG)(ws:List (List Key×V)):Prop:=∀b,(b=p\/V.ref b∈ws.map (·.2))->H0 b=J/\¬eC b
def vY{eD:Rws}{ws:List (List Key×V)}(h:eD.map (·.1)=ws.map (·.1)):eD.findIdx? (λp=>decide (p.1=k))=ws.findIdx? (λp=>decide (p.1=k)):=by
 have h1:(eD.map (·.1)).findIdx? (λq=>decide (q=k))=eD.findIdx? (λp=>decide (p.1=k)):=by rw[GdS];rfl
 have h2:(ws.map (·.1)).findIdx? (λq=>decide (q=k))=ws.findIdx? (λp=>decide (p.1=k)):=by rw[GdS];rfl
 rw[<-h1,<-h2,h]
theorem find_some:∀{ws:List (List Key×V)} {k:List Key} {j:Nat},ws.findIdx? (λp=>decide (p.1=k))=U j->∃v,ws[j]? =U (k,v)/\je ws k=U v
 |[],k,j,h=>by simp at h
 |p::ws,k,j,h=>by
  rw[GdQ] at h;by_cases c:p.1=k
  .rw[GaD c] at h;cases h;exact⟨p.2,by rw[<-c];rfl,n4 c⟩
  .rw[GaE c] at h;obtain⟨j',hj,rfl⟩:=Gaa.mp h;obtain⟨v,h1,h2⟩:=find_some hj;exact⟨v,by rw[GcB];exact h1,by rw[jt c];exact h2⟩
theorem find_none:∀{ws:List (List Key×V)} {k:List Key},ws.findIdx? (λp=>decide (p.1=k))=J->je ws k=J
 |[],k,h=>rfl
 |p::ws,k,h=>by
  rw[GdQ] at h;by_cases c:p.1=k
  .simp_all
  .rw[GaE c] at h;rw[jt c];exact find_none (Option.map_eq_none_iff.mp h)
def C1{eD:Rws}{ws:List (List Key×V)}{j:Nat}(h:eD.map (·.1)=ws.map (·.1))(h1:eD[j]? =U q)(h2:ws[j]? =U (k,v)):q.1=k:=by
 have e1:(eD.map (·.1))[j]? =U q.1:=by rw[Gap,h1];rfl
 simp_all
def tM(X:Cx)(i:Nat)(f:DM):TS:=λD Z H=>∃H0 eC env p ws eD q,av X.K H0 (gC eC p ws) env Z H/\dX X.K (gC eC p ws) env Z H i p ws eD/\FrW H0 eC p ws/\f env eD=U q/\
 ∀Z' H' ws',av X.K H0 (gC eC p ws') q.1 Z' H' ->dX X.K (gC eC p ws') q.1 Z' H' i p ws' q.2->FrW H0 eC p ws' ->mD H H' ->D.nx Z' H'
section
variable{st:ZP}
def LC(h1:PS X st (tM X i n1)):PSs X [st] (tM X i n1):=vk h1
def IM{rest:List ZP}{i:Nat}(h1:PS X st (tM X i n1))(h2:PSs X rest (tM X i n2)):PSs X (st::rest) (tM X i (Si n1 n2)):=by
 refine(mX h1 h2).aG ?_;rintro D Z H ⟨H0,eC,env,p,ws,eD,q,E,N,h0,e,k⟩;obtain⟨q1,hq,e⟩:=eh e;exact⟨H0,eC,env,p,ws,eD,q1,E,N,h0,hq,λZ' H' ws' E' N' f' t' => ⟨H0,eC,q1.1,p,ws',q1.2,q,E',N',f',e,λZ2 H2 yx E2 N2 f2 t2=>k Z2 H2 yx E2 N2 f2 (t'.trans t2)⟩⟩
def Pp{X:Cx}{pos:Pos}(hN:X.N.Nodup)(hj:X.N[j]? =U x)(hx:Loc X.env.scope x)(yn:i≠j)(he:PEd X e f)(hs:autoParam (swapsWith e (U (.Name x pos')) pos.line X.env=pure M) Za1._auto_1)
  (hf:autoParam (X.fn x=O\/X.env.scope.names.lookup x=U .local) Za3._auto_1):PS X (.Assign [.Name x pos'] e pos) (tM X i (setM j f)):=by
 refine(Br hN hj hx he hs hf).aG ?_;rintro D Z H ⟨H0,eC,env,p,ws,eD,q,E,N,h0,e,k⟩;obtain⟨⟨kr,d⟩,hr,e⟩:=eh e;cases kr with
 |c=>
  cases e;refine⟨H0,_,env,_,E,hr,λv H1 s1 R=> ?_⟩;exact k _ _ ws ((E.mono s1).lO R) ((N.mono s1).lO yn) h0 (.same s1)
 |tn=>cases e
 |to=>cases e
 |tb=>cases e
def bindM{α β:Type}{o:Option α}{f:α->Option β}{b:β}(h:o.bind f=U b):∃a,o=U a/\f a=U b:=eh h
def Pq{X:Cx}{pos apos eE:Pos}(hu:X.A.units+1<cLine)(hN:X.N[i]? =U x)(hv:Vis X.env.scope x)(hk:PEd X ke g)(he:PEd X e f)(hd:autoParam ((x==("__debug__":Str))=M) Za2._auto_1)(xq:autoParam ((x==("__classdict__":Str))=M) Za2._auto_1)
  (m:M2 X (.Name x px) "setdefault" ap ke (.List [] lp) cp:=by exact⟨rfl,rfl,rfl,rfl⟩)
  (xa:autoParam (starEach [e] X.env=[(M,eval e X.env)]) Za1._auto_1)
  (eX:autoParam (attributeBase (.Call (.Attribute (.Name x px) "setdefault" ap) [ke,.List [] lp] [] cp) "append" X.env (eval (.Call (.Attribute (.Name x px) "setdefault" ap) [ke,.List [] lp] [] cp) X.env)=eval (.Call (.Attribute (.Name x px) "setdefault" ap) [ke,.List [] lp] [] cp) X.env) Za1._auto_1)
  (xF:((backTo eE (starEach [e] X.env)).all (λx=> !x.1)&&(backToKw eE (keywordEach [] X.env)).all (λx=>x.1.isSome)
   &&decide (([e]:List ZJ).length+([]:List Keyword).length+(if([]:List Keyword).isEmpty then 0 else 1)<30))=O:=by rfl)
  (eW:autoParam ((apos.endLine==eE.line)=O) Za1._auto_1)(hs:autoParam (swapsWith (.Call (.Attribute (.Call (.Attribute (.Name x px) "setdefault" ap) [ke,.List [] lp] [] cp) "append" apos) [e] [] eE) J pos.line X.env=pure M) Za1._auto_1):
  PS X (.Expr (.Call (.Attribute (.Call (.Attribute (.Name x px) "setdefault" ap) [ke,.List [] lp] [] cp) "append" apos) [e] [] eE) pos) (tM X i (Sj g f)):=by
 refine(qb (CQ GcA PySem.F.slot_list_append PySem.F.type_list_append oh (IL hu (kg hN hv hd xq) hk (GY o9) m) (cL he gF xa) eX xF eW xa rfl) hs).aG ?_;rintro D Z H ⟨H0,eC,env,p,ws,eD,q,E,N,h0,e,kk⟩;obtain⟨⟨ky,dy⟩,hy,e⟩:=bindM e;obtain⟨r,hr,e⟩:=bindM e;cases dy with
 |tup ks=>
  dsimp only at e;split at e
  .rename_i z;rw[Gah] at z;obtain⟨key,xD,e⟩:=bindM e;obtain⟨z0,yk,e⟩:=Gaa.mp e;cases e;have bp:gC eC p ws p:= .inr (.inl rfl);refine⟨_,N.at_,p,rfl,⟨ws,.inl N.top⟩,H0,_,env,_,E,hy,λvy H1 s1 Ry=> ?_⟩;have iy:Inn X.K (Cln (gC eC p ws) env Z) H1 (.tup ks) vy:=Ry.inn;cases iy with
   | @tup bk kv _ hb rb=>
    have ekv:=iY rb xD;subst ekv;have E1:=E.mono s1;have N1:=N.mono s1;refine⟨Gba _,λa1 yZ => ?_⟩;have sA:c9 H1 (upd H1 a1 (.lst [])):=aW yZ;have YX:upd H1 a1 (.lst []) bk=U (.tup (key.map kV)):=sA _ _ hb;have N2:=N1.mono sA;have E2:=E1.mono sA;have eL:eD.length=ws.length:=by have:=congrArg List.length N.keys;simpa using this
    have szk:eD.length<af/\((∃jj ds k0,eD.findIdx? (λp=>decide (p.1=key))=U jj/\eD[jj]? =U (k0,.lst ds)/\ds.length<af/\z0 =eD.set jj (key,.lst (ds++[r.d])))\/(eD.findIdx? (λp=>decide (p.1=key))=J/\z0 =eD++[(key,.lst [r.d])])):=by
     unfold Io at yk;split at yk
     .rename_i hz;refine⟨hz, ?_⟩;split at yk
      .rename_i jj yh;split at yk
       .rename_i k0 ds xu;split at yk
        .rename_i hl;cases yk;exact .inl ⟨jj,ds,k0,yh,xu,hl,rfl⟩
        .cases yk
       .cases yk
      .rename_i yh;cases yk;exact .inr ⟨yh,rfl⟩
     .cases yk
    have fin:∀(H2:Hp) (yx:List (List Key×V)) (yF:Rws) (jj:Nat) (a:ZG) (ds:List DL.D),av X.K H0 (gC eC p yx) env Z H2->dX X.K (gC eC p yx) env Z H2 i p yx yF->FrW H0 eC p yx->mD H H2->yx[jj]? =U (key,.ref a)->yF[jj]? =U (key,.lst ds)->ds.length<af->z0 =yF.set jj (key,.lst (ds++[r.d]))->
      tyV X.K "list" (.ref a) H2/\tA X (aa f aX) Z H2 λvs H3=>CT (.ref a) vs H3 λ_ H4=>D.nx Z H4:=by
     intro H2 yx yF jj a ds E2 N2 F2 T2 hw hkv hl ek;obtain⟨a',xv,vs,e1,e2,e3,XE,rp⟩:=N2.row jj _ _ _ hw hkv;cases e1;cases e2
     have ba:gC eC p yx a:= .inr (.inr (Gas.mpr ⟨_,Gax hw,rfl⟩));refine⟨.inl ⟨rfl,vs,.inl (.inl XE)⟩,H0,_,env,[r],E2,by unfold aa aX;rw[hr];rfl,λus H3 s3 Rs=> ?_⟩;cases Rs with
     | @cons _ v _ _ R1 tl=>
      cases tl;have yG:=s3 _ _ XE;have N3:=N2.mono s3;have E3:=E2.mono s3;refine⟨_,vs,v,rfl,rfl,yG,by rw[<-rp.1,<-eU];exact hl, ?_⟩;have rep1:Rep X.K (λ_=>False) H3 r.d v:=R1.inn.imm z.1;have rp3:aN X.K (λ_=>False) H3 (ds++[r.d]) (vs++[v]):=(rp.gen (.ZC s3) λ_ f _=>f).append (.cons rep1 .nil);have N4:=N3.app ba hw hkv yG rp3;rw[<-ek] at N4;exact kk Z _ yx (E3.IF ba (F2 a (.inr (Gas.mpr ⟨_,Gax hw,rfl⟩))).1 yG (λz=>z) z.2) N4 F2 ((T2.trans (.same s3)).trans (.upd yG λz=>z))
    refine⟨ws,key,bk,N2.top,rfl,YX,by rw[<-eL,<-eU];exact szk.1,λv hv=> ?_,λhv=> ?_⟩
    .rcases szk.2 with⟨jj,ds,k0,yh,xu,hl,ek⟩| ⟨yh,_⟩
     .rw[vY N.keys] at yh;obtain⟨v',hw,zK⟩:=find_some yh;rw[hv] at zK;cases zK
      have hk0:k0=key:=C1 N.keys xu hw;subst hk0;obtain⟨a',_,_,e1,_⟩:=N.row jj _ _ _ hw xu;subst e1;exact fin _ ws eD jj a' ds E2 N2 h0 ((mD.same s1).trans (.same sA)) hw xu hl ek
     .rw[vY N.keys] at yh;rw[find_none yh] at hv;cases hv
    .rcases szk.2 with⟨jj,ds,k0,yh,xu,hl,ek⟩| ⟨yh,ek⟩
     .rw[vY N.keys] at yh;obtain⟨v',hw,zK⟩:=find_some yh;rw[hv] at zK;cases zK
     .have hn:V.ref a1∉ws.map (·.2):=λhm=>by
       obtain⟨⟨k1,v1⟩,YN,zj⟩:=Gas.mp hm;have hm2' :v1=V.ref a1:=zj;subst hm2';obtain⟨j1,yP⟩:=List.mem_iff_getElem?.mp YN;have hj1' :j1<eD.length:=by rw[eL];exact(Gak.mp yP).1
       have hk1:eD[j1]? =U eD[j1]:=Gac hj1';have xR:eD[j1].1=k1:=C1 N.keys hk1 yP;obtain⟨a',_,us,e1,_,_,e4,_⟩:=N1.row j1 k1 _ eD[j1].2 yP (by rw[hk1,<-xR]);cases e1;rw[yZ] at e4;cases e4
      have yb:a1≠p:=λq=>by subst q;rw[N1.top] at yZ;cases yZ
      rw[Hh _ hv];have eB:(λb=>gC eC p ws b\/b=a1)=gC eC p (ws++[(key,V.ref a1)]):=by
       funext b
       apply propext;unfold gC;rw[GaC,Gau];simp only[Gay,Gdf,GaU,V.ref.injEq];constructor
       .rintro((h|h|h)|h)
        .exact .inl h
        .exact .inr (.inl h)
        .exact .inr (.inr (.inl h))
        .exact .inr (.inr (.inr h))
       .rintro(h|h|h|h)
        .exact .inl (.inl h)
        .exact .inl (.inr (.inl h))
        .exact .inl (.inr (.inr h))
        .exact .inr h
      have E3:av X.K H0 (gC eC p (ws++[(key,V.ref a1)])) env Z (upd H1 a1 (.lst [])):=by
       rw[<-eB];exact E1.Dr (New:=λb=>b=a1) sA (λb hb=>by rw[hb];exact yZ) λb hb=>by rw[hb,aD];simp
      have N3:dX X.K (gC eC p (ws++[(key,V.ref a1)])) env Z (upd H1 a1 (.lst [])) i p ws eD:=by
       exact N1.Po.mono sA
      have F3:FrW H0 eC p (ws++[(key,V.ref a1)]):=λb hb=>by
       rw[GaC,Gau] at hb;simp only[Gay,Gdf,GaU,V.ref.injEq] at hb;rcases hb with h|h|h
       .exact h0 b (.inl h)
       .exact h0 b (.inr h)
       .subst h;exact⟨E1.same.free yZ,λq=>E1.bad b (.inl q) yZ⟩
      have bp' :gC eC p (ws++[(key,V.ref a1)]) p:= .inr (.inl rfl);have ba' :gC eC p (ws++[(key,V.ref a1)]) a1:= .inr (.inr (by rw[GaC,Gau];exact .inr Gaj));have N4:=N3.make (k:=key) bp' ba' hn yb aD;have E4:=E3.IF (o' := .dT (ws++[(key,V.ref a1)])) bp' (F3 p (.inl rfl)).1 N3.top (λz=>z) z.2;have lw:(ws++[(key,V.ref a1)])[ws.length]? =U (key,V.ref a1):=by rw[GaM (Gan _),Nat.sub_self];rfl
      have lk:(eD++[(key,DL.D.lst [])])[ws.length]? =U (key,DL.D.lst []):=by rw[<-eL,GaM (Gan _),Nat.sub_self];rfl
      refine fin _ _ (eD++[(key,DL.D.lst [])]) ws.length a1 [] E4 N4 F3 (((mD.same s1).trans (.same sA)).trans (.upd N3.top λz=>z)) lw lk (by rw[eU,Gbt];exact(by decide:(0:Nat)<16777216)) ?_;rw[ek,<-eL,List.set_append_right _ _ (Gan _),Nat.sub_self]
      rfl
  .cases e
 |_=>cases e
def Pr{X:Cx}(hp:PassesOwn (model X.prog X.w) X.A X.env X.xe)(hc:X.calm=O)(he:PEd X e f)(hN:X.N.Nodup)(hj:X.N[j]? =U x)(hx:Loc X.env.scope x)(yn:i≠j)(hb:PSs X body (tM X i n1))
  (hs:∀x,foldedSetIterable e X.env x=pure x:=by intro _;rfl)
  (hf:autoParam (X.fn x=O\/X.env.scope.names.lookup x=U .local) Za3._auto_1):
  PS X (.For (.Name x px) e body [] pos) (tM X i (Nb j f n1)):=by
 refine(GQ hp hc (HG he) (CO hN hj hx hf) hb hs).aG ?_;rintro D Z H ⟨H0,eC,env,p,ws,eD,q,E,N,h0,e,k⟩;obtain⟨⟨kr,d⟩,hr,e⟩:=bindM e;split at e
 .rename_i xs hd;have xc :d= .tup xs:=hd;subst xc;split at e
  .rename_i him;refine⟨H0,_,env,_,E,hr,λv H1 s1 R=> ?_⟩;have i1:Inn X.K (Cln (gC eC p ws) env Z) H1 (.tup xs) v:=R.inn;cases i1 with
   | @tup la lv _ zl rr=>
    have hll:xs.length=lv.length:=rr.1;refine⟨_,rfl,.inr ⟨⟨_,SqT.of zl⟩, ?_⟩⟩;refine⟨λc n Z' H' =>n=xs.length -c/\c<=xs.length/\mD H1 H' /\∃eK ye za,av X.K H0 (gC eC p ye) eK Z' H' /\dX X.K (gC eC p ye) eK Z' H' i p ye za/\FrW H0 eC p ye/\qW j n1 (xs.drop c) eK za=U q,
     ⟨xs.length,by simp,Gba _,λ_ _ e _=>e,env,ws,eD,E.mono s1,N.mono s1,h0,by simpa using e⟩, ?_⟩
    rintro c n Z' H' ⟨rfl,hle,tS,eK,ye,za,Ei,Ni,Fi,ei⟩;have hla' :H' la=U (.tup lv):=tS _ _ zl trivial;by_cases eY:c<xs.length
    .have hd:xs.drop c=xs[c]::xs.drop (c+1):=GbN eY;rw[hd] at ei;obtain⟨q1,hq,ei⟩:=bindM ei;have zk:lv[c]? =U (lv[c]'(by lia)):=Gac _;refine .inr ⟨⟨lv,_,SqT.of hla',zk⟩,λZ2 H2=>mD H1 H2/\∃eK ye za,av X.K H0 (gC eC p ye) eK Z2 H2/\dX X.K (gC eC p ye) eK Z2 H2 i p ye za/\FrW H0 eC p ye/\qW j n1 (xs.drop (c+1)) eK za=U q,λZ2 H2 z=> ⟨xs.length -(c+1),by lia,rfl,eY,z⟩,λy H2 ⟨e2,e3⟩=> ?_⟩;subst e2;have ey:=e3 _ (SqT.of hla');rw[zk] at ey;cases ey;have rep0:=rr.2 c _ _ (Gac eY) zk;have rep1:Rep X.K (λ_=>False) H1 xs[c] lv[c]:=rep0.imm (nj him c _ (Gac eY));have rep2:Rep X.K (Cln (gC eC p ye) eK Z') H2 xs[c] lv[c]:=rep1.gen (λb o hb w=>w.elim (λz=>z.elim) λw=>tS b o hb w) λ_ z _=>z.elim;refine⟨H0,eC,eK.set j (U (.sh xs[c])),p,ye,za,q1,Ei.lO rep2,Ni.lO yn,Fi,hq,λZ3 H3 Yd E3 N3 F3 t3=> ?_⟩;exact⟨tS.trans t3,q1.1,Yd,q1.2,E3,N3,F3,ei⟩
    .have yo :c=xs.length:=by lia
     subst yo;rw[List.drop_length] at ei;cases ei;exact .inl ⟨⟨lv,SqT.of hla',by lia⟩,k Z' H' ye Ei Ni Fi ((mD.same s1).trans tS)⟩
  .cases e
 .cases e
def FK{X:Cx}{pos:Pos}{i:Nat}{x:Str}{pos' dp px rp:Pos}(hN:X.N.Nodup)(hi:X.N[i]? =U x)(hx:Loc X.env.scope x)(hv:Vis X.env.scope x)(h1:PS X st (tM X i n1))(hd:autoParam ((x==("__debug__":Str))=M) Za2._auto_1)(xq:autoParam ((x==("__classdict__":Str))=M) Za2._auto_1)
  (hs:autoParam (swapsWith (.Dict [] [] dp) (U (.Name x pos')) pos.line X.env=pure M) Za1._auto_1)
  (hf:autoParam (X.fn x=O\/X.env.scope.names.lookup x=U .local) Za3._auto_1):
  lD X [.Assign [.Name x pos'] (.Dict [] [] dp) pos,st,.Return (U (.Name x px)) rp] (Ip i n1):=by
 intro e8 z Z H D I hw;have hl:=I.len;refine(mX (Br hN hi hx wR hs hf) (mX h1 (vk (GL (kg hi hv hd xq))))) e8 z Z H D I ?_;obtain⟨H0,eC,env,o,E,e,k⟩:=hw;obtain⟨q,hq,e⟩:=bindM e;cases e;have hie:=BG E hl hi;have hie' :i<Z.length:=by rw[<-E.len];exact hie
 intro p np;have eB:(λb=>eC b\/b=p)=gC eC p []:=by
  unfold gC;simp
 have E1:av X.K H0 (gC eC p []) (env.set i J) (Z.set i (U (.ref p))) (upd H p (.dT [])):=by
  rw[<-eB];exact(E.hide i (.ref p)).Dr (aW np) (λb hb=>by rw[hb];exact np) λb hb=>by rw[hb,aD];simp
 have N1:dX X.K (gC eC p []) (env.set i J) (Z.set i (U (.ref p))) (upd H p (.dT [])) i p [] []:=
  ⟨cM hie',cM hie,aD,rfl,λj k v d h=>by simp at h,λj j' k k' a h=>by simp at h⟩
 have F1:FrW H0 eC p []:=λb hb=>by
  rcases hb with rfl|hb
  .exact⟨E.same.free np,λq=>E.bad b q np⟩
  .simp at hb
 refine⟨H0,eC,env.set i J,p,[],[],q,E1,N1,F1,hq,λZ' H' ws' E' N' F' _=> ?_⟩;refine⟨.ref p,N'.at_,k (.ref p) H' E'.same ⟨λ_=> ⟨p,rfl,(F' p (.inl rfl)).1,⟨_,N'.top,trivial⟩⟩,.dT N'.top ⟨N'.keys,λj pd wd e1 e2=> ?_⟩⟩⟩;obtain⟨kd,dd⟩:=pd;obtain⟨kw,vw⟩:=wd;have ek:=C1 N'.keys e1 e2;subst ek;obtain⟨a,ds,vs,r1,r2,r3,r4,r5⟩:=N'.row j kd vw dd e2 e1;subst r1 r2;have fa:=F' a (.inr (Gas.mpr ⟨_,Gax e2,rfl⟩));exact .lst ⟨fa.1,λz=>r3 (by cases z;rfl)⟩ (.inl r4) r5.1 λj' d v h1 h2=>(r5.2 j' d v h1 h2).imp λ_ z=>z.elim
end
def LD{N P:List Str}{sc:ZO}(a:autoParam (sc.kind= .function) Za1._auto_1)(b:autoParam (sc.isCoroutine=M) Za1._auto_1)(c:autoParam (sc.isGenerator=M) Za1._auto_1)(d:N.Nodup:=by decide+kernel)(e:autoParam (N.take P.length=P) Za1._auto_1)(f:∀x∈P,sc.names.lookup x=U .local\/sc.names.lookup x=U .cell:=by decide+kernel)(g:∀y∈sc.names,y.2≠ .free:=by decide+kernel):gL N P sc:=⟨a,b,c,d,e,f,g⟩
def fZ:D->D->Option RV
 | .tup [],.tup y=>U ⟨.c,.tup y⟩
 |x,y=>aF x y
section
variable{a b:ZJ}
def IP{z:ZI}{b:ZG}{ws:List ZH}(ht:IsTup z.heap t #[])(hb:IsTup z.heap b ws.toArray)(h:Q (.ref b) z):wpAny (model prog w) A (binaryOp .Add (.ref t) (.ref b)) Q E z:=by
 obtain⟨⟨cls,dd,data,sl⟩,ho,hc,n,hd⟩:=id ht;obtain⟨⟨Wj,yU,data2,yL⟩,xV,yS,n2,hd2⟩:=id hb;subst hc hd yS hd2;exact concat_meets ⟨_,ho,rfl⟩ ⟨_,xV,rfl⟩ noFill_tuple_add seq_tuple_add Gdw Gdq (Gde _ _)
  (tuple_addW0 t b #[] ws.toArray n n2 dd yU sl yL (by simp)) ⟨ho,xV,h⟩
def Nd(K:ai):R2:=λx y H Q=>∃a b ys,x= .ref a/\y= .ref b/\SqT K H a []/\SqT K H b ys/\Q (.ref b) H
def LF{X:Cx}:OpR X (binaryOp .Add) (Nd X.K):=by
 intro e8 s Z H x y v u Q I rx ry h;obtain⟨a,b,ys,rfl,rfl,ha,hb,q⟩:=h;cases rx;cases ry;obtain⟨its,r1,p1,_⟩:=I.tuple ha;obtain⟨eO,r2,p2,_⟩:=I.tuple hb;have e:=r1.cz.mpr rfl;subst e;exact IP p1 p2 ⟨.ref b,H,I,rfl,q⟩
def IQ{X:Cx}:OpD X fZ (λx y H Q=>Nd X.K x y H Q\/Hw X.K x y H Q):=by
 intro F H dx dy x y rv Q ix iy e k;unfold fZ at e;split at e
 .cases e;cases ix with
  |tup hx rx=>
   cases iy with
   |tup hy ry=>
    have:=rx.ne.mpr rfl;subst this;exact .inl ⟨_,_,_,rfl,rfl,SqT.of hx,SqT.of hy,k _ H bF (.tup hy ry.1 ry.2)⟩
 .exact .inr (D2 F H dx dy x y rv Q ix iy e k)
def LG(ha:PEd X a f)(hb:PEd X b g):PEd X (.BinOp a .Add b pos) (ZF fZ f g):=qL (LF.or D1) IQ ha hb
end
inductive Im (h:ZK):Nat->D->ZH->Prop where
 |int (n:Nat) (i:Int) (t:Tok):Im h n (.int i) (.int i t)
 |str (n:Nat) (x:Str) (t:Tok):Im h n (.str x) (.str x t)
 |tup {n m:Nat} {a:ZG} {o:ZM} {items:Array ZH} {ds:List D} (ho:h.get? a=U o) (hc:o.cls= .type "tuple") (hd:o.data= .seq items m) (hl:ds.length=items.toList.length) (hi:∀(i:Nat) d v,ds[i]? =U d->items.toList[i]? =U v->Im h n d v):Im h (n+1) (.tup ds) (.ref a)
noncomputable def bz(w:World):Nat->D->Int
 |_,.int i=>hashInt i
 |_,.str x=>hashStr w x
 |n+1,.tup ds=>reduceHash (Builtin.Tuple.tupleHashOf (ds.map (bz w n)))
 |_,_=>0
section
variable{prog:ZQ}{w:World}{A:ZL}{E:VSP}{s:ZI}
def vZ(prog:ZQ)(w:World)(A:ZL)(s:ZI)(v:ZH)(h:Int):Prop:=∀(tk:Nat) (R:Int->ZI->Prop) (E:VSP),(∀yj,tk<=yj ->R h {s with toks:=yj })->wpAny (model prog w) A (pyHash v) R E {s with toks:=tk}
theorem rG:∀{vs:List ZH} {ds:List D} (acc:Array Int) (tk:Nat) {Q:Array Int->ZI->Prop},ds.length=vs.length->(∀(i:Nat) d v,ds[i]? =U d->vs[i]? =U v->vZ prog w A s v (bz w n d))->(∀yj,tk<=yj ->Q (acc++(ds.map (bz w n)).toArray) {s with toks:=yj })->
  wpAny (model prog w) A (forIn vs acc λx hs=>pyHash x>>=λh=>pure (ForInStep.yield (hs.push h))) Q E {s with toks:=tk}
 |[],[],acc,tk,Q,_,_,h=>Gad (by simpa using h tk (Gan _))
 |v::vs,d::ds,acc,tk,Q,hl,hi,h=>by
  rw[GdG];refine Gab (Gab (hi 0 d v rfl rfl tk _ _ λXu le=>Gad ?_));refine rG (acc.push (bz w n d)) Xu (by simpa using hl) (λi d v e1 e2=>hi (i+1) d v e1 e2) λYe Wo=> ?_;have:=h Ye (Gbo le Wo)
  simpa using this
def C2{o:ZM}{items:Array ZH}{ds:List D}(hu:A.units<cLine)(ho:s.heap.get? a=U o)(hc:o.cls= .type "tuple")(hd:o.data= .seq items m)(hl:ds.length=items.toList.length)
  (hi:∀(i:Nat) d v,ds[i]? =U d->items.toList[i]? =U v->vZ prog w A.in1 s v (bz w n d)):vZ prog w A s (.ref a) (bz w (n+1) (.tup ds)):=by
 intro tk Q E h;have hT:({s with toks:=tk}:ZI).TypeIs (.ref a) "tuple":=⟨o,ho,hc⟩
 have nn:(U (Value.builtin "tuple.__hash__")==U Value.none)=M:=beq_builtin_none _;unfold pyHash
 wp_walk using wpAny_cRoomFor_or (.inr hu),GdJ hT Gdv.lookup,wpAny_callSpecialIfBoundUnlessNone?_slot hT Gdv,Gbc Gdv hT F.entry_tuple_hash (ha:=F.args_tuple_hash_1 _),wpAny_tupleItemsOf ho hd
 rw[hd];refine Gad (Gad (Gab ?_));rw[<-Array.forIn_toList];refine rG #[] tk hl hi λXu le=>wpAny_ret_mkInt ?_;rw[show(#[]++(ds.map (bz w n)).toArray:Array Int).toList=ds.map (bz w n) by simp];have q:∀t,tk<=t->Q (reduceHash (Builtin.Tuple.tupleHashOf (ds.map (bz w n)))) {s with toks:=t}:=h;unfold reduceHash at q;have Wo:=Nat.le_succ_of_le le;refine GcE (λc=>Gad ?_) (λc=>Gab (wpAny_rule (Gad ?_)))
 .rw[Gao c] at q
  first|exact q _ Wo|exact q _ le
 .rw[Gai c] at q
  first|exact q _ Wo|exact q _ le
def LH(p:Im s.heap n d v):∀{A},A.units+n<cLine->vZ prog w A s v (bz w n d):=by
 induction p with
 |int n i t=>
  intro A hu tk R E h;have e:bz w n (.int i)=(cK prog w).hash (.inl i):=by cases n<;>rfl
  rw[e] at h;exact(cK prog w).pyHash (oS prog w i t) (h _ (by first|exact Gan _|exact GbO _))
 |str n x t=>
  intro A hu tk R E h;have e:bz w n (.str x)=(cK prog w).hash (.inr x):=by cases n<;>rfl
  rw[e] at h;exact(cK prog w).pyHash (oT prog w x t) (h _ (by first|exact Gan _|exact GbO _))
 | @tup n _ _ _ _ _ ho hc hd hl hi ih=>exactλhu=>C2 (by lia) ho hc hd hl λi d v e1 e2=>ih i d v e1 e2 (by rename_i A;show A.units+1+n<cLine;lia)
end
section
variable{items:Array ZH}
def oB(step:∀v∈items.toList,∀P:ForInStep β->ZI->Prop,P (.yield b0) s->(∀b,Q b s->P (.done b) s)->wpAny (model prog w) A (body v b0) P E s)(fin:Q b0 s):wpAny (model prog w) A (forIn items b0 body) Q E s:=by
 rw[<-Array.forIn_toList]
 suffices∀l:List ZH,(∀v∈l,v∈items.toList)->wpAny (model prog w) A (forIn l b0 body) Q E s from this _ λ_ q=>q
 intro l;induction l with
 |nil=>exactλ_=>Gad fin
 |cons v l ih=>
  intro all;rw[GdG];exact Gab (step v (all v Gaj) _ (ih λx m=>all x (Gaf _ m)) λb q=>Gad q)
def Im.item{s:ZI}{ds:List D}(hl:ds.length=items.toList.length)(hi:∀(i:Nat) d v,ds[i]? =U d->items.toList[i]? =U v->Im s.heap n d v)(m:v∈items.toList):∃d,Im s.heap n d v:=by
 obtain⟨i,h⟩:=List.mem_iff_getElem?.mp m;have lt:i<ds.length:=by rw[hl];exact(Gak.mp h).1
 exact⟨_,hi i ds[i] v (Gac lt) h⟩
theorem rH{s:ZI}:∀n {k d v E Q},Im s.heap n d v->n<=k->Q O s->wpAny (model prog w) A (eqIsQuiet k v) Q E s
 |_,_,_,_,_,_,.int ..,_,h=>by rw[eqIsQuiet_byValue _ rfl];exact Gad h
 |_,_,_,_,_,_,.str ..,_,h=>by rw[eqIsQuiet_byValue _ rfl];exact Gad h
 |n+1,k+1,_,.ref a,_,_,.tup ho hc hd hl hi,hk,h=>by
  have hT:s.TypeIs (.ref a) "tuple":=⟨_,ho,hc⟩
  unfold eqIsQuiet;apply Gab;apply GdJ hT F.slot_tuple_eq.lookup;refine Gab (wpAny_isInstance hT isSubtype_tuple_tuple (GbU rfl (Gab (Gcq ho hd (Gab (oB (λv m P yes _=> ?_) ?_))))))
  .obtain⟨d,im⟩:=Im.item hl hi m;exact Gab (rH n im (by lia) (GbU rfl (Gad yes)))
  .exact Gad h
theorem rJ{s:ZI}:∀n {k d v E Q},Im s.heap n d v->n<=k->Q M s->wpAny (model prog w) A (ofAClassStatement k v) Q E s
 |_,_,_,_,_,_,.int ..,_,h=>by unfold ofAClassStatement;exact Gad h
 |_,_,_,_,_,_,.str ..,_,h=>by unfold ofAClassStatement;exact Gad h
 |n+1,k+1,_,.ref a,_,_,.tup ho hc hd hl hi,hk,h=>by
  have hT:s.TypeIs (.ref a) "tuple":=⟨_,ho,hc⟩
  unfold ofAClassStatement;refine Gab (GdE hT (wpAny_ite_true rfl (Gab (Gad (GbU rfl (Gab (Gcq ho hd (Gab (oB (λv m P yes _=> ?_) ?_)))))))))
  .obtain⟨d,im⟩:=Im.item hl hi m;exact Gab (rJ n im (by lia) (GbU rfl (Gad yes)))
  .exact Gad h
theorem IS{s:ZI}:∀n {k d v E Q},Im s.heap n d v->n<=k->(∀b,Q b s)->wpAny (model prog w) A (hashByValue k v) Q E s
 |_,k,_,_,_,_,.int ..,_,h=>by cases k<;>exact Gad (h _)
 |_,k,_,_,_,_,.str ..,_,h=>by cases k<;>exact Gad (h _)
 |n+1,k+1,_,.ref a,_,_,.tup ho hc hd hl hi,hk,h=>by
  have hT:s.TypeIs (.ref a) "tuple":=⟨_,ho,hc⟩
  apply Gab;apply GdJ hT Gdv.lookup;refine Gab (Gcq ho hd (Gab (oB (λv m P yes no=> ?_) ?_)))
  .obtain⟨d,im⟩:=Im.item hl hi m;refine Gab (IS n im (by lia) λb=> ?_);cases b
   .exact wpAny_ite_true rfl (Gad (no _ (Gad (h _))))
   .exact GbU rfl (Gad yes)
  .exact Gad (h _)
end
section
variable{s:ZI}
def IT(n:Nat):∀{d v},Im s.heap n d v->aJ n d=O:=by
 induction n with
 |zero=>
  intro d v im;cases im<;>rfl
 |succ n ih=>
  intro d v im;cases im with
  |int _ i t=>rfl
  |str _ x t=>rfl
  | @tup _ m a o items ds ho hc hd hl hi=>
   show ds.all (aJ n)=O;rw[Gar];intro d hdm;obtain⟨i,YR,rfl⟩:=GbB hdm;exact ih (hi i ds[i] items.toList[i] (Gac YR) (Gac (by lia)))
def rL(n:Nat):∀{d e v},Im s.heap n d v->Im s.heap n e v->d=e:=by
 induction n with
 |zero=>
  intro d e v i1 i2;cases i1<;>cases i2<;>rfl
 |succ n ih=>
  intro d e v i1 i2;cases i1 with
  |int _ i t=>cases i2;rfl
  |str _ x t=>cases i2;rfl
  | @tup _ m a o items ds ho hc hd hl hi=>
   cases i2 with
   | @tup _ m' _ o' items' xv xn yo xc yA xb =>
    rw[ho] at xn;cases xn;rw[hd] at xc;cases xc;congr 1;apply GcS (by lia);intro i h1 h2;exact ih (hi i _ items.toList[i] (Gac h1) (Gac (by lia))) (xb i _ _ (Gac h2) (Gac (by lia)))
def Sv(n:Nat):∀{dx dy v u A},Im s.heap n dx v->Im s.heap n dy u->A.units+n<cLine->SeqAt.EqAt A s v u (eqD dx dy):=by
 have flat:∀{x y:V} {v u:ZH} {A:ZL} {b:Bool},Zt x v->Zt y u->u4 x=O->u4 y=O->b=eqV x y->SeqAt.EqAt A s v u b:=by
  intro x y v u A b rv ru fx fy e;rw[e];exact He rv ru fx fy
 induction n with
 |zero=>
  intro dx dy v u A i1 i2 hu;cases i1 with
  |int _ i t=>
   cases i2 with
   |int _ j t' =>exact flat (x:= .int i) (y:= .int j) ⟨t,rfl⟩ ⟨t',rfl⟩ rfl rfl rfl
   |str _ y t' =>exact flat (x:= .int i) (y:= .str y) ⟨t,rfl⟩ ⟨t',rfl⟩ rfl rfl rfl
  |str _ x t=>
   cases i2 with
   |int _ j t' =>exact flat (x:= .str x) (y:= .int j) ⟨t,rfl⟩ ⟨t',rfl⟩ rfl rfl rfl
   |str _ y t' =>exact flat (x:= .str x) (y:= .str y) ⟨t,rfl⟩ ⟨t',rfl⟩ rfl rfl rfl
 |succ n ih=>
  intro dx dy v u A i1 i2 hu;have hu0:A.units<cLine:=by lia
  cases i1 with
  |int _ i t=>
   cases i2 with
   |int _ j t' =>exact flat (x:= .int i) (y:= .int j) ⟨t,rfl⟩ ⟨t',rfl⟩ rfl rfl rfl
   |str _ y t' =>exact flat (x:= .int i) (y:= .str y) ⟨t,rfl⟩ ⟨t',rfl⟩ rfl rfl rfl
   |tup ho hc hd hl hi=>exact SeqAt.EqAt.int_tuple i t ⟨_,ho,hc,_,hd⟩ hu0
  |str _ x t=>
   cases i2 with
   |int _ j t' =>exact flat (x:= .str x) (y:= .int j) ⟨t,rfl⟩ ⟨t',rfl⟩ rfl rfl rfl
   |str _ y t' =>exact flat (x:= .str x) (y:= .str y) ⟨t,rfl⟩ ⟨t',rfl⟩ rfl rfl rfl
   |tup ho hc hd hl hi=>exact SeqAt.EqAt.str_tuple x t ⟨_,ho,hc,_,hd⟩ hu0
  | @tup _ m a o items ds ho hc hd hl hi=>
   have ht:IsTup s.heap a items:=⟨_,ho,hc,_,hd⟩
   have i1' :Im s.heap (n+1) (.tup ds) (.ref a):= .tup ho hc hd hl hi;cases i2 with
   |int _ j t' =>exact SeqAt.EqAt.tuple_int j t' ht hu0
   |str _ y t' =>exact SeqAt.EqAt.tuple_str y t' ht hu0
   | @tup _ m' b o' items' xv xn yo xc yA xb =>
    have i2' :Im s.heap (n+1) (.tup xv) (.ref b):= .tup xn yo xc yA xb;by_cases hab:a=b
    .subst hab;have:=rL (n+1) i1' i2';rw[<-this,qQ _ _ (IT _ i1')];exact SeqAt.EqAt.same _
    .have hU:IsTup s.heap b items' :=⟨_,xn,yo,_,xc⟩
     have xa:items.size=ds.length:=by rw[hl];simp
     have xd:items'.size=xv.length:=by rw[yA];simp
     have key:=SeqAt.RcAt.tuples (e:=λj=>eqD (ds.getD j .non) (xv.getD j .non)) ht hU hu0 λj h1 h2=>by
      have e1:ds.getD j .non=ds[j]'(by lia):=by rw[GcV,Gac (by lia)];rfl
      have e2:xv.getD j .non=xv[j]'(by lia):=by rw[GcV,Gac (by lia)];rfl
      rw[e1,e2];exact ih (hi j _ _ (Gac (by lia)) (by rw[Gbp];exact GaG h1)) (xb j _ _ (Gac (by lia)) (by rw[Gbp];exact GaG h2)) (in1_units hu)
     refine SeqAt.EqAt.of_refs hab ?_;show SeqAt.RcAt A s (.ref a) (.ref b) (jw ds xv);rw[xa,xd] at key;by_cases hll:ds.length=xv.length
     .rw[<-hll,Nat.min_self,fA hll] at key
      simpa using key
     .rw[ij hll];have:(ds.length==xv.length)=M:=by simpa using hll
      rw[this,Gdo] at key;exact key
end
noncomputable def gI(mask:Nat):Nat->Nat×Nat->Nat×Nat
 |0,x=>x
 |n+1,x=>gI mask n (SetTable.leap mask x.1 x.2)
theorem uE(mask:Nat):∀m n x,gI mask (m+n) x=gI mask n (gI mask m x)
 |0,n,x=>by rw[GaP];rfl
 |m+1,n,x=>by
  rw[Nat.succ_add];exact uE mask m n (SetTable.leap mask x.1 x.2)
noncomputable def lcg(mask:Nat):Nat->Nat->Nat
 |0,i=>i
 |n+1,i=>lcg mask n ((i*5+1)%(mask+1))
theorem AA(mask:Nat):∀n i,gI mask n (i,0)=(lcg mask n i,0)
 |0,i=>rfl
 |n+1,i=>by
  show gI mask n (SetTable.leap mask i 0)=_;have:SetTable.leap mask i 0=((i*5+1)%(mask+1),0):=by simp[SetTable.leap]
  rw[this,AA mask n]
  rfl
theorem nC(mask:Nat):∀n x,(gI mask n x).2=x.2/32^n
 |0,x=>by simp[gI]
 |n+1,x=>by
  show(gI mask n (SetTable.leap mask x.1 x.2)).2=_;rw[nC mask n];show x.2/32/32^n=_;rw[Nat.div_div_eq_div_mul,Nat.pow_succ,Nat.mul_comm]
theorem Du(mask:Nat):∀n x,x.1<=mask->(gI mask n x).1<=mask
 |0,x,h=>h
 |n+1,x,h=>Du mask n _ (Gcm (GcT _ (Gct _)))
noncomputable def uF(mask:Nat):Nat->Nat->List Nat
 |0,_=>[]
 |n+1,i=>i::uF mask n ((i*5+1)%(mask+1))
theorem AB(mask:Nat):∀n i m,m<n->(uF mask n i)[m]? =U (lcg mask m i)
 |0,i,m,h=>by lia
 |n+1,i,0,h=>rfl
 |n+1,i,m+1,h=>by
  exact AB mask n _ m (by lia)
theorem AD(mask:Nat):∀n i,(uF mask n i).length=n
 |0,i=>rfl
 |n+1,i=>by show(uF mask n _).length+1=n+1;rw[AD mask n]
theorem qh(mask:Nat):∀m n i,lcg mask (m+n) i=lcg mask n (lcg mask m i)
 |0,n,i=>by rw[GaP];rfl
 |m+1,n,i=>by
  rw[Nat.succ_add];exact qh mask m n _
def cS(mask:Nat):Bool:=((List.range (mask+1)).all λe=>(uF mask (mask+1) 0).contains e)&&lcg mask (mask+1) 0==0
def Sw:cS 31=O:=by decide+kernel
def Pt:cS 127=O:=by decide+kernel
def IU(h:cS mask=O)(he:e<=mask):∃m,m<=mask/\lcg mask m 0=e:=by
 unfold cS at h;rw[Gah] at h;have h2:=Gar.mp h.1 e (GaS.mpr (by lia));have h3:e∈uF mask (mask+1) 0:=by simpa using h2
 obtain⟨m,hm,e1⟩:=GbB h3;rw[AD] at hm;refine⟨m,by lia, ?_⟩;have:=AB mask (mask+1) 0 m hm;simp_all
def Pu(h:cS mask=O)(hi:i<=mask)(he:e<=mask):∃m,m<=mask/\lcg mask m i=e:=by
 obtain⟨a,ha,ea⟩:=IU h hi;obtain⟨b,hb,eb⟩:=IU h he;by_cases c:a<=b
 .refine⟨b -a,by lia, ?_⟩;rw[<-ea,<-qh,show a+(b -a)=b by lia];exact eb
 .refine⟨mask+1 -a+b,by lia, ?_⟩;have z:lcg mask (mask+1) 0=0:=by
   unfold cS at h;rw[Gah] at h
   simpa using h.2
  have e0:lcg mask (mask+1 -a) i=0:=by
   rw[<-ea,<-qh,show a+(mask+1 -a)=mask+1 by lia];exact z
  rw[qh,e0];exact eb
def uG(h:cS mask=O)(hi:i<=mask)(hp:p<2^64)(he:e<=mask):∃n,1<=n/\n<=mask+13/\(gI mask n (i,p)).1=e:=by
 have z:(gI mask 13 (i,p)).2=0:=by
  rw[nC];exact Nat.div_eq_of_lt (GaJ hp (by decide))
 have l:=Du mask 13 (i,p) hi;obtain⟨m,hm,e1⟩:=Pu h l he;refine⟨13+m,by lia,by lia, ?_⟩;rw[uE];have:gI mask 13 (i,p)=((gI mask 13 (i,p)).1,0):=Prod.ext rfl z;rw[this,AA];exact e1
def oC(mask i:Nat):SetTable.runEnd mask i -i<=9:=by
 unfold SetTable.runEnd;split<;>lia
structure POk(t:SetTable)(p:SetTable.Probe):Prop where
 i:p.i<=t.mask
 more:p.more<=9
 Qw:p.perturb<2^64
def POk.start(t:SetTable)(h:Int):POk t (t.probeStart h):=by
 refine⟨?_,oC _ _, ?_⟩
 .exact Gcm (GcT _ (Gct _))
 .show SetTable.bits h<2^64;unfold SetTable.bits;lia
def POk.adv{t:SetTable}(h:POk t p):POk t (t.advance p):=by
 unfold SetTable.advance;split
 .exact⟨h.i,by show p.more -1<=9;have:=h.more;lia,h.Qw⟩
 .refine⟨?_,oC _ _, ?_⟩
  .exact Gcm (GcT _ (Gct _))
  .exact GcD (Nat.div_le_self _ _) h.Qw
def FL(t:SetTable)(p:SetTable.Probe)(d:Option Nat):(t.advance {p with dummy:=d})={t.advance p with dummy:=d}:=by
 unfold SetTable.advance;split<;>rfl
theorem rM{t:SetTable}(he:t.slot e= .empty):∀fuel n p,1<=n->p.more<=9->(gI t.mask n (p.i,p.perturb)).1=e->p.more+10*(n -1)+1<fuel->(SetTable.probe.go t hashAt h fuel p).isSome=O
 |0,n,p,_,_,_,hf=>by lia
 |fuel+1,n,p,hn,hm,hl,hf=>by
  have rec_:∀d:Option Nat,(SetTable.probe.go t hashAt h fuel {t.advance p with dummy:=d}).isSome=O:=λd=>by
   by_cases c:p.more>0
   .have ea:t.advance p={p with j:=p.j+1,more:=p.more -1}:=by
     unfold SetTable.advance;rw[Gao c]
    rw[ea];exact rM he fuel n _ hn (by show p.more -1<=9;lia) hl (by show p.more -1+10*(n -1)+1<fuel;lia)
   .have ea:t.advance p={p with j:=(SetTable.leap t.mask p.i p.perturb).1,more:=SetTable.runEnd t.mask (SetTable.leap t.mask p.i p.perturb).1 -(SetTable.leap t.mask p.i p.perturb).1,i:=(SetTable.leap t.mask p.i p.perturb).1,perturb:=(SetTable.leap t.mask p.i p.perturb).2}:=by
     unfold SetTable.advance;rw[Gai c]
    rw[ea];have hr:=oC t.mask (SetTable.leap t.mask p.i p.perturb).1;by_cases c1:n=1
    .subst c1;have hj:(SetTable.leap t.mask p.i p.perturb).1=e:=hl;cases fuel with
     |zero=>lia
     |succ fuel=>
      unfold SetTable.probe.go;rw[hj,he]
      rfl
    .obtain⟨n',rfl⟩:∃n',n=n' +1:=⟨n -1,by lia⟩
     refine rM he fuel n' _ (by lia) hr hl ?_;lia
  unfold SetTable.probe.go;cases q:t.slot p.j with
  |empty=>rfl
  |dummy=>
   rw[FL];exact rec_ _
  |live i=>
   dsimp only;split
   .rfl
   .simp_all
def C3{t:SetTable}(hc:cS t.mask=O)(hp:POk t p)(he:t.slot e= .empty)(zU:e<=t.mask):(t.probe hashAt h p).isSome=O:=by
 obtain⟨n,h1,h2,h3⟩:=uG hc hp.i hp.Qw zU;unfold SetTable.probe SetTable.turns;exact rM he _ n p h1 hp.more h3 (by have:=hp.more;lia)
theorem rN(he:owner[e]? =U J):∀fuel n i p,n<fuel->(gI mask n (i,p)).1=e->∃j,SetTable.layClean.free mask owner fuel i p=U j/\owner[j]? =U J
 |0,n,i,p,hf,_=>by lia
 |fuel+1,n,i,p,hf,hl=>by
  unfold SetTable.layClean.free;cases q:(List.range (SetTable.runEnd mask i+1 -i)).find? λk=>(owner.getD (i+k) (U 0)).isNone with
  |some k=>
   refine⟨i+k,rfl, ?_⟩;have h1:(owner.getD (i+k) (U 0)).isNone=O:=by simpa using GdK q
   rw[GbH] at h1;cases z:owner[i+k]? with
   |none=>rw[z] at h1;simp at h1
   |some o=>
    rw[z] at h1;simp at h1;rw[h1]
  |none=>
   cases n with
   |zero=>
    have hi:i=e:=hl;have:=GbK.mp q 0 (GaS.mpr (by unfold SetTable.runEnd;split<;>lia));simp_all
   |succ n=>exact rN he fuel n _ _ (by lia) hl
def FN(hc:cS mask=O)(he:owner[e]? =U J)(zU:e<=mask):∃j,SetTable.layClean.free mask owner (SetTable.turns mask) (SetTable.bits h%(mask+1)) (SetTable.bits h)=U j/\owner[j]? =U J:=by
 have hp:SetTable.bits h<2^64:=by
  unfold SetTable.bits;lia
 obtain⟨n,h1,h2,h3⟩:=uG hc (Gcm (GcT _ (Gct _))) hp zU;exact rN he _ n _ _ (by unfold SetTable.turns;lia) h3
theorem Dv:∀{l:List (Option Nat)} {j m:Nat},l[j]? =U J->((l.set j (U m)).filterMap id).Perm (m::l.filterMap id)
 |[],j,m,h=>by simp at h
 |x::l,0,m,h=>by
  simp at h;subst h;simp
 |x::l,j+1,m,h=>by
  have h' :l[j]? =U J:=by simpa using h
  have ih:=Dv (m:=m) h';cases x with
  |none=>simpa using ih
  |some y=>
   exact(List.Perm.cons y ih).trans (List.Perm.swap m y _)
theorem has_none:∀{l:List (Option Nat)},(l.filterMap id).length<l.length->∃e:Nat,l[e]? =U J
 |[],h=>by simp at h
 |none::l,_=> ⟨0,rfl⟩
 |some x::l,h=>by
  have:(l.filterMap id).length<l.length:=by
   simpa using h
  obtain⟨e,he⟩:=has_none this;exact⟨e+1,by simpa using he⟩
structure Laid(mask m:Nat)(owner:Array (Option Nat)):Prop where
 size:owner.size=mask+1
 occ:(owner.toList.filterMap id).Perm (List.range m)
def C4(mask:Nat):Laid mask 0 (Array.replicate (mask+1) J):=by
 refine⟨by simp, ?_⟩;simp_all
def FP(owner:Array (Option Nat)):∀n,n=owner.size->((List.range n).filterMap λj=>(owner.getD j J).map λk=>(j,k)).map (·.2)=owner.toList.filterMap id:=by
 intro n hn;subst hn;have e:owner.toList=(List.range owner.size).map λj=>owner.getD j J:=by
  apply GcJ;intro i;rw[Gap,Gbp];by_cases c:i<owner.size
  .rw[GdO c,Gcj,GbH,GaG c]
   rfl
  .simp_all
 rw[e,List.filterMap_map,List.map_filterMap];congr 1
 funext j
 show Option.map _ (Option.map _ _)=id (owner.getD j J);cases owner.getD j J<;>rfl
noncomputable def bw(t:SetTable):Nat->SetTable.Probe->SetTable.Probe
 |0,p=>p
 |n+1,p=>bw t n (t.advance p)
theorem jF(t:SetTable):∀m n p,bw t (m+n) p=bw t n (bw t m p)
 |0,n,p=>by rw[GaP];rfl
 |m+1,n,p=>by
  rw[Nat.succ_add];exact jF t m n _
def jG(t:SetTable)(n:Nat)(p:SetTable.Probe):bw t (n+1) p=t.advance (bw t n p):=jF t n 1 p
structure TOk(t:SetTable)(n:Nat):Prop where
 cov:cS t.mask=O
 odd:t.mask%2=1
 dum:t.dummies=#[]
 size:t.place.size=n
 few:n<=t.mask
def jT{t:SetTable}(h:t.dummies=#[])(j:Nat):t.slot j= .empty\/∃i,t.slot j= .live i/\t.place[i]? =U j:=by
 unfold SetTable.slot;dsimp only;split
 .rename_i c;exact .inr ⟨_,rfl,by simpa using c⟩
 .rw[h]
  left
  have:SetTable.has #[] j=M:=by
   unfold SetTable.has;simp
  rw[this];simp
theorem Dw:∀(N:Nat) (l:List Nat),l.length<N->∃e,e<N/\e∉l
 |0,l,h=>by lia
 |N+1,l,h=>by
  by_cases c:N∈l
  .obtain⟨e,he,hn⟩:=Dw N (l.erase N) (by rw[List.length_erase_of_mem c];have:=List.length_pos_of_mem c;lia);refine⟨e,by lia,λz=>hn ?_⟩;exact(List.mem_erase_of_ne (by lia)).mpr z
  .exact⟨N,by lia,c⟩
def TOk.hole{t:SetTable}(h:TOk t n):∃e,e<=t.mask/\t.slot e= .empty:=by
 obtain⟨e,he,hn⟩:=Dw (t.mask+1) t.place.toList (by rw[GaZ,h.size];have:=h.few;lia);refine⟨e,by lia, ?_⟩;rcases jT h.dum e with q| ⟨i,_,hp⟩
 .exact q
 .exfalso;apply hn;have:t.place.toList[i]? =U e:=by rw[Gbp];exact hp
  exact Gax this
theorem j4{t:SetTable}(hd:t.dummies=#[]):∀fuel p met,p.dummy=J->SetTable.probe.go t hashAt h fuel p=U met->
  ∃m,m<fuel/\(∀m',m' <m->∃i,t.slot (bw t m' p).j= .live i/\hashAt i≠h)/\((met= .empty (bw t m p).j J/\t.slot (bw t m p).j= .empty)\/∃i,met= .candidate (bw t m p).j i (t.advance (bw t m p))/\t.slot (bw t m p).j= .live i/\hashAt i=h)
 |0,p,met,_,e=>by cases e
 |fuel+1,p,met,hp,e=>by
  unfold SetTable.probe.go at e;rcases jT hd p.j with q| ⟨i,q,_⟩
  .rw[q] at e;cases e;exact⟨0,by lia,λm' h=>by lia,.inl ⟨by rw[hp];rfl,q⟩⟩
  .rw[q] at e;dsimp only at e;split at e
   .rename_i c;cases e;exact⟨0,by lia,λm' h=>by lia,.inr ⟨i,rfl,q,by simpa using c⟩⟩
   .rename_i c;have xy:hashAt i≠h:=by simpa using c
    have xP :(t.advance p).dummy=J:=by
     unfold SetTable.advance;split<;>exact hp
    obtain⟨m,h0,h1,h2⟩:=j4 hd fuel (t.advance p) met xP e;refine⟨m+1,by lia,λm' yI => ?_,h2⟩;cases m' with
    |zero=>exact⟨i,q,xy⟩
    |succ m' =>exact h1 m' (by lia)
def rO{t:SetTable}{p:SetTable.Probe}(T:TOk t n)(hp:POk t p)(hd:p.dummy=J):∃met m,m<10*SetTable.turns t.mask/\t.probe hashAt h p=U met/\(∀m',m' <m->∃i,t.slot (bw t m' p).j= .live i/\hashAt i≠h)/\
  ((met= .empty (bw t m p).j J/\t.slot (bw t m p).j= .empty)\/∃i,met= .candidate (bw t m p).j i (t.advance (bw t m p))/\t.slot (bw t m p).j= .live i/\hashAt i=h):=by
 obtain⟨e,he,hs⟩:=T.hole;have hsome:=C3 (hashAt:=hashAt) (h:=h) T.cov hp hs he;obtain⟨met,hm⟩:=Option.isSome_iff_exists.mp hsome;obtain⟨m,h0,h1,h2⟩:=j4 T.dum _ p met hd hm;exact⟨met,m,h0,hm,h1,h2⟩
theorem POk.bw(h:POk t p):∀n,POk t (bw t n p)
 |0=>h
 |n+1=>by
  rw[jG];exact(POk.bw h n).adv
def IV{t:SetTable}(T:TOk t n)(h:Int):∃K,K<10*SetTable.turns t.mask/\t.slot (bw t K (t.probeStart h)).j= .empty/\∀k,k<K->∃i,t.slot (bw t k (t.probeStart h)).j= .live i:=by
 obtain⟨met,m,h0,_,h1,h2⟩:=rO (hashAt:=λ_=>h+1) (h:=h) T (.start t h) rfl;refine⟨m,h0, ?_,λk hk=> ?_⟩
 .rcases h2 with⟨_,q⟩| ⟨i,_,_,q⟩
  .exact q
  .lia
 .simp_all
def IW(t:SetTable)(h:Int)(j:Nat):Prop:=∃k,(bw t k (t.probeStart h)).j=j/\∀k',k' <k->∃i,t.slot (bw t k' (t.probeStart h)).j= .live i
section
variable{w:World}
def LI{s:ZI}{stored:List ZH}{Q:Bool->ZI->Prop}(hx:Im s.heap n dx x)(hs:∀y∈stored,∃d,Im s.heap n d y)(hn:n<=8)(h:Q M s):wpAny (model prog w) A (searchCouldBeSeen x stored) Q E s:=by
 refine Gab ?_;refine wpAny_forIn_list _ (λrest r s' =>r.1=J/\s' =s/\∀y∈rest,y∈stored) _ ?_ ?_ _ _ ⟨rfl,rfl,λy hy=>hy⟩
 .rintro y rest r s' ⟨hr,xO,yK⟩;obtain⟨d,hy⟩:=hs y (yK y Gaj);have more:=λz hz=>yK z (Gaf _ hz);rw[xO];dsimp only;split
  all_goals
   split
   .exact Gad ⟨rfl,rfl,more⟩
   .refine Gab (rH n hx hn ?_);refine Gab (rH n hy hn ?_);refine Gab (rJ n hx hn ?_);refine Gab (rJ n hy hn ?_);exact Gad ⟨rfl,rfl,more⟩
 .rintro⟨r1,r2⟩ s' ⟨hr,xO,_⟩;subst hr;rw[xO];exact Gad h
structure mE(w:World)(g:ZK)(n:Nat)(es:Array (Int×ZH))(t:SetTable):Prop where
 tok:TOk t es.size
 el:∀(i:Nat) h v,es[i]? =U (h,v)->∃b d,v= .ref b/\Im g n d v/\h=bz w n d
 ris:Ris t.place
 way:∀(i:Nat) h v j,es[i]? =U (h,v)->t.place[i]? =U j->IW t h j
end
section
noncomputable def storedAt(es:Array (Int×ZH))(i:Nat):Int:=(es[i]?.map (·.1)).getD 0
theorem AE(t:SetTable)(h:Int):∀k,(bw t k (t.probeStart h)).dummy=J
 |0=>rfl
 |k+1=>by
  have ih:=AE t h k;rw[jG];unfold SetTable.advance;split<;>exact ih
def mF(g:ZK)(n:Nat)(es:Array (Int×ZH))(dx:D)(i:Nat):Prop:=∀h v d,es[i]? =U (h,v)->Im g n d v->eqD d dx=M
def w5{t:SetTable}(hr:Ris t.place)(h:t.place[i]? =U j):t.slot j= .live i:=by
 obtain⟨_,b2,b3⟩:=jE hr;have e:SetTable.below t.place j=i:=by
  rcases GdT i (SetTable.below t.place j) with z|z|z
  .exact absurd (b2 i j z h) (Gbz _)
  .exact z.symm
  .have hi:=(Gbe.mp h).1;have g:t.place[SetTable.below t.place j]? =U (t.place[SetTable.below t.place j]'(by lia)):=GaG (by lia);have h1:=b3 _ _ (Gan _) g;have h2:=hr _ _ z _ _ g h;lia
 unfold SetTable.slot;simp_all
variable{s:ZI}
def Dx(n:Nat):∀{d e v u},Im s.heap n d v->Im s.heap n e u->eqD d e=O->d=e:=by
 induction n with
 |zero=>
  intro d e v u i1 i2 h;cases i1<;>cases i2<;>simp at h<;>simp[h]
 |succ n ih=>
  intro d e v u i1 i2 h;cases i1 with
  |int _ i t=>cases i2<;>simp at h<;>simp[h]
  |str _ x t=>cases i2<;>simp at h<;>simp[h]
  | @tup _ m a o items ds ho hc hd hl hi=>
   cases i2 with
   |int _ i t=>simp at h
   |str _ x t=>simp at h
   | @tup _ m' b o' items' xv xn yo xc yA xb =>
    have h' :jw ds xv =O:=by simpa using h
    have hll:ds.length=xv.length:=by
     rcases Nat.decEq ds.length xv.length with z|z
     .rw[ij z] at h';cases h'
     .exact z
    rw[<-fA hll] at h';congr 1;refine GcS hll λi h1 h2=> ?_;have:=Gar.mp h' i (GaS.mpr h1);have e1:ds.getD i .non=ds[i]:=by simp[h1]
    have e2:xv.getD i .non=xv[i]:=by simp[h2]
    rw[e1,e2] at this;exact ih (hi i _ items.toList[i] (Gac h1) (Gac (by lia))) (xb i _ items'.toList[i] (Gac h2) (Gac (by lia))) this
def C5{t:SetTable}(X:mE w s.heap n es t)(hx:Im s.heap n dx x)(hk:t.slot (bw t k (t.probeStart (bz w n dx))).j= .empty)
  (past:∀k',k' <k->∃i,t.slot (bw t k' (t.probeStart (bz w n dx))).j= .live i/\mF s.heap n es dx i)(i:Nat):mF s.heap n es dx i:=by
 intro h v d he im;cases hq:eqD d dx with
 |false=>rfl
 |true=>
  have ed:=Dx n im hx hq;subst ed;have hi:i<t.place.size:=by
   rw[X.tok.size];exact(Gbe.mp he).1
  have hp:=GaG hi;obtain⟨b,d',hv,yM,hh⟩:=X.el i h v he;have:=rL n im yM;subst this;subst hh;obtain⟨k2,e2,before⟩:=X.way i _ v _ he hp;have sl:=w5 X.ris hp;rcases GdT k2 k with z|z|z
  .obtain⟨i',q,un⟩:=past k2 z;rw[e2,sl] at q;cases q;have:=un _ v d he im;lia
  .simp_all
  .obtain⟨i',q⟩:=before k z;rw[hk] at q;cases q
def AF{A:ZL}{o:ZM}{es:Array (Int×ZH)}{t:SetTable}{R:SetFound->ZI->Prop}{K:Nat}(ho:s.heap.get? a=U o)(hd:o.data= .set es ep t)(hf:t.fits es.size=O)(X:mE w s.heap n es t)(hx:Im s.heap n dx (.ref b))(hn:n<=8)(hu:A.units+n<cLine)
   (hK:t.slot (bw t K (t.probeStart (bz w n dx))).j= .empty)
  (h1:(∃i,¬mF s.heap n es dx i)->R (.there J) s)
  (h2:∀k,t.slot (bw t k (t.probeStart (bz w n dx))).j= .empty->(∀k',k' <k->∃i,t.slot (bw t k' (t.probeStart (bz w n dx))).j= .live i)->(∀i,mF s.heap n es dx i)->R (.free (bw t k (t.probeStart (bz w n dx))).j M) s):
  ∀fuel k stand,stand.getD (t.probeStart (bz w n dx))=bw t k (t.probeStart (bz w n dx))->K -k<fuel->(∀k',k' <k->∃i,t.slot (bw t k' (t.probeStart (bz w n dx))).j= .live i/\mF s.heap n es dx i)->
   wpAny (model prog w) A (setSearchFrom a (.ref b) (bz w n dx) O fuel stand) R E s:=by
 have hK' :=hK;have na:=λk=>C5 (k:=k) X hx;generalize hhe:bz w n dx=hh at*;intro fuel;induction fuel with
 |zero=>intro k stand _ eY;lia
 |succ fuel ih=>
  intro k stand ya eY past;have hkK:k<=K:=by
   rcases Gbg K k with z|z
   .obtain⟨i,q,_⟩:=past K z;rw[hK] at q;cases q
   .exact z
  unfold setSearchFrom;refine Gab (GaT ho hd hf ?_);dsimp only;have gw:t.gaveWay=M:=by
   unfold SetTable.gaveWay;rw[X.tok.odd]
   rfl
  rw[gw];simp only[Bool.false_eq_true,if_false];rw[ya];have pk:POk t (bw t k (t.probeStart hh)):=(POk.start t _).bw k;obtain⟨met,m,_,hm,p1,p2⟩:=rO (hashAt:=storedAt es) (h:=hh) X.tok pk (AE t hh k)
  erw[hm]
  rw[<-jF] at p2;have past2:∀k',k' <k+m->∃i,t.slot (bw t k' (t.probeStart hh)).j= .live i/\mF s.heap n es dx i:=λk' xw =>by
   rcases Gbg k' k with z|z
   .exact past k' z
   .obtain⟨i,q,xy⟩:=p1 (k' -k) (by lia);rw[<-jF,show k+(k' -k)=k' by lia] at q;refine⟨i,q,λh v d he im=> ?_⟩;cases hq:eqD d dx with
    |false=>rfl
    |true=>
     exfalso;have ed:=Dx n im hx hq;subst ed;obtain⟨b',d',hv,yM,Wx⟩:=X.el i h v he;have:=rL n im yM;subst this;apply xy;unfold storedAt;rw[he,<-hhe,<-Wx]
     rfl
  rcases p2 with⟨rfl,q⟩| ⟨i,rfl,q,hi⟩
  .dsimp only;exact Gad (h2 _ q (λk' z=>let⟨i,q,_⟩:=past2 k' z;⟨i,q⟩) (na _ q past2))
  .have hj:t.place[i]? =U (bw t (k+m) (t.probeStart hh)).j:=by
    rcases jT X.tok.dum (bw t (k+m) (t.probeStart hh)).j with z| ⟨i',z,hp⟩
    .rw[q] at z;cases z
    .rw[q] at z;cases z;exact hp
   have hlt2:i<es.size:=by
    have:=(Gbe.mp hj).1;rw[X.tok.size] at this;exact this
   have yu:es[i]? =U (es[i].1,es[i].2):=GaG hlt2;obtain⟨c,d,hv,im,Wx⟩:=X.el i _ _ yu;have hkm:k+m<K:=by
    rcases GdT (k+m) K with z|z|z
    .exact z
    .rw[z,hK] at q;cases q
    .obtain⟨i',q',_⟩:=past2 K z;rw[hK] at q';cases q'
   have sm:t.sameMemory t.moves t.mask=U O:=by
    unfold SetTable.sameMemory;simp
   have nx:t.advance (bw t (k+m) (t.probeStart hh))=bw t (k+m+1) (t.probeStart hh):=(jG t _ _).symm;have hseen:∀y∈((es.filter (·.1==hh)).toList.map (·.2)),∃d,Im s.heap n d y:=λy hy=>by
    obtain⟨e,he,rfl⟩:=Gas.mp hy;have zV :e∈es:=(Array.mem_filter.mp (Array.mem_toList_iff.mp he)).1;obtain⟨i',xb,rfl⟩:=Array.getElem_of_mem zV;obtain⟨_,d',_,yM,_⟩:=X.el i' es[i'].1 es[i'].2 (GaG xb);exact⟨d',yM⟩
   dsimp only;rw[yu,nx];rw[hv] at im;dsimp only;rw[hv];refine GcE (λ_=>Gab (LI hx hseen hn ?_)) (λ_=> ?_)
   all_goals
    refine Gab (GbJ (Sv n im hx hu prog w _ _ ?_));refine Gab (GaT ho hd hf ?_);cases hq:eqD d dx with
    |true=>
     refine Gad (h1 ⟨i,λz=> ?_⟩);have:=z _ _ d yu (by rw[hv];exact im);rw[hq] at this;cases this
    |false=>
     rw[sm];simp only[Gdn];rw[q];dsimp only;rw[yu];rw[hv];refine Gab (wpAny_isSame_ref_self (Gab (Gad ?_)));refine ih (k+m+1) _ rfl (by lia) λk' xw => ?_;rcases Gbg k' (k+m) with z|z
     .exact past2 k' z
     .refine⟨i,by rw[show k' =k+m by lia];exact q,λh v d' he yM => ?_⟩;rw[yu] at he;cases he;rw[hv] at yM;have:=rL n im yM;rw[<-this];exact hq
end
theorem l7{t u:SetTable}(h:t.mask=u.mask):∀n p,bw t n p=bw u n p
 |0,p=>rfl
 |n+1,p=>by
  have e:t.advance p=u.advance p:=by
   unfold SetTable.advance;rw[h]
  show bw t n (t.advance p)=bw u n (u.advance p);rw[e];exact l7 h n _
def mG{t u:SetTable}(h:t.mask=u.mask)(x:Int):t.probeStart x=u.probeStart x:=by
 unfold SetTable.probeStart;rw[h]
def AG{t u:SetTable}(hm:t.mask=u.mask)(hk:∀j i,t.slot j= .live i->∃i',u.slot j= .live i')(x:IW t h j):IW u h j:=by
 obtain⟨k,e,b⟩:=x;refine⟨k,by rw[<-l7 hm,<-mG hm];exact e,λk' xw => ?_⟩;obtain⟨i,q⟩:=b k' xw;rw[<-l7 hm,<-mG hm];exact hk _ _ q
def l8{xs:Array α}(hp:p<=xs.size):(SetTable.insertAt xs p j)[i]? =if i<p then xs[i]? else if i=p then U j else xs[i -1]? :=by
 have e:(SetTable.insertAt xs p j)[i]? =(SetTable.insertAt xs p j).toList[i]? :=by simp
 rw[e,Gcu];have l1:(xs.toList.take p).length=p:=by simp;lia
 by_cases c:i<p
 .rw[Gao c,GaR (by rw[l1];exact c),Gcr c];simp
 .rw[Gai c,GaM (by rw[l1];lia),l1];by_cases c2:i=p
  .simp_all
  .rw[Gai c2,show i -p=(i -p -1)+1 by lia,GcB,Gdg,show p+(i -p -1)=i -1 by lia];simp
def mH{xs:Array α}(hp:p<=xs.size):(SetTable.insertAt xs p j).size=xs.size+1:=by
 have:(SetTable.insertAt xs p j).size=(SetTable.insertAt xs p j).toList.length:=by simp
 rw[this,Gcu];simp;lia
def C6{xs:Array α}:(SetTable.insertAt xs p j).toList.Perm (j::xs.toList):=by
 rw[Gcu];refine GdA.trans (List.Perm.cons j ?_);simp_all
def LJ{t:SetTable}(h:t.dummies=#[]):(t.put j).1.dummies=#[]:=by
 unfold SetTable.put;rw[h]
 rfl
def C7{t:SetTable}(h:t.slot j= .empty):t.place[SetTable.below t.place j]? ≠U j:=by
 intro e;unfold SetTable.slot at h;simp_all
def Pw{t:SetTable}(T:TOk t n)(hr:Ris t.place)(hj:t.slot j= .empty)(hn:n+1<=t.mask):TOk (t.put j).1 (n+1)/\Ris (t.put j).1.place/\∀j' i,t.slot j' = .live i->∃i',(t.put j).1.slot j' = .live i' :=by
 have bl:=(jE (j:=j) hr).1;have ym :=BX hr (C7 hj);refine⟨⟨T.cov,T.odd,LJ T.dum, ?_,hn⟩,ym,λj' i q=> ?_⟩
 .show(SetTable.insertAt t.place _ j).size=_;rw[mH bl,T.size]
 .rcases jT T.dum j' with z| ⟨i',z,hp⟩
  .rw[q] at z;cases z
  .have xP :(t.put j).1.place[if i' <SetTable.below t.place j then i' else i' +1]? =U j' :=by
    show(SetTable.insertAt t.place _ j)[_]? =_;rw[l8 bl];by_cases c:i' <SetTable.below t.place j
    .rw[Gao c,Gao c];exact hp
    .rw[Gai c,Gai (by lia),Gai (by lia)];exact hp
   exact⟨_,w5 ym xP⟩
section
theorem mE.put{es:Array (Int×ZH)}{t:SetTable}(X:mE w g n es t)(hx:Im g n d (.ref b))(hk:t.slot (bw t k (t.probeStart (bz w n d))).j= .empty)
  (past:∀k',k' <k->∃i,t.slot (bw t k' (t.probeStart (bz w n d))).j= .live i)(hn:es.size+1<=t.mask):
  mE w g n (SetTable.insertAt es (t.put (bw t k (t.probeStart (bz w n d))).j).2 (bz w n d,.ref b)) (t.put (bw t k (t.probeStart (bz w n d))).j).1:=by
 generalize hj:(bw t k (t.probeStart (bz w n d))).j=j at*;have bl:=(jE (j:=j) X.ris).1;have bl2:SetTable.below t.place j<=es.size:=by rw[<-X.tok.size];exact bl
 obtain⟨T,R,keep⟩:=Pw X.tok X.ris hk hn;have e2:(t.put j).2=SetTable.below t.place j:=rfl;rw[e2];have wn:IW t (bz w n d) j:=⟨k,hj,past⟩
 refine⟨by rw[mH bl2];exact T,λi h v he=> ?_,R,λi h v j' he hp=> ?_⟩
 .rw[l8 bl2] at he;split at he
  .exact X.el i h v he
  .split at he
   .cases he;exact⟨b,d,rfl,hx,rfl⟩
   .exact X.el (i -1) h v he
 .have xP :(SetTable.insertAt t.place (SetTable.below t.place j) j)[i]? =U j' :=hp;rw[l8 bl] at xP;rw[l8 bl2] at he;refine AG (t:=t) rfl keep ?_;split at he
  .rename_i c;rw[Gao c] at xP;exact X.way i h v j' he xP
  .rename_i c;rw[Gai c] at xP;split at he
   .lia
   .rename_i c2;rw[Gai c2] at xP;exact X.way (i -1) h v j' he xP
end
noncomputable def T0(mask:Nat):SetTable:={SetTable.fresh 0 0 M with mask:=mask}
theorem nD{p:SetTable.Probe}:∀k,k<=p.more->bw t k p={p with j:=p.j+k,more:=p.more -k}
 |0,_=>rfl
 |k+1,h=>by
  rw[jG,nD k (by lia)];unfold SetTable.advance;rw[Gao (by lia),Nat.sub_sub,Nat.add_assoc]
def Tkn(owner:Array (Option Nat))(j:Nat):Prop:=∃m,owner[j]? =U (U m)
def IY(mask:Nat)(owner:Array (Option Nat))(h:Int)(j:Nat):Prop:=∃k,(bw (T0 mask) k ((T0 mask).probeStart h)).j=j/\∀k',k' <k->Tkn owner (bw (T0 mask) k' ((T0 mask).probeStart h)).j
def FQ(h:i<=mask):i<=SetTable.runEnd mask i/\SetTable.runEnd mask i<=mask:=by
 unfold SetTable.runEnd;split<;>lia
def IZ{owner:Array (Option Nat)}(hj:j<owner.size)(h:(owner.getD j (U 0)).isNone=M):Tkn owner j:=by
 rw[GbH,GaG hj] at h;cases q:owner[j] with
 |none=>simp[q] at h
 |some m=>exact⟨m,by rw[GaG hj,q]⟩
theorem AH{owner:Array (Option Nat)}(hs:owner.size=mask+1):∀fuel i p j,i<=mask->SetTable.layClean.free mask owner fuel i p=U j->
  ∃k,(bw (T0 mask) k {j:=i,more:=SetTable.runEnd mask i -i,i:=i,perturb:=p,dummy:=J}).j=j/\∀k',k' <k->Tkn owner (bw (T0 mask) k' {j:=i,more:=SetTable.runEnd mask i -i,i:=i,perturb:=p,dummy:=J}).j
 |0,i,p,j,_,e=>by cases e
 |fuel+1,i,p,j,hi,e=>by
  have re:=FQ hi;unfold SetTable.layClean.free at e;cases q:(List.range (SetTable.runEnd mask i+1 -i)).find? λk=>(owner.getD (i+k) (U 0)).isNone with
  |some k=>
   rw[q] at e;cases e;have hk:=GaS.mp (Gda q);refine⟨k, ?_,λk' xw => ?_⟩
   .rw[nD k (by show k<=SetTable.runEnd mask i -i;lia)]
   .rw[nD k' (by show k' <=SetTable.runEnd mask i -i;lia)];have:=(List.find?_range_eq_some.mp q).2.2 k' xw;exact IZ (by lia) (by simpa using this)
  |none=>
   rw[q] at e;obtain⟨k,h1,h2⟩:=AH hs fuel (SetTable.leap mask i p).1 (SetTable.leap mask i p).2 j (Gcm (GcT _ (Gct _))) e;have all:∀k',k' <=SetTable.runEnd mask i -i->Tkn owner (i+k'):=λk' xw =>by
    have:=GbK.mp q k' (GaS.mpr (by lia));exact IZ (by lia) (Bool.eq_false_iff.mpr this)
   have step:bw (T0 mask) (SetTable.runEnd mask i -i+1) {j:=i,more:=SetTable.runEnd mask i -i,i:=i,perturb:=p,dummy:=J}={j:=(SetTable.leap mask i p).1,more:=SetTable.runEnd mask (SetTable.leap mask i p).1 -(SetTable.leap mask i p).1,i:=(SetTable.leap mask i p).1,perturb:=(SetTable.leap mask i p).2,dummy:=J}:=by
    rw[jG,nD (SetTable.runEnd mask i -i) (Gan _)];unfold SetTable.advance;rw[Gai (by lia)]
    rfl
   refine⟨SetTable.runEnd mask i -i+1+k, ?_,λk' xw => ?_⟩
   .rw[jF,step];exact h1
   .rcases Gbg k' (SetTable.runEnd mask i -i+1) with z|z
    .rw[nD k' (by show k' <=SetTable.runEnd mask i -i;lia)];exact all k' (by lia)
    .have:=h2 (k' -(SetTable.runEnd mask i -i+1)) (by lia);rw[<-step,<-jF,show SetTable.runEnd mask i -i+1+(k' -(SetTable.runEnd mask i -i+1))=k' by lia] at this;exact this
def IY.mono(x:IY mask ow h j)(k:∀j,Tkn ow j->Tkn ow' j):IY mask ow' h j:=let⟨n,e,b⟩:=x;⟨n,e,λk' xw =>k _ (b k' xw)⟩
def Px(mask:Nat)(all:List Int)(owner:Array (Option Nat)):Prop:=∀(j k:Nat),owner[j]? =U (U k)->∃h,all[k]? =U h/\IY mask owner h j
theorem AI(hc:cS mask=O):∀hs pre owner,Laid mask pre.length owner->Px mask (pre++hs) owner->(pre++hs).length<=mask->∃xx,Laid mask (pre++hs).length xx /\Px mask (pre++hs) xx /\
  hs.foldl (λacc h=>do
   let(owner,k)<-acc
   let j<-SetTable.layClean.free mask owner (SetTable.turns mask) (SetTable.bits h%(mask+1)) (SetTable.bits h)
   pure (owner.setIfInBounds j (U k),k+1)) (U (owner,pre.length))=U (xx,(pre++hs).length)
 |[],pre,owner,L,W,_=>by
  rw[Gbh] at W⊢;exact⟨owner,L,W,rfl⟩
 |h::hs,pre,owner,L,W,hl=>by
  have yA :pre.length+(hs.length+1)<=mask:=by simpa using hl
  have lt:(owner.toList.filterMap id).length<owner.toList.length:=by
   have e1:owner.toList.length=mask+1:=by rw[GaZ];exact L.size
   rw[L.occ.length_eq,List.length_range];lia
  obtain⟨e,he⟩:=has_none lt;have zV :owner[e]? =U J:=by rw[<-Gbp];exact he
  have zU:e<=mask:=by
   have:=(Gak.mp he).1;rw[GaZ,L.size] at this;lia
  obtain⟨j,hj,hn⟩:=FN hc zV zU;have xh :owner.toList[j]? =U J:=by rw[Gbp];exact hn
  have hjs:=(Gbe.mp hn).1;have wj:IY mask owner h j:=AH L.size _ _ _ j (Gcm (GcT _ (Gct _))) hj;have L' :Laid mask (pre++[h]).length (owner.setIfInBounds j (U pre.length)):=by
   refine⟨by simpa using L.size, ?_⟩;rw[Array.toList_setIfInBounds];refine(Dv xh).trans ?_;rw[Gal,GcN,List.range_succ];exact(List.Perm.cons pre.length L.occ).trans (List.perm_append_comm (l₁:=[pre.length]))
  have mono:∀x,Tkn owner x->Tkn (owner.setIfInBounds j (U pre.length)) x:=λx ⟨m,hm⟩=>by
   by_cases c:j=x
   .subst c;rw[hn] at hm;cases hm
   .exact⟨m,by rw[GdC c];exact hm⟩
  have W' :Px mask ((pre++[h])++hs) (owner.setIfInBounds j (U pre.length)):=by
   intro x k hx;rw[Gbd];by_cases c:j=x
   .subst c;rw[Array.getElem?_setIfInBounds_self_of_lt hjs] at hx;cases hx;exact⟨h,by simp,wj.mono mono⟩
   .rw[GdC c] at hx;obtain⟨h',e1,e2⟩:=W x k hx;exact⟨h',e1,e2.mono mono⟩
  obtain⟨xx,L2,W2,e2⟩:=AI hc hs (pre++[h]) _ L' W' (by simpa using hl);rw[Gbd,List.singleton_append] at L2 W2 e2;refine⟨xx,L2,W2, ?_⟩;rw[Gcl,<-e2];congr 1;show(SetTable.layClean.free mask owner (SetTable.turns mask) (SetTable.bits h%(mask+1)) (SetTable.bits h)).bind _=_;rw[hj,Gal]
  rfl
def FR{plain:Bool}{hashes:Array Int}(hc:cS mask=O)(hl:hashes.size<=mask):∃t order,SetTable.laid mask finger moves led plain hashes=U (t,order)/\order.toList.Perm (List.range hashes.size)/\t.mask=mask/\t.place.size=hashes.size/\t.dummies=#[]/\t.plain=plain/\t.led=led/\Ris t.place/\
  ∀(i k j:Nat),order[i]? =U k->t.place[i]? =U j->∃h,hashes[k]? =U h/\IW t h j:=by
 obtain⟨owner,L,W,e⟩:=AI hc hashes.toList [] (Array.replicate (mask+1) J) (C4 mask) (λj k h=>by
  rw[Array.getElem?_replicate] at h;split at h<;>cases h) (by simpa using hl)
 rw[GbV] at L W e;rw[GaZ] at L e;have el:SetTable.layClean mask hashes=U owner:=by
  unfold SetTable.layClean;simp_all
 have r:=FP owner (mask+1) L.size.symm;unfold SetTable.laid;rw[el];refine⟨_,_,rfl, ?_,rfl, ?_,rfl,rfl,rfl,Ax, ?_⟩
 .exact(by rw[r];exact L.occ:(((List.range (mask+1)).filterMap λj=>(owner.getD j J).map λk=>(j,k)).map (·.2)).Perm (List.range hashes.size))
 .rw[Gav,Gae];have:=congrArg List.length r;rw[Gae] at this;rw[this,L.occ.length_eq,List.length_range]
 .intro i k j hk hj;have hris:=Ax (n:=mask+1) (g:=λj=>owner.getD j J);generalize zk:((List.range (mask+1)).filterMap λj=>(owner.getD j J).map λk=>(j,k))=live at*;have xw :(live.map (·.2))[i]? =U k:=by simpa using hk
  have hj' :(live.map (·.1))[i]? =U j:=by simpa using hj
  have hmem:∀x m,(x,m)∈live↔owner[x]? =U (U m):=λx m=>by
   rw[<-zk,Gdc];constructor
   .rintro⟨a,_,h2⟩;cases q:owner.getD a J with
    |none=>rw[q] at h2;cases h2
    |some c=>
     rw[q] at h2;cases h2;rw[GbH] at q;cases z:owner[x]? with
     |none=>rw[z] at q;cases q
     |some o=>rw[z] at q;rw[<-q];rfl
   .intro h;have hx:=(Gbe.mp h).1;refine⟨x,GaS.mpr (by rw[<-L.size];exact hx), ?_⟩;rw[GbH,h]
    rfl
  obtain⟨q,hq,rfl⟩:∃q,live[i]? =U q/\q.1=j:=by
   rw[Gap] at hj';exact Gaa.mp hj'
  have hq2:q.2=k:=by
   rw[Gap,hq] at xw;exact Option.some.inj xw
  have ho:=(hmem q.1 q.2).mp (Gax hq);rw[hq2] at ho;obtain⟨h,e1,k0,e2,b⟩:=W _ _ ho;have am:∀u:SetTable,u.mask=mask->∀n,bw u n (u.probeStart h)=bw (T0 mask) n ((T0 mask).probeStart h):=λu hu n=>by rw[l7 (u:=T0 mask) hu,mG (u:=T0 mask) hu]
  refine⟨h,by rw[<-Gbp];exact e1,k0, ?_,λk' xw => ?_⟩
  .rw[<-e2];exact congrArg (λz:SetTable.Probe=>z.j) (am {mask:=mask,place:=_,dummies:=#[],finger:=finger,led:=led,moves:=moves,plain:=plain} rfl k0)
  .obtain⟨m,hm⟩:=b k' xw;obtain⟨i',xb,e'⟩:=GbB ((hmem _ _).mpr hm);rw[am _ rfl];refine⟨i',w5 hris ?_⟩;simp[xb,e']
def Im.mono{g g' :ZK}(hk:∀b o,g.get? b=U o->g'.get? b=U o)(p:Im g n d v):Im g' n d v:=by
 induction p with
 |int n i t=>exact .int n i t
 |str n x t=>exact .str n x t
 |tup ho hc hd hl hi ih=>exact .tup (hk _ _ ho) hc hd hl ih
theorem mE.mono{g g' :ZK}(hk:∀b o,g.get? b=U o->g'.get? b=U o)(X:mE w g n es t):mE w g' n es t:=⟨X.tok,λi h v e=>let⟨b,d,h1,h2,h3⟩:=X.el i h v e;⟨b,d,h1,h2.mono hk,h3⟩,X.ris,X.way⟩
def mE.off(X:mE w g n es t):mE w g n es {t with plain:=M}:=
 ⟨⟨X.tok.cov,X.tok.odd,X.tok.dum,X.tok.size,X.tok.few⟩,X.el,X.ris,λi h v j e p=>AG (t:=t) rfl (λj i q=> ⟨i,q⟩) (X.way i h v j e p)⟩
theorem TOk.fits{t:SetTable}(T:TOk t n):t.fits n=O:=by
 unfold SetTable.fits SetTable.fill;rw[T.dum,T.size];have:=T.few
 simpa using this
def TOk.full{t:SetTable}(T:TOk t n):t.tooFull=decide (n*5>=t.mask*3):=by
 unfold SetTable.tooFull SetTable.fill;rw[T.dum,T.size]
 rfl
def Big(m n:Nat):Prop:=m=7/\n<=4\/m=31/\n<=18\/m=127/\n<=76
structure SIx(w:World)(bt:Bool)(g0:ZK)(n:Nat)(its:List ZH)(ix:List Nat)(es:Array (Int×ZH))(t:SetTable):Prop where
 ok:mE w g0 n es t
 vals:(es.toList.map (·.2)).Perm (ix.map λi=>its.getD i .none)
 big:Big t.mask es.size
 led:t.led= !bt
def w6(w:World)(bt:Bool)(g0:ZK)(n:Nat)(its:List ZH)(g:ZK)(a:ZG)(ix:List Nat):Prop:=
 ∃o es ep t,g.get? a=U o/\o.ExactSet/\o.data= .set es ep t/\SIx w bt g0 n its ix es t
theorem SIx.size{ix:List Nat}{es:Array (Int×ZH)}(h:SIx w bt g0 n its ix es t):es.size=ix.length:=by
 have:=h.vals.length_eq
 simpa using this
def Dy(g0:ZK)(n:Nat)(ds:List D)(its:List ZH):Prop:=∀i,i<its.length->∃b,its.getD i .none= .ref b/\Im g0 n (ds.getD i .non) (.ref b)
theorem rP{α:Type}{es:Array α}{z:α}:∀{l:List Nat},(∀k∈l,k<es.size)->l.filterMap (λk=>es[k]?)=l.map λk=>es.getD k z
 |[],_=>rfl
 |k::l,h=>by
  have hk:=h k Gaj;rw[Gcv,rP (z:=z) λx hx=>h x (Gaf _ hx)];simp[hk]
def C8{α:Type}(es:Array α):(List.range es.size).filterMap (λk=>es[k]?)=es.toList:=by
 cases hs:es.toList with
 |nil=>
  have:es.size=0:=by rw[<-GaZ,hs];rfl
  rw[this]
  rfl
 |cons z _=>
  rw[<-hs,rP (z:=z) λk hk=>GaS.mp hk];apply GcS
  .simp
  .intro i h1 h2;simp at h1 h2⊢;simp[h2]
def LK{es:Array (Int×ZH)}{t:SetTable}(X:mE w g0 n es t)(hM:SetTable.sizeAbove wanted=Zr+1)(hc:cS Zr=O)(zf:Zr%2=1)(hl:es.size<=Zr):
  ∃t' order,t.relaid (es.map (·.1)) wanted=U (t',order)/\(order.filterMap (es[·]?)).toList.Perm es.toList/\t'.mask=Zr/\t'.led=t.led/\mE w g0 n (order.filterMap (es[·]?)) t' :=by
 unfold SetTable.relaid;rw[hM];obtain⟨t',order,e,hp,m1,m2,m3,m4,m5,m6,m7⟩:=FR (hashes:=es.map (·.1)) hc (by simpa using hl);rw[Array.size_map] at hp m2;have eY:∀k∈order.toList,k<es.size:=λk hk=>GaS.mp (hp.mem_iff.mp hk);have pm:(order.filterMap (es[·]?)).toList.Perm es.toList:=by
  rw[Array.toList_filterMap];exact(hp.filterMap _).trans (by rw[C8])
 have sz:(order.filterMap (es[·]?)).size=es.size:=by
  have:=pm.length_eq;exact this
 have at_:∀(i:Nat) e,(order.filterMap (es[·]?))[i]? =U e->∃k:Nat,order[i]? =U k/\es[k]? =U e:=λi e he=>by
  rw[<-Gbp,Array.toList_filterMap,rP (z:=(0,Value.none)) eY,Gap] at he;obtain⟨k,hk,rfl⟩:=Gaa.mp he;have xR:=eY k (Gax hk);simp_all
 refine⟨t',order,e,pm,m1,m5,⟨⟨by rw[m1];exact hc,by rw[m1];exact zf,m3,by rw[m2,sz],by rw[sz,m1];exact hl⟩,λi h v he=> ?_,m6,λi h v j he hj=> ?_⟩⟩
 .obtain⟨k,_,hk⟩:=at_ i _ he;exact X.el k h v hk
 .obtain⟨k,ho,hk⟩:=at_ i _ he;obtain⟨h',e1,e2⟩:=m7 i k j ho hj;simp_all
def LL{A:ZL}{z:ZI}{g0:ZK}{ds:List D}{its:List ZH}{ix:List Nat}(hS:w6 w bt g0 n its z.heap a ix)(hI:Dy g0 n ds its)(hold:∀b o,g0.get? b=U o->z.heap.get? b=U o)(XR:∀i∈ix,i<its.length)(hk:k<its.length)(hb:its.getD k .none= .ref b)(XJ:ix.length<76)(hn:n<=8)(hu:A.units+n<cLine)
  (h:∀r g,Heap.SameBut a z.heap g->w6 w bt g0 n its g a (if ix.any (λi=>eqD (ds.getD i .non) (ds.getD k .non)) then ix else ix++[k])->R r {z with heap:=g}):
  wpAny (model prog w) A (setAddHashed a (.ref b) (bz w n (ds.getD k .non))) R E z:=by
 obtain⟨o,es,ep,t,ho,hex,hd,hE⟩:=hS;obtain⟨b',xH,XB⟩:=hI k hk;rw[hb] at xH;cases xH;generalize hdx:ds.getD k .non=dx at*;have im:Im z.heap n dx (.ref b):=XB.mono hold;have X:=hE.ok.mono hold;have hf:=X.tok.fits;have bg:=hE.big;have sz:=hE.size;obtain⟨K,Zl,hK,_⟩:=IV X.tok (bz w n dx);have hsl:sizeLine=16777216:=Gbt;have hm127:t.mask<=127:=by rcases bg with q|q|q<;>lia
 unfold setAddHashed setAddHashedIn;refine GbJ (Gab (GaT ho hd hf ?_));dsimp only;rw[Gai (by show¬(byScan (.ref b) es=O);unfold byScan;simp[Value.scannable])];unfold setSearch;refine Gab (AF ho hd hf X im hn hu hK ?_ ?_ 100000 0 J rfl ?_ ?_)
 .rintro⟨i,XF⟩;dsimp only;have hany:ix.any (λi=>eqD (ds.getD i .non) dx)=O:=by
   simp only[mF,Classical.not_forall] at XF;obtain⟨hh,v,d,e1,e2,e3⟩:=XF;have hv:v∈es.toList.map (·.2):=Gas.mpr ⟨(hh,v),by rw[Array.mem_toList_iff];exact Array.mem_of_getElem? e1,rfl⟩;obtain⟨i',xb,rfl⟩:=Gas.mp (hE.vals.mem_iff.mp hv);obtain⟨b2,Xo,WR⟩:=hI i' (XR i' xb);rw[Xo] at e2;have:=rL n e2 (WR.mono hold);subst this;exact GbZ.mpr ⟨i',xb,by simpa using e3⟩
  rw[Gao hany] at h;refine Gad ?_;have e:z={z with heap:=z.heap}:=by cases z;rfl
  rw[e];exact h _ z.heap (Heap.SameBut.refl a z.heap) ⟨o,es,ep,t,ho,hex,hd,hE⟩
 .intro k0 hk0 past un;dsimp only;have hany:ix.any (λi=>eqD (ds.getD i .non) dx)=M:=by
   rw[GbX];intro i hi hq;obtain⟨b2,Xo,WR⟩:=hI i (XR i hi);have hv:its.getD i .none∈es.toList.map (·.2):=hE.vals.mem_iff.mpr (Gas.mpr ⟨i,hi,rfl⟩);obtain⟨e,he,XT⟩:=Gas.mp hv;obtain⟨j,hj,rfl⟩:=GbB he;rw[Array.getElem_toList] at XT;have hj' :j<es.size:=by simpa using hj
   have:=un j es[j].1 es[j].2 (ds.getD i .non) (GaG hj') (by rw[XT,Xo];exact WR.mono hold);rw[this] at hq;cases hq
  rw[hany,Gai GaB] at h;have hn1:es.size+1<=t.mask:=by rcases bg with q|q|q<;>lia
  have X1:=hE.ok.put XB hk0 past hn1;have bl:(t.put (bw t k0 (t.probeStart (bz w n dx))).j).2<=es.size:=by
   have:=(jE (j:=(bw t k0 (t.probeStart (bz w n dx))).j) X.ris).1;rw[X.tok.size] at this;exact this
  have ml:(t.put (bw t k0 (t.probeStart (bz w n dx))).j).1.mask=t.mask:=rfl;have ll:(t.put (bw t k0 (t.probeStart (bz w n dx))).j).1.led=t.led:=rfl;refine Gab (GaT ho hd hf ?_);dsimp only;generalize t.put (bw t k0 (t.probeStart (bz w n dx))).j=tp at*;obtain⟨t1,p⟩:=tp;dsimp only at*;generalize hes1:SetTable.insertAt es p (bz w n dx,Value.ref b)=es1 at*;have WJ:es1.size=es.size+1:=by rw[<-hes1];exact mH bl
  have pv:(es1.toList.map (·.2)).Perm ((ix++[k]).map λi=>its.getD i .none):=by
   rw[<-hes1];refine(C6.map _).trans ?_;rw[Gay,GaC,List.map_singleton,hb];exact(List.Perm.cons _ hE.vals).trans (List.perm_append_comm (l₁:=[Value.ref b]))
  have s0:SAt z.heap a es t:=⟨o,ep,ho,hex,hd⟩
  have fin:∀u:SetTable,mE w g0 n es1 u->u.mask=t.mask->u.led=t.led->wpAny (model prog w) A (do
    storeSet a es1 u
    if(!M&&u.tooFull)=O then do
      setRelay a (SetTable.grown (es.size+1))
      pure O
     else pure O) R E z:=by
   intro u Zo hum hul;refine Gab (Ds s0 (by lia) λg ⟨s1,Xw⟩=> ?_);rw[Bool.not_false,Bool.true_and,Zo.tok.full,WJ,hum];refine GcE (λc=> ?_) (λc=> ?_)
   .have c' :=Gaq c;obtain⟨Zr,hM,hc,zf,Zh,XX⟩:∃Zr,SetTable.sizeAbove (SetTable.grown (es.size+1))=Zr+1/\cS Zr=O/\Zr%2=1/\es.size+1<=Zr/\Big Zr (es.size+1):=by
     rcases bg with⟨q1,q2⟩| ⟨q1,q2⟩| ⟨q1,q2⟩
     .have:es.size=4:=by lia
      rw[this];exact⟨31,by decide,Sw,rfl,by lia,.inr (.inl ⟨rfl,by lia⟩)⟩
     .have:es.size=18:=by lia
      rw[this];exact⟨127,by decide,Pt,rfl,by lia,.inr (.inr ⟨rfl,by lia⟩)⟩
     .lia
    obtain⟨t',order,e1,pm,m1,m5,X'⟩:=LK Zo hM hc zf (by lia);have WI:(order.filterMap (es1[·]?)).size=es1.size:=by
     have:=pm.length_eq;rw[GaZ,GaZ] at this;exact this
    have hM127:Zr<=127:=by rcases XX with q|q|q<;>lia
    obtain⟨o1,Y6,g1,g2,g3⟩:=id s1;refine Gab (Gab (GaT (s:={z with heap:=g}) g1 g3 Zo.tok.fits (GbU (by rw[hM];simp;lia) ?_)));rw[e1];refine Gab (GbU (by rw[WI];simp) (Gad (Ds (z:={z with heap:=g}) s1 (by rw[WI];lia) λg' ⟨⟨o2,Z7,r1,r2,r3⟩,Yh⟩=>Gad (h _ _ (Xw.trans Yh) ⟨o2,_,Z7,_,r1,r2,r3,X',(pm.map _).trans pv, ?_, ?_⟩))))
    .rw[m1,WI,WJ];exact XX
    .rw[m5,hul];exact hE.led
   .obtain⟨o1,Y6,g1,g2,g3⟩:=s1;refine Gad (h _ _ Xw ⟨o1,_,Y6,_,g1,g2,g3,Zo,pv, ?_,by rw[hul];exact hE.led⟩);rw[hum,WJ];rcases bg with⟨q1,q2⟩| ⟨q1,q2⟩| ⟨q1,q2⟩
    .exact .inl ⟨q1,by lia⟩
    .exact .inr (.inl ⟨q1,by lia⟩)
    .exact .inr (.inr ⟨q1,by lia⟩)
  refine GcE (λ_=>Gab (IS n im hn λbv=> ?_)) (λ_=>Gab (Gad ?_))
  .cases bv with
   |true=>
    exact fin t1 X1 ml ll
   |false=>
    exact fin _ X1.off ml ll
  .exact fin t1 X1 ml ll
 .have:SetTable.turns t.mask=t.mask+15:=rfl;lia
 .lia
noncomputable def imN:Nat->D->Bool
 |_,.int _=>O
 |_,.str _=>O
 |n+1,.tup ds=>ds.all (imN n)
 |_,_=>M
def kC(acc:List D)(d:D):List D:=if acc.any (λe=>eqD e d) then acc else acc++[d]
def oD(ds:List D):List D:=ds.foldl kC []
def mI(ds:List D):Nat->List Nat
 |0=>[]
 |i+1=>if(mI ds i).any (λj=>eqD (ds.getD j .non) (ds.getD i .non)) then mI ds i else mI ds i++[i]
theorem qi(ds:List D):∀i,∀j∈mI ds i,j<i
 |0,j,h=>by cases h
 |i+1,j,h=>by
  unfold mI at h;split at h
  .exact GbW (qi ds i j h)
  .rcases Gau.mp h with q|q
   .exact GbW (qi ds i j q)
   .simp_all
theorem nE(ds:List D):∀i,(mI ds i).length<=i
 |0=>Gan _
 |i+1=>by
  have:=nE ds i;unfold mI;split
  .lia
  .simp_all
theorem AJ(ds:List D):∀i,i<=ds.length->(mI ds i).map (λj=>ds.getD j .non)=oD (ds.take i)
 |0,_=>rfl
 |i+1,h=>by
  have ih:=AJ ds i (by lia);have hi:i<ds.length:=by lia
  have e:ds.getD i .non=ds[i]:=by simp[hi]
  have step:oD (ds.take (i+1))=kC (oD (ds.take i)) ds[i]:=by
   unfold oD;rw[<-List.take_append_getElem hi,List.foldl_append]
   rfl
  rw[step,<-ih];unfold kC;rw[Gdl];show List.map _ (if(mI ds i).any (λj=>eqD (ds.getD j .non) (ds.getD i .non)) then _ else _)=if(mI ds i).any (λj=>eqD (ds.getD j .non) ds[i]) then _ else _
  rw[e];split
  .rfl
  .rw[GaC,List.map_singleton,e]
def w6.at{g g' :ZK}(h:w6 w bt g0 n its g a ix)(e:∀o,g.get? a=U o->g'.get? a=U o):w6 w bt g0 n its g' a ix:=let⟨o,es,ep,t,ho,r⟩:=h;⟨o,es,ep,t,e o ho,r⟩
def FT{A:ZL}{R:Result->ZI->Prop}{fp:List ZG}{P:Nat->ZH->Prop}{St:Nat->ZI->Prop}{g0:ZK}{its:List ZH}(W:WalksS prog w A.in1 I fp wr G n P St)(S:ZG)(XY:S∉fp)(hI:Dy g0 m ds its)(zA:its.length=n)(WY:∀i v,P i v->its[i]? =U v)(hb:n<76)(hm:m<=8)(hu:A.units+1+m<cLine)
  (Z0:g0.get? S=J)(Yx:∀b∈wr,g0.get? b=J):
  ∀k i z,n -i=k->i<=n->St i z->(∀b o,g0.get? b=U o->z.heap.get? b=U o)->w6 w bt g0 m its z.heap S (mI ds i)->
   (∀y,Moved (S::wr) G z y->w6 w bt g0 m its y.heap S (mI ds n)->R (.ok (.ret .none)) y)->codeAny (model prog w) A (.builtin "set.update.loop" ⟨[.ref S,.ref I],[]⟩) R z:=by
 have out:=λh=>XY (W.sub _ h);intro k i z hk hi st old hS hR;refine uA (n:=n) (λi y=>St i y/\Moved (S::wr) G z y/\(∀b o,g0.get? b=U o->y.heap.get? b=U o)/\w6 w bt g0 m its y.heap S (mI ds i)) ?_ ?_ k i z (by lia) ⟨st,Moved.refl W.grefl,old,hS⟩
 .rintro i y Q E lt ⟨st,mv,old,hS⟩ up;refine W.item i y Q E lt st λv y' hP xJ zy => ?_;have li:i<its.length:=by lia
  have gv:its.getD i .none=v:=by rw[GcV,WY i v hP];rfl
  obtain⟨b,xH,im⟩:=hI i li;cases gv.symm.trans xH;have old' :=λb o e=>zy.heap b o (λq=>by rw[Yx b q] at e;cases e) (old b o e);refine up _ _ λQ' E' q=>GbJ (Gab (LH (im.mono old') (show A.units+1+m<cLine from hu) y'.toks _ _ λtk le=>LL (hS.at λo=>zy.heap S o out) hI old' (λj hj=>Nat.lt_trans (qi ds i j hj) li) li gv (by have:=nE ds i;lia) hm (show A.units+1+m<cLine from hu) λr g sb YZ=>q r _ ⟨?_, ?_,λb o e=> ?_,YZ⟩))
  .exact W.frame _ y' g tk xJ le λb q o e=>sb.extBut b o (λe=>XY (e▸q)) e
  .exact(mv.trans W.gtrans (zy.mono λ_=> .tail _)).trans W.gtrans ⟨λb o nb e=>sb.extBut b o (λe=>nb (e▸.head _)) e,W.grefl _,rfl,rfl,le⟩
  .exact sb.extBut b o (λq=>by rw[q,Z0] at e;cases e) (old' b o e)
 .rintro y Q E ⟨st,mv,old,hS⟩ fin;exact W.done y Q E st λy' zy =>fin y' (hR y' (mv.trans W.gtrans (zy.mono λ_=> .tail _)) (hS.at λo=>zy.heap S o out))
def FU(b:Bool):TOk (.fresh 0 0 b) 0:=⟨by show cS 7=O;decide,by show(7:Nat)%2=1;decide,rfl,rfl,Gba _⟩
def FV:SIx w bt g0 m its [] #[] (.fresh 0 0 (!bt)):=
 ⟨⟨FU _,λi h v e=>by simp at e,λi j _ x y hx _=>by simp[SetTable.fresh] at hx,λi h v j e _=>by simp at e⟩,List.Perm.nil,.inl ⟨rfl,by decide⟩,rfl⟩
def Dz{g:ZK}{b:ZG}(h:g.objs.size<=b):g.get? b=J:=by
 cases e:g.get? b with
 |none=>rfl
 |some o=>exact absurd (Gaz e) (Nat.not_lt.mpr h)
def FW{A:ZL}{z:ZI}{its:List ZH}(hh:A.handled=J)(hl:z.heap.IsList l its.toArray)(hI:Dy z.heap m ds its)(hb:its.length<76)(YM:m<=8)(hu:A.units+3+m<cLine)
  (h:∀g tk,w6 w (lG w) z.heap m its g z.heap.objs.size (mI ds its.length)->(∀b o,b<z.heap.objs.size->z.heap.get? b=U o->g.get? b=U o)->R (.ref z.heap.objs.size) {z with heap:=g,toks:=tk}):
  wpAny (model prog w) A (call (.type "set") [.ref l]) R E z:=by
 have ll:=let⟨_,q,_⟩:=hl
 Gaz q
 refine Pl hl λh1 eS it k=>FT (Walks.list (by simp[hh]) (z.heap.objs.size+1) l (GaI (GbW ll)) its.toArray).toS z.heap.objs.size (by simp[GbR ll]) hI (by simp) (λi v hv=>by simpa using hv) (by simpa using hb) YM (show A.units+2+1+m<cLine from hu) (Dz (Gan _)) (λb q=>by rw[GaU.mp q];exact Dz (GbO _))
  its.toArray.size 0 _ (Nat.sub_zero _) (Gba _) ⟨it,let⟨o,q,r⟩:=hl;⟨o,k l o q,r⟩⟩ k ⟨_,#[],0,_,eS,⟨rfl,rfl,rfl⟩,rfl,FV⟩ λy mv hS=> ?_
 rw[Moved.eq_with mv];exact h y.heap y.toks (by simpa using hS) λb o lt q=>mv.heap b o (by simp[GaI lt,GaI (GbW lt)]) (k b o q)
theorem uH{α β:Type}{f:α->β}:∀{ys:List β} {xs:List α},ys.Perm (xs.map f)->∃zs:List α,zs.Perm xs/\ys=zs.map f
 |[],xs,h=>by
  simp_all
 |y::ys,xs,h=>by
  obtain⟨x,hx,rfl⟩:=Gas.mp (h.mem_iff.mp Gaj);obtain⟨s,t,rfl⟩:=List.append_of_mem hx;have e:=h.trans ((GdA).map f);obtain⟨zs,h1,h2⟩:=uH e.cons_inv;exact⟨x::zs,(h1.cons x).trans GdA.symm,by rw[h2];rfl⟩
def AK{A:ZL}{z:ZI}{es:Array (Int×ZH)}{t:SetTable}(hh:A.handled=J)(hm:mC z.heap a es ep t)(hf:t.fits es.size=O)(hT:Tb (lG w) t)(yT:es.size<64)
  (h:∀ws,ws.Perm (es.toList.map (·.2))->∃cs,(∀G tk d,(∀b o,z.heap.get? b=U o->G.get? b=U o)->∀A',A'.units=A.units+2->vM prog w A' E {z with heap:=G,toks:=tk,drawn:=d} cs ws)/\
   ∀l h' tk d c p,Ord ws.length p->Up (rank cs) p ws.length->z.heap.objs.size<=l->(∀b o,z.heap.get? b=U o->h'.get? b=U o)->h'.get? l=U (seqObj "list" (p.toList.map λi=>ws.getD i Value.none).toArray c)->Q (.ref l) {z with heap:=h',toks:=tk,drawn:=d}):
  wpAny (model prog w) A (call (.builtin "sorted") [.ref a]) Q E z:=by
 have hsl:=Gbt;refine Calls.call_function_entry kind_sorted plain_sorted entry_sorted (args_sorted1 _) ?_;refine Gab (Gad (Gab (Az hh hm hf hT (by lia) λh' tk d xs eY hk hp=> ?_)));obtain⟨cs,hK,h⟩:=h (xs.map (·.2)) (hp.map _);have hxl:(xs.map (·.2)).length=es.size:=by rw[Gae,hp.length_eq];simp
 generalize xs.map (·.2)=ws at*;refine Gab (wpAny_newList ?_ (by lia));have yO:(h'.push (seqObj "list" ws.toArray 0)).get? h'.objs.size=U (seqObj "list" ws.toArray 0):=Gaw _ rfl;have keep:∀b o,z.heap.get? b=U o->(h'.push (seqObj "list" ws.toArray 0)).get? b=U o:=λb o e=>Gag _ (hk b o e);have zle:=GcM eY;refine Gab (GbJ (Gbc slot_list_sort ⟨_,yO,rfl⟩ entry_list_sort (lU yO (by lia) (λG hG=>hK G tk d (λb o e=>hG b o (GaI (GaJ (Gaz e) zle)) (keep b o e)) _ rfl) λp h1 h2=> ⟨_,rfl, ?_⟩) (args_list_sort _)));obtain⟨c,xA⟩:=sortedHeap_at yO;refine Gad ⟨_,rfl,h h'.objs.size _ tk d c p h1 h2 zle (λb o e=> ?_) xA⟩;have hb:=Gaz (hk b o e);exact(sortedHeap_old (GaI hb) (Nat.lt_trans hb (by rw[size_push'];exact Gdy _))).trans (keep b o e)
section
variable{X:Cx}{h:DE}{H:Hp}{F:ZG->Prop}
def w8(p:Zu ys us):∀(i:Nat) y u,ys[i]? =U y->us[i]? =U u->Zt y u:=by
 induction p with
 |nil=>intro i y u e _;simp at e
 |cons h t ih=>
  intro i y u e1 e2;cases i with
  |zero=>cases e1;cases e2;exact h
  |succ i=>exact ih i y u e1 e2
def Py{Z:St}{s:ZI}(I:Inv X e8 Z H s):∀n {d v u},imN n d=O->Rep X.K F H d v->Zt v u->Im s.heap n d u:=by
 intro n;induction n with
 |zero=>
  intro d v u hd r ru;cases r with
  |int i=>obtain⟨t,rfl⟩:=ru;exact .int _ _ _
  |str x=>obtain⟨t,rfl⟩:=ru;exact .str _ _ _
  |_=>simp[imN] at hd
 |succ n ih=>
  intro d v u hd r ru;cases r with
  |int i=>obtain⟨t,rfl⟩:=ru;exact .int _ _ _
  |str x=>obtain⟨t,rfl⟩:=ru;exact .str _ _ _
  | @tup a vs ds hH hl hr=>
   cases ru;obtain⟨its,xg,⟨o,h1,h2,m,h3⟩,_⟩:=I.tuple (SqT.of hH);refine .tup h1 h2 h3 ?_ λi d v e1 e2=> ?_
   .rw[hl,xg.length]
   .have hi:i<vs.length:=by
     rw[<-hl];exact(Gak.mp e1).1
    have xc :=Gar.mp hd d (Gax e1);exact ih xc (hr i d vs[i] e1 (Gac hi)) (w8 xg i _ _ (Gac hi) (by simpa using e2))
  |_=>simp[imN] at hd
def Nf(X:Cx)(v:ZG)(ds:List D)(vs:List V):HO:= .ext λh=>∃its o es ep t,Zu vs its/\h.get? v=U o/\o.ExactSet/\o.data= .set es ep t/\t.fits es.size=O/\Tb (lG X.w) t/\(es.toList.map (·.2)).Perm ((mI ds ds.length).map λi=>its.getD i .none)
def Sx(X:Cx):List V->Hp->VK->Prop:=λxs H Q=>∃(p:ZG) (ds:List D) (vs:List V) (F:ZG->Prop),xs=[.ref p]/\SqL X.K H p vs/\aN X.K F H ds vs/\ds.length<64/\(ds.all λd=>vL d&&imN 4 d)=O/\∀v,H v=J->Q (.ref v) (upd H v (Nf X v ds vs))
def C9(hc:X.calm=O)(hu:X.A.units+20<cLine):i0 X (.type "set") (Sx X):=by
 intro e8 s Z H xs us Q I rv h;obtain⟨p,ds,vs,F,rfl,hq,hr,hl,hok,q⟩:=h;obtain⟨u,rfl,ru⟩:=rv.one;cases ru;obtain⟨its,xg,pl,_⟩:=I.list hq;have hle:its.length=ds.length:=by rw[<-xg.length,hr.1]
 have hI:Dy s.heap 4 ds its:=λi hi=>by
  have hd:i<ds.length:=by lia
  have hv:i<vs.length:=by rw[<-hr.1];exact hd
  have ok:=Gar.mp hok ds[i] (GaA hd);rw[Gah] at ok;have im:=Py I 4 ok.2 (hr.2 i _ _ (Gac hd) (Gac hv)) (w8 xg i _ _ (Gac hv) (Gac hi));have e1:its.getD i .none=its[i]:=by simp[hi]
  have e2:ds.getD i .non=ds[i]:=by simp[hd]
  rw[e1,e2];generalize ds[i]=d at*;generalize its[i]=u at*;cases im with
  |tup ho hc hd hl hi=>exact⟨_,rfl,.tup ho hc hd hl hi⟩
  |_=>simp[vL] at ok
 refine FW (I.ok.hd hc) pl.isList hI (by lia) (by decide) (by lia) λg tk hS hk=> ?_;obtain⟨o,es,ep,t,ho,hex,hd,hE⟩:=hS;refine⟨.ref s.heap.objs.size,_,I.laid (λb o e=>hk b o (Gaz e) e) (Gan _) ?_,rfl,q _ I.fresh⟩;exact⟨⟨its,o,es,ep,t,xg,ho,hex,hd,hE.ok.tok.fits,⟨hE.led,λ_=>hE.ok.ris⟩,by rw[<-hle];exact hE.vals⟩,⟨o,ho⟩,λh1 h2 ⟨its,o,es,ep,t,r1,ho,r⟩ k=> ⟨its,o,es,ep,t,r1,k o ho,r⟩⟩
theorem uI{K:ai}{F:ZG->Prop}{H:Hp}{ds:List D}{vs:List V}(r:aN K F H ds vs):∀(jx:List Nat),(∀i∈jx,i<ds.length)->aN K F H (jx.map λi=>ds.getD i .non) (jx.map λi=>vs.getD i .non)
 |[],_=> .nil
 |i::jx,h=>by
  have hi:=h i Gaj;have hv:i<vs.length:=by rw[<-r.1];exact hi
  refine .cons ?_ (uI r jx λj hj=>h j (Gaf _ hj));have e1:ds.getD i .non=ds[i]:=by simp[hi]
  have e2:vs.getD i .non=vs[i]:=by simp[hv]
  show Rep K F H (ds.getD i .non) (vs.getD i .non);rw[e1,e2];exact r.2 i _ _ (Gac hi) (Gac hv)
theorem uJ{vs:List V}{us:List ZH}(r:Zu vs us):∀(jx:List Nat),(∀i∈jx,i<vs.length)->Zu (jx.map λi=>vs.getD i .non) (jx.map λi=>us.getD i .none)
 |[],_=> .nil
 |i::jx,h=>by
  have hi:=h i Gaj;have hv:i<us.length:=by rw[<-r.length];exact hi
  refine .cons ?_ (uJ r jx λj hj=>h j (Gaf _ hj));have e1:vs.getD i .non=vs[i]:=by simp[hi]
  have e2:us.getD i .none=us[i]:=by simp[hv]
  show Zt (vs.getD i .non) (us.getD i .none);rw[e1,e2];exact w8 r i _ _ (Gac hi) (Gac hv)
end
def rQ(ds:List D):Bool:=decide (ds.length<64)&&(ds.all λd=>vL d&&imN 4 d)&&ZA ds
def nF(f:DE):DE:=λenv=>(f env).bind λr=>match r.d with
 | .lst ds=>if rQ ds then U ⟨.tn,.lst (bG (oD ds))⟩ else J
 |_=>J
noncomputable def intsOf:List D->Option (List Int)
 |[]=>U []
 | .int i::ds=>(intsOf ds).map (i:: ·)
 |_=>J
noncomputable def LM:List Int->List Int->Bool
 |[],[]=>M
 |[],_::_=>O
 |_::_,[]=>M
 |x::xs,y::ys=>if x=y then LM xs ys else decide (x<y)
def J1:D->D->Option Bool
 | .tup as,.tup bs=>(intsOf as).bind λx=>(intsOf bs).map λy=>LM x y
 |_,_=>J
def Ca(h:∀x∈es,x∈ds)(k:ZA ds=O):ZA es=O:=by
 have all:∀{p:D->Bool},ds.all p=O->es.all p=O:=λ{p} q=>Gar.mpr λx hx=>Gar.mp q x (h x hx);unfold ZA at*;rw[GaX] at*;rcases k with k|k
 .exact .inl (all k)
 .rw[Gah,GaX] at*;refine .inr ⟨k.1.imp all all, ?_⟩;refine Gar.mpr λx hx=>Gar.mpr λy hy=> ?_;exact Gar.mp (Gar.mp k.2 x (h x hx)) y (h y hy)
def LN(ds:List D):∀x∈oD ds,x∈ds:=by
 have key:∀(ds acc:List D) x,x∈ds.foldl kC acc->x∈acc\/x∈ds:=by
  intro ds;induction ds with
  |nil=>intro acc x hx;exact .inl hx
  |cons d ds ih=>
   intro acc x hx;rcases ih _ x hx with h|h
   .unfold kC at h;split at h
    .exact .inl h
    .rcases Gau.mp h with h|h
     .exact .inl h
     .rw[GaU.mp h];exact .inr Gaj
   .simp_all
 intro x hx;rcases key ds [] x hx with h|h
 .cases h
 .exact h
section
variable{X:Cx}{H:Hp}{F:ZG->Prop}
def FX(X:Cx):List V->Hp->VK->Prop:=λxs H Q=>∃(v:ZG) (ds:List D) (vs:List V) (F:ZG->Prop),xs=[.ref v]/\H v=U (Nf X v ds vs)/\aN X.K F H ds vs/\ds.length<64/\ZA ds=O/\
 ∀l out,H l=J->(∀F',aN X.K F' H ds vs->aN X.K F' H (bG (oD ds)) out)->Q (.ref l) (upd H l (.lst out))
def tD(hc:X.calm=O):i0 X (.builtin "sorted") (FX X):=by
 intro e8 s Z H xs us Q I rv h;obtain⟨v,ds,vs,F,rfl,hv,hr,yT,hok,q⟩:=h;obtain⟨u,rfl,ru⟩:=rv.one;cases ru;obtain⟨⟨its,o,es,ep,t,xg,ho,hex,hd,hf,hT,XN⟩,_,_⟩:=I.hok v _ hv;have hvl:=hr.1.symm;have yu:es.size<=ds.length:=by
  have e:=XN.length_eq;have:=nE ds ds.length;simp at e;lia
 refine AK (I.ok.hd hc) ⟨o,ho,hex,hd⟩ hf hT (by lia) λws Yw=> ?_;obtain⟨jx,yP,zS⟩:=uH (Yw.trans XN);have zm:=λi hi=>qi ds ds.length i (yP.mem_iff.mp hi);have hjn:jx.length<=ds.length:=by rw[yP.length_eq];exact nE ds ds.length
 have R' :∀F',aN X.K F' H ds vs->aN X.K F' H (jx.map λi=>ds.getD i .non) (jx.map λi=>vs.getD i .non):=λF' r=>uI r jx zm;have V' :=uJ xg jx λi hi=>by rw[hvl];exact zm i hi
 rw[<-zS] at V';have xP :(jx.map λi=>ds.getD i D.non).Perm (oD ds):=by
  have:=AJ ds ds.length (Gan _);rw[List.take_length] at this;rw[<-this];exact yP.map _
 have xQ :=Ca (λx hx=>LN ds x (xP.mem_iff.mp hx)) hok;have hln:(jx.map λi=>ds.getD i D.non).length=jx.length:=Gae _;have hlw:ws.length=jx.length:=by rw[zS];exact Gae _
 have hly:(jx.map λi=>vs.getD i V.non).length=jx.length:=Gae _;generalize (jx.map λi=>ds.getD i D.non)=xv at*;generalize (jx.map λi=>vs.getD i V.non)=ys' at*;have hK:=vO I (R' F hr) (An xQ) V';refine⟨xv.map code,λG tk d hG A' hA=>vT (kA (λd v kv=>FH hG kv) hK) xQ,λl h' tk d c p h1 h2 hl hk xA=> ?_⟩;have xI :Ord xv.length p:=by rw[hln,<-hlw];exact h1
 have zo :Up (rank (xv.map code)) p xv.length:=by rw[hln,<-hlw];exact h2
 have uniq:=gr ((jB xI).trans (xP.trans (bT _).symm)) (qX xI zo) (cR _) λa ha b hb=>Ak xQ a ((jB xI).mem_iff.mp ha) b ((jB xI).mem_iff.mp hb);have h1v:Ord ys'.length p:=by rw[hly,<-hln];exact xI
 have fresh:=I.hok.fresh hl;have hsl:=Gbt;refine⟨.ref l,_,(I.laid (o:= .lst (p.toList.map λi=>ys'.getD i .non)) hk hl ?_).draw d,rfl,q _ _ fresh λF' r=> ?_⟩
 .refine⟨?_,_,c,Ap h1v V',xA⟩;rw[Gae,GaZ,h1v.size];lia
 .rw[<-uniq];exact Ao xI (R' F' r)
def AL(hc:X.calm=O)(hu:X.A.units+20<cLine)(hg:Gl X "sorted")(hm:X.mg "sorted"=J)(yB:Gl X "set")(zj:X.mg "set"=J)(he:PEd X e f)
  (xa:autoParam (starEach [e] X.env=[(M,eval e X.env)]) Za1._auto_1)
  (xd:autoParam (starEach [.Call (.Name "set" p2) [e] [] eE] X.env=[(M,eval (.Call (.Name "set" p2) [e] [] eE) X.env)]) Za1._auto_1):
  PEd X (.Call (.Name "sorted" p) [.Call (.Name "set" p2) [e] [] eE] [] pos) (nF f):=by
 refine(qq (tD hc) hg hm rfl (kU (oe (C9 hc hu) yB zj rfl (kU he o9 xa) (by decide) (by decide) xa rfl) o9 xd) (by decide) (by decide) xd rfl).aG ?_;rintro Z H Q ⟨H0,eC,env,rv,E,e,k⟩;obtain⟨r,hr,e⟩:=eh e;split at e
 .rename_i ds hd;split at e
  .rename_i hok;cases e;unfold rQ at hok;rw[Gah,Gah] at hok;obtain⟨⟨o1,o2⟩,o3⟩:=hok;refine⟨H0,eC,env,r,E,hr,λv H1 s1 R1=> ?_⟩;have i:=R1.inn;rw[hd] at i;cases i with
   | @lst a vs _ hq rk=>
    refine⟨a,ds,vs,_,rfl,.inl hq,rk,Gaq o1,o2,λv hv=> ⟨v,ds,vs,_,rfl,aD,rk.gen (.ZC (aW hv)) λ_ f _=>f,Gaq o1,o3,λl out hl X5=> ?_⟩⟩;have XQ:H1 l=J:=by
     by_cases z:l=v
     .subst z;exact hv
     .rw[ao z] at hl;exact hl
    exact k _ _ (s1.trans ((aW hv).trans (aW hl))) ⟨l,rfl,s1.free XQ,⟨_,aD,trivial⟩,rfl,ft hl (X5 _ (rk.gen (.ZC (aW hv)) λ_ f _=>f))⟩
  .cases e
 .cases e
theorem DB:∀a b,LM a b=HT.lexLt a b
 |[],[]=>rfl
 |[],_::_=>rfl
 |_::_,[]=>rfl
 |x::xs,y::ys=>by
  show(if x=y then LM xs ys else decide (x<y))=(if x=y then HT.lexLt xs ys else decide (x<y));rw[DB xs ys]
theorem oE:∀ds ns,intsOf ds=U ns->ds=ns.map .int
 |[],ns,h=>by cases h;rfl
 |d::ds,ns,h=>by
  unfold intsOf at h;split at h
  .rename_i e;cases e
  .rename_i i es e;cases e;obtain⟨m,hm,rfl⟩:=Gaa.mp h;rw[oE ds m hm];rfl
  .cases h
theorem mJ{K:ai}{F:ZG->Prop}{H:Hp}:∀{ns:List Int} {vs:List V},aN K F H (ns.map D.int) vs->vs=ns.map V.int
 |[],vs,r=>by
  have:=r.1;cases vs with
  |nil=>rfl
  |cons v vs=>simp at this
 |n::ns,vs,r=>by
  obtain⟨v,vr,rfl,r1,r2⟩:=aN.cons_inv (by exact r);cases r1;rw[mJ r2]
  rfl
def LO:OpB X J1 (Rm X.K):=by
 intro F H dx dy x y b Q ix iy e q;unfold J1 at e;split at e
 .obtain⟨m,hm,ee⟩:=eh e;obtain⟨n,hn,el⟩:=Gaa.mp ee;have e1:=oE _ _ hm;have e2:=oE _ _ hn;subst e1 e2;cases ix with
  |tup hx rx=>
   cases iy with
   |tup hy ry=>
    have:=mJ rx;subst this;have:=mJ ry;subst this;refine⟨_,_,m,n,rfl,rfl,SqT.of hx,SqT.of hy, ?_⟩;rw[<-DB,el];exact q
 .cases e
end
@[simp] def frE(f:DE):DE:=λenv=>(f env).bind λr=>match r with
 | ⟨.tn,.lst ds⟩=>if aA ds then U ⟨.c,.fl ds⟩ else J
 |_=>J
@[simp] def LP:List Nat->Env->Option Env
 |[],env=>U env
 |i::is,env=>match env[i]? with
  |some (U (.own (.lst ds)))=>if aA ds then LP is (env.set i (U (.sh (.fl ds)))) else J
  |_=>J
@[simp] def FY(is:List Nat)(f:DS):DS:=λenv=>(LP is env).bind f
def _root_.L2.Inv.J3{s:ZI}(I:Inv X e8 Z H s)(e:H a=U (.lst vs))(ho:s.heap.get? a=U o):Inv X e8 Z (upd H a (.frz o (.lst vs))) s:=by
 have:=qc (t' :=s.toks) (ob:= .frz o (.lst vs)) I (by rw[e];trivial) (Heap.SameBut.refl _ _) ⟨o,ho⟩
  ⟨ho,(I.hok a _ e).dM (λb u _ q=>q) (λb q=>by rw[ao (tU q e (by simp))];exact q) λb xs q=>by rw[ao (tU q e (by simp))];exact q⟩
 exact this
def AM{Z:St}(I:Inv X e8 Z H s)(e:H a=U (.lst vs)):∃o,Inv X e8 Z (upd H a (.frz o (.lst vs))) s:=by
 obtain⟨_,its,m,_,ho⟩:=I.hok a _ e;exact⟨_,I.J3 e ho⟩
def rR(e:H a=U (.lst ws))(n:¬F a):i9 F H (upd H a (.frz o (.lst ws))):=λb ob hb w=>by
 have:b≠a:=by
  rintro rfl;rcases w with w|w
  .exact n w
  .rw[e] at hb;cases hb;exact w
 rw[ao this];exact hb
def rS{H:Hp}{K:ai}(e:H a=U (.lst ws))(im:aA ds=O)(r:aN K F H ds vs):aN K F' (upd H a (.frz o (.lst ws))) ds vs:=
 (r.imm (F' :=λ_=>False) im).gen (rR e id) λ_ f _=>f.elim
def set_own{env:Env}(he:env[i]? =U (U (.own d))):(env.set i x)[j]? =if j=i then U x else env[j]? :=by
 have hi:=(Gak.mp he).1;rw[Gdu];by_cases z:i=j
 .subst z;simp[hi]
 .rw[Gai z,Gai (λe=>z e.symm)]
def nG{env:Env}(he:env[i]? =U (U (.own d)))(h:b5 (env.set i (U (.sh d')))[j]?):j≠i/\b5 env[j]? :=by
 rw[set_own he] at h;by_cases z:j=i
 .rw[Gao z] at h;exact h.elim
 .rw[Gai z] at h;exact⟨z,h⟩
def av.J3{H:Hp}{K:ai}{env:Env}{i:Nat}(E:av K H0 eC env Z H)(he:env[i]? =U (U (.own (.lst ds))))(im:aA ds=O):∃a vs,H a=U (.lst vs)/\∀o,av K H0 eC (env.set i (U (.sh (.fl ds)))) Z (upd H a (.frz o (.lst vs)))/\Stp env Z H (env.set i (U (.sh (.fl ds)))) Z (upd H a (.frz o (.lst vs))):=by
 obtain⟨a,h1,h2,h3,h4,_,h6⟩:=E.ow i _ (.inl he);obtain⟨vs,hA,rp⟩:=kY h4 h6;refine⟨a,vs,hA,λo=> ?_⟩;have na:¬Cln eC env Z a:=λz=>z.2 i (by rw[he];trivial) h1;have sy:=rR (o:=o) hA na;have up:∀b ob,b≠a->H b=U ob->upd H a (.frz o (.lst vs)) b=U ob:=λb ob ne e=>by rw[ao ne];exact e
 have cl:∀b,Cln eC env Z b->Cln eC (env.set i (U (.sh (.fl ds)))) Z b:=λb h=> ⟨h.1,λj t=>h.2 j (nG he t).2⟩;have oth:∀{j:Nat} {x:Slot},(∀y,x≠ .sh y)->(env.set i (U (.sh (.fl ds))))[j]? =U (U x)->j≠i/\env[j]? =U (U x):=λ{j x} hx e=>by
  rw[set_own he] at e;by_cases z:j=i
  .rw[Gao z] at e;cases e;exact absurd rfl (hx _)
  .rw[Gai z] at e;exact⟨z,e⟩
 have dif:∀{j:Nat} {b:ZG},j≠i->b5 env[j]? ->Z[j]? =U (U (.ref b))->b≠a:=λ{j b} ne t e z=>ne (E.dj i j a (by rw[he];trivial) t h1 (by rw[<-z];exact e)).symm;have wr:∀{b:ZG},b≠a->Wr H b->Wr (upd H a (.frz o (.lst vs))) b:=λ{b} ne ⟨x,q1,q2⟩=> ⟨x,up _ _ ne q1,q2⟩;have inn:∀{d:D} {b:ZG},b≠a->Inn K (Cln eC env Z) H d (.ref b)->Inn K (Cln eC (env.set i (U (.sh (.fl ds)))) Z) (upd H a (.frz o (.lst vs))) d (.ref b):=λ{d b} ne q=>q.gen sy (λb f _=>cl b f) λc ec _ ob eo=>by cases ec;exact up _ _ ne eo
 refine⟨⟨λb ob e=> ?_,by rw[List.length_set];exact E.len,λb h=> ?_,λj d' e=> ?_,λj d' e=> ?_,λj d' e=> ?_,λj k b t1 t2 e1 e2=> ?_⟩,λb ob e n=> ?_,λb h=> ?_,λj h=> ?_⟩
 .exact up _ _ (λz=>by rw[z,h2] at e;cases e) (E.same b ob e)
 .by_cases z:b=a
  .rw[z,aD];simp
  .rw[ao z];exact E.bad b h
 .rw[set_own he] at e;by_cases z:j=i
  .rw[Gao z] at e;cases e;subst z;have r:=rS (o:=o) (F' :=Cln eC (env.set j (U (.sh (.fl ds)))) Z) hA im rp;exact⟨.ref a,h1,.fl aD r.1 r.2⟩
  .rw[Gai z] at e;obtain⟨v,q1,q2⟩:=E.sh j d' e;exact⟨v,q1,q2.gen sy λb f _=>cl b f⟩
 .have t:j≠i/\(env[j]? =U (U (.own d'))\/env[j]? =U (U (.lok d'))):=by
   rcases e with e|e
   .have:=oth (by intro y q;cases q) e;exact⟨this.1,.inl this.2⟩
   .have:=oth (by intro y q;cases q) e;exact⟨this.1,.inr this.2⟩
  obtain⟨b,q1,q2,q3,q4,q5,q6⟩:=E.ow j d' t.2;have ne:=dif t.1 (by rcases t.2 with e|e<;>rw[e]<;>trivial) q1;exact⟨b,q1,q2,q3,wr ne q4,q5,inn ne q6⟩
 .have t:=oth (by intro y q;cases q) e;obtain⟨b,q1,q2,q3,q4⟩:=E.bo j d' t.2;have ne:=dif t.1 (by rw[t.2];trivial) q1;exact⟨b,q1,wr ne q2,q3,inn ne q4⟩
 .have g1:=nG he t1.top;have g2:=nG he t2;refine E.dj j k b ?_ g2.2 e1 e2;rw[set_own he,Gai g1.1] at t1;exact t1
 .exact up _ _ (λz=>n ⟨i,by rw[he];trivial,by rw[z];exact h1⟩) e
 .obtain⟨j,q1,q2⟩:=h;refine .inl ⟨j, ?_,q2⟩;have g:=nG he q1.ol.top;rw[set_own he,Gai g.1] at q1;exact q1
 .have g:=nG he h.top;rw[set_own he,Gai g.1];exact⟨rfl,rfl⟩
theorem DC{X:Cx}{e8:LAO}{Z:St}{H0:Hp}{s:ZI}{eC:ZG->Prop}:∀is env eQ H,LP is env=U eQ ->Inv X e8 Z H s->av X.K H0 eC env Z H->∃H',Inv X e8 Z H' s/\av X.K H0 eC eQ Z H' /\Stp env Z H eQ Z H'
 |[],env,eQ,H,e,I,E=>by cases e;exact⟨H,I,E,.refl⟩
 |i::is,env,eQ,H,e,I,E=>by
  unfold LP at e;split at e
  .rename_i ds he;split at e
   .rename_i im;obtain⟨a,vs,hA,k⟩:=E.J3 he im;obtain⟨o,I1⟩:=AM I hA;obtain⟨E1,p1⟩:=k o;obtain⟨H2,I2,E2,p2⟩:=DC is _ eQ _ e I1 E1;exact⟨H2,I2,E2,p1.trans p2⟩
   .cases e
  .cases e
def Pz{st:ZP}{is:List Nat}(h:PSd X st f):PSd X st (FY is f):=by
 intro e8 s Z H D I q;obtain⟨H0,eC,env,o,E,e,k⟩:=q;obtain⟨eQ,h1,e⟩:=eh e;obtain⟨H',I',E',p⟩:=DC is env eQ H h1 I E;refine h e8 s Z H' D I' ⟨H0,eC,eQ,o,E',e, ?_⟩;cases o with
 |nx e2=>exactλZ2 H2 E2 p2=>k Z2 H2 E2 (p.trans p2)
 |bk e2=>exactλZ2 H2 E2 p2=>k Z2 H2 E2 (p.trans p2)
 |ct e2=>exactλZ2 H2 E2 p2=>k Z2 H2 E2 (p.trans p2)
 |ret d=>exact k
def Sy(he:PEd X e g):PEd X e (frE g):=by
 intro e8 s Z H Q I q;obtain⟨H0,eC,env,r,E,e',k⟩:=q;obtain⟨r1,h1,e'⟩:=eh e';split at e'
 .rename_i ds;split at e'
  .rename_i im;cases e';refine thn (he e8 s Z H (λv H1=>c9 H H1/\iV X.K H0 eC env Z H H1 ⟨.tn,.lst ds⟩ v) I ⟨H0,eC,env,_,E,h1,λv H1 s1 R=> ⟨s1,R⟩⟩) λu s' ep=> ?_;obtain⟨v,H1,I1,rv,s1,a,rfl,n,w,_,i⟩:=ep;obtain⟨vs,hA,rp⟩:=kY w i;obtain⟨o,I2⟩:=AM I1 hA;have r:=rS (o:=o) (F' :=Cln eC env Z) hA im rp;exact⟨.ref a,_,I2,rv,k _ _ (λb ob hb=>by rw[ao (λz=>by rw[z,n] at hb;cases hb)];exact s1 b ob hb) (.fl aD r.1 r.2)⟩
  .cases e'
 .cases e'
structure Gm where
 N:List Str
 kd:Str->Option ZS
 fns:Str->Option (Nat×(SpF))
 bl:List Str
 top:Bool
 yy:Bool
 fz:List Str:=[]
structure Ev where
 E:ZJ->Option DE
 V:ZJ->Option DT
 T:ZJ->Option DT
 W:ZJ->Option DT
 S:ZP->Option DS
 B:List ZP->Option DS
noncomputable def aU{α:Type}(b:Bool)(x:Option α):Option α:=if b then x else J
def au{α:Type}{x:Option α}{y:α}(h:aU b x=U y):b=O/\x=U y:=by
 unfold aU at h;simp_all
noncomputable def ixN(N:List Str)(x:Str):Option Nat:=N.findIdx? λy=>y==x
def J4(h:ixN N x=U i):N[i]? =U x:=by
 obtain⟨h1,h2,_⟩:=Gcp.mp h;simp_all
def rdK:Option ZS->Bool
 |some .local=>O
 |some .cell=>O
 |some .free=>O
 |_=>M
noncomputable def odd(x:Str):Bool:=x=="__debug__"||x=="__classdict__"
def vR(G:Gm)(x:Str):Option Nat:=aU (rdK (G.kd x)&& !odd x) (ixN G.N x)
def lR(G:Gm)(x:Str):Option Nat:=aU (G.kd x==U .local||(G.top&&G.kd x==U .cell)) (ixN G.N x)
def gR(G:Gm)(x:Str):Bool:=G.kd x==U .globalImplicit&& !odd x&&x !="__name__"
def bR(G:Gm)(x:Str):Bool:=gR G x&&G.bl.contains x
noncomputable def ns:ZJ->Bool
 | .Starred _ _=>M
 |_=>O
def aR(f:ZJ->Option DE):List ZJ->Option (Nat×DA)
 |[]=>U (0,aX)
 |e::es=>aU (ns e) ((f e).bind λx=>(aR f es).map λr=>(r.1+1,aa x r.2))
structure fN(G:Gm)(X:Cx):Prop where
 N:X.N=G.N
 nd:X.N.Nodup
 vis:∀x,rdK (G.kd x)=O->Vis X.env.scope x
 loc:∀x,(G.kd x==U .local||(G.top&&G.kd x==U .cell))=O->Loc X.env.scope x/\(X.fn x=O\/X.env.scope.names.lookup x=U .local)
 gl:∀x,G.kd x=U .globalImplicit->Gl X x
 cf:∀x,Ac (G.kd x)=O->Ac (X.env.kindOf x)=O
 sw:G.top=O->∀x,(X.env.blockKind== .function&&X.env.kindOf x==U .local)=(G.kd x==U .local)
 calm:X.calm=O
 own:X.xe=λ_ _=>False
 hu:X.A.units+20<cLine
 fns:∀x np sp,G.fns x=U (np,sp)->∃k fa fd ps,jr X.prog X.w X.K X.mg X.base CX0 k fa fd ps (spD X.K np sp)/\iT k X.A/\X.mg x=U (.ref fa)/\PySem.W.keepIn X.K (.ref fa)=O/\Binds X.K fd ps []
 no:∀x∈G.bl,X.mg x=J
structure mK(v:Ev)(X:Cx):Prop where
 E:∀e f,v.E e=U f->PEd X e f
 V:∀e t,v.V e=U t->PEd X e (bE t)
 T:∀e t,v.T e=U t->PTd X e t
 W:∀e t,v.W e=U t->PWd X e t
 S:∀s f,v.S s=U f->PSd X s f
 B:∀b f,v.B b=U f->lD X b f
def bP(h:ns e=O):starEach (e::es) env=(M,eval e env)::starEach es env:=by
 cases e<;>first|rfl|cases h
def fN.hu1{X:Cx}(g:fN G X):X.A.units+1<cLine:=by have:=g.hu;lia
def DF{X:Cx}(g:fN G X)(h:vR G x=U i):X.N[i]? =U x/\Vis X.env.scope x/\(x==("__debug__":Str))=M/\(x==("__classdict__":Str))=M:=by
 obtain⟨h1,h2⟩:=au h;rw[Gah] at h1;have:=h1.2;unfold odd at this;simp only[Bool.not_eq_true',GdL] at this;exact⟨by rw[g.N];exact J4 h2,g.vis x h1.1,this.1,this.2⟩
def DH{X:Cx}(g:fN G X)(h:lR G x=U i):X.N[i]? =U x/\Loc X.env.scope x/\(X.fn x=O\/X.env.scope.names.lookup x=U .local):=by
 obtain⟨h1,h2⟩:=au h;exact⟨by rw[g.N];exact J4 h2,g.loc x h1⟩
def Ng(g:fN G X)(h:gR G x=O):Gl X x/\x≠"__name__"/\(x==("__debug__":Str))=M:=by
 unfold gR at h;simp only[Gah,bne_iff_ne,Gbv] at h;have:=h.1.2;unfold odd at this;simp only[Bool.not_eq_true',GdL] at this;exact⟨g.gl x h.1.1,h.2,this.1⟩
def lV{X:Cx}(g:fN G X)(h:bR G x=O):Gl X x/\X.mg x=J/\x≠"__name__"/\(x==("__debug__":Str))=M:=by
 unfold bR at h;rw[Gah] at h;obtain⟨h1,h2,h3⟩:=Ng g h.1;exact⟨h1,g.no x (by simpa using h.2),h2,h3⟩
theorem pD{X:Cx}(hf:∀e d,f e=U d->PEd X e d):∀{es n r},aR f es=U (n,r)->
  PAd X es r/\(∀env rs,r env=U rs->rs.length=n)/\(∀pos,(backTo pos (starEach es X.env)).any (·.1)=M)/\es.all ns=O
 |[],n,r,h=>by cases h;exact⟨gF,L4,λ_=>rfl,rfl⟩
 |e::es,n,r,h=>by
  obtain⟨h1,h2⟩:=au h;obtain⟨x,hx,h2⟩:=eh h2;obtain⟨⟨m,q⟩,hq,h2⟩:=Gaa.mp h2;cases h2;obtain⟨a1,a2,a3,a4⟩:=pD hf hq;refine⟨cL (hf e x hx) a1 (bP h1),HJ a2,λpos=> ?_,by rw[GbA,h1,a4];rfl⟩;rw[bP h1];exact a3 pos
def DJ(h:aR f es=U (n,r))(hn:n≠0):∃e t,es=e::t/\ns e=O/\∃m q,aR f t=U (m,q):=by
 cases es with
 |nil=>cases h;exact absurd rfl hn
 |cons e t=>
  obtain⟨h1,h2⟩:=au h;obtain⟨x,hx,h2⟩:=eh h2;obtain⟨⟨m,q⟩,hq,h2⟩:=Gaa.mp h2;exact⟨e,t,rfl,h1,m,q,hq⟩
def LQ(op:CmpOp)(b:ZJ):Option (D->D->Option Bool):=aU (!behindInMarks op b) (match op,b with
 | .Lt,.Tuple _ _ _=>U J1
 | .Is,.Constant .none _ _=>U kf
 | .IsNot,.Constant .none _ _=>U iX
 | .Is,_=>J
 | .IsNot,_=>J
 | .Eq,_=>U eqB
 | .NotEq,_=>U neB
 | .Lt,_=>U ltB
 | .LtE,_=>U leB
 | .Gt,_=>U gtB
 | .GtE,_=>U geB
 | .In,_=>U inB
 | .NotIn,_=>U Ai)
def FZ(x:Str)(n:Nat):Option (SpV):=
 if x="len"/\n=1 then U cO else if x="min"/\n=2 then U uf
 else if x="any"/\n=1 then U anyS else if x="all"/\n=1 then U BC
 else if x="int"/\n=1 then U Aj else if x="tuple"/\n=1 then U dz
 else if x="sorted"/\n=1 then U Zy else J
noncomputable def PB(x:Str):Option String:=
 if x="int" then U "int" else if x="bool" then U "bool" else if x="str" then U "str" else if x="tuple" then U "tuple" else if x="list" then U "list" else J
noncomputable def Sz:ZJ->Bool
 | .Slice _ _ _ _=>M
 |_=>O
def PC(h:Sz b=O):vn b:=by
 cases b<;>first|exactλ_ _=>rfl|cases h
noncomputable def plT:ZJ->Bool
 | .UnaryOp _ _ _=>M
 | .BoolOp _ _ _=>M
 | .IfExp _ _ _ _=>M
 | .Compare _ _ _ _=>M
 |_=>O
def PD{e:ZJ}(h:plT e=O):∀whole,isTrue e env whole=(do let v<-whole;standAt e.pos;holding [v] (truthy v)):=by
 cases e<;>first|exactλ_=>rfl|cases h
def wa(g:fN G X)(h:LQ op b=U o):behindInMarks op b=M/\∃r,OpR X (compareOp op) r/\OpB X o r:=by
 obtain⟨h1,h2⟩:=au h;refine⟨by simpa using h1, ?_⟩;have hu:=g.hu;cases op
 case Lt=>cases b<;>cases Option.some.inj h2<;>first|exact⟨_,Ra,Og⟩|exact⟨_,NQ (by lia),LO⟩
 case Is=>
  cases b<;>try exact nn h2 rfl
  case Constant c _ _=>
   cases c<;>try exact nn h2 rfl
   cases Option.some.inj h2;exact⟨_,NL,KS⟩
 case IsNot=>
  cases b<;>try exact nn h2 rfl
  case Constant c _ _=>
   cases c<;>try exact nn h2 rfl
   cases Option.some.inj h2;exact⟨_,Kk,Hx⟩
 all_goals cases Option.some.inj h2
 .exact⟨_,OJ hu,OL⟩
 .exact⟨_,OK hu,OM⟩
 .exact⟨_,Rb,Oh⟩
 .exact⟨_,Rf,Oi⟩
 .exact⟨_,Rg,Oj⟩
 .exact⟨_,Pe hu,Pf⟩
 .exact⟨_,Lp hu,Lq⟩
def LR{X:Cx}(g:fN G X)(h:FZ x n=U o)(hb:bR G x=O)(ha:PAd X (e::es) ra)(he:ns e=O)(xm:(backTo pos (starEach es X.env)).any (·.1)=M):PEd X (.Call (.Name x p) (e::es) [] pos) (bD o ra):=by
 obtain⟨b1,b2,b3,b4⟩:=lV g hb;have hc:=g.calm;unfold FZ at h
 repeat' split at h
 all_goals first|cases h|skip
 all_goals (rename_i q;obtain⟨rfl,_⟩:=q)
 .exact qN GX F4 b1 b2 ON ha b3 b4 (bP he) xm
 .exact qN (EH hc) BF b1 b2 OO ha b3 b4 (bP he) xm
 .exact qN (Fj hc) Fn b1 b2 OQ ha b3 b4 (bP he) xm
 .exact qN (Fl hc) Fo b1 b2 OR ha b3 b4 (bP he) xm
 .exact A6 EI Fx b1 b2 HL ha b3 b4 (bP he) xm
 .exact A6 tf A7 b1 b2 Ab ha b3 b4 (bP he) xm
 .exact qN Aq vP b1 b2 F9 ha b3 b4 (bP he) xm
def LS{X:Cx}(h:PB x=U T):qP X.K T/\bootBuiltins x=U (.type T):=by
 unfold PB at h
 repeat' split at h
 all_goals first|cases h|skip
 all_goals (rename_i q;obtain rfl:=q)
 .exact⟨L8,HL⟩
 .exact⟨HP,L7⟩
 .exact⟨L9,OT⟩
 .exact⟨kit_tuple,Ab⟩
 .exact⟨HM,D8⟩
abbrev Rc:=Gm->Ev
def cqR(v:Ev)(a:ZJ):List CmpOp->List ZJ->Option DT
 |[op],[b]=>(LQ op b).bind λo=>(v.E a).bind λf=>(v.E b).map λg=>az o f g
 |[op,op'],[b,c]=>(LQ op b).bind λo=>(LQ op' c).bind λo' =>(v.E a).bind λf=>(v.E b).bind λg=>(v.E c).map λh=>jg o o' f g h
 |_,_=>J
def cpR(v:Ev):ZJ->Option DT
 | .Compare a ops bs _=>cqR v a ops bs
 |_=>J
noncomputable def nmO:ZJ->Option Str
 | .Name x _=>U x
 |_=>J
def isA(v:Ev)(G:Gm)(x:Str)(kw:List Keyword):List ZJ->Option DT
 |[e,t]=>(nmO t).bind λy=>aU (kw.isEmpty&&x=="isinstance"&&bR G x&&bR G y&&ns e) ((PB y).bind λT=>(v.E e).map λf=>oq T f)
 |_=>J
def Cb(v:Ev)(G:Gm):ZJ->Option DT
 | .Call f args kw _=>(nmO f).bind λx=>isA v G x kw args
 |_=>J
def bo(op:BoolOp)(t u:DT):DT:=match op with
 | .And=>fI t u
 | .Or=>orT t u
def bvR(v:ZJ->Option DT)(p:Pos)(op:BoolOp)(w:ZJ->Option DT):List ZJ->Option DT
 |[]=>J
 |a::r=>(match r with
  |[]=>v a
  |_::_=>(v a).bind λt=>(w (.BoolOp op r p)).map λu=>bo op t u)
def vV(v:Ev)(G:Gm)(e:ZJ):Option DT:=match e with
 | .Compare _ _ _ _=>cpR v e
 | .BoolOp op es p=>bvR v.V p op v.V es
 | .UnaryOp op a _=>(match op with
  | .Not=>(v.V a).map tm
  |_=>(v.E e).map jf)
 | .Call _ _ _ _=>(match Cb v G e with
  |some t=>U t
  |none=>(v.E e).map jf)
 |_=>(v.E e).map jf
def tV(v:Ev)(e:ZJ):Option DT:=match e with
 | .Compare _ _ _ _=>cpR v e
 | .BoolOp _ _ _=>v.W e
 | .UnaryOp op a _=>(match op with
  | .Not=>(v.T a).map tm
  |_=>J)
 |_=>aU (plT e) ((v.E e).map jf)
def wV(v:Ev):ZJ->Option DT
 | .BoolOp op es p=>bvR v.T p op v.W es
 |_=>J
def tgs(G:Gm):List ZJ->Option (List Nat)
 |[]=>U []
 |e::r=>(nmO e).bind λx=>(lR G x).bind λi=>(tgs G r).map λis=>i::is
def tgR(G:Gm):ZJ->Option DG
 | .Name x _=>(lR G x).map gN
 | .Tuple es _ _=>(tgs G es).map gT
 |_=>J
def tgN:ZJ->List Str
 | .Name x _=>[x]
 | .Tuple es _ _=>es.filterMap nmO
 |_=>[]
noncomputable def LU:ZJ->Bool
 | .Tuple _ _ _=>O
 |_=>M
noncomputable def PF:ZJ->Bool
 | .Set _ _ _=>M
 |_=>O
def PH:ZJ->Bool
 | .Call f args kw _=>(nmO f).isNone|| !args.isEmpty|| !kw.isEmpty
 |_=>O
def s1R(v:Ev)(G:Gm)(tg iter:ZJ)(x:Str):List ZJ->Option DI
 |[a]=>
  if x="range" then aU (bR G x&&ns a) ((v.E a).map cA)
  else if x="enumerate" then aU (bR G x&&ns a&&LU tg) ((v.E a).map ur)
  else(v.E iter).map cQ
 |[a,b]=>if x="range" then aU (bR G x&&ns a&&ns b) ((v.E a).bind λf=>(v.E b).map λg=>vp f g) else(v.E iter).map cQ
 |_=>(v.E iter).map cQ
def PJ(v:Ev)(G:Gm)(tg iter:ZJ):Option DI:=match iter with
 | .Call f args kw eE=>(match kw with
  |[]=>(match f with
   | .Name x _=>s1R v G tg iter x args
   | .Attribute o m apos=>(match args with
    |[]=>aU (m=="items"&&LU tg&&PH o&&(apos.endLine==eE.line)) ((v.E o).map (Dh cP))
    |_=>(v.E iter).map cQ)
   |_=>(v.E iter).map cQ)
  |_=>(v.E iter).map cQ)
 |_=>(v.E iter).map cQ
def Nh(G:Gm):ZJ->Option Nat
 | .Name x _=>ixN G.N x
 | .Call f args _ _=>(match args with
  |[e]=>if nmO f=U "enumerate" then(nmO e).bind (ixN G.N) else J
  |_=>J)
 |_=>J
def inG(G:Gm)(scope:ZO)(tn:List Str):Gm:={G with N:=tn++G.N.filter λx=>scope.names.lookup x==U .free,kd:=λx=>scope.names.lookup x,top:=M}
def PK(G:Gm)(scope:ZO):List Nat:=(G.N.filter λx=>scope.names.lookup x==U .free).filterMap (ixN G.N)
def scB(G:Gm)(scope:ZO)(N:List Str)(n:Nat)(ay:List Nat):Bool:=
 (scope.names.all λy=>y.2 != .cell)&&scope.kind== .function&&(scope.names.all λy=>y.2 != .local||scope.names.lookup y.1==U .local)&&(scope.names.all λy=>y.2 != .free||Ac (G.kd y.1))
  &&N.drop n==(ay.map λi=>(G.N[i]?).getD ("":Str))&&decide (n<=N.length)&&(ay.all λi=>decide (i<G.N.length))&&((N.drop n).all λx=>scope.names.lookup x==U .free)&&decide N.Nodup
def tsR(v:Ev):List ZJ->Option DT
 |[]=>U fK
 |[c]=>v.T c
 |_=>J
def J5(g:fN G X)(k:mK v X)(h:cpR v e=U t):PTd X e t/\PEd X e (bE t):=by
 cases e<;>try exact nn h rfl
 case Compare a ops bs p=>
  have h:cqR v a ops bs=U t:=h;rcases ops with _| ⟨op,_| ⟨op2,_|_⟩⟩<;>rcases bs with _| ⟨b,_| ⟨c,_|_⟩⟩<;>try exact nn h rfl
  .obtain⟨o,ho,h⟩:=eh h;obtain⟨f,hf,h⟩:=eh h;obtain⟨q,hq,rfl⟩:=Gaa.mp h;obtain⟨m,r,h1,h2⟩:=wa g ho;exact⟨Oe h1 h2 (k.E _ _ hf) (k.E _ _ hq) m,Of h1 h2 (k.E _ _ hf) (k.E _ _ hq) m⟩
  .obtain⟨o,ho,h⟩:=eh h;obtain⟨o',xn,h⟩:=eh h;obtain⟨f,hf,h⟩:=eh h;obtain⟨q,hq,h⟩:=eh h;obtain⟨u,hu,rfl⟩:=Gaa.mp h;obtain⟨m,r,h1,h2⟩:=wa g ho;obtain⟨m',r',xI,zo⟩:=wa g xn;exact⟨HA h1 h2 xI zo (k.E _ _ hf) (k.E _ _ hq) (k.E _ _ hu) m',HY h1 h2 xI zo (k.E _ _ hf) (k.E _ _ hq) (k.E _ _ hu) m'⟩
def Cc(h:nmO e=U x):∃p,e= .Name x p:=by
 cases e<;>first|exact nn h rfl|(cases h;exact⟨_,rfl⟩)
def DK(g:fN G X)(k:mK v X)(h:Cb v G e=U t):PEd X e (bE t):=by
 cases e<;>try exact nn h rfl
 case Call f args kw p=>
  obtain⟨x,hx,h2⟩:=eh h;clear h;obtain⟨px,rfl⟩:=Cc hx;unfold isA at h2;split at h2
  .obtain⟨y,hy,h3⟩:=eh h2;clear h2;obtain⟨py,rfl⟩:=Cc hy;obtain⟨c,h⟩:=au h3;obtain⟨T,hT,h⟩:=eh h;obtain⟨f,hf,rfl⟩:=Gaa.mp h;simp only[Gah,Gbv,Gcb] at c;obtain⟨⟨⟨⟨c0,c1⟩,c2⟩,c3⟩,c4⟩:=c;subst c0 c1;obtain⟨a1,a2,_,_⟩:=lV g c2;obtain⟨b1,b2,b3,b4⟩:=lV g c3;obtain⟨k1,k2⟩:=LS (X:=X) hT;exact OH k1 (k.E _ _ hf) a1 a2 b1 b2 k2 b3 b4 (bP c4) (bP rfl) rfl
  .cases h2
def Nj(g:fN G X)(k:mK v X)(h:vV v G e=U t):PEd X e (bE t):=by
 have ov:∀{e:ZJ},(v.E e).map jf=U t->PEd X e (bE t):=λh=>by
  obtain⟨u,hu,rfl⟩:=Gaa.mp h;exact Hy (k.E _ _ hu)
 cases e<;>try exact ov h
 case Compare=>exact(J5 (e:= .Compare _ _ _ _) g k h).2
 case BoolOp op es p=>
  match es,h with
  |[],h=>exact nn h rfl
  |[a],h=>exact Ot (k.V _ _ h)
  |a::b::r,h=>
   obtain⟨a,ha,h⟩:=eh h;obtain⟨u,hu,rfl⟩:=Gaa.mp h;cases op
   .exact Ou (k.V _ _ ha) (k.V _ _ hu)
   .exact Sb (k.V _ _ ha) (k.V _ _ hu)
 case UnaryOp op a p=>
  cases op<;>try exact ov h
  obtain⟨u,hu,rfl⟩:=Gaa.mp h;exact Ov (k.V _ _ hu)
 case Call f args kw p=>
  change (match Cb v G (.Call f args kw p) with|some t=>U t|none=>(v.E (.Call f args kw p)).map jf)=_ at h;cases q:Cb v G (.Call f args kw p) with
  |some u=>rw[q] at h;cases h;exact DK g k q
  |none=>rw[q] at h;exact ov h
def SA(g:fN G X)(k:mK v X)(h:tV v e=U t):PTd X e t:=by
 have ov:∀{e:ZJ},aU (plT e) ((v.E e).map jf)=U t->PTd X e t:=λh=>by
  obtain⟨c,h⟩:=au h;obtain⟨u,hu,rfl⟩:=Gaa.mp h;exact Ol (k.E _ _ hu) (PD c)
 cases e<;>try exact ov h
 case Compare=>exact(J5 (e:= .Compare _ _ _ _) g k h).1
 case BoolOp=>exact(k.W _ _ h).pt
 case UnaryOp op a p=>
  cases op<;>try exact nn h rfl
  obtain⟨u,hu,rfl⟩:=Gaa.mp h;exact Oq (k.T _ _ hu)
def SE(k:mK v X)(h:wV v e=U t):PWd X e t:=by
 cases e<;>try exact nn h rfl
 case BoolOp op es p=>
  match es,h with
  |[],h=>exact nn h rfl
  |[a],h=>
   cases op
   .exact KU (k.T _ _ h)
   .exact Om (k.T _ _ h)
  |a::b::r,h=>
   obtain⟨a,ha,h⟩:=eh h;obtain⟨u,hu,rfl⟩:=Gaa.mp h;cases op
   .exact Oo (k.T _ _ ha) (k.W _ _ hu)
   .exact Sa (k.T _ _ ha) (k.W _ _ hu)
theorem J6{X:Cx}(g:fN G X):∀{es is},tgs G es=U is->PGs X es (tGs X is)/\(assignEach es X.env).length=is.length/\(assignEach es X.env).findIdx? (·.1)=J
 |[],is,h=>by cases h;exact⟨L1,rfl,rfl⟩
 |e::r,is,h=>by
  obtain⟨x,hx,h2⟩:=eh h;clear h;obtain⟨p,rfl⟩:=Cc hx;obtain⟨i,hi,h⟩:=eh h2;obtain⟨js,hj,rfl⟩:=Gaa.mp h;obtain⟨h1,h2,h3⟩:=DH g hi;obtain⟨a1,a2,a3⟩:=J6 g hj;refine⟨HH (D6 g.nd h1 h2 h3) a1 rfl, ?_, ?_⟩
  .show(assignEach r X.env).length+1=_;rw[a2];rfl
  .show((M,assign (.Name x p) X.env)::assignEach r X.env).findIdx? (·.1)=J;rw[GdQ,a3];rfl
def Cd(g:fN G X)(h:tgR G e=U gd):PGd X e gd/\pj gd:=by
 cases e<;>try exact nn h rfl
 case Name x p=>
  obtain⟨i,hi,rfl⟩:=Gaa.mp h;obtain⟨h1,h2,h3⟩:=DH g hi;exact⟨D6 g.nd h1 h2 h3,HS⟩
 case Tuple es p q=>
  obtain⟨is,hi,rfl⟩:=Gaa.mp h;obtain⟨a1,a2,a3⟩:=J6 g hi;exact⟨OG g.calm a1 a2 a3 rfl,HU⟩
def qj(h:PF e=O):∀x,foldedSetIterable e env x=pure x:=by
 cases e<;>first|exactλ_=>rfl|cases h
def DN(h:PH o=O):attributeBase o m env (eval o env)=eval o env:=by
 cases o<;>try rfl
 case Call f a w p=>
  cases f<;>try rfl
  cases a<;>try rfl
  cases w<;>first|rfl|cases h
def J7(h:LU e=O):∃a b c,e= .Tuple a b c:=by
 cases e<;>first|exact⟨_,_,_,rfl⟩|cases h
def DP(g:fN G X)(k:mK v X)(h:PJ v G tg e=U src):PId X tg e src:=by
 have seq:∀{e:ZJ},(v.E e).map cQ=U src->PId X tg e src:=λh=>by
  obtain⟨u,hu,rfl⟩:=Gaa.mp h;exact OF (k.E _ _ hu)
 cases e<;>try exact seq h
 case Call f args kw p=>
  cases kw with
  |cons _ _=>exact seq h
  |nil=>
   cases f<;>try exact seq h
   case Name x px=>
    have h:s1R v G tg (.Call (.Name x px) args [] p) x args=U src:=h;unfold s1R at h;split at h
    .split at h
     .rename_i q;subst q
      obtain⟨c,h⟩:=au h;obtain⟨u,hu,rfl⟩:=Gaa.mp h;rw[Gah] at c;obtain⟨b1,b2,_⟩:=lV g c.1;exact F5 b1 b2 (k.E _ _ hu) (bP c.2)
     .split at h
      .rename_i q;subst q
       obtain⟨c,h⟩:=au h;obtain⟨u,hu,rfl⟩:=Gaa.mp h;simp only[Gah] at c;obtain⟨b1,b2,_⟩:=lV g c.1.1;obtain⟨_,_,_,rfl⟩:=J7 c.2;exact Lm b1 b2 (k.E _ _ hu) (bP c.1.2)
      .exact seq h
    .split at h
     .rename_i q;subst q
      obtain⟨c,h⟩:=au h;obtain⟨f,hf,h⟩:=eh h;obtain⟨u,hu,rfl⟩:=Gaa.mp h;simp only[Gah] at c;obtain⟨b1,b2,_⟩:=lV g c.1.1;exact F6 b1 b2 (k.E _ _ hf) (k.E _ _ hu) (by rw[bP c.1.2,bP c.2];rfl) (bP c.2)
     .exact seq h
    .exact seq h
   case Attribute o m apos=>
    cases args with
    |cons _ _=>exact seq h
    |nil=>
     obtain⟨c,h⟩:=au h;obtain⟨u,hu,rfl⟩:=Gaa.mp h;simp only[Gah,Gbv] at c;obtain⟨⟨⟨c1,c2⟩,c3⟩,c4⟩:=c;subst c1;obtain⟨_,_,_,rfl⟩:=J7 c2;exact IC (k.E _ _ hu) (DN c3) (by rw[c4];exact beq_self_eq_true _)
def itO:ZJ->Option (Str×Pos×Str×Pos×Pos)
 | .Call f args kw eE=>(match f with
  | .Attribute o m apos=>(match o with
   | .Name x px=>aU (args.isEmpty&&kw.isEmpty) (U (x,px,m,apos,eE))
   |_=>J)
  |_=>J)
 |_=>J
def isIt(e:ZJ):Bool:=(itO e).isSome
def PL(h:itO e=U (x,px,m,apos,eE)):e= .Call (.Attribute (.Name x px) m apos) [] [] eE:=by
 cases e<;>try exact nn h rfl
 case Call f args kw p=>
  cases f<;>try exact nn h rfl
  case Attribute o m' a' =>
   cases o<;>try exact nn h rfl
   case Name y py=>
    obtain⟨c,h⟩:=au h;rw[Gah,Gcb,Gcb] at c;obtain⟨rfl,rfl⟩:=c;cases h
    rfl
def lcR(r:Rc)(G:Gm)(elt tg iter:ZJ)(ifs:List ZJ)(scope:ZO):Option DE:=
 aU (scB G scope (inG G scope (tgN tg)).N (tgN tg).length (PK G scope)&&PF iter) ((tgR (inG G scope (tgN tg)) tg).bind λgd=>(tsR (r (inG G scope (tgN tg))) ifs).bind λt=>((r (inG G scope (tgN tg))).E elt).bind λf=>match itO iter with
  |some (x,_,m,apos,eE)=>aU (m=="items"&&LU tg&&(apos.endLine==eE.line)) ((vR G x).map λi=>vJ cP i (tgN tg).length (PK G scope) gd t f)
  |none=>(PJ (r G) G tg iter).map λsrc=>fJ (Nh G iter) (tgN tg).length (PK G scope) src gd t f)
def J8{N:List Str}(g:fN G X)(h:scB G scope N n ay=O):ik X scope N n ay/\N.Nodup:=by
 unfold scB at h;simp only[Gah] at h;obtain⟨⟨⟨⟨⟨⟨⟨⟨h1,h2⟩,h3⟩,h4⟩,h5⟩,h6⟩,h7⟩,h8⟩,h9⟩:=h;refine⟨⟨h1,by simpa using h2,h3,Gar.mpr λy hy=> ?_,by rw[g.N];exact Gaq (by simpa using h5),Gaq h6,by rw[g.N];exact h7,h8⟩,Gaq h9⟩;have:=Gar.mp h4 y hy;rw[GaX] at this⊢;exact this.imp id (g.cf y.1)
def wc(g:fN G X)(h:scB G scope (inG G scope tn).N n ay=O)(cl:List (Str×ZG))(C:ZG)(s:ZI)(H:Hp)(ex:List ZG):fN (inG G scope tn) (blk X scope cl C (inG G scope tn).N s H ex):=by
 have nc:∀x,scope.names.lookup x≠U .cell:=λx hx=>by
  unfold scB at h;simp only[Gah] at h;have h1:=h.1.1.1.1.1.1.1.1;have:(x,NameKind.cell)∈scope.names:=by
   clear h;generalize scope.names=l at*;induction l with
   |nil=>simp at hx
   |cons p l ih=>
    rw[Gbi] at hx;cases q:x==p.1 with
    |true=>rw[q] at hx;obtain⟨a,b⟩:=p;injection hx with hx;subst hx;rw[Gbv.mp q];exact Gaj
    |false=>rw[q] at hx;rw[GbA,Gah] at h1;exact Gaf _ (ih hx h1.2)
  have:=Gar.mp h1 _ this;simp at this
 have nd:=(J8 g h).2;exact{
  N:=rfl
  nd:=nd
  vis:=λx hx=>by
   have hx:rdK (scope.names.lookup x)=O:=hx
   match q:scope.names.lookup x with
   |some .local=>exact Fd q
   |some .free=>exact HR q
   |some .cell=>exact absurd q (nc x)
   |none=>rw[q] at hx;cases hx
   |some .globalExplicit=>rw[q] at hx;cases hx
   |some .globalImplicit=>rw[q] at hx;cases hx
  loc:=λx hx=>by
   have hx:scope.names.lookup x=U .local:=by simpa[inG] using hx
   exact⟨Fe hx,OV hx⟩
  gl:=λx hx=>OU hx
  cf:=λx hx=>by
   have hx:Ac (scope.names.lookup x)=O:=hx;have q:scope.names.lookup x=U .free:=by
    match q:scope.names.lookup x with
    |some .free=>rfl
    |some .cell=>exact absurd q (nc x)
    |some .local=>rw[q] at hx;cases hx
    |none=>rw[q] at hx;cases hx
    |some .globalExplicit=>rw[q] at hx;cases hx
    |some .globalImplicit=>rw[q] at hx;cases hx
   rcases(fL q) with z|z
   .exact(congrArg Ac z).trans rfl
   .exact(congrArg Ac z).trans rfl
  sw:=λz=>by cases z
  calm:=g.calm
  own:=rfl
  hu:=g.hu
  fns:=g.fns
  no:=g.no}
def J9(hr:∀G X,fN G X->mK (r G) X)(g:fN G X)(h:lcR r G elt tg iter ifs scope=U f):
  PEd X (.ListComp elt [⟨tg,iter,ifs,0⟩] scope pos) f/\(isIt iter=M->∀{x i p' p},lR G x=U i->swapsWith (.ListComp elt [⟨tg,iter,ifs,0⟩] scope pos) (U (.Name x p')) p.line X.env=pure O->PSd X (.Assign [.Name x p'] (.ListComp elt [⟨tg,iter,ifs,0⟩] scope pos) p) (aq i f)):=by
 obtain⟨c,h⟩:=au h;rw[Gah] at c;obtain⟨gd,hg,h⟩:=eh h;obtain⟨t,ht,h⟩:=eh h;obtain⟨u,hu,h⟩:=eh h;obtain⟨S,nd⟩:=J8 g c.1;have B:Blk X scope (inG G scope (tgN tg)).N tg elt ifs gd t u:=⟨λcl C s H ex=>(Cd (wc g c.1 cl C s H ex) hg).1,λcl C s H ex=>by
  have k:=hr _ _ (wc g c.1 cl C s H ex);unfold tsR at ht;split at ht
  .cases ht;exact Fb
  .exact Fc (k.T _ _ ht)
  .exact(by cases ht),λcl C s H ex=>(hr _ _ (wc g c.1 cl C s H ex)).E _ _ hu⟩
 have no:=(Cd (wc g c.1 [] 0 X.s₀ X.H0 []) hg).2;cases q:itO iter with
 |some w=>
  obtain⟨x,px,m,apos,eE⟩:=w;rw[q] at h;obtain⟨c2,h2⟩:=au h;clear h;have e1:=PL q;subst e1;obtain⟨i,hi,rfl⟩:=Gaa.mp h2;simp only[Gah,Gbv] at c2;obtain⟨⟨c1,c3⟩,c4⟩:=c2;subst c1;obtain⟨_,_,_,rfl⟩:=J7 c3;obtain⟨v1,v2,v3,v4⟩:=DF g hi;have E:=vS (pos:=pos) v1 v2 g.calm S no B v3 v4 rfl (by rw[c4];exact beq_self_eq_true _) (qj c.2);exact⟨E,λz=>by unfold isIt at z;rw[q] at z;cases z⟩
 |none=>
  rw[q] at h;obtain⟨src,X2,rfl⟩:=Gaa.mp h;have I:=DP g (hr G X g) X2;exact⟨Ld g.calm S I no B (qj c.2),λ_ _ _ _ _ hx hs=>by
   obtain⟨l1,l2,l3⟩:=DH g hx;exact Le g.nd l1 l2 g.calm S I no B hs (qj c.2) l3⟩
def opO(yy:Bool):Operator->Option (D->D->Option RV)
 | .Add=>match yy with
  |true=>U fZ
  |false=>U aF
 | .Sub=>U iU
 | .Mult=>U b6
 | .FloorDiv=>U cW
 | .Mod=>U bh
 | .Pow=>U wZ
 |_=>J
def slO(v:Ev):Option ZJ->Option DO
 |none=>U noO
 |some e=>(v.E e).map CY
def frR(v:Ev)(G:Gm)(e:ZJ):Option DE:=match G.fz,e with
 |[],_=>v.E e
 |_,.List _ _=>(v.E e).map frE
 |_,_=>v.E e
def clR(v:Ev)(G:Gm)(x:Str)(args:List ZJ):Option DE:=match G.fns x with
 |some (np,sp)=>aU (gR G x) ((aR v.E args).bind λa=>aU (a.1==np&&a.1 !=0) (U (ak sp a.2)))
 |none=>aU (bR G x) (match args with
  |[.Call (.Name y _) [e] [] _]=>
   if x="sorted"/\y="set" then aU (bR G y&&ns e) ((v.E e).map nF)
   else if x="list"/\y="range" then aU (bR G y&&ns e) ((v.E e).map Ij)
   else(aR v.E args).bind λa=>(FZ x a.1).map λo=>bD o a.2
  |_=>(aR v.E args).bind λa=>(FZ x a.1).map λo=>bD o a.2)
def kR:Const->Option DE
 | .int i=>U (kE (.int i))
 | .bool b=>U (kE (.bl b))
 | .none=>U (kE .non)
 | .str x=>U (kE (.str x))
 |_=>J
def unR(v:Ev)(G:Gm)(e a:ZJ):UnaryOp->Option DE
 | .USub=>(v.E a).map (unE EW)
 | .Not=>(vV v G e).map bE
 |_=>J
def ixR(v:Ev)(a b:ZJ):Option DE:=aU (Sz b) ((v.E a).bind λf=>(v.E b).map λg=>ZE f g)
def suR(v:Ev)(a b:ZJ):Option DE:=match b with
 | .Slice lo hi st _=>aU st.isNone ((v.E a).bind λf=>(slO v lo).bind λl=>(slO v hi).map λh=>slE f l h)
 |_=>ixR v a b
def lgR(r:Rc)(G:Gm)(elt:ZJ)(scope:ZO):List Comprehension->Option DE
 |[g]=>aU (g.is_async==0) (lcR r G elt g.target g.iter g.ifs scope)
 |_=>J
noncomputable def iC:ZJ->Option Int
 | .Constant c _ _=>(match c with
  | .int i=>U i
  |_=>J)
 |_=>J
def mxR(v:Ev)(G:Gm)(x:Str):List ZJ->List Keyword->Option DE
 |[a],[k]=>aU (x=="max"&&k.arg==U "default"&&bR G x&&ns a) ((iC k.value).bind λi=>(v.E a).map (mmE om (.int i)))
 |_,_=>J
def gtR(v:Ev)(o:ZJ)(m:Str)(apos eE:Pos)(kw:List Keyword):List ZJ->Option DE
 |[a,b]=>aU (kw.isEmpty&&m=="get"&&PH o&&ns a&&ns b&&(apos.endLine==eE.line)) ((v.E o).bind λf=>(v.E a).bind λg=>(v.E b).map λh=>Ik f g h)
 |_=>J
def caR(v:Ev)(G:Gm)(e:ZJ)(args:List ZJ)(kw:List Keyword)(eE:Pos):ZJ->Option DE
 | .Name x _=>(match kw with
  |[]=>(match Cb v G e with
   |some t=>U (bE t)
   |none=>clR v G x args)
  |_=>mxR v G x args kw)
 | .Attribute o m apos=>gtR v o m apos eE kw args
 |_=>J
def eR(r:Rc)(G:Gm)(e:ZJ):Option DE:=match e with
 | .Name x _=>(vR G x).map vE
 | .Constant c _ _=>kR c
 | .BinOp a op b _=>(opO G.yy op).bind λo=>((r G).E a).bind λf=>((r G).E b).map λg=>ZF o f g
 | .UnaryOp op a _=>unR (r G) G e a op
 | .Compare _ _ _ _=>(vV (r G) G e).map bE
 | .BoolOp _ _ _=>(vV (r G) G e).map bE
 | .IfExp c a b _=>((r G).T c).bind λt=>((r G).E a).bind λf=>((r G).E b).map λg=>ifE t f g
 | .Tuple es _ _=>(aR (frR (r G) G) es).map λa=>aO a.2
 | .List es _=>(aR (r G).E es).map λa=>de a.2
 | .Subscript a b _=>suR (r G) a b
 | .ListComp elt gs scope _=>lgR r G elt scope gs
 | .Dict ks vs _=>aU (ks.isEmpty&&vs.isEmpty) (U vq)
 | .Call f args kw p=>caR (r G) G e args kw p f
 |_=>J
def PM(g:fN G X)(k:mK v X)(h:clR v G x args=U f):PEd X (.Call (.Name x p) args [] pos) f:=by
 have blt:∀{args:List ZJ} {f:DE},bR G x=O->((aR v.E args).bind λa=>(FZ x a.1).map λo=>bD o a.2)=U f->PEd X (.Call (.Name x p) args [] pos) f:=λ{args f} c h=>by
  obtain⟨⟨n,a⟩,ha,h⟩:=eh h;obtain⟨o,ho,rfl⟩:=Gaa.mp h;have n0:n≠0:=λz=>by subst z;simp[FZ] at ho
  obtain⟨e,t,rfl,h1,m,q,hq⟩:=DJ ha n0;exact LR g ho c (pD k.E ha).1 h1 ((pD k.E hq).2.2.1 pos)
 unfold clR at h;split at h
 .rename_i np sp hf;obtain⟨c,h⟩:=au h;obtain⟨⟨n,a⟩,ha,h⟩:=eh h;obtain⟨c2,h⟩:=au h;cases h;simp only[Gah,Gbv,bne_iff_ne] at c2;obtain⟨rfl,n0⟩:=c2;obtain⟨e,t,rfl,h1,m,q,hq⟩:=DJ ha n0;obtain⟨kk,fa,fd,ps,F,hr,hm,hk,hb⟩:=g.fns x _ _ hf;obtain⟨g1,_,g3⟩:=Ng g c;exact KW F hr g1 hm hk hb Ru (pD k.E ha).1 (pD k.E ha).2.1 g3 (bP h1) ((pD k.E hq).2.2.1 pos)
 .obtain⟨c,h'⟩:=au h;clear h;obtain⟨b1,b2,b3,b4⟩:=lV g c;split at h'
  .split at h'
   .rename_i q;obtain⟨rfl,rfl⟩:=q
    obtain⟨c2,h⟩:=au h';obtain⟨u,hu,rfl⟩:=Gaa.mp h;rw[Gah] at c2;obtain⟨d1,d2,_⟩:=lV g c2.1;exact AL g.calm g.hu b1 b2 d1 d2 (k.E _ _ hu) (bP c2.2) (bP rfl)
   .split at h'
    .rename_i q;obtain⟨rfl,rfl⟩:=q
     obtain⟨c2,h⟩:=au h';obtain⟨u,hu,rfl⟩:=Gaa.mp h;rw[Gah] at c2;obtain⟨d1,d2,_⟩:=lV g c2.1;exact FC g.calm b1 b2 d1 d2 (k.E _ _ hu) (bP c2.2) (bP rfl)
    .exact blt c h'
  .exact blt c h'
def Ja(k:mK v X)(h:slO v e=U d):PO X e (tO X d):=by
 unfold slO at h;split at h
 .cases h;exact Fg
 .obtain⟨u,hu,rfl⟩:=Gaa.mp h;exact Fh (k.E _ _ hu)
def PN(k:mK v X)(h:frR v G e=U f):PEd X e f:=by
 unfold frR at h;split at h
 .exact k.E _ _ h
 .obtain⟨u,hu,rfl⟩:=Gaa.mp h;exact Sy (k.E _ _ hu)
 .exact k.E _ _ h
def SF(h:iC e=U i):∃a b,e= .Constant (.int i) a b:=by
 cases e<;>try exact nn h rfl
 rename_i c a b;cases c<;>first|exact nn h rfl|(cases h;exact⟨_,_,rfl⟩)
def SG(hr:∀G X,fN G X->mK (r G) X)(g:fN G X)(h:eR r G e=U f):PEd X e f:=by
 have k:=hr G X g;have vv:∀{e:ZJ} {f:DE},(vV (r G) G e).map bE=U f->PEd X e f:=λh=>by
  obtain⟨u,hu,rfl⟩:=Gaa.mp h;exact Nj g k hu
 cases e<;>try exact nn h rfl
 case Name x p=>
  obtain⟨i,hi,rfl⟩:=Gaa.mp h;obtain⟨v1,v2,v3,v4⟩:=DF g hi;exact Hu i v1 v2 v3 v4
 case Constant c _ _=>
  cases c<;>first|exact nn h rfl|(cases h;first|exact mq|exact S8|exact O5|exact O6)
 case BinOp a op b p=>
  obtain⟨o,ho,h⟩:=eh h;obtain⟨_,ha,h⟩:=eh h;obtain⟨_,hb,rfl⟩:=Gaa.mp h;have ka:=k.E _ _ ha;have kb:=k.E _ _ hb;cases op<;>try exact nn ho rfl
  case Add=>
   generalize G.yy=yy at ho;cases yy<;>cases ho
   .exact O8 ka kb
   .exact LG ka kb
  all_goals cases ho
  all_goals first|exact O9 ka kb|exact Oa ka kb|exact KR ka kb|exact Ob ka kb|exact Oc ka kb
 case UnaryOp op a p=>
  cases op<;>try exact nn h rfl
  case USub=>
   obtain⟨u,hu,rfl⟩:=Gaa.mp h;exact Od (k.E _ _ hu)
  case Not=>exact vv h
 case Compare=>exact vv h
 case BoolOp=>exact vv h
 case IfExp c a b p=>
  obtain⟨_,ho,h⟩:=eh h;obtain⟨_,ha,h⟩:=eh h;obtain⟨_,hb,rfl⟩:=Gaa.mp h;exact Hz (k.T _ _ ho) (k.E _ _ ha) (k.E _ _ hb)
 case Tuple=>
  obtain⟨⟨n,a⟩,ha,rfl⟩:=Gaa.mp h;exact BE (pD (λ_ _=>PN k) ha).1
 case List=>
  obtain⟨⟨n,a⟩,ha,rfl⟩:=Gaa.mp h;exact Ox (pD k.E ha).1
 case Subscript a b p=>
  have ix:∀{b:ZJ},ixR (r G) a b=U f->PEd X (.Subscript a b p) f:=λ{b} h=>by
   obtain⟨c,h⟩:=au h;obtain⟨_,ha,h⟩:=eh h;obtain⟨_,hb,rfl⟩:=Gaa.mp h;exact ph (k.E _ _ ha) (k.E _ _ hb) (PC c)
  cases b<;>try exact ix h
  case Slice lo hi st _=>
   obtain⟨c,h⟩:=au h;cases st with
   |some _=>cases c
   |none=>
    obtain⟨_,ho,h⟩:=eh h;obtain⟨_,ha,h⟩:=eh h;obtain⟨_,hb,rfl⟩:=Gaa.mp h;exact HW (k.E _ _ ho) (Ja k ha) (Ja k hb)
 case ListComp elt gs scope p=>
  match gs,h with
  |[],h=>exact nn h rfl
  |_::_::_,h=>exact nn h rfl
  |[⟨tg,iter,ifs,n⟩],h=>
   obtain⟨c,h⟩:=au h;cases(show n=0 from by simpa using c);exact(J9 hr g h).1
 case Dict ks vs p=>
  obtain⟨c,h⟩:=au h;cases h;cases ks<;>cases vs<;>first|exact I0|cases c
 case Call fn args kw eE=>
  cases fn<;>try exact nn h rfl
  case Name x p=>
   cases kw with
   |nil=>
    change (match Cb (r G) G (.Call (.Name x p) args [] eE) with|some t=>U (bE t)|none=>clR (r G) G x args)=_ at h;cases q:Cb (r G) G (.Call (.Name x p) args [] eE) with
    |some t=>rw[q] at h;cases h;exact DK g k q
    |none=>rw[q] at h;exact PM g k h
   |cons kw Yr=>
    match args,Yr,h with
    |[a],[],h=>
     obtain⟨c,h⟩:=au h;obtain⟨i,hi,h⟩:=eh h;obtain⟨u,hu,rfl⟩:=Gaa.mp h;obtain⟨kn,kv,kp⟩:=kw;simp only[Gah,Gbv] at c;obtain⟨⟨⟨rfl,rfl⟩,c3⟩,c4⟩:=c;obtain⟨b1,b2,_⟩:=lV g c3;obtain⟨_,_,rfl⟩:=SF hi;exact Lv g.calm b1 b2 (k.E _ _ hu) GI (λ_ _ _=> .int _) rfl (bP c4)
    |[],_,h=>exact nn h rfl
    |_::_::_,_,h=>exact nn h rfl
    |[_],_::_,h=>exact nn h rfl
  case Attribute o m apos=>
   match args,h with
   |[a,b],h=>
    obtain⟨c,h⟩:=au h;obtain⟨_,ho,h⟩:=eh h;obtain⟨_,ha,h⟩:=eh h;obtain⟨_,hb,rfl⟩:=Gaa.mp h;simp only[Gah,Gbv,Gcb] at c;obtain⟨⟨⟨⟨⟨rfl,rfl⟩,c2⟩,c3⟩,c4⟩,c5⟩:=c;exact Lx g.hu1 (k.E _ _ ho) (k.E _ _ ha) (k.E _ _ hb) ⟨DN c2,by rw[bP c3,bP c4];rfl,by rw[c5];exact beq_self_eq_true _,by rw[bP c3,bP c4];rfl⟩
   |[],h=>exact nn h rfl
   |[_],h=>exact nn h rfl
   |_::_::_::_,h=>exact nn h rfl
noncomputable def nLC:ZJ->Bool
 | .ListComp _ _ _ _=>M
 | .SetComp _ _ _ _=>M
 | .DictComp _ _ _ _ _=>M
 |_=>O
def Jb(h:nLC e=O):swapsWith e t n env=pure M:=by
 cases e<;>first|rfl|cases h
def fzR(G:Gm):ZJ->List Nat
 | .Tuple es _ _=>es.filterMap λ| .Name x _=>if G.fz.contains x then ixN G.N x else J|_=>J
 |_=>[]
def fzS(is:List Nat)(f:DS):DS:=match is with
 |[]=>f
 |i::is=>FY (i::is) f
noncomputable def swB(G:Gm)(x:Str)(p lp:Pos)(scope:ZO):Bool:=(G.kd x==U .local)&&(p.line==lp.line)&& !(scope.names.any λ(n,k)=>n==x&&(k== .local||k== .cell))
def g1:List Comprehension->Option Comprehension
 |[g]=>aU (g.is_async==0) (U g)
 |_=>J
def asR(r:Rc)(G:Gm)(x:Str)(p:Pos)(e:ZJ):Option DE:=match e with
 | .ListComp elt gs scope lp=>aU G.top ((g1 gs).bind λc=>match swB G x p lp scope with
  |true=>aU (!isIt c.iter) (lcR r G elt c.target c.iter c.ifs scope)
  |false=>(r G).E e)
 |_=>aU (nLC e) ((r G).E e)
def meR(v:Ev)(G:Gm)(x m:Str)(args:List ZJ):Option DS:=(vR G x).bind λi=>match args with
 |[a]=>aU (ns a) (if m="append" then(v.E a).map λf=>fzS (fzR G a) (dN i f) else if m="extend" then(v.E a).map λf=>O2 i f else J)
 |[a,b]=>aU (ns a&&ns b) (if m="insert" then(v.E a).bind λf=>(v.E b).map λg=>P0 i f g else J)
 |_=>J
def exR(v:Ev)(G:Gm):ZJ->Option DS
 | .Call f args kw eE=>(match f with
  | .Attribute o m apos=>(match o with
   | .Name x _=>aU (kw.isEmpty&&(apos.endLine==eE.line)) (meR v G x m args)
   |_=>J)
  |_=>J)
 |_=>J
def puR(v:Ev)(G:Gm)(k e:ZJ):ZJ->Option DS
 | .Name x _=>aU (nLC e) ((vR G x).bind λi=>(v.E k).bind λf=>(v.E e).map λg=>EX i f g)
 |_=>J
def tyR(r:Rc)(G:Gm)(e:ZJ):List ZJ->Option DS
 |[t]=>(match t with
  | .Name x p=>(lR G x).bind λi=>(asR r G x p e).map λf=>aq i f
  | .Subscript o k _=>puR (r G) G k e o
  |_=>J)
 |_=>J
def rtR(v:Ev)(G:Gm):Option ZJ->Option DS
 |some e=>(v.E e).map λf=>fzS (fzR G e) (Zv f)
 |none=>J
def sR(r:Rc)(G:Gm)(s:ZP):Option DS:=match s with
 | .Assign ts e _=>tyR r G e ts
 | .Return e _=>rtR (r G) G e
 | .If c xs ys _=>((r G).T c).bind λt=>((r G).B xs).bind λa=>((r G).B ys).map λb=>ifS t a b
 | .For tg iter body els _=>aU (els.isEmpty&&PF iter) ((PJ (r G) G tg iter).bind λsrc=>(tgR G tg).bind λgd=>((r G).B body).map λb=>cX (Nh G iter) src gd b)
 | .While c body els _=>aU els.isEmpty (((r G).T c).bind λt=>((r G).B body).map λb=>qK t b)
 | .Break _=>U bkS
 | .Expr e _=>exR (r G) G e
 |_=>J
def blR(v:Ev):List ZP->Option DS
 |[]=>U ni
 |[s]=>v.S s
 |s::t::rest=>(v.S s).bind λa=>(v.B (t::rest)).map λb=>ah a b
def SH(r:Rc):Rc:=λG=> ⟨eR r G,vV (r G) G,tV (r G),wV (r G),sR r G,blR (r G)⟩
def Jc:Nat->Rc
 |0=>λ_=> ⟨λ_=>J,λ_=>J,λ_=>J,λ_=>J,λ_=>J,λ_=>J⟩
 |n+1=>SH (Jc n)
def Jd(h:PSd X s f):PSd X s (fzS is f):=by
 cases is with
 |nil=>exact h
 |cons i is=>exact Pz h
def SI{c:Comprehension}(h:g1 gs=U c):gs=[⟨c.target,c.iter,c.ifs,0⟩]:=by
 match gs,h with
 |[],h=>exact nn h rfl
 |_::_::_,h=>exact nn h rfl
 |[⟨a,b,d,n⟩],h=>
  obtain⟨q,h⟩:=au h;cases h;cases(show n=0 from by simpa using q)
  rfl
def PQ(hr:∀G X,fN G X->mK (r G) X)(g:fN G X)(hx:lR G x=U i)(h:asR r G x p e=U f):PSd X (.Assign [.Name x p] e pos) (aq i f):=by
 obtain⟨l1,l2,l3⟩:=DH g hx;have oth:aU (nLC e) ((r G).E e)=U f->PSd X (.Assign [.Name x p] e pos) (aq i f):=λh=>by
  obtain⟨c,h'⟩:=au h;exact HE g.nd l1 l2 ((hr G X g).E _ _ h') (Jb c) l3
 cases e<;>try exact oth h
 case ListComp elt gs scope lp=>
  clear oth;obtain⟨c,h'⟩:=au h;clear h;obtain⟨q,hq,h'⟩:=eh h';have e1:=SI hq;subst e1;have sw:swapsWith (.ListComp elt [⟨q.target,q.iter,q.ifs,0⟩] scope lp) (U (.Name x p)) pos.line X.env=pure (swB G x p lp scope):=by
   show(pure _:Sem Bool)=_;unfold swB;rw[<-g.sw c x]
   rfl
  cases z:swB G x p lp scope with
  |true=>
   rw[z] at h' sw;obtain⟨c2,h'⟩:=au h';exact(J9 hr g h').2 (by simpa using c2) hx sw
  |false=>
   rw[z] at h' sw;exact HE g.nd l1 l2 ((hr G X g).E _ _ h') sw l3
def PR{apos eE:Pos}(g:fN G X)(k:mK v X)(hl:(apos.endLine==eE.line)=O)(h:meR v G x m args=U f):PSd X (.Expr (.Call (.Attribute (.Name x px) m apos) args [] eE) pos) f:=by
 obtain⟨i,hi,h'⟩:=eh h;clear h;obtain⟨v1,v2,v3,v4⟩:=DF g hi;split at h'
 .obtain⟨c,h2⟩:=au h';clear h';split at h2
  .rename_i q;subst q
   obtain⟨u,hu,rfl⟩:=Gaa.mp h2;exact Jd (F7 v1 v2 (k.E _ _ hu) v3 v4 (bP c) rfl (by rw[bP c];rfl) hl rfl)
  .split at h2
   .rename_i q;subst q
    obtain⟨u,hu,rfl⟩:=Gaa.mp h2;exact F8 v1 v2 (k.E _ _ hu) v3 v4 (bP c) rfl (by rw[bP c];rfl) hl rfl
   .cases h2
 .obtain⟨c,h2⟩:=au h';clear h';rw[Gah] at c;split at h2
  .rename_i q;subst q
   obtain⟨a,ha,h3⟩:=eh h2;obtain⟨u,hu,rfl⟩:=Gaa.mp h3;exact Fz v1 v2 (k.E _ _ ha) (k.E _ _ hu) v3 v4 (bP c.1) (bP c.2) rfl (by rw[bP c.1,bP c.2];rfl) hl rfl
  .cases h2
 .cases h'
def SJ(hr:∀G X,fN G X->mK (r G) X)(g:fN G X)(h:sR r G s=U f):PSd X s f:=by
 have k:=hr G X g;have ow:PassesOwn (model X.prog X.w) X.A X.env X.xe:=by rw[g.own];exact PassesOwn.never
 cases s<;>try exact nn h rfl
 case Assign ts e p=>
  match ts,h with
  |[],h=>exact nn h rfl
  |_::_::_,h=>exact nn h rfl
  |[t],h=>
   cases t<;>try exact nn h rfl
   case Name x p=>
    obtain⟨i,hi,h⟩:=eh h;obtain⟨u,hu,rfl⟩:=Gaa.mp h;exact PQ hr g hi hu
   case Subscript o kk p=>
    cases o<;>try exact nn h rfl
    case Name x px=>
     obtain⟨c,h⟩:=au h;obtain⟨i,hi,h⟩:=eh h;obtain⟨a,ha,h⟩:=eh h;obtain⟨u,hu,rfl⟩:=Gaa.mp h;obtain⟨v1,v2,v3,v4⟩:=DF g hi;exact OY g.hu1 v1 v2 (k.E _ _ ha) (k.E _ _ hu) v3 v4 (Jb c)
 case Return e p=>
  cases e with
  |none=>exact nn h rfl
  |some e=>
   obtain⟨u,hu,rfl⟩:=Gaa.mp h;exact Jd (OC (k.E _ _ hu))
 case If=>
  obtain⟨t,ht,h⟩:=eh h;obtain⟨a,ha,h⟩:=eh h;obtain⟨u,hu,rfl⟩:=Gaa.mp h;exact Sd (k.T _ _ ht) (k.B _ _ ha) (k.B _ _ hu)
 case For tg iter body els p=>
  obtain⟨c,h2⟩:=au h;clear h;rw[Gah,Gcb] at c;obtain⟨rfl,c⟩:=c;obtain⟨t,ht,h⟩:=eh h2;obtain⟨a,ha,h⟩:=eh h;obtain⟨u,hu,rfl⟩:=Gaa.mp h;exact OE ow g.calm (DP g k ht) (Cd g ha).1 (k.B _ _ hu) (qj c)
 case While c body els p=>
  obtain⟨q,h2⟩:=au h;clear h;rw[Gcb] at q;subst q;obtain⟨t,ht,h⟩:=eh h2;obtain⟨u,hu,rfl⟩:=Gaa.mp h;exact HF ow (k.T _ _ ht) (k.B _ _ hu)
 case Break=>cases h;exact HC
 case Expr e p=>
  cases e<;>try exact nn h rfl
  case Call fn args kw eE=>
   cases fn<;>try exact nn h rfl
   case Attribute o m apos=>
    cases o<;>try exact nn h rfl
    case Name x px=>
     obtain⟨c,h2⟩:=au h;clear h;rw[Gah,Gcb] at c;obtain⟨rfl,c⟩:=c;exact PR g k c h2
theorem DQ:∀n G X,fN G X->mK (Jc n G) X
 |0,G,X,g=>by constructor<;>(intro _ _ h;cases h)
 |n+1,G,X,g=>by
  have hr:=DQ n;have k:=hr G X g;refine⟨λe f h=>SG hr g h,λe t h=>Nj g k h,λe t h=>SA g k h,λe t h=>SE k h,λs f h=>SJ hr g h,λb f h=> ?_⟩;have h:blR (Jc n G) b=U f:=h;unfold blR at h;split at h
  .cases h;exact Oy
  .exact Oz (k.S _ _ h)
  .obtain⟨a,ha,h⟩:=eh h;obtain⟨u,hu,rfl⟩:=Gaa.mp h;exact KZ (k.S _ _ ha) (k.B _ _ hu)
section
variable{P:ZQ}{w:World}{K:ai}{mg:Str->Option ZH}{base:ZK}
def we{N ps:List Str}(F:Fun K x qual sd fa fd)(S:gL N ps (aY sd))(zP:ps.length=np)
  (hT:∀x np sp,fns x=U (np,sp)->∃j fa fd ps,jr P w K mg base CX0 j fa fd ps (spD K np sp)/\j<=k/\mg x=U (.ref fa)/\PySem.W.keepIn K (.ref fa)=O/\Binds K fd ps [])(hb:∀x∈bl,mg x=J)
  (hc:(Jc 60 ⟨N,λx=>(aY sd).names.lookup x,fns,bl,O,yy,fz⟩).B (gq sd)=U b):jr P w K mg base CX0 (k+1) fa fd ps (spD K np (bu N.length np b)):=by
 refine HK F S zP λxj A outer s H E hr=>(DQ 60 _ _ ?_).B _ _ hc;exact{
  N:=rfl
  nd:=S.nd
  vis:=λx hx=>by
   have hx:rdK ((aY sd).names.lookup x)=O:=hx
   match q:(aY sd).names.lookup x with
   |some .local=>exact .inl q
   |some .free=>exact .inr (.inr q)
   |some .cell=>exact .inr (.inl q)
   |none=>rw[q] at hx;cases hx
   |some .globalExplicit=>rw[q] at hx;cases hx
   |some .globalImplicit=>rw[q] at hx;cases hx
  loc:=λx hx=>by
   refine⟨?_,.inl rfl⟩;simp only[Bool.true_and,GaX,Gbv] at hx;exact hx
  gl:=λx hx=>hx
  cf:=λx hx=>hx
  sw:=λ_ x=>by
   have:(PySem.Env.blockKind (envOfC qual (aY sd) s.heap.objs.size fa xj)==ScopeKind.function)=O:=by
    show((if(aY sd).kind.isAnnotationScope then _ else(aY sd).kind)==_)=O;rw[S.kind]
    rfl
   exact(congrArg (· &&_) this).trans (Bool.true_and _)
  calm:=rfl
  own:=rfl
  hu:=L6 hr
  fns:=λx np sp h=>let⟨j,fa,fd,ps,a1,a2,a3⟩:=hT x np sp h;⟨j,fa,fd,ps,a1,hr.mono a2,a3⟩
  no:=hb}
structure En where
 x:Str
 k:Nat
 np:Nat
 sp:SpF
def SK(P:ZQ)(w:World)(K:ai)(mg:Str->Option ZH)(base:ZK)(e:En):Prop:=∃fa fd ps,jr P w K mg base CX0 e.k fa fd ps (spD K e.np e.sp)/\mg e.x=U (.ref fa)/\PySem.W.keepIn K (.ref fa)=O/\Binds K fd ps []
noncomputable def SM(T:List En)(k:Nat)(x:Str):Option (Nat×(SpF)):=(T.find? λe=>e.x==x&&decide (e.k<=k)).map λe=>(e.np,e.sp)
def DR(hT:∀e∈T,SK P w K mg base e):∀x np sp,SM T k x=U (np,sp)->∃j fa fd ps,jr P w K mg base CX0 j fa fd ps (spD K np sp)/\j<=k/\mg x=U (.ref fa)/\PySem.W.keepIn K (.ref fa)=O/\Binds K fd ps []:=λx np sp h=>by
 obtain⟨e,he,h⟩:=Gaa.mp h;cases h;have h1:=GdK he;rw[Gah] at h1;obtain⟨fa,fd,ps,a1,a2,a3,a4⟩:=hT e (Gda he);have e1:=Gbv.mp h1.1;subst e1;exact⟨e.k,fa,fd,ps,a1,Gaq h1.2,a2,a3,a4⟩
end
end DL
namespace Den
open DL.D renaming non→A
open DL PySem
abbrev xi (i:Nat) (k:Int):DE:=ZE (vE i) (kE (.int k))
abbrev kI (k:Int):DE:=kE (.int k)
abbrev kS (x:Str):DE:=kE (.str x)
abbrev a1 (x:DE):DA:=aa x aX
abbrev i2 (t:DT) (x:DS):DS:=ifS t x ni
def uK:DS:=(Zv (bD dz (a1 (bD Zy (a1 (ZF fZ (vE 0) (aO (a1 (vE 1)))))))))
def l9:SpF:=bu 2 2 uK
def lW:DS:=(Zv (aO (aa (xi 0 0) (a1 (ak l9 (aa (xi 0 1) (a1 (aO (aa (vE 1) (aa (vE 2) (a1 (vE 3))))))))))))
def d7:SpF:=bu 4 4 lW
def nH:DS:=(Zv (fJ J 1 [1] (cQ (xi 0 1)) (gN 0) (az eqB (xi 0 0) (vE 1)) (aO (aa (xi 0 1) (a1 (xi 0 2))))))
def gO:SpF:=bu 2 2 nH
def G0:DS:=(ah (aq 4 (ZF b6 (vE 1) (vE 2))) (ah (aq 5 (ZF cW (vE 0) (vE 4))) (ah (aq 6 (ZF iU (vE 0) (ZF b6 (vE 5) (vE 4)))) (ah (i2 (fI (az eqB (vE 3) (kS "up")) (az gtB (vE 6) (kI 0))) (aq 5 (ZF aF (vE 5) (kI 1)))) (ah (i2 (fI (az eqB (vE 3) (kS "near")) (az gtB (ZF b6 (kI 2) (vE 6)) (vE 4))) (aq 5 (ZF aF (vE 5) (kI 1)))) (Zv (ZF b6 (vE 5) (vE 2))))))))
def jH:SpF:=bu 7 4 G0
def PU:DS:=(ah (aq 5 (xi 0 0)) (ah (aq 6 (ZF b6 (xi 0 1) (vE 2))) (ah (aq 7 (xi 0 2)) (ah (aq 8 (xi 0 3)) (ah (ifS (az eqB (vE 7) (kI 0)) (aq 9 (ak jH (aa (vE 6) (aa (vE 3) (aa (vE 4) (a1 (vE 5))))))) (aq 9 (ak jH (aa (ZF b6 (vE 1) (vE 6)) (aa (ZF b6 (vE 7) (vE 3)) (aa (vE 4) (a1 (vE 5)))))))) (Zv (bD uf (aa (vE 9) (a1 (ak jH (aa (vE 8) (aa (kI 1) (aa (vE 4) (a1 (kS "down")))))))))))))))
def rT:SpF:=bu 10 5 PU
def Je:DS:=(ah (aq 2 (xi 0 4)) (ah (aq 3 (ZF aF (xi 2 1) (ZF b6 (vE 1) (xi 2 2)))) (Zv (aO (aa (ZF iU (vE 3) (xi 2 4)) (a1 (ZF aF (vE 3) (xi 2 5))))))))
def wg:SpF:=bu 4 2 Je
def rV:DS:=(ah (aq 2 (xi 0 4)) (ah (i2 (az eqB (xi 2 0) (kS "asked")) (Zv (kE A))) (ah (aq 3 (ZF iU (vE 1) (ZF iU (xi 2 1) (xi 2 4)))) (ah (aq 4 (ZF cW (vE 3) (xi 2 2))) (ah (i2 (orT (tm (jg leB ltB (kI 0) (vE 4) (xi 2 3))) (az gtB (ZF iU (vE 3) (ZF b6 (vE 4) (xi 2 2))) (ZF aF (xi 2 4) (xi 2 5)))) (Zv (kE A))) (Zv (vE 4)))))))
def iz:SpF:=bu 5 2 rV
def rW:DS:=(ah (aq 2 (xi 0 4)) (ah (i2 (az eqB (xi 2 0) (kS "asked")) (Zv (bE (az ltB (vE 1) (xi 2 1))))) (Zv (bE (az kf (ak iz (aa (vE 0) (a1 (vE 1)))) (kE A))))))
def kD:SpF:=bu 3 2 rW
def DU:DS:=(ah (aq 4 (ak wg (aa (vE 0) (a1 (vE 2))))) (ah (i2 (jf (bD anyS (a1 (fJ (U 1) 1 [4] (cQ (vE 1)) (gN 0) fK (bE (jg leB leB (xi 1 0) (vE 0) (xi 1 1))))))) (Zv (kS "given"))) (ah (i2 (az gtB (xi 4 0) (vE 3)) (Zv (kS "ahead"))) (ah (i2 (az ltB (xi 4 1) (vE 3)) (Zv (kS "missed"))) (Zv (kS "open"))))))
def qk:SpF:=bu 5 4 DU
def gx:DS:=(i2 (az leB (xi 3 0) (vE 1)) (aq 2 (aO (aa (xi 3 1) (a1 (xi 3 2))))))
def Ce:DS:=(ah (aq 2 (aO (aa (kI 1) (a1 (kI 1))))) (ah (cX J (cQ (xi 0 5)) (gN 3) gx) (Zv (vE 2))))
def jU:SpF:=bu 4 2 Ce
def nI:DS:=(ah (i2 (az eqB (xi 0 0) (kS "ever")) (Zv (xi 0 1))) (ah (i2 (az eqB (xi 0 0) (kS "flat")) (Zv (xi 0 2))) (ah (i2 (az kf (vE 1) (kE A)) (Zv (kE A))) (Zv (ZF cW (ZF b6 (vE 1) (xi 0 2)) (xi 0 3))))))
def j5:SpF:=bu 2 2 nI
def iA:DS:=(i2 (fI (az eqB (xi 4 0) (vE 1)) (az leB (xi 4 1) (vE 2))) (aq 3 (xi 4 2)))
def AN:DS:=(ah (aq 3 (kE A)) (ah (cX (U 0) (cQ (vE 0)) (gN 4) iA) (Zv (vE 3))))
def dA:SpF:=bu 5 3 AN
def fF:DT:=(fI (az iX (vE 1) (kE A)) (az leB (ZE (ZE (vE 2) (vE 5)) (kI 0)) (ZF iU (xi 7 0) (vE 1))))
def gV:DS:=(ah (aq 4 (ZF iU (vE 4) (ZE (ZE (vE 2) (vE 5)) (kI 1)))) (aq 5 (ZF aF (vE 5) (kI 1))))
def dQ:DS:=(ah (aq 4 (ZF aF (vE 4) (xi 7 1))) (ah (qK fF gV) (i2 (orT (az eqB (ZF aF (vE 6) (kI 1)) (bD cO (a1 (vE 2)))) (az gtB (ZE (ZE (vE 2) (ZF aF (vE 6) (kI 1))) (kI 0)) (xi 7 0))) (dN 3 (aO (aa (xi 7 0) (a1 (vE 4))))))))
def Cf:DS:=(ah (aq 2 (bD Zy (a1 (vE 0)))) (ah (aq 3 (de aX)) (ah (aq 4 (kI 0)) (ah (aq 5 (kI 0)) (ah (cX (U 2) (ur (vE 2)) (gT [6,7]) dQ) (Zv (vE 3)))))))
def jV:SpF:=bu 8 2 Cf
def jI:DS:=(Zv (bD anyS (a1 (fJ J 1 [] (cQ (xi 0 2)) (gN 0) fK (bE (az eqB (xi 0 0) (kS "kilo")))))))
def dR:SpF:=bu 1 1 jI
def lX:DS:=(ah (aq 3 (xi 2 0)) (ah (aq 4 (xi 2 1)) (ah (aq 5 (xi 2 2)) (ah (aq 6 (ZE (xi 0 3) (vE 3))) (ah (aq 7 (ZE (xi 0 1) (xi 6 2))) (ah (aq 8 (de aX)) (ah (i2 (jf (ak kD (aa (vE 6) (a1 (vE 4))))) (dN 8 (kS "astray"))) (ah (i2 (az gtB (vE 5) (ZE (xi 6 3) (kI 3))) (dN 8 (kS "most"))) (ah (i2 (orT (az ltB (vE 5) (kI 1)) (az neB (ZF bh (vE 5) (ZE (xi 7 1) (kI 0))) (kI 0))) (dN 8 (kS "part"))) (ah (i2 (fI (jf (ak dR (a1 (vE 7)))) (az kf (ak dA (aa (vE 1) (aa (xi 6 1) (a1 (vE 4))))) (kE A))) (dN 8 (kS "weight"))) (ah (i2 (az ltB (vE 4) (ZF aF (ZE (ZE (xi 0 0) (xi 6 1)) (kI 1)) (xi 7 3))) (dN 8 (kS "young"))) (Zv (fJ (U 8) 1 [3,4] (cQ (vE 8)) (gN 0) fK (aO (aa (vE 0) (aa (vE 1) (a1 (vE 2))))))))))))))))))
def dZ:SpF:=bu 9 3 lX
def bL:DM:=(Si (setM 4 (ZE (xi 0 3) (xi 3 0))) (Sj (aO (aa (xi 4 1) (a1 (xi 4 2)))) (aO (aa (xi 3 1) (a1 (xi 3 2))))))
def dm:DS:=(Ip 2 (Nb 3 (vE 1) bL))
def cC:SpF:=bu 5 2 dm
def fg:DS:=(ah (aq 11 (ak j5 (aa (vE 8) (a1 (ak dA (aa (vE 1) (aa (vE 6) (a1 (xi 10 0))))))))) (i2 (fI (az iX (vE 11) (kE A)) (az gtB (xi 10 1) (vE 11))) (dN 3 (aO (aa (kS "cap") (aa (vE 6) (aa (xi 4 1) (aa (vE 7) (aa (xi 10 0) (aa (xi 10 1) (a1 (vE 11))))))))))))
def cY:DS:=(ah (aq 9 (ifE (az eqB (xi 8 0) (kS "ever")) (kE A) (xi 8 1))) (cX J (cQ (ak jV (aa (vE 5) (a1 (vE 9))))) (gN 10) fg))
def fh:DS:=(ah (aq 6 (xi 4 0)) (cX J (ur (ZE (ZE (xi 0 1) (xi 4 1)) (kI 2))) (gT [7,8]) cY))
def wk:DS:=(ah (aq 3 (de aX)) (ah (cX J (Dh cP (ak cC (aa (vE 0) (a1 (vE 2))))) (gT [4,5]) fh) (Zv (vE 3))))
def fO:SpF:=bu 12 3 wk
def cN:DS:=(ah (EX 1 (aO (aa (xi 2 0) (a1 (xi 2 1)))) (xi 2 2)) (EX 1 (aO (aa (xi 2 1) (a1 (xi 2 0)))) (xi 2 2)))
def oF:DS:=(ah (aq 1 (vq)) (ah (cX (U 0) (cQ (vE 0)) (gN 2) cN) (Zv (vE 1))))
def dS:SpF:=bu 3 1 oF
def lY:DS:=(ah (i2 (az neB (xi 1 1) (xi 2 1)) (Zv (kI 0))) (Zv (Ik (vE 0) (aO (aa (xi 1 2) (a1 (xi 2 2)))) (kI 0))))
def gy:SpF:=bu 3 3 lY
def bU:DS:=(ah (aq 9 (ZF iU (xi 8 0) (xi 7 0))) (ah (i2 (az geB (vE 9) (vE 3)) bkS) (i2 (az ltB (vE 9) (ak gy (aa (vE 2) (aa (ZE (xi 0 3) (xi 7 1)) (a1 (ZE (xi 0 3) (xi 8 1))))))) (dN 5 (aO (aa (kS "gap") (aa (xi 7 1) (aa (xi 7 0) (aa (xi 8 1) (a1 (xi 8 0)))))))))))
def cx:DS:=(cX J (cQ (slE (vE 4) (CY (ZF aF (vE 6) (kI 1))) noO)) (gN 8) bU)
def wm:DS:=(ah (aq 2 (ak dS (a1 (xi 0 2)))) (ah (aq 3 (mmE om (.int 0) (fJ J 1 [] (cQ (xi 0 2)) (gN 0) fK (xi 0 2)))) (ah (aq 4 (bD Zy (a1 (fJ (U 1) 1 [] (cQ (vE 1)) (gN 0) fK (aO (aa (xi 0 1) (a1 (xi 0 0)))))))) (ah (aq 5 (de aX)) (ah (cX (U 4) (ur (vE 4)) (gT [6,7]) cx) (Zv (vE 5)))))))
def fP:SpF:=bu 10 2 wm
def cD:DS:=(ah (aq 4 (ak iz (aa (ZE (xi 0 3) (xi 3 0)) (a1 (xi 3 1))))) (i2 (az iX (vE 4) (kE A)) (EX 2 (aO (aa (xi 3 0) (a1 (vE 4)))) (ZF aF (Ik (vE 2) (aO (aa (xi 3 0) (a1 (vE 4)))) (kI 0)) (kI 1)))))
def rX:DS:=(ah (aq 2 (vq)) (ah (cX (U 1) (cQ (vE 1)) (gN 3) cD) (Zv (vJ cP 2 2 [] (gT [0,1]) (az gtB (vE 1) (kI 1)) (aO (aa (kS "twice") (aa (xi 0 0) (a1 (xi 0 1)))))))))
def dB:SpF:=bu 5 2 rX
def gD:DS:=(O2 4 (ak dZ (aa (vE 0) (aa (vE 2) (a1 (vE 5))))))
def Jf:DS:=(ah (aq 2 (xi 1 0)) (ah (aq 3 (xi 1 1)) (ah (aq 4 (ZF aF (ZF aF (ak fO (aa (vE 0) (aa (vE 2) (a1 (vE 3))))) (ak fP (aa (vE 0) (a1 (vE 3))))) (ak dB (aa (vE 0) (a1 (vE 3)))))) (ah (cX (U 3) (cQ (vE 3)) (gN 5) gD) (Zv (bD Zy (a1 (vE 4))))))))
def jJ:SpF:=bu 6 2 Jf
def jk:DS:=(ah (aq 1 (xi 0 4)) (ah (i2 (az eqB (xi 1 0) (kS "asked")) (Zv (de aX))) (Zv (Ij (xi 1 3)))))
def d8:SpF:=bu 2 1 jk
def kH:DS:=(Zv (fJ J 1 [] (cQ (ak gO (aa (vE 0) (a1 (vE 1))))) (gN 0) fK (xi 0 0)))
def dC:SpF:=bu 2 2 kH
def gP:DS:=(i2 (az eqB (ak qk (aa (vE 6) (aa (vE 7) (aa (vE 8) (a1 (vE 2)))))) (vE 3)) (dN 4 (aO (aa (ZF aF (ZE (xi 6 4) (kI 1)) (ZF b6 (vE 8) (ZE (xi 6 4) (kI 2)))) (aa (vE 5) (a1 (vE 8)))))))
def jW:DS:=(ah (aq 7 (ak dC (aa (vE 1) (a1 (vE 5))))) (cX J (cQ (ak d8 (a1 (vE 6)))) (gN 8) gP))
def G3:DS:=(ah (aq 4 (de aX)) (ah (cX J (ur (xi 0 3)) (gT [5,6]) jW) (Zv (bD Zy (a1 (vE 4))))))
def oG:SpF:=bu 9 4 G3
def pE:DS:=(Zv (ak oG (aa (vE 0) (aa (vE 1) (aa (vE 2) (a1 (kS "open")))))))
def fG:SpF:=bu 3 3 pE
def G4:DS:=(ah (aq 5 (ZE (xi 0 3) (vE 2))) (ah (aq 6 (xi 5 3)) (ah (aq 7 (ak dA (aa (xi 1 0) (aa (xi 5 1) (a1 (vE 4)))))) (ah (i2 (fI (az neB (xi 6 2) (kI 0)) (az kf (vE 7) (kE A))) (Zv (kE A))) (ah (aq 8 (ak jU (aa (vE 5) (a1 (vE 3))))) (Zv (ak rT (aa (vE 6) (aa (vE 7) (aa (xi 8 0) (aa (xi 8 1) (a1 (ZE (ZE (ZE (xi 0 1) (xi 5 2)) (kI 1)) (kI 0))))))))))))))
def gW:SpF:=bu 9 5 G4
def d9:DS:=(ah (aq 7 (xi 6 1)) (ah (aq 8 (xi 6 2)) (ah (aq 9 (ak gW (aa (vE 0) (aa (vE 1) (aa (vE 7) (aa (vE 8) (a1 (vE 2)))))))) (ifS (az kf (vE 9) (kE A)) (dN 4 (aO (aa (vE 7) (aa (vE 8) (a1 (frE (de (a1 (aO (aa (kS "weight") (aa (vE 7) (a1 (vE 2))))))))))))) (ah (aq 10 (ak d7 (aa (vE 5) (aa (vE 7) (aa (vE 2) (a1 (vE 9))))))) (ah (aq 11 (ak jJ (aa (vE 0) (a1 (vE 10))))) (ifS (az eqB (vE 11) (de aX)) (ah (aq 5 (vE 10)) (dN 3 (aO (aa (vE 7) (aa (vE 8) (a1 (vE 9))))))) (FY [11] (dN 4 (aO (aa (vE 7) (aa (vE 8) (a1 (vE 11))))))))))))))
def Cg:DS:=(ah (aq 3 (de aX)) (ah (aq 4 (de aX)) (ah (aq 5 (vE 1)) (ah (cX J (cQ (ak fG (aa (vE 0) (aa (vE 1) (a1 (vE 2)))))) (gN 6) d9) (FY [3,4] (Zv (aO (aa (vE 3) (a1 (vE 4))))))))))
def iB:SpF:=bu 12 3 Cg
def pF:DS:=(ah (aq 2 (kI 0)) (ah (i2 (az gtB (bD cO (a1 (vE 0))) (kI 0)) (aq 2 (ZE (vE 0) (ZF bh (vE 1) (bD cO (a1 (vE 0))))))) (ah (aq 3 (ZF bh (ZF aF (ZF aF (ZF b6 (ZF bh (vE 2) (kI 1000003)) (kI 48271)) (ZF b6 (ZF b6 (vE 1) (vE 1)) (kI 7919))) (kI 1)) (kI 65521))) (Zv (ZF bh (ZF b6 (vE 3) (vE 3)) (kI 65519))))))
def ae:SpF:=bu 4 2 pF
def uL:DS:=(Zv (ZE (de (aa (kI 1) (aa (kI 1) (aa (kI 1) (aa (kI 1) (aa (kI 1) (a1 (ZF wZ (kI 10) (kI 6))))))))) (ZF bh (ak ae (aa (vE 0) (a1 (kI 300)))) (kI 6))))
def da:SpF:=bu 1 1 uL
def lh:DS:=(ah (aq 4 (ZF b6 (vE 3) (ZF aF (kI 3) (ZF bh (ak ae (aa (vE 0) (a1 (ZF aF (vE 1) (kI 1))))) (kI 28))))) (ah (aq 5 (ZF bh (ak ae (aa (vE 0) (a1 (vE 1)))) (kI 3))) (ah (i2 (az eqB (vE 5) (kI 0)) (Zv (aO (aa (kS "flat") (aa (vE 4) (a1 (ZF b6 (vE 2) (ZF aF (kI 3) (ZF bh (ak ae (aa (vE 0) (a1 (ZF aF (vE 1) (kI 2))))) (kI 18)))))))))) (ah (i2 (az eqB (vE 5) (kI 1)) (Zv (aO (aa (kS "kilo") (aa (vE 4) (aa (ZF b6 (vE 2) (ZF aF (kI 1) (ZF bh (ak ae (aa (vE 0) (a1 (ZF aF (vE 1) (kI 3))))) (kI 9)))) (a1 (ZF aF (kI 5) (ZF bh (ak ae (aa (vE 0) (a1 (ZF aF (vE 1) (kI 4))))) (kI 40)))))))))) (Zv (aO (aa (kS "ever") (a1 (ZF b6 (vE 2) (ZF aF (kI 8) (ZF bh (ak ae (aa (vE 0) (a1 (ZF aF (vE 1) (kI 2))))) (kI 30))))))))))))
def gX:SpF:=bu 6 4 lh
def fQ:DS:=(dN 5 (ZF aF (ZE (vE 5) (unE EW (kI 1))) (ZF b6 (vE 4) (ZF aF (kI 1) (ZF bh (ak ae (aa (vE 0) (a1 (ZF aF (ZF aF (vE 1) (kI 2)) (vE 6))))) (kI 6))))))
def fR:DS:=(dN 7 (ak gX (aa (vE 0) (aa (ZF aF (ZF aF (vE 1) (kI 6)) (ZF b6 (kI 5) (vE 6))) (aa (vE 4) (a1 (vE 3)))))))
def pG:DS:=(ah (aq 4 (ZF b6 (ZF aF (kI 1) (ZF bh (ak ae (aa (vE 0) (a1 (vE 1)))) (kI 5))) (ZE (de (aa (kI 1) (aa (kI 1) (a1 (ZF wZ (kI 10) (kI 4)))))) (ZF bh (ak ae (aa (vE 0) (a1 (kI 301)))) (kI 3))))) (ah (aq 5 (de (a1 (vE 4)))) (ah (cX J (cA (ZF bh (ak ae (aa (vE 0) (a1 (ZF aF (vE 1) (kI 1))))) (kI 3))) (gN 6) fQ) (ah (aq 7 (de aX)) (ah (cX J (cA (ZF bh (ak ae (aa (vE 0) (a1 (ZF aF (vE 1) (kI 4))))) (kI 3))) (gN 6) fR) (ah (aq 8 (ak ae (aa (vE 0) (a1 (ZF aF (vE 1) (kI 5)))))) (Zv (aO (aa (vE 2) (aa (bD dz (a1 (vE 5))) (aa (bD dz (a1 (vE 7))) (a1 (ZF b6 (ZF b6 (ZF bh (vE 8) (kI 2)) (vE 3)) (ZF bh (ZF cW (vE 8) (kI 2)) (kI 20)))))))))))))))
def j6:SpF:=bu 9 4 pG
def mL:DS:=(ah (i2 (az eqB (ZF bh (ak ae (aa (vE 0) (a1 (vE 1)))) (kI 4)) (kI 0)) (Zv (aO (aa (kS "asked") (a1 (ZF b6 (vE 2) (ZF bh (ak ae (aa (vE 0) (a1 (ZF aF (vE 1) (kI 1))))) (kI 20)))))))) (ah (aq 3 (ZF aF (kI 2) (ZF bh (ak ae (aa (vE 0) (a1 (ZF aF (vE 1) (kI 2))))) (kI 10)))) (ah (aq 4 (ZF bh (ak ae (aa (vE 0) (a1 (ZF aF (vE 1) (kI 3))))) (vE 3))) (ah (aq 5 (ZF bh (ak ae (aa (vE 0) (a1 (ZF aF (vE 1) (kI 4))))) (ZF iU (vE 3) (vE 4)))) (ah (aq 6 (ZF aF (vE 4) (ZF bh (ak ae (aa (vE 0) (a1 (ZF aF (vE 1) (kI 1))))) (kI 12)))) (Zv (aO (aa (kS "due") (aa (ZF b6 (vE 2) (vE 6)) (aa (ZF b6 (vE 2) (vE 3)) (aa (ZF aF (kI 1) (ZF bh (ak ae (aa (vE 0) (a1 (ZF aF (vE 1) (kI 5))))) (kI 6))) (aa (ZF b6 (vE 2) (vE 4)) (a1 (ZF b6 (vE 2) (vE 5)))))))))))))))
def iD:SpF:=bu 7 3 mL
def fS:DS:=(ah (aq 14 (ZF aF (ZF aF (vE 14) (kI 1)) (ZF bh (ak ae (aa (vE 0) (a1 (ZF aF (ZF aF (vE 1) (kI 14)) (vE 15))))) (kI 2)))) (ah (aq 16 (ZF aF (kI 1) (ZF bh (ak ae (aa (vE 0) (a1 (ZF aF (ZF aF (vE 1) (kI 16)) (vE 15))))) (kI 12)))) (i2 (fI (az eqB (xi 12 0) (kS "due")) (az ltB (vE 14) (xi 12 3))) (dN 13 (aO (aa (vE 14) (aa (ZF aF (kI 1) (ZF bh (ak ae (aa (vE 0) (a1 (ZF aF (ZF aF (vE 1) (kI 18)) (vE 15))))) (vE 16))) (a1 (vE 16)))))))))
def pH:DS:=(ah (aq 6 (ZF bh (ak ae (aa (vE 0) (a1 (vE 1)))) (bD cO (a1 (vE 4))))) (ah (aq 7 (ZE (ZE (ZE (vE 4) (vE 6)) (kI 1)) (kI 0))) (ah (aq 8 (ZF b6 (vE 7) (ZF aF (kI 1) (ZF bh (ak ae (aa (vE 0) (a1 (ZF aF (vE 1) (kI 1))))) (kI 12))))) (ah (aq 9 (ZF b6 (ZF bh (ak ae (aa (vE 0) (a1 (ZF aF (vE 1) (kI 2))))) (kI 2)) (ZF aF (kI 10) (ZF bh (ak ae (aa (vE 0) (a1 (ZF aF (vE 1) (kI 3))))) (kI 90))))) (ah (aq 10 (ZF aF (ZF aF (ZF b6 (vE 7) (ZF bh (ak ae (aa (vE 0) (a1 (ZF aF (vE 1) (kI 4))))) (kI 8))) (kI 1)) (ZF bh (ak ae (aa (vE 0) (a1 (ZF aF (vE 1) (kI 5))))) (vE 7)))) (ah (aq 11 (aO (aa (ZE (de (aa (kS "down") (aa (kS "up") (a1 (kS "near"))))) (ZF bh (ak ae (aa (vE 0) (a1 (ZF aF (vE 1) (kI 6))))) (kI 3))) (aa (vE 10) (aa (vE 9) (a1 (vE 8))))))) (ah (aq 12 (ak iD (aa (vE 0) (aa (ZF aF (vE 1) (kI 8)) (a1 (vE 5)))))) (ah (aq 13 (de aX)) (ah (aq 14 (kI 0)) (ah (cX J (cA (ZF bh (ak ae (aa (vE 0) (a1 (ZF aF (vE 1) (kI 7))))) (kI 3))) (gN 15) fS) (Zv (aO (aa (vE 2) (aa (ZF bh (ak ae (aa (vE 0) (a1 (ZF aF (vE 1) (kI 20))))) (bD cO (a1 (vE 3)))) (aa (vE 6) (aa (vE 11) (aa (vE 12) (a1 (bD dz (a1 (vE 13)))))))))))))))))))))
def j7:SpF:=bu 17 6 pH
def dD:DS:=(dN 3 (aO (aa (ZE (xi 2 0) (vE 4)) (a1 (ZF b6 (vE 1) (ZF bh (ak ae (aa (vE 0) (a1 (ZF aF (kI 302) (vE 4))))) (kI 10)))))))
def dE:DS:=(dN 5 (ak j6 (aa (vE 0) (aa (ZF aF (kI 310) (ZF b6 (kI 20) (vE 4))) (aa (ZE (xi 2 1) (vE 4)) (a1 (vE 1)))))))
def dF:DS:=(i2 (az eqB (ZF bh (ak ae (aa (vE 0) (a1 (ZF aF (ZF aF (kI 370) (ZF b6 (kI 3) (vE 7))) (vE 8))))) (kI 3)) (kI 0)) (ah (aq 9 (ZF b6 (vE 1) (ZF aF (kI 1) (ZF bh (ak ae (aa (vE 0) (a1 (ZF aF (ZF aF (kI 380) (ZF b6 (kI 3) (vE 7))) (vE 8))))) (kI 8))))) (P0 6 (ZF bh (ak ae (aa (vE 0) (a1 (ZF aF (ZF aF (kI 390) (ZF b6 (kI 3) (vE 7))) (vE 8))))) (ZF aF (bD cO (a1 (vE 6))) (kI 1))) (aO (aa (vE 7) (aa (vE 8) (a1 (vE 9))))))))
def dG:DS:=(cX J (vp (vE 7) (bD cO (a1 (vE 5)))) (gN 8) dF)
def dH:DS:=(dN 10 (ak j7 (aa (vE 0) (aa (ZF aF (kI 400) (ZF b6 (kI 25) (vE 4))) (aa (ZE (xi 2 2) (vE 4)) (aa (vE 3) (aa (vE 5) (a1 (vE 1)))))))))
def pI:DS:=(ah (aq 1 (ak da (a1 (vE 0)))) (ah (aq 2 (ZE (de (aa (de (aa (kS "abc") (aa (kS "uvw") (a1 (kS "klmn"))))) (a1 (de (aa (kS "abcd") (aa (kS "abcd") (a1 (kS "abcd")))))))) (bD Aj (a1 (bE (az eqB (ZF bh (ak ae (aa (vE 0) (a1 (kI 299)))) (kI 3)) (kI 0))))))) (ah (aq 3 (de aX)) (ah (cX J (cA (ZF aF (kI 1) (ZF bh (ak ae (aa (vE 0) (a1 (kI 305)))) (kI 3)))) (gN 4) dD) (ah (aq 5 (de aX)) (ah (cX J (cA (ZF aF (kI 1) (ZF bh (ak ae (aa (vE 0) (a1 (kI 306)))) (kI 3)))) (gN 4) dE) (ah (aq 6 (de aX)) (ah (cX J (cA (bD cO (a1 (vE 5)))) (gN 7) dG) (ah (aq 10 (de aX)) (ah (cX J (cA (ZF aF (kI 1) (ZF bh (ak ae (aa (vE 0) (a1 (kI 307)))) (kI 4)))) (gN 4) dH) (Zv (aO (aa (bD dz (a1 (vE 3))) (aa (bD dz (a1 (vE 5))) (aa (bD dz (a1 (vE 6))) (a1 (bD dz (a1 (vE 10)))))))))))))))))))
def j8:SpF:=bu 11 1 pI
def mM:DS:=(ah (aq 4 (xi 2 4)) (ah (i2 (az eqB (xi 4 0) (kS "asked")) (Zv (ZF aF (xi 4 1) (ZF b6 (vE 3) (ZF bh (ak ae (aa (vE 0) (a1 (vE 1)))) (kI 40)))))) (ah (aq 5 (ak ae (aa (vE 0) (a1 (ZF aF (vE 1) (kI 1)))))) (ah (aq 6 (ZF iU (ZF aF (xi 4 1) (ZF b6 (ZF bh (ak ae (aa (vE 0) (a1 (vE 1)))) (xi 4 3)) (xi 4 2))) (xi 4 4))) (ah (aq 6 (ZF aF (ZF aF (vE 6) (ZF b6 (vE 3) (ZF bh (vE 5) (ZF aF (kI 1) (ZF cW (ZF aF (xi 4 4) (xi 4 5)) (vE 3)))))) (ZF b6 (vE 3) (bD Aj (a1 (bE (az eqB (ZF bh (vE 5) (kI 7)) (kI 3)))))))) (Zv (bD uf (aa (ZF wZ (kI 10) (kI 9)) (a1 (ZF aF (vE 6) (ZF b6 (ZF bh (ZF cW (vE 5) (kI 7)) (kI 2)) (bD Aj (a1 (bE (az gtB (vE 3) (kI 1))))))))))))))))
def dI:SpF:=bu 7 4 mM
def pJ:DS:=(Zv (fJ (U 0) 1 [] (cQ (vE 0)) (gN 0) fK (aO (aa (xi 0 0) (a1 (xi 0 1))))))
def dJ:SpF:=bu 1 1 pJ
def gG:DS:=(i2 (fI (az eqB (xi 4 0) (vE 1)) (az leB (xi 4 1) (vE 2))) (aq 3 (xi 4 2)))
def wq:DS:=(ah (aq 3 (kE A)) (ah (cX (U 0) (cQ (vE 0)) (gN 4) gG) (Zv (vE 3))))
def cT:SpF:=bu 5 3 wq
def fT:DS:=(ah (aq 3 (ZF aF (ZE (xi 0 4) (kI 1)) (ZF b6 (vE 2) (ZE (xi 0 4) (kI 2))))) (i2 (jg leB leB (ZF iU (vE 3) (ZE (xi 0 4) (kI 4))) (vE 1) (ZF aF (vE 3) (ZE (xi 0 4) (kI 5)))) (Zv (vE 2))))
def oH:DS:=(ah (i2 (az eqB (ZE (xi 0 4) (kI 0)) (kS "due")) (cX J (cA (ZE (xi 0 4) (kI 3))) (gN 2) fT)) (Zv (kE A)))
def jK:SpF:=bu 4 2 oH
def iE:DS:=(ah (i2 (az eqB (xi 0 0) (kS "ever")) (Zv (xi 0 1))) (ah (i2 (az eqB (xi 0 0) (kS "flat")) (Zv (xi 0 2))) (ah (i2 (az kf (vE 1) (kE A)) (Zv (kE A))) (Zv (ZF cW (ZF b6 (vE 1) (xi 0 2)) (xi 0 3))))))
def dK:SpF:=bu 2 2 iE
def f7:DS:=(i2 (fI (az eqB (ZE (ZE (xi 0 3) (vE 9)) (kI 1)) (vE 2)) (fI (az eqB (ZE (ZE (xi 0 3) (vE 9)) (kI 2)) (vE 3)) (az leB (vE 10) (vE 4)))) (i2 (orT (az eqB (xi 7 0) (kS "ever")) (az gtB (vE 10) (ZF iU (vE 4) (xi 7 1)))) (aq 8 (ZF aF (vE 8) (vE 11)))))
def gz:DS:=(ah (aq 7 (ZE (ZE (ZE (xi 0 1) (vE 3)) (kI 2)) (vE 6))) (ah (aq 8 (kI 0)) (ah (cX J (cQ (xi 1 1)) (gT [9,10,11]) f7) (ah (aq 12 (ak dK (aa (vE 7) (a1 (ak cT (aa (xi 1 0) (aa (vE 2) (a1 (vE 4))))))))) (i2 (fI (az iX (vE 12) (kE A)) (az gtB (vE 8) (vE 12))) (dN 5 (aO (aa (kS "cap") (aa (vE 2) (aa (vE 3) (aa (vE 6) (aa (vE 4) (aa (vE 8) (a1 (vE 12)))))))))))))))
def Ci:DS:=(ah (aq 5 (de aX)) (ah (cX J (cA (bD cO (a1 (ZE (ZE (xi 0 1) (vE 3)) (kI 2))))) (gN 6) gz) (Zv (vE 5))))
def iF:SpF:=bu 13 5 Ci
def f9:DS:=(i2 (fI (az J1 (aO (aa (vE 3) (a1 (vE 2)))) (aO (aa (vE 7) (a1 (vE 6))))) (fI (az eqB (ZE (xi 8 0) (kI 1)) (ZE (xi 8 1) (kI 1))) (az eqB (slE (vE 10) noO (CY (kI 2))) (vE 9)))) (i2 (az ltB (ZF iU (vE 7) (vE 3)) (xi 10 2)) (dN 4 (aO (aa (kS "gap") (aa (vE 2) (aa (vE 3) (aa (vE 6) (a1 (vE 7))))))))))
def gA:DS:=(ah (aq 6 (xi 5 0)) (ah (aq 7 (xi 5 1)) (ah (aq 8 (de (aa (ZE (xi 0 3) (vE 2)) (a1 (ZE (xi 0 3) (vE 6)))))) (ah (aq 9 (bD dz (a1 (bD Zy (a1 (de (aa (ZE (xi 8 0) (kI 2)) (a1 (ZE (xi 8 1) (kI 2)))))))))) (cX J (cQ (xi 0 2)) (gN 10) f9)))))
def Cj:DS:=(ah (aq 4 (de aX)) (ah (cX J (cQ (xi 1 1)) (gN 5) gA) (Zv (vE 4))))
def iG:SpF:=bu 11 4 Cj
def uM:DS:=(ah (aq 5 (ZE (xi 0 3) (vE 2))) (ah (aq 6 (ZE (xi 0 1) (xi 5 2))) (ah (aq 7 (ak jK (aa (vE 5) (a1 (vE 3))))) (ah (aq 8 (de aX)) (ah (i2 (orT (fI (az eqB (ZE (xi 5 4) (kI 0)) (kS "due")) (az kf (vE 7) (kE A))) (fI (az eqB (ZE (xi 5 4) (kI 0)) (kS "asked")) (az ltB (vE 3) (ZE (xi 5 4) (kI 1))))) (dN 8 (aO (aa (kS "astray") (aa (vE 2) (a1 (vE 3))))))) (ah (i2 (az gtB (vE 4) (ZE (xi 5 3) (kI 3))) (dN 8 (aO (aa (kS "most") (aa (vE 2) (a1 (vE 3))))))) (ah (i2 (orT (az ltB (vE 4) (kI 1)) (az gtB (ZF bh (vE 4) (ZE (xi 6 1) (kI 0))) (kI 0))) (dN 8 (aO (aa (kS "part") (aa (vE 2) (a1 (vE 3))))))) (ah (i2 (az ltB (vE 3) (ZF aF (ZE (ZE (xi 0 0) (xi 5 1)) (kI 1)) (xi 6 3))) (dN 8 (aO (aa (kS "young") (aa (vE 2) (a1 (vE 3))))))) (ah (i2 (fI (az inB (kS "kilo") (fJ J 1 [] (cQ (xi 6 2)) (gN 0) fK (xi 0 0))) (az kf (ak cT (aa (xi 1 0) (aa (xi 5 1) (a1 (vE 3))))) (kE A))) (dN 8 (aO (aa (kS "weight") (aa (vE 2) (a1 (vE 3))))))) (ah (aq 9 (fJ J 1 [2] (cQ (xi 1 1)) (gN 0) (az eqB (xi 0 0) (vE 1)) (vE 0))) (ah (i2 (fI (az iX (vE 7) (kE A)) (az gtB (bD cO (a1 (fJ (U 9) 1 [5,7] (cQ (vE 9)) (gN 0) (az eqB (ak jK (aa (vE 1) (a1 (xi 0 1)))) (vE 2)) (vE 0)))) (kI 1))) (dN 8 (aO (aa (kS "twice") (aa (vE 2) (a1 (vE 7))))))) (Zv (vE 8)))))))))))))
def lj:SpF:=bu 10 5 uM
def fj:DS:=(ah (aq 2 (ZF aF (vE 2) (ak lj (aa (vE 0) (aa (vE 1) (aa (vE 3) (aa (vE 4) (a1 (vE 5))))))))) (ah (aq 2 (ZF aF (vE 2) (ak iF (aa (vE 0) (aa (vE 1) (aa (ZE (ZE (xi 0 3) (vE 3)) (kI 1)) (aa (ZE (ZE (xi 0 3) (vE 3)) (kI 2)) (a1 (vE 4))))))))) (aq 2 (ZF aF (vE 2) (ak iG (aa (vE 0) (aa (vE 1) (aa (vE 3) (a1 (vE 4))))))))))
def wx:DS:=(ah (aq 2 (de aX)) (ah (cX J (cQ (xi 1 1)) (gT [3,4,5]) fj) (Zv (nF (vE 2)))))
def bA:SpF:=bu 6 2 wx
def rY:DS:=(Zv (aO (aa (xi 0 0) (a1 (bD dz (a1 (bD Zy (a1 (ZF fZ (xi 0 1) (aO (a1 (aO (aa (vE 1) (aa (vE 2) (a1 (vE 3))))))))))))))))
def cg:SpF:=bu 4 4 rY
def jm:DS:=(ah (aq 6 (ZF fZ (kI 1000) (ZF b6 (kI 7) (vE 5)))) (ah (aq 7 (ZF bh (ak ae (aa (vE 0) (a1 (vE 6)))) (bD cO (a1 (xi 1 3))))) (ah (aq 8 (ZE (xi 1 3) (vE 7))) (ah (aq 9 (ak dI (aa (vE 0) (aa (ZF fZ (vE 6) (kI 1)) (aa (vE 8) (a1 (vE 3))))))) (ah (aq 10 (ZE (ZE (ZE (xi 1 1) (xi 8 2)) (kI 1)) (kI 0))) (ah (aq 11 (ZF b6 (vE 10) (ZF fZ (kI 1) (ZF bh (ak ae (aa (vE 0) (a1 (ZF fZ (vE 6) (kI 4))))) (ZF cW (ZE (xi 8 3) (kI 3)) (vE 10)))))) (ah (aq 12 (vE 4)) (ah (ifS (az eqB (ZF bh (ZF cW (ak ae (aa (vE 0) (a1 (vE 6)))) (kI 8)) (kI 3)) (kI 0)) (i2 (az Ai (aO (aa (xi 8 1) (a1 (ZF b6 (ZF cW (ZF cW (vE 9) (vE 3)) (kI 2)) (vE 3))))) (ak dJ (a1 (xi 4 0)))) (ah (aq 13 (aO (aa (xi 8 1) (aa (ZF b6 (ZF cW (ZF cW (vE 9) (vE 3)) (kI 2)) (vE 3)) (a1 (ZF fZ (kI 1) (ZF bh (ak ae (aa (vE 0) (a1 (ZF fZ (vE 6) (kI 3))))) (kI 200)))))))) (aq 12 (aO (aa (bD dz (a1 (bD Zy (a1 (ZF fZ (xi 4 0) (aO (a1 (vE 13)))))))) (a1 (xi 4 1))))))) (i2 (az Ai (aO (aa (vE 7) (a1 (vE 9)))) (ak dJ (a1 (xi 4 1)))) (aq 12 (ak cg (aa (vE 4) (aa (vE 7) (aa (vE 9) (a1 (vE 11))))))))) (i2 (az eqB (bD cO (a1 (ak bA (aa (vE 1) (a1 (vE 12)))))) (kI 0)) (aq 4 (vE 12)))))))))))
def Ck:DS:=(ah (aq 3 (ak da (a1 (vE 0)))) (ah (aq 4 (aO (aa (aO aX) (a1 (aO aX))))) (ah (cX J (cA (vE 2)) (gN 5) jm) (Zv (vE 4)))))
def mN:SpF:=bu 14 3 Ck
def mO:DS:=(ah (i2 (az eqB (ZE (xi 0 4) (kI 0)) (kS "asked")) (Zv (kI 0))) (Zv (ZE (xi 0 4) (kI 3))))
def g8:SpF:=bu 1 1 mO
def fB:DS:=(ah (aq 9 (ZF aF (xi 6 1) (ZF b6 (vE 8) (xi 6 2)))) (ah (aq 10 (kS "open")) (ah (i2 (az ltB (vE 2) (ZF iU (vE 9) (xi 6 4))) (aq 10 (kS "ahead"))) (ah (i2 (az gtB (vE 2) (ZF aF (vE 9) (xi 6 5))) (aq 10 (kS "missed"))) (ah (i2 (az gtB (bD cO (a1 (fJ (U 7) 1 [6,9] (cQ (vE 7)) (gN 0) (jg leB leB (ZF iU (vE 2) (xi 1 4)) (vE 0) (ZF aF (vE 2) (xi 1 5))) (vE 0)))) (kI 0)) (aq 10 (kS "given"))) (i2 (az eqB (vE 10) (vE 3)) (dN 4 (aO (aa (vE 9) (aa (vE 5) (a1 (vE 8))))))))))))
def cU:DS:=(ah (aq 6 (ZE (ZE (xi 0 3) (vE 5)) (kI 4))) (ah (aq 7 (fJ J 1 [5] (cQ (xi 1 1)) (gN 0) (az eqB (xi 0 0) (vE 1)) (xi 0 1))) (cX J (cA (ak g8 (a1 (ZE (xi 0 3) (vE 5))))) (gN 8) fB)))
def pX:DS:=(ah (aq 4 (de aX)) (ah (cX J (cA (bD cO (a1 (xi 0 3)))) (gN 5) cU) (Zv (bD Zy (a1 (vE 4))))))
def cZ:SpF:=bu 11 4 pX
def Cm:DS:=(ah (aq 5 (ZF b6 (xi 0 1) (vE 2))) (ah (aq 6 (vE 3)) (ah (i2 (az gtB (xi 0 2) (kI 0)) (ah (aq 5 (ZF b6 (vE 5) (vE 1))) (aq 6 (ZF b6 (vE 6) (xi 0 2))))) (ah (aq 7 (ZF b6 (ZF cW (vE 5) (ZF b6 (vE 6) (vE 4))) (vE 4))) (ah (aq 8 (ZF iU (vE 5) (ZF b6 (vE 7) (vE 6)))) (ah (i2 (orT (fI (az eqB (xi 0 0) (kS "up")) (az gtB (vE 8) (kI 0))) (fI (az eqB (xi 0 0) (kS "near")) (az gtB (ZF b6 (kI 2) (vE 8)) (ZF b6 (vE 6) (vE 4))))) (aq 7 (ZF aF (vE 7) (vE 4)))) (ah (i2 (az gtB (vE 7) (xi 0 3)) (aq 7 (ZF b6 (ZF cW (xi 0 3) (vE 4)) (vE 4)))) (Zv (vE 7)))))))))
def iH:SpF:=bu 9 5 Cm
def dU:DS:=(i2 (az leB (xi 8 0) (vE 3)) (aq 7 (vE 8)))
def tF:DS:=(ah (aq 5 (ZE (xi 0 3) (vE 2))) (ah (aq 6 (ak cT (aa (xi 1 0) (aa (xi 5 1) (a1 (vE 4)))))) (ah (i2 (fI (az kf (vE 6) (kE A)) (az gtB (ZE (xi 5 3) (kI 2)) (kI 0))) (Zv (kE A))) (ah (aq 7 (aO (aa (kI 0) (aa (kI 1) (a1 (kI 1)))))) (ah (cX J (cQ (xi 5 5)) (gN 8) dU) (Zv (ak iH (aa (xi 5 3) (aa (vE 6) (aa (xi 7 1) (aa (xi 7 2) (a1 (ZE (ZE (ZE (xi 0 1) (xi 5 2)) (kI 1)) (kI 0))))))))))))))
def cH:SpF:=bu 9 5 tF
def cj:DS:=(ah (aq 8 (ak cH (aa (vE 0) (aa (vE 1) (aa (vE 6) (aa (vE 7) (a1 (vE 2)))))))) (ah (aq 9 (de (a1 (aO (aa (kS "weight") (aa (vE 6) (a1 (vE 2)))))))) (ah (i2 (az iX (vE 8) (kE A)) (aq 9 (ak bA (aa (vE 0) (a1 (ak cg (aa (vE 1) (aa (vE 6) (aa (vE 2) (a1 (vE 8))))))))))) (ifS (az eqB (bD cO (a1 (vE 9))) (kI 0)) (ah (dN 3 (aO (aa (vE 6) (aa (vE 7) (a1 (vE 8)))))) (aq 1 (ak cg (aa (vE 1) (aa (vE 6) (aa (vE 2) (a1 (vE 8)))))))) (FY [9] (dN 4 (aO (aa (vE 6) (aa (vE 7) (a1 (vE 9)))))))))))
def AO:DS:=(ah (aq 3 (de aX)) (ah (aq 4 (de aX)) (ah (cX J (cQ (ak cZ (aa (vE 0) (aa (vE 1) (aa (vE 2) (a1 (kS "open"))))))) (gT [5,6,7]) cj) (FY [3,4] (Zv (aO (aa (vE 3) (a1 (vE 4)))))))))
def gE:SpF:=bu 10 3 AO
def bZ(rec:SpF):DS:=(ah (i2 (orT (jf (bE (oq "tuple" (vE 1)))) (jf (bE (oq "list" (vE 1))))) (ah (i2 (fI (jf (bE (oq "tuple" (vE 1)))) (tm (jf (bE (oq "tuple" (vE 0)))))) (Zv (kE (.bl M)))) (ah (i2 (fI (jf (bE (oq "list" (vE 1)))) (tm (jf (bE (oq "list" (vE 0)))))) (Zv (kE (.bl M)))) (ah (i2 (az neB (bD cO (a1 (vE 0))) (bD cO (a1 (vE 1)))) (Zv (kE (.bl M)))) (Zv (bD BC (a1 (fJ J 1 [0,1] (cA (bD cO (a1 (vE 1)))) (gN 0) fK (ak rec (aa (ZE (vE 1) (vE 0)) (a1 (ZE (vE 2) (vE 0))))))))))))) (ah (i2 (az kf (vE 1) (kE A)) (Zv (bE (az kf (vE 0) (kE A))))) (ah (i2 (jf (bE (oq "str" (vE 1)))) (Zv (bE (fI (oq "str" (vE 0)) (az eqB (vE 0) (vE 1)))))) (Zv (bE (fI (oq "int" (vE 0)) (fI (tm (oq "bool" (vE 0))) (az eqB (vE 0) (vE 1)))))))))
noncomputable def aB:Nat->SpF|0=>bu 2 2 Ht|n+1=>bu 2 2 (bZ (aB n))
def j9:SpF:=aB 6
def AQ:DS:=(ah (aq 4 (ZE (xi 1 3) (ZF bh (ak ae (aa (vE 0) (a1 (ZF aF (kI 2000) (ZF b6 (kI 5) (vE 3)))))) (bD cO (a1 (xi 1 3)))))) (ah (aq 5 (ak dI (aa (vE 0) (aa (ZF aF (kI 2001) (ZF b6 (kI 5) (vE 3))) (aa (vE 4) (a1 (ak da (a1 (vE 0))))))))) (i2 (tm (jf (ak j9 (aa (ak iB (aa (vE 1) (aa (vE 2) (a1 (vE 5))))) (a1 (ak gE (aa (vE 1) (aa (vE 2) (a1 (vE 5)))))))))) (Zv (kE (.bl M))))))
def SN:DS:=(ah (aq 1 (ak j8 (a1 (vE 0)))) (ah (aq 2 (ak mN (aa (vE 0) (aa (vE 1) (a1 (kI 9)))))) (ah (cX J (cA (kI 4)) (gN 3) AQ) (Zv (kE (.bl O))))))
def uN:SpF:=bu 6 1 SN
end Den
namespace Maths
open DL.D renaming int→E,tup→N,lst→Q,str→X,bl→ZZ,fl→δ,dT→ε,non→ζ
open DL.Slot renaming sh→Z,own→Y,lok→γ
open DL.Out renaming nx→P,ret→η
open DL Den PySem
abbrev Os:=Option Slot
@[simp high] theorem g0x:(a::l)[0]? =U a:=rfl
@[simp high] theorem gsx:(a::l)[n+1]? =l[n]? :=rfl
noncomputable def SO(o:Option D):Option RV:=o.map λd=> ⟨.c,d⟩
@[simp] theorem UJ:SO (U d)=U ⟨.c,d⟩:=rfl
def ix2(a b:Option RV):Option RV:=a.bind λx=>b.bind λy=>(ixD x.d y.d).map λd=> ⟨.c,d⟩
@[simp] theorem V8:ix2 (U x) (U y)=SO (ixD x.d y.d):=rfl
@[simp↓ high] theorem V9:ZE f g env=ix2 (f env) (g env):=rfl
noncomputable def op2(o:D->D->Option RV)(a b:Option RV):Option RV:=a.bind λx=>b.bind λy=>o x.d y.d
@[simp] theorem Va:op2 o (U x) (U y)=o x.d y.d:=rfl
@[simp↓ high] theorem Vb:ZF o f g env=op2 o (f env) (g env):=rfl
noncomputable def cm2(o:D->D->Option Bool)(a b:Option RV):Option Bool:=a.bind λx=>b.bind λy=>o x.d y.d
@[simp] theorem Vc:cm2 o (U x) (U y)=o x.d y.d:=rfl
@[simp↓ high] theorem UK:az o f g env=cm2 o (f env) (g env):=rfl
noncomputable def co2(a:Option RV)(b:Option (List RV)):Option (List RV):=a.bind λx=>b.bind λxs=>U (x::xs)
@[simp] theorem Vd:co2 (U x) (U xs)=U (x::xs):=rfl
@[simp↓ high] theorem TM:aa f r env=co2 (f env) (r env):=rfl
@[simp↓ high] theorem UL:aX env=U []:=rfl
@[simp↓ high] theorem VF:kE d env=U ⟨.c,d⟩:=rfl
@[simp↓ high] theorem VG:vE (n+1) (a::env)=vE n env:=rfl
@[simp↓ high] theorem VH:vE 0 (U (Z d)::env)=U ⟨.c,d⟩:=rfl
@[simp↓ high] theorem VI:vE 0 (U (Y d)::env)=U ⟨.to,d⟩:=rfl
@[simp↓ high] theorem VJ:vE 0 (U (γ d)::env)=U ⟨.tb,d⟩:=rfl
@[simp↓ high] theorem VL:vE 0 (U (.bor d)::env)=U ⟨.tb,d⟩:=rfl
def se2(i:Nat)(a:Option RV)(env:DL.Env):Option Out:=a.bind λr=>(stored i r env).map P
@[simp] theorem Ve:se2 i (U ⟨.c,d⟩) env=U (P (env.set i (U (Z d)))):=rfl
@[simp] theorem Vf:se2 i (U ⟨.tn,d⟩) env=U (P (env.set i (U (Y d)))):=rfl
@[simp] theorem Vg:se2 i (U r) env=(stored i r env).map P:=rfl
@[simp↓ high] theorem UM:aq i f env=se2 i (f env) env:=rfl
def ca2(s:SpF)(a:Option (List RV)):Option RV:=a.bind λrs=>(s (rs.map (·.d))).map ku
@[simp] theorem Vh:ca2 s (U rs)=(s (rs.map RV.d)).map ku:=rfl
@[simp↓ high] theorem TN:ak s a env=ca2 s (a env):=rfl
noncomputable def bl2(s:SpV)(a:Option (List RV)):Option RV:=a.bind λrs=>s (rs.map (·.d))
@[simp] theorem Vi:bl2 s (U rs)=s (rs.map RV.d):=rfl
@[simp↓ high] theorem UN:bD s a env=bl2 s (a env):=rfl
noncomputable def sqK(o:Option Out)(g:DS):Option Out:=o.bind λo=>match o with
 | P e=>g e
 |o=>U o
@[simp] theorem Vj:sqK (U (P e)) g=g e:=rfl
@[simp] theorem Vk:sqK (U (η d)) g=U (η d):=rfl
@[simp] theorem Vl:sqK (U (.bk e)) g=U (.bk e):=rfl
@[simp] theorem Vm:sqK (U (.ct e)) g=U (.ct e):=rfl
@[simp↓ high] theorem UO:ah f g env=sqK (f env) g:=rfl
noncomputable def iK(o:Option Bool)(f g:DS)(env:DL.Env):Option Out:=o.bind λb=>if b then f env else g env
@[simp] theorem VM:iK (U O) f g env=f env:=rfl
@[simp] theorem VN:iK (U M) f g env=g env:=rfl
@[simp] theorem VO:iK (U b) f g env=if b then f env else g env:=rfl
@[simp↓ high] theorem Vn:ifS t f g env=iK (t env) f g env:=rfl
noncomputable def aK(o:Option Bool)(u:DT)(env:DL.Env):Option Bool:=o.bind λb=>if b then u env else U M
@[simp] theorem VP:aK (U O) u env=u env:=rfl
@[simp] theorem VQ:aK (U M) u env=U M:=rfl
@[simp] theorem VR:aK (U b) u env=if b then u env else U M:=rfl
@[simp↓ high] theorem UP:fI t u env=aK (t env) u env:=rfl
noncomputable def oK(o:Option Bool)(u:DT)(env:DL.Env):Option Bool:=o.bind λb=>if b then U O else u env
@[simp] theorem VS:oK (U O) u env=U O:=rfl
@[simp] theorem VT:oK (U M) u env=u env:=rfl
@[simp] theorem VU:oK (U b) u env=if b then U O else u env:=rfl
@[simp↓ high] theorem Vo:orT t u env=oK (t env) u env:=rfl
def rK(a:Option RV):Option Out:=a.bind λr=>if ug r then U (η r.d) else J
@[simp] theorem VV:rK (U r)=if ug r then U (η r.d) else J:=rfl
@[simp↓ high] theorem UQ:Zv f env=rK (f env):=rfl
def tK(a:Option (List RV)):Option RV:=a.bind λrs=>if rs.all (·.free)&&decide (rs.length<=af) then U ⟨.c,N (rs.map (·.d))⟩ else J
@[simp] theorem VW:tK (U rs)=if rs.all (·.free)&&decide (rs.length<=af) then U ⟨.c,N (rs.map (·.d))⟩ else J:=rfl
@[simp↓ high] theorem UR:aO a env=tK (a env):=rfl
def lK(a:Option (List RV)):Option RV:=a.bind λrs=>if rs.all (·.free)&&decide (rs.length<=af) then U ⟨.tn,Q (rs.map (·.d))⟩ else J
@[simp] theorem VX:lK (U rs)=if rs.all (·.free)&&decide (rs.length<=af) then U ⟨.tn,Q (rs.map (·.d))⟩ else J:=rfl
@[simp↓ high] theorem US:de a env=lK (a env):=rfl
noncomputable def dfK(o:Option Out):Option D:=o.bind λo=>match o with
 | η d=>U d
 | P _=>U ζ
 |_=>J
@[simp] theorem Vp:dfK (U (η d))=U d:=rfl
@[simp] theorem Vq:dfK (U (P e))=U ζ:=rfl
@[simp↓ high] theorem UT:bu n np b ds=if ds.length=np then dfK (b (i8 n ds)) else J:=rfl
noncomputable def nK(o:Option Bool):Option Bool:=o.map (!·)
@[simp] theorem VY:nK (U b)=U (!b):=rfl
@[simp↓ high] theorem UU:tm t env=nK (t env):=rfl
noncomputable def bK(o:Option Bool):Option RV:=o.map λb=> ⟨.c,ZZ b⟩
@[simp] theorem VZ:bK (U b)=U ⟨.c,ZZ b⟩:=rfl
@[simp↓ high] theorem W0:bE t env=bK (t env):=rfl
noncomputable def vK(o:Option RV):Option Bool:=o.bind λx=>match x.d with
 | ZZ b=>U b
 |_=>J
@[simp] theorem W3:vK (U ⟨c,ZZ b⟩)=U b:=rfl
@[simp↓ high] theorem UW:jf f env=vK (f env):=rfl
def isK(T:String)(o:Option RV):Option Bool:=o.bind λx=>if kx x.d then J else U (pT T x.d)
@[simp] theorem Vr:isK T (U x)=if kx x.d then J else U (pT T x.d):=rfl
@[simp↓ high] theorem UX:oq T f env=isK T (f env):=rfl
def siK(o:Option RV):Option (List D):=o.bind λr=>if r.k= .to then J else match r.d with
 | Q xs=>U xs
 | N xs=>U xs
 | .scr ns=>U (ns.map E)
 |_=>J
@[simp] theorem Vs:siK (U ⟨.c,N xs⟩)=U xs:=rfl
@[simp] theorem Vt:siK (U ⟨.c,Q xs⟩)=U xs:=rfl
@[simp] theorem Vu:siK (U ⟨.tb,Q xs⟩)=U xs:=rfl
@[simp] theorem Vv:siK (U ⟨.tn,Q xs⟩)=U xs:=rfl
@[simp] theorem Vw:siK (U ⟨.c,.scr x⟩)=U (x.map E):=rfl
@[simp↓ high] theorem UY:cQ f env=siK (f env):=rfl
def foK(l:Option Nat)(o:Option (List D))(g:DG)(b:DS)(env:DL.Env):Option Out:=o.bind λds=>(Zw g b ds (bc l env)).map (freed l (pg l env))
@[simp] theorem Vx:foK l (U ds) g b env=(Zw g b ds (bc l env)).map (freed l (pg l env)):=rfl
@[simp↓ high] theorem UZ:cX l s g b env=foK l (s (bc l env)) g b env:=rfl
def apK(i:Nat)(o:Option RV)(d:Option D)(env:DL.Env):Option Out:=o.bind λr=>d.bind λd=>match d with
 | Q xs=>if r.free&&decide (xs.length<af) then U (P (env.set i (U (Y (Q (xs++[r.d])))))) else J
 |_=>J
@[simp] theorem Vy:apK i (U r) (U (Q xs)) env=if r.free&&decide (xs.length<af) then U (P (env.set i (U (Y (Q (xs++[r.d])))))) else J:=rfl
@[simp↓ high] theorem V0:dN i f env=apK i (f env) (ownAt i env) env:=rfl
@[simp↓ high] theorem TQ:ownAt (n+1) (a::env)=ownAt n env:=rfl
@[simp↓ high] theorem TR:ownAt 0 (U (Y d)::env)=U d:=rfl
noncomputable def ieK(o:Option Bool)(f g:DE)(env:DL.Env):Option RV:=o.bind λb=>if b then f env else g env
@[simp] theorem Vz:ieK (U O) f g env=f env:=rfl
@[simp] theorem VA:ieK (U M) f g env=g env:=rfl
@[simp] theorem VB:ieK (U b) f g env=if b then f env else g env:=rfl
@[simp↓ high] theorem VC:ifE t f g env=ieK (t env) f g env:=rfl
def cpK(o:Option (List D))(g:DG)(t:DT)(f:DE)(env:DL.Env):Option RV:=o.bind λds=>if ds.length<=af then(cB g t f ds env).map λrs=> ⟨.tn,Q rs⟩ else J
@[simp] theorem VD:cpK (U ds) g t f env=if ds.length<=af then(cB g t f ds env).map λrs=> ⟨.tn,Q rs⟩ else J:=rfl
@[simp↓ high] theorem TU:fJ l n c s g t f env=cpK (s (bc l env)) g t f (DL.Zx n c env):=rfl
def r1K(o:Option RV):Option (List D):=o.bind λr=>match r.d with
 | E j=>if aS j then U (aC 0 j.toNat) else J
 |_=>J
@[simp] theorem VE:r1K (U ⟨c,E j⟩)=if aS j then U (aC 0 j.toNat) else J:=rfl
@[simp↓ high] theorem QP:cA f env=r1K (f env):=rfl
@[simp high] theorem mpx:List.map f (a::l)=f a::List.map f l:=rfl
@[simp high] theorem mpn:List.map f []=[]:=rfl
@[simp high] theorem W4:tK (U [⟨.c,a⟩])=U ⟨.c,N [a]⟩:=rfl
@[simp high] theorem W5:tK (U [⟨.c,a⟩,⟨.c,b⟩])=U ⟨.c,N [a,b]⟩:=rfl
@[simp high] theorem W6:tK (U [⟨.c,a⟩,⟨.c,b⟩,⟨.c,c⟩])=U ⟨.c,N [a,b,c]⟩:=rfl
@[simp high] theorem W7:tK (U [⟨.c,a⟩,⟨.c,b⟩,⟨.c,c⟩,⟨.c,d⟩])=U ⟨.c,N [a,b,c,d]⟩:=rfl
@[simp high] theorem W8:tK (U [⟨.c,a⟩,⟨.c,b⟩,⟨.c,c⟩,⟨.c,d⟩,⟨.c,e⟩])=U ⟨.c,N [a,b,c,d,e]⟩:=rfl
@[simp high] theorem W9:tK (U [⟨.c,a⟩,⟨.c,b⟩,⟨.c,c⟩,⟨.c,d⟩,⟨.c,e⟩,⟨.c,f⟩])=U ⟨.c,N [a,b,c,d,e,f]⟩:=rfl
@[simp high] theorem Wa:tK (U [⟨.c,a⟩,⟨.c,b⟩,⟨.c,c⟩,⟨.c,d⟩,⟨.c,e⟩,⟨.c,f⟩,⟨.c,g⟩])=U ⟨.c,N [a,b,c,d,e,f,g]⟩:=rfl
@[simp high] theorem Wb:lK (U [])=U ⟨.tn,Q []⟩:=rfl
@[simp high] theorem Wc:lK (U [⟨.c,a⟩,⟨.c,b⟩])=U ⟨.tn,Q [a,b]⟩:=rfl
@[simp high] theorem Wd:lK (U [⟨.c,a⟩,⟨.c,b⟩,⟨.c,c⟩])=U ⟨.tn,Q [a,b,c]⟩:=rfl
@[simp high] theorem We:rK (U ⟨.c,E i⟩)=U (η (E i)):=rfl
@[simp high] theorem Wf:rK (U ⟨.c,ZZ b⟩)=U (η (ZZ b)):=rfl
@[simp high] theorem Wg:rK (U ⟨.c,ζ⟩)=U (η ζ):=rfl
def AR(ns:List Int)(k:Int):Int:=if ns.length=0 then 0 else ns[(k%ns.length).toNat]?.getD 0
def mv(ns:List Int)(k:Int):Int:=(AR ns k%1000003*48271+k*k*7919+1)%65521
def mx(ns:List Int)(k:Int):Int:=mv ns k*mv ns k%65519
def mxm(ns:List Int)(k m:Int)(h:0<m):0<=mx ns k%m/\mx ns k%m<m:=⟨Gdb _ (by lia),Gdm _ h⟩
def LV{ns:List Int}(h:0<ns.length):atD ns (k%ns.length)=U (ns[(k%ns.length).toNat]?.getD 0):=by
 unfold atD;have h1:0<=k%(ns.length:Int):=Gdb _ (by lia);have h2:k%(ns.length:Int)<ns.length:=Gdm _ (by lia);simp_all
def bq(h: -18446744073709551616<i:=by lia)(h2:i<18446744073709551616:=by lia):aQ i j=O:=by
 unfold aQ;lia
def bI(h: -18446744073709551616<j:=by lia)(h2:j<18446744073709551616:=by lia):aQ i j=O:=by
 unfold aQ;lia
def aM(ns:List Int)(k:Int)(hk:0<=k:=by lia)(xR:k<1000000:=by lia):ae [.scr ns,E k]=U (E (mx ns k)):=by
 have v1:0<=mv ns k:=Gdb _ (by lia);have v2:mv ns k<65521:=Gdm _ (by lia);have e1:aQ k k=O:=bq;have e2:∀i,aQ i 48271=O:=λi=>bI;have e3:∀i,aQ i 7919=O:=λi=>bI;have e4:aQ (mv ns k) (mv ns k)=O:=bq;unfold ae pF;by_cases h:0<ns.length
 .have hc:AR ns k=ns[(k%ns.length).toNat]?.getD 0:=by unfold AR;rw[Gai (by lia)]
  have e5:(ns[(k%↑ns.length).toNat]?.getD 0%1000003*48271+k*k*7919+1)%65521=mv ns k:=by unfold mv;rw[hc]
  simp[h,LV h,e1,e2,e3,e5,e4,mx]
 .have hc:AR ns k=0:=by unfold AR;rw[Gao (by lia)]
  have e5:(k*k*7919+1)%65521=mv ns k:=by unfold mv;rw[hc];simp
  simp[h,e1,e2,e3,e5,e4,mx]
theorem kJ{p:D->Prop}(hp:∀d,p d->d.imm=O):∀{ds},(∀d∈ds,p d)->aA ds=O
 |[],_=>rfl
 |d::ds,h=>by
  simp[hp d (h d Gaj),kJ hp λx hx=>h x (Gaf _ hx)]
def mP(h:f env=U (P e)):ah f g env=g e:=by simp[h]
def sqn(h:f env=U (P e))(q:g e=o):ah f g env=o:=(mP h).trans q
def DV(h:f env=U (η d)):ah f g env=U (η d):=by simp[h]
def aL{ds:List D}(hl:ds.length=np)(h:body (i8 n ds)=U (η d)):bu n np body ds=U d:=by
 unfold bu;rw[Gao hl,h];rfl
def PV(h:t env=U O):ifS t f g env=f env:=by simp[h]
def b8(h1: -4611686018427387904<=i:=by lia)(h2:i<4611686018427387904:=by lia):aS i=O:=by
 unfold aS;rw[Gah];exact⟨GaD h1,GaD h2⟩
theorem cE(I:Nat->DL.Env->Prop):∀ds k env,I k env->(∀i d e,ds[i]? =U d->I (k+i) e->∃e1 e2,g d e=U e1/\body e1=U (P e2)/\I (k+i+1) e2)->∃e,Zw g body ds env=U (P e)/\I (k+ds.length) e
 |[],k,env,h,_=> ⟨env,rfl,h⟩
 |d::ds,k,env,h,st=>by
  obtain⟨e1,e2,h1,h2,h3⟩:=st 0 d env rfl h;obtain⟨e,h4,h5⟩:=cE I ds (k+1) e2 h3 λi d' e' hd hI=>by
   have:=st (i+1) d' e' (by simpa using hd) (by rw[show k+(i+1)=k+1+i by lia];exact hI);rw[show k+(i+1)+1=k+1+i+1 by lia] at this;exact this
  refine⟨e,by simp[h1,h2,h4], ?_⟩;rw[show k+(d::ds).length=k+1+ds.length by simp;lia];exact h5
def b9(h:(aC lo n)[i]? =U d):i<n/\d= E (lo+i):=by
 unfold aC at h;by_cases hi:i<n
 .simp_all
 .simp_all
def bV:(aC lo n).length=n:=by simp[aC]
theorem fH{α:Type}(zp:α->D)(C:DL.Env->Prop)(p:α->Bool)(r:α->D):∀(xs:List α) e,C e->
  (∀x∈xs,∀e,C e->∃e',g (zp x) e=U e' /\C e' /\t e' =U (p x)/\(p x=O->∃k,f e' =U ⟨k,r x⟩/\RV.free ⟨k,r x⟩=O))->cB g t f (xs.map zp) e=U ((xs.filter p).map r)
 |[],e,_,_=>rfl
 |d::ds,e,h,st=>by
  obtain⟨e',h1,h2,h3,h4⟩:=st d Gaj e h;have ih:=fH zp C p r ds e' h2 λd' hd=>st d' (Gaf _ hd);cases q:p d with
  |false=>simp[h1,h3,q,ih]
  |true=>
   obtain⟨k,h5,h6⟩:=h4 q;simp_all
def dW{α:Type}(zp:α->D)(C:DL.Env->Prop)(r:α->D)(xs:List α)(e:DL.Env)(h:C e)
  (st:∀x∈xs,∀e,C e->∃e',g (zp x) e=U e' /\C e' /\∃k,f e' =U ⟨k,r x⟩/\RV.free ⟨k,r x⟩=O):cB g fK f (xs.map zp) e=U (xs.map r):=by
 have:=fH zp C (λ_=>O) r xs e h (λx hx e he=>by
  obtain⟨e',h1,h2,h3⟩:=st x hx e he;exact⟨e',h1,h2,rfl,λ_=>h3⟩)
 rw[List.filter_eq_self.mpr λ_ _=>rfl] at this;exact this
def uO(bs:List Bool):qJ (bs.map ZZ)=U bs:=by
 induction bs with
 |nil=>rfl
 |cons b bs ih=>simp[ih]
def G5(bs:List Int):CW (bs.map E)=U bs:=by
 induction bs with
 |nil=>rfl
 |cons b bs ih=>simp[ih]
@[simp] theorem Jg(bs:List Bool):anyS [Q (bs.map ZZ)]=U ⟨.c,ZZ (bs.any id)⟩:=by
 simp[anyS,one,jy,uO]
@[simp] theorem AS(bs:List Bool):BC [Q (bs.map ZZ)]=U ⟨.c,ZZ (bs.all id)⟩:=by
 simp[BC,one,jy,uO]
def Cn(n:Nat)(hs:List Int):(hs.map E).all (aJ n)=O:=by
 induction hs with
 |nil=>rfl
 |cons b bs ih=>simp[ih]
def nJ(hs:List Int):aA (hs.map E)=O:=by
 induction hs with
 |nil=>rfl
 |cons b bs ih=>simp[ih]
inductive Cap where
 |flat (h t:Int)
 |kilo (h t p:Int)
 |ever (t:Int)
noncomputable def bB:Cap->D
 | .flat h t=> N [X "flat",E h,E t]
 | .kilo h t p=> N [X "kilo",E h,E t,E p]
 | .ever t=> N [X "ever",E t]
def lZ:Cap->Prop
 | .flat h t=>1<=h/\1<=t/\t<=6200000
 | .kilo h t p=>1<=h/\1<=t/\t<=3100000/\1<=p/\p<=100
 | .ever t=>1<=t/\t<=6200000
def rZ(c:Cap):(bB c).imm=O:=by cases c<;>simp[bB]
def nL(cs:List Cap):aA (cs.map bB)=O:=by
 induction cs with
 |nil=>rfl
 |cons c cs ih=>
  have:=rZ c;simp_all
def jn{a b A B:Int}(h0:0<=a)(h1:a<=A)(h2:0<=b)(h3:b<=B):a*b<=A*B:=
 GdU (Int.mul_le_mul_of_nonneg_right h1 h2) (Int.mul_le_mul_of_nonneg_left h3 (by lia))
def fC{a b:Int}(h0:1<=a)(h1:1<=b):1<=a*b:=by
 have:=Int.mul_le_mul h0 h1 (by lia) (by lia);lia
def aV{d:D}(h:d.imm=O):ku d=⟨.c,d⟩:=by
 unfold ku;have:d.top=M:=by cases d<;>simp at h<;>rfl
 rw[this]
 rfl
structure fU where
 name:Str
 part:Int
 more:List Int
 ay:List Cap
 young:Int
def aI(s:fU):D:= N [X s.name,N ((s.part::s.more).map E),N (s.ay.map bB),E s.young]
structure gB(s:fU):Prop where
 p1:1<=s.part
 p2:s.part<=100000
 cl:s.ay.length<=4
 ok:∀c∈s.ay,lZ c
 y0:0<=s.young
def g9(s:fU):(aI s).imm=O:=by
 have h1:=nL s.ay;have h2:=nJ (s.part::s.more);simp[aI] at h2⊢;exact⟨h2,h1⟩
theorem fV{α:Type}{f:α->D}(h:∀a,(f a).imm=O):∀l:List α,aA (l.map f)=O
 |[]=>rfl
 |a::l=>by
  have h1:=h a;have h2:=fV h l;simp[h1,h2]
noncomputable def ZD(t:Int×Int×Int):D:= N [E t.1,E t.2.1,E t.2.2]
def LW(t:Int×Int×Int):(ZD t).imm=O:=by simp[ZD]
noncomputable def Co(b:Int×Int×Int):Int×Int:=(b.1,b.2.1)
def jo(n:Int)(bs:List (Int×Int×Int)):Prop:=(∀b∈bs,0<=b.1/\b.1<=b.2.1/\b.2.1<n/\1<=b.2.2)/\(bs.map Co).Nodup
def kK(i j:Int)(bs:List (Int×Int×Int)):Prop:=∀b∈bs,b.1<i\/(b.1=i/\b.2.1<j)
def G6(f:α->β)(xs:List α)(i:Int)(y:α):(iu xs i y).map f=iu (xs.map f) i (f y):=by
 unfold iu;simp
inductive mQ where
 |asked (b:Int)
 |due (b e m ea la:Int)
noncomputable def cu:mQ->D
 | .asked b=> N [X "asked",E b]
 | .due b e m ea la=> N [X "due",E b,E e,E m,E ea,E la]
def fW:mQ->Prop
 | .asked b=>0<=b
 | .due b e m ea la=>1<=e/\e<=12000000/\(1<=m/\m<=60)/\0<=ea/\0<=la/\ea+la<e/\ea<=b/\b<=30000000
def uP(u:mQ):(cu u).imm=O:=by cases u<;>simp[cu]
structure Zz where
 name:Str
 ax:Int
 aw:Int
 way:Str
 top:Int
 per:Int
 most:Int
 aP:mQ
 wK:List D
def aj(o:Zz):D:= N [X o.name,E o.ax,E o.aw,N [X o.way,E o.top,E o.per,E o.most],cu o.aP,N o.wK]
structure nM(ng Yq:Nat)(o:Zz):Prop where
 g0:0<=o.ax
 g1:o.ax<ng
 s0:0<=o.aw
 s1:o.aw<Yq
 du:fW o.aP
 ti:aA o.wK=O
def cF(o:Zz)(h:aA o.wK=O):(aj o).imm=O:=by
 have:=uP o.aP;simp[aj,this,h]
structure World where
 bN:List (Str×Int)
 ar:List fU
 br:List (Int×Int×Int)
 Zs:List Zz
noncomputable def bx(g:Str×Int):D:= N [X g.1,E g.2]
def aE(w:World):D:= N [N (w.bN.map bx),N (w.ar.map aI),N (w.br.map ZD),N (w.Zs.map aj)]
structure aH(w:World):Prop where
 g1:1<=w.bN.length
 g6:w.bN.length<=6
 s1:1<=w.ar.length
 s6:w.ar.length<=6
 so:∀s∈w.ar,gB s
 b12:w.br.length<=12
 bo:jo w.ar.length w.br
 o1:1<=w.Zs.length
 o12:w.Zs.length<=12
 oo:∀o∈w.Zs,nM w.bN.length w.ar.length o
def se(g:Str×Int):(bx g).imm=O:=by simp[bx]
abbrev Tr:=Int×Int×Int
noncomputable def kvT(ts:List Tr):List (List Key×D):=ts.map λt=>([Sum.inl t.1,Sum.inl t.2.1],E t.2.2)
def uQ(ts:List Tr):cP (kvT ts)=ts.map λt=>N [N [E t.1,E t.2.1],E t.2.2]:=by
 unfold cP kvT;rw[GaN]
 rfl
def DW(ts:List Tr):ZA (ts.map ZD)=O:=by
 have h1:(ts.map ZD).all (lF 1)=O:=by
  simp[ZD,lF,tyD,lE]
 have h2:((ts.map ZD).all λx=>(ts.map ZD).all λy=>Ah x y)=O:=by
  rw[GbI,Gar];intro p _;simp[ZD,Ah,lQ,tyD]
 unfold ZA;rw[h1,h2];simp
noncomputable def Cp:D->Tr
 | N [E a,E b,E c]=>(a,b,c)
 |_=>(0,0,0)
def LX(ts:List Tr)(hl:ts.length<64):∃rs:List Tr,Zy [Q (ts.map ZD)]=U ⟨.tn,Q (rs.map ZD)⟩/\rs.Perm ts:=by
 have hp:=bT (ts.map ZD);have all:∀x∈bG (ts.map ZD),∃p,x=ZD p:=λx hx=>by
  obtain⟨p,_,e⟩:=Gas.mp (hp.mem_iff.mp hx);exact⟨p,e.symm⟩
 have e:bG (ts.map ZD)=((bG (ts.map ZD)).map Cp).map ZD:=by
  rw[GaN]
  conv=>lhs;rw[<-GbP (bG (ts.map ZD))]
  apply GaO;intro x hx;obtain⟨p,rfl⟩:=all x hx
  rfl
 refine⟨(bG (ts.map ZD)).map Cp, ?_, ?_⟩
 .rw[<-e];have h1:((ts.map ZD).length<64):=by simpa using hl
  unfold Zy one jy;simp only[Option.bind_some];rw[DW,GaD h1];rfl
 .have:=GcU Cp hp;rw[GaN] at this;have e2:ts.map (Cp∘ZD)=ts:=by
   conv=>rhs;rw[<-GbP ts]
   exact GaO λp _=>rfl
  rw[e2] at this;exact this
def bJ(ts:List Tr):aA (ts.map ZD)=O:=fV LW ts
def bQ(n:Nat)(gv:List Tr):Prop:=∀t∈gv,0<=t.1/\t.1<n
noncomputable def bX:Option Int->D
 |some k=> E k
 |none=> ζ
@[simp] theorem G7:bX (U k)= E k:=rfl
@[simp] theorem uR:bX J= ζ:=rfl
def cn(o:Option Int):(bX o).imm=O:=by cases o<;>rfl
noncomputable def kL(b e m ea la h:Int):Option Int:=
 if(0<=(h -(b -ea))/e/\(h -(b -ea))/e<m)/\h -(b -ea)-(h -(b -ea))/e*e<=ea+la then U ((h -(b -ea))/e) else J
def bM:mQ->Int->Option Int
 | .asked _,_=>J
 | .due b e m ea la,h=>kL b e m ea la h
def pK{o:Zz}(ok:fW o.aP):iz [aj o,E h]=U (bX (bM o.aP h)):=by
 obtain⟨name,g,st,way,top,per,most,u,ts⟩:=o;unfold aj;cases u with
 |asked b=>
  unfold iz rV cu bM;simp
 |due b e m ea la=>
  obtain⟨e1,e2,hm,a0,l0,al,ab,b3⟩:=ok;have p1:∀i,aQ i e=O:=λi=>bI;have p2:0<e/\e<1073741824:=by lia
  unfold iz rV cu bM kL;simp[p2];generalize hk:(h -(b -ea))/e=k;by_cases c1:0<=k
  .by_cases c2:k<m
   .by_cases c3:h -(b -ea)-k*e<=ea+la
    .have c4:¬ea+la<h -(b -ea)-k*e:=by lia
     simp[p1,c1,c2,c3,c4]
    .have c4:ea+la<h -(b -ea)-k*e:=by lia
     simp[p1,c1,c3,c4]
   .simp[c2]
  .simp[c1]
def bC:mQ->Int->Bool
 | .asked b,h=>decide (h<b)
 | .due b e m ea la,h=>(kL b e m ea la h).isNone
def AU{o:Zz}(ok:fW o.aP):kD [aj o,E h]=U (ZZ (bC o.aP h)):=by
 have d:=pK (h:=h) ok;obtain⟨name,g,st,way,top,per,most,u,ts⟩:=o;unfold aj at d⊢;cases u with
 |asked b=>
  unfold kD rW cu bC;simp
 |due b e m ea la=>
  unfold bM at d;unfold kD rW bC;unfold cu at d⊢;simp[d];cases kL b e m ea la h<;>simp
noncomputable def wgt(g h:Int):List Tr->Option Int->Option Int
 |[],f=>f
 |t::ts,f=>wgt g h ts (if t.1=g/\t.2.1<=h then U t.2.2 else f)
theorem kM(st:∀(t:Tr) (f:Option Int),body [U (Z wd),U (Z (E g)),U (Z (E h)),U (Z (bX f)),U (Z (ZD t))]=U (P [U (Z wd),U (Z (E g)),U (Z (E h)),U (Z (bX (if t.1=g/\t.2.1<=h then U t.2.2 else f))),U (Z (ZD t))])):
  ∀(ts:List Tr) (f:Option Int) (x4:Os),∃y4,Zw (gN 4) body (ts.map ZD) [U (Z wd),U (Z (E g)),U (Z (E h)),U (Z (bX f)),x4]=U (P [U (Z wd),U (Z (E g)),U (Z (E h)),U (Z (bX (wgt g h ts f))),y4])
 |[],f,x4=> ⟨x4,by simp[wgt]⟩
 |t::ts,f,x4=>by
  obtain⟨y4,e⟩:=kM st ts (if t.1=g/\t.2.1<=h then U t.2.2 else f) (U (Z (ZD t)));refine⟨y4, ?_⟩;have e1:=st t f;rw[Gay];simp only[Zw,gN,GaK,GaL,Option.bind_some,e1];exact e
def iI{ws:List Tr}:dA [N (ws.map ZD),E g,E h]=U (bX (wgt g h ws J)):=by
 obtain⟨y4,e⟩:=kM (body:=iA) (wd:= N (ws.map ZD)) (g:=g) (h:=h) (λt f=>by
  unfold iA ZD;by_cases c1:t.1=g
  .by_cases c2:t.2.1<=h
   .simp[c1,c2]
   .simp[c2]
  .simp[c1]) ws J J
 rw[uR] at e;have im:=cn (wgt g h ws J);refine aL rfl ?_;refine sqn (by simp;rfl) ?_;simp[e,im]
noncomputable def cG:Cap->Option Int->Option Int
 | .ever t,_=>U t
 | .flat _ t,_=>U t
 | .kilo _ t p,w=>w.map λw=>w*t/p
def Cq(ok:lZ c):j5 [bB c,bX w]=U (bX (cG c w)):=by
 cases c with
 |ever t=>unfold j5 nI bB cG;simp
 |flat h t=>unfold j5 nI bB cG;simp
 |kilo h t p=>
  obtain⟨h1,t1,t2,p1,p2⟩:=ok;cases w with
  |none=>unfold j5 nI bB cG;simp
  |some w=>
   have mm:aQ w t=O:=bI;have pp:0<p/\p<1073741824:=by lia
   unfold j5 nI bB cG;simp[mm,pp]
noncomputable def bH:Cap->Bool
 | .kilo _ _ _=>O
 |_=>M
def G8{s:fU}(hc:s.ay.length<=4):dR [aI s]=U (ZZ (s.ay.any bH)):=by
 have c:=dW (g:=gN 0) (f:=bE (az eqB (ZE (vE 0) (kE (E 0))) (kE (X "kilo")))) bB (λenv=>∃y,env=[y]) (λc=> ZZ (bH c)) s.ay [J] ⟨J,rfl⟩ (by
  rintro c hc env ⟨y,rfl⟩;refine⟨_,rfl,⟨_,rfl⟩,.c, ?_,rfl⟩;cases c<;>simp[bB,bH])
 have z:(s.ay.map bB).length<=16777216:=by rw[Gae];lia
 have e2:s.ay.map (λc=>ZZ (bH c))=(s.ay.map bH).map ZZ:=by rw[GaN];rfl
 rw[e2] at c;have an:((s.ay.map bH).any id)=s.ay.any bH:=by rw[Gdl];rfl
 unfold dR jI aI;generalize s.ay.map bB=C at*;rw[<-an];generalize s.ay.map bH=bs at*;simp[af,DL.Zx,c,z]
def gH{ws:List Tr}:cT [N (ws.map ZD),E g,E h]=U (bX (wgt g h ws J)):=by
 obtain⟨y4,e⟩:=kM (body:=gG) (wd:= N (ws.map ZD)) (g:=g) (h:=h) (λt f=>by
  unfold gG ZD;by_cases c1:t.1=g
  .by_cases c2:t.2.1<=h
   .simp[c1,c2]
   .simp[c2]
  .simp[c1]) ws J J
 rw[uR] at e;have im:=cn (wgt g h ws J);refine aL rfl ?_;refine sqn (by simp;rfl) ?_;simp[e,im]
abbrev Flt:=Str×List Int
noncomputable def ag(f:Flt):D:= N (X f.1::f.2.map E)
noncomputable def kk(b:Bool)(x:Str):List Str:=if b then[x] else[]
def nN{L:List Str}(ht:t [e0,e1,e2,e3,e4,e5,e6,e7,U (Y (Q (L.map X)))]=U b)(hl:L.length<1000):
  ifS t (dN 8 (kE (X x))) ni [e0,e1,e2,e3,e4,e5,e6,e7,U (Y (Q (L.map X)))]=U (P [e0,e1,e2,e3,e4,e5,e6,e7,U (Y (Q ((L++kk b x).map X)))]):=by
 have z:(L.map X).length<16777216:=by rw[Gae];lia
 have e:(L++kk b x).map X=L.map X++(kk b x).map X:=by rw[GaC]
 rw[e];cases b with
 |true=>
  generalize L.map X=Zr at*;simp[ht,kk,af,z]
 |false=>
  simp[ht,kk]
def jL(o:Zz)(s:fU)(zq:Int)(ws:List Tr)(t:Tr):List Str:=
 kk (bC o.aP t.2.1) "astray"++kk (decide (o.most<t.2.2)) "most"++kk (decide (t.2.2<1)||decide (¬t.2.2%s.part=0)) "part"++kk (s.ay.any bH&&(wgt o.ax t.2.1 ws J).isNone) "weight"++kk (decide (t.2.1<zq+s.young)) "young"
def cI(b:Bool)(x:Str):(kk b x).length<=1:=by cases b<;>simp[kk]
def G9{K:List Str}:cB (gN 0) fK (aO (aa (vE 0) (aa (vE 1) (aa (vE 2) aX)))) (K.map X) [J,U (Z (E n)),U (Z (E h))]=U (K.map λk=>ag (k,[n,h])):=by
 refine dW X (λenv=>∃y,env=[y,U (Z (E n)),U (Z (E h))]) (λk=>ag (k,[n,h])) K _ ⟨J,rfl⟩ ?_;rintro k hk env ⟨y,rfl⟩;refine⟨_,rfl,⟨_,rfl⟩,.c, ?_,rfl⟩;simp[ag]
def bW(fs:List Flt):aA (fs.map ag)=O:=fV (λf=>by
 have:=nJ f.2;simp[ag,this]) fs
def PX{o:Zz}{ws:List Tr}{t:Tr}(hO:atD Zq t.1=U (aj o))(du:fW o.aP)(hS:atD B o.aw=U (aI s))(so:gB s)(hG:atD A o.ax=U (bx gu))(im:(aj o).imm=O):
  dZ [N [N A,N B,N C,N Zq],N (ws.map ZD),ZD t]=U (Q ((jL o s gu.2 ws t).map λk=>ag (k,[t.1,t.2.1]))):=by
 have ea:=AU (h:=t.2.1) du;have eg:=G8 so.cl;have ew:=iI (ws:=ws) (g:=o.ax) (h:=t.2.1);have sp:=so.p1;have is:=g9 s;obtain⟨n,h,a⟩:=t;have xK :=aV (cn (wgt o.ax h ws J));generalize hW:ws.map ZD=W at*;have p1:ixD (aj o) (E 3)=U (N [X o.way,E o.top,E o.per,E o.most]):=rfl;have p2:ixD (aj o) (E 1)=U (E o.ax):=rfl;have p3:ixD (aj o) (E 2)=U (E o.aw):=rfl;have p4:ixD (aI s) (E 1)=U (N (E s.part::s.more.map E)):=rfl;have p5:ixD (aI s) (E 3)=U (E s.young):=rfl;have p6:ixD (bx gu) (E 1)=U (E gu.2):=rfl;generalize aj o=OD at*;generalize aI s=SD at*;have zG :0<s.part:=by lia
 refine aL rfl ?_;unfold lX ZD;refine sqn (by simp;rfl) ?_;refine sqn (e:=[U (Z (N [N A,N B,N C,N Zq])),U (Z (N W)),U (Z (N [E n,E h,E a])),U (Z (E n)),U (Z (E h)),J,J,J,J]) (by simp) ?_;refine sqn (e:=[U (Z (N [N A,N B,N C,N Zq])),U (Z (N W)),U (Z (N [E n,E h,E a])),U (Z (E n)),U (Z (E h)),U (Z (E a)),J,J,J]) (by simp) ?_;refine sqn (by simp[hO];rfl) ?_;refine sqn (by simp[p3,hS];rfl) ?_;refine sqn (e:=[U (Z (N [N A,N B,N C,N Zq])),U (Z (N W)),U (Z (N [E n,E h,E a])),U (Z (E n)),U (Z (E h)),U (Z (E a)),U (Z OD),U (Z SD),U (Y (Q (([]:List Str).map X)))]) (by simp) ?_;refine sqn (nN (b:=bC o.aP h) (by simp[ea]) (by simp)) ?_;refine sqn (nN (b:=decide (o.most<a)) (by simp[p1]) (by have:=cI (bC o.aP h) "astray";simp;lia)) ?_;refine sqn (nN (b:=decide (a<1)||decide (¬a%s.part=0)) ?_ (by have:=cI (bC o.aP h) "astray";have:=cI (decide (o.most<a)) "most";simp;lia)) ?_
 .by_cases c:a<1
  .simp[c]
  .by_cases c2:a%s.part=0
   .simp[c,p4,zG,c2]
   .simp[c,p4,zG,neB,c2]
 refine sqn (nN (b:=s.ay.any bH&&(wgt o.ax h ws J).isNone) ?_ (by have:=cI (bC o.aP h) "astray";have:=cI (decide (o.most<a)) "most";have:=cI (decide (a<1)||decide (¬a%s.part=0)) "part";simp only[Gal,Gbm];lia)) ?_
 .generalize s.ay.any bH=bk at*;cases bk with
  |false=>simp[eg]
  |true=>
   simp[eg,p2,ew,xK];cases wgt o.ax h ws J<;>simp[kf,dw]
 refine sqn (nN (b:=decide (h<gu.2+s.young)) (by simp[p2,hG,p6,p5]) (by have:=cI (bC o.aP h) "astray";have:=cI (decide (o.most<a)) "most";have:=cI (decide (a<1)||decide (¬a%s.part=0)) "part";have:=cI (s.ay.any bH&&(wgt o.ax h ws J).isNone) "weight";simp only[Gal,Gbm];lia)) ?_;have cm:=G9 (K:=[]++kk (bC o.aP h) "astray"++kk (decide (o.most<a)) "most"++kk (decide (a<1)||decide (¬a%s.part=0)) "part"++kk (s.ay.any bH&&(wgt o.ax h ws J).isNone) "weight"++kk (decide (h<gu.2+s.young)) "young") (n:=n) (h:=h);have hK:[]++kk (bC o.aP h) "astray"++kk (decide (o.most<a)) "most"++kk (decide (a<1)||decide (¬a%s.part=0)) "part"++kk (s.ay.any bH&&(wgt o.ax h ws J).isNone) "weight"++kk (decide (h<gu.2+s.young)) "young"=jL o s gu.2 ws (n,h,a):=by
  unfold jL;rw[GbV]
 have eL:([]++kk (bC o.aP h) "astray"++kk (decide (o.most<a)) "most"++kk (decide (a<1)||decide (¬a%s.part=0)) "part"++kk (s.ay.any bH&&(wgt o.ax h ws J).isNone) "weight"++kk (decide (h<gu.2+s.young)) "young").length<=5:=by
  have:=cI (bC o.aP h) "astray";have:=cI (decide (o.most<a)) "most";have:=cI (decide (a<1)||decide (¬a%s.part=0)) "part";have:=cI (s.ay.any bH&&(wgt o.ax h ws J).isNone) "weight";have:=cI (decide (h<gu.2+s.young)) "young";simp only[Gal,Gbm];lia
 rw[hK] at cm eL⊢;have fi:=bW ((jL o s gu.2 ws (n,h,a)).map λk=>(k,[n,h]));rw[GaN] at fi;have fi' :aA ((jL o s gu.2 ws (n,h,a)).map λk=>ag (k,[n,h]))=O:=fi;generalize jL o s gu.2 ws (n,h,a)=KL at*;have z:(KL.map X).length<=16777216:=by rw[Gae];lia
 generalize KL.map X=Zr at*;simp[-cB,af,DL.Zx,dh,cm,z,fi']
noncomputable def atT(o h:Int)(t:Tr):Bool:=decide (t.1=o/\t.2.1=h)
def nO(ts:List Tr)(o h v:Int):List Tr:=if ts.any (atT o h) then ts.map (λt=>if atT o h t then(o,h,v) else t) else ts++[(o,h,v)]
def iJ(ts:List Tr)(o h:Int):Int:=((ts.find? (atT o h)).map (·.2.2)).getD 0
def DX(o h:Int)(t:Tr):decide (([Sum.inl t.1,Sum.inl t.2.1]:List Key)=[Sum.inl o,Sum.inl h])=atT o h t:=by
 unfold atT;simp
def mR(ts:List Tr)(o h v:Int):DL.put (kvT ts) [Sum.inl o,Sum.inl h] (E v)=kvT (nO ts o h v):=by
 unfold DL.put nO kvT;have e:((ts.map λt=>(([Sum.inl t.1,Sum.inl t.2.1]:List Key),E t.2.2)).any λkv=>decide (kv.1=[Sum.inl o,Sum.inl h]))=ts.any (atT o h):=by
  rw[Gdl];congr 1
  funext t
  exact DX o h t
 rw[e];cases ts.any (atT o h) with
 |true=>
  simp only[Gdn];rw[GaN,GaN];refine GaO λt _=> ?_;simp only[Function.comp];by_cases c:t.1=o/\t.2.1=h
  .have e2:atT o h t=O:=GaD c;simp_all
  .have e1:¬([Sum.inl t.1,Sum.inl t.2.1]:List Key)=[Sum.inl o,Sum.inl h]:=λz=>by simp at z;exact c z
   have e2:¬atT o h t=O:=λz=>c (Gaq z);rw[Gai e1,Gai e2]
 |false=>simp
def AV(ts:List Tr)(o h:Int):look (kvT ts) [Sum.inl o,Sum.inl h]=(ts.find? (atT o h)).map λt=>E t.2.2:=by
 unfold look kvT;rw[List.find?_map];have e:((λkv:List Key×D=>decide (kv.1=[Sum.inl o,Sum.inl h]))∘λt:Tr=>(([Sum.inl t.1,Sum.inl t.2.1]:List Key),E t.2.2))=atT o h:=by
  funext t
  exact DX o h t
 rw[e];cases ts.find? (atT o h)<;>rfl
def nP(ts:List Tr)(o h v:Int):(nO ts o h v).length<=ts.length+1:=by
 unfold nO;split<;>simp
def twU(ts:List Tr)(n:Int):Option Int->List Tr
 |some k=>nO ts n k (iJ ts n k+1)
 |none=>ts
def bf(os:List Zz)(ts:List Tr)(g:Tr):List Tr:=twU ts g.1 ((os[g.1.toNat]?).bind λo=>bM o.aP g.2.1)
def wz(ts:List Tr)(n:Int)(u:Option Int):(twU ts n u).length<=ts.length+1:=by
 cases u with
 |none=>exact GbO _
 |some k=>exact nP _ _ _ _
def PY{e3:Os}{n:Int}:Ik (vE 2) (aO (aa (ZE (vE 3) (kE (E 0))) (aa (vE 4) aX))) (kE (E 0)) [e0,e1,U (Y (ε (kvT ts))),U (Z (N [E o,E h,E a])),U (Z (E k))]=U ⟨.c,E (iJ ts o k)⟩:=by
 have l:=AV ts o k;unfold iJ;cases hf:ts.find? (atT o k) with
 |none=>
  rw[hf] at l;simp[l]
 |some t=>
  rw[hf] at l;simp[l]
def SQ{k:Int}{OD:D}(hO:atD Zq n=U OD)(im:OD.imm=O)(ed:iz [OD,E h]=U (bX u))(hz:(kvT ts).length<1000):
  cD [U (Z (N [N A,N B,N C,N Zq])),U (Z (N G)),U (Y (ε (kvT ts))),U (Z (N [E n,E h,E a])),x4]=
   U (P [U (Z (N [N A,N B,N C,N Zq])),U (Z (N G)),U (Y (ε (kvT (twU ts n u)))),U (Z (N [E n,E h,E a])),U (Z (bX u))]):=by
 have z:(kvT ts).length<16777216:=by lia
 have ru:=aV (cn u);refine sqn (by simp[hO,ed,ru];rfl) ?_;cases u with
 |none=>simp[twU]
 |some k=>
  have g:=PY (ts:=ts) (o:=n) (k:=k) (e0:=U (Z (N [N A,N B,N C,N Zq]))) (e1:=U (Z (N G))) (e3:=J) (n:=0) (h:=h) (a:=a);have p:=mR ts n k (iJ ts n k+1);rw[G7];refine(PV (by simp)).trans ?_;unfold twU;rw[<-p];unfold EX ZF;rw[g];simp[putD,z,af]
theorem DY{w:World}(W:aH w):∀gv ts x3 x4,bQ w.Zs.length gv->ts.length+gv.length<1000->∃y3 y4,Zw (gN 3) cD (gv.map ZD) [U (Z (N [N A,N B,N C,N (w.Zs.map aj)])),U (Z (N G)),U (Y (ε (kvT ts))),x3,x4]=
  U (P [U (Z (N [N A,N B,N C,N (w.Zs.map aj)])),U (Z (N G)),U (Y (ε (kvT (gv.foldl (bf w.Zs) ts)))),y3,y4])
 |[],ts,x3,x4,_,_=> ⟨x3,x4,by simp⟩
 |g::gv,ts,x3,x4,hg,hl=>by
  have g0:=hg g Gaj;obtain⟨n,hn⟩:=GaH g0.1;have xh :n<w.Zs.length:=by lia
  have hO:atD (w.Zs.map aj) g.1=U (aj w.Zs[n]):=by
   rw[hn,bO,Gap,Gac xh]
   rfl
  have ok:=W.oo w.Zs[n] (GaA xh);have ed:=pK (h:=g.2.1) ok.du;have hz:(kvT ts).length<1000:=by unfold kvT;rw[Gae];simp at hl;lia
  have ev:=SQ (A:=A) (B:=B) (C:=C) (G:=G) (a:=g.2.2) (k:=0) (x4:=x4) hO (cF _ ok.ti) ed hz;have es:twU ts g.1 (bM w.Zs[n].aP g.2.1)=bf w.Zs ts g:=by
   unfold bf;simp_all
  rw[es] at ev;have ln:(bf w.Zs ts g).length<=ts.length+1:=by
   exact wz _ _ _
  obtain⟨y3,y4,e⟩:=DY W gv (bf w.Zs ts g) (U (Z (ZD g))) (U (Z (bX (bM w.Zs[n].aP g.2.1)))) (λt ht=>hg t (Gaf _ ht)) (by simp at hl;lia);refine⟨y3,y4, ?_⟩;rw[Gay];have Xn :cD [U (Z (N [N A,N B,N C,N (w.Zs.map aj)])),U (Z (N G)),U (Y (ε (kvT ts))),U (Z (ZD g)),x4]=_:=ev;simp only[Zw,gN,GaK,GaL,Option.bind_some,Xn];exact e
noncomputable def twF(ts:List Tr):List Flt:=(ts.filter λt=>decide (1<t.2.2)).map λt=>("twice",[t.1,t.2.1])
def LY(ts:List Tr):cB (gT [0,1]) (az gtB (vE 1) (kE (E 1))) (aO (aa (kE (X "twice")) (aa (ZE (vE 0) (kE (E 0))) (aa (ZE (vE 0) (kE (E 1))) aX)))) (cP (kvT ts)) [J,J]=U ((twF ts).map ag):=by
 rw[uQ];unfold twF;rw[GaN];refine fH (λt:Tr=>N [N [E t.1,E t.2.1],E t.2.2]) (λenv=>∃y z,env=[y,z]) (λt=>decide (1<t.2.2)) (ag∘λt:Tr=>("twice",[t.1,t.2.1])) ts _ ⟨J,J,rfl⟩ ?_;rintro t ht env ⟨y,z,rfl⟩;refine⟨[U (Z (N [E t.1,E t.2.1])),U (Z (E t.2.2))],by simp,⟨_,_,rfl⟩,by simp,λ_=> ⟨.c, ?_,rfl⟩⟩;simp[ag]
def PZ(h1:Zw (gN 3) cD G [U (Z wd),U (Z (N G)),U (Y (ε [])),J,J]=U (P [U (Z wd),U (Z (N G)),U (Y (ε kv)),y3,y4]))(hz:(cP kv).length<=16777216)
  (hc:cB (gT [0,1]) (az gtB (vE 1) (kE (E 1))) (aO (aa (kE (X "twice")) (aa (ZE (vE 0) (kE (E 0))) (aa (ZE (vE 0) (kE (E 1))) aX)))) (cP kv) [J,J]=U R)(im:aA R=O):dB [wd,N G]=U (Q R):=by
 refine aL rfl ?_;refine sqn (by simp;rfl) ?_;simp[h1,af,DL.Zx,hz,hc,im]
def LZ{w:World}{gv:List Tr}(W:aH w)(hg:bQ w.Zs.length gv)(hl:gv.length<64):dB [aE w,N (gv.map ZD)]=U (Q ((twF (gv.foldl (bf w.Zs) [])).map ag))/\(gv.foldl (bf w.Zs) []).length<64:=by
 have ln:∀(gv ts:List Tr),(gv.foldl (bf w.Zs) ts).length<=ts.length+gv.length:=by
  intro gv;induction gv with
  |nil=>intro ts;simp
  |cons g gv ih=>
   intro ts;rw[Gcl];have h2:(bf w.Zs ts g).length<=ts.length+1:=by
    exact wz _ _ _
   grind
 have l2:=ln gv [];simp only[Gbm,GaP] at l2;obtain⟨y3,y4,e⟩:=DY W gv [] J J hg (by simp;lia);have hz:(cP (kvT (gv.foldl (bf w.Zs) []))).length<=16777216:=by rw[uQ,Gae];lia
 exact⟨PZ e hz (LY _) (bW _),by lia⟩
def aT(ts:List Tr)(b:Tr):List Tr:=nO (nO ts b.1 b.2.1 b.2.2) b.2.1 b.1 b.2.2
def Q0{ts:List Tr}{b:Tr}(hz:ts.length<1000):cN [U (Z (N B)),U (Y (ε (kvT ts))),U (Z (ZD b))]=U (P [U (Z (N B)),U (Y (ε (kvT (aT ts b)))),U (Z (ZD b))]):=by
 obtain⟨x,y,v⟩:=b;have p1:=mR ts x y v;have p2:=mR (nO ts x y v) y x v;have l1:=nP ts x y v;have z1:(kvT ts).length<16777216:=by unfold kvT;rw[Gae];lia
 have z2:(kvT (nO ts x y v)).length<16777216:=by unfold kvT;rw[Gae];lia
 unfold cN aT ZD;rw[<-p2];simp[putD,z1,af,p1,z2]
theorem AW:∀(bs ts:List Tr) (x2:Os),ts.length+2*bs.length<1000->∃y2,Zw (gN 2) cN (bs.map ZD) [U (Z (N B)),U (Y (ε (kvT ts))),x2]=U (P [U (Z (N B)),U (Y (ε (kvT (bs.foldl aT ts)))),y2])
 |[],ts,x2,_=> ⟨x2,by simp⟩
 |b::bs,ts,x2,hl=>by
  rw[GaF] at hl;have ev:=Q0 (ts:=ts) (b:=b) (B:=B) (by lia);have l1:(aT ts b).length<=ts.length+2:=by
   unfold aT;have:=nP ts b.1 b.2.1 b.2.2;have:=nP (nO ts b.1 b.2.1 b.2.2) b.2.1 b.1 b.2.2;lia
  obtain⟨y2,e⟩:=AW bs (aT ts b) (U (Z (ZD b))) (by lia);refine⟨y2, ?_⟩;rw[Gay];simp only[Zw,gN,GaK,GaL,Option.bind_some,ev];exact e
def M0(ts:List Tr):aA ((kvT ts).map λx=>x.snd)=O:=by
 unfold kvT;rw[GaN];exact fV (λ_=>rfl) ts
def Q1{bs:List Tr}(hl:bs.length<=12):dS [N (bs.map ZD)]=U (ε (kvT (bs.foldl aT []))):=by
 obtain⟨y2,e⟩:=AW (B:=bs.map ZD) bs [] J (by simp;lia);refine aL rfl ?_;refine sqn (e:=[U (Z (N (bs.map ZD))),U (Y (ε (kvT []))),J]) (by simp[kvT]) ?_;have im:=M0 (bs.foldl aT []);simp[e,im]
def mS(gs:List Tr)(a b:Zz):Int:=if a.ax=b.ax then iJ gs a.aw b.aw else 0
def oI:gy [ε (kvT gs),aj a,aj b]=U (E (mS gs a b)):=by
 have l:=AV gs a.aw b.aw;refine aL rfl ?_;unfold lY mS iJ;have a1:ixD (aj a) (E 1)=U (E a.ax):=rfl;have a2:ixD (aj a) (E 2)=U (E a.aw):=rfl;have b1:ixD (aj b) (E 1)=U (E b.ax):=rfl;have b2:ixD (aj b) (E 2)=U (E b.aw):=rfl;by_cases c:a.ax=b.ax
 .rw[Gao c];refine sqn (by simp[a1,b1,c];rfl) ?_;cases hf:gs.find? (atT a.aw b.aw) with
  |none=>rw[hf] at l;simp at l;simp[a2,b2,l]
  |some t=>rw[hf] at l;simp at l;simp[a2,b2,l]
 .simp[a1,b1,c]
noncomputable def mk2(p:Int×Int):D:= N [E p.1,E p.2]
noncomputable def un2:D->Int×Int
 | N [E a,E b]=>(a,b)
 |_=>(0,0)
def SR(p:Int×Int):un2 (mk2 p)=p:=rfl
def DZ(l:List (Int×Int)):aA (l.map mk2)=O:=by
 induction l with
 |nil=>rfl
 |cons a l ih=>simp[mk2] at ih⊢;exact ih
def Jh(l:List (Int×Int)):ZA (l.map mk2)=O:=by
 have h1:(l.map mk2).all (lF 1)=O:=by
  simp[mk2,lF,tyD,lE]
 have h2:((l.map mk2).all λx=>(l.map mk2).all λy=>Ah x y)=O:=by
  simp[mk2,Ah,lQ,tyD]
 unfold ZA;rw[h1,h2];simp
def Q2(h:p.1<q.1):ltC (DL.code (mk2 p)) (DL.code (mk2 q))=O:=by
 have e:¬p.1=q.1:=by lia
 simp[mk2,DL.code,b7,ltC,dO,ltI,e,h]
def AX(ms:List (Int×Int)):∃eA:List (Int×Int),bG (ms.map mk2)=eA.map mk2/\eA.Perm ms/\eA.Pairwise λa b=>a.1<=b.1:=by
 have hp:=bT (ms.map mk2);have hs:=cR (ms.map mk2);have all:∀x∈bG (ms.map mk2),∃p,x=mk2 p:=λx hx=>by
  obtain⟨p,_,e⟩:=Gas.mp (hp.mem_iff.mp hx);exact⟨p,e.symm⟩
 have e:bG (ms.map mk2)=((bG (ms.map mk2)).map un2).map mk2:=by
  rw[GaN]
  conv=>lhs;rw[<-GbP (bG (ms.map mk2))]
  apply GaO;intro x hx;obtain⟨p,rfl⟩:=all x hx
  rfl
 refine⟨(bG (ms.map mk2)).map un2,e, ?_, ?_⟩
 .have:=GcU un2 hp;rw[GaN] at this;have e2:ms.map (un2∘mk2)=ms:=by
   conv=>rhs;rw[<-GbP ms]
   exact GaO λp _=>SR p
  rw[e2] at this;exact this
 .rw[e] at hs;unfold fc at hs;rw[Gcn] at hs;refine hs.imp λ{a b} h=> ?_;by_cases c:b.1<a.1
  .rw[Q2 c] at h;cases h
  .lia
noncomputable def sm(f:Nat->Int):Nat->Int
 |0=>0
 |n+1=>sm f n+f n
theorem E5{α:Type}(w:α->Int)(d:α)(l:List α):∀k,k<=l.length->sm (λi=>w (l[i]?.getD d)) k=((l.take k).map w).sum
 |0,_=>by simp[sm]
 |k+1,h=>by
  rw[sm,E5 w d l k (by lia),Gdz (by lia),GaC];simp[show k<l.length by lia]
theorem Ji(XS:g<=k+1)(h1:∀i,i<g->f i=0)(h2:∀i,g<=i->i<=k->f i=a i)(h3:∀i,k<i->f i=0):∀n,sm f n=if n<=g then 0 else if n<=k+1 then sm a n -sm a g else sm a (k+1)-sm a g
 |0=>by simp[sm]
 |n+1=>by
  rw[sm,Ji XS h1 h2 h3 n];by_cases c1:n+1<=g
  .rw[Gao (by lia),Gao c1,h1 n (by lia)]
   rfl
  .rw[Gai c1];by_cases c2:n+1<=k+1
   .rw[Gao c2,h2 n (by lia) (by lia)];by_cases c3:n<=g
    .have e:n=g:=by lia
     rw[Gao c3,sm];lia
    .rw[Gai c3,Gao (by lia),sm];lia
   .rw[Gai c2,h3 n (by lia)];by_cases c3:n<=g
    .have e2:g=k+1:=by lia
     rw[Gao c3];lia
    .rw[Gai c3];by_cases c4:n<=k+1
     .have e:n=k+1:=by lia
      rw[Gao c4];lia
     .rw[Gai c4];lia
section
variable(eA:List (Int×Int))(H:Int)
noncomputable def hr(i:Nat):Int:=(eA[i]?.getD (0,0)).1
noncomputable def am(i:Nat):Int:=(eA[i]?.getD (0,0)).2
noncomputable def wt(H h:Int)(p:Int×Int):Int:=if h -H<p.1/\p.1<=h then p.2 else 0
def W(h:Int):Int:=(eA.map (wt H h)).sum
end
variable{eA:List (Int×Int)}{H:Int}
def uS(hs:eA.Pairwise λa b=>a.1<=b.1)(h:i<=j)(hj:j<eA.length):hr eA i<=hr eA j:=by
 unfold hr;have hi:i<eA.length:=by lia
 simp only[Gac hi,Gac hj];rcases Gch h with e|e
 .simp_all
 .exact GcZ.mp hs i j hi hj e
def SU(hs:eA.Pairwise λa b=>a.1<=b.1)(hk:k<eA.length)(XS:g<=k)(h1:∀i,i<g->hr eA i<=hr eA k -H)(h2:hr eA k -H<hr eA g)(h3:k+1=eA.length\/hr eA k<hr eA (k+1)):
  W eA H (hr eA k)=sm (am eA) (k+1)-sm (am eA) g:=by
 have e:=E5 (wt H (hr eA k)) (0,0) eA eA.length (Gan _);rw[List.take_length] at e;unfold W;rw[<-e];have cut:=Ji (f:=λi=>if i<eA.length then wt H (hr eA k) (eA[i]?.getD (0,0)) else 0) (a:=am eA) (g:=g) (k:=k) (by lia)
  (λi hi=>by
   rw[Gao (by lia)];unfold wt;have:=h1 i hi;unfold hr at this⊢;rw[Gai (by lia)])
  (λi i1 i2=>by
   rw[Gao (by lia)];unfold wt;have a1:=uS hs i1 (by lia);have a2:=uS hs i2 hk;unfold hr at a1 a2 h2⊢;rw[Gao ⟨by lia,a2⟩];rfl)
  (λi hi=>by
   split
   .rename_i hl;have a1:hr eA (k+1)<=hr eA i:=uS hs (by lia) hl;rcases h3 with h3|h3
    .lia
    .unfold wt;unfold hr at a1 h3⊢;rw[Gai (by lia)]
   .rfl) eA.length
 rw[Gai (by lia)] at cut;have same:∀n,n<=eA.length->sm (λi=>if i<eA.length then wt H (hr eA k) (eA[i]?.getD (0,0)) else 0) n=sm (λi=>wt H (hr eA k) (eA[i]?.getD (0,0))) n:=by
  intro n;induction n with
  |zero=>intro _;rfl
  |succ n ih=>intro hn;rw[sm,sm,ih (by lia),Gao (by lia)]
 rw[<-same _ (Gan _),cut];split
 .have e2:eA.length=k+1:=by lia
  rw[e2]
 .rfl
noncomputable def oJ(ms:D)(H:Int)(R:List D)(F:List D)(eF eM k:Int)(row:D):DL.Env:=[U (Z ms),U (Z (E H)),U (γ (Q R)),U (Y (Q F)),U (Z (E eF)),U (Z (E eM)),U (Z (E k)),U (Z row)]
def sf(hg:g<eA.length):atD (eA.map mk2) (g:Int)=U (N [E (hr eA g),E (am eA g)]):=by
 rw[bO,Gap];unfold hr am;simp[mk2,hg]
def E9(e:atD R eM=U (N [E h',E a'])):fF (oJ ms H R F eF eM k (N [E h,E a]))=U (decide (h' <=h -H)):=by
 unfold fF oJ;simp[e]
def M1(e:atD R eM=U (N [E h',E a'])):gV (oJ ms H R F eF eM k (N [E h,E a]))=U (P (oJ ms H R F (eF -a') (eM+1) k (N [E h,E a]))):=by
 unfold gV oJ;simp[e]
def Jj{kk:Int}(hH:1<=H)(hk:k<eA.length):∀m eM fuel (eF:Int),k -eM=m->eM<=k->m<fuel->∃g,eM<=g/\g<=k/\(∀i,eM<=i->i<g->hr eA i<=hr eA k -H)/\hr eA k -H<hr eA g/\
  i7 fF gV fuel (oJ ms H (eA.map mk2) F eF eM kk (N [E (hr eA k),E a]))=U (P (oJ ms H (eA.map mk2) F (eF -(sm (am eA) g -sm (am eA) eM)) g kk (N [E (hr eA k),E a]))):=by
 intro m;induction m with
 |zero=>
  intro eM fuel eF hm hg hf;have e:eM=k:=by lia
  subst e;obtain⟨f,rfl⟩:∃f,fuel=f+1:=⟨fuel -1,by lia⟩
  refine⟨eM,Gan _,Gan _,λi h1 h2=>by lia,by lia, ?_⟩;unfold i7;rw[E9 (sf hk)];have c:¬hr eA eM<=hr eA eM -H:=by lia
  simp[c]
 |succ m ih=>
  intro eM fuel eF hm hg hf;obtain⟨f,rfl⟩:∃f,fuel=f+1:=⟨fuel -1,by lia⟩
  have yQ:eM<eA.length:=by lia
  unfold i7;rw[E9 (sf yQ)];by_cases c:hr eA eM<=hr eA k -H
  .obtain⟨g,q1,q2,q3,q4,q5⟩:=ih (eM+1) f (eF -am eA eM) (by lia) (by lia) (by lia);refine⟨g,by lia,q2,λi h1 h2=> ?_,q4, ?_⟩
   .rcases Gch h1 with e|e
    .subst e;exact c
    .exact q3 i e h2
   .simp only[c,decide_true,Option.bind_some,Gdn];rw[M1 (sf yQ)];simp only[Option.bind_some];have e1:((eM:Int)+1)=((eM+1:Nat):Int):=by lia
    rw[e1,q5,sm];have e2:eF -am eA eM -(sm (am eA) g -(sm (am eA) eM+am eA eM))=eF -(sm (am eA) g -sm (am eA) eM):=by lia
    rw[e2]
  .refine⟨eM,Gan _,hg,λi h1 h2=>by lia,by lia, ?_⟩;simp[c]
def fX(eA:List (Int×Int))(j:Nat):Bool:=decide (j+1=eA.length)||decide (hr eA j<hr eA (j+1))
def fnd(eA:List (Int×Int))(H:Int)(m:Nat):List (Int×Int):=((List.range m).filter (fX eA)).map λj=>(hr eA j,W eA H (hr eA j))
def AY:fnd eA H (m+1)=fnd eA H m++(if fX eA m then[(hr eA m,W eA H (hr eA m))] else[]):=by
 unfold fnd;rw[List.range_succ];cases h:fX eA m<;>simp[h]
def Ea:(fnd eA H m).length<=m:=by
 unfold fnd;rw[Gae];exact Gbo (GbL _ _) (by simp)
def M3{R F:List D}{kk:Int}(hw:i7 fF gV 100000 (oJ ms H R F (eF+a) eM kk (N [E h,E a]))=U (P (oJ ms H R F total' g' kk (N [E h,E a]))))(hz:F.length<1000)(hn:(R.length:Int)=n)
  (hc:(kk+1=n/\last=O)\/(kk+1≠n/\∃h2 a2,atD R (kk+1)=U (N [E h2,E a2])/\last=decide (h<h2))):
  dQ (oJ ms H R F eF eM kk (N [E h,E a]))=U (P (oJ ms H R (if last then F++[N [E h,E total']] else F) total' g' kk (N [E h,E a]))):=by
 have z:F.length<16777216:=by lia
 unfold oJ at*;unfold dQ qK;rcases hc with⟨c,rfl⟩| ⟨c,h2,a2,e,rfl⟩
 .simp[hw,hn,c,af,z]
 .by_cases c2:h<h2
  .simp[hw,e,c2,af,z]
  .simp[hw,hn,c,e,c2]
def Jk(hH:1<=H)(hs:eA.Pairwise λa b=>a.1<=b.1)(hl:eA.length<64):∃y4 y5 y6 y7,Zw (gT [6,7]) dQ (fE 0 (eA.map mk2)) [U (Z ms),U (Z (E H)),U (γ (Q (eA.map mk2))),U (Y (Q [])),U (Z (E 0)),U (Z (E 0)),J,J]=
  U (P [U (Z ms),U (Z (E H)),U (γ (Q (eA.map mk2))),U (Y (Q ((fnd eA H eA.length).map mk2))),y4,y5,y6,y7]):=by
 obtain⟨e,h1,eM,eF,y6,y7,h2,h3,h4,rfl⟩:=cE (g:=gT [6,7]) (λm env=>∃(eM:Nat) (eF:Int) (y6 y7:Os),eM<=m/\eF=sm (am eA) m -sm (am eA) eM/\(∀i,i<eM->∀j,m<=j+1->j<eA.length->hr eA i<=hr eA j -H)/\
   env=[U (Z ms),U (Z (E H)),U (γ (Q (eA.map mk2))),U (Y (Q ((fnd eA H m).map mk2))),U (Z (E eF)),U (Z (E eM)),y6,y7]) (fE 0 (eA.map mk2)) 0
  [U (Z ms),U (Z (E H)),U (γ (Q (eA.map mk2))),U (Y (Q [])),U (Z (E 0)),U (Z (E 0)),J,J] ⟨0,0,J,J,Gan _,by simp,λi hi=>by lia,rfl⟩ (by
   rintro k d e hd ⟨eM,eF,y6,y7,h2,h3,h4,rfl⟩;rw[gU,Gap] at hd;cases hk:eA[k]? with
   |none=>rw[hk] at hd;cases hd
   |some p=>
    rw[hk] at hd;have hkl:=(Gak.mp hk).1;simp only[Gcj,GcK] at hd;subst hd;rw[GaP] at h2 h3 h4⊢;have ep:mk2 p= N [E (hr eA k),E (am eA k)]:=by
     unfold mk2 hr am;rw[hk]
     rfl
    obtain⟨g,q1,q2,q3,q4,q5⟩:=Jj (F:=(fnd eA H k).map mk2) (kk:=(k:Int)) hH hkl (k -eM) eM 100000 (eF+am eA k) rfl h2 (by lia);have allg:=λi (hi:i<g)=>by
     by_cases c:i<eM
     .exact h4 i c k (by lia) hkl
     .exact q3 i (by lia) hi
    have tot:eF+am eA k -(sm (am eA) g -sm (am eA) eM)=sm (am eA) (k+1)-sm (am eA) g:=by
     rw[h3,sm];lia
    rw[tot] at q5;have eL:((eA.map mk2).length:Int)=(eA.length:Int):=by simp
    have ev:=M3 (last:=fX eA k) q5 (GcD (by rw[Gae];exact Ea) (by lia)) eL (by
     by_cases c:k+1=eA.length
     .exact .inl ⟨by lia,by unfold fX;simp[c]⟩
     .refine .inr ⟨by lia,hr eA (k+1),am eA (k+1), ?_,by unfold fX;simp[c]⟩;have:=sf (eA:=eA) (g:=k+1) (by lia);exact this)
    refine⟨_,_, ?_,ev,g,_,U (Z (E (k:Int))),U (Z (N [E (hr eA k),E (am eA k)])),by lia,rfl,λi hi j hj zm=> ?_, ?_⟩
    .rw[ep]
     rfl
    .have:=allg i hi;have:=uS hs (i:=k) (by lia) zm;lia
    .rw[AY];unfold oJ;cases hL:fX eA k with
     |false=>simp
     |true=>
      have hw:=SU hs hkl q2 allg q4 (by
       unfold fX at hL;rw[GaX] at hL;exact hL.imp Gaq Gaq)
      simp[mk2,hw])
 rw[gS,Gae,GaP] at h1;exact⟨_,_,_,_,h1⟩
def si{ms:List (Int×Int)}(hl:ms.length<64):Zy [Q (ms.map mk2)]=U ⟨.tn,Q (bG (ms.map mk2))⟩:=by
 have h1:((ms.map mk2).length<64):=by simpa using hl
 unfold Zy one jy;simp only[Option.bind_some];rw[Jh,GaD h1];rfl
def Jl(es:Zy [Q Zr]=U ⟨.tn,Q R⟩)(h1:Zw (gT [6,7]) dQ (fE 0 R) [U (Z (Q Zr)),U (Z (E H)),U (γ (Q R)),U (Y (Q [])),U (Z (E 0)),U (Z (E 0)),J,J]=
  U (P [U (Z (Q Zr)),U (Z (E H)),U (γ (Q R)),U (Y (Q F)),y4,y5,y6,y7]))(im:aA F=O):jV [Q Zr,E H]=U (Q F):=by
 unfold jV Cf;simp[es,h1,im]
theorem ma:∀(a b:List Int),a.Pairwise (λx y=>x<y)->b.Pairwise (λx y=>x<y)->(∀x,x∈a↔x∈b)->a=b
 |[],[],_,_,_=>rfl
 |[],y::b,_,_,h=>absurd ((h y).mpr Gaj) (by simp)
 |x::a,[],_,_,h=>absurd ((h x).mp Gaj) (by simp)
 |x::a,y::b,ha,hb,h=>by
  have ha' :=GaV.mp ha;have xH :=GaV.mp hb;have exy:x=y:=by
   rcases Gat.mp ((h x).mp Gaj) with e|e
   .exact e
   .rcases Gat.mp ((h y).mpr Gaj) with e2|e2
    .exact e2.symm
    .have h3:=xH.1 x e;have h4:=ha'.1 y e2;lia
  subst exy;congr 1;refine ma a b ha'.2 xH.2 λz=> ⟨λhz=> ?_,λhz=> ?_⟩
  .rcases Gat.mp ((h z).mp (Gaf _ hz)) with e|e
   .have:=ha'.1 z hz;lia
   .exact e
  .rcases Gat.mp ((h z).mpr (Gaf _ hz)) with e|e
   .have:=xH.1 z hz;lia
   .exact e
theorem Jm:∀(ns ks:List Int) (x:Int),x∈ns.foldl dd1 ks↔x∈ks\/x∈ns
 |[],ks,x=>by simp
 |n::ns,ks,x=>by
  rw[Gcl,Jm ns (dd1 ks n) x];unfold dd1;split
  .rename_i c;constructor
   .rintro(h|h)
    .exact .inl h
    .simp_all
   .rintro(h|h)
    .exact .inl h
    .rcases Gat.mp h with rfl|h
     .exact .inl c
     .exact .inr h
  .simp only[Gau,Gat,GbE,Gdi];lia
theorem AZ:∀(ns ks:List Int),ks.Nodup->(ns.foldl dd1 ks).Nodup
 |[],ks,h=>h
 |n::ns,ks,h=>by
  refine AZ ns _ ?_;unfold dd1;split
  .exact h
  .rename_i c;rw[GaW];refine⟨h,by simp,λa ha b hb=> ?_⟩;rw[GaU] at hb;subst hb
   exactλe=>c (e▸ha)
theorem Jn:∀(ns ks:List Int),(ns.foldl dd1 ks).length<=ks.length+ns.length
 |[],ks=>by simp
 |n::ns,ks=>by
  rw[Gcl];have h:=Jn ns (dd1 ks n);have h2:(dd1 ks n).length<=ks.length+1:=by unfold dd1;split<;>simp
  grind
def B0(h:a<b):ltC (DL.code (E a)) (DL.code (E b))=O:=by
 have e:¬a=b:=by lia
 simp[DL.code,b7,ltC,dO,ltI,e,h]
def Ga(l:List Int):∃s:List Int,s.Perm l/\s.Pairwise (λa b=>a<=b)/\bG (l.map E)=s.map E:=by
 have hp:=bT (l.map E);have hs:=cR (l.map E);have all:∀{ds:List D},(∀d∈ds,∃i:Int,d= E i)->∃s:List Int,ds=s.map E:=by
  intro ds;induction ds with
  |nil=>exactλ_=> ⟨[],rfl⟩
  |cons d ds ih=>
   intro h;obtain⟨i,rfl⟩:=h d Gaj;obtain⟨s,rfl⟩:=ih λx hx=>h x (Gaf _ hx);exact⟨i::s,rfl⟩
 obtain⟨s,e⟩:=all λd hd=>by
  obtain⟨i,_,rfl⟩:=Gas.mp (hp.mem_iff.mp hd);exact⟨i,rfl⟩
 rw[e] at hp hs;refine⟨s, ?_, ?_,e⟩
 .have un:∀x:List Int,(x.map E).map (λd=>match d with| E i=>i|_=>0)=x:=by
   intro x;rw[GaN];exact(GaO λ_ _=>rfl).trans (GbP x)
  have:=GcU (λd=>match d with|E i=>i|_=>0) hp;rw[un,un] at this;exact this
 .unfold fc at hs;rw[Gcn] at hs;refine hs.imp λ{a b} h=> ?_;by_cases c:b<a
  .rw[B0 c] at h;cases h
  .lia
def Jo(ns:List Int):∃S:List Int,bG ((ddF ns).map E)=S.map E/\S.Pairwise (λa b=>a<b)/\(∀x,x∈S↔x∈ns)/\S.length<=ns.length:=by
 obtain⟨s,h1,h2,h3⟩:=Ga (ddF ns);have nd:=h1.nodup_iff.mpr (AZ ns [] GdP);have mem:∀x,x∈s↔x∈ns:=λx=>by rw[h1.mem_iff];unfold ddF;rw[Jm];simp
 refine⟨s,h3, ?_,mem, ?_⟩
 .have:=h2.and nd;exact this.imp λ{a b} h=>by
   lia
 .rw[h1.length_eq];have:=Jn ns []
  simpa[ddF] using this
def M4(ms:List (Int×Int))(H:Int)(S:List Int):List (Int×Int):=S.map λh=>(h,W ms H h)
def Jp{l l' :List Int}(h:l.Perm l'):l.sum=l'.sum:=by
 induction h with
 |nil=>rfl
 |cons x _ ih=>simp[ih]
 |swap x y l=>simp;lia
 |trans _ _ h1 h2=>exact h1.trans h2
def Q3(hp:eA.Perm ms)(h:Int):W eA H h=W ms H h:=by
 exact Jp (GcU _ hp)
theorem sk(hs:eA.Pairwise λa b=>a.1<=b.1):∀m i,eA.length -i=m->i<eA.length->∃j,j<eA.length/\hr eA j=hr eA i/\fX eA j=O
 |0,i,hm,hi=>by lia
 |m+1,i,hm,hi=>by
  by_cases c:i+1=eA.length
  .exact⟨i,hi,rfl,by unfold fX;simp[c]⟩
  .by_cases c2:hr eA i<hr eA (i+1)
   .exact⟨i,hi,rfl,by unfold fX;simp[c2]⟩
   .obtain⟨j,h1,h2,h3⟩:=sk hs m (i+1) (by lia) (by lia);have:=uS hs (i:=i) (j:=i+1) (by lia) (by lia);exact⟨j,h1,by rw[h2];lia,h3⟩
def M5{ms:List (Int×Int)}{S:List Int}(hs:eA.Pairwise λa b=>a.1<=b.1)(hp:eA.Perm ms)(hS:S.Pairwise λa b=>a<b)(hm:∀x,x∈S↔x∈ms.map (·.1)):fnd eA H eA.length=M4 ms H S:=by
 have eT:((List.range eA.length).filter (fX eA)).map (hr eA)=S:=by
  refine ma _ _ ?_ hS λx=> ?_
  .rw[Gcn];have pr:((List.range eA.length).filter (fX eA)).Pairwise λi j=>i<j:=List.Pairwise.filter _ List.pairwise_lt_range;refine(GcQ.mp pr).imp λ{i j} h=> ?_;obtain⟨hi,hj,yn⟩:=h;obtain⟨i1,i2⟩:=Gbk.mp hi;obtain⟨j1,_⟩:=Gbk.mp hj;have jl:=GaS.mp j1;unfold fX at i2;rw[GaX] at i2;rcases i2 with i2|i2
   .lia
   .have a2:=uS hs (i:=i+1) (by lia) jl;lia
  .rw[hm,Gas,Gas];constructor
   .rintro⟨j,hj,rfl⟩;have jl:=GaS.mp (Gbk.mp hj).1;exact⟨eA[j],hp.mem_iff.mp (GaA _),by unfold hr;simp[jl]⟩
   .rintro⟨p,xP,rfl⟩;obtain⟨i,hi,rfl⟩:=GbB (hp.mem_iff.mpr xP);obtain⟨j,h1,h2,h3⟩:=sk hs (eA.length -i) i rfl hi;refine⟨j,Gbk.mpr ⟨GaS.mpr h1,h3⟩, ?_⟩;rw[h2];unfold hr;simp[hi]
 unfold fnd M4;rw[<-eT,GaN];exact GaO λj _=>by simp only[Function.comp];rw[Q3 hp]
def Jq{R F:List D}{kk:Int}(hz:F.length<1000)(hn:(R.length:Int)=n)
  (hc:(kk+1=n/\last=O)\/(kk+1≠n/\∃h2 a2,atD R (kk+1)=U (N [E h2,E a2])/\last=decide (h<h2))):
  dQ [U (Z ms),U (Z ζ),U (γ (Q R)),U (Y (Q F)),U (Z (E eF)),U (Z (E 0)),U (Z (E kk)),U (Z (N [E h,E a]))]=
   U (P [U (Z ms),U (Z ζ),U (γ (Q R)),U (Y (Q (if last then F++[N [E h,E (eF+a)]] else F))),U (Z (E (eF+a))),U (Z (E 0)),U (Z (E kk)),U (Z (N [E h,E a]))]):=by
 have z:F.length<16777216:=by lia
 have hw:i7 fF gV 100000 [U (Z ms),U (Z ζ),U (γ (Q R)),U (Y (Q F)),U (Z (E (eF+a))),U (Z (E 0)),U (Z (E kk)),U (Z (N [E h,E a]))]=U (P [U (Z ms),U (Z ζ),U (γ (Q R)),U (Y (Q F)),U (Z (E (eF+a))),U (Z (E 0)),U (Z (E kk)),U (Z (N [E h,E a]))]):=by
  have t:fF [U (Z ms),U (Z ζ),U (γ (Q R)),U (Y (Q F)),U (Z (E (eF+a))),U (Z (E 0)),U (Z (E kk)),U (Z (N [E h,E a]))]=U M:=by
   unfold fF;simp
  unfold i7;rw[t];simp
 unfold dQ qK;rcases hc with⟨c,rfl⟩| ⟨c,h2,a2,e,rfl⟩
 .simp[hw,hn,c,af,z]
 .by_cases c2:h<h2
  .simp[hw,e,c2,af,z]
  .simp[hw,hn,c,e,c2]
def Gb(hH:∀p∈eA,∀q∈eA,q.1 -H<p.1)(hs:eA.Pairwise λa b=>a.1<=b.1)(hl:eA.length<64):∃y4 y5 y6 y7,Zw (gT [6,7]) dQ (fE 0 (eA.map mk2)) [U (Z ms),U (Z ζ),U (γ (Q (eA.map mk2))),U (Y (Q [])),U (Z (E 0)),U (Z (E 0)),J,J]=
  U (P [U (Z ms),U (Z ζ),U (γ (Q (eA.map mk2))),U (Y (Q ((fnd eA H eA.length).map mk2))),y4,y5,y6,y7]):=by
 obtain⟨e,h1,eF,y6,y7,h3,rfl⟩:=cE (g:=gT [6,7]) (λm env=>∃(eF:Int) (y6 y7:Os),eF=sm (am eA) m/\
   env=[U (Z ms),U (Z ζ),U (γ (Q (eA.map mk2))),U (Y (Q ((fnd eA H m).map mk2))),U (Z (E eF)),U (Z (E 0)),y6,y7]) (fE 0 (eA.map mk2)) 0
  [U (Z ms),U (Z ζ),U (γ (Q (eA.map mk2))),U (Y (Q [])),U (Z (E 0)),U (Z (E 0)),J,J] ⟨0,J,J,by simp[sm],rfl⟩ (by
   rintro k d e hd ⟨eF,y6,y7,h3,rfl⟩;rw[gU,Gap] at hd;cases hk:eA[k]? with
   |none=>rw[hk] at hd;cases hd
   |some p=>
    rw[hk] at hd;have hkl:=(Gak.mp hk).1;simp only[Gcj,GcK] at hd;subst hd;rw[GaP] at h3⊢;have ep:mk2 p= N [E (hr eA k),E (am eA k)]:=by
     unfold mk2 hr am;rw[hk]
     rfl
    have eL:((eA.map mk2).length:Int)=(eA.length:Int):=by simp
    have ev:=Jq (ms:=ms) (F:=(fnd eA H k).map mk2) (eF:=eF) (kk:=(k:Int)) (h:=hr eA k) (a:=am eA k) (last:=fX eA k) (GcD (by rw[Gae];exact Ea) (by lia)) eL (by
     by_cases c:k+1=eA.length
     .exact .inl ⟨by lia,by unfold fX;simp[c]⟩
     .refine .inr ⟨by lia,hr eA (k+1),am eA (k+1), ?_,by unfold fX;simp[c]⟩;have:=sf (eA:=eA) (g:=k+1) (by lia);exact this)
    refine⟨_,_, ?_,ev,eF+am eA k,U (Z (E (k:Int))),U (Z (N [E (hr eA k),E (am eA k)])),by rw[h3];rfl, ?_⟩
    .rw[ep]
     rfl
    .rw[AY];cases hL:fX eA k with
     |false=>simp
     |true=>
      have hr_in:∀i,i<eA.length->∃p∈eA,p.1=hr eA i:=λi hi=> ⟨eA[i],GaA _,by unfold hr;simp[hi]⟩;have hw:=SU (H:=H) hs hkl (Gba k) (λi hi=>by lia) (by
       obtain⟨p,hp,e1⟩:=hr_in 0 (by lia);obtain⟨q,hq,e2⟩:=hr_in k hkl;have:=hH p hp q hq;lia) (by
       unfold fX at hL;rw[GaX] at hL;exact hL.imp Gaq Gaq)
      have tot:eF+am eA k=W eA H (hr eA k):=by
       rw[hw,h3];simp[sm]
      simp[mk2,tot])
 rw[gS,Gae,GaP] at h1;exact⟨_,_,_,_,h1⟩
def Gd(es:Zy [Q Zr]=U ⟨.tn,Q R⟩)(h1:Zw (gT [6,7]) dQ (fE 0 R) [U (Z (Q Zr)),U (Z ζ),U (γ (Q R)),U (Y (Q [])),U (Z (E 0)),U (Z (E 0)),J,J]=
  U (P [U (Z (Q Zr)),U (Z ζ),U (γ (Q R)),U (Y (Q F)),y4,y5,y6,y7]))(im:aA F=O):jV [Q Zr,ζ]=U (Q F):=by
 unfold jV Cf;simp[es,h1,im]
def HD(hd:D)(H:Int)(ms:List (Int×Int)):Prop:=(hd= E H/\1<=H)\/(hd= ζ/\∀p∈ms,∀q∈ms,q.1 -H<p.1)
def HD.perm{ms:List (Int×Int)}(h:HD hd H ms)(hp:ms.Perm xY):HD hd H xY :=by
 rcases h with h| ⟨h1,h2⟩
 .exact .inl h
 .exact .inr ⟨h1,λp xP q hq=>h2 p (hp.mem_iff.mpr xP) q (hp.mem_iff.mpr hq)⟩
def sr{ms xY :List (Int×Int)}{S:List Int}(h:HD hd H ms)(hp:xY.Perm ms)(hl:ms.length<64)(hS:S.Pairwise λa b=>a<b)(hm:∀x,x∈S↔x∈ms.map (·.1)):jV [Q (xY.map mk2),hd]=U (Q ((M4 ms H S).map mk2)):=by
 obtain⟨eA,e,yz,hs⟩:=AX xY;have hp3:=yz.trans hp;have zR:eA.length<64:=by rw[hp3.length_eq];exact hl
 have es:=si (by rw[hp.length_eq];exact hl);rw[e] at es;rw[<-M5 hs hp3 hS hm];rcases h.perm hp3.symm with⟨rfl,hH⟩| ⟨rfl,hH⟩
 .obtain⟨y4,y5,y6,y7,h⟩:=Jk hH hs zR;exact Jl es h (DZ _)
 .obtain⟨y4,y5,y6,y7,h⟩:=Gb hH hs zR;exact Gd es h (DZ _)
def gpF(os:List Zz)(gs:List Tr)(r l:Int×Int):List Flt:=match os[r.2.toNat]?,os[l.2.toNat]? with
 |some a,U b=>if l.1 -r.1<mS gs a b then[("gap",[r.2,r.1,l.2,l.1])] else[]
 |_,_=>[]
def k8(os:List Zz)(gs:List Tr)(w:Int)(r:Int×Int):List (Int×Int)->List Flt
 |[]=>[]
 |l::ls=>if l.1 -r.1>=w then[] else gpF os gs r l++k8 os gs w r ls
def df(os:List Zz)(gs:List Tr)(w:Int):List (Int×Int)->List Flt
 |[]=>[]
 |r::rs=>k8 os gs w r rs++df os gs w rs
def wA(os:List Zz)(gs:List Tr)(r l:Int×Int):(gpF os gs r l).length<=1:=by
 unfold gpF;split
 .split<;>simp
 .simp
theorem oM(os:List Zz)(gs:List Tr)(w:Int)(r:Int×Int):∀ls,(k8 os gs w r ls).length<=ls.length
 |[]=>by simp[k8]
 |l::ls=>by
  unfold k8;have h1:=oM os gs w r ls;have h2:=wA os gs r l;split
  .simp
  .simp;lia
def Q4(c:l1 -r1>=w):
  bU [U (Z wd),U (Z (N G)),U (Y (ε kv)),U (Z (E w)),U (γ (Q R)),U (Y (Q F)),U (Z (E k)),U (Z (N [E r1,E r2])),U (Z (N [E l1,E l2])),x9]=
   U (.bk [U (Z wd),U (Z (N G)),U (Y (ε kv)),U (Z (E w)),U (γ (Q R)),U (Y (Q F)),U (Z (E k)),U (Z (N [E r1,E r2])),U (Z (N [E l1,E l2])),U (Z (E (l1 -r1)))]):=by
 unfold bU;simp[c]
def Q5{F:List D}(c:¬l1 -r1>=w)(h1:atD Zq r2=U o1)(h2:atD Zq l2=U o2)(eb:gy [ε kv,o1,o2]=U (E gb))(hz:F.length<100000):
  bU [U (Z (N [N A,N B,N C,N Zq])),U (Z (N G)),U (Y (ε kv)),U (Z (E w)),U (γ (Q R)),U (Y (Q F)),U (Z (E k)),U (Z (N [E r1,E r2])),U (Z (N [E l1,E l2])),x9]=
   U (P [U (Z (N [N A,N B,N C,N Zq])),U (Z (N G)),U (Y (ε kv)),U (Z (E w)),U (γ (Q R)),U (Y (Q (F++(if l1 -r1<gb then[N [X "gap",E r2,E r1,E l2,E l1]] else[])))),U (Z (E k)),U (Z (N [E r1,E r2])),U (Z (N [E l1,E l2])),U (Z (E (l1 -r1)))]):=by
 have z:F.length<16777216:=by lia
 refine sqn (e:=[U (Z (N [N A,N B,N C,N Zq])),U (Z (N G)),U (Y (ε kv)),U (Z (E w)),U (γ (Q R)),U (Y (Q F)),U (Z (E k)),U (Z (N [E r1,E r2])),U (Z (N [E l1,E l2])),U (Z (E (l1 -r1)))]) (by simp) ?_;have c' :l1 -r1<w:=by lia
 refine sqn (e:=[U (Z (N [N A,N B,N C,N Zq])),U (Z (N G)),U (Y (ε kv)),U (Z (E w)),U (γ (Q R)),U (Y (Q F)),U (Z (E k)),U (Z (N [E r1,E r2])),U (Z (N [E l1,E l2])),U (Z (E (l1 -r1)))]) (by simp[c']) ?_;by_cases q:l1 -r1<gb
 .simp[q,h1,h2,eb,z,af]
 .simp[q,h1,h2,eb]
theorem su{w:World}{r:Int×Int}(XM:0<=r.2)(YG:r.2<w.Zs.length):∀(ls:List (Int×Int)) (fs:List Flt) (x8 x9:Os),(∀l∈ls,0<=l.2/\l.2<w.Zs.length)->fs.length+ls.length<100000->∃y8 y9,
  Zw (gN 8) bU (ls.map mk2) [U (Z (N [N A,N B,N C,N (w.Zs.map aj)])),U (Z (N G)),U (Y (ε (kvT gs))),U (Z (E wid)),U (γ (Q R)),U (Y (Q (fs.map ag))),U (Z (E k)),U (Z (mk2 r)),x8,x9]=
   U (P [U (Z (N [N A,N B,N C,N (w.Zs.map aj)])),U (Z (N G)),U (Y (ε (kvT gs))),U (Z (E wid)),U (γ (Q R)),U (Y (Q ((fs++k8 w.Zs gs wid r ls).map ag))),U (Z (E k)),U (Z (mk2 r)),y8,y9])
 |[],fs,x8,x9,_,_=> ⟨x8,x9,by simp[k8]⟩
 |l::ls,fs,x8,x9,hl,hz=>by
  rw[GaF] at hz;by_cases c:l.1 -r.1>=wid
  .have ev:=Q4 (wd:= N [N A,N B,N C,N (w.Zs.map aj)]) (G:=G) (R:=R) (F:=fs.map ag) (kv:=kvT gs) (k:=k) (r2:=r.2) (l2:=l.2) (x9:=x9) c;refine⟨U (Z (mk2 l)),U (Z (E (l.1 -r.1))), ?_⟩;unfold k8;rw[Gao c,Gbh,Gay];have e1:N [E r.1,E r.2]=mk2 r:=rfl;have e2:N [E l.1,E l.2]=mk2 l:=rfl;simp_all
  .have l0:=hl l Gaj;obtain⟨n,hn⟩:=GaH XM;obtain⟨m,hm⟩:=GaH l0.1;have xh :n<w.Zs.length:=by lia
   have yI :m<w.Zs.length:=by lia
   have h1:atD (w.Zs.map aj) r.2=U (aj w.Zs[n]):=by rw[hn,bO,Gap,Gac xh];rfl
   have h2:atD (w.Zs.map aj) l.2=U (aj w.Zs[m]):=by rw[hm,bO,Gap,Gac yI];rfl
   have eb:=oI (gs:=gs) (a:=w.Zs[n]) (b:=w.Zs[m]);have ev:=Q5 (A:=A) (B:=B) (C:=C) (G:=G) (R:=R) (F:=fs.map ag) (k:=k) (x9:=x9) c h1 h2 eb (by rw[Gae];lia);have eg:(if l.1 -r.1<mS gs w.Zs[n] w.Zs[m] then[N [X "gap",E r.2,E r.1,E l.2,E l.1]] else[])=(gpF w.Zs gs r l).map ag:=by
    unfold gpF;rw[hn,hm,Gbw,Gbw,Gac xh,Gac yI];dsimp only;split<;>rfl
   rw[eg,<-GaC] at ev;have g1:=wA w.Zs gs r l;obtain⟨y8,y9,e⟩:=su XM YG ls (fs++gpF w.Zs gs r l) (U (Z (mk2 l))) (U (Z (E (l.1 -r.1)))) (λx hx=>hl x (Gaf _ hx)) (by rw[Gal];lia);refine⟨y8,y9, ?_⟩
   conv=>rhs;unfold k8
   rw[Gai c,Gay,<-Gbd];have e1:N [E r.1,E r.2]=mk2 r:=rfl;have e2:N [E l.1,E l.2]=mk2 l:=rfl;rw[e1,e2] at ev;simp only[Zw,gN,GaK,GaL,Option.bind_some,ev];exact e
def M6(hs:slD (U (k+1)) J (Q R)=U ⟨.tn,Q L⟩)(h:Zw (gN 8) bU L [e0,e1,e2,e3,U (γ (Q R)),e5,U (Z (E k)),e7,x8,x9]=U (P e')):
  cx [e0,e1,e2,e3,U (γ (Q R)),e5,U (Z (E k)),e7,x8,x9]=U (P e'):=by
 unfold cx;simp[hs,h]
def Jr(R:List D)(j:Nat):slD (U ((j:Int)+1)) J (Q R)=U ⟨.tn,Q (R.drop (j+1))⟩:=by
 show U (⟨.tn,Q (cutD R (U ((j:Int)+1)) J)⟩:RV)=_;have e:sIx R.length 0 (U ((j:Int)+1))=min (j+1) R.length:=by
  show(if(j:Int)+1<0 then((j:Int)+1+(R.length:Int)).toNat else min ((j:Int)+1).toNat R.length)=_;rw[Gai (by lia)];congr 1
 unfold cutD;have e2:sIx R.length R.length J=R.length:=rfl;rw[e2];rw[List.take_of_length_le (by rw[Gcs];lia)];simp_all
theorem pL{w:World}{eA:List (Int×Int)}(hr:∀l∈eA,0<=l.2/\l.2<w.Zs.length)(hn:eA.length<64):∀m j fs x6 x7 x8 x9,eA.length -j=m->fs.length<=64*j->∃y6 y7 y8 y9,
  Zw (gT [6,7]) cx (fE j ((eA.drop j).map mk2)) [U (Z (N [N A,N B,N C,N (w.Zs.map aj)])),U (Z (N G)),U (Y (ε (kvT gs))),U (Z (E wid)),U (γ (Q (eA.map mk2))),U (Y (Q (fs.map ag))),x6,x7,x8,x9]=
   U (P [U (Z (N [N A,N B,N C,N (w.Zs.map aj)])),U (Z (N G)),U (Y (ε (kvT gs))),U (Z (E wid)),U (γ (Q (eA.map mk2))),U (Y (Q ((fs++df w.Zs gs wid (eA.drop j)).map ag))),y6,y7,y8,y9])
 |0,j,fs,x6,x7,x8,x9,hm,hf=>by
  rw[List.drop_of_length_le (by lia)];exact⟨x6,x7,x8,x9,by simp[df]⟩
 |m+1,j,fs,x6,x7,x8,x9,hm,hf=>by
  have hj:j<eA.length:=by lia
  have ed:=GbN hj;have r0:=hr eA[j] (GaA hj);obtain⟨y8,y9,e⟩:=su (gs:=gs) (wid:=wid) (A:=A) (B:=B) (C:=C) (G:=G) r0.1 r0.2 (eA.drop (j+1)) fs x8 x9 (λl hl=>hr l (List.mem_of_mem_drop hl)) (by rw[Gcs];lia);have lz:=oM w.Zs gs wid eA[j] (eA.drop (j+1));rw[Gcs] at lz;obtain⟨z6,z7,z8,z9,e2⟩:=pL hr hn m (j+1) (fs++k8 w.Zs gs wid eA[j] (eA.drop (j+1))) (U (Z (E (j:Int)))) (U (Z (mk2 eA[j]))) y8 y9 (by lia) (by rw[Gal];lia);refine⟨z6,z7,z8,z9, ?_⟩;have ev:=M6 (Jr (eA.map mk2) j) ((by rw[<-List.map_drop];exact e):Zw (gN 8) bU ((eA.map mk2).drop (j+1)) _=_);rw[ed]
  conv=>rhs;unfold df
  rw[<-Gbd];show Zw (gT [6,7]) cx (N [E (j:Int),mk2 eA[j]]::fE (j+1) ((eA.drop (j+1)).map mk2)) _=_;simp only[Zw,gT,gNs,GaK,GaL,Option.bind_some,ev];exact e2
def wide(bs:List Tr):Int:=match bs.map (·.2.2) with
 |[]=>0
 |n::ns=>om n ns
def M7{C G:List D}(hg:dS [N C]=U (ε kv))(zc:C.length<1000)(hw:cB (gN 0) fK (ZE (vE 0) (kE (E 2))) C [J]=U B')(hm:mmD om (E 0) (Q B')=U ⟨.c,E wid⟩)(zg:G.length<1000)(hc:cB (gN 0) fK (aO (aa (ZE (vE 0) (kE (E 1))) (aa (ZE (vE 0) (kE (E 0))) aX))) G [J]=U R)(hs:Zy [Q R]=U ⟨.tn,Q R'⟩)
  (hl:Zw (gT [6,7]) cx (fE 0 R') [U (Z (N [N A,N B,N C,N Zq])),U (Z (N G)),U (Y (ε kv)),U (Z (E wid)),U (γ (Q R')),U (Y (Q [])),J,J,J,J]=U (P [U (Z (N [N A,N B,N C,N Zq])),U (Z (N G)),U (Y (ε kv)),U (Z (E wid)),U (γ (Q R')),U (Y (Q F)),y6,y7,y8,y9]))(im:aA F=O):
  fP [N [N A,N B,N C,N Zq],N G]=U (Q F):=by
 have z1:C.length<=16777216:=by lia
 have z2:G.length<=16777216:=by lia
 refine aL rfl ?_;refine sqn (by simp[hg];rfl) ?_;simp[af,DL.Zx,hw,hm,z1,hc,hs,z2,hl,im]
noncomputable def gvR(gv:List Tr):List (Int×Int):=gv.map λt=>(t.2.1,t.1)
def SV{w:World}{gv:List Tr}(W:aH w)(hg:bQ w.Zs.length gv)(hl:gv.length<64):∃eA,bG ((gvR gv).map mk2)=eA.map mk2/\eA.Perm (gvR gv)/\(eA.Pairwise λa b=>a.1<=b.1)/\fP [aE w,N (gv.map ZD)]=U (Q ((df w.Zs (w.br.foldl aT []) (wide w.br) eA).map ag)):=by
 obtain⟨eA,r1,r2,r3⟩:=AX (gvR gv);refine⟨eA,r1,r2,r3, ?_⟩;have lr:eA.length=gv.length:=by rw[r2.length_eq];simp[gvR]
 have hr:∀l∈eA,0<=l.2/\l.2<w.Zs.length:=λl hl=>by
  obtain⟨t,ht,rfl⟩:=Gas.mp (r2.mem_iff.mp hl);exact hg t ht
 have b12:=W.b12;have hw:=dW (g:=gN 0) (f:=ZE (vE 0) (kE (E 2))) ZD (λenv=>∃y,env=[y]) (λt=>E t.2.2) w.br [J] ⟨J,rfl⟩ (by
  rintro t ht env ⟨y,rfl⟩;exact⟨_,rfl,⟨_,rfl⟩,.c,by simp[ZD],rfl⟩)
 have hc:=dW (g:=gN 0) (f:=aO (aa (ZE (vE 0) (kE (E 1))) (aa (ZE (vE 0) (kE (E 0))) aX))) ZD (λenv=>∃y,env=[y]) (λt=>mk2 (t.2.1,t.1)) gv [J] ⟨J,rfl⟩ (by
  rintro t ht env ⟨y,rfl⟩;exact⟨_,rfl,⟨_,rfl⟩,.c,by simp[ZD,mk2],rfl⟩)
 have e1:gv.map (λt=>mk2 (t.2.1,t.1))=(gvR gv).map mk2:=by unfold gvR;rw[GaN];rfl
 have e2:w.br.map (λt=>E t.2.2)=(w.br.map (·.2.2)).map E:=by rw[GaN];rfl
 rw[e1] at hc;rw[e2] at hw;have hm:mmD om (E 0) (Q ((w.br.map (·.2.2)).map E))=U ⟨.c,E (wide w.br)⟩:=by
  unfold mmD jy wide;simp only[Option.bind_some,G5];cases w.br.map (·.2.2)<;>rfl
 have hs:=si (ms:=gvR gv) (by simp[gvR];exact hl);rw[r1] at hs;obtain⟨y6,y7,y8,y9,e⟩:=pL hr (by lia) _ 0 [] J J J J rfl (by simp);exact M7 (Q1 b12) (by rw[Gae];lia) hw hm (by rw[Gae];lia) hc hs e (bW _)
abbrev Tg:=(Int×Int)×List (Int×Int)
def kN(st:List Tg):Rws:=st.map λe=>([Sum.inl e.1.1,Sum.inl e.1.2],Q (e.2.map mk2))
noncomputable def tk(os:List Zz)(t:Tr):Int×Int:=match os[t.1.toNat]? with
 |some o=>(o.ax,o.aw)
 |none=>(0,0)
noncomputable def Eb(st:List Tg)(k m:Int×Int):List Tg:=match st.findIdx? (λe=>decide (e.1=k)) with
 |some j=>st.set j (k,((st[j]?.map (·.2)).getD [])++[m])
 |none=>st++[(k,[m])]
def Js(k:Int×Int)(e:Tg):decide (([Sum.inl e.1.1,Sum.inl e.1.2]:List Key)=[Sum.inl k.1,Sum.inl k.2])=decide (e.1=k):=by
 obtain⟨⟨a,b⟩,l⟩:=e;obtain⟨c,d⟩:=k;simp
def Jt{st:List Tg}(hz:st.length<1000)(hm:∀e∈st,e.2.length<1000):Io (kN st) [Sum.inl k.1,Sum.inl k.2] (mk2 m)=U (kN (Eb st k m)):=by
 unfold Io Eb;have z:(kN st).length<af:=by unfold kN af;rw[Gae];lia
 rw[Gao z];have ef:(kN st).findIdx? (λp=>decide (p.1=[Sum.inl k.1,Sum.inl k.2]))=st.findIdx? (λe=>decide (e.1=k)):=by
  unfold kN;rw[GdS];congr 1
  funext e
  exact Js k e
 rw[ef];cases h:st.findIdx? (λe=>decide (e.1=k)) with
 |none=>
  unfold kN;simp_all
 |some j=>
  obtain⟨hj,_⟩:=Gcp.mp h;have e1:(kN st)[j]? =U ([Sum.inl st[j].1.1,Sum.inl st[j].1.2],Q (st[j].2.map mk2)):=by
   unfold kN;rw[Gap,Gac hj]
   rfl
  have z2:(st[j].2.map mk2).length<af:=by
   have:=hm st[j] (GaA hj);rw[Gae];unfold af;lia
  simp only[e1];rw[Gao z2];rw[Gac hj];unfold kN;simp
structure lH(os:List Zz)(pre:List Tr)(st:List Tg):Prop where
 nd:(st.map (·.1)).Nodup
 ms:∀e∈st,e.2=(pre.filter λt=>decide (tk os t=e.1)).map λt=>(t.2.1,t.2.2)
 cov:∀t∈pre,tk os t∈st.map (·.1)
 back:∀e∈st,∃t∈pre,tk os t=e.1
 ln:st.length<=pre.length
variable{os:List Zz}
def lH.step{pre:List Tr}{st:List Tg}(I:lH os pre st)(t:Tr):lH os (pre++[t]) (Eb st (tk os t) (t.2.1,t.2.2)):=by
 obtain⟨nd,ms,cov,back,ln⟩:=I;generalize hk:tk os t=k;have WB:∀q:Int×Int,((pre++[t]).filter λt=>decide (tk os t=q))=(pre.filter λt=>decide (tk os t=q))++(if k=q then[t] else[]):=λq=>by
  by_cases c:k=q
  .simp[hk,c]
  .simp[hk,c]
 unfold Eb;cases h:st.findIdx? (λe=>decide (e.1=k)) with
 |none=>
  have no:=List.findIdx?_eq_none_iff.mp h;have nk:k∉st.map (·.1):=λhm=>by
   obtain⟨e,he,ek⟩:=Gas.mp hm;have:=no e he;simp[ek] at this
  have pre0:(pre.filter λt=>decide (tk os t=k))=[]:=by
   rw[List.filter_eq_nil_iff];intro x hx;have:=cov x hx;simp;intro q;rw[q] at this;exact nk this
  refine⟨?_, ?_, ?_, ?_,by simp;lia⟩
  .rw[GaC,GaW];refine⟨nd,by simp, ?_⟩;intro a ha b hb;simp at hb;rw[hb]
   exactλq=>nk (q▸ha)
  .intro e he;rcases Gau.mp he with he|he
   .rw[WB,Gai (λq=>nk (Gas.mpr ⟨e,he,q.symm⟩)),Gbh];exact ms e he
   .simp at he;rw[he,WB,pre0];simp
  .intro x hx;rw[GaC];rcases Gau.mp hx with hx|hx
   .exact GbQ _ (cov x hx)
   .simp at hx;rw[hx,hk];simp
  .intro e he;rcases Gau.mp he with he|he
   .obtain⟨x,hx,q⟩:=back e he;exact⟨x,GbQ _ hx,q⟩
   .simp at he;rw[he];exact⟨t,by simp,hk⟩
 |some j=>
  obtain⟨hj,hp,_⟩:=Gcp.mp h;have ek:=Gaq hp;dsimp only;rw[Gac hj];have keys:(st.set j (k,(((U st[j]).map (·.2)).getD [])++[(t.2.1,t.2.2)])).map (·.1)=st.map (·.1):=by
   rw[List.map_set];have:k=(st.map (·.1))[j]'(by simpa using hj):=by rw[Gca,ek]
   conv=>lhs;arg 3;rw[this]
   exact List.set_getElem_self _
  have mem:∀e∈st.set j (k,(((U st[j]).map (·.2)).getD [])++[(t.2.1,t.2.2)]),e=(k,st[j].2++[(t.2.1,t.2.2)])\/(e∈st/\e.1≠k):=by
   intro e he;obtain⟨i,hi,rfl⟩:=GbB he;have xb :i<st.length:=by simpa using hi
   by_cases c:j=i
   .subst c;simp
   .right
    rw[List.getElem_set_ne c];refine⟨GaA xb,λq=>c ?_⟩;have e1:(st.map (·.1))[j]'(by simpa using hj)=(st.map (·.1))[i]'(by simpa using xb):=by rw[Gca,Gca,ek,q]
    exact(List.getElem_inj nd).mp e1
  refine⟨by rw[keys];exact nd, ?_, ?_, ?_,by simp;lia⟩
  .intro e he;rcases mem e he with q| ⟨q1,q2⟩
   .rw[q];have:=ms st[j] (GaA hj);rw[ek] at this;rw[WB,Gao rfl,GaC,<-this]
    rfl
   .rw[WB,Gai (λz=>q2 z.symm),Gbh];exact ms e q1
  .intro x hx;rw[keys];rcases Gau.mp hx with hx|hx
   .exact cov x hx
   .simp at hx;rw[hx,hk,<-ek];exact Gas.mpr ⟨_,GaA hj,rfl⟩
  .intro e he;rcases mem e he with q| ⟨q1,q2⟩
   .rw[q];exact⟨t,by simp,hk⟩
   .obtain⟨x,hx,q⟩:=back e q1;exact⟨x,GbQ _ hx,q⟩
def lH.SW{pre:List Tr}{st:List Tg}{e:Tg}(I:lH os pre st)(he:e∈st):e.2.length<=pre.length:=by
 rw[I.ms e he,Gae];exact GbL _ _
def M8{eA:Rws}{OD:D}(hO:atD Zq n=U OD)(im:OD.imm=O)(h1:ixD OD (E 1)=U (E g))(h2:ixD OD (E 2)=U (E s))(hs:Io eA [Sum.inl g,Sum.inl s] (N [E h,E a])=U yr):
  bL [U (Z (N [N A,N B,N C,N Zq])),U (Z (N G)),J,U (Z (N [E n,E h,E a])),x4] eA=U ([U (Z (N [N A,N B,N C,N Zq])),U (Z (N G)),J,U (Z (N [E n,E h,E a])),U (Z OD)],yr):=by
 unfold bL;simp[hO,h1,h2,hs]
theorem uT{w:World}(W:aH w):∀gv pre st x3 x4,bQ w.Zs.length gv->lH w.Zs pre st->pre.length+gv.length<64->∃y3 y4 xJ,lH w.Zs (pre++gv) xJ /\
  qW 3 bL (gv.map ZD) [U (Z (N [N A,N B,N C,N (w.Zs.map aj)])),U (Z (N G)),J,x3,x4] (kN st)=U ([U (Z (N [N A,N B,N C,N (w.Zs.map aj)])),U (Z (N G)),J,y3,y4],kN xJ)
 |[],pre,st,x3,x4,_,I,_=> ⟨x3,x4,st,by rw[Gbh];exact I,by simp⟩
 |t::gv,pre,st,x3,x4,hg,I,hl=>by
  rw[GaF] at hl;have g0:=hg t Gaj;obtain⟨n,hn⟩:=GaH g0.1;have xh :n<w.Zs.length:=by lia
  have hO:atD (w.Zs.map aj) t.1=U (aj w.Zs[n]):=by
   rw[hn,bO,Gap,Gac xh]
   rfl
  have ok:=W.oo w.Zs[n] (GaA xh);have ek:tk w.Zs t=(w.Zs[n].ax,w.Zs[n].aw):=by
   unfold tk;simp_all
  have ln:=I.ln;have sd:=Jt (st:=st) (k:=tk w.Zs t) (m:=(t.2.1,t.2.2)) (by lia) (λe he=>by have:=I.SW he;lia);have ev:=M8 (A:=A) (B:=B) (C:=C) (G:=G) (x4:=x4) hO (cF _ ok.ti) rfl rfl (by rw[ek] at sd;exact sd);obtain⟨y3,y4,xJ,I',e⟩:=uT W gv (pre++[t]) _ (U (Z (ZD t))) (U (Z (aj w.Zs[n]))) (λx hx=>hg x (Gaf _ hx)) (I.step t) (by simp;lia);refine⟨y3,y4,xJ,by rw[Gbd] at I';exact I', ?_⟩;rw[Gay];have td:N [E t.1,E t.2.1,E t.2.2]=ZD t:=rfl;rw[td] at ev;rw[ek] at e;simp only[qW,GaK,GaL,ev];exact e
def Ge(ig:aA G=O)(h:qW 3 bL G [U (Z (N [N A,N B,N C,N Zq])),U (Z (N G)),J,J,J] []=U ([U (Z (N [N A,N B,N C,N Zq])),U (Z (N G)),J,y3,y4],kv)):cC [N [N A,N B,N C,N Zq],N G]=U (ε kv):=by
 refine aL rfl ?_;unfold dm;simp[ig,h]
def M9{w:World}{gv:List Tr}(W:aH w)(hg:bQ w.Zs.length gv)(hl:gv.length<64):∃st,lH w.Zs gv st/\cC [aE w,N (gv.map ZD)]=U (ε (kN st)):=by
 obtain⟨y3,y4,st,I,e⟩:=uT W gv [] [] J J hg ⟨by simp,by simp,by simp,by simp,by simp⟩ (by simpa using hl);exact⟨st,by simpa using I,Ge (bJ gv) e⟩
def k9(ns:List Int):List Int:=(bG ((ddF ns).map E)).map unI
def jM(ns:List Int):(k9 ns).Pairwise (λa b=>a<b)/\(∀x,x∈k9 ns↔x∈ns)/\(k9 ns).length<=ns.length:=by
 obtain⟨S,h1,h2,h3,h4⟩:=Jo ns;have e:k9 ns=S:=by
  unfold k9;rw[h1,GaN]
  conv=>rhs;rw[<-GbP S]
  exact GaO λ_ _=>rfl
 rw[e];exact⟨h2,h3,h4⟩
noncomputable def jN:Cap->Int->Int->Bool
 | .flat H _,h,a=>decide (h -H<a)&&decide (a<=h)
 | .kilo H _ _,h,a=>decide (h -H<a)&&decide (a<=h)
 | .ever _,h,a=>decide (a<=h)
def jq(c:Cap)(ms:List (Int×Int))(h:Int):Int:=(ms.map λp=>if jN c h p.1 then p.2 else 0).sum
noncomputable def oN:Cap->D
 | .flat H _=> E H
 | .kilo H _ _=> E H
 | .ever _=> ζ
def SX(ms:List (Int×Int)):∃H:Int,∀p∈ms,∀q∈ms,q.1 -H<p.1:=by
 have:∃B:Int,∀p∈ms,-B<p.1/\p.1<B:=by
  induction ms with
  |nil=>exact⟨0,by simp⟩
  |cons p ms ih=>
   obtain⟨B,hB⟩:=ih;refine⟨B.natAbs+p.1.natAbs+1,λq hq=> ?_⟩;rcases Gat.mp hq with rfl|hq
   .lia
   .have:=hB q hq;lia
 obtain⟨B,hB⟩:=this;refine⟨2*B,λp hp q hq=> ?_⟩;have:=hB p hp;have:=hB q hq;lia
def Ju{ms:List (Int×Int)}(ok:lZ c)(hl:ms.length<64):jV [Q (ms.map mk2),oN c]=U (Q (((k9 (ms.map (·.1))).map λh=>(h,jq c ms h)).map mk2)):=by
 obtain⟨h1,h2,h3⟩:=jM (ms.map (·.1));have fin:∀(H:Int),(∀h,h∈ms.map (·.1)->∀p∈ms,wt H h p=if jN c h p.1 then p.2 else 0)->M4 ms H (k9 (ms.map (·.1)))=(k9 (ms.map (·.1))).map λh=>(h,jq c ms h):=λH e=>by
  refine GaO λh hh=> ?_;unfold W jq;rw[GaO λp hp=>e h ((h2 h).mp hh) p hp]
 have lim:∀(H h:Int) (p:Int×Int),wt H h p=if(decide (h -H<p.1)&&decide (p.1<=h)) then p.2 else 0:=λH h p=>by
  unfold wt;simp_all
 cases c with
 |flat H t=>
  rw[<-fin H (λh _ p _=>lim H h p)];exact sr (.inl ⟨rfl,ok.1⟩) (List.Perm.refl _) hl h1 h2
 |kilo H t p=>
  rw[<-fin H (λh _ p _=>lim H h p)];exact sr (.inl ⟨rfl,ok.1⟩) (List.Perm.refl _) hl h1 h2
 |ever t=>
  obtain⟨H,hH⟩:=SX ms;rw[<-fin H (λh hh p hp=>by
   obtain⟨q,hq,rfl⟩:=Gas.mp hh;rw[lim];have:=hH p hp q hq;simp[jN,this])]
  exact sr (.inr ⟨rfl,hH⟩) (List.Perm.refl _) hl h1 h2
def dY(ws:List Tr)(c:Cap)(g s k:Int)(r:Int×Int):List Flt:=match cG c (wgt g r.1 ws J) with
 |some top=>if r.2>top then[("cap",[g,s,k,r.1,r.2,top])] else[]
 |none=>[]
def jX(ws:List Tr)(g s k:Int)(c:Cap)(ms:List (Int×Int)):List Flt:=((k9 (ms.map (·.1))).map λh=>(h,jq c ms h)).flatMap (dY ws c g s k)
def gJ(ws:List Tr)(g s:Int)(ms:List (Int×Int)):Nat->List Cap->List Flt
 |_,[]=>[]
 |k,c::cs=>jX ws g s (k:Int) c ms++gJ ws g s ms (k+1) cs
def jY(ws:List Tr)(c:Cap)(g s k:Int)(r:Int×Int):(dY ws c g s k r).length<=1:=by
 unfold dY;split
 .split<;>simp
 .simp
theorem nQ{α β:Type}(f:α->List β)(h:∀a,(f a).length<=1):∀l:List α,(l.flatMap f).length<=l.length
 |[]=>by simp
 |a::l=>by
  have h1:=h a;have h2:=nQ f h l;simp;simp at h2;lia
def sx(ws:List Tr)(g s k:Int)(c:Cap)(ms:List (Int×Int)):(jX ws g s k c ms).length<=ms.length:=by
 unfold jX;have h1:=nQ _ (jY ws c g s k) ((k9 (ms.map (·.1))).map λh=>(h,jq c ms h));have h2:=(jM (ms.map (·.1))).2.2;rw[Gae] at h1 h2;lia
theorem lu(ws:List Tr)(g s:Int)(ms:List (Int×Int)):∀k cs,(gJ ws g s ms k cs).length<=cs.length*ms.length
 |_,[]=>by simp[gJ]
 |k,c::cs=>by
  have h1:=sx ws g s (k:Int) c ms;have h2:=lu ws g s ms (k+1) cs;unfold gJ;rw[Gal,GaF];lia
def Gf(to:Option Int)(g s k r1 r2:Int):List D:=match to with
 |some top=>if r2>top then[N [X "cap",E g,E s,E k,E r1,E r2,E top]] else[]
 |none=>[]
def Q6{W F:List D}{T0:D}(ew:dA [N W,E g,E r1]=U (bX wo))(eb:j5 [cd,bX wo]=U (bX to))(hz:F.length<100000):
  fg [e0,U (Z (N W)),e2,U (Y (Q F)),U (Z (N [E g,E s])),e5,U (Z (E g)),U (Z (E k)),U (Z cd),e9,U (Z (N [E r1,E r2])),eN]=
   U (P [e0,U (Z (N W)),e2,U (Y (Q (F++Gf to g s k r1 r2))),U (Z (N [E g,E s])),e5,U (Z (E g)),U (Z (E k)),U (Z cd),e9,U (Z (N [E r1,E r2])),U (Z (bX to))]):=by
 have z:F.length<16777216:=by lia
 have xK :=aV (cn wo);have rt:=aV (cn to);refine sqn (by simp[ew,xK,eb,rt];rfl) ?_;cases to with
 |none=>simp[Gf]
 |some top=>
  by_cases c:r2>top
  .have c' :=c;simp[c',z,af,Gf]
  .have c' :=c;simp[c',Gf]
theorem B1{ws:List Tr}(ok:lZ c):∀(rs:List (Int×Int)) (fs:List Flt) (eI eN:Os),fs.length+rs.length<100000->∃eP eV,
  Zw (gN 10) fg (rs.map mk2) [e0,U (Z (N (ws.map ZD))),e2,U (Y (Q (fs.map ag))),U (Z (N [E g,E s])),e5,U (Z (E g)),U (Z (E k)),U (Z (bB c)),e9,eI,eN]=
   U (P [e0,U (Z (N (ws.map ZD))),e2,U (Y (Q ((fs++rs.flatMap (dY ws c g s k)).map ag))),U (Z (N [E g,E s])),e5,U (Z (E g)),U (Z (E k)),U (Z (bB c)),e9,eP,eV])
 |[],fs,eI,eN,_=> ⟨eI,eN,by simp⟩
 |r::rs,fs,eI,eN,hz=>by
  rw[GaF] at hz;have ew:=iI (ws:=ws) (g:=g) (h:=r.1);have eb:=Cq (w:=wgt g r.1 ws J) ok;have ev:=Q6 (e0:=e0) (e2:=e2) (e5:=e5) (e9:=e9) (eN:=eN) (F:=fs.map ag) (T0:= ζ) (s:=s) (k:=k) (r2:=r.2) ew eb (by rw[Gae];lia);have eg:Gf (cG c (wgt g r.1 ws J)) g s k r.1 r.2=(dY ws c g s k r).map ag:=by
   unfold dY Gf;cases cG c (wgt g r.1 ws J) with
   |none=>rfl
   |some top=>
    dsimp only;split<;>rfl
  rw[eg,<-GaC] at ev;have l1:=jY ws c g s k r;obtain⟨eP,eV,e⟩:=B1 ok rs (fs++dY ws c g s k r) (U (Z (mk2 r))) (U (Z (bX (cG c (wgt g r.1 ws J))))) (by rw[Gal];lia);refine⟨eP,eV, ?_⟩;rw[Gay,GaY,<-Gbd];have e2:N [E r.1,E r.2]=mk2 r:=rfl;rw[e2] at ev;simp only[Zw,gN,GaK,GaL,Option.bind_some,ev];exact e
def Q7(hs:jV [Q Zr,oN c]=U (Q R))(h:Zw (gN 10) fg R [e0,e1,e2,e3,e4,U (Z (Q Zr)),e6,e7,U (Z (bB c)),U (Z (oN c)),eI,eN]=U (P e')):
  cY [e0,e1,e2,e3,e4,U (Z (Q Zr)),e6,e7,U (Z (bB c)),x9,eI,eN]=U (P e'):=by
 refine sqn (e:=[e0,e1,e2,e3,e4,U (Z (Q Zr)),e6,e7,U (Z (bB c)),U (Z (oN c)),eI,eN]) ?_ ?_
 .cases c<;>simp[bB,oN]
 .simp_all
theorem uU{ws:List Tr}{ms:List (Int×Int)}(hm:ms.length<64):∀cs k fs x7 x8 x9 eI eN,(∀c∈cs,lZ c)->fs.length+cs.length*ms.length<50000->∃y7 y8 y9 eP eV,
  Zw (gT [7,8]) cY (fE k (cs.map bB)) [e0,U (Z (N (ws.map ZD))),e2,U (Y (Q (fs.map ag))),U (Z (N [E g,E s])),U (Z (Q (ms.map mk2))),U (Z (E g)),x7,x8,x9,eI,eN]=
   U (P [e0,U (Z (N (ws.map ZD))),e2,U (Y (Q ((fs++gJ ws g s ms k cs).map ag))),U (Z (N [E g,E s])),U (Z (Q (ms.map mk2))),U (Z (E g)),y7,y8,y9,eP,eV])
 |[],k,fs,x7,x8,x9,eI,eN,_,_=> ⟨x7,x8,x9,eI,eN,by simp[gJ]⟩
 |c::cs,k,fs,x7,x8,x9,eI,eN,ok,hz=>by
  have ok0:=ok c Gaj;rw[GaF] at hz;have es:=Ju ok0 hm;have hl:=(jM (ms.map (·.1))).2.2;rw[Gae] at hl;obtain⟨eP,eV,e⟩:=B1 (ws:=ws) (g:=g) (s:=s) (k:=(k:Int)) (e0:=e0) (e2:=e2) ok0 ((k9 (ms.map (·.1))).map λh=>(h,jq c ms h)) fs eI eN (by rw[Gae];lia);have ev:=Q7 (x9:=x9) es e;have lz:=sx ws g s (k:Int) c ms;obtain⟨z7,z8,z9,xX,yV,e'⟩:=uU hm cs (k+1) (fs++jX ws g s (k:Int) c ms) (U (Z (E (k:Int)))) (U (Z (bB c))) (U (Z (oN c))) eP eV (λx hx=>ok x (Gaf _ hx)) (by rw[Gal];lia);refine⟨z7,z8,z9,xX,yV, ?_⟩
  conv=>rhs;unfold gJ
  rw[<-Gbd];show Zw (gT [7,8]) cY (N [E (k:Int),bB c]::fE (k+1) (cs.map bB)) _=_;simp only[Zw,gT,gNs,GaK,GaL,Option.bind_some,ev];exact e'
def tgF(ss:List fU)(ws:List Tr)(e:Tg):List Flt:=gJ ws e.1.1 e.1.2 e.2 0 ((ss[e.1.2.toNat]?.map (·.ay)).getD [])
def SY{W:List D}{sz:D}(hS:atD B s=U (N [nm,sz,N Cs,yg]))
  (h:Zw (gT [7,8]) cY (fE 0 Cs) [U (Z (N [N A,N B,N C,N Zq])),U (Z (N W)),e2,U (Y (Q F)),U (Z (N [E g,E s])),U (Z (Q Zr)),U (Z (E g)),x7,x8,x9,eI,eN]=U (P [U (Z (N [N A,N B,N C,N Zq])),U (Z (N W)),e2,U (Y (Q F')),U (Z (N [E g,E s])),U (Z (Q Zr)),U (Z (E g)),y7,y8,y9,eP,eV])):
  fh [U (Z (N [N A,N B,N C,N Zq])),U (Z (N W)),e2,U (Y (Q F)),U (Z (N [E g,E s])),U (Z (Q Zr)),x6,x7,x8,x9,eI,eN]=U (P [U (Z (N [N A,N B,N C,N Zq])),U (Z (N W)),e2,U (Y (Q F')),U (Z (N [E g,E s])),U (Z (Q Zr)),U (Z (E g)),y7,y8,y9,eP,eV]):=by
 refine sqn (e:=[U (Z (N [N A,N B,N C,N Zq])),U (Z (N W)),e2,U (Y (Q F)),U (Z (N [E g,E s])),U (Z (Q Zr)),U (Z (E g)),x7,x8,x9,eI,eN]) (by simp) ?_;simp[hS,h]
theorem Ec{w:World}{ws:List Tr}(W:aH w):∀(st:List Tg) (fs:List Flt) (x4 x5 x6 x7 x8 x9 eI eN:Os),(∀e∈st,0<=e.1.2/\e.1.2<w.ar.length/\e.2.length<64)->fs.length+st.length*256<40000->∃y4 y5 y6 y7 y8 y9 eP eV,
  Zw (gT [4,5]) fh (cP (kN st)) [U (Z (N [N A,N (w.ar.map aI),N C,N Zq])),U (Z (N (ws.map ZD))),e2,U (Y (Q (fs.map ag))),x4,x5,x6,x7,x8,x9,eI,eN]=
   U (P [U (Z (N [N A,N (w.ar.map aI),N C,N Zq])),U (Z (N (ws.map ZD))),e2,U (Y (Q ((fs++st.flatMap (tgF w.ar ws)).map ag))),y4,y5,y6,y7,y8,y9,eP,eV])
 |[],fs,x4,x5,x6,x7,x8,x9,eI,eN,_,_=> ⟨x4,x5,x6,x7,x8,x9,eI,eN,by simp[kN,cP]⟩
 |e::st,fs,x4,x5,x6,x7,x8,x9,eI,eN,he,hz=>by
  rw[GaF] at hz;obtain⟨s0,s1,ml⟩:=he e Gaj;obtain⟨n,hn⟩:=GaH s0;have xh :n<w.ar.length:=by lia
  have hS:atD (w.ar.map aI) e.1.2=U (N [X w.ar[n].name,N ((w.ar[n].part::w.ar[n].more).map E),N (w.ar[n].ay.map bB),E w.ar[n].young]):=by
   rw[hn,bO,Gap,Gac xh]
   rfl
  have so:=W.so w.ar[n] (GaA xh);have et:tgF w.ar ws e=gJ ws e.1.1 e.1.2 e.2 0 w.ar[n].ay:=by
   unfold tgF;rw[hn,Gbw,Gac xh]
   rfl
  have cl:=so.cl;have lz:=lu ws e.1.1 e.1.2 e.2 0 w.ar[n].ay;have lz2:w.ar[n].ay.length*e.2.length<=4*64:=Nat.mul_le_mul cl (by lia);obtain⟨y7,y8,y9,eP,eV,ec⟩:=uU (e0:=U (Z (N [N A,N (w.ar.map aI),N C,N Zq]))) (e2:=e2) ml w.ar[n].ay 0 fs x7 x8 x9 eI eN so.ok (by lia);have ev:=SY (x6:=x6) hS ec;rw[<-et] at ev lz;obtain⟨z4,z5,z6,z7,z8,z9,xX,yV,e'⟩:=Ec W st (fs++tgF w.ar ws e) (U (Z (N [E e.1.1,E e.1.2]))) (U (Z (Q (e.2.map mk2)))) (U (Z (E e.1.1))) y7 y8 y9 eP eV (λx hx=>he x (Gaf _ hx)) (by rw[Gal];lia);refine⟨z4,z5,z6,z7,z8,z9,xX,yV, ?_⟩;rw[GaY,<-Gbd];have ei:cP (kN (e::st))=N [N [E e.1.1,E e.1.2],Q (e.2.map mk2)]::cP (kN st):=rfl;rw[ei];simp only[Zw,gT,gNs,GaK,GaL,Option.bind_some,ev];exact e'
def Ma{W:List D}{kv:Rws}(hm:cC [N [N A,N B,N C,N Zq],N G]=U (ε kv))
  (h:Zw (gT [4,5]) fh (cP kv) [U (Z (N [N A,N B,N C,N Zq])),U (Z (N W)),U (Z (N G)),U (Y (Q [])),J,J,J,J,J,J,J,J]=U (P [U (Z (N [N A,N B,N C,N Zq])),U (Z (N W)),U (Z (N G)),U (Y (Q F)),y4,y5,y6,y7,y8,y9,eP,eV]))(im:aA F=O):
  fO [N [N A,N B,N C,N Zq],N W,N G]=U (Q F):=by
 refine aL rfl ?_;refine sqn (by simp;rfl) ?_;simp[hm,h,im]
theorem lx{α β:Type}(f:α->List β)(ZU:Nat):∀l:List α,(∀a∈l,(f a).length<=ZU)->(l.flatMap f).length<=l.length*ZU
 |[],_=>by simp
 |a::l,h=>by
  have h1:=h a Gaj;have h2:=lx f ZU l λx hx=>h x (Gaf _ hx);rw[GaY,Gal,GaF];lia
def T3{w:World}{ws gv:List Tr}(W:aH w)(hg:bQ w.Zs.length gv)(hl:gv.length<64):∃st,lH w.Zs gv st/\fO [aE w,N (ws.map ZD),N (gv.map ZD)]=U (Q ((st.flatMap (tgF w.ar ws)).map ag))/\(st.flatMap (tgF w.ar ws)).length<=20000:=by
 obtain⟨st,I,em⟩:=M9 W hg hl;have ln:=I.ln;have he:∀e∈st,0<=e.1.2/\e.1.2<w.ar.length/\e.2.length<64:=λe yu=>by
  obtain⟨t,ht,ek⟩:=I.back e yu;have g0:=hg t ht;obtain⟨n,hn⟩:=GaH g0.1;have xh :n<w.Zs.length:=by lia
  have ok:=W.oo w.Zs[n] (GaA xh);have:tk w.Zs t=(w.Zs[n].ax,w.Zs[n].aw):=by
   unfold tk;simp_all
  rw[this] at ek;rw[<-ek];have:=I.SW yu;exact⟨ok.s0,ok.s1,by lia⟩
 obtain⟨y4,y5,y6,y7,y8,y9,eP,eV,e⟩:=Ec W st [] J J J J J J J J he (by simp;lia);refine⟨st,I,Ma em e (bW _), ?_⟩;have h1:=lx (tgF w.ar ws) 256 st (λe yu=>by
  have h2:=lu ws e.1.1 e.1.2 e.2 0 ((w.ar[e.1.2.toNat]?.map (·.ay)).getD []);have h3:((w.ar[e.1.2.toNat]?.map (·.ay)).getD []).length<=4:=by
   cases h:w.ar[e.1.2.toNat]? with
   |none=>simp
   |some s=>exact(W.so s (Gax h)).cl
  have h4:=(he e yu).2.2;have h5:=Nat.mul_le_mul h3 (GcM h4);unfold tgF;lia)
 lia
def c6(w:World)(ws:List Tr)(t:Tr):List Flt:=match w.Zs[t.1.toNat]? with
 |some o=>match w.ar[o.aw.toNat]?,w.bN[o.ax.toNat]? with
  |some s,U g=>(jL o s g.2 ws t).map λk=>(k,[t.1,t.2.1])
  |_,_=>[]
 |none=>[]
def sC{w:World}{ws:List Tr}{t:Tr}(W:aH w)(h0:0<=t.1)(h1:t.1<w.Zs.length):dZ [aE w,N (ws.map ZD),ZD t]=U (Q ((c6 w ws t).map ag))/\(c6 w ws t).length<=5:=by
 obtain⟨n,hn⟩:=GaH h0;have xh :n<w.Zs.length:=by lia
 have ok:=W.oo w.Zs[n] (GaA xh);obtain⟨m,hm⟩:=GaH ok.s0;have sl:=ok.s1;have yI :m<w.ar.length:=by lia
 obtain⟨g,hg⟩:=GaH ok.g0;have gl:=ok.g1;have hg' :g<w.bN.length:=by lia
 have hO:atD (w.Zs.map aj) t.1=U (aj w.Zs[n]):=by rw[hn,bO,Gap,Gac xh];rfl
 have hS:atD (w.ar.map aI) w.Zs[n].aw=U (aI w.ar[m]):=by rw[hm,bO,Gap,Gac yI];rfl
 have hG:atD (w.bN.map bx) w.Zs[n].ax=U (bx w.bN[g]):=by rw[hg,bO,Gap,Gac hg'];rfl
 have e:=PX (C:=w.br.map ZD) (ws:=ws) hO ok.du hS (W.so _ (GaA yI)) hG (cF _ ok.ti);have el:c6 w ws t=(jL w.Zs[n] w.ar[m] w.bN[g].2 ws t).map λk=>(k,[t.1,t.2.1]):=by
  unfold c6;simp_all
 constructor
 .rw[el,GaN];exact e
 .rw[el,Gae];unfold jL;have h1:=cI (bC w.Zs[n].aP t.2.1) "astray";have h2:=cI (decide (w.Zs[n].most<t.2.2)) "most";have h3:=cI (decide (t.2.2<1)||decide (¬t.2.2%w.ar[m].part=0)) "part";have h4:=cI (w.ar[m].ay.any bH&&(wgt w.Zs[n].ax t.2.1 ws J).isNone) "weight";have h5:=cI (decide (t.2.1<w.bN[g].2+w.ar[m].young)) "young";simp only[Gal];lia
def Q8{e0 e2:Os}{F R:List D}(h:dZ [wd,Xs,gd]=U (Q R))(hz:F.length+R.length<100000):
  gD [U (Z wd),e1,U (Z Xs),e3,U (Y (Q F)),U (Z gd)]=U (P [U (Z wd),e1,U (Z Xs),e3,U (Y (Q (F++R))),U (Z gd)]):=by
 have z:F.length+R.length<=16777216:=by lia
 unfold gD;simp[h,z,af]
theorem uV{w:World}{ws:List Tr}(W:aH w):∀gv fs x5,bQ w.Zs.length gv->fs.length+5*gv.length<100000->∃y5,
  Zw (gN 5) gD (gv.map ZD) [U (Z (aE w)),e1,U (Z (N (ws.map ZD))),e3,U (Y (Q (fs.map ag))),x5]=U (P [U (Z (aE w)),e1,U (Z (N (ws.map ZD))),e3,U (Y (Q ((fs++gv.flatMap (c6 w ws)).map ag))),y5])
 |[],fs,x5,_,_=> ⟨x5,by simp⟩
 |t::gv,fs,x5,hg,hz=>by
  rw[GaF] at hz;have g0:=hg t Gaj;obtain⟨e,l5⟩:=sC W (ws:=ws) g0.1 g0.2;have ev:=Q8 (e0:=J) (e1:=e1) (e2:=J) (e3:=e3) (F:=fs.map ag) e (by rw[Gae,Gae];lia);rw[<-GaC] at ev;obtain⟨y5,e'⟩:=uV W gv (fs++c6 w ws t) (U (Z (ZD t))) (λx hx=>hg x (Gaf _ hx)) (by rw[Gal];lia);refine⟨y5, ?_⟩;rw[Gay,GaY,<-Gbd];simp only[Zw,gN,GaK,GaL,Option.bind_some,ev];exact e'
theorem B2:∀(a b:List Int),lQ (a.map E) (b.map E)=O
 |[],b=>by cases b<;>rfl
 |x::a,[]=>rfl
 |x::a,y::b=>by
  rw[Gay,Gay];unfold lQ;split
  .exact B2 a b
  .rfl
def B3(fs:List Flt):ZA (fs.map ag)=O:=by
 have h1:(fs.map ag).all (lF 2)=O:=by
  rw[GbI,Gar];intro p _;show((tyD (X p.1)==2)&&(p.2.map E).all lE)=O;rw[GbI,Gah];exact⟨rfl,Gar.mpr λ_ _=>rfl⟩
 have h2:((fs.map ag).all λx=>(fs.map ag).all λy=>Ah x y)=O:=by
  rw[GbI,Gar];intro p _;simp only[Gcw];rw[GbI,Gar];intro q _;show lQ (X p.1::p.2.map E) (X q.1::q.2.map E)=O;unfold lQ;split
  .exact B2 _ _
  .rfl
 unfold ZA;rw[h1,h2];simp
theorem md:∀(a b:List Int),(a.map E).map b7=(b.map E).map b7->a=b
 |[],[],_=>rfl
 |[],_::_,h=>by simp at h
 |_::_,[],h=>by simp at h
 |x::a,y::b,h=>by
  injection h with h1 h2
  have h3:[1,x]=[1,y]:=h1;simp at h3;rw[h3,md a b h2]
theorem Ed:∀(a b:List Nat),a.map Int.ofNat=b.map Int.ofNat->a=b
 |[],[],_=>rfl
 |[],_::_,h=>by simp at h
 |_::_,[],h=>by simp at h
 |x::a,y::b,h=>by
  injection h with h1 h2
  rw[Int.ofNat.inj h1,Ed a b h2]
def str_inj{a b:Str}(h:a.cps.toList.map Int.ofNat=b.cps.toList.map Int.ofNat):a=b:=by
 have h2:=Ed _ _ h;obtain⟨a⟩:=a;simp_all
def wB(h:DL.code (ag f)=DL.code (ag g)):f=g:=by
 have h' :=h;injection h' with h1 h2
 have h3:=h1;injection h3 with _ h4
 exact Prod.ext (str_inj h4) (md _ _ h2)
def unF:D->Flt
 | N (X k::ds)=>(k,ds.map unI)
 |_=>("",[])
def Jv(f:Flt):unF (ag f)=f:=by
 show(f.1,(f.2.map E).map unI)=f;rw[GaN];have:f.2.map (unI∘E)=f.2:=by
  conv=>rhs;rw[<-GbP f.2]
  exact GaO λ_ _=>rfl
 rw[this]
def pM(fs:List Flt):List Flt:=(bG (fs.map ag)).map unF
def mT(fs:List Flt):(fs.map ag).map unF=fs:=by
 rw[GaN]
 conv=>rhs;rw[<-GbP fs]
 exact GaO λf _=>Jv f
def sD(fs:List Flt):bG (fs.map ag)=(pM fs).map ag:=by
 unfold pM;rw[GaN]
 conv=>lhs;rw[<-GbP (bG (fs.map ag))]
 refine GaO λx hx=> ?_;obtain⟨f,_,rfl⟩:=Gas.mp ((bT _).mem_iff.mp hx);simp only[Gcw,Jv,id]
def iL(fs:List Flt):(pM fs).Perm fs:=by
 have:=(bT (fs.map ag)).map unF;rw[mT] at this;exact this
def nR(fs:List Flt):fc ((pM fs).map ag):=by
 rw[<-sD];exact cR _
def Cr{a b:List Flt}(hp:a.Perm b)(h1:fc (a.map ag))(h2:fc (b.map ag)):a=b:=by
 have e:=gr (hp.map ag) h1 h2 (λx hx y hy hc=>by
  obtain⟨f,_,rfl⟩:=Gas.mp hx;obtain⟨g,_,rfl⟩:=Gas.mp hy;rw[wB hc])
 have:=congrArg (List.map unF) e;rw[mT,mT] at this;exact this
def Ct(fs:List Flt)(hz:fs.length<64):Zy [Q (fs.map ag)]=U ⟨.tn,Q ((pM fs).map ag)⟩:=by
 have z:(fs.map ag).length<64:=by rw[Gae];exact hz
 unfold Zy one jy;simp only[Option.bind_some];rw[B3,GaD z,sD]
 rfl
variable{F1 F2 F3:List D}
def Cu{W:List D}(h0:F1++F2++F3=F0)(h1:fO [wd,N W,N G]=U (Q F1))(h2:fP [wd,N G]=U (Q F2))(h3:dB [wd,N G]=U (Q F3))(z:F1.length+F2.length+F3.length<100000)
  (hl:Zw (gN 5) gD G [U (Z wd),U (Z (N [N W,N G])),U (Z (N W)),U (Z (N G)),U (Y (Q F0)),J]=U (P [U (Z wd),U (Z (N [N W,N G])),U (Z (N W)),U (Z (N G)),U (Y (Q F)),y5]))(hs:Zy [Q F]=U ⟨.tn,Q R⟩)(iw:aA W=O)(ig:aA G=O)(ir:aA R=O):
  jJ [wd,N [N W,N G]]=U (Q R):=by
 have z1:F1.length+F2.length<=16777216:=by lia
 have z2:F1.length+F2.length+F3.length<=16777216:=by lia
 refine aL rfl ?_;refine sqn (by simp;rfl) ?_;refine sqn (by simp;rfl) ?_;refine sqn (e:=[U (Z wd),U (Z (N [N W,N G])),U (Z (N W)),U (Z (N G)),U (Y (Q F0)),J]) (by rw[<-h0];simp[h1,h2,h3,z1,z2,af]) ?_;simp[hl,hs,ir]
theorem sE(os:List Zz)(gs:List Tr)(w:Int):∀eA,eA.length<64->(df os gs w eA).length<=64*eA.length
 |[],_=>by simp[df]
 |r::rs,h=>by
  rw[GaF] at h;have h1:=oM os gs w r rs;have h2:=sE os gs w rs (by lia);unfold df;rw[Gal,GaF];lia
def B4{w:World}{ws gv:List Tr}(W:aH w)(hg:bQ w.Zs.length gv)(hl:gv.length<64):∃st eA,lH w.Zs gv st/\eA.Perm (gvR gv)/\bG ((gvR gv).map mk2)=eA.map mk2/\(eA.Pairwise λa b=>a.1<=b.1)/\
  ((st.flatMap (tgF w.ar ws)++df w.Zs (w.br.foldl aT []) (wide w.br) eA++twF (gv.foldl (bf w.Zs) [])++gv.flatMap (c6 w ws)).length<64->jJ [aE w,N [N (ws.map ZD),N (gv.map ZD)]]=U (Q ((pM (st.flatMap (tgF w.ar ws)++df w.Zs (w.br.foldl aT []) (wide w.br) eA++twF (gv.foldl (bf w.Zs) [])++gv.flatMap (c6 w ws))).map ag)))/\
  (st.flatMap (tgF w.ar ws)++df w.Zs (w.br.foldl aT []) (wide w.br) eA++twF (gv.foldl (bf w.Zs) [])++gv.flatMap (c6 w ws)).length<100000:=by
 obtain⟨st,I,h1,z1⟩:=T3 (ws:=ws) W hg hl;obtain⟨eA,r1,r2,r3,h2⟩:=SV W hg hl;obtain⟨h3,z3⟩:=LZ W hg hl;have lr:eA.length=gv.length:=by rw[r2.length_eq];simp[gvR]
 have z2:=sE w.Zs (w.br.foldl aT []) (wide w.br) eA (by lia);have z3' :(twF (gv.foldl (bf w.Zs) [])).length<=64:=by
  unfold twF
  grind
 have z4:(gv.flatMap (c6 w ws)).length<=gv.length*5:=lx _ 5 gv λt ht=>(sC W (hg t ht).1 (hg t ht).2).2;obtain⟨y5,e⟩:=uV W (ws:=ws) gv (st.flatMap (tgF w.ar ws)++df w.Zs (w.br.foldl aT []) (wide w.br) eA++twF (gv.foldl (bf w.Zs) [])) J hg (by simp only[Gal];lia);have zz:(st.flatMap (tgF w.ar ws)++df w.Zs (w.br.foldl aT []) (wide w.br) eA++twF (gv.foldl (bf w.Zs) [])++gv.flatMap (c6 w ws)).length<100000:=by
  simp only[Gal];lia
 refine⟨st,eA,I,r2,r1,r3,λY8=> ?_,zz⟩;rw[GaC,GaC] at e;exact Cu rfl h1 h2 h3 (by simp only[Gae];lia) e (Ct _ Y8) (bJ ws) (bJ gv) (bW _)
def Ee{b e ea la h k:Int}(e1:1<=e)(a0:0<=ea)(l0:0<=la)(al:ea+la<e):(b+k*e -ea<=h/\h<=b+k*e+la)↔((h -(b -ea))/e=k/\h -(b -ea)-k*e<=ea+la):=by
 constructor
 .rintro⟨h1,h2⟩;have h3:k<=(h -(b -ea))/e:=(Int.le_ediv_iff_mul_le (by lia)).mpr (by lia);have h4:(h -(b -ea))/e<k+1:=(Int.ediv_lt_iff_lt_mul (by lia)).mpr (by rw[Int.add_mul];lia);lia
 .rintro⟨h1,h2⟩;have h3:(h -(b -ea))/e*e<=h -(b -ea):=Int.ediv_mul_le _ (by lia);rw[h1] at h3;lia
noncomputable def Gg(b e ea la h:Int):D->Option D
 | E k=>if b+k*e -ea<=h/\h<=b+k*e+la then U (E k) else J
 |_=>J
def nS:Gg b e ea la h (E k)=if b+k*e -ea<=h/\h<=b+k*e+la then U (E k) else J:=rfl
def Jw{m:Int}(e1:1<=e)(m0:0<=m)(a0:0<=ea)(l0:0<=la)(al:ea+la<e):(aC 0 m.toNat).findSome? (Gg b e ea la h)=(kL b e m ea la h).map E:=by
 have iff:=λk=>Ee (b:=b) (h:=h) (k:=k) e1 a0 l0 al;unfold kL;generalize hq:(h -(b -ea))/e=q at*;by_cases c:(0<=q/\q<m)/\h -(b -ea)-q*e<=ea+la
 .rw[Gao c];obtain⟨n,hn⟩:=GaH c.1.1;have hm:E q∈aC 0 m.toNat:=by
   exact Gas.mpr ⟨n,GaS.mpr (by lia),by rw[hn];simp⟩
  have hr:Gg b e ea la h (E q)=U (E q):=by
   rw[nS,Gao ((iff q).mpr ⟨rfl,c.2⟩)]
  cases hf:(aC 0 m.toNat).findSome? (Gg b e ea la h) with
  |none=>rw[List.findSome?_eq_none_iff.mp hf _ hm] at hr;cases hr
  |some v=>
   obtain⟨d,hd,hv⟩:=List.exists_of_findSome?_eq_some hf;obtain⟨i,hi⟩:=Gco hd;obtain⟨xb,rfl⟩:=b9 hi;rw[nS] at hv;simp_all
 .rw[Gai c];rw[Option.map_none,List.findSome?_eq_none_iff];intro d hd;obtain⟨i,hi⟩:=Gco hd;obtain⟨xb,rfl⟩:=b9 hi;rw[nS,Gai];intro cc;have:=(iff _).mp cc;exact c ⟨by lia,by rw[this.1];exact this.2⟩
def nT{o:Zz}(ok:fW o.aP):jK [aj o,E h]=U (bX (bM o.aP h)):=by
 have p4:ixD (aj o) (E 4)=U (cu o.aP):=rfl;generalize aj o=OD at*;cases hu:o.aP with
 |asked b=>
  rw[hu] at p4;unfold cu at p4;refine aL rfl ?_;unfold oH bM;simp[p4]
 |due b e m ea la=>
  rw[hu] at p4 ok;obtain⟨e1,e2,hm,a0,l0,al,ab,b3⟩:=ok;have me:∀j,aQ j e=O:=λj=>bI;have sm:aS m=O:=b8;unfold cu at p4;have step:∀(k:Int) (x3:Os),fT [U (Z OD),U (Z (E h)),U (Z (E k)),x3]=if b+k*e -ea<=h/\h<=b+k*e+la then U (η (E k)) else U (P [U (Z OD),U (Z (E h)),U (Z (E k)),U (Z (E (b+k*e)))]):=by
   intro k x3;unfold fT;by_cases c1:b+k*e -ea<=h
   .by_cases c2:h<=b+k*e+la
    .simp[p4,c1,me]
    .simp[p4,c1,me]
   .simp[p4,c1,me]
  have key:∀(l:List D) (x2 x3:Os),(∀d∈l,∃k:Int,d= E k)->(match l.findSome? (Gg b e ea la h) with|some d=>Zw (gN 2) fT l [U (Z OD),U (Z (E h)),x2,x3]=U (η d)|none=>∃y2 y3,Zw (gN 2) fT l [U (Z OD),U (Z (E h)),x2,x3]=U (P [U (Z OD),U (Z (E h)),y2,y3])):=by
   intro l;induction l with
   |nil=>intro x2 x3 _;exact⟨x2,x3,by simp⟩
   |cons d l ih=>
    intro x2 x3 hd;obtain⟨k,rfl⟩:=hd d Gaj;have sv:=step k x3;rw[List.findSome?_cons,nS];by_cases c:b+k*e -ea<=h/\h<=b+k*e+la
    .rw[Gao c] at sv⊢;simp only[Zw,gN,GaK,GaL,Option.bind_some,sv]
    .rw[Gai c] at sv⊢;have q:=ih (U (Z (E k))) (U (Z (E (b+k*e)))) λx hx=>hd x (Gaf _ hx);cases hf:l.findSome? (Gg b e ea la h) with
     |none=>
      rw[hf] at q;obtain⟨y2,y3,q⟩:=q;refine⟨y2,y3, ?_⟩;simp only[Zw,gN,GaK,GaL,Option.bind_some,sv];exact q
     |some v=>
      rw[hf] at q;simp only[Zw,gN,GaK,GaL,Option.bind_some,sv];exact q
  have q:=key (aC 0 m.toNat) J J (λd hd=>by
   obtain⟨i,hi⟩:=Gco hd;obtain⟨_,rfl⟩:=b9 hi;exact⟨_,rfl⟩)
  rw[Jw e1 (by lia) a0 l0 al] at q;have ed:bM (.due b e m ea la) h=kL b e m ea la h:=rfl;rw[ed];refine aL rfl ?_;unfold oH;cases hk:kL b e m ea la h with
  |none=>
   rw[hk] at q;obtain⟨y2,y3,q⟩:=q;simp[p4,sm,q]
  |some k=>
   rw[hk] at q;dsimp only[Option.map] at q;simp[p4,sm,q]
def tH(ok:lZ c):dK [bB c,bX w]=U (bX (cG c w)):=by
 cases c with
 |ever t=>unfold dK iE bB cG;simp
 |flat h t=>unfold dK iE bB cG;simp
 |kilo h t p=>
  obtain⟨h1,t1,t2,p1,p2⟩:=ok;cases w with
  |none=>unfold dK iE bB cG;simp
  |some w=>
   have mm:aQ w t=O:=bI;have pp:0<p/\p<1073741824:=by lia
   unfold dK iE bB cG;simp[mm,pp]
def fD(os:List Zz)(c:Cap)(k:Int×Int)(h:Int):List Tr->Int
 |[]=>0
 |t::gv=>(if decide (tk os t=k)&&jN c h t.2.1 then t.2.2 else 0)+fD os c k h gv
theorem sF(os:List Zz)(c:Cap)(k:Int×Int)(h:Int):∀gv,fD os c k h gv=jq c ((gv.filter λt=>decide (tk os t=k)).map λt=>(t.2.1,t.2.2)) h
 |[]=>rfl
 |t::gv=>by
  have ih:=sF os c k h gv;unfold fD;rw[ih];unfold jq;by_cases e:tk os t=k
  .simp[e]
  .simp[e]
def iM(os:List Zz)(ws gv:List Tr)(o:Zz)(h:Int):Nat->List Cap->List Flt
 |_,[]=>[]
 |k,c::cs=>dY ws c o.ax o.aw (k:Int) (h,fD os c (o.ax,o.aw) h gv)++iM os ws gv o h (k+1) cs
theorem gY(os:List Zz)(ws gv:List Tr)(o:Zz)(h:Int):∀k cs,(iM os ws gv o h k cs).length<=cs.length
 |_,[]=>by simp[iM]
 |k,c::cs=>by
  have h1:=gY os ws gv o h (k+1) cs;have h2:=jY ws c o.ax o.aw (k:Int) (h,fD os c (o.ax,o.aw) h gv);unfold iM
  grind
def ovT(w:World)(ws gv:List Tr)(t:Tr):List Flt:=match w.Zs[t.1.toNat]? with
 |some o=>iM w.Zs ws gv o t.2.1 0 ((w.ar[o.aw.toNat]?.map (·.ay)).getD [])
 |none=>[]
def T4(hO:atD Zq n=U OD)(h1:ixD OD (E 1)=U (E g'))(h2:ixD OD (E 2)=U (E s')):
  f7 [U (Z (N [N A,N B,N C,N Zq])),U (Z bk),U (Z (E g)),U (Z (E s)),U (Z (E h)),e5,e6,U (Z (bB c)),U (Z (E T)),U (Z (E n)),U (Z (E a)),U (Z (E m)),e12]=
   U (P [U (Z (N [N A,N B,N C,N Zq])),U (Z bk),U (Z (E g)),U (Z (E s)),U (Z (E h)),e5,e6,U (Z (bB c)),U (Z (E (T+if decide ((g',s')=(g,s))&&jN c h a then m else 0))),U (Z (E n)),U (Z (E a)),U (Z (E m)),e12]):=by
 have e1:eqB (E g') (E g)=U (decide (g' =g)):=by unfold eqB;by_cases c:g' =g<;>simp[c]
 have e2:eqB (E s') (E s)=U (decide (s' =s)):=by unfold eqB;by_cases c:s' =s<;>simp[c]
 unfold f7;by_cases c1:g' =g
 .by_cases c2:s' =s
  .by_cases c3:a<=h
   .cases c with
    |ever t=>simp[hO,h1,h2,c1,c2,c3,bB,jN]
    |flat H t=>
     by_cases c4:h -H<a
     .simp[hO,h1,h2,c1,c2,c3,bB,jN,c4]
     .simp[hO,h1,h2,c1,c2,bB,jN,c4]
    |kilo H t p=>
     by_cases c4:h -H<a
     .simp[hO,h1,h2,c1,c2,c3,bB,jN,c4]
     .simp[hO,h1,h2,c1,c2,bB,jN,c4]
   .have q:jN c h a=M:=by cases c<;>simp[jN,c3]
    rw[q];simp[hO,h1,h2,c3]
  .simp[hO,h1,h2,c2]
 .simp[hO,h1,c1]
theorem Ef{w:World}(W:aH w):∀gv (T:Int) x9 eI eN,bQ w.Zs.length gv->∃y9 eP eV,
  Zw (gT [9,10,11]) f7 (gv.map ZD) [U (Z (N [N A,N B,N C,N (w.Zs.map aj)])),U (Z bk),U (Z (E g)),U (Z (E s)),U (Z (E h)),e5,e6,U (Z (bB c)),U (Z (E T)),x9,eI,eN,e12]=
   U (P [U (Z (N [N A,N B,N C,N (w.Zs.map aj)])),U (Z bk),U (Z (E g)),U (Z (E s)),U (Z (E h)),e5,e6,U (Z (bB c)),U (Z (E (T+fD w.Zs c (g,s) h gv))),y9,eP,eV,e12])
 |[],T,x9,eI,eN,_=> ⟨x9,eI,eN,by simp[fD]⟩
 |t::gv,T,x9,eI,eN,hg=>by
  have g0:=hg t Gaj;obtain⟨n,hn⟩:=GaH g0.1;have xh :n<w.Zs.length:=by lia
  have hO:atD (w.Zs.map aj) t.1=U (aj w.Zs[n]):=by rw[hn,bO,Gap,Gac xh];rfl
  have etk:tk w.Zs t=(w.Zs[n].ax,w.Zs[n].aw):=by
   unfold tk;simp_all
  have ev:=T4 (A:=A) (B:=B) (C:=C) (bk:=bk) (c:=c) (g:=g) (s:=s) (h:=h) (T:=T) (a:=t.2.1) (m:=t.2.2) (e5:=e5) (e6:=e6) (e12:=e12) hO rfl rfl;rw[<-etk] at ev;obtain⟨y9,eP,eV,e⟩:=Ef W gv (T+if decide (tk w.Zs t=(g,s))&&jN c h t.2.1 then t.2.2 else 0) (U (Z (E t.1))) (U (Z (E t.2.1))) (U (Z (E t.2.2))) λx hx=>hg x (Gaf _ hx);refine⟨y9,eP,eV, ?_⟩;rw[Gay]
  conv=>rhs;unfold fD
  rw[<-Int.add_assoc];have ed:ZD t= N [E t.1,E t.2.1,E t.2.2]:=rfl;rw[ed];simp only[Zw,gT,gNs,GaK,GaL,Option.bind_some,ev];exact e
def Gh(to:Option Int)(g s k h T:Int):List D:=match to with
 |some top=>if T>top then[N [X "cap",E g,E s,E k,E h,E T,E top]] else[]
 |none=>[]
def T5{W F:List D}{cd sz:D}(hS:atD B s=U (N [nm,sz,N Cs,yg]))(hc:atD Cs k=U cd)(ic:cd.imm=O)
  (hl:Zw (gT [9,10,11]) f7 G [U (Z (N [N A,N B,N C,N Zq])),U (Z (N [N W,N G])),U (Z (E g)),U (Z (E s)),U (Z (E h)),U (Y (Q F)),U (Z (E k)),U (Z cd),U (Z (E 0)),x9,eI,eN,x12]=U (P [U (Z (N [N A,N B,N C,N Zq])),U (Z (N [N W,N G])),U (Z (E g)),U (Z (E s)),U (Z (E h)),U (Y (Q F)),U (Z (E k)),U (Z cd),U (Z (E T)),y9,eP,eV,x12]))
  (iw:aA W=O)(ew:cT [N W,E g,E h]=U (bX wo))(eb:dK [cd,bX wo]=U (bX to))(hz:F.length<100000):
  gz [U (Z (N [N A,N B,N C,N Zq])),U (Z (N [N W,N G])),U (Z (E g)),U (Z (E s)),U (Z (E h)),U (Y (Q F)),U (Z (E k)),x7,x8,x9,eI,eN,x12]=
   U (P [U (Z (N [N A,N B,N C,N Zq])),U (Z (N [N W,N G])),U (Z (E g)),U (Z (E s)),U (Z (E h)),U (Y (Q (F++Gh to g s k h T))),U (Z (E k)),U (Z cd),U (Z (E T)),y9,eP,eV,U (Z (bX to))]):=by
 have z:F.length<16777216:=by lia
 have xK :=aV (cn wo);have rt:=aV (cn to);refine sqn (by simp[hS,hc];rfl) ?_;refine sqn (e:=[U (Z (N [N A,N B,N C,N Zq])),U (Z (N [N W,N G])),U (Z (E g)),U (Z (E s)),U (Z (E h)),U (Y (Q F)),U (Z (E k)),U (Z cd),U (Z (E 0)),x9,eI,eN,x12]) (by simp) ?_;refine sqn (by simp[hl];rfl) ?_;refine sqn (by simp[ew,xK,eb,rt];rfl) ?_;cases to with
 |none=>simp[Gh]
 |some top=>
  by_cases c:T>top
  .have c' :=c;simp[c',z,af,Gh]
  .have c' :=c;simp[c',Gh]
theorem Eg{w:World}{ws gv:List Tr}{o:Zz}{cs:List Cap}(W:aH w)(hg:bQ w.Zs.length gv)(hS:atD (w.ar.map aI) o.aw=U (N [nm,sz,N (cs.map bB),yg]))(ok:∀c∈cs,lZ c):∀ds k fs x6 x7 x8 x9 eI eN x12,cs.drop k=ds->fs.length+ds.length<1000->∃y6 y7 y8 y9 eP eV yq,
  Zw (gN 6) gz (aC (k:Int) ds.length) [U (Z (aE w)),U (Z (N [N (ws.map ZD),N (gv.map ZD)])),U (Z (E o.ax)),U (Z (E o.aw)),U (Z (E h)),U (Y (Q (fs.map ag))),x6,x7,x8,x9,eI,eN,x12]=
   U (P [U (Z (aE w)),U (Z (N [N (ws.map ZD),N (gv.map ZD)])),U (Z (E o.ax)),U (Z (E o.aw)),U (Z (E h)),U (Y (Q ((fs++iM w.Zs ws gv o h k ds).map ag))),y6,y7,y8,y9,eP,eV,yq])
 |[],k,fs,x6,x7,x8,x9,eI,eN,x12,_,_=> ⟨x6,x7,x8,x9,eI,eN,x12,by simp[iM,aC]⟩
 |c::ds,k,fs,x6,x7,x8,x9,eI,eN,x12,hd,hz=>by
  rw[GaF] at hz;have hk:k<cs.length:=by
   rcases Gbg k cs.length with q|q
   .exact q
   .rw[List.drop_of_length_le q] at hd;cases hd
  have ec:cs[k]=c/\cs.drop (k+1)=ds:=by
   rw[GbN hk] at hd;lia
  have hc:atD (cs.map bB) (k:Int)=U (bB c):=by rw[bO,Gap,Gac hk,ec.1];rfl
  have okc:=ok c (ec.1▸GaA hk);obtain⟨z9,xX,yV,el⟩:=Ef W (e5:=U (Y (Q (fs.map ag)))) (e12:=x12) gv 0 x9 eI eN hg;rw[Int.zero_add] at el;have ev:=T5 (x7:=x7) (x8:=x8) hS hc (rZ c) el (bJ ws) (gH (g:=o.ax) (h:=h)) (tH okc) (by rw[Gae];lia);have eg:Gh (cG c (wgt o.ax h ws J)) o.ax o.aw (k:Int) h (fD w.Zs c (o.ax,o.aw) h gv)=(dY ws c o.ax o.aw (k:Int) (h,fD w.Zs c (o.ax,o.aw) h gv)).map ag:=by
   unfold dY Gh;cases cG c (wgt o.ax h ws J) with
   |none=>rfl
   |some top=>
    dsimp only;split<;>rfl
  rw[eg,<-GaC] at ev;have l1:=jY ws c o.ax o.aw (k:Int) (h,fD w.Zs c (o.ax,o.aw) h gv);obtain⟨y6,y7,y8,y9,eP,eV,yq,e⟩:=Eg W hg hS ok ds (k+1) (fs++dY ws c o.ax o.aw (k:Int) (h,fD w.Zs c (o.ax,o.aw) h gv)) (U (Z (E (k:Int)))) (U (Z (bB c))) (U (Z (E (fD w.Zs c (o.ax,o.aw) h gv)))) z9 xX yV (U (Z (bX (cG c (wgt o.ax h ws J))))) ec.2 (by rw[Gal];lia);refine⟨y6,y7,y8,y9,eP,eV,yq, ?_⟩
  conv=>rhs;unfold iM
  rw[<-Gbd];have er:aC (k:Int) (c::ds).length= E (k:Int)::aC ((k+1:Nat):Int) ds.length:=by
   unfold aC;rw[GaF,List.range_succ_eq_map,Gay,GaN];refine congrArg (List.cons _) (GaO λi _=> ?_);lia
  rw[er];have ew:aE w= N [N (w.bN.map bx),N (w.ar.map aI),N (w.br.map ZD),N (w.Zs.map aj)]:=rfl;rw[<-ew] at ev;simp only[Zw,gN,GaK,GaL,Option.bind_some,ev];exact e
def Q9{n:Int}(hS:atD B s=U (N [nm,sz,N Cs,yg]))(ic:aA Cs=O)(hn:cO [N Cs]=U ⟨.c,E n⟩)(sm:aS n=O)(e:Zw (gN 6) gz (aC 0 n.toNat) [U (Z (N [N A,N B,N C,N Zq])),U (Z bk),U (Z (E g)),U (Z (E s)),U (Z (E h)),U (Y (Q [])),J,J,J,J,J,J,J]=U (P [U (Z (N [N A,N B,N C,N Zq])),U (Z bk),U (Z (E g)),U (Z (E s)),U (Z (E h)),U (Y (Q F)),y6,y7,y8,y9,eP,eV,yq]))(im:aA F=O):
  iF [N [N A,N B,N C,N Zq],bk,E g,E s,E h]=U (Q F):=by
 refine aL rfl ?_;refine sqn (by simp;rfl) ?_;simp[hS,hn,sm,e,im]
def Gi{w:World}{ws gv:List Tr}{o:Zz}{s:fU}(W:aH w)(hg:bQ w.Zs.length gv)(so:gB s)(hS:atD (w.ar.map aI) o.aw=U (aI s)):iF [aE w,N [N (ws.map ZD),N (gv.map ZD)],E o.ax,E o.aw,E h]=U (Q ((iM w.Zs ws gv o h 0 s.ay).map ag)):=by
 have cl:=so.cl;obtain⟨y6,y7,y8,y9,eP,eV,yq,e⟩:=Eg W hg hS so.ok s.ay 0 [] J J J J J J J rfl (by simp;lia);exact Q9 (n:=(s.ay.length:Int)) hS (nL _) (by simp) (b8) (by rw[Gbw];exact e) (bW _)
noncomputable def fY(h o l u:Int):Bool:=decide (h<l)||(decide (h=l)&&decide (o<u))
def Qa(h o l u:Int):J1 (N [E h,E o]) (N [E l,E u])=U (fY h o l u):=by
 show U (if h=l then(if o=u then M else decide (o<u)) else decide (h<l))=_;unfold fY;by_cases c1:h=l
 .subst c1;by_cases c2:o=u
  .subst c2;simp
  .simp[c2]
 .simp_all
def T6{F:List D}{g1:Int}(a1:ixD OA (E 1)=U (E g1))(b1:ixD OB (E 1)=U (E g2))(hz:F.length<100000):
  f9 [e0,e1,U (Z (E o)),U (Z (E h)),U (Y (Q F)),e5,U (Z (E u)),U (Z (E l)),U (Y (Q [OA,OB])),U (Z (N [E x,E y])),U (Z (N [E c1,E c2,E c3]))]=
   U (P [e0,e1,U (Z (E o)),U (Z (E h)),U (Y (Q (F++if(fY h o l u=O/\g1=g2/\(c1=x/\c2=y))/\l -h<c3 then[N [X "gap",E o,E h,E u,E l]] else[]))),e5,U (Z (E u)),U (Z (E l)),U (Y (Q [OA,OB])),U (Z (N [E x,E y])),U (Z (N [E c1,E c2,E c3]))]):=by
 have z:F.length<16777216:=by lia
 have lt:=Qa h o l u;have sl:slD J (U 2) (N [E c1,E c2,E c3])=U ⟨.c,N [E c1,E c2]⟩:=rfl;have e2:eqB (N [E c1,E c2]) (N [E x,E y])=U (decide (c1=x/\c2=y)):=by
  unfold eqB;by_cases q1:c1=x<;>by_cases q2:c2=y<;>simp[q1,q2]
 have Wi :eqB (E g1) (E g2)=U (decide (g1=g2)):=by unfold eqB;by_cases c:g1=g2<;>simp[c]
 unfold f9;cases hb:fY h o l u with
 |false=>
  rw[hb] at lt;simp[lt]
 |true=>
  rw[hb] at lt;by_cases q1:g1=g2
  .by_cases q2:c1=x/\c2=y
   .by_cases q3:l -h<c3
    .obtain⟨rfl,rfl⟩:=q2;simp[lt,af,a1,b1,q1,sl,e2,q3,z]
    .obtain⟨rfl,rfl⟩:=q2;simp[lt,a1,b1,q1,sl,e2,q3]
   .rw[Gai (λw=>q2 w.1.2.2)];simp only[GaE q2] at e2;simp[lt,a1,b1,sl,e2]
  .simp[lt,a1,b1,q1]
def uW(ts:List Tr)(o h v x y:Int):iJ (nO ts o h v) x y=if o=x/\h=y then v else iJ ts x y:=by
 unfold nO;cases ha:ts.any (atT o h) with
 |true=>
  rw[Gao rfl];unfold iJ;rw[List.find?_map];by_cases c:o=x/\h=y
  .obtain⟨rfl,rfl⟩:=c;have e:(atT o h∘λt:Tr=>if atT o h t=O then(o,h,v) else t)=atT o h:=by
    funext t
    simp only[Gcw];split
    .rename_i c;rw[c];exact GaD ⟨rfl,rfl⟩
    .rfl
   rw[e];cases hf:ts.find? (atT o h) with
   |none=>
    obtain⟨t,ht,q⟩:=GbZ.mp ha;exact absurd q (GbK.mp hf t ht)
   |some t=>
    have:=GdK hf;simp[this]
  .rw[Gai c];have e:(atT x y∘λt:Tr=>if atT o h t=O then(o,h,v) else t)=atT x y:=by
    funext t
    simp only[Gcw];split
    .rename_i q;have q' :=Gaq q;have n1:atT x y (o,h,v)=M:=GaE c;have n2:atT x y t=M:=GaE (by rw[q'.1,q'.2];exact c);rw[n1,n2]
    .rfl
   rw[e];cases hf:ts.find? (atT x y) with
   |none=>rfl
   |some t=>
    have q0:=GdK hf;have q:=Gaq q0;have n2:¬atT o h t=O:=λz=>by
     have z' :=Gaq z;lia
    simp[n2]
 |false=>
  rw[Gai (by simp)];unfold iJ;rw[List.find?_append];by_cases c:o=x/\h=y
  .obtain⟨rfl,rfl⟩:=c;have hf:ts.find? (atT o h)=J:=by
    rw[GbK];intro t ht q;rw[GbX] at ha;exact ha t ht q
   rw[hf];have:atT o h (o,h,v)=O:=GaD ⟨rfl,rfl⟩;simp[this]
  .have:atT x y (o,h,v)=M:=GaE c;simp_all
noncomputable def mt(x y:Int)(b:Tr):Bool:=decide ((b.1=x/\b.2.1=y)\/(b.1=y/\b.2.1=x))
def Gj(ts:List Tr)(b:Tr)(x y:Int):iJ (aT ts b) x y=if mt x y b then b.2.2 else iJ ts x y:=by
 unfold aT;rw[uW,uW];unfold mt;by_cases c1:b.2.1=x/\b.1=y
 .rw[Gao c1,Gao (GaD (.inr ⟨c1.2,c1.1⟩))]
 .rw[Gai c1];by_cases c2:b.1=x/\b.2.1=y
  .rw[Gao c2,Gao (GaD (.inl c2))]
  .rw[Gai c2,Gai];intro z;rcases Gaq z with z|z
   .exact c2 z
   .exact c1 ⟨z.2,z.1⟩
theorem jO(x y:Int):∀(bs ts:List Tr),(∀b∈bs,b.1<=b.2.1)->(bs.map Co).Nodup->iJ (bs.foldl aT ts) x y=match bs.find? (mt x y) with|some b=>b.2.2|none=>iJ ts x y
 |[],ts,_,_=>rfl
 |b::bs,ts,le,nd=>by
  rw[Gay,Gbb] at nd;rw[Gcl,jO x y bs (aT ts b) (λc hc=>le c (Gaf _ hc)) nd.2,Gj];by_cases c:mt x y b=O
  .rw[List.find?_cons_of_pos c];have hf:bs.find? (mt x y)=J:=by
    rw[GbK];intro d hd q;apply nd.1;refine Gas.mpr ⟨d,hd, ?_⟩;have c' :=Gaq c;have q' :=Gaq q;have l1:=le b Gaj;have l2:=le d (Gaf _ hd);exact Prod.ext (by show d.1=b.1;lia) (by show d.2.1=b.2.1;lia)
   rw[hf];simp only[c,Gdn]
  .simp_all
theorem Jx:∀ns (n:Int),n<=om n ns/\∀m∈ns,m<=om n ns
 |[],n=> ⟨GcW _,by simp⟩
 |k::ns,n=>by
  have h:=Jx ns (if k>n then k else n);have e:om n (k::ns)=om (if k>n then k else n) ns:=rfl
  grind
def Mb(pos:∀b∈bs,1<=b.2.2):0<=wide bs/\∀b∈bs,b.2.2<=wide bs:=by
 cases bs with
 |nil=>exact⟨by decide,by simp⟩
 |cons b bs=>
  have e:wide (b::bs)=om b.2.2 (bs.map (·.2.2)):=rfl;have h:=Jx (bs.map (·.2.2)) b.2.2;rw[e];have:=pos b Gaj;refine⟨by lia,λc hc=> ?_⟩;rcases Gat.mp hc with rfl|hc
  .exact h.1
  .exact h.2 _ (Gas.mpr ⟨c,hc,rfl⟩)
def Jy{bs:List Tr}(le:∀b∈bs,b.1<=b.2.1)(pos:∀b∈bs,1<=b.2.2)(nd:(bs.map Co).Nodup)(a b:Zz):mS (bs.foldl aT []) a b<=wide bs:=by
 have w:=Mb pos;unfold mS;split
 .rw[jO _ _ bs [] le nd];cases h:bs.find? (mt a.aw b.aw) with
  |none=>exact w.1
  |some c=>exact w.2 c (Gda h)
 .exact w.1
def B5{gs:List Tr}{w:Int}{r:Int×Int}(le:∀a b,mS gs a b<=w)(h:l.1 -r.1>=w):gpF os gs r l=[]:=by
 unfold gpF;split
 .rename_i a b _ _;rw[Gai];have:=le a b;lia
 .rfl
theorem uX{os:List Zz}{gs:List Tr}{w:Int}{r:Int×Int}(le:∀a b,mS gs a b<=w):∀ls,(ls.Pairwise λa b=>a.1<=b.1)->k8 os gs w r ls=ls.flatMap (gpF os gs r)
 |[],_=>rfl
 |l::ls,h=>by
  rw[GaV] at h;unfold k8;rw[GaY];by_cases c:l.1 -r.1>=w
  .rw[Gao c,B5 le c]
   symm
   rw[GbV,Gbx];intro x hx;have:=h.1 x hx;exact B5 le (by lia)
  .rw[Gai c,uX le ls h.2]
noncomputable def prs(F:Int×Int->Int×Int->List Flt):List (Int×Int)->List Flt
 |[]=>[]
 |r::rs=>rs.flatMap (F r)++prs F rs
theorem mU{os:List Zz}{gs:List Tr}{w:Int}(le:∀a b,mS gs a b<=w):∀ls,(ls.Pairwise λa b=>a.1<=b.1)->df os gs w ls=prs (gpF os gs) ls
 |[],_=>rfl
 |l::ls,h=>by
  rw[GaV] at h;unfold df prs;rw[uX le ls h.2,mU le ls h.2]
def g7(a b:Zz)(r l:Int×Int)(c:Tr):List Flt:=if(a.ax=b.ax/\mt a.aw b.aw c=O)/\l.1 -r.1<c.2.2 then[("gap",[r.2,r.1,l.2,l.1])] else[]
def uY(os:List Zz)(bs:List Tr)(r l:Int×Int):List Flt:=match os[r.2.toNat]?,os[l.2.toNat]? with
 |some a,U b=>bs.flatMap (g7 a b r l)
 |_,_=>[]
theorem B6{a b:Zz}(hl:r.1<=l.1):∀bs:List Tr,(∀b∈bs,b.1<=b.2.1)->(bs.map Co).Nodup->bs.flatMap (g7 a b r l)=if l.1 -r.1<(if a.ax=b.ax then(match bs.find? (mt a.aw b.aw) with|some c=>c.2.2|none=>0) else 0) then([("gap",[r.2,r.1,l.2,l.1])]:List Flt) else[]
 |[],_,_=>by
  simp_all
 |c::bs,le,nd=>by
  rw[Gay,Gbb] at nd;rw[GaY,B6 hl bs (λd hd=>le d (Gaf _ hd)) nd.2];by_cases g:a.ax=b.ax
  .by_cases m:mt a.aw b.aw c=O
   .have hf:bs.find? (mt a.aw b.aw)=J:=by
     rw[GbK];intro d hd q;apply nd.1;refine Gas.mpr ⟨d,hd, ?_⟩;have c' :=Gaq m;have q' :=Gaq q;have l1:=le c Gaj;have l2:=le d (Gaf _ hd);exact Prod.ext (by show d.1=c.1;lia) (by show d.2.1=c.2.1;lia)
    rw[hf];unfold g7;simp_all
   .have:g7 a b r l c=[]:=by
     unfold g7;simp_all
    simp_all
  .simp only[Gai g];have:g7 a b r l c=[]:=by
    unfold g7;simp_all
   simp_all
def nU{bs:List Tr}{r:Int×Int}(le:∀b∈bs,b.1<=b.2.1)(nd:(bs.map Co).Nodup)(hl:r.1<=l.1):uY os bs r l=gpF os (bs.foldl aT []) r l:=by
 unfold uY gpF;cases os[r.2.toNat]? with
 |none=>rfl
 |some a=>
  cases os[l.2.toNat]? with
  |none=>rfl
  |some b=>
   dsimp only;rw[B6 hl bs le nd];unfold mS;rw[jO _ _ bs [] le nd]
   rfl
def Jz(a b:Int):Zy [Q [E a,E b]]=U ⟨.tn,Q (if a<b then[E a,E b] else[E b,E a])⟩:=by
 have e:bG [E a,E b]=if a<b then[E a,E b] else[E b,E a]:=by
  show(if ltC (DL.code (E a)) (DL.code (E b)) then[E a,E b] else[E b,E a])=_;have l:ltC (DL.code (E a)) (DL.code (E b))=decide (a<b):=by
   show dO (dO ltI) [[1,a]] [[1,b]]=_;by_cases c:a=b
   .subst c;simp[dO]
   .by_cases c2:a<b<;>simp[dO,ltI,c]
  simp_all
 unfold Zy one jy;simp only[Option.bind_some];rw[e]
 rfl
noncomputable def lo2(a b:Int):Int:=if a<b then a else b
noncomputable def hi2(a b:Int):Int:=if a<b then b else a
def Mc(le:x<=y)(z:Int):(x=lo2 a b/\y=hi2 a b)↔mt a b (x,y,z)=O:=by
 unfold mt lo2 hi2;by_cases c:a<b<;>simp[c]<;>lia
theorem Eh{a b:Zz}:∀(bs:List Tr) (fs:List Flt) (eI:Os),(∀c∈bs,c.1<=c.2.1)->fs.length+bs.length<90000->∃eP,
  Zw (gN 10) f9 (bs.map ZD) [e0,e1,U (Z (E o)),U (Z (E h)),U (Y (Q (fs.map ag))),e5,U (Z (E u)),U (Z (E l)),U (Y (Q [aj a,aj b])),U (Z (N [E (lo2 a.aw b.aw),E (hi2 a.aw b.aw)])),eI]=
   U (P [e0,e1,U (Z (E o)),U (Z (E h)),U (Y (Q ((fs++if fY h o l u then bs.flatMap (g7 a b (h,o) (l,u)) else[]).map ag))),e5,U (Z (E u)),U (Z (E l)),U (Y (Q [aj a,aj b])),U (Z (N [E (lo2 a.aw b.aw),E (hi2 a.aw b.aw)])),eP])
 |[],fs,eI,_,_=> ⟨eI,by cases fY h o l u<;>simp⟩
 |c::bs,fs,eI,le,hz=>by
  rw[GaF] at hz;have ev:=T6 (e0:=e0) (e1:=e1) (e5:=e5) (F:=fs.map ag) (OA:=aj a) (OB:=aj b) (o:=o) (h:=h) (u:=u) (l:=l) (x:=lo2 a.aw b.aw) (y:=hi2 a.aw b.aw) (c1:=c.1) (c2:=c.2.1) (c3:=c.2.2) rfl rfl (by rw[Gae];lia);have pm:=Mc (a:=a.aw) (b:=b.aw) (le c Gaj) c.2.2;have eg:(if(fY h o l u=O/\a.ax=b.ax/\(c.1=lo2 a.aw b.aw/\c.2.1=hi2 a.aw b.aw))/\l -h<c.2.2 then[N [X "gap",E o,E h,E u,E l]] else[])=(if fY h o l u then g7 a b (h,o) (l,u) c else[]).map ag:=by
   unfold g7;cases hb:fY h o l u with
   |false=>simp
   |true=>
    by_cases q:(a.ax=b.ax/\mt a.aw b.aw c=O)/\l -h<c.2.2
    .rw[Gao ⟨⟨rfl,q.1.1,pm.mpr q.1.2⟩,q.2⟩];rw[Gao (show(a.ax=b.ax/\mt a.aw b.aw c=O)/\(l,u).1 -(h,o).1<c.2.2 from q)]
     rfl
    .rw[Gai (λz=>q ⟨⟨z.1.2.1,pm.mp z.1.2.2⟩,z.2⟩)];rw[Gai (show¬((a.ax=b.ax/\mt a.aw b.aw c=O)/\(l,u).1 -(h,o).1<c.2.2) from q)]
     rfl
  rw[eg,<-GaC] at ev;have l1:(if fY h o l u then g7 a b (h,o) (l,u) c else[]).length<=1:=by
   unfold g7;split
   .split<;>simp
   .simp
  obtain⟨eP,e⟩:=Eh bs (fs++if fY h o l u then g7 a b (h,o) (l,u) c else[]) (U (Z (ZD c))) (λx hx=>le x (Gaf _ hx)) (by rw[Gal];lia);refine⟨eP, ?_⟩;have ea:(fs++if fY h o l u then g7 a b (h,o) (l,u) c else[])++(if fY h o l u then bs.flatMap (g7 a b (h,o) (l,u)) else[])=fs++if fY h o l u then(c::bs).flatMap (g7 a b (h,o) (l,u)) else[]:=by
   cases fY h o l u<;>simp
  rw[ea] at e;rw[Gay];have ed:N [E c.1,E c.2.1,E c.2.2]=ZD c:=rfl;rw[ed] at ev;simp only[Zw,gN,GaK,GaL,Option.bind_some,ev];exact e
def Qb{OA OB:D}(hA:atD Zq o=U OA)(hB:atD Zq u=U OB)(ia:OA.imm=O)(ib:OB.imm=O)(a2:ixD OA (E 2)=U (E s1))(b2:ixD OB (E 2)=U (E s2))(hs:Zy [Q [E s1,E s2]]=U ⟨.tn,Q [E x,E y]⟩)
  (e:Zw (gN 10) f9 C [U (Z (N [N A,N B,N C,N Zq])),U (Z bk),U (Z (E o)),U (Z (E h)),U (Y (Q F)),U (Z (N [E u,E l,E a])),U (Z (E u)),U (Z (E l)),U (Y (Q [OA,OB])),U (Z (N [E x,E y])),eI]=U (P e')):
  gA [U (Z (N [N A,N B,N C,N Zq])),U (Z bk),U (Z (E o)),U (Z (E h)),U (Y (Q F)),U (Z (N [E u,E l,E a])),x6,x7,x8,x9,eI]=U (P e'):=by
 refine sqn (e:=[U (Z (N [N A,N B,N C,N Zq])),U (Z bk),U (Z (E o)),U (Z (E h)),U (Y (Q F)),U (Z (N [E u,E l,E a])),U (Z (E u)),x7,x8,x9,eI]) (by simp) ?_;simp_all
def nrT(os:List Zz)(bs:List Tr)(o h:Int)(t:Tr):List Flt:=if fY h o t.2.1 t.1 then uY os bs (h,o) (t.2.1,t.1) else[]
def Gk(a b:Int):Zy [Q [E a,E b]]=U ⟨.tn,Q [E (lo2 a b),E (hi2 a b)]⟩:=by
 rw[Jz];unfold lo2 hi2;split<;>rfl
def Ej(os:List Zz)(bs:List Tr)(o h:Int)(t:Tr):(nrT os bs o h t).length<=bs.length:=by
 unfold nrT uY;split
 .split
  .refine Gbo (nQ _ (λc=> ?_) bs) (Gan _);unfold g7;split<;>simp
  .simp
 .simp
theorem Ek{w:World}{o:Int}(W:aH w)(h0:0<=o)(h1:o<w.Zs.length):∀gv fs x5 x6 x7 x8 x9 eI,bQ w.Zs.length gv->fs.length+12*gv.length<50000->∃y5 y6 y7 y8 y9 eP,
  Zw (gN 5) gA (gv.map ZD) [U (Z (aE w)),U (Z bk),U (Z (E o)),U (Z (E h)),U (Y (Q (fs.map ag))),x5,x6,x7,x8,x9,eI]=
   U (P [U (Z (aE w)),U (Z bk),U (Z (E o)),U (Z (E h)),U (Y (Q ((fs++gv.flatMap (nrT w.Zs w.br o h)).map ag))),y5,y6,y7,y8,y9,eP])
 |[],fs,x5,x6,x7,x8,x9,eI,_,_=> ⟨x5,x6,x7,x8,x9,eI,by simp⟩
 |t::gv,fs,x5,x6,x7,x8,x9,eI,hg,hz=>by
  rw[GaF] at hz;have g0:=hg t Gaj;obtain⟨n,hn⟩:=GaH h0;obtain⟨m,hm⟩:=GaH g0.1;have xh :n<w.Zs.length:=by lia
  have yI :m<w.Zs.length:=by lia
  have hA:atD (w.Zs.map aj) o=U (aj w.Zs[n]):=by rw[hn,bO,Gap,Gac xh];rfl
  have hB:atD (w.Zs.map aj) t.1=U (aj w.Zs[m]):=by rw[hm,bO,Gap,Gac yI];rfl
  have le:=λb hb=>(W.bo.1 b hb).2.1;have b12:=W.b12;obtain⟨xX,e⟩:=Eh (e1:=U (Z bk)) (e5:=U (Z (ZD t))) w.br fs eI le (by lia);have ev:=Qb (A:=w.bN.map bx) (B:=w.ar.map aI) (x6:=x6) (x7:=x7) (x8:=x8) (x9:=x9) hA hB (cF _ (W.oo _ (GaA xh)).ti) (cF _ (W.oo _ (GaA yI)).ti) rfl rfl (Gk _ _) e;have en:(if fY h o t.2.1 t.1 then w.br.flatMap (g7 w.Zs[n] w.Zs[m] (h,o) (t.2.1,t.1)) else[])=nrT w.Zs w.br o h t:=by
   unfold nrT uY;simp_all
  rw[en] at ev;have l1:=Ej w.Zs w.br o h t;obtain⟨y5,y6,y7,y8,y9,eP,e'⟩:=Ek W h0 h1 gv (fs++nrT w.Zs w.br o h t) (U (Z (ZD t))) (U (Z (E t.1))) (U (Z (E t.2.1))) (U (Y (Q [aj w.Zs[n],aj w.Zs[m]]))) (U (Z (N [E (lo2 w.Zs[n].aw w.Zs[m].aw),E (hi2 w.Zs[n].aw w.Zs[m].aw)]))) xX (λx hx=>hg x (Gaf _ hx)) (by rw[Gal];lia);refine⟨y5,y6,y7,y8,y9,eP, ?_⟩;rw[Gay,GaY,<-Gbd];have ed:N [E t.1,E t.2.1,E t.2.2]=ZD t:=rfl;have ew:N [N (w.bN.map bx),N (w.ar.map aI),N (w.br.map ZD),N (w.Zs.map aj)]=aE w:=rfl;rw[ed,ew] at ev;simp only[Zw,gN,GaK,GaL,Option.bind_some,ev];exact e'
def Qc(e:Zw (gN 5) gA G [U (Z wd),U (Z (N [bkW,N G])),U (Z (E o)),U (Z (E h)),U (Y (Q [])),J,J,J,J,J,J]=U (P [U (Z wd),U (Z (N [bkW,N G])),U (Z (E o)),U (Z (E h)),U (Y (Q F)),y5,y6,y7,y8,y9,eP]))(im:aA F=O):iG [wd,N [bkW,N G],E o,E h]=U (Q F):=by
 refine aL rfl ?_;refine sqn (by simp;rfl) ?_;simp[e,im]
def Gn{w:World}{gv:List Tr}{o:Int}(W:aH w)(hg:bQ w.Zs.length gv)(hl:gv.length<64)(h0:0<=o)(h1:o<w.Zs.length):iG [aE w,N [bkW,N (gv.map ZD)],E o,E h]=U (Q ((gv.flatMap (nrT w.Zs w.br o h)).map ag)):=by
 obtain⟨y5,y6,y7,y8,y9,eP,e⟩:=Ek W h0 h1 gv [] J J J J J J hg (by simp;lia);exact Qc e (bW _)
def Cv(os:List Zz)(g:Tr):Option Int:=(os[g.1.toNat]?).bind λo=>bM o.aP g.2.1
def pY(os:List Zz)(o k:Int)(g:Tr):Bool:=decide (g.1=o)&&decide (Cv os g=U k)
def iN(os:List Zz)(pre:List Tr)(o k:Int):Nat:=(pre.filter (pY os o k)).length
structure tJ(os:List Zz)(pre ts:List Tr):Prop where
 nd:(ts.map λt=>(t.1,t.2.1)).Nodup
 ct:∀t∈ts,t.2.2=(iN os pre t.1 t.2.1:Int)
 cv:∀o k,0<iN os pre o k->∃t∈ts,t.1=o/\t.2.1=k
def iO(os:List Zz)(pre:List Tr)(g:Tr)(o k:Int):iN os (pre++[g]) o k=iN os pre o k+(if pY os o k g then 1 else 0):=by
 unfold iN;cases h:pY os o k g<;>simp[h]
def Md{ts:List Tr}(nd:(ts.map λt=>(t.1,t.2.1)).Nodup)(ht:t∈ts):iJ ts t.1 t.2.1=t.2.2:=by
 unfold iJ;induction ts with
 |nil=>cases ht
 |cons s ts ih=>
  rw[Gay,Gbb] at nd;by_cases c:atT t.1 t.2.1 s=O
  .rw[List.find?_cons_of_pos c];rcases Gat.mp ht with rfl|ht
   .rfl
   .exfalso;have c' :=Gaq c;exact nd.1 (Gas.mpr ⟨t,ht,by rw[c'.1,c'.2]⟩)
  .rw[List.find?_cons_of_neg c];rcases Gat.mp ht with rfl|ht
   .exact absurd (GaD ⟨rfl,rfl⟩) c
   .exact ih nd.2 ht
def Me{ts:List Tr}(h:ts.any (atT o k)=M):iJ ts o k=0:=by
 unfold iJ;have:ts.find? (atT o k)=J:=by
  rw[GbK];intro x hx q;rw[GbX] at h;exact h x hx q
 rw[this]
 rfl
def tJ.step{pre ts:List Tr}(I:tJ os pre ts)(g:Tr):tJ os (pre++[g]) (bf os ts g):=by
 obtain⟨nd,ct,cv⟩:=I;have e:bf os ts g=twU ts g.1 (Cv os g):=rfl;rw[e];cases hu:Cv os g with
 |none=>
  have no:∀o k,pY os o k g=M:=λo k=>by unfold pY;rw[hu];simp
  refine⟨nd,λt ht=> ?_,λo k h=> ?_⟩
  .rw[iO,no]
   simpa using ct t ht
  .rw[iO,no] at h;exact cv o k (by simpa using h)
 |some k=>
  have has:∀o q,pY os o q g=decide (g.1=o/\k=q):=λo q=>by
   unfold pY;simp_all
  show tJ os (pre++[g]) (nO ts g.1 k (iJ ts g.1 k+1));unfold nO;cases ha:ts.any (atT g.1 k) with
  |true=>
   rw[Gao rfl];obtain⟨s,hs,XI⟩:=GbZ.mp ha;have hsa' :=Gaq XI;have gv:iJ ts g.1 k=s.2.2:=by rw[<-hsa'.1,<-hsa'.2];exact Md nd hs
   have keys:(ts.map λt=>if atT g.1 k t=O then(g.1,k,iJ ts g.1 k+1) else t).map (λt=>(t.1,t.2.1))=ts.map λt=>(t.1,t.2.1):=by
    rw[GaN];refine GaO λt _=> ?_;simp only[Gcw];split
    .rename_i c;have c' :=Gaq c;rw[c'.1,c'.2]
    .rfl
   refine⟨by rw[keys];exact nd,λt ht=> ?_,λo q h=> ?_⟩
   .obtain⟨x,hx,rfl⟩:=Gas.mp ht;rw[iO];by_cases c:atT g.1 k x=O
    .rw[Gao c];have h1:=ct s hs;rw[hsa'.1,hsa'.2] at h1;rw[has,gv,h1];simp
    .rw[Gai c];have nc:¬(g.1=x.1/\k=x.2.1):=λz=>c (GaD ⟨z.1.symm,z.2.symm⟩);rw[has,GaE nc]
     simpa using ct x hx
   .by_cases c:g.1=o/\k=q
    .refine⟨(g.1,k,iJ ts g.1 k+1),Gas.mpr ⟨s,hs,by rw[Gao XI]⟩,c.1,c.2⟩
    .rw[iO,has,GaE c] at h;obtain⟨t,ht,t1,t2⟩:=cv o q (by simpa using h);refine⟨t,Gas.mpr ⟨t,ht, ?_⟩,t1,t2⟩;rw[Gai];intro z;have z' :=Gaq z;exact c ⟨by rw[<-z'.1,t1],by rw[<-z'.2,t2]⟩
  |false=>
   rw[Gai (by simp)];have g0:=Me ha;have noK:=λt ht z=>by
    rw[GbX] at ha;exact ha t ht (GaD z)
   have c0:iN os pre g.1 k=0:=by
    rcases Nat.eq_zero_or_pos (iN os pre g.1 k) with z|z
    .exact z
    .obtain⟨t,ht,z⟩:=cv g.1 k z;exact absurd z (noK t ht)
   refine⟨?_,λt ht=> ?_,λo q h=> ?_⟩
   .rw[GaC,GaW];refine⟨nd,by simp, ?_⟩;intro a ha' b hb;simp at hb;obtain⟨t,ht,rfl⟩:=Gas.mp ha';rw[hb];intro z;simp at z;exact noK t ht z
   .rw[iO];rcases Gau.mp ht with ht|ht
    .have nc:¬(g.1=t.1/\k=t.2.1):=λz=>noK t ht ⟨z.1.symm,z.2.symm⟩;rw[has,GaE nc]
     simpa using ct t ht
    .simp at ht;rw[ht];rw[has,c0,g0];simp
   .by_cases c:g.1=o/\k=q
    .exact⟨(g.1,k,iJ ts g.1 k+1),by simp,c.1,c.2⟩
    .rw[iO,has,GaE c] at h;obtain⟨t,ht,z⟩:=cv o q (by simpa using h);exact⟨t,GbQ _ ht,z⟩
theorem tJ.all{os:List Zz}:∀gv pre ts,tJ os pre ts->tJ os (pre++gv) (gv.foldl (bf os) ts)
 |[],pre,ts,I=>by rw[Gbh];exact I
 |g::gv,pre,ts,I=>by
  have:=tJ.all gv (pre++[g]) _ (I.step g);simp_all
def JA(os:List Zz)(gv:List Tr):tJ os gv (gv.foldl (bf os) []):=by
 have:=tJ.all (os:=os) gv [] [] ⟨by simp,by simp,λo k h=>by simp[iN] at h⟩;exact this
def JB{gv:List Tr}:f∈twF (gv.foldl (bf os) [])↔∃o k,f=(("twice",[o,k]):Flt)/\1<iN os gv o k:=by
 have I:=JA os gv;unfold twF;rw[Gas];constructor
 .rintro⟨t,ht,rfl⟩;have h:=Gbk.mp ht;have h2:=Gaq h.2;rw[I.ct t h.1] at h2;exact⟨t.1,t.2.1,rfl,by lia⟩
 .rintro⟨o,k,rfl,h⟩;obtain⟨t,ht,rfl,rfl⟩:=I.cv o k (by lia);refine⟨t,Gbk.mpr ⟨ht,GaD ?_⟩,rfl⟩;rw[I.ct t ht];lia
def JC(os:List Zz)(gv:List Tr):(twF (gv.foldl (bf os) [])).Nodup:=by
 have I:=JA os gv;unfold twF;have h:=I.nd;unfold List.Nodup at h⊢;rw[Gcn] at h⊢;refine(h.filter _).imp ?_;intro a b hab hc;lia
def kF(b:Bool)(x:Str)(n h:Int):List Flt:=(kk b x).map λk=>(k,[n,h])
def iP(b:Bool)(x:Str)(n h:Int):(kF b x n h).length<=1:=by
 unfold kF;rw[Gae];exact cI b x
def nV{L:List Flt}(ht:t [e0,e1,U (Z (E n)),U (Z (E h)),e4,e5,e6,e7,U (Y (Q (L.map ag))),e9]=U b)(hl:L.length<100000):
  ifS t (dN 8 (aO (aa (kE (X x)) (aa (vE 2) (aa (vE 3) aX))))) ni [e0,e1,U (Z (E n)),U (Z (E h)),e4,e5,e6,e7,U (Y (Q (L.map ag))),e9]=U (P [e0,e1,U (Z (E n)),U (Z (E h)),e4,e5,e6,e7,U (Y (Q ((L++kF b x n h).map ag))),e9]):=by
 have z:(L.map ag).length<16777216:=by rw[Gae];lia
 have e:(L++kF b x n h).map ag=L.map ag++(kF b x n h).map ag:=by rw[GaC]
 rw[e];cases b with
 |true=>
  generalize L.map ag=Zr at*;simp[ht,kF,kk,af,z,ag]
 |false=>
  simp[ht,kF,kk]
def Gp(gv:List Tr)(o:Int):cB (gN 0) (az eqB (ZE (vE 0) (kE (E 0))) (vE 1)) (vE 0) (gv.map ZD) [J,U (Z (E o))]=U ((gv.filter λt=>decide (t.1=o)).map ZD):=by
 refine fH ZD (λenv=>∃y,env=[y,U (Z (E o))]) (λt=>decide (t.1=o)) ZD gv _ ⟨J,rfl⟩ ?_;rintro t ht env ⟨y,rfl⟩;refine⟨[U (Z (ZD t)),U (Z (E o))],rfl,⟨_,rfl⟩, ?_,λ_=> ⟨.c, ?_, ?_⟩⟩
 .by_cases c:t.1=o<;>simp[ZD,c]
 .simp
 .simp
def JD{o:Zz}(ok:fW o.aP)(ts:List Tr)(k:Int):cB (gN 0) (az eqB (ak jK (aa (vE 1) (aa (ZE (vE 0) (kE (E 1))) aX))) (vE 2)) (vE 0) (ts.map ZD) [J,U (Z (aj o)),U (Z (E k))]=U ((ts.filter λt=>decide (bM o.aP t.2.1=U k)).map ZD):=by
 refine fH ZD (λenv=>∃y,env=[y,U (Z (aj o)),U (Z (E k))]) (λt=>decide (bM o.aP t.2.1=U k)) ZD ts _ ⟨J,rfl⟩ ?_;rintro t ht env ⟨y,rfl⟩;have ed:=nT (h:=t.2.1) ok;have rv:=aV (cn (bM o.aP t.2.1));have hx:ixD (ZD t) (E 1)=U (E t.2.1):=rfl;refine⟨[U (Z (ZD t)),U (Z (aj o)),U (Z (E k))],rfl,⟨_,rfl⟩, ?_,λ_=> ⟨.c, ?_, ?_⟩⟩
 .cases hd:bM o.aP t.2.1 with
  |none=>
   simp_all
  |some j=>
   rw[hd] at ed rv;by_cases c:j=k<;>simp[hx,ed,c]
 .simp
 .simp
def twL(gv:List Tr)(u:mQ)(n h:Int):List Flt:=match bM u h with
 |some k=>if 1<((gv.filter λt=>decide (t.1=n)).filter λt=>decide (bM u t.2.1=U k)).length then[("twice",[n,k])] else[]
 |none=>[]
def nW(ws gv:List Tr)(o:Zz)(s:fU)(zq n h a:Int):List Flt:=
 kF (bC o.aP h) "astray" n h++kF (decide (o.most<a)) "most" n h++kF (decide (a<1)||decide (¬a%s.part=0)) "part" n h++kF (decide (h<zq+s.young)) "young" n h++kF (s.ay.any bH&&(wgt o.ax h ws J).isNone) "weight" n h++twL gv o.aP n h
def Cw(cs:List Cap):cB (gN 0) fK (ZE (vE 0) (kE (E 0))) (cs.map bB) [J]=U (cs.map λc=>match c with| .flat _ _=>X "flat"| .kilo _ _ _=> X "kilo"| .ever _=> X "ever"):=by
 refine dW bB (λenv=>∃y,env=[y]) _ cs [J] ⟨J,rfl⟩ ?_;rintro c hc env ⟨y,rfl⟩;refine⟨_,rfl,⟨_,rfl⟩,.c, ?_, ?_⟩
 .cases c<;>simp[bB]
 .cases c<;>rfl
def Mf:∀(cs:List Cap),inB (X "kilo") (Q (cs.map λc=>match c with| .flat _ _=>X "flat"| .kilo _ _ _=> X "kilo"| .ever _=> X "ever"))=U (cs.any bH):=by
 intro cs;have key:∀cs:List Cap,(cs.map λc=>match c with| .flat _ _=>X "flat"| .kilo _ _ _=> X "kilo"| .ever _=> X "ever").any (λe=>eqD e (X "kilo"))=cs.any bH:=by
  intro cs;induction cs with
  |nil=>rfl
  |cons c cs ih=>
   rw[Gay,GdR,ih];cases c<;>rfl
 have pl:(cs.map λc=>match c with| .flat _ _=>X "flat"| .kilo _ _ _=> X "kilo"| .ever _=> X "ever").all (aJ 10)=O:=by
  rw[GbI,Gar];intro c _;cases c<;>rfl
 show pC _ _=_;unfold pC;rw[pl,key]
 rfl
def Qd{W:List D}{o:Zz}{ws gv:List Tr}(hW:ws.map ZD=W)(hG:gv.map ZD=G)(hO:atD Zq n=U (aj o))(du:fW o.aP)(hS:atD B o.aw=U (aI s))(so:gB s)(hA:atD A o.ax=U (bx gu))(im:(aj o).imm=O)(hl:gv.length<1000):
  lj [N [N A,N B,N C,N Zq],N [N W,N G],E n,E h,E a]=U (Q ((nW ws gv o s gu.2 n h a).map ag)):=by
 have iw:aA W=O:=by rw[<-hW];exact bJ ws
 have ig:aA G=O:=by rw[<-hG];exact bJ gv
 have ew:=gH (ws:=ws) (g:=o.ax) (h:=h);rw[hW] at ew;have ed:=nT (h:=h) du;have rd:=aV (cn (bM o.aP h));have sp:=so.p1;have zG :0<s.part:=by lia
 have cl:=so.cl;have is:=g9 s;have xK :=aV (cn (wgt o.ax h ws J));have kc:=Cw s.ay;have ki:=Mf s.ay;have zc:(s.ay.map bB).length<=16777216:=by rw[Gae];lia
 have ic:=nL s.ay;have sc:=Gp gv n;have zg:(gv.map ZD).length<=16777216:=by rw[Gae];lia
 have dc:=λk=>JD du (gv.filter λt=>decide (t.1=n)) k;have zs:((gv.filter λt=>decide (t.1=n)).map ZD).length<=16777216:=by
  rw[Gae];exact Gbo (GbL _ _) (by lia)
 have isame:=bJ (gv.filter λt=>decide (t.1=n));rw[hG] at sc zg;have p1:ixD (aj o) (E 3)=U (N [X o.way,E o.top,E o.per,E o.most]):=rfl;have p2:ixD (aj o) (E 1)=U (E o.ax):=rfl;have p3:ixD (aj o) (E 2)=U (E o.aw):=rfl;have p3' :ixD (aj o) (E 4)=U (cu o.aP):=rfl;have p4:ixD (aI s) (E 1)=U (N (E s.part::s.more.map E)):=rfl;have p5:ixD (aI s) (E 3)=U (E s.young):=rfl;have p7:ixD (aI s) (E 2)=U (N (s.ay.map bB)):=rfl;have p6:ixD (bx gu) (E 1)=U (E gu.2):=rfl;generalize aj o=OD at*;generalize aI s=SD at*;generalize bx gu=GD at*;generalize hSm:(gv.filter λt=>decide (t.1=n))=sm at*;refine aL rfl ?_;unfold uM;refine sqn (e:=[U (Z (N [N A,N B,N C,N Zq])),U (Z (N [N W,N G])),U (Z (E n)),U (Z (E h)),U (Z (E a)),U (Z OD),J,J,J,J]) (by simp[i8,hO,im]) ?_;refine sqn (e:=[U (Z (N [N A,N B,N C,N Zq])),U (Z (N [N W,N G])),U (Z (E n)),U (Z (E h)),U (Z (E a)),U (Z OD),U (Z SD),J,J,J]) (by simp[p3,hS,is]) ?_;refine sqn (e:=[U (Z (N [N A,N B,N C,N Zq])),U (Z (N [N W,N G])),U (Z (E n)),U (Z (E h)),U (Z (E a)),U (Z OD),U (Z SD),U (Z (bX (bM o.aP h))),J,J]) (by simp[ed,rd]) ?_;refine sqn (e:=[U (Z (N [N A,N B,N C,N Zq])),U (Z (N [N W,N G])),U (Z (E n)),U (Z (E h)),U (Z (E a)),U (Z OD),U (Z SD),U (Z (bX (bM o.aP h))),U (Y (Q (([]:List Flt).map ag))),J]) (by simp[af]) ?_;refine sqn (nV (b:=bC o.aP h) ?_ (by simp)) ?_
 .cases hu:o.aP with
  |asked b=>
   rw[hu] at p3';unfold cu at p3';by_cases c:h<b<;>simp[p3',eqB,bC,c,bM]
  |due b e m ea la=>
   rw[hu] at p3';unfold cu at p3';have ea' :bC (.due b e m ea la) h=(kL b e m ea la h).isNone:=rfl;have eb' :bM (.due b e m ea la) h=kL b e m ea la h:=rfl;rw[ea',eb'];generalize kL b e m ea la h=dk;cases dk<;>simp[p3',eqB,kf,dw]
 have k1:=iP (bC o.aP h) "astray" n h;refine sqn (nV (b:=decide (o.most<a)) (by simp[p1]) (by simp only[Gal,Gbm];lia)) ?_;have k2:=iP (decide (o.most<a)) "most" n h;refine sqn (nV (b:=decide (a<1)||decide (¬a%s.part=0)) ?_ (by simp only[Gal,Gbm];lia)) ?_
 .by_cases c:a<1
  .simp[c]
  .have nn:=Gdb a (b:=s.part) (by lia);by_cases c2:a%s.part=0
   .simp[c,p4,zG,c2]
   .have c3:0<a%s.part:=by lia
    simp[c,p4,zG,c2,c3]
 have k3:=iP (decide (a<1)||decide (¬a%s.part=0)) "part" n h;refine sqn (nV (b:=decide (h<gu.2+s.young)) (by simp[p2,hA,p6,p5]) (by simp only[Gal,Gbm];lia)) ?_;have k4:=iP (decide (h<gu.2+s.young)) "young" n h;refine sqn (nV (b:=s.ay.any bH&&(wgt o.ax h ws J).isNone) ?_ (by simp only[Gal,Gbm];lia)) ?_
 .generalize s.ay.any bH=bk at*;generalize s.ay.map bB=CC at*;cases bk with
  |false=>simp[-cB,af,DL.Zx,dh,p7,ic,zc,kc,ki]
  |true=>
   simp[-cB,af,DL.Zx,dh,p7,ic,zc,kc,ki,p2,ew,xK,iw];cases wgt o.ax h ws J<;>simp[kf,dw]
 have k5:=iP (s.ay.any bH&&(wgt o.ax h ws J).isNone) "weight" n h;generalize hL:[]++kF (bC o.aP h) "astray" n h++kF (decide (o.most<a)) "most" n h++kF (decide (a<1)||decide (¬a%s.part=0)) "part" n h++kF (decide (h<gu.2+s.young)) "young" n h++kF (s.ay.any bH&&(wgt o.ax h ws J).isNone) "weight" n h=L;have zL:L.length<=5:=by rw[<-hL];simp only[Gal,Gbm];lia
 have eo:nW ws gv o s gu.2 n h a=L++twL gv o.aP n h:=by
  rw[<-hL];unfold nW;simp only[GbV]
 rw[eo];generalize hSD:sm.map ZD=S at*;refine sqn (e:=[U (Z (N [N A,N B,N C,N Zq])),U (Z (N [N W,N G])),U (Z (E n)),U (Z (E h)),U (Z (E a)),U (Z OD),U (Z SD),U (Z (bX (bM o.aP h))),U (Y (Q (L.map ag))),U (Y (Q S))]) (by simp[-cB,af,DL.Zx,dh,ig,zg,sc]) ?_;have fin:∀R:List Flt,aA ((L++R).map ag)=O:=λR=>bW _;have zM:(L.map ag).length<16777216:=by rw[Gae];lia
 refine sqn (e:=[U (Z (N [N A,N B,N C,N Zq])),U (Z (N [N W,N G])),U (Z (E n)),U (Z (E h)),U (Z (E a)),U (Z OD),U (Z SD),U (Z (bX (bM o.aP h))),U (Y (Q ((L++twL gv o.aP n h).map ag))),U (Y (Q S))]) ?_ ?_
 .unfold twL;rw[hSm];cases hd:bM o.aP h with
  |none=>simp[iX,dw]
  |some k=>
   have Y7:=dc k;dsimp only;generalize hq:(sm.filter λt=>decide (bM o.aP t.2.1=U k))=qs at*;rw[GaC];generalize L.map ag=Zr at*;by_cases c:1<qs.length
   .have c' :(1:Int)<((qs.map ZD).length:Int):=by rw[Gae];lia
    rw[Gao c];generalize qs.map ZD=ZV at*;simp[-cB,af,DL.Zx,dh,iX,dw,Y7,zs,c',zM,ag]
   .have c' :¬(1:Int)<((qs.map ZD).length:Int):=by rw[Gae];lia
    rw[Gai c];generalize qs.map ZD=ZV at*;simp[-cB,af,DL.Zx,dh,iX,dw,Y7,zs,c']
 .have:=fin (twL gv o.aP n h);generalize (L++twL gv o.aP n h).map ag=R at*;simp[this]
def gc(w:World)(ws gv:List Tr)(t:Tr):List Flt:=match w.Zs[t.1.toNat]? with
 |some o=>match w.ar[o.aw.toNat]?,w.bN[o.ax.toNat]? with
  |some s,U g=>nW ws gv o s g.2 t.1 t.2.1 t.2.2++iM w.Zs ws gv o t.2.1 0 s.ay++gv.flatMap (nrT w.Zs w.br t.1 t.2.1)
  |_,_=>[]
 |none=>[]
def T7{F:List D}(Wu:wd= N [N A,N B,N C,N Zq])(hO:atD Zq n=U OD)(p1:ixD OD (E 1)=U (E g))(p2:ixD OD (E 2)=U (E s))(h1:lj [wd,bk,E n,E h,E a]=U (Q F1))(h2:iF [wd,bk,E g,E s,E h]=U (Q F2))(h3:iG [wd,bk,E n,E h]=U (Q F3))(hz:F.length+F1.length+F2.length+F3.length<100000):
  fj [U (Z wd),U (Z bk),U (Y (Q F)),U (Z (E n)),U (Z (E h)),U (Z (E a))]=U (P [U (Z wd),U (Z bk),U (Y (Q (F++(F1++F2++F3)))),U (Z (E n)),U (Z (E h)),U (Z (E a))]):=by
 have z1:F.length+F1.length<=16777216:=by lia
 have z2:(F++F1).length+F2.length<=16777216:=by rw[Gal];lia
 have z3:(F++F1++F2).length+F3.length<=16777216:=by rw[Gal,Gal];lia
 have hx:ixD wd (E 3)=U (N Zq):=by rw[Wu];rfl
 have ea:F++(F1++F2++F3)=F++F1++F2++F3:=by simp
 rw[ea];refine sqn (by simp[h1,z1,af];rfl) ?_;generalize F++F1=G1 at*;refine sqn (by simp[hx,hO,p1,p2,h2,z2,af];rfl) ?_;generalize G1++F2=G2 at*;simp[h3,z3,af]
def d6{w:World}{n:Int}(W:aH w)(h0:0<=n)(h1:n<w.Zs.length):∃o s g,w.Zs[n.toNat]? =U o/\w.ar[o.aw.toNat]? =U s/\w.bN[o.ax.toNat]? =U g/\gB s/\nM w.bN.length w.ar.length o/\atD (w.Zs.map aj) n=U (aj o)/\atD (w.ar.map aI) o.aw=U (aI s)/\atD (w.bN.map bx) o.ax=U (bx g):=by
 obtain⟨i,hi⟩:=GaH h0;have xb :i<w.Zs.length:=by lia
 have ok:=W.oo w.Zs[i] (GaA xb);obtain⟨j,hj⟩:=GaH ok.s0;obtain⟨k,hk⟩:=GaH ok.g0;have sl:=ok.s1;have gl:=ok.g1;have hj' :j<w.ar.length:=by lia
 have xw :k<w.bN.length:=by lia
 refine⟨w.Zs[i],w.ar[j],w.bN[k], ?_, ?_, ?_,W.so _ (GaA hj'),ok, ?_, ?_, ?_⟩
 .simp_all
 .simp_all
 .simp_all
 .rw[hi,bO,Gap,Gac xb]
  rfl
 .rw[hj,bO,Gap,Gac hj']
  rfl
 .rw[hk,bO,Gap,Gac xw]
  rfl
def El(gv:List Tr)(u:mQ)(n h:Int):(twL gv u n h).length<=1:=by
 unfold twL;split
 .split<;>simp
 .simp
def sG(ws gv:List Tr)(o:Zz)(s:fU)(b n h a:Int):(nW ws gv o s b n h a).length<=6:=by
 unfold nW;have k1:=iP (bC o.aP h) "astray" n h;have k2:=iP (decide (o.most<a)) "most" n h;have k3:=iP (decide (a<1)||decide (¬a%s.part=0)) "part" n h;have k4:=iP (decide (h<b+s.young)) "young" n h;have k5:=iP (s.ay.any bH&&(wgt o.ax h ws J).isNone) "weight" n h;have k6:=El gv o.aP n h;simp only[Gal];lia
theorem wC{w:World}{ws gv:List Tr}(W:aH w)(hg:bQ w.Zs.length gv)(hl:gv.length<64):∀ts fs x3 x4 x5,bQ w.Zs.length ts->fs.length+800*ts.length<60000->∃y3 y4 y5,
  Zw (gT [3,4,5]) fj (ts.map ZD) [U (Z (aE w)),U (Z (N [N (ws.map ZD),N (gv.map ZD)])),U (Y (Q (fs.map ag))),x3,x4,x5]=
   U (P [U (Z (aE w)),U (Z (N [N (ws.map ZD),N (gv.map ZD)])),U (Y (Q ((fs++ts.flatMap (gc w ws gv)).map ag))),y3,y4,y5])
 |[],fs,x3,x4,x5,_,_=> ⟨x3,x4,x5,by simp⟩
 |t::ts,fs,x3,x4,x5,ht,hz=>by
  rw[GaF] at hz;have g0:=ht t Gaj;obtain⟨o,s,g,e1,e2,e3,so,ok,hO,hS,hG⟩:=d6 W g0.1 g0.2;have h1:=Qd (C:=w.br.map ZD) (ws:=ws) (gv:=gv) (h:=t.2.1) (a:=t.2.2) rfl rfl hO ok.du hS so hG (cF _ ok.ti) (by lia);have h2:=Gi W (ws:=ws) hg (h:=t.2.1) so hS;have h3:=Gn W (bkW:= N (ws.map ZD)) hg hl (h:=t.2.1) g0.1 g0.2;have l1:=sG ws gv o s g.2 t.1 t.2.1 t.2.2;have l2:=gY w.Zs ws gv o t.2.1 0 s.ay;have cl:=so.cl;have b12:=W.b12;have l3:(gv.flatMap (nrT w.Zs w.br t.1 t.2.1)).length<=gv.length*12:=lx _ 12 gv λu _=>Gbo (Ej ..) b12;have ev:=T7 (F:=fs.map ag) rfl hO rfl rfl h1 h2 h3 (by simp only[Gae];lia);have ef:gc w ws gv t=nW ws gv o s g.2 t.1 t.2.1 t.2.2++iM w.Zs ws gv o t.2.1 0 s.ay++gv.flatMap (nrT w.Zs w.br t.1 t.2.1):=by
   unfold gc;simp_all
  rw[<-GaC,<-GaC,<-GaC,<-ef] at ev;have lf:(gc w ws gv t).length<=800:=by
   rw[ef];simp only[Gal];lia
  obtain⟨y3,y4,y5,e⟩:=wC W hg hl ts (fs++gc w ws gv t) (U (Z (E t.1))) (U (Z (E t.2.1))) (U (Z (E t.2.2))) (λx hx=>ht x (Gaf _ hx)) (by rw[Gal];lia);refine⟨y3,y4,y5, ?_⟩;rw[Gay,GaY,<-Gbd];have ed:ZD t= N [E t.1,E t.2.1,E t.2.2]:=rfl;have ew:N [N (w.bN.map bx),N (w.ar.map aI),N (w.br.map ZD),N (w.Zs.map aj)]=aE w:=rfl;rw[ew] at ev;rw[ed];simp only[Zw,gT,gNs,GaK,GaL,Option.bind_some,ev];exact e
def JE(e:Zw (gT [3,4,5]) fj G [U (Z wd),U (Z (N [bkW,N G])),U (Y (Q [])),J,J,J]=U (P [U (Z wd),U (Z (N [bkW,N G])),U (Y (Q F)),y3,y4,y5]))(ok:rQ F=O)(hR:bG (oD F)=R)(im:aA R=O):bA [wd,N [bkW,N G]]=U (Q R):=by
 refine aL rfl ?_;refine sqn (by simp;rfl) ?_;simp[e,nF,ok,hR,im]
theorem B7:∀(ds acc:List D),acc≠[]->ds.foldl kC acc≠[]
 |[],acc,h=>h
 |d::ds,acc,h=>by
  refine B7 ds _ ?_;unfold kC;split
  .exact h
  .simp
def Mg(ds:List D):oD ds=[]↔ds=[]:=by
 constructor
 .intro h;cases ds with
  |nil=>rfl
  |cons d ds=>exact absurd h (B7 ds [d] (by simp))
 .rintro rfl;rfl
def Qe(ds:List D):∀x∈oD ds,x∈ds:=by
 have key:∀(ds acc:List D) x,x∈ds.foldl kC acc->x∈acc\/x∈ds:=by
  intro ds;induction ds with
  |nil=>intro acc x hx;exact .inl hx
  |cons d ds ih=>
   intro acc x hx;rcases ih _ x hx with h|h
   .unfold kC at h;split at h
    .exact .inl h
    .rcases Gau.mp h with h|h
     .exact .inl h
     .rw[GaU.mp h];simp_all
   .simp_all
 intro x hx;rcases key ds [] x hx with h|h
 .cases h
 .exact h
def JF(L:List Flt)(hl:L.length<64):rQ (L.map ag)=O:=by
 have h1:((L.map ag).all λd=>vL d&&imN 4 d)=O:=by
  rw[GbI,Gar];intro f _;show(O&&(imN 3 (X f.1)&&(f.2.map E).all (imN 3)))=O;have:(f.2.map E).all (imN 3)=O:=by
   rw[GbI,Gar];intro i _
   rfl
  rw[this];rfl
 unfold rQ;rw[h1,B3,GaD (by rw[Gae];exact hl)]
 rfl
def iQ(h:∀d∈ds,d.imm=O):aA ds=O:=kJ (λ_ h=>h) h
def pZ{w:World}{ws gv:List Tr}(W:aH w)(hg:bQ w.Zs.length gv)(hl:gv.length<64)(hL:(gv.flatMap (gc w ws gv)).length<64):∃R,bA [aE w,N [N (ws.map ZD),N (gv.map ZD)]]=U (Q R)/\(R=[]↔gv.flatMap (gc w ws gv)=[]):=by
 obtain⟨y3,y4,y5,e⟩:=wC W hg hl gv [] J J J hg (by simp;lia);rw[GbV] at e;have ok:=JF _ hL;generalize gv.flatMap (gc w ws gv)=L at*;refine⟨_,JE e ok rfl ?_, ?_⟩
 .refine iQ λd hd=> ?_;obtain⟨f,_,rfl⟩:=Gas.mp (Qe _ d ((bT _).mem_iff.mp hd));have:=nJ f.2;simp[ag,this]
 .constructor
  .intro h;have p:=bT (oD (L.map ag));rw[h] at p;have:=(Mg _).mp p.symm.eq_nil;simp_all
  .rintro rfl
   rfl
def gf(h:f∈dY ws c g s k r):∃top,f=((("cap",[g,s,k,r.1,r.2,top]):Flt)):=by
 unfold dY at h;split at h
 .split at h
  .exact⟨_,GaU.mp h⟩
  .simp at h
 .simp at h
def gk{ms:List (Int×Int)}:f∈jX ws g s k c ms↔∃h∈ms.map (·.1),f∈dY ws c g s k (h,jq c ms h):=by
 unfold jX;rw[GaQ];constructor
 .rintro⟨r,hr,hf⟩;obtain⟨h,hh,rfl⟩:=Gas.mp hr;exact⟨h,((jM (ms.map (·.1))).2.1 h).mp hh,hf⟩
 .rintro⟨h,hh,hf⟩;exact⟨_,Gas.mpr ⟨h,((jM (ms.map (·.1))).2.1 h).mpr hh,rfl⟩,hf⟩
theorem gZ:∀cs k,f∈gJ ws g s ms k cs↔∃j c,cs[j]? =U c/\f∈jX ws g s ((k+j:Nat):Int) c ms
 |[],k=>by simp[gJ]
 |c::cs,k=>by
  unfold gJ;rw[Gau,gZ cs (k+1)];constructor
  .rintro(h| ⟨j,c',h1,h2⟩)
   .exact⟨0,c,rfl,h⟩
   .exact⟨j+1,c',by simpa using h1,by rw[show k+(j+1)=k+1+j by lia];exact h2⟩
  .rintro⟨j,c',h1,h2⟩;cases j with
   |zero=>simp at h1;subst h1;exact .inl h2
   |succ j=>exact .inr ⟨j,c',by simpa using h1,by rw[show k+1+j=k+(j+1) by lia];exact h2⟩
theorem ly{os:List Zz}{ws gv:List Tr}{o:Zz}{h:Int}:∀cs k,f∈iM os ws gv o h k cs↔∃j c,cs[j]? =U c/\f∈dY ws c o.ax o.aw ((k+j:Nat):Int) (h,fD os c (o.ax,o.aw) h gv)
 |[],k=>by simp[iM]
 |c::cs,k=>by
  unfold iM;rw[Gau,ly cs (k+1)];constructor
  .rintro(h| ⟨j,c',h1,h2⟩)
   .exact⟨0,c,rfl,h⟩
   .exact⟨j+1,c',by simpa using h1,by rw[show k+(j+1)=k+1+j by lia];exact h2⟩
  .rintro⟨j,c',h1,h2⟩;cases j with
   |zero=>simp at h1;subst h1;exact .inl h2
   |succ j=>exact .inr ⟨j,c',by simpa using h1,by rw[show k+1+j=k+(j+1) by lia];exact h2⟩
def JG{w:World}{gv:List Tr}{st:List Tg}(W:aH w)(I:lH w.Zs gv st)(hg:bQ w.Zs.length gv)(f:Flt):f∈gv.flatMap (ovT w ws gv)↔f∈st.flatMap (tgF w.ar ws):=by
 have at_:∀t∈gv,∃o,w.Zs[t.1.toNat]? =U o/\tk w.Zs t=(o.ax,o.aw):=λt ht=>by
  have g0:=hg t ht;obtain⟨n,hn⟩:=GaH g0.1;have xh :n<w.Zs.length:=by lia
  have e:w.Zs[t.1.toNat]? =U w.Zs[n]:=by rw[hn,Gbw,Gac xh]
  exact⟨_,e,by unfold tk;rw[e]⟩
 have key:∀e∈st,∀c h,jq c e.2 h=fD w.Zs c e.1 h gv:=λe he c h=>by rw[sF,<-I.ms e he]
 rw[GaQ,GaQ];constructor
 .rintro⟨t,ht,hf⟩;obtain⟨o,ho,hk⟩:=at_ t ht;obtain⟨e,he,ek⟩:=Gas.mp (I.cov t ht);refine⟨e,he, ?_⟩;unfold ovT at hf;rw[ho] at hf;obtain⟨j,c,h1,h2⟩:=(ly _ 0).mp hf;have e1:=ek.trans hk;unfold tgF;rw[gZ];rw[e1];refine⟨j,c,h1,gk.mpr ⟨t.2.1, ?_, ?_⟩⟩
  .rw[I.ms e he,GaN];exact Gas.mpr ⟨t,Gbk.mpr ⟨ht,GaD ek.symm⟩,rfl⟩
  .rw[key e he,e1];exact h2
 .rintro⟨e,he,hf⟩;obtain⟨j,c,h1,h2⟩:=(gZ _ 0).mp hf;obtain⟨h,hh,h3⟩:=gk.mp h2;rw[I.ms e he,GaN] at hh;obtain⟨t,ht,rfl⟩:=Gas.mp hh;obtain⟨XH,hU⟩:=Gbk.mp ht;have hU:=Gaq hU;obtain⟨o,ho,hk⟩:=at_ t XH;have e1:=hU.symm.trans hk;refine⟨t,XH, ?_⟩;unfold ovT;rw[ho];rw[ly];rw[key e he,e1] at h3;rw[e1] at h1;exact⟨j,c,h1,h3⟩
def Apart(w:World)(r l:Int×Int):Prop:=∀a b,w.Zs[r.2.toNat]? =U a->w.Zs[l.2.toNat]? =U b->mS (w.br.foldl aT []) a b<=l.1 -r.1\/mS (w.br.foldl aT []) a b<=r.1 -l.1
structure Snd(w:World)(ws gv:List Tr):Prop where
 MK:∀t∈gv,c6 w ws t=[]
 over:∀t∈gv,ovT w ws gv t=[]
 gap:(gvR gv).Pairwise (Apart w)
 cnt:∀o k,iN w.Zs gv o k<=1
def JH{w:World}(W:aH w)(a b:Zz):mS (w.br.foldl aT []) a b=mS (w.br.foldl aT []) b a:=by
 have le:=λb hb=>(W.bo.1 b hb).2.1;have m:∀x y,mt x y=mt y x:=λx y=>by
  funext c
  unfold mt;rw[decide_eq_decide];exact or_comm
 unfold mS;by_cases c:a.ax=b.ax
 .rw[Gao c,Gao c.symm,jO _ _ _ _ le W.bo.2,jO _ _ _ _ le W.bo.2,m]
  rfl
 .rw[Gai c,Gai λz=>c z.symm]
theorem Apart.symm(W:aH w)(h:Apart w r l):Apart w l r:=λa b ha hb=>by
 rw[JH W];exact(h b a hb ha).symm
def B8{w:World}(hl:r.1<=l.1):gpF w.Zs (w.br.foldl aT []) r l=[]↔Apart w r l:=by
 unfold gpF Apart;constructor
 .intro h a b ha hb;simp_all
 .intro h;split
  .rename_i a b ha hb;rw[Gai];have:=h a b ha hb;lia
  .rfl
theorem Em(F:Int×Int->Int×Int->List Flt):∀rs,prs F rs=[]↔rs.Pairwise λr l=>F r l=[]
 |[]=>by simp[prs]
 |r::rs=>by
  unfold prs;rw[Gcg,GaV,Em F rs,Gbx]
def nil_of{α:Type}{l:List α}(h:∀x,¬x∈l):l=[]:=GdM.mpr h
def mV{gv:List Tr}{n:Int}{o:Zz}(h:os[n.toNat]? =U o)(k:Int):((gv.filter λt=>decide (t.1=n)).filter λt=>decide (bM o.aP t.2.1=U k)).length=iN os gv n k:=by
 rw[List.filter_filter];congr 1;apply List.filter_congr;intro t _;unfold pY Cv;by_cases c:t.1=n
 .simp_all
 .simp[c]
def B9{w:World}{o:Zz}(e1:w.Zs[t.1.toNat]? =U o)(e2:w.ar[o.aw.toNat]? =U s)(e3:w.bN[o.ax.toNat]? =U g):nW ws gv o s g.2 t.1 t.2.1 t.2.2=[]↔c6 w ws t=[]/\twL gv o.aP t.1 t.2.1=[]:=by
 unfold nW c6;rw[e1];dsimp only;rw[e2,e3];unfold jL kF;simp only[Gcg,GaC];constructor
 .rintro⟨⟨⟨⟨⟨a,b⟩,c⟩,d⟩,e⟩,f⟩;exact⟨⟨⟨⟨⟨a,b⟩,c⟩,e⟩,d⟩,f⟩
 .rintro⟨⟨⟨⟨⟨a,b⟩,c⟩,e⟩,d⟩,f⟩;exact⟨⟨⟨⟨⟨a,b⟩,c⟩,d⟩,e⟩,f⟩
theorem Cy{α:Type}{R:α->α->Prop}(sy:∀a b,R a b->R b a):∀{l:List α},l.Pairwise R->∀a∈l,∀b∈l,a≠b->R a b
 |[],_,a,ha,_,_,_=>absurd ha (by simp)
 |x::l,h,a,ha,b,hb,ne=>by
  rw[GaV] at h;rcases Gat.mp ha with e1|h1
  .rcases Gat.mp hb with e2|h2
   .simp_all
   .rw[e1];exact h.1 b h2
  .rcases Gat.mp hb with e2|h2
   .simp_all
   .exact Cy sy h.2 a h1 b h2 ne
def kO(q:fY h o l u=O):h<=l/\¬(h=l/\o=u):=by
 unfold fY at q;rw[GaX,Gah,GcG,GcG,GcG] at q;lia
def Qf(q:¬(h=l/\o=u)):fY h o l u=O\/fY l u h o=O:=by
 unfold fY
 grind
def ql{w:World}{gv:List Tr}(W:aH w)(hg:bQ w.Zs.length gv)(nd:(gvR gv).Nodup):gv.flatMap (gc w ws gv)=[]↔Snd w ws gv:=by
 have le:=λb hb=>(W.bo.1 b hb).2.1;rw[Gbx];have each:∀t∈gv,(gc w ws gv t=[]↔(c6 w ws t=[]/\∃o,w.Zs[t.1.toNat]? =U o/\twL gv o.aP t.1 t.2.1=[])/\ovT w ws gv t=[]/\∀u∈gv,nrT w.Zs w.br t.1 t.2.1 u=[]):=λt ht=>by
  obtain⟨o,s,g,e1,e2,e3,so,ok,_⟩:=d6 W (hg t ht).1 (hg t ht).2;have lo:=B9 (ws:=ws) (gv:=gv) e1 e2 e3;unfold gc ovT;simp_all
 have gp:∀r l:Int×Int,r.1<=l.1->(uY w.Zs w.br r l=[]↔Apart w r l):=λr l hl=>by
  rw[nU le W.bo.2 hl];exact B8 hl
 constructor
 .intro h;refine⟨λt ht=>((each t ht).mp (h t ht)).1.1,λt ht=>((each t ht).mp (h t ht)).2.1, ?_,λn k=> ?_⟩
  .have all:∀r∈gvR gv,∀l∈gvR gv,r≠l->Apart w r l:=λr hr l hl ne=>by
    obtain⟨t,ht,rfl⟩:=Gas.mp hr;obtain⟨u,hu,rfl⟩:=Gas.mp hl;have ne' :¬(t.2.1=u.2.1/\t.1=u.1):=λz=>ne (by rw[z.1,z.2]);rcases Qf ne' with q|q
    .have:=((each t ht).mp (h t ht)).2.2 u hu;unfold nrT at this;rw[q] at this;exact(gp (t.2.1,t.1) (u.2.1,u.1) (kO q).1).mp this
    .have:=((each u hu).mp (h u hu)).2.2 t ht;unfold nrT at this;rw[q] at this;exact Apart.symm W ((gp (u.2.1,u.1) (t.2.1,t.1) (kO q).1).mp this)
   exact(GcQ.mp nd).imp λ{a b} z=>all a z.1 b z.2.1 z.2.2
  .by_cases c:iN w.Zs gv n k<=1
   .exact c
   .have cp:0<iN w.Zs gv n k:=by lia
    obtain⟨t,ht⟩:=List.exists_mem_of_length_pos cp;have h1:=Gbk.mp ht;have h2:=h1.2;unfold pY at h2;rw[Gah] at h2;have q2:=Gaq h2.2;obtain⟨o,eo,tw⟩:=((each t h1.1).mp (h t h1.1)).1.2;unfold Cv at q2;rw[eo] at q2;have q3:bM o.aP t.2.1=U k:=q2;unfold twL at tw;rw[q3] at tw;dsimp only at tw;rw[mV eo,Gao (by lia)] at tw;cases tw
 .intro S t ht;refine(each t ht).mpr ⟨⟨S.MK t ht, ?_⟩,S.over t ht,λu hu=> ?_⟩
  .obtain⟨o,s,g,e1,_⟩:=d6 W (hg t ht).1 (hg t ht).2;refine⟨o,e1, ?_⟩;unfold twL;split
   .rename_i k hk;rw[mV e1,Gai];have:=S.cnt t.1 k;lia
   .rfl
  .unfold nrT;split
   .rename_i q;have lq:=kO q;refine(gp (t.2.1,t.1) (u.2.1,u.1) lq.1).mpr ?_;have hr:(t.2.1,t.1)∈gvR gv:=Gas.mpr ⟨t,ht,rfl⟩;have hl:(u.2.1,u.1)∈gvR gv:=Gas.mpr ⟨u,hu,rfl⟩;exact Cy (λa b z=>Apart.symm W z) S.gap _ hr _ hl λz=>lq.2 (by injection z with z1 z2;exact⟨z1,z2⟩)
   .rfl
def wD:(jX ws g s k c ms).Nodup:=by
 unfold jX;have hp:=(jM (ms.map (·.1))).1;generalize k9 (ms.map (·.1))=hs at*;induction hs with
 |nil=>simp
 |cons h hs ih=>
  rw[GaV] at hp;rw[Gay,GaY,GaW];refine⟨?_,ih hp.2,λa ha b hb e=> ?_⟩
  .unfold dY;split
   .split<;>simp
   .simp
  .obtain⟨t1,rfl⟩:=gf ha;obtain⟨r,hr,hb⟩:=GaQ.mp hb;obtain⟨h',Wx,rfl⟩:=Gas.mp hr;obtain⟨t2,rfl⟩:=gf hb;have:=hp.1 h' Wx;lia
theorem pO:∀cs k,(gJ ws g s ms k cs).Nodup
 |[],k=>by simp[gJ]
 |c::cs,k=>by
  unfold gJ;rw[GaW];refine⟨wD,pO cs (k+1),λa ha b hb e=> ?_⟩;obtain⟨h,_,ha⟩:=gk.mp ha;obtain⟨t1,rfl⟩:=gf ha;obtain⟨j,c',_,hb⟩:=(gZ cs (k+1)).mp hb;obtain⟨h',_,hb⟩:=gk.mp hb;obtain⟨t2,rfl⟩:=gf hb;lia
def uZ(h:f∈gJ ws g s ms k cs):∃r,f.2=g::s::r:=by
 obtain⟨j,c',_,hb⟩:=(gZ cs k).mp h;obtain⟨h',_,hb⟩:=gk.mp hb;obtain⟨t2,rfl⟩:=gf hb;exact⟨_,rfl⟩
theorem Ba:∀st:List Tg,(st.map (·.1)).Nodup->(st.flatMap (tgF ss ws)).Nodup
 |[],_=>by simp
 |e::st,h=>by
  rw[Gay,Gbb] at h;rw[GaY,GaW];refine⟨pO _ _,Ba st h.2,λa ha b hb e' => ?_⟩;obtain⟨r1,h1⟩:=uZ ha;obtain⟨e2,xS,hb⟩:=GaQ.mp hb;obtain⟨r2,h2⟩:=uZ hb;rw[e',h2] at h1;injection h1 with q1 q2
  injection q2 with q3 _
  exact h.1 (Gas.mpr ⟨e2,xS,Prod.ext q1 q3⟩)
def Mh(ne:a≠b)(h:ltC (DL.code (mk2 b)) (DL.code (mk2 a))=M):fY a.1 a.2 b.1 b.2=O:=by
 obtain⟨a1,a2⟩:=a;obtain⟨b1,b2⟩:=b;have e1:∀x y:Int,DL.code (mk2 (x,y))=[[1,x],[1,y]]:=λ_ _=>rfl;rw[e1,e1] at h;unfold ltC at h;unfold fY;by_cases c1:b1=a1
 .subst c1;by_cases c2:b2=a2
  .simp_all
  .simp[dO,ltI,c2] at h;lia
 .simp[dO,ltI,c1] at h;lia
def Bb{eA:List (Int×Int)}(r1:bG ((gvR gv).map mk2)=eA.map mk2)(nd:eA.Nodup):eA.Pairwise λa b=>fY a.1 a.2 b.1 b.2=O:=by
 have hs:=cR ((gvR gv).map mk2);rw[r1] at hs;unfold fc at hs;rw[Gcn] at hs;exact(hs.and nd).imp λ{a b} q=>Mh q.2 q.1
theorem wF:∀{rs},(rs.Pairwise λa b=>fY a.1 a.2 b.1 b.2=O)->(f∈prs F rs↔∃a∈rs,∃b∈rs,fY a.1 a.2 b.1 b.2=O/\f∈F a b)
 |[],_=>by simp[prs]
 |r::rs,h=>by
  rw[GaV] at h;unfold prs;rw[Gau,wF h.2,GaQ];constructor
  .rintro(⟨b,hb,hf⟩| ⟨a,ha,b,hb,hl,hf⟩)
   .exact⟨r,Gaj,b,Gaf _ hb,h.1 b hb,hf⟩
   .exact⟨a,Gaf _ ha,b,Gaf _ hb,hl,hf⟩
  .rintro⟨a,ha,b,hb,hl,hf⟩;rcases Gat.mp ha with e1|h1
   .rw[e1] at hl hf;rcases Gat.mp hb with e2|h2
    .have:=kO hl;lia
    .exact .inl ⟨b,h2,hf⟩
   .rcases Gat.mp hb with e2|h2
    .rw[e2] at hl;have h3:=h.1 a h1;unfold fY at h3 hl;simp at h3 hl;lia
    .exact .inr ⟨a,h1,b,h2,hl,hf⟩
def oO{gs:List Tr}{r:Int×Int}(h:f∈gpF os gs r l):f=(("gap",[r.2,r.1,l.2,l.1]):Flt):=by
 unfold gpF at h;split at h
 .simp_all
 .cases h
def Qg(os:List Zz)(gs:List Tr)(r l:Int×Int):(gpF os gs r l).Nodup:=by
 unfold gpF;split
 .split<;>simp
 .simp
theorem JI{os:List Zz}{gs:List Tr}(r:Int×Int):∀{rs:List (Int×Int)},rs.Nodup->(rs.flatMap (gpF os gs r)).Nodup
 |[],_=>by simp
 |l::rs,h=>by
  rw[Gbb] at h;rw[GaY,GaW];refine⟨Qg ..,JI r h.2,λa ha b hb e=> ?_⟩;obtain⟨l',yA,hb⟩:=GaQ.mp hb;have e1:=oO ha;have e2:=oO hb
  grind
theorem JJ{os:List Zz}{gs:List Tr}:∀{rs},rs.Nodup->(prs (gpF os gs) rs).Nodup
 |[],_=>by simp[prs]
 |r::rs,h=>by
  rw[Gbb] at h;unfold prs;rw[GaW];refine⟨JI r h.2,JJ h.2,λa ha b hb e=> ?_⟩;obtain⟨l,hl,ha⟩:=GaQ.mp ha;have e1:=oO ha;have key:∀rs:List (Int×Int),b∈prs (gpF os gs) rs->∃r' ∈rs,∃l' :Int×Int,b=(("gap",[r'.2,r'.1,l'.2,l'.1]):Flt):=by
   intro rs;induction rs with
   |nil=>intro q;unfold prs at q;cases q
   |cons x xs ih=>
    intro q;rcases Gau.mp q with q|q
    .obtain⟨l',_,q⟩:=GaQ.mp q;exact⟨x,Gaj,l',oO q⟩
    .obtain⟨r',h1,h2⟩:=ih q;exact⟨r',Gaf _ h1,h2⟩
  obtain⟨r',ym,l',e2⟩:=key rs hb
  grind
def sI(b:Bool)(x:Str):List.Sublist (kk b x) [x]:=by cases b<;>simp[kk]
noncomputable def oP:List Str:=["astray","most","part","weight","young"]
def v8(o:Zz)(s:fU)(b:Int)(ws:List Tr)(t:Tr):List.Sublist (jL o s b ws t) oP:=by
 exact((((sI _ _).append (sI _ _)).append (sI _ _)).append (sI _ _)).append (sI _ _)
def JK:oP.Nodup:=by
 unfold oP;simp
def nX(h:f∈c6 w ws t):f.1∈oP/\f.2=[t.1,t.2.1]:=by
 unfold c6 at h;split at h
 .split at h
  .obtain⟨k,hk,rfl⟩:=Gas.mp h;exact⟨(v8 ..).subset hk,rfl⟩
  .cases h
 .cases h
def JL(w:World)(ws:List Tr)(t:Tr):(c6 w ws t).Nodup:=by
 unfold c6;split
 .split
  .rename_i o _ _ _ s g _ _;have h:=(v8 o s g.2 ws t).nodup JK;unfold List.Nodup at h⊢;rw[Gcn];simp_all
  .simp
 .simp
theorem Bc:∀{gv},(gvR gv).Nodup->(gv.flatMap (c6 w ws)).Nodup
 |[],_=>by simp
 |t::gv,h=>by
  unfold gvR at h;rw[Gay,Gbb] at h;rw[GaY,GaW];refine⟨JL ..,Bc h.2,λa ha b hb e=> ?_⟩;obtain⟨u,hu,hb⟩:=GaQ.mp hb;have e1:=(nX ha).2;have e2:=(nX hb).2;rw[e,e2] at e1;simp only[GcY,and_true] at e1;exact h.1 (Gas.mpr ⟨u,hu,by rw[e1.1,e1.2]⟩)
def JM{w:World}{st:List Tg}(h:f∈st.flatMap (tgF w.ar ws)):f.1="cap":=by
 obtain⟨e,_,h⟩:=GaQ.mp h;obtain⟨j,c',_,h⟩:=(gZ _ 0).mp h;obtain⟨h',_,h⟩:=gk.mp h;obtain⟨t2,rfl⟩:=gf h
 rfl
def Cz{gs:List Tr}{rs:List (Int×Int)}(hr:rs.Pairwise λa b=>fY a.1 a.2 b.1 b.2=O)(h:f∈prs (gpF os gs) rs):f.1="gap":=by
 obtain⟨a,_,b,_,_,h⟩:=(wF hr).mp h;rw[oO h]
def JN{gv:List Tr}(h:f∈twF (gv.foldl (bf os) [])):f.1="twice":=by
 obtain⟨o,k,rfl,_⟩:=JB.mp h
 rfl
def JO(h:x∈oP):x≠"cap"/\x≠"gap"/\x≠"twice":=by
 unfold oP at h;simp only[Gat,GbE,Gdi] at h;rcases h with rfl|rfl|rfl|rfl|rfl<;>simp
def Mi{w:World}{gv:List Tr}{st:List Tg}{eA:List (Int×Int)}(I:lH w.Zs gv st)(nd:(gvR gv).Nodup)(r2:eA.Perm (gvR gv))(r1:bG ((gvR gv).map mk2)=eA.map mk2):
  (st.flatMap (tgF w.ar ws)++prs (gpF w.Zs (w.br.foldl aT [])) eA++twF (gv.foldl (bf w.Zs) [])++gv.flatMap (c6 w ws)).Nodup:=by
 have rn:=r2.nodup_iff.mpr nd;have lr:=Bb r1 rn;have n1:(Str.ofString "cap")≠Str.ofString "gap":=by simp
 have n2:(Str.ofString "cap")≠Str.ofString "twice":=by simp
 have n3:(Str.ofString "gap")≠Str.ofString "twice":=by simp
 rw[GaW,GaW,GaW];refine⟨⟨⟨Ba st I.nd,JJ rn,λa ha b hb e=> ?_⟩,JC _ _,λa ha b hb e=> ?_⟩,Bc nd,λa ha b hb e=> ?_⟩
 .exact n1 ((JM ha).symm.trans (by rw[e];exact Cz lr hb))
 .rcases Gau.mp ha with ha|ha
  .exact n2 ((JM ha).symm.trans (by rw[e];exact JN hb))
  .exact n3 ((Cz lr ha).symm.trans (by rw[e];exact JN hb))
 .obtain⟨u,_,hb⟩:=GaQ.mp hb;have q:=JO (nX hb).1;rw[<-e] at q;rcases Gau.mp ha with ha|ha
  .rcases Gau.mp ha with ha|ha
   .exact q.1 (JM ha)
   .exact q.2.1 (Cz lr ha)
  .exact q.2.2 (JN ha)
def Eo{w:World}{o:Zz}(e1:w.Zs[t.1.toNat]? =U o)(e2:w.ar[o.aw.toNat]? =U s)(e3:w.bN[o.ax.toNat]? =U g)(f:Flt):f∈nW ws gv o s g.2 t.1 t.2.1 t.2.2↔f∈c6 w ws t\/f∈twL gv o.aP t.1 t.2.1:=by
 unfold nW c6;rw[e1];dsimp only;rw[e2,e3];unfold jL kF;simp only[GaC,Gau];constructor
 .rintro(((((h|h)|h)|h)|h)|h)
  .exact .inl (.inl (.inl (.inl (.inl h))))
  .exact .inl (.inl (.inl (.inl (.inr h))))
  .exact .inl (.inl (.inl (.inr h)))
  .exact .inl (.inr h)
  .exact .inl (.inl (.inr h))
  .exact .inr h
 .rintro(((((h|h)|h)|h)|h)|h)
  .exact .inl (.inl (.inl (.inl (.inl h))))
  .exact .inl (.inl (.inl (.inl (.inr h))))
  .exact .inl (.inl (.inl (.inr h)))
  .exact .inl (.inr h)
  .exact .inl (.inl (.inr h))
  .exact .inr h
def qm{gv:List Tr}{t:Tr}{o:Zz}(e1:os[t.1.toNat]? =U o)(f:Flt):f∈twL gv o.aP t.1 t.2.1↔∃k,bM o.aP t.2.1=U k/\1<iN os gv t.1 k/\f=(("twice",[t.1,k]):Flt):=by
 unfold twL;split
 .rw[mV e1];simp_all
 .simp_all
def Mj{w:World}{gv:List Tr}{st:List Tg}{eA:List (Int×Int)}(W:aH w)(hg:bQ w.Zs.length gv)(I:lH w.Zs gv st)(nd:(gvR gv).Nodup)(r2:eA.Perm (gvR gv))(r1:bG ((gvR gv).map mk2)=eA.map mk2)(f:Flt):
  f∈st.flatMap (tgF w.ar ws)++prs (gpF w.Zs (w.br.foldl aT [])) eA++twF (gv.foldl (bf w.Zs) [])++gv.flatMap (c6 w ws)↔f∈gv.flatMap (gc w ws gv):=by
 have rn:=r2.nodup_iff.mpr nd;have lr:=Bb r1 rn;have le:=λb hb=>(W.bo.1 b hb).2.1;rw[Gau,Gau,Gau,<-JG W I hg,wF lr,JB];have each:∀t∈gv,∃o,w.Zs[t.1.toNat]? =U o/\(f∈gc w ws gv t↔((f∈c6 w ws t\/f∈twL gv o.aP t.1 t.2.1)\/f∈ovT w ws gv t)\/∃u∈gv,f∈nrT w.Zs w.br t.1 t.2.1 u):=λt ht=>by
  obtain⟨o,s,g,e1,e2,e3,so,ok,_⟩:=d6 W (hg t ht).1 (hg t ht).2;refine⟨o,e1, ?_⟩;rw[<-Eo e1 e2 e3];unfold gc ovT;rw[e1];dsimp only;rw[e2,e3];rw[Gau,Gau,GaQ]
  rfl
 have rm:∀a,a∈eA↔∃t∈gv,(t.2.1,t.1)=a:=λa=>by
  rw[r2.mem_iff];unfold gvR;rw[Gas]
 rw[GaQ (f:=gc w ws gv)];constructor
 .rintro(((h| ⟨a,ha,b,hb,hl,h⟩)| ⟨o,k,rfl,h⟩)|h)
  .obtain⟨t,ht,h⟩:=GaQ.mp h;obtain⟨o,e1,q⟩:=each t ht;exact⟨t,ht,q.mpr (.inl (.inr h))⟩
  .obtain⟨t,ht,rfl⟩:=(rm a).mp ha;obtain⟨u,hu,rfl⟩:=(rm b).mp hb;obtain⟨o,e1,q⟩:=each t ht;refine⟨t,ht,q.mpr (.inr ⟨u,hu, ?_⟩)⟩;unfold nrT;rw[Gao hl,nU le W.bo.2 (kO hl).1];exact h
  .have cp:0<iN w.Zs gv o k:=by lia
   obtain⟨t,ht⟩:=List.exists_mem_of_length_pos cp;have h1:=Gbk.mp ht;have h2:=h1.2;unfold pY at h2;rw[Gah] at h2;have q1:=Gaq h2.1;have q2:=Gaq h2.2;obtain⟨o',e1,q⟩:=each t h1.1;unfold Cv at q2;rw[e1] at q2;refine⟨t,h1.1,q.mpr (.inl (.inl (.inr ((qm e1 _).mpr ⟨k,q2, ?_, ?_⟩))))⟩
   .rw[q1];exact h
   .rw[q1]
  .obtain⟨t,ht,h⟩:=GaQ.mp h;obtain⟨o,e1,q⟩:=each t ht;exact⟨t,ht,q.mpr (.inl (.inl (.inl h)))⟩
 .rintro⟨t,ht,h⟩;obtain⟨o,e1,q⟩:=each t ht;rcases q.mp h with((h|h)|h)| ⟨u,hu,h⟩
  .exact .inr (GaQ.mpr ⟨t,ht,h⟩)
  .obtain⟨k,_,h2,h3⟩:=(qm e1 f).mp h;exact .inl (.inr ⟨t.1,k,h3,h2⟩)
  .exact .inl (.inl (.inl (GaQ.mpr ⟨t,ht,h⟩)))
  .unfold nrT at h;split at h
   .rename_i hl;rw[nU le W.bo.2 (show(t.2.1,t.1).1<=(u.2.1,u.1).1 from(kO hl).1)] at h;exact .inl (.inl (.inr ⟨_,(rm _).mpr ⟨t,ht,rfl⟩,_,(rm _).mpr ⟨u,hu,rfl⟩,hl,h⟩))
   .cases h
theorem Bd:∀a b:List Int,jw (a.map E) (b.map E)=decide (a=b)
 |[],[]=>rfl
 |[],_::_=>rfl
 |_::_,[]=>rfl
 |x::a,y::b=>by
  show(decide (x=y)&&jw (a.map E) (b.map E))=_;rw[Bd a b,<-Bool.decide_and,decide_eq_decide,GcY]
def Ep(f g:Flt):eqD (ag f) (ag g)=decide (f=g):=by
 show(decide (f.1=g.1)&&jw (f.2.map E) (g.2.map E))=_;rw[Bd,<-Bool.decide_and,decide_eq_decide,Prod.ext_iff]
theorem sJ:∀(L acc:List Flt),acc.Nodup->∃R:List Flt,(L.map ag).foldl kC (acc.map ag)=R.map ag/\R.Nodup/\∀f,f∈R↔f∈acc\/f∈L
 |[],acc,h=> ⟨acc,rfl,h,λf=>by simp⟩
 |x::L,acc,h=>by
  rw[Gay,Gcl];have a:(acc.map ag).any (λe=>eqD e (ag x))=decide (x∈acc):=by
   rw[Gdl,GdH,GbZ,GcG];constructor
   .rintro⟨g,hg,e⟩;have e' :eqD (ag g) (ag x)=O:=e;rw[Ep] at e';simp_all
   .intro hx;exact⟨x,hx,by show eqD (ag x) (ag x)=O;rw[Ep];exact GaD rfl⟩
  unfold kC;rw[a];by_cases c:x∈acc
  .rw[Gao (GaD c)];obtain⟨R,h1,h2,h3⟩:=sJ L acc h;refine⟨R,h1,h2,λf=>(h3 f).trans ⟨λq=>q.imp id (Gaf _),λq=> ?_⟩⟩;rcases q with q|q
   .exact .inl q
   .rcases Gat.mp q with q|q
    .rw[q];exact .inl c
    .exact .inr q
  .rw[Gai (by rw[GcG];exact c)];have e:acc.map ag++[ag x]=(acc++[x]).map ag:=by rw[GaC];rfl
   rw[e];have nd:(acc++[x]).Nodup:=by
    rw[GaW];exact⟨h,by simp,λa ha b hb e=>c (by rw[<-GaU.mp hb,<-e];exact ha)⟩
   obtain⟨R,h1,h2,h3⟩:=sJ L (acc++[x]) nd;refine⟨R,h1,h2,λf=>(h3 f).trans ?_⟩;rw[Gau,GaU,Gat,or_assoc]
def Mk{w:World}{ws gv:List Tr}(W:aH w)(hg:bQ w.Zs.length gv)(hl:gv.length<64)(nd:(gvR gv).Nodup)(hL:(gv.flatMap (gc w ws gv)).length<64)(hz:∀st eA,lH w.Zs gv st->eA.Perm (gvR gv)->(eA.Pairwise λa b=>a.1<=b.1)->(st.flatMap (tgF w.ar ws)++df w.Zs (w.br.foldl aT []) (wide w.br) eA++twF (gv.foldl (bf w.Zs) [])++gv.flatMap (c6 w ws)).length<64):
  ∃fs,jJ [aE w,N [N (ws.map ZD),N (gv.map ZD)]]=U (Q (fs.map ag))/\bA [aE w,N [N (ws.map ZD),N (gv.map ZD)]]=U (Q (fs.map ag))/\fs.length<64/\(fs=[]↔Snd w ws gv)/\∀f∈fs,f∈gv.flatMap (gc w ws gv):=by
 obtain⟨st,eA,I,r2,r1,r3,e,z⟩:=B4 W hg hl;have le:=λb hb=>(W.bo.1 b hb).2.1;have pos:=λb hb=>(W.bo.1 b hb).2.2.2;have zz:=hz st eA I r2 r3;have e:=e zz;rw[mU (Jy le pos W.bo.2) eA r3] at e zz;have pn:=Mi (ws:=ws) I nd r2 r1;have pm:=Mj W (ws:=ws) hg I nd r2 r1;have ln:=ql W (ws:=ws) hg nd;generalize st.flatMap (tgF w.ar ws)++prs (gpF w.Zs (w.br.foldl aT [])) eA++twF (gv.foldl (bf w.Zs) [])++gv.flatMap (c6 w ws)=ZY at*;obtain⟨y3,y4,y5,e5⟩:=wC W hg hl gv [] J J J hg (by simp;lia);have ok:=JF _ hL;generalize gv.flatMap (gc w ws gv)=L at*;obtain⟨R,d1,d2,d3⟩:=sJ L [] GdP;have pr:=(List.perm_ext_iff_of_nodup pn d2).mpr λf=>by rw[pm,d3];simp
 have es:=Cr ((iL R).trans (pr.symm.trans (iL ZY).symm)) (nR R) (nR ZY);have hR:bG (oD (L.map ag))=(pM ZY).map ag:=by
  rw[<-es,<-sD];exact congrArg bG d1
 refine⟨pM ZY,e,JE e5 ok hR (bW _),by rw[(iL ZY).length_eq];exact zz, ?_,λf hf=>(pm f).mp ((iL ZY).mem_iff.mp hf)⟩;rw[<-ln];constructor
 .intro h;have p:=iL ZY;rw[h] at p;have e0:=p.symm.eq_nil;refine nil_of λf hf=> ?_;have:=(pm f).mpr hf;rw[e0] at this;cases this
 .rintro rfl;have e0:=nil_of λf hf=>by cases(pm f).mp hf
  rw[e0]
  rfl
def T8{ns:List Int}:∃far:Int,(far=1\/far=1000000)/\da [.scr ns]=U (E far):=by
 have e:=aM ns 300;have q:mx ns 300%6=0\/mx ns 300%6=1\/mx ns 300%6=2\/mx ns 300%6=3\/mx ns 300%6=4\/mx ns 300%6=5:=by lia
 unfold da uL;rcases q with q|q|q|q|q|q<;>simp[e,q,af]
def Qh{ns:List Int}(hk:0<=k)(xR:k<100000)(hp:1<=part)(yz:part<=50000)(hf:1<=far)(xr:far<=1000000):
  ∃c,lZ c/\gX [.scr ns,E k,E part,E far]=U (bB c):=by
 have e:∀j:Int,0<=j->j<=4->ae [.scr ns,E (k+j)]=U (E (mx ns (k+j))):=λj h1 h2=>aM _ _;have e0:=aM ns k;have e1:=e 1 (by lia) (by lia);have e2:=e 2 (by lia) (by lia);have e3:=e 3 (by lia) (by lia);have e4:=e 4 (by lia) (by lia);have m1:∀j,aQ far j=O:=λj=>bq;have m2:∀j,aQ part j=O:=λj=>bq;have h1:1<=far*(3+mx ns (k+1)%28):=fC hf (by lia);have up:∀q B:Int,0<=q->q<=B->part*q<=50000*B:=λq B a b=>jn (by lia) yz a b;by_cases c1:mx ns k%3=0
 .refine⟨.flat (far*(3+mx ns (k+1)%28)) (part*(3+mx ns (k+2)%18)),⟨h1,fC hp (by lia), ?_⟩, ?_⟩
  .have:=up (3+mx ns (k+2)%18) 20 (by lia) (by lia);lia
  .unfold gX lh bB;simp[e0,e1,e2,m1,m2,c1]
 .by_cases c2:mx ns k%3=1
  .refine⟨.kilo (far*(3+mx ns (k+1)%28)) (part*(1+mx ns (k+3)%9)) (5+mx ns (k+4)%40),⟨h1,fC hp (by lia), ?_,by lia,by lia⟩, ?_⟩
   .have:=up (1+mx ns (k+3)%9) 9 (by lia) (by lia);lia
   .unfold gX lh bB;simp[e0,e1,e3,e4,m1,m2,c2]
  .refine⟨.ever (part*(8+mx ns (k+2)%30)),⟨fC hp (by lia), ?_⟩, ?_⟩
   .have:=up (8+mx ns (k+2)%30) 37 (by lia) (by lia);lia
   .unfold gX lh bB;simp[e0,e1,e2,m1,m2,c1,c2]
def CA{xs:List D}{x:D}:atD (xs++[x]) (-1)=U x:=by
 unfold atD;rw[Gai (by lia),Gao (by simp;lia)];have:(-1+((xs++[x]).length:Int)).toNat=xs.length:=by simp;lia
 rw[this];simp
def CB{ns ms:List Int}(hk:0<=k)(xR:k<100000)(hp:1<=p)(yz:p<=50000)(hj:0<=j)(zS:j<=2)(hl:ms.length<=2)(hm:∀m∈ms,1<=m/\m<=1+6*(ms.length:Int)):
  ∃m,1<=m/\m<=1+6*((ms.length:Int)+1)/\fQ [U (Z (.scr ns)),U (Z (E k)),x2,x3,U (Z (E p)),U (Y (Q ((1::ms).map λm=> E (p*m)))),U (Z (E j)),x7,x8]=
   U (P [U (Z (.scr ns)),U (Z (E k)),x2,x3,U (Z (E p)),U (Y (Q ((1::(ms++[m])).map λm=> E (p*m)))),U (Z (E j)),x7,x8]):=by
 have e:=aM ns (k+2+j);have m2:∀j,aQ p j=O:=λj=>bq;obtain⟨l,XQ,zR,xA⟩:∃l,1<=l/\l<=1+6*(ms.length:Int)/\atD ((1::ms).map λm=>E (p*m)) (-1)=U (E (p*l)):=by
  rcases List.eq_nil_or_concat ms with h| ⟨xY,l,h⟩
  .subst h;exact⟨1,by lia,by simp,by rfl⟩
  .rw[List.concat_eq_append] at h;subst h;have:=hm l (by simp);refine⟨l,this.1,this.2, ?_⟩;have e9:((1::(xY ++[l])).map λm=>E (p*m))=((1::xY).map λm=>E (p*m))++[E (p*l)]:=by simp
   rw[e9,CA]
 refine⟨l+(1+mx ns (k+2+j)%6),by lia,by lia, ?_⟩;have z:ms.length+1<16777216:=by lia
 have hat' :atD (E (p*1)::(ms.map λm=>E (p*m))) (-1)=U (E (p*l)):=by simpa using xA
 unfold fQ;simp[e,m2];simp at hat';simp[hat',z,af,Int.mul_add]
def Gq{ns:List Int}(hk:0<=k)(xR:k<100000)(hp:1<=p)(yz:p<=50000)(n:Nat)(hn:n<=2):
  ∃ms y6,ms.length=n/\(∀m∈ms,1<=m/\m<=30)/\Zw (gN 6) fQ (aC 0 n) [U (Z (.scr ns)),U (Z (E k)),x2,x3,U (Z (E p)),U (Y (Q [E p])),J,J,J]=
   U (P [U (Z (.scr ns)),U (Z (E k)),x2,x3,U (Z (E p)),U (Y (Q ((1::ms).map λm=> E (p*m)))),y6,J,J]):=by
 obtain⟨e,h1,ms,y6,rfl,h2,h3⟩:=cE (g:=gN 6) (λi env=>∃ms y6,env=[U (Z (.scr ns)),U (Z (E k)),x2,x3,U (Z (E p)),U (Y (Q ((1::ms).map λm=> E (p*m)))),y6,J,J]/\ms.length=i/\∀m∈ms,1<=m/\m<=1+6*(ms.length:Int)) (aC 0 n) 0 _ ⟨[],J,rfl,rfl,by simp⟩ (by
  rintro i d env hd ⟨ms,y6,rfl,h2,h3⟩;obtain⟨hi,rfl⟩:=b9 hd;rw[GaP] at h2;obtain⟨m,m1,m2,q⟩:=CB (j:=0+(i:Int)) hk xR hp yz (by lia) (by lia) (by lia) h3;refine⟨_,_,rfl,q,ms++[m],_,rfl,by simp;lia,λz hz=> ?_⟩;rcases Gau.mp hz with hz|hz
  .have:=h3 z hz;simp;lia
  .simp at hz;simp;lia)
 rw[bV,GaP] at h2;refine⟨ms,y6,h2,λm hm=> ?_, ?_⟩
 .have:=h3 m hm;lia
 .simpa using h1
def Gr{ns:List Int}(hk:0<=k)(xR:k<10000)(hp:1<=p)(yz:p<=50000)(hf:1<=far)(xr:far<=1000000)(n:Nat)(hn:n<=2):
  ∃(cs:List Cap) (y6:Os),cs.length=n/\(∀c∈cs,lZ c)/\Zw (gN 6) fR (aC 0 n) [U (Z (.scr ns)),U (Z (E k)),x2,U (Z (E far)),U (Z (E p)),x5,x6,U (Y (Q [])),J]=
   U (P [U (Z (.scr ns)),U (Z (E k)),x2,U (Z (E far)),U (Z (E p)),x5,y6,U (Y (Q (cs.map bB))),J]):=by
 obtain⟨e,h1,cs,y6,rfl,h2,h3⟩:=cE (g:=gN 6) (body:=fR) (λi env=>∃(cs:List Cap) (y6:Os),env=[U (Z (.scr ns)),U (Z (E k)),x2,U (Z (E far)),U (Z (E p)),x5,y6,U (Y (Q (cs.map bB))),J]/\cs.length=i/\∀c∈cs,lZ c) (aC 0 n) 0 _ ⟨[],x6,rfl,rfl,by simp⟩ (by
  rintro i d env hd ⟨cs,y6,rfl,h2,h3⟩;obtain⟨hi,rfl⟩:=b9 hd;obtain⟨c,c1,c2⟩:=Qh (ns:=ns) (k:=k+6+5*(0+(i:Int))) (by lia) (by lia) hp yz hf xr;have m5:aQ 5 (0+(i:Int))=O:=bq;have z:(cs.map bB).length<16777216:=by rw[Gae];lia
  have rv:=aV (rZ c);have em:(cs++[c]).map bB=cs.map bB++[bB c]:=by simp
  generalize 0+(i:Int)=j at*;refine⟨_,_,rfl, ?_,cs++[c],U (Z (E j)),rfl,by simp;lia, ?_⟩
  .rw[em];generalize cs.map bB=CS at*;unfold fR;simp[m5,c2,af,z,rv]
  .intro x hx;rcases Gau.mp hx with hx|hx
   .exact h3 x hx
   .simp at hx;subst hx;exact c1)
 rw[bV,GaP] at h2;exact⟨cs,y6,h2,h3,h1⟩
def JP{ns:List Int}(hk:0<=k)(xR:k<10000)(hf:1<=far)(xr:far<=1000000):∃s,gB s/\s.ay.length<=2/\j6 [.scr ns,E k,X x,E far]=U (aI s):=by
 have e0:=aM ns k;have Xp:=aM ns 301;have e1:=aM ns (k+1);have e4:=aM ns (k+4);have e5:=aM ns (k+5);obtain⟨mul,hmul,u1,u2⟩:∃mul:Int,atD [E 1,E 1,E 10000] (mx ns 301%3)=U (E mul)/\1<=mul/\mul<=10000:=by
  have q:mx ns 301%3=0\/mx ns 301%3=1\/mx ns 301%3=2:=by lia
  rcases q with q|q|q<;>simp[q]
 generalize YI:1+mx ns k%5=p0;have hp0a:1<=p0:=by lia
 have hp0b:p0<=5:=by lia
 have yb:1<=p0*mul:=fC hp0a u1;have hpb:p0*mul<=50000:=by
  have:=jn (by lia) hp0b (by lia) u2;lia
 generalize hp:p0*mul=p at*;have m0:aQ p0 mul=O:=bq;obtain⟨ms,y6,ml,mb,l1⟩:=Gq (ns:=ns) (k:=k) (p:=p) (x2:=U (Z (X x))) (x3:=U (Z (E far))) hk (by lia) yb hpb (mx ns (k+1)%3).toNat (by lia);obtain⟨cs,z6,cl,ck,l2⟩:=Gr (ns:=ns) (k:=k) (p:=p) (far:=far) (x2:=U (Z (X x))) (x5:=U (Y (Q ((1::ms).map λm=> E (p*m))))) (x6:=y6) hk xR yb hpb hf xr (mx ns (k+4)%3).toNat (by lia);have s1:aS (mx ns (k+1)%3)=O:=b8;have s4:aS (mx ns (k+4)%3)=O:=b8;generalize mx ns (k+5)=yv at*;have m5:aQ (yv%2) far=O:=bq;have m6:∀i,aQ i (yv/2%20)=O:=λi=>bI;refine⟨⟨x,p,ms.map (p* ·),cs,yv%2*far*(yv/2%20)⟩,⟨yb,by show p<=100000;lia,by show cs.length<=4;lia,ck, ?_⟩,by show cs.length<=2;lia, ?_⟩
 .exact GbM (GbM (by lia) (by lia)) (by lia)
 .have ci:=nL cs;have ee:((p::ms.map (p* ·)).map E)=(1::ms).map λm=>E (p*m):=by simp
  have im:aA ((1::ms).map λm=>E (p*m))=O:=by rw[<-ee];exact nJ _
  unfold aI;rw[ee];have e1m:(1::ms).map (λm=>E (p*m))= E p::ms.map λm=> E (p*m):=by simp
  rw[e1m] at l1 l2 im⊢;generalize (E p::ms.map λm=>E (p*m))=MS at*;unfold j6 pG;simp[-Zw,e0,Xp,e1,e4,e5,hmul,YI,m0,hp,s1,s4,l1,l2,m5,m6,af,ci,im,freed]
def Ml{ns:List Int}(hk:0<=k)(xR:k<100000)(hf:1<=far)(xr:far<=1000000):∃u,fW u/\iD [.scr ns,E k,E far]=U (cu u):=by
 have e0:=aM ns k;have e1:=aM ns (k+1);have e2:=aM ns (k+2);have e3:=aM ns (k+3);have e4:=aM ns (k+4);have e5:=aM ns (k+5);have mf:∀j,aQ far j=O:=λj=>bq;have up:∀q B:Int,0<=q->q<=B->far*q<=1000000*B:=λq B a b=>jn (by lia) xr a b;by_cases c:mx ns k%4=0
 .refine⟨.asked (far*(mx ns (k+1)%20)),GbM (by lia) (by lia), ?_⟩;unfold iD mL cu;simp[e0,e1,c,mf]
 .generalize he:2+mx ns (k+2)%10=ev;have q2:ev<=11:=by lia
  have r3:=mxm ns (k+3) ev (by lia);generalize WA:mx ns (k+3)%ev=ea at r3;have r4:=mxm ns (k+4) (ev -ea) (by lia);generalize zl:mx ns (k+4)%(ev -ea)=la at r4;refine⟨.due (far*(ea+mx ns (k+1)%12)) (far*ev) (1+mx ns (k+5)%6) (far*ea) (far*la),⟨fC hf (by lia), ?_,by lia,GbM (by lia) r3.1,GbM (by lia) r4.1, ?_, ?_, ?_⟩, ?_⟩
  .have:=up ev 11 (by lia) q2;lia
  .rw[<-Int.mul_add];exact Int.mul_lt_mul_of_pos_left (by lia) (by lia)
  .exact Int.mul_le_mul_of_nonneg_left (by lia) (by lia)
  .have:=up (ea+mx ns (k+1)%12) 22 (by lia) (by lia);lia
  .have p1:0<ev:=by lia
   have p2:0<ev -ea:=by lia
   have p3:ea<ev:=by lia
   unfold iD mL cu;simp[e0,e1,e2,e3,e4,e5,c,mf,he,WA,zl,p1,p3]
def ja(t:D):Prop:=∃a b c:Int,t= N [E a,E b,E c]/\1<=b/\b<=12/\1<=c/\c<=12
def kP(o:Zz):Prop:=0<=o.per/\o.per<=99/\1<=o.top/\o.top<=1000000/\∀t∈o.wK,ja t
theorem ja.imm{t:D}(h:ja t):t.imm=O:=by obtain⟨a,b,c,rfl,_⟩:=h;simp
def Be{ns:List Int}{ts:List D}(hk:0<=k)(xR:k<10000)(hj:0<=j)(zS:j<=2)(hl:ts.length<=100)(ht:∀t∈ts,ja t):
  ∃at' zE zr,fS [U (Z (.scr ns)),U (Z (E k)),x2,x3,x4,x5,x6,x7,x8,x9,eI,eN,U (Z (cu u)),U (Y (Q ts)),U (Z (E at_)),U (Z (E j)),x16]=
   U (P [U (Z (.scr ns)),U (Z (E k)),x2,x3,x4,x5,x6,x7,x8,x9,eI,eN,U (Z (cu u)),U (Y (Q zE)),U (Z (E at')),U (Z (E j)),zr])/\zE.length<=ts.length+1/\∀t∈zE,ja t:=by
 have e1:=aM ns (k+14+j);have e2:=aM ns (k+16+j);have e3:=aM ns (k+18+j);have z:ts.length<16777216:=by lia
 generalize xA:at_+1+mx ns (k+14+j)%2=at';generalize zX:1+mx ns (k+16+j)%12=den;have XU:0<den:=by lia
 have r3:=mxm ns (k+18+j) den XU;unfold fS;cases u with
 |asked b=>
  refine⟨at',ts,U (Z (E den)), ?_,by lia,ht⟩;unfold cu;simp_all
 |due b e m ea la=>
  unfold cu;by_cases c:at' <m
  .refine⟨at',ts++[N [E at',E (1+mx ns (k+18+j)%den),E den]],U (Z (E den)), ?_,by simp, ?_⟩
   .simp[e1,e2,e3,xA,zX,c,XU,af,z]
   .intro t h;rcases Gau.mp h with h|h
    .exact ht t h
    .simp at h;exact⟨_,_,_,h,by lia,by lia,by lia,by lia⟩
  .refine⟨at',ts,U (Z (E den)), ?_,by lia,ht⟩;simp[e1,e2,xA,zX,c]
def JQ{ns:List Int}{gs:List (Str×Int)}{ss:List fU}(hk:0<=k)(xR:k<10000)(hf:1<=far)(xr:far<=1000000)(hg:1<=gs.length)(hs:1<=ss.length)(X0:∀s∈ss,gB s):
  ∃(o:Zz) (c:Int),nM gs.length ss.length o/\(∃s,ss[o.aw.toNat]? =U s/\o.most=s.part*c)/\1<=c/\c<=12/\kP o/\j7 [.scr ns,E k,X x,Q (gs.map bx),Q (ss.map aI),E far]=U (aj o):=by
 have e:∀j:Int,0<=j->j<=30->ae [.scr ns,E (k+j)]=U (E (mx ns (k+j))):=λj h1 h2=>aM _ _;have e0:=aM ns k;have e1:=e 1 (by lia) (by lia);have e2:=e 2 (by lia) (by lia);have e3:=e 3 (by lia) (by lia);have e4:=e 4 (by lia) (by lia);have e5:=e 5 (by lia) (by lia);have e6:=e 6 (by lia) (by lia);have e7:=e 7 (by lia) (by lia);have Z9:=e 20 (by lia) (by lia);have r0:=mxm ns k (ss.length:Int) (by lia);have r20:=mxm ns (k+20) (gs.length:Int) (by lia);obtain⟨st,ya⟩:∃st:Nat,mx ns k%(ss.length:Int)=st:=⟨(mx ns k%(ss.length:Int)).toNat,by lia⟩
 have hst2:st<ss.length:=by lia
 have xA:atD (ss.map aI) (st:Int)=U (aI ss[st]):=by rw[bO,Gap,Gac hst2];rfl
 have hok:=X0 ss[st] (GaA hst2);have hget:ss[st]? =U ss[st]:=by simp[hst2]
 generalize ss[st]=sd at*;have p1:=hok.p1;have p2:=hok.p2;have q1:ixD (aI sd) (E 1)=U (N (E sd.part::sd.more.map E)):=rfl;have Yt:=g9 sd;obtain⟨way,WU⟩:∃way:Str,atD [X "down",X "up",X "near"] (mx ns (k+6)%3)=U (X way):=by
  have q:mx ns (k+6)%3=0\/mx ns (k+6)%3=1\/mx ns (k+6)%3=2:=by lia
  rcases q with q|q|q<;>simp[q]
 obtain⟨u,hu1,zN⟩:=Ml (ns:=ns) (k:=k+8) (far:=far) (by lia) (by lia) hf xr;have r7:=mxm ns (k+7) 3 (by lia);have s7:aS (mx ns (k+7)%3)=O:=b8;have mp:∀j,aQ sd.part j=O:=λj=>bq;have m2:∀j,aQ (mx ns (k+2)%2) j=O:=λj=>bq;have pp:0<sd.part:=by lia
 have di:=uP u;have rv:=aV di;have p0:=mxm ns (k+2) 2 (by lia);have p9:=mxm ns (k+3) 90 (by lia);have per0:0<=mx ns (k+2)%2*(10+mx ns (k+3)%90):=GbM p0.1 (by lia);have per1:mx ns (k+2)%2*(10+mx ns (k+3)%90)<=1*99:=jn p0.1 (by lia) (by lia) (by lia);have p4:=mxm ns (k+4) 8 (by lia);have p5:=mxm ns (k+5) sd.part pp;have top0:0<=sd.part*(mx ns (k+4)%8):=GbM (by lia) p4.1;have top1:sd.part*(mx ns (k+4)%8)<=100000*7:=jn (by lia) p2 p4.1 (by lia);generalize hc:1+mx ns (k+1)%12=c;generalize X3:mx ns (k+2)%2*(10+mx ns (k+3)%90)=per;generalize WZ:sd.part*(mx ns (k+4)%8)+1+mx ns (k+5)%sd.part=top;have Z3:cO [Q (gs.map bx)]=U ⟨.c,E (gs.length:Int)⟩:=by simp
 have Z2:cO [Q (ss.map aI)]=U ⟨.c,E (ss.length:Int)⟩:=by simp
 have YE:(0:Int)<ss.length:=by lia
 have Xg:(0:Int)<gs.length:=by lia
 generalize hGS:gs.map bx=GS at*;generalize hSS:ss.map aI=SS at*;generalize hDD:cu u=DD at*;obtain⟨en,h1,WE,ts,WG,zr,rfl,h2,h3⟩:=cE (g:=gN 15) (body:=fS) (λi env=>∃WE ts WG zr,env=[U (Z (.scr ns)),U (Z (E k)),U (Z (X x)),U (Z (Q GS)),U (Z (Q SS)),U (Z (E far)),U (Z (E st)),U (Z (E sd.part)),U (Z (E (sd.part*c))),U (Z (E per)),U (Z (E top)),U (Z (N [X way,E top,E per,E (sd.part*c)])),U (Z DD),U (Y (Q ts)),U (Z (E WE)),WG,zr]/\ts.length<=i/\∀t∈ts,ja t) (aC 0 (mx ns (k+7)%3).toNat) 0
  [U (Z (.scr ns)),U (Z (E k)),U (Z (X x)),U (Z (Q GS)),U (Z (Q SS)),U (Z (E far)),U (Z (E st)),U (Z (E sd.part)),U (Z (E (sd.part*c))),U (Z (E per)),U (Z (E top)),U (Z (N [X way,E top,E per,E (sd.part*c)])),U (Z DD),U (Y (Q [])),U (Z (E 0)),J,J]
  ⟨0,[],J,J,rfl,by simp,by simp⟩ (by
   rintro i d env hd ⟨WE,ts,WG,zr,rfl,h2,h3⟩;obtain⟨hi,rfl⟩:=b9 hd;obtain⟨at',zE,Y9,q1,q2,q3⟩:=Be (ns:=ns) (k:=k) (j:=0+(i:Int)) (at_:=WE) (u:=u) (ts:=ts) (x2:=U (Z (X x))) (x3:=U (Z (Q GS))) (x4:=U (Z (Q SS))) (x5:=U (Z (E far))) (x6:=U (Z (E st))) (x7:=U (Z (E sd.part))) (x8:=U (Z (E (sd.part*c)))) (x9:=U (Z (E per))) (eI:=U (Z (E top))) (eN:=U (Z (N [X way,E top,E per,E (sd.part*c)]))) (x16:=zr) hk xR (by lia) (by lia) (by lia) h3;rw[hDD] at q1;exact⟨_,_,rfl,q1,at',zE,_,Y9,rfl,by lia,q3⟩)
 have ti:=kJ (λ_=>ja.imm) h3;refine⟨⟨x,mx ns (k+20)%(gs.length:Int),(st:Int),way,top,per,sd.part*c,u,ts⟩,c,⟨r20.1,r20.2,by show(0:Int)<=(st:Int);lia,by show(st:Int)<(ss.length:Int);lia,hu1,ti⟩,⟨sd,by show ss[((st:Int)).toNat]? =U sd;rw[Gbw];exact hget,rfl⟩,by lia,by lia,⟨by show 0<=per;lia,by show per<=99;lia,by show 1<=top;lia,by show top<=1000000;lia,h3⟩, ?_⟩;unfold aj;rw[hDD];generalize (gs.length:Int)=lg at*;generalize (ss.length:Int)=ls at*;unfold j7 pH;simp[-Zw,-A0,Z3,Z2,e0,e1,e2,e3,e4,e5,e6,e7,Z9,YE,Xg,ya,xA,q1,Yt,WU,zN,s7,mp,m2,pp,hc,X3,WZ,af,h1,ti,di,rv,freed]
def Gs{ns:List Int}{x y:Int}{n:Nat}{bs:List Tr}(hf:1<=far)(xr:far<=1000000)(hn:n<=3)(hx:0<=x)(Yv:x<=y)(Yu:y<n)(hl:bs.length<=100)(hb:jo n bs)(eY:kK x y bs):
  ∃(xk :List Tr) (y9:Os),jo n xk /\kK x (y+1) xk /\xk.length<=bs.length+1/\dF [U (Z (.scr ns)),U (Z (E far)),x2,x3,x4,x5,U (Y (Q (bs.map ZD))),U (Z (E x)),U (Z (E y)),x9,eI]=
   U (P [U (Z (.scr ns)),U (Z (E far)),x2,x3,x4,x5,U (Y (Q (xk.map ZD))),U (Z (E x)),U (Z (E y)),y9,eI]):=by
 have e1:=aM ns (370+3*x+y);have e2:=aM ns (380+3*x+y);have e3:=aM ns (390+3*x+y);have m3:aQ 3 x=O:=bq;have mf:∀j,aQ far j=O:=λj=>bq;have lm:(bs.map ZD).length=bs.length:=Gae _;have z:(bs.map ZD).length<16777216:=by lia
 have r:=mxm ns (390+3*x+y) (((bs.map ZD).length:Int)+1) (by lia);have s:=b8 (i:=mx ns (390+3*x+y)%(((bs.map ZD).length:Int)+1)) (by lia) (by lia);have p:(0:Int)<((bs.map ZD).length:Int)+1:=by lia
 by_cases c:mx ns (370+3*x+y)%3=0
 .generalize hg:far*(1+mx ns (380+3*x+y)%8)=g;have g1:1<=g:=by rw[<-hg];exact fC hf (by lia)
  generalize hi:mx ns (390+3*x+y)%(((bs.map ZD).length:Int)+1)=i at*;have pm:=BN bs i (x,y,g);refine⟨iu bs i (x,y,g),U (Z (E g)),⟨λb xH => ?_, ?_⟩,λb xH => ?_,by rw[uu];lia, ?_⟩
  .rcases Gat.mp (pm.mem_iff.mp xH) with h|h
   .subst h;exact⟨hx,Yv,Yu,g1⟩
   .exact hb.1 b h
  .rw[(pm.map Co).nodup_iff,Gay,Gbb];refine⟨λh=> ?_,hb.2⟩;obtain⟨b,xH,e⟩:=Gas.mp h;have h1:=eY b xH;unfold Co at e;lia
  .rcases Gat.mp (pm.mem_iff.mp xH) with h|h
   .subst h;exact .inr ⟨rfl,by show y<y+1;lia⟩
   .have:=eY b h;lia
  .rw[G6];have et:ZD (x,y,g)= N [E x,E y,E g]:=rfl;rw[et];generalize bs.map ZD=B at*;unfold dF;simp[e1,e2,e3,m3,mf,c,af,z,s,hg,hi]
 .refine⟨bs,x9,hb,λb h=>by have:=eY b h;lia,by lia, ?_⟩;unfold dF;simp[e1,m3,c]
def Bf{ns:List Int}{far x:Int}{n m:Nat}{SS:List D}{bs:List Tr}{x2 x3 x4 x8 x9:Os}(hf:1<=far)(xr:far<=1000000)(hn:n<=3)(hx:0<=x)(hm:x+m<=n)(hl:bs.length<=50)(hb:jo n bs)(eY:kK x x bs):
  ∃(xk :List Tr) (z8 z9:Os),jo n xk /\kK x (x+m) xk /\xk.length<=bs.length+m/\Zw (gN 8) dF (aC x m) [U (Z (.scr ns)),U (Z (E far)),x2,x3,x4,U (Y (Q SS)),U (Y (Q (bs.map ZD))),U (Z (E x)),x8,x9,J]=
   U (P [U (Z (.scr ns)),U (Z (E far)),x2,x3,x4,U (Y (Q SS)),U (Y (Q (xk.map ZD))),U (Z (E x)),z8,z9,J]):=by
 obtain⟨e,q1,xk,z8,z9,q2,q3,q4,rfl⟩:=cE (g:=gN 8) (λj env=>∃(xk :List Tr) (z8 z9:Os),jo n xk /\kK x (x+(j:Int)) xk /\xk.length<=bs.length+j/\env=[U (Z (.scr ns)),U (Z (E far)),x2,x3,x4,U (Y (Q SS)),U (Y (Q (xk.map ZD))),U (Z (E x)),z8,z9,J]) (aC x m) 0 _ ⟨bs,x8,x9,hb,by rw[show x+((0:Nat):Int)=x by lia];exact eY,by simp,rfl⟩ (by
  rintro j d env hd ⟨xk,z8,z9,q2,q3,q4,rfl⟩;obtain⟨hj,rfl⟩:=b9 hd;rw[GaP] at q3;obtain⟨Zb,w9,r1,r2,r3,r4⟩:=Gs hf xr hn hx (by lia) (by lia) (by lia) q2 q3;exact⟨_,_,rfl,r4,Zb,_,w9,r1,by rw[show x+((0+j+1:Nat):Int)=x+(j:Int)+1 by lia];exact r2,by lia,rfl⟩)
 rw[bV,GaP] at q3 q4;exact⟨xk,z8,z9,q2,q3,q4,q1⟩
def JR{ns:List Int}{n:Nat}{bs:List Tr}(hL:cO [Q SS]=U ⟨.c,E L⟩)(Zk:L=n)(hf:1<=far)(xr:far<=1000000)(hn:n<=3)(hx:0<=x)(Zg:x<L)(hl:bs.length<=50)(hb:jo n bs)(eY:kK x x bs):
  ∃(xk :List Tr) (z8 z9:Os),jo n xk /\kK (x+1) (x+1) xk /\xk.length<=bs.length+3/\dG [U (Z (.scr ns)),U (Z (E far)),x2,x3,x4,U (Y (Q SS)),U (Y (Q (bs.map ZD))),U (Z (E x)),x8,x9,J]=
   U (P [U (Z (.scr ns)),U (Z (E far)),x2,x3,x4,U (Y (Q SS)),U (Y (Q (xk.map ZD))),U (Z (E x)),z8,z9,J]):=by
 obtain⟨xk,z8,z9,q2,q3,q4,q1⟩:=Bf (ns:=ns) (m:=(L -x).toNat) (SS:=SS) (x2:=x2) (x3:=x3) (x4:=x4) (x8:=x8) (x9:=x9) hf xr hn hx (by lia) hl hb eY;have sa:aS x=O:=b8;have sb:aS L=O:=b8;refine⟨xk,z8,z9,q2,λb h=>by have:=q3 b h;lia,by lia, ?_⟩;unfold dG;simp[hL,sa,sb,q1]
def Gu{ns:List Int}{SS:List D}(hf:1<=far)(xr:far<=1000000)(hs:SS.length<=3):
  ∃(bs:List Tr) (y7 y8 y9:Os),jo SS.length bs/\bs.length<=9/\Zw (gN 7) dG (aC 0 SS.length) [U (Z (.scr ns)),U (Z (E far)),x2,x3,x4,U (Y (Q SS)),U (Y (Q [])),J,J,J,J]=
   U (P [U (Z (.scr ns)),U (Z (E far)),x2,x3,x4,U (Y (Q SS)),U (Y (Q (bs.map ZD))),y7,y8,y9,J]):=by
 obtain⟨e,h1,bs,y7,y8,y9,h2,Y2,h3,rfl⟩:=cE (g:=gN 7) (λi env=>∃(bs:List Tr) (y7 y8 y9:Os),jo SS.length bs/\kK (i:Int) (i:Int) bs/\bs.length<=3*i/\env=[U (Z (.scr ns)),U (Z (E far)),x2,x3,x4,U (Y (Q SS)),U (Y (Q (bs.map ZD))),y7,y8,y9,J]) (aC 0 SS.length) 0 [U (Z (.scr ns)),U (Z (E far)),x2,x3,x4,U (Y (Q SS)),U (Y (Q [])),J,J,J,J] ⟨[],J,J,J,⟨λb hb=>absurd hb (by simp),by simp⟩,λb hb=>absurd hb (by simp),by simp,rfl⟩ (by
  rintro i d env hd ⟨bs,y7,y8,y9,h2,Y2,h3,rfl⟩;obtain⟨hi,rfl⟩:=b9 hd;obtain⟨xk,z8,z9,q1,Yn,q2,q3⟩:=JR (x:=0+(i:Int)) rfl rfl hf xr hs (by lia) (by lia) (by lia) h2 (λb h=>by have:=Y2 b h;lia);exact⟨_,_,rfl,q3,xk,_,z8,z9,q1,λb h=>by have:=Yn b h;lia,by lia,rfl⟩)
 rw[bV] at h3;exact⟨bs,y7,y8,y9,h2,by lia,h1⟩
def Has(x:Str)(n:Nat):Prop:=x.length<=4/\∀i:Nat,i<n->∃c,atD x.cps.toList (i:Int)=U c
def Mm:Has (Str.ofString "abc") 3:=⟨by decide,λi hi=>match i,hi with|0,_=> ⟨_,rfl⟩|1,_=> ⟨_,rfl⟩|2,_=> ⟨_,rfl⟩⟩
def Mn:Has (Str.ofString "uvw") 3:=⟨by decide,λi hi=>match i,hi with|0,_=> ⟨_,rfl⟩|1,_=> ⟨_,rfl⟩|2,_=> ⟨_,rfl⟩⟩
def JS:Has (Str.ofString "klmn") 4:=⟨by decide,λi hi=>match i,hi with|0,_=> ⟨_,rfl⟩|1,_=> ⟨_,rfl⟩|2,_=> ⟨_,rfl⟩|3,_=> ⟨_,rfl⟩⟩
def sL:Has (Str.ofString "abcd") 4:=⟨by decide,λi hi=>match i,hi with|0,_=> ⟨_,rfl⟩|1,_=> ⟨_,rfl⟩|2,_=> ⟨_,rfl⟩|3,_=> ⟨_,rfl⟩⟩
def Has.le(h:Has x n)(hm:m<=n):Has x m:=⟨h.1,λi hi=>h.2 i (by lia)⟩
noncomputable def bY(a b c:Str):D:= Q [X a,X b,X c]
def Bg{ns:List Int}(ha:Has a 3)(hf:1<=far)(xr:far<=1000000)(n:Nat)(hn:n<=3):
  ∃(gs:List (Str×Int)) (y4:Os),gs.length=n/\Zw (gN 4) dD (aC 0 n) [U (Z (.scr ns)),U (Z (E far)),U (Z (bY a b c)),U (Y (Q [])),J,J,J,J,J,J,J]=
   U (P [U (Z (.scr ns)),U (Z (E far)),U (Z (bY a b c)),U (Y (Q (gs.map bx))),y4,J,J,J,J,J,J]):=by
 obtain⟨e,h1,gs,y4,rfl,h2⟩:=cE (g:=gN 4) (body:=dD) (λi env=>∃(gs:List (Str×Int)) (y4:Os),env=[U (Z (.scr ns)),U (Z (E far)),U (Z (bY a b c)),U (Y (Q (gs.map bx))),y4,J,J,J,J,J,J]/\gs.length=i) (aC 0 n) 0 _ ⟨[],J,rfl,rfl⟩ (by
  rintro i d env hd ⟨gs,y4,rfl,h2⟩;obtain⟨hi,rfl⟩:=b9 hd;obtain⟨ch,xG⟩:=ha.2 i (by lia);have e1:=aM ns (302+(i:Int));have mf:∀j,aQ far j=O:=λj=>bq;have z:(gs.map bx).length<16777216:=by rw[Gae];lia
  have la:=ha.1;have zH:a.length<=16777216:=by lia
  generalize (i:Int)=j at xG e1;refine⟨_,_,rfl, ?_,gs++[(⟨#[ch]⟩,far*(mx ns (302+j)%10))],U (Z (E j)),rfl,by simp;lia⟩;have em:(gs++[((⟨#[ch]⟩:Str),far*(mx ns (302+j)%10))]).map bx=gs.map bx++[N [X ⟨#[ch]⟩,E (far*(mx ns (302+j)%10))]]:=by simp[bx]
  rw[em];generalize gs.map bx=GS at*;unfold dD bY;simp[xG,e1,mf,af,z,zH])
 rw[bV,GaP] at h2;exact⟨gs,y4,h2,h1⟩
def Bh{ns:List Int}(hb:Has b 3)(hf:1<=far)(xr:far<=1000000)(n:Nat)(hn:n<=3):
  ∃(ss:List fU) (y4:Os),ss.length=n/\(∀s∈ss,gB s/\s.ay.length<=2)/\Zw (gN 4) dE (aC 0 n) [U (Z (.scr ns)),U (Z (E far)),U (Z (bY a b c)),x3,x4,U (Y (Q [])),J,J,J,J,J]=
   U (P [U (Z (.scr ns)),U (Z (E far)),U (Z (bY a b c)),x3,y4,U (Y (Q (ss.map aI))),J,J,J,J,J]):=by
 obtain⟨e,h1,ss,y4,rfl,h2,h3⟩:=cE (g:=gN 4) (body:=dE) (λi env=>∃(ss:List fU) (y4:Os),env=[U (Z (.scr ns)),U (Z (E far)),U (Z (bY a b c)),x3,y4,U (Y (Q (ss.map aI))),J,J,J,J,J]/\ss.length=i/\∀s∈ss,gB s/\s.ay.length<=2) (aC 0 n) 0 _ ⟨[],x4,rfl,rfl,by simp⟩ (by
  rintro i d env hd ⟨ss,y4,rfl,h2,h3⟩;obtain⟨hi,rfl⟩:=b9 hd;obtain⟨ch,xG⟩:=hb.2 i (by lia);obtain⟨sd,s1,WM,s2⟩:=JP (ns:=ns) (k:=310+20*(i:Int)) (x:=⟨#[ch]⟩) (by lia) (by lia) hf xr;have Xz:aQ 20 (i:Int)=O:=bq;have z:(ss.map aI).length<16777216:=by rw[Gae];lia
  have la:=hb.1;have zH:b.length<=16777216:=by lia
  have rv:=aV (g9 sd);have em:(ss++[sd]).map aI=ss.map aI++[aI sd]:=by simp
  generalize (i:Int)=j at xG s2 Xz;refine⟨_,_,rfl, ?_,ss++[sd],U (Z (E j)),rfl,by simp;lia, ?_⟩
  .rw[em];generalize ss.map aI=SS at*;unfold dE bY;simp[xG,Xz,s2,af,z,zH,rv]
  .intro x hx;rcases Gau.mp hx with hx|hx
   .exact h3 x hx
   .simp at hx;subst hx;exact⟨s1,WM⟩)
 rw[bV,GaP] at h2;exact⟨ss,y4,h2,h3,h1⟩
def CD{ns:List Int}{far v9 v5 v6 v7 L:Int}{a b c:Str}{gs ss bs os:List D}{y4 z4 y7 y8 y9 w4:Os}(ef:da [.scr ns]=U (E far))(e9:ae [.scr ns,E 299]=U (E v9))(e5:ae [.scr ns,E 305]=U (E v5))(e6:ae [.scr ns,E 306]=U (E v6))(e7:ae [.scr ns,E 307]=U (E v7))
  (Xa:atD [Q [X "abc",X "uvw",X "klmn"],Q [X "abcd",X "abcd",X "abcd"]] (if v9%3=0 then 1 else 0)=U (bY a b c))(t5:aS (1+v5%3)=O)(t6:aS (1+v6%3)=O)(t7:aS (1+v7%4)=O)(hL:cO [Q ss]=U ⟨.c,E L⟩)(ts:aS L=O)
  (l1:Zw (gN 4) dD (aC 0 (1+v5%3).toNat) [U (Z (.scr ns)),U (Z (E far)),U (Z (bY a b c)),U (Y (Q [])),J,J,J,J,J,J,J]=U (P [U (Z (.scr ns)),U (Z (E far)),U (Z (bY a b c)),U (Y (Q gs)),y4,J,J,J,J,J,J]))
  (l2:Zw (gN 4) dE (aC 0 (1+v6%3).toNat) [U (Z (.scr ns)),U (Z (E far)),U (Z (bY a b c)),U (Y (Q gs)),y4,U (Y (Q [])),J,J,J,J,J]=U (P [U (Z (.scr ns)),U (Z (E far)),U (Z (bY a b c)),U (Y (Q gs)),z4,U (Y (Q ss)),J,J,J,J,J]))
  (l3:Zw (gN 7) dG (aC 0 L.toNat) [U (Z (.scr ns)),U (Z (E far)),U (Z (bY a b c)),U (Y (Q gs)),z4,U (Y (Q ss)),U (Y (Q [])),J,J,J,J]=U (P [U (Z (.scr ns)),U (Z (E far)),U (Z (bY a b c)),U (Y (Q gs)),z4,U (Y (Q ss)),U (Y (Q bs)),y7,y8,y9,J]))
  (l5:Zw (gN 4) dH (aC 0 (1+v7%4).toNat) [U (Z (.scr ns)),U (Z (E far)),U (Z (bY a b c)),U (Y (Q gs)),z4,U (Y (Q ss)),U (Y (Q bs)),y7,y8,y9,U (Y (Q []))]=U (P [U (Z (.scr ns)),U (Z (E far)),U (Z (bY a b c)),U (Y (Q gs)),w4,U (Y (Q ss)),U (Y (Q bs)),y7,y8,y9,U (Y (Q os))]))
  (i1:aA gs=O)(i2:aA ss=O)(i3:aA bs=O)(i4:aA os=O):j8 [.scr ns]=U (N [N gs,N ss,N bs,N os]):=by
 refine aL rfl ?_;unfold pI;refine sqn (by simp[ef];rfl) ?_;refine sqn (by simp[e9,Xa,af];rfl) ?_;refine sqn (by simp[af];rfl) ?_;refine sqn (by simp[e5,t5,l1];rfl) ?_;refine sqn (by simp[af];rfl) ?_;refine sqn (by simp[e6,t6,l2];rfl) ?_;refine sqn (by simp[af];rfl) ?_;simp[-A0,hL,ts,l3,af,e7,t7,l5,i1,i2,i3,i4]
def sM(ss:List fU)(o:Zz):Prop:=∃(s:fU) (c:Int),ss[o.aw.toNat]? =U s/\o.most=s.part*c/\1<=c/\c<=12
def Bi{ns:List Int}{gs:List (Str×Int)}{ss:List fU}(hc:Has c 4)(hf:1<=far)(xr:far<=1000000)(hg:1<=gs.length)(hs:1<=ss.length)(X0:∀s∈ss,gB s)(n:Nat)(hn:n<=4):
  ∃(os:List Zz) (y4:Os),os.length=n/\(∀o∈os,nM gs.length ss.length o/\sM ss o/\kP o)/\Zw (gN 4) dH (aC 0 n) [U (Z (.scr ns)),U (Z (E far)),U (Z (bY a b c)),U (Y (Q (gs.map bx))),x4,U (Y (Q (ss.map aI))),x6,x7,x8,x9,U (Y (Q []))]=
   U (P [U (Z (.scr ns)),U (Z (E far)),U (Z (bY a b c)),U (Y (Q (gs.map bx))),y4,U (Y (Q (ss.map aI))),x6,x7,x8,x9,U (Y (Q (os.map aj)))]):=by
 obtain⟨e,h1,os,y4,rfl,h2,h3⟩:=cE (g:=gN 4) (body:=dH) (λi env=>∃(os:List Zz) (y4:Os),env=[U (Z (.scr ns)),U (Z (E far)),U (Z (bY a b c)),U (Y (Q (gs.map bx))),y4,U (Y (Q (ss.map aI))),x6,x7,x8,x9,U (Y (Q (os.map aj)))]/\os.length=i/\∀o∈os,nM gs.length ss.length o/\sM ss o/\kP o) (aC 0 n) 0 _ ⟨[],x4,rfl,rfl,by simp⟩ (by
  rintro i d env hd ⟨os,y4,rfl,h2,h3⟩;obtain⟨hi,rfl⟩:=b9 hd;obtain⟨ch,xG⟩:=hc.2 i (by lia);obtain⟨od,cc,s1,⟨sd,Yl,WM⟩,Yk,Yj,Yi,s2⟩:=JQ (ns:=ns) (k:=400+25*(i:Int)) (x:=⟨#[ch]⟩) (by lia) (by lia) hf xr hg hs X0;have Xy:aQ 25 (i:Int)=O:=bq;have z:(os.map aj).length<16777216:=by rw[Gae];lia
  have la:=hc.1;have zH:c.length<=16777216:=by lia
  have rv:=aV (cF od s1.ti);have em:(os++[od]).map aj=os.map aj++[aj od]:=by simp
  generalize (i:Int)=j at xG s2 Xy;refine⟨_,_,rfl, ?_,os++[od],U (Z (E j)),rfl,by simp;lia, ?_⟩
  .rw[em];generalize os.map aj=OS at*;unfold dH bY;simp[xG,Xy,s2,af,z,zH,rv]
  .intro x hx;rcases Gau.mp hx with hx|hx
   .exact h3 x hx
   .simp at hx;subst hx;exact⟨s1,⟨sd,cc,Yl,WM,Yk,Yj⟩,Yi⟩)
 rw[bV,GaP] at h2;exact⟨os,y4,h2,h3,h1⟩
def JT(ns:List Int):∃(far:Int) (w:World),(far=1\/far=1000000)/\aH w/\w.Zs.length<=4/\(∀s∈w.ar,s.ay.length<=2)/\(∀o∈w.Zs,sM w.ar o)/\(∀o∈w.Zs,kP o)/\da [.scr ns]=U (E far)/\j8 [.scr ns]=U (aE w):=by
 obtain⟨far,Xh,ef⟩:=T8;have hf:1<=far:=by lia
 have xr:far<=1000000:=by lia
 have e299:=aM ns 299;have e305:=aM ns 305;have e306:=aM ns 306;have e307:=aM ns 307;obtain⟨a,b,c,ha,hb,hc,Xa⟩:∃a b c:Str,Has a 3/\Has b 3/\Has c 4/\atD [Q [X "abc",X "uvw",X "klmn"],Q [X "abcd",X "abcd",X "abcd"]] (if mx ns 299%3=0 then 1 else 0)=U (bY a b c):=by
  by_cases q:mx ns 299%3=0
  .exact⟨"abcd","abcd","abcd",sL.le (by lia),sL.le (by lia),sL,by simp[q,bY]⟩
  .exact⟨"abc","uvw","klmn",Mm,Mn,JS,by simp[q,bY]⟩
 obtain⟨gs,y4,g1,l1⟩:=Bg ha hf xr (1+mx ns 305%3).toNat (by lia);obtain⟨ss,z4,s1,s2,l2⟩:=Bh (x3:=U (Y (Q (gs.map bx)))) hb hf xr (1+mx ns 306%3).toNat (by lia);have lS:(ss.map aI).length=ss.length:=Gae _;obtain⟨bs,y7,y8,y9,b1,b2,l3⟩:=Gu (SS:=ss.map aI) (x3:=U (Y (Q (gs.map bx)))) (x4:=z4) hf xr (by lia);obtain⟨os,w4,o1,o2,l5⟩:=Bi (ns:=ns) (far:=far) (a:=a) (b:=b) (c:=c) (gs:=gs) (ss:=ss) (x4:=z4) (x6:=U (Y (Q (bs.map ZD)))) (x7:=y7) (x8:=y8) (x9:=y9) hc hf xr (by lia) (by lia) (λs hs=>(s2 s hs).1) (1+mx ns 307%4).toNat (by lia);rw[lS] at b1;have WW:aH ⟨gs,ss,bs,os⟩:=⟨by show 1<=gs.length;lia,by show gs.length<=6;lia,by show 1<=ss.length;lia,by show ss.length<=6;lia,λs hs=>(s2 s hs).1,by show bs.length<=12;lia,b1,by show 1<=os.length;lia,by show os.length<=12;lia,λo ho=>(o2 o ho).1⟩
 refine⟨far,⟨gs,ss,bs,os⟩,Xh,WW,by show os.length<=4;lia,λs hs=>(s2 s hs).2,λo ho=>(o2 o ho).2.1,λo ho=>(o2 o ho).2.2,ef, ?_⟩;have t5:aS (1+mx ns 305%3)=O:=b8;have t6:aS (1+mx ns 306%3)=O:=b8;have t7:aS (1+mx ns 307%4)=O:=b8;have ts:aS ((ss.map aI).length:Int)=O:=b8;have i4:aA (os.map aj)=O:=iQ λd hd=>by
  obtain⟨o,ho,rfl⟩:=Gas.mp hd;exact cF o (o2 o ho).1.ti
 exact CD ef e299 e305 e306 e307 Xa t5 t6 t7 rfl ts l1 l2 l3 l5 (fV se gs) (fV g9 ss) (bJ bs) i4
def Qi:kk b x=[]↔b=M:=by cases b<;>simp[kk]
def Gv{w:World}{n:Int}{o:Zz}{s:fU}(e1:w.Zs[n.toNat]? =U o)(e2:w.ar[o.aw.toNat]? =U s)(e3:w.bN[o.ax.toNat]? =U g):c6 w ws (n,h,a)=[]↔(((bC o.aP h=M/\a<=o.most)/\(1<=a/\a%s.part=0))/\(s.ay.any bH&&(wgt o.ax h ws J).isNone)=M)/\¬h<g.2+s.young:=by
 unfold c6;rw[e1];dsimp only;rw[e2,e3];rw[List.map_eq_nil_iff];unfold jL;simp only[Gcg,Qi,GdL,decide_eq_false_iff_not,GcR,Decidable.not_not]
def JU{a b:List Tr}{o k:Int}(p:a.Perm b):iN os a o k=iN os b o k:=by
 exact(p.filter _).length_eq
def Er{w:World}(W:aH w)(n h:Int)(t:Tr):(nrT w.Zs w.br n h t).length<=1:=by
 unfold nrT;split
 .rename_i q;rw[nU (λb hb=>(W.bo.1 b hb).2.1) W.bo.2 (show(h,n).1<=(t.2.1,t.1).1 from(kO q).1)];unfold gpF;split
  .split<;>simp
  .simp
 .simp
theorem gQ{α β:Type}{f:α->List β}:∀l:List α,(∀x∈l,(f x).length<=m)->(l.flatMap f).length<=m*l.length
 |[],_=>by simp
 |x::l,h=>by
  have h1:=h x Gaj;have h2:=gQ l λy hy=>h y (Gaf _ hy);rw[GaY,Gal,GaF];lia
def Qj{w:World}{o:Zz}(e1:w.Zs[t.1.toNat]? =U o)(e2:w.ar[o.aw.toNat]? =U s)(e3:w.bN[o.ax.toNat]? =U g)(h:c6 w ws t=[]):(nW ws' gv' o s g.2 t.1 t.2.1 t.2.2).length<=2:=by
 have q:=(Gv e1 e2 e3).mp h;have k5:=iP (s.ay.any bH&&(wgt o.ax t.2.1 ws' J).isNone) "weight" t.1 t.2.1;have k6:=El gv' o.aP t.1 t.2.1;have f1:kF (bC o.aP t.2.1) "astray" t.1 t.2.1=[]:=by rw[q.1.1.1.1];rfl
 have f2:kF (decide (o.most<t.2.2)) "most" t.1 t.2.1=[]:=by rw[GaE (by have:=q.1.1.1.2;lia)];rfl
 have f3:kF (decide (t.2.2<1)||decide (¬t.2.2%s.part=0)) "part" t.1 t.2.1=[]:=by rw[GaE (by have:=q.1.1.2.1;lia),GaE (λz=>z q.1.1.2.2)];rfl
 have f4:kF (decide (t.2.1<g.2+s.young)) "young" t.1 t.2.1=[]:=by rw[GaE q.2];rfl
 unfold nW;rw[f1,f2,f3,f4];simp only[GbV,Gal];lia
def jZ{w:World}{gv:List Tr}{o:Zz}{s:fU}(e1:w.Zs[t.1.toNat]? =U o)(e2:w.ar[o.aw.toNat]? =U s)(e3:w.bN[o.ax.toNat]? =U g):gc w ws gv t=nW ws gv o s g.2 t.1 t.2.1 t.2.2++iM w.Zs ws gv o t.2.1 0 s.ay++gv.flatMap (nrT w.Zs w.br t.1 t.2.1):=by
 unfold gc;simp_all
def Mo{w:World}{gv gv' ts:List Tr}(W:aH w)(hc:∀s∈w.ar,s.ay.length<=2)(hg:bQ w.Zs.length gv)(nd:(gvR gv).Nodup)(S:Snd w ws gv)(hl:gv.length<=9)(h1:ts.length<=1)(ht:bQ w.Zs.length ts)(p:gv'.Perm (gv++ts)):(gv'.flatMap (gc w ws' gv')).length<64:=by
 have none_:=(ql W hg nd).mpr S;rw[(p.flatMap_right _).length_eq,Gcx,Gal];have len:gv'.length<=10:=by rw[p.length_eq,Gal];lia
 have old:∀t∈gv,(gc w ws' gv' t).length<=5:=λt h=>by
  obtain⟨o,s,g,e1,e2,e3,_⟩:=d6 W (hg t h).1 (hg t h).2;have n1:=Gbx.mp none_ t h;rw[jZ e1 e2 e3,Gcg] at n1;have a1:=Qj (ws' :=ws') (gv' :=gv') e1 e2 e3 (S.MK t h);have a2:=gY w.Zs ws' gv' o t.2.1 0 s.ay;have a3:=hc s (Gax e2);have a4:(gv'.flatMap (nrT w.Zs w.br t.1 t.2.1)).length<=1:=by
   rw[(p.flatMap_right _).length_eq,Gcx,n1.2,GbV];have:=gQ (f:=nrT w.Zs w.br t.1 t.2.1) ts λx _=>Er W _ _ x;lia
  rw[jZ e1 e2 e3,Gal,Gal];lia
 have new:∀t∈ts,(gc w ws' gv' t).length<=18:=λt h=>by
  obtain⟨o,s,g,e1,e2,e3,_⟩:=d6 W (ht t h).1 (ht t h).2;have a1:=sG ws' gv' o s g.2 t.1 t.2.1 t.2.2;have a2:=gY w.Zs ws' gv' o t.2.1 0 s.ay;have a3:=hc s (Gax e2);have a4:=gQ (f:=nrT w.Zs w.br t.1 t.2.1) gv' λx _=>Er W _ _ x;rw[jZ e1 e2 e3,Gal,Gal];lia
 have s1:=gQ gv old;have s2:=gQ ts new;lia
def Es{ns:List Int}{o:Zz}(hk:0<=k)(xR:k<100000)(hf:far=1\/far=1000000)(hd:fW o.aP):∃h:Int,dI [.scr ns,E k,aj o,E far]=U (E h):=by
 have e0:=aM ns k;have e1:=aM ns (k+1);have f0:0<far:=by lia
 have f1:far<1073741824:=by lia
 have mf:∀j,aQ far j=O:=λj=>bq;unfold aj;generalize o.aP=u at*;cases u with
 |asked b=>
  unfold dI mM cu;simp[e0,mf]
 |due b e m ea la=>
  obtain⟨_,_,⟨m1,m2⟩,a0,l0,_⟩:=hd;generalize mx ns (k+1)=by_ at*;have m0:0<m:=by lia
  have r0:=mxm ns k m m0;have mm:∀j,aQ (mx ns k%m) j=O:=λj=>bq;have p0:0<=(ea+la)/far:=Int.ediv_nonneg (by lia) (by lia);have p1:0<1+(ea+la)/far:=by lia
  have mb:∀j,aQ (by_/7%2) j=O:=λj=>bq;unfold dI mM cu;simp_all
noncomputable def spD(t:Tr):D:= N [E t.1,E t.2.1]
def Bj{l:List Tr}(hl:l.length<=1000):dJ [N (l.map ZD)]=U (Q (l.map spD)):=by
 have h:=dW (g:=gN 0) (f:=aO (aa (ZE (vE 0) (kE (E 0))) (aa (ZE (vE 0) (kE (E 1))) aX))) ZD (λe=>∃x,e=[x]) spD l [J] ⟨J,rfl⟩ (by
  rintro t _ e ⟨x,rfl⟩;exact⟨_,rfl,⟨_,rfl⟩,.c,by simp[ZD,spD],rfl⟩)
 have i:aA (l.map spD)=O:=fV (λt=>by simp[spD]) l;have z:l.length<=16777216:=by lia
 have c0:DL.Zx 1 [] [U (Z (N (l.map ZD)))]=[J]:=rfl;unfold dJ pJ;simp[h,z,af,c0,i]
noncomputable def tL(n h:Int)(l:List Tr):Bool:=l.any λt=>decide (t.1=n/\t.2.1=h)
def JV(n h:Int)(l:List Tr):inB (N [E n,E h]) (Q (l.map spD))=U (tL n h l):=by
 show pC _ _=_;unfold pC;have p1:(l.map spD).all (aJ 10)=O:=by
  rw[GbI,Gar];intro t _
  rfl
 rw[p1];show U ((l.map spD).any λy=>eqD y (N [E n,E h]))=_;rw[Gdl];congr 2
 funext t
 show(decide (t.1=n)&&(decide (t.2.1=h)&&O))=_;simp_all
def Gw:tL n h l=M↔¬(h,n)∈gvR l:=by
 unfold tL gvR;rw[GbX];constructor
 .intro q m;obtain⟨t,ht,e⟩:=Gas.mp m;injection e with e1 e2
  exact q t ht (GaD ⟨e2,e1⟩)
 .intro q t ht z;have:=Gaq z;exact q (Gas.mpr ⟨t,ht,by rw[this.1,this.2]⟩)
def laid(l:List Tr)(t:Tr):List Tr:=(bG ((l++[t]).map ZD)).map Cp
def lA(l:List Tr)(t:Tr):(laid l t).Perm (l++[t]):=by
 have:=GcU Cp (bT ((l++[t]).map ZD));rw[GaN] at this;have e2:(l++[t]).map (Cp∘ZD)=l++[t]:=by
  conv=>rhs;rw[<-GbP (l++[t])]
  exact GaO λp _=>rfl
 rw[e2] at this;exact this
def JW(l:List Tr)(t:Tr):(laid l t).map ZD=bG ((l++[t]).map ZD):=by
 unfold laid;rw[GaN]
 conv=>rhs;rw[<-GbP (bG ((l++[t]).map ZD))]
 apply GaO;intro x hx;obtain⟨p,_,rfl⟩:=Gas.mp ((bT _).mem_iff.mp hx)
 rfl
def wG{l:List Tr}{t:Tr}(hl:l.length<63):Zy [N (l.map ZD++[ZD t])]=U ⟨.tn,Q ((laid l t).map ZD)⟩:=by
 have e:l.map ZD++[ZD t]=(l++[t]).map ZD:=by rw[GaC];rfl
 rw[JW,e];have h1:(((l++[t]).map ZD).length<64):=by simp;lia
 unfold Zy one jy;simp only[Option.bind_some];rw[DW,GaD h1];rfl
def sN{ZX:List D}(h:ZX.length<100000):fZ (N ZX) (N [d])=U ⟨.c,N (ZX++[d])⟩:=by
 cases ZX with
 |nil=>rfl
 |cons x ZX=>
  show(if(x::ZX).length+1<=16777216/\0<(x::ZX).length then U (⟨.c,N ((x::ZX)++[d])⟩:RV) else J)=_;rw[Gao ⟨by lia,by simp⟩]
def va{l:List Tr}{V:D}(hV:V.imm=O)(hl:l.length<63):cg [N [V,N (l.map ZD)],E n,E h,E a]=U (N [V,N ((laid l (n,h,a)).map ZD)]):=by
 have e:=wG (t:=(n,h,a)) hl;have y:=sN (ZX:=l.map ZD) (d:=ZD (n,h,a)) (by rw[Gae];lia);have i:=bJ (laid l (n,h,a));have et:ZD (n,h,a)= N [E n,E h,E a]:=rfl;rw[et] at e y;unfold cg rY;simp[y,e,i,hV]
def CF{l:List Tr}{V:D}(hV:V.imm=O)(hl:l.length<63):d7 [N [V,N (l.map ZD)],E n,E h,E a]=U (N [V,N ((laid l (n,h,a)).map ZD)]):=by
 have e:=wG (t:=(n,h,a)) hl;have y:=sN (ZX:=l.map ZD) (d:=ZD (n,h,a)) (by rw[Gae];lia);have i:=bJ (laid l (n,h,a));have et:ZD (n,h,a)= N [E n,E h,E a]:=rfl;rw[et] at e y;generalize (laid l (n,h,a)).map ZD=R at*;generalize l.map ZD=ZX at*;have q:l9 [N ZX,N [E n,E h,E a]]=U (N R):=by
  unfold l9 uK;simp[y,e,i]
 unfold d7 lW;simp[q,i,hV]
def vb:DS:=
 (ifS (az eqB (ZF bh (ZF cW (ak ae (aa (vE 0) (aa (vE 6) aX))) (kE (E 8))) (kE (E 3))) (kE (E 0)))
  (ifS (az Ai (aO (aa (ZE (vE 8) (kE (E 1))) (aa (ZF b6 (ZF cW (ZF cW (vE 9) (vE 3)) (kE (E 2))) (vE 3)) aX))) (ak dJ (aa (ZE (vE 4) (kE (E 0))) aX)))
  (ah (aq 13 (aO (aa (ZE (vE 8) (kE (E 1))) (aa (ZF b6 (ZF cW (ZF cW (vE 9) (vE 3)) (kE (E 2))) (vE 3)) (aa (ZF fZ (kE (E 1)) (ZF bh (ak ae (aa (vE 0) (aa (ZF fZ (vE 6) (kE (E 3))) aX))) (kE (E 200)))) aX)))))
 (aq 12 (aO (aa (bD dz (aa (bD Zy (aa (ZF fZ (ZE (vE 4) (kE (E 0))) (aO (aa (vE 13) aX))) aX)) aX)) (aa (ZE (vE 4) (kE (E 1))) aX)))))
  ni)
  (ifS (az Ai (aO (aa (vE 7) (aa (vE 9) aX))) (ak dJ (aa (ZE (vE 4) (kE (E 1))) aX)))
  (aq 12 (ak cg (aa (vE 4) (aa (vE 7) (aa (vE 9) (aa (vE 11) aX))))))
  ni))
def JX:DS:=
 (ifS (az eqB (bD cO (aa (ak bA (aa (vE 1) (aa (vE 12) aX))) aX)) (kE (E 0)))
  (aq 4 (vE 12))
  ni)
def bkD(ws gv:List Tr):D:= N [N (ws.map ZD),N (gv.map ZD)]
structure oQ(w:World)(i:Nat)(ws gv:List Tr):Prop where
 go:bQ w.Zs.length gv
 nd:(gvR gv).Nodup
 sn:Snd w ws gv
 wl:ws.length<=i
 gl:gv.length<=i
def oQ.mono(h:oQ w i ws gv)(q:i<=j):oQ w j ws gv:=⟨h.go,h.nd,h.sn,by have:=h.wl;lia,by have:=h.gl;lia⟩
def nY(i j:Int):fZ (E i) (E j)=U ⟨.c,E (i+j)⟩:=rfl
def vc(n h:Int)(l:List Tr):Ai (N [E n,E h]) (Q (l.map spD))=U (!tL n h l):=by
 unfold Ai;rw[JV]
 rfl
def Qk{ns:List Int}{ws gv:List Tr}{am:Int}(p1:ixD OD (E 1)=U (E g))(xA:0<=at_)(YY:at_<10000)(hf:far=1\/far=1000000)(hw:ws.length<60)(hg:gv.length<60):
  ∃ws' gv' yD,vb [U (Z (.scr ns)),U (Z wd),x2,U (Z (E far)),U (Z (bkD ws gv)),U (Z (E j)),U (Z (E at_)),U (Z (E n)),U (Z OD),U (Z (E h)),U (Z (E p)),U (Z (E am)),U (Z (bkD ws gv)),x13]=
   U (P [U (Z (.scr ns)),U (Z wd),x2,U (Z (E far)),U (Z (bkD ws gv)),U (Z (E j)),U (Z (E at_)),U (Z (E n)),U (Z OD),U (Z (E h)),U (Z (E p)),U (Z (E am)),U (Z (bkD ws' gv')),yD])/\ws'.length<=ws.length+1/\(gv' =gv\/tL n h gv=M/\ws' =ws/\gv' =laid gv (n,h,am)):=by
 have e0:=aM ns at_;have e3:=aM ns (at_+3);have f0:0<far:=by lia
 have f1:far<1073741824:=by lia
 have mf:∀i,aQ i far=O:=λi=>bI;have sw:=Bj (l:=ws) (by lia);have sg:=Bj (l:=gv) (by lia);have b0:ixD (bkD ws gv) (E 0)=U (N (ws.map ZD)):=rfl;have b1:ixD (bkD ws gv) (E 1)=U (N (gv.map ZD)):=rfl;by_cases c1:mx ns at_/8%3=0
 .have hb:=vc g (h/far/2*far) ws;by_cases c2:tL g (h/far/2*far) ws=O
  .refine⟨ws,gv,x13, ?_,by lia,.inl rfl⟩;rw[c2] at hb;unfold vb;simp[e0,c1,p1,f0,f1,mf,b0,sw,hb]
  .rw[Bool.not_eq_true] at c2;rw[c2] at hb;have ev:=wG (l:=ws) (t:=(g,h/far/2*far,1+mx ns (at_+3)%200)) (by lia);have y:=sN (ZX:=ws.map ZD) (d:=ZD (g,h/far/2*far,1+mx ns (at_+3)%200)) (by rw[Gae];lia);have lp:=(lA ws (g,h/far/2*far,1+mx ns (at_+3)%200)).length_eq;have et:ZD (g,h/far/2*far,1+mx ns (at_+3)%200)= N [E g,E (h/far/2*far),E (1+mx ns (at_+3)%200)]:=rfl;rw[et] at ev y;refine⟨laid ws (g,h/far/2*far,1+mx ns (at_+3)%200),gv,U (Z (N [E g,E (h/far/2*far),E (1+mx ns (at_+3)%200)])), ?_,by rw[lp];simp,.inl rfl⟩;have xW :bkD (laid ws (g,h/far/2*far,1+mx ns (at_+3)%200)) gv= N [N ((laid ws (g,h/far/2*far,1+mx ns (at_+3)%200)).map ZD),N (gv.map ZD)]:=rfl;rw[xW];unfold vb;simp[e0,e3,c1,p1,f0,f1,mf,b0,b1,sw,hb,nY,y,ev]
 .have hb:=vc n h gv;by_cases c2:tL n h gv=O
  .refine⟨ws,gv,x13, ?_,by lia,.inl rfl⟩;rw[c2] at hb;unfold vb;simp[e0,c1,b1,sg,hb,af]
  .rw[Bool.not_eq_true] at c2;rw[c2] at hb;have ev:=va (l:=gv) (n:=n) (h:=h) (a:=am) (V:= N (ws.map ZD)) (by have:=bJ ws;simpa using this) (by lia);refine⟨ws,laid gv (n,h,am),x13, ?_,by lia,.inr ⟨c2,rfl,rfl⟩⟩;have Xn :cg [bkD ws gv,E n,E h,E am]=U (bkD ws (laid gv (n,h,am))):=ev;have rv:ku (bkD ws (laid gv (n,h,am)))=⟨.c,bkD ws (laid gv (n,h,am))⟩:=aV (by
    have h1:=bJ ws;have h2:=bJ (laid gv (n,h,am));simp[bkD,h1,h2])
   unfold vb;simp[e0,c1,b1,sg,hb,af,Xn,rv]
def bQ.perm{b:List Tr}(h:bQ n a)(p:b.Perm a):bQ n b:=λt ht=>h t (p.mem_iff.mp ht)
def bQ.app(h:bQ n a)(g:bQ n b):bQ n (a++b):=λt ht=>(Gau.mp ht).elim (h t) (g t)
def JY{w:World}{gv' ts:List Tr}(W:aH w)(hc:∀s∈w.ar,s.ay.length<=2)(B:oQ w 9 ws gv)(p:gv'.Perm (gv++ts))(h1:ts.length<=1)(ht:bQ w.Zs.length ts)(nd:(gvR gv').Nodup):∃R,bA [aE w,bkD ws' gv']=U (Q R)/\(R=[]↔Snd w ws' gv'):=by
 have hg' :=(B.go.app ht).perm p;have gl:=B.gl;have hl:gv'.length<64:=by rw[p.length_eq,Gal];lia
 obtain⟨R,e,q⟩:=pZ W hg' hl (Mo W hc B.go B.nd B.sn B.gl h1 ht p);exact⟨R,e,q.trans (ql W hg' nd)⟩
def Et(nd:(gvR gv).Nodup)(q:tL n h gv=M):(gvR (laid gv (n,h,a))).Nodup:=by
 have p:=(lA gv (n,h,a)).map λt:Tr=>(t.2.1,t.1)
 refine(List.Perm.nodup_iff p).mpr ?_;rw[GaC];refine GaW.mpr ⟨nd,by simp,λx hx y hy z=> ?_⟩;have:y=(h,n):=by simpa using hy
 rw[this] at z;rw[z] at hx;exact Gw.mp q hx
def JZ{m:Nat}{n:Int}(h0:0<=n)(h1:n<m):bQ m [(n,h,a)]:=λt ht=>by
 rw[GaU] at ht;rw[ht];exact⟨h0,h1⟩
def Ql(e:bA [wd,xW]=U (Q L)):JX [x0,U (Z wd),x2,x3,U (Z bk),x5,x6,x7,x8,x9,eI,eN,U (Z xW),x13]=
   U (P [x0,U (Z wd),x2,x3,U (Z (if L=[] then xW else bk)),x5,x6,x7,x8,x9,eI,eN,U (Z xW),x13]):=by
 unfold JX;cases L with
 |nil=>simp[e]
 |cons a L=>
  have:¬((L.length:Int)+1=0):=by lia
  simp[e,this]
def Qm{ns:List Int}{bk:D}(Wu:wd= N [N A,N B,N C,N Zq])(hj:aQ 7 j=O)(xA:1000+7*j=at_)(hl:cO [N Zq]=U ⟨.c,E lo⟩)(lp:0<lo)(e0:ae [.scr ns,E at_]=U (E (mx ns at_)))(hn:mx ns at_%lo=n)(hO:atD Zq n=U OD)(hh:dI [.scr ns,E (at_+1),OD,E far]=U (E h))(p2:ixD OD (E 2)=U (E s))(p3:ixD OD (E 3)=U RD)(Yo:ixD RD (E 3)=U (E mo))(hS:atD B s=U SD)(s1:ixD SD (E 1)=U (N ZY))(WN:atD ZY 0=U (E p))(hp:0<p)(yz:p<1073741824)(YL:mo/p=c)(hc:0<c)(yS:c<=12)(e4:ae [.scr ns,E (at_+4)]=U (E (mx ns (at_+4)))):
  jm [U (Z (.scr ns)),U (Z wd),x2,U (Z (E far)),U (Z bk),U (Z (E j)),x6,x7,x8,x9,eI,eN,x12,x13]=
   ah vb JX [U (Z (.scr ns)),U (Z wd),x2,U (Z (E far)),U (Z bk),U (Z (E j)),U (Z (E at_)),U (Z (E n)),U (Z OD),U (Z (E h)),U (Z (E p)),U (Z (E (p*(1+mx ns (at_+4)%c)))),U (Z bk),x13]:=by
 have w1:ixD wd (E 1)=U (N B):=by rw[Wu];rfl
 have w3:ixD wd (E 3)=U (N Zq):=by rw[Wu];rfl
 have r4:=mxm ns (at_+4) c hc;have mp:∀i,aQ i (1+mx ns (at_+4)%c)=O:=λi=>bI;refine sqn (by simp[hj,nY,xA];rfl) ?_;refine sqn (by simp[e0,w3,hl,lp,hn];rfl) ?_;refine sqn (by simp[w3,hO];rfl) ?_;refine sqn (by simp[nY,hh];rfl) ?_;refine sqn (by simp[w1,p2,hS,s1,WN];rfl) ?_;refine sqn (by simp[nY,p3,Yo,hp,yz,YL,hc,e4,mp];rfl) ?_
 rfl
def Mp{ds:List D}:cO [N ds]=U ⟨.c,E (ds.length:Int)⟩:=rfl
def sO{w:World}(W:aH w)(v:Int):∃(lo n:Int),cO [N (w.Zs.map aj)]=U ⟨.c,E lo⟩/\0<lo/\v%lo=n/\0<=n/\n<w.Zs.length:=by
 have h:=W.o1;have e:((w.Zs.map aj).length:Int)=(w.Zs.length:Int):=by rw[Gae]
 refine⟨_,_,Mp,by rw[e];lia,rfl, ?_, ?_⟩
 .exact Gdb _ (by lia)
 .rw[e];exact Gdm _ (by lia)
def Mq{ns:List Int}{w:World}(W:aH w)(hc:∀s∈w.ar,s.ay.length<=2)(hm:∀o∈w.Zs,sM w.ar o)(hf:far=1\/far=1000000)(hi:i<9)(B:oQ w i ws gv):
  ∃ws' gv' y6 y7 y8 y9 eP eV yq yD,oQ w (i+1) ws' gv' /\jm [U (Z (.scr ns)),U (Z (aE w)),x2,U (Z (E far)),U (Z (bkD ws gv)),U (Z (E (0+(i:Int)))),x6,x7,x8,x9,eI,eN,x12,x13]=
   U (P [U (Z (.scr ns)),U (Z (aE w)),x2,U (Z (E far)),U (Z (bkD ws' gv')),U (Z (E (0+(i:Int)))),y6,y7,y8,y9,eP,eV,yq,yD]):=by
 have hj0:0<=0+(i:Int):=by lia
 have yP:0+(i:Int)<9:=by lia
 generalize 0+(i:Int)=j at*;have m7:aQ 7 j=O:=bq;obtain⟨at_,xA⟩:∃a,1000+7*j=a:=⟨_,rfl⟩
 have e0:=aM ns at_;have e4:=aM ns (at_+4);obtain⟨lo,n,hl,lp,hn,n0,n1⟩:=sO W (mx ns at_);obtain⟨o,s,g,o1,o2,o3,so,_,oa,sa,_⟩:=d6 W n0 n1;have ok:=W.oo o (Gax o1);obtain⟨s',c,q1,q2,q3,q4⟩:=hm o (Gax o1);rw[o2] at q1;cases q1;obtain⟨h,hh⟩:=Es (k:=at_+1) (by lia) (by lia) hf ok.du;have pp:=so.p1;have pq:=so.p2;have dv:o.most/s.part=c:=by rw[q2];exact Int.mul_ediv_cancel_left _ (by lia)
 have pre:=Qm (wd:=aE w) (bk:=bkD ws gv) (s:=o.aw) (h:=h) (p:=s.part) (x2:=x2) (x6:=x6) (x7:=x7) (x8:=x8) (x9:=x9) (eI:=eI) (eN:=eN) (x12:=x12) (x13:=x13) rfl m7 xA hl lp e0 hn oa hh rfl rfl rfl sa rfl rfl (by lia) (by lia) dv (by lia) q4 e4;have wl:=B.wl;have gl:=B.gl;obtain⟨ws',gv',yD,f1,f2,f3⟩:=Qk (ns:=ns) (wd:=aE w) (OD:=aj o) (ws:=ws) (gv:=gv) (far:=far) (j:=j) (at_:=at_) (n:=n) (g:=o.ax) (h:=h) (p:=s.part) (am:=s.part*(1+mx ns (at_+4)%c)) (x2:=x2) (x13:=x13) rfl (by lia) (by lia) hf (by lia) (by lia);obtain⟨ts,pt,tl,tg,zx⟩:∃ts:List Tr,gv'.Perm (gv++ts)/\ts.length<=1/\bQ w.Zs.length ts/\(gvR gv').Nodup:=by
  rcases f3 with rfl| ⟨c1,_,rfl⟩
  .exact⟨[],by rw[Gbh],by simp,by intro t ht;simp at ht,B.nd⟩
  .exact⟨_,lA gv _,by simp,JZ n0 n1,Et B.nd c1⟩
 obtain⟨R,lr,rq⟩:=JY W hc (ws' :=ws') (B.mono (by lia)) pt tl tg zx;have fin:=Ql (x0:=U (Z (.scr ns))) (x2:=x2) (x3:=U (Z (E far))) (x5:=U (Z (E j))) (x6:=U (Z (E at_))) (x7:=U (Z (E n))) (x8:=U (Z (aj o))) (x9:=U (Z (E h))) (eI:=U (Z (E s.part))) (eN:=U (Z (E (s.part*(1+mx ns (at_+4)%c))))) (x13:=yD) (bk:=bkD ws gv) lr;by_cases z:R=[]
 .rw[Gao z] at fin;refine⟨ws',gv',_,_,_,_,_,_,_,_,⟨(B.go.app tg).perm pt,zx,rq.mp z,by lia,by rw[pt.length_eq,Gal];lia⟩,pre.trans ((mP f1).trans fin)⟩
 .rw[Gai z] at fin;refine⟨ws,gv,_,_,_,_,_,_,_,_,B.mono (by lia),pre.trans ((mP f1).trans fin)⟩
def Mr(w:World):Snd w [] []:=⟨λ_ h=>by simp at h,λ_ h=>by simp at h,List.Pairwise.nil,λ_ _=>by simp[iN]⟩
def Ms{ns:List Int}{w:World}(W:aH w)(hc:∀s∈w.ar,s.ay.length<=2)(hm:∀o∈w.Zs,sM w.ar o)(hf:far=1\/far=1000000)(ef:da [.scr ns]=U (E far)):∃ws gv,oQ w 9 ws gv/\mN [.scr ns,aE w,E 9]=U (bkD ws gv):=by
 obtain⟨e,h1,ws,gv,y5,y6,y7,y8,y9,eP,eV,yq,yD,rfl,B⟩:=cE (g:=gN 5) (λi env=>∃(ws gv:List Tr) (y5 y6 y7 y8 y9 eP eV yq yD:Os),env=[U (Z (.scr ns)),U (Z (aE w)),U (Z (E 9)),U (Z (E far)),U (Z (bkD ws gv)),y5,y6,y7,y8,y9,eP,eV,yq,yD]/\oQ w i ws gv) (aC 0 9) 0
  [U (Z (.scr ns)),U (Z (aE w)),U (Z (E 9)),U (Z (E far)),U (Z (bkD [] [])),J,J,J,J,J,J,J,J,J] ⟨[],[],_,_,_,_,_,_,_,_,_,rfl,⟨λ_ h=>by simp at h,by simp[gvR],Mr w,by simp,by simp⟩⟩ (by
   rintro i d env hd ⟨ws,gv,y5,y6,y7,y8,y9,eP,eV,yq,yD,rfl,B⟩;obtain⟨hi,rfl⟩:=b9 hd;rw[GaP] at B;obtain⟨ws',gv',z6,z7,z8,z9,xX,yV,Yc,Yb,B',k1⟩:=Mq W hc hm hf hi B;exact⟨_,_,rfl,k1,ws',gv',_,z6,z7,z8,z9,xX,yV,Yc,Yb,rfl,by rw[GaP];exact B'⟩)
 refine⟨ws,gv,B, ?_⟩;have s9:aS 9=O:=rfl;have im:(bkD ws gv).imm=O:=by
  have h1:=bJ ws;have h2:=bJ gv;simp[bkD,h1,h2]
 have b0:bkD [] []= N [N [],N []]:=rfl;rw[b0] at h1;refine aL rfl ?_;refine sqn (by simp[ef];rfl) ?_;simp[s9,h1,im]
def Gx(n:Nat)(fs:List Flt):(fs.map ag).all (aJ (n+1))=O:=by
 rw[GbI,Gar];intro f _;show((X f.1)::f.2.map E).all (aJ n)=O;rw[GbA,Cn];simp
def Mt(fs:List Flt):eqB (Q (fs.map ag)) (Q [])=U (decide (fs=[])):=by
 unfold eqB;have h1:D.plain (Q (fs.map ag))=O:=Gx 18 fs;rw[h1];cases fs<;>rfl
def K0{gv:List Tr}(hl:gv.length<64):dC [bkD ws gv,E n]=U (Q ((gv.filter λt=>decide (t.1=n)).map λt=> E t.2.1)):=by
 have h:=fH (g:=gN 0) (t:=az eqB (ZE (vE 0) (kE (E 0))) (vE 1)) (f:=aO (aa (ZE (vE 0) (kE (E 1))) (aa (ZE (vE 0) (kE (E 2))) aX))) ZD (λe=>∃x,e=[x,U (Z (E n))]) (λt=>decide (t.1=n)) (λt=>N [E t.2.1,E t.2.2]) gv [J,U (Z (E n))] ⟨J,rfl⟩ (by
  rintro t _ e ⟨x,rfl⟩;refine⟨_,rfl,⟨_,rfl⟩, ?_,λ_=> ⟨.c, ?_,rfl⟩⟩
  .rfl
  .simp[ZD])
 have fl:=GbL (λt:Tr=>decide (t.1=n)) gv;generalize (gv.filter λt=>decide (t.1=n))=l at*;have i:aA (l.map λt=>N [E t.2.1,E t.2.2])=O:=fV (λt=>by simp) l;have z:l.length<=16777216:=by lia
 have z2:gv.length<=16777216:=by lia
 have c0:DL.Zx 1 [1] [U (Z (bkD ws gv)),U (Z (E n))]=[J,U (Z (E n))]:=rfl;have b1:ixD (bkD ws gv) (E 1)=U (N (gv.map ZD)):=rfl;have q:gO [bkD ws gv,E n]=U (Q (l.map λt=>N [E t.2.1,E t.2.2])):=by
  unfold gO nH;simp[b1,h,z2,af,c0,i]
 have h2:=dW (g:=gN 0) (f:=ZE (vE 0) (kE (E 0))) (λt:Tr=>N [E t.2.1,E t.2.2]) (λe=>∃x,e=[x]) (λt=>E t.2.1) l [J] ⟨J,rfl⟩ (by
  rintro t _ e ⟨x,rfl⟩;exact⟨_,rfl,⟨_,rfl⟩,.c,by simp,rfl⟩)
 have i2:aA (l.map λt=>E t.2.1)=O:=fV (λt=>by simp) l;have c1:DL.Zx 1 [] [U (Z (bkD ws gv)),U (Z (E n))]=[J]:=rfl;unfold dC kH;simp[q,h2,z,af,c1,i2]
noncomputable def btw(a b x:Int):Bool:=decide (a<=x)&&decide (x<=b)
def gK(a b:Int)(hs:List Int):Bool:=(hs.map (btw a b)).any id
def gn(a b:Int)(hs:List Int)(h:Int):Str:=if gK a b hs then "given" else if h<a then "ahead" else if h>b then "missed" else "open"
def CG(a b:Int)(hs:List Int)(h:Int):gn a b hs h=Str.ofString "open"↔gK a b hs=M/\a<=h/\h<=b:=by
 unfold gn;cases gK a b hs
 .by_cases q2:h<a
  .rw[Gai GaB,Gao q2];constructor
   .intro z;simp at z
   .lia
  .by_cases q3:h>b
   .rw[Gai q2];simp_all
   .rw[Gai q2];simp_all
 .simp_all
def nZ(e1:1<=e)(a0:0<=ea)(l0:0<=la)(al:ea+la<e):kL b e m ea la h=U k↔(0<=k/\k<m)/\b+k*e -ea<=h/\h<=b+k*e+la:=by
 rw[Ee e1 a0 l0 al];unfold kL;constructor
 .intro q;split at q
  .simp_all
  .cases q
 .simp_all
noncomputable def q8(x:Str)(g st:D)(rule:D)(b e m ea la:Int)(ts:D):D:= N [X x,g,st,rule,N [X "due",E b,E e,E m,E ea,E la],ts]
variable{rule:D}
def CH{x:Str}{g st ts:D}{b e m ea la k:Int}(he:0<=e)(xS:e<=1000000000):wg [q8 x g st rule b e m ea la ts,E k]=U (N [E (b+k*e -ea),E (b+k*e+la)]):=by
 have p1:∀i,aQ i e=O:=λi=>bI;unfold wg Je q8;simp[p1]
def CI{x:Str}{g st ts:D}{b e m ea la k h:Int}{hs:List Int}(he:0<=e)(xS:e<=1000000000)(hl:hs.length<=1000):qk [q8 x g st rule b e m ea la ts,Q (hs.map E),E k,E h]=U (X (gn (b+k*e -ea) (b+k*e+la) hs h)):=by
 have e:=CH (x:=x) (g:=g) (st:=st) (rule:=rule) (ts:=ts) (b:=b) (m:=m) (ea:=ea) (la:=la) (k:=k) he xS;generalize ha:b+k*_ -ea=a at e;generalize hb:b+k*_+la=b' at e;have c:=dW (g:=gN 0) (f:=bE (jg leB leB (ZE (vE 1) (kE (E 0))) (vE 0) (ZE (vE 1) (kE (E 1))))) E (λenv=>∃y,env=[y,U (Z (N [E a,E b']))])
  (λx=> ZZ (btw a b' x)) hs [J,U (Z (N [E a,E b']))] ⟨J,rfl⟩ (by
   rintro i hi env ⟨y,rfl⟩;refine⟨_,rfl,⟨_,rfl⟩,.c, ?_,rfl⟩;unfold btw;by_cases c1:a<=i<;>simp[c1])
 have c2:hs.map (λx=>ZZ (btw a b' x))=(hs.map (btw a b')).map ZZ:=by simp
 rw[c2] at c;have z:hs.length<=16777216:=by lia
 have an:=Jg (hs.map (btw a b'));change anyS [Q ((hs.map (btw a b')).map ZZ)]=U ⟨.c,ZZ (gK a b' hs)⟩ at an;generalize (hs.map (btw a b')).map ZZ=bl at c an;unfold qk DU;simp[e,af,z,DL.Zx,dh,c,an];unfold gn;cases gK a b' hs
 .by_cases q2:h<a
  .simp[q2]
  .by_cases q3:b' <h<;>simp[q2,q3]
 .simp
noncomputable def cq(gv:List Tr)(n:Int):List Int:=(gv.filter λt=>decide (t.1=n)).map (·.2.1)
def pP(gv:List Tr)(n:Int):(cq gv n).length<=gv.length:=by
 unfold cq;rw[Gae];exact GbL _ _
def K1{gv:List Tr}(hl:gv.length<64):dC [bkD ws gv,E n]=U (Q ((cq gv n).map E)):=by
 rw[K0 hl];unfold cq;rw[GaN]
 rfl
def openK(b e m ea la:Int)(hs:List Int)(h n:Int):List Tr:=match kL b e m ea la h with
 |some k=>if gK (b+k*e -ea) (b+k*e+la) hs then[] else[(b+k*e,n,k)]
 |none=>[]
def jb(b e ea la:Int)(hs:List Int)(hour:Int)(n:Int)(l:List Tr):Nat->List Tr
 |0=>l
 |k+1=>if gn (b+(k:Int)*e -ea) (b+(k:Int)*e+la) hs hour="open" then jb b e ea la hs hour n l k++[(b+(k:Int)*e,n,(k:Int))] else jb b e ea la hs hour n l k
theorem oR{l:List Tr}:∀k,(jb b e ea la hs hour n l k).length<=l.length+k
 |0=>Gan _
 |k+1=>by
  have:=oR (b:=b) (e:=e) (ea:=ea) (la:=la) (hs:=hs) (hour:=hour) (n:=n) (l:=l) k;unfold jb;split
  .simp;lia
  .lia
theorem sP(e1:1<=e)(a0:0<=ea)(l0:0<=la)(al:ea+la<e):∀Zr:Nat,(Zr:Int)<=m->jb b e ea la hs h n l Zr=l++(match kL b e m ea la h with
  |some k=>if k<Zr/\gK (b+k*e -ea) (b+k*e+la) hs=M then[(b+k*e,n,k)] else[]
  |none=>[])
 |0,_=>by
  unfold jb;split
  .rename_i k hk;have:=((nZ e1 a0 l0 al).mp hk).1.1;rw[Gai (by lia)];simp
  .simp
 |Zr+1,hM=>by
  have ih:=sP (b:=b) (m:=m) (hs:=hs) (h:=h) (n:=n) (l:=l) e1 a0 l0 al Zr (by lia);have st:=CG (b+(Zr:Int)*e -ea) (b+(Zr:Int)*e+la) hs h;have du:=nZ (b:=b) (m:=m) (h:=h) (k:=(Zr:Int)) e1 a0 l0 al;unfold jb;rw[ih];cases hk:kL b e m ea la h with
  |none=>
   lia
  |some k=>
   rw[hk] at du;dsimp only;by_cases c:k=Zr
   .subst c;have sp:=(du.mp rfl).2;by_cases an:gK (b+(Zr:Int)*e -ea) (b+(Zr:Int)*e+la) hs=M
    .rw[Gao (st.mpr ⟨an,sp⟩),Gai (by lia),Gao ⟨by lia,an⟩,Gbh]
    .simp_all
   .rw[Gai]
    .lia
    .intro z;have:=du.mpr ⟨by lia,(st.mp z).2⟩;lia
def vd{m:Int}(e1:1<=e)(m0:0<=m)(a0:0<=ea)(l0:0<=la)(al:ea+la<e):jb b e ea la hs h n l m.toNat=l++openK b e m ea la hs h n:=by
 rw[sP (m:=m) e1 a0 l0 al m.toNat (by lia)];unfold openK;cases hk:kL b e m ea la h with
 |none=>rfl
 |some k=>
  have:=((nZ e1 a0 l0 al).mp hk).1.2;dsimp only;cases an:gK (b+k*e -ea) (b+k*e+la) hs with
  |false=>rw[Gao ⟨by lia,rfl⟩,Gai GaB]
  |true=>rw[Gai (λz=>by cases z.2),Gao rfl]
def q9(gv:List Tr)(h n:Int):mQ->List Tr
 | .asked _=>[]
 | .due b e m ea la=>openK b e m ea la (cq gv n) h n
def cV(os:List Zz)(gv:List Tr)(h:Int):Nat->List Tr
 |0=>[]
 |i+1=>cV os gv h i++(match os[i]? with
  |some o=>q9 gv h (i:Int) o.aP
  |none=>[])
def o5{gv:List Tr}{h:Int}{i:Nat}{o:Zz}(e:os[i]? =U o):cV os gv h (i+1)=cV os gv h i++q9 gv h (i:Int) o.aP:=by
 conv=>lhs;unfold cV
 rw[e]
def Bk(gv:List Tr)(h n:Int)(u:mQ):(q9 gv h n u).length<=1:=by
 cases u with
 |asked b=>simp[q9]
 |due b e m ea la=>
  show(openK b e m ea la (cq gv n) h n).length<=1;unfold openK;split
  .split<;>simp
  .simp
theorem kQ(os:List Zz)(gv:List Tr)(h:Int):∀i,(cV os gv h i).length<=i
 |0=>Gan _
 |i+1=>by
  have ih:=kQ os gv h i;unfold cV;rw[Gal];split
  .rename_i o _;have:=Bk gv h (i:Int) o.aP;lia
  .simp;lia
section
variable{l:List Tr}{hs:List Int}{b m ea la hour n:Int}{g st rule ts wd:D}{x:Str}
def Mu{bk:D}{e:Int}{k:Int}(he:0<=e)(xS:e<=1000000000)(hl:hs.length<=1000)(hz:l.length<=1000):
  gP [U (Z wd),U (Z bk),U (Z (E hour)),U (Z (X "open")),U (Y (Q (l.map ZD))),U (Z (E n)),U (Z (q8 x g st rule b e m ea la ts)),U (Y (Q (hs.map E))),U (Z (E k))]=
   U (P [U (Z wd),U (Z bk),U (Z (E hour)),U (Z (X "open")),U (Y (Q ((if gn (b+k*e -ea) (b+k*e+la) hs hour="open" then l++[(b+k*e,n,k)] else l).map ZD))),U (Z (E n)),U (Z (q8 x g st rule b e m ea la ts)),U (Y (Q (hs.map E))),U (Z (E k))]):=by
 have h:=CI (x:=x) (g:=g) (st:=st) (rule:=rule) (ts:=ts) (b:=b) (m:=m) (ea:=ea) (la:=la) (k:=k) (h:=hour) he xS hl;have p1:∀i,aQ i e=O:=λi=>bI;have i4:ixD (q8 x g st rule b e m ea la ts) (E 4)=U (N [X "due",E b,E e,E m,E ea,E la]):=rfl;have z:l.length<16777216:=by lia
 generalize gn (b+k*e -ea) (b+k*e+la) hs hour=sd at*;unfold gP;by_cases c:sd=Str.ofString "open"
 .subst c;simp[h,i4,p1,af,z,ZD]
 .simp[h,c]
def Qn{bk:D}{e:Int}(he:0<=e)(xS:e<=1000000000)(hl:hs.length<=1000)(hz:l.length<=900)(x8:Os)(Zr:Nat)(hM:Zr<=60):
  ∃y8,Zw (gN 8) gP (aC 0 Zr) [U (Z wd),U (Z bk),U (Z (E hour)),U (Z (X "open")),U (Y (Q (l.map ZD))),U (Z (E n)),U (Z (q8 x g st rule b e m ea la ts)),U (Y (Q (hs.map E))),x8]=
   U (P [U (Z wd),U (Z bk),U (Z (E hour)),U (Z (X "open")),U (Y (Q ((jb b e ea la hs hour n l Zr).map ZD))),U (Z (E n)),U (Z (q8 x g st rule b e m ea la ts)),U (Y (Q (hs.map E))),y8]):=by
 obtain⟨en,h1,y8,rfl⟩:=cE (g:=gN 8) (λi env=>∃y8,env=[U (Z wd),U (Z bk),U (Z (E hour)),U (Z (X "open")),U (Y (Q ((jb b e ea la hs hour n l i).map ZD))),U (Z (E n)),U (Z (q8 x g st rule b e m ea la ts)),U (Y (Q (hs.map E))),y8]) (aC 0 Zr) 0 _ ⟨x8,rfl⟩ (by
  rintro i d env hd ⟨y8,rfl⟩;obtain⟨hi,rfl⟩:=b9 hd;rw[GaP];have hk:(0:Int)+(i:Int)=(i:Int):=by lia
  rw[hk];have ln:=oR (b:=b) (e:=e) (ea:=ea) (la:=la) (hs:=hs) (hour:=hour) (n:=n) (l:=l) i;have st:=Mu (wd:=wd) (bk:=bk) (hour:=hour) (n:=n) (x:=x) (g:=g) (st:=st) (rule:=rule) (ts:=ts) (b:=b) (m:=m) (ea:=ea) (la:=la) (l:=jb b e ea la hs hour n l i) (k:=(i:Int)) he xS hl (by lia);exact⟨_,_,rfl,st,_,rfl⟩)
 rw[bV,GaP] at h1;exact⟨y8,h1⟩
end
def Mv{hs:List Int}:(0<(hs.filter (btw a b)).length)↔gK a b hs=O:=by
 unfold gK;simp
section
variable{l:List Tr}{hs:List Int}
def Mw(he:0<=e)(xS:e<=1000000000)(WA:0<=ea)(zl:0<=la)(hl:hs.length<=1000)(hz:l.length<=1000):
  ∃y9 eP,fB [U (Z wd),U (Z bk),U (Z (E hour)),U (Z (X "open")),U (Y (Q (l.map ZD))),U (Z (E n)),U (Z (N [X "due",E b,E e,E m,E ea,E la])),U (Y (Q (hs.map E))),U (Z (E k)),x9,eI]=
   U (P [U (Z wd),U (Z bk),U (Z (E hour)),U (Z (X "open")),U (Y (Q ((if gn (b+k*e -ea) (b+k*e+la) hs hour="open" then l++[(b+k*e,n,k)] else l).map ZD))),U (Z (E n)),U (Z (N [X "due",E b,E e,E m,E ea,E la])),U (Y (Q (hs.map E))),U (Z (E k)),y9,eP]):=by
 have p1:∀i,aQ i e=O:=λi=>bI;have z:l.length<16777216:=by lia
 have zh:(hs.map E).length<=16777216:=by rw[Gae];lia
 generalize hA:b+k*e=A;have c:=fH (g:=gN 0) (t:=jg leB leB (ZF iU (vE 2) (ZE (vE 1) (kE (E 4)))) (vE 0) (ZF aF (vE 2) (ZE (vE 1) (kE (E 5))))) (f:=vE 0) E (λenv=>∃y,env=[y,U (Z (N [X "due",E b,E e,E m,E ea,E la])),U (Z (E A))]) (btw (A -ea) (A+la)) E hs [J,U (Z (N [X "due",E b,E e,E m,E ea,E la])),U (Z (E A))] ⟨J,rfl⟩ (by
  rintro i hi env ⟨y,rfl⟩;refine⟨_,rfl,⟨_,rfl⟩, ?_,λ_=> ⟨.c,rfl,rfl⟩⟩;unfold btw;by_cases c1:A -ea<=i<;>simp[c1])
 have ln:=Mv (a:=A -ea) (b:=A+la) (hs:=hs);have hL:cO [Q ((hs.filter (btw (A -ea) (A+la))).map E)]=U ⟨.c,E ((hs.filter (btw (A -ea) (A+la))).length:Int)⟩:=by simp
 have ln2:(0<((hs.filter (btw (A -ea) (A+la))).length:Int))↔gK (A -ea) (A+la) hs=O:=by
  lia
 generalize ((hs.filter (btw (A -ea) (A+la))).length:Int)=L at hL ln2;generalize hs.map E=hd at c zh⊢;obtain⟨wo,XC⟩:∃wo:Str,wo=(if hour>A+la then Str.ofString "missed" else if hour<A -ea then Str.ofString "ahead" else Str.ofString "open"):=⟨_,rfl⟩
 have yk:gn (A -ea) (A+la) hs hour=if 0<L then Str.ofString "given" else wo:=by
  unfold gn;rw[XC];by_cases q:gK (A -ea) (A+la) hs=O
  .rw[Gao q,Gao (ln2.mpr q)]
  .rw[Gai q,Gai (λw=>q (ln2.mp w))];by_cases q1:hour<A -ea
   .rw[Gao q1,Gai (by lia),Gao q1]
   .rw[Gai q1];by_cases q2:hour>A+la
    .rw[Gao q2,Gao q2]
    .rw[Gai q2,Gai q2,Gai q1]
 generalize hdu:N [X "due",E b,E e,E m,E ea,E la]=du at*;have d1:ixD du (E 1)=U (E b):=by rw[<-hdu];rfl
 have d2:ixD du (E 2)=U (E e):=by rw[<-hdu];rfl
 have d4:ixD du (E 4)=U (E ea):=by rw[<-hdu];rfl
 have d5:ixD du (E 5)=U (E la):=by rw[<-hdu];rfl
 refine⟨U (Z (E A)),U (Z (X (gn (A -ea) (A+la) hs hour))), ?_⟩;refine sqn (by simp[d1,d2,p1,hA];rfl) ?_;refine sqn (e:=[U (Z wd),U (Z bk),U (Z (E hour)),U (Z (X "open")),U (Y (Q (l.map ZD))),U (Z (E n)),U (Z du),U (Y (Q hd)),U (Z (E k)),U (Z (E A)),U (Z (X "open"))]) (by simp) ?_;refine(mP (e:=[U (Z wd),U (Z bk),U (Z (E hour)),U (Z (X "open")),U (Y (Q (l.map ZD))),U (Z (E n)),U (Z du),U (Y (Q hd)),U (Z (E k)),U (Z (E A)),U (Z (X (if hour<A -ea then Str.ofString "ahead" else Str.ofString "open")))]) (by
  by_cases q1:hour<A -ea<;>simp[d4,q1])).trans ?_
 refine(mP (e:=[U (Z wd),U (Z bk),U (Z (E hour)),U (Z (X "open")),U (Y (Q (l.map ZD))),U (Z (E n)),U (Z du),U (Y (Q hd)),U (Z (E k)),U (Z (E A)),U (Z (X wo))]) (by
  rw[XC];by_cases q2:A+la<hour<;>simp[d5,q2])).trans ?_
 refine(mP (e:=[U (Z wd),U (Z bk),U (Z (E hour)),U (Z (X "open")),U (Y (Q (l.map ZD))),U (Z (E n)),U (Z du),U (Y (Q hd)),U (Z (E k)),U (Z (E A)),U (Z (X (gn (A -ea) (A+la) hs hour)))]) (by
  rw[yk];by_cases q3:0<L<;>simp[-jg,af,zh,DL.Zx,dh,c,hL,q3])).trans ?_
 generalize gn (A -ea) (A+la) hs hour=sd;by_cases cc:sd=Str.ofString "open"
 .subst cc;simp[af,z,ZD]
 .have c' :(sd==Str.ofString "open")=M:=by simpa using cc
  simp[cc,c']
def Qo(he:0<=e)(xS:e<=1000000000)(WA:0<=ea)(zl:0<=la)(hl:hs.length<=1000)(hz:l.length<=900)(Zr:Nat)(hM:Zr<=60):
  ∃y8 y9 eP,Zw (gN 8) fB (aC 0 Zr) [U (Z wd),U (Z bk),U (Z (E hour)),U (Z (X "open")),U (Y (Q (l.map ZD))),U (Z (E n)),U (Z (N [X "due",E b,E e,E m,E ea,E la])),U (Y (Q (hs.map E))),x8,x9,eI]=
   U (P [U (Z wd),U (Z bk),U (Z (E hour)),U (Z (X "open")),U (Y (Q ((jb b e ea la hs hour n l Zr).map ZD))),U (Z (E n)),U (Z (N [X "due",E b,E e,E m,E ea,E la])),U (Y (Q (hs.map E))),y8,y9,eP]):=by
 obtain⟨en,h1,y8,y9,eP,rfl⟩:=cE (g:=gN 8) (λi env=>∃y8 y9 eP,env=[U (Z wd),U (Z bk),U (Z (E hour)),U (Z (X "open")),U (Y (Q ((jb b e ea la hs hour n l i).map ZD))),U (Z (E n)),U (Z (N [X "due",E b,E e,E m,E ea,E la])),U (Y (Q (hs.map E))),y8,y9,eP]) (aC 0 Zr) 0 _ ⟨x8,x9,eI,rfl⟩ (by
  rintro i d env hd ⟨y8,y9,eP,rfl⟩;obtain⟨hi,rfl⟩:=b9 hd;rw[GaP];have hk:(0:Int)+(i:Int)=(i:Int):=by lia
  rw[hk];have ln:=oR (b:=b) (e:=e) (ea:=ea) (la:=la) (hs:=hs) (hour:=hour) (n:=n) (l:=l) i;obtain⟨z9,xX,st⟩:=Mw (l:=jb b e ea la hs hour n l i) he xS WA zl hl (by lia);exact⟨_,_,rfl,st,_,z9,xX,rfl⟩)
 rw[bV,GaP] at h1;exact⟨y8,y9,eP,h1⟩
end
def Mx{gv:List Tr}{o:Zz}{l:List Tr}(ok:fW o.aP)(yQ:gv.length<64)(hz:l.length<=500):
  ∃y7 y8,jW [U (Z wd),U (Z (bkD ws gv)),U (Z (E hour)),U (Z (X "open")),U (Y (Q (l.map ZD))),U (Z (E n)),U (Z (aj o)),x7,x8]=
   U (P [U (Z wd),U (Z (bkD ws gv)),U (Z (E hour)),U (Z (X "open")),U (Y (Q ((l++q9 gv hour n o.aP).map ZD))),U (Z (E n)),U (Z (aj o)),y7,y8]):=by
 have gh:=K1 (ws:=ws) (n:=n) yQ;have hl:=pP gv n;obtain⟨x,g,st,way,top,per,most,u,ts⟩:=o;cases u with
 |asked b=>
  have dn:d8 [aj ⟨x,g,st,way,top,per,most,.asked b,ts⟩]=U (Q []):=by
   unfold d8 jk aj cu;simp
  have e0:l++q9 gv hour n (mQ.asked b)=l:=Gbh l;rw[e0];refine⟨U (Y (Q ((cq gv n).map E))),x8, ?_⟩;refine sqn (by simp[gh];rfl) ?_;simp[dn]
 |due b e m ea la=>
  obtain⟨r1,r2,⟨r3,r4⟩,r5,r6,r7,_⟩:=ok;have m0:m<=16777216:=by lia
  have m1: -1000000<=m:=by lia
  have eo:aj ⟨x,g,st,way,top,per,most,.due b e m ea la,ts⟩=q8 x (E g) (E st) (N [X way,E top,E per,E most]) b e m ea la (N ts):=rfl;have dn:d8 [q8 x (E g) (E st) (N [X way,E top,E per,E most]) b e m ea la (N ts)]=U (Q (aC 0 m.toNat)):=by
   have im:aA (aC 0 m.toNat)=O:=by
    unfold aC;generalize List.range m.toNat=r;induction r with
    |nil=>rfl
    |cons a r ih=>rw[Gay];unfold aA;rw[ih];rfl
   unfold d8 jk q8;simp[af,m0,m1,im]
  obtain⟨y8,h2⟩:=Qn (wd:=wd) (bk:=bkD ws gv) (hour:=hour) (n:=n) (x:=x) (g:= E g) (st:= E st) (rule:= N [X way,E top,E per,E most]) (ts:= N ts) (b:=b) (e:=e) (m:=m) (hs:=cq gv n) (l:=l) (by lia) (by lia) (by lia) (by lia) x8 m.toNat (by lia);rw[vd r1 (by lia) r5 r6 r7] at h2;refine⟨U (Y (Q ((cq gv n).map E))),y8, ?_⟩;have e0:q9 gv hour n (mQ.due b e m ea la)=openK b e m ea la (cq gv n) hour n:=rfl;rw[eo,e0];refine sqn (by simp[gh];rfl) ?_;simp[dn,h2]
def My{w:World}{gv:List Tr}{o:Zz}{l:List Tr}(ok:fW o.aP)(xA:atD (w.Zs.map aj) n=U (aj o))(yQ:gv.length<64)(hz:l.length<=500):
  ∃y6 y7 y8 y9 eP,cU [U (Z (aE w)),U (Z (bkD ws gv)),U (Z (E hour)),U (Z (X "open")),U (Y (Q (l.map ZD))),U (Z (E n)),x6,x7,x8,x9,eI]=
   U (P [U (Z (aE w)),U (Z (bkD ws gv)),U (Z (E hour)),U (Z (X "open")),U (Y (Q ((l++q9 gv hour n o.aP).map ZD))),U (Z (E n)),y6,y7,y8,y9,eP]):=by
 have w3:ixD (aE w) (E 3)=U (N (w.Zs.map aj)):=rfl;have b1:ixD (bkD ws gv) (E 1)=U (N (gv.map ZD)):=rfl;have c:=fH (g:=gN 0) (t:=az eqB (ZE (vE 0) (kE (E 0))) (vE 1)) (f:=ZE (vE 0) (kE (E 1))) ZD (λenv=>∃y,env=[y,U (Z (E n))]) (λt=>decide (t.1=n)) (λt=> E t.2.1) gv [J,U (Z (E n))] ⟨J,rfl⟩ (by
   rintro t _ env ⟨y,rfl⟩;exact⟨_,rfl,⟨_,rfl⟩,by simp;rfl,λ_=> ⟨.c,by simp[ZD],rfl⟩⟩)
 have he:(cq gv n).map E=(gv.filter λt=>decide (t.1=n)).map λt=>E t.2.1:=by unfold cq;rw[GaN];rfl
 rw[<-he] at c;have zg:(gv.map ZD).length<=16777216:=by rw[Gae];lia
 have hl:=pP gv n;have o4:ixD (aj o) (E 4)=U (cu o.aP):=rfl;generalize aE w=wd at*;generalize bkD ws gv=bk at*;generalize gv.map ZD=gl at*;generalize aj o=od at*;generalize o.aP=u at*;unfold cU;have fst:∀rest:DS,(ah (aq 6 (ZE (ZE (ZE (vE 0) (kE (E 3))) (vE 5)) (kE (E 4))))
 (ah (aq 7 (fJ J 1 [5] (cQ (ZE (vE 1) (kE (E 1)))) (gN 0) (az eqB (ZE (vE 0) (kE (E 0))) (vE 1)) (ZE (vE 0) (kE (E 1))))) rest)) [U (Z wd),U (Z bk),U (Z (E hour)),U (Z (X "open")),U (Y (Q (l.map ZD))),U (Z (E n)),x6,x7,x8,x9,eI]=
   rest [U (Z wd),U (Z bk),U (Z (E hour)),U (Z (X "open")),U (Y (Q (l.map ZD))),U (Z (E n)),U (Z (cu u)),U (Y (Q ((cq gv n).map E))),x8,x9,eI]:=λrest=>by
  refine sqn (by simp[w3,xA,o4];rfl) ?_;simp[af,zg,DL.Zx,dh,b1,c]
 rw[fst];cases u with
 |asked b=>
  have mn:g8 [od]=U (E 0):=by
   unfold cu at o4;unfold g8 mO;simp[o4]
  have s0:aS 0=O:=rfl;have e0:l++q9 gv hour n (mQ.asked b)=l:=Gbh l;rw[e0];refine⟨U (Z (cu (mQ.asked b))),U (Y (Q ((cq gv n).map E))),x8,x9,eI, ?_⟩;have r0:aC 0 0=[]:=rfl;simp[w3,xA,mn,s0,r0]
 |due b e m ea la=>
  obtain⟨r1,r2,⟨r3,r4⟩,r5,r6,r7,_⟩:=ok;have mn:g8 [od]=U (E m):=by
   unfold cu at o4;unfold g8 mO;simp[o4]
  have s0:aS m=O:=b8;obtain⟨y8,y9,eP,h2⟩:=Qo (wd:=wd) (bk:=bk) (hour:=hour) (n:=n) (b:=b) (e:=e) (m:=m) (hs:=cq gv n) (l:=l) (x8:=x8) (x9:=x9) (eI:=eI) (by lia) (by lia) r5 r6 (by lia) (by lia) m.toNat (by lia);rw[vd r1 (by lia) r5 r6 r7] at h2;have e0:q9 gv hour n (mQ.due b e m ea la)=openK b e m ea la (cq gv n) hour n:=rfl;rw[e0];unfold cu;simp[w3,xA,mn,s0,h2]
variable{l' :List D}
def Gy{wd bk:D}{hour L:Int}{os F:List D}{y5 y6 y7 y8 y9 eP:Os}(w3:ixD wd (E 3)=U (N os))(hL:cO [N os]=U ⟨.c,E L⟩)(s:aS L=O)
  (h1:Zw (gN 5) cU (aC 0 L.toNat) [U (Z wd),U (Z bk),U (Z (E hour)),U (Z (X "open")),U (Y (Q [])),J,J,J,J,J,J]=U (P [U (Z wd),U (Z bk),U (Z (E hour)),U (Z (X "open")),U (Y (Q F)),y5,y6,y7,y8,y9,eP]))
  (q3:Zy [Q F]=U ⟨.tn,Q l'⟩)(i:aA l' =O):cZ [wd,bk,E hour,X "open"]=U (Q l'):=by
 refine aL rfl ?_;refine sqn (by simp;rfl) ?_;simp[w3,hL,s,h1,q3,i]
def Mz{wd bk:D}{hour:Int}{os F:List D}{y5 y6 y7 y8:Os}(w3:ixD wd (E 3)=U (N os))
  (h1:Zw (gT [5,6]) jW (fE 0 os) [U (Z wd),U (Z bk),U (Z (E hour)),U (Z (X "open")),U (Y (Q [])),J,J,J,J]=U (P [U (Z wd),U (Z bk),U (Z (E hour)),U (Z (X "open")),U (Y (Q F)),y5,y6,y7,y8]))
  (q3:Zy [Q F]=U ⟨.tn,Q l'⟩)(i:aA l' =O):fG [wd,bk,E hour]=U (Q l'):=by
 have q:oG [wd,bk,E hour,X "open"]=U (Q l'):=by
  refine aL rfl ?_;refine sqn (by simp;rfl) ?_;simp[w3,h1,q3,i]
 unfold fG pE;simp[q,i]
def Gz{w:World}{gv:List Tr}(W:aH w)(h4:w.Zs.length<=4)(yQ:gv.length<64):∃rs:List Tr,rs.Perm (cV w.Zs gv hour w.Zs.length)/\fG [aE w,bkD ws gv,E hour]=U (Q (rs.map ZD))/\cZ [aE w,bkD ws gv,E hour,X "open"]=U (Q (rs.map ZD)):=by
 have ln:=kQ w.Zs gv hour;obtain⟨en,h1,y5,y6,y7,y8,rfl⟩:=cE (g:=gT [5,6]) (λi env=>∃y5 y6 y7 y8,env=[U (Z (aE w)),U (Z (bkD ws gv)),U (Z (E hour)),U (Z (X "open")),U (Y (Q ((cV w.Zs gv hour i).map ZD))),y5,y6,y7,y8]) (fE 0 (w.Zs.map aj)) 0
  [U (Z (aE w)),U (Z (bkD ws gv)),U (Z (E hour)),U (Z (X "open")),U (Y (Q [])),J,J,J,J] ⟨J,J,J,J,rfl⟩ (by
   rintro i d env hd ⟨y5,y6,y7,y8,rfl⟩;rw[gU] at hd;obtain⟨od,ho,rfl⟩:=Gaa.mp hd;rw[Gap] at ho;obtain⟨o,eo,rfl⟩:=Gaa.mp ho;have hi:=(Gak.mp eo).1;have li:=ln i;obtain⟨z7,z8,q⟩:=Mx (l:=cV w.Zs gv hour i) (W.oo o (Gax eo)).du yQ (by lia);rw[GaP,o5 eo];exact⟨_,_,rfl,q,_,_,z7,z8,rfl⟩)
 rw[gS,Gae,GaP] at h1;obtain⟨en,h2,z5,z6,z7,z8,z9,xX,rfl⟩:=cE (g:=gN 5) (λi env=>∃y5 y6 y7 y8 y9 eP,env=[U (Z (aE w)),U (Z (bkD ws gv)),U (Z (E hour)),U (Z (X "open")),U (Y (Q ((cV w.Zs gv hour i).map ZD))),y5,y6,y7,y8,y9,eP]) (aC 0 w.Zs.length) 0
  [U (Z (aE w)),U (Z (bkD ws gv)),U (Z (E hour)),U (Z (X "open")),U (Y (Q [])),J,J,J,J,J,J] ⟨J,J,J,J,J,J,rfl⟩ (by
   rintro i d env hd ⟨y5,y6,y7,y8,y9,eP,rfl⟩;obtain⟨hi,rfl⟩:=b9 hd;have eo:=Gac hi;have li:=ln i;have hk:(0:Int)+(i:Int)=(i:Int):=by lia
   rw[hk];obtain⟨z6,z7,z8,z9,xX,q⟩:=My (l:=cV w.Zs gv hour i) (W.oo _ (GaA hi)).du (by rw[bO,Gap,eo];rfl) yQ (by lia);rw[GaP,o5 eo];exact⟨_,_,rfl,q,_,z6,z7,z8,z9,xX,rfl⟩)
 rw[bV,GaP] at h2;have lw:=ln w.Zs.length;generalize cV w.Zs gv hour w.Zs.length=F at*;obtain⟨rs,q1,q2⟩:=LX F (by lia);refine⟨rs,q2,Mz rfl h1 q1 (bJ rs), ?_⟩;refine Gy (L:=(w.Zs.length:Int)) (y5:=z5) (y6:=z6) (y7:=z7) (y8:=z8) (y9:=z9) (eP:=xX) rfl ?_ (b8) ?_ q1 (bJ rs)
 .simp_all
 .exact h2
def pQ(os:List Zz)(gv:List Tr)(h:Int)(r:Tr):Prop:=0<=r.2.1/\r.2.1<os.length/\∃o,os[r.2.1.toNat]? =U o/\bM o.aP h=U r.2.2/\∀t∈gv,t.1=r.2.1->bM o.aP t.2.1≠U r.2.2
def Qp(h:gK a b hs=M)(hx:x∈hs):¬(a<=x/\x<=b):=by
 unfold gK at h;rw[Gdl,GbX] at h;intro z;have:=h x hx;unfold btw at this;simp[z.1,z.2] at this
def Bl(ok:fW u)(hr:r∈q9 gv h n u):r.2.1=n/\bM u h=U r.2.2/\∀t∈gv,t.1=n->bM u t.2.1≠U r.2.2:=by
 cases u with
 |asked b=>cases hr
 |due b e m ea la=>
  obtain⟨r1,r2,⟨r3,r4⟩,r5,r6,r7,_⟩:=ok;have ym :r∈openK b e m ea la (cq gv n) h n:=hr;unfold openK at ym;split at ym
  .rename_i k hk;split at ym
   .cases ym
   .rename_i an;have e:=GaU.mp ym;subst e;refine⟨rfl,hk,λt ht et z=> ?_⟩;have an' :gK (b+k*e -ea) (b+k*e+la) (cq gv n)=M:=by simpa using an
    refine Qp an' ?_ ((nZ r1 r5 r6 r7).mp z).2;exact Gas.mpr ⟨t,Gbk.mpr ⟨ht,GaD et⟩,rfl⟩
  .cases ym
theorem kT{os:List Zz}(ok:∀o∈os,fW o.aP):∀i r,r∈cV os gv h i->r.2.1<i/\pQ os gv h r
 |0,r,hr=>by cases hr
 |i+1,r,hr=>by
  rcases Gau.mp hr with hr|hr
  .have:=kT ok i r hr;exact⟨by lia,this.2⟩
  .split at hr
   .rename_i o eo;obtain⟨h1,h2,h3⟩:=Bl (ok o (Gax eo)) hr;have hi:=(Gak.mp eo).1;refine⟨by lia,by lia,by lia,o, ?_,h2, ?_⟩
    .rw[h1];exact eo
    .rw[h1];exact h3
   .cases hr
theorem sQ{os:List Zz}(ok:∀o∈os,fW o.aP):∀i,((cV os gv h i).map (·.2.1)).Nodup
 |0=>GdP
 |i+1=>by
  have ih:=sQ (gv:=gv) (h:=h) ok i;unfold cV;split
  .rename_i o eo;have l1:=Bk gv h (i:Int) o.aP;have m1:=λr hr=>(Bl (gv:=gv) (h:=h) (n:=(i:Int)) (ok o (Gax eo)) (r:=r) hr).1;generalize q9 gv h (i:Int) o.aP=L at*;rw[GaC,GaW];refine⟨ih, ?_,λa ha b hb e=> ?_⟩
   .rcases L with _| ⟨x,_|_⟩<;>simp at l1⊢
   .obtain⟨r,hr,rfl⟩:=Gas.mp ha;obtain⟨s,hs,rfl⟩:=Gas.mp hb;have h1:=(kT ok i r hr).1;have h2:=m1 s hs;lia
  .simp_all
theorem Bm{α:Type}(p q:α->Bool)(d:∀x,¬(p x=O/\q x=O)):∀l:List α,(l.filter p).length+(l.filter q).length<=(l.filter λx=>p x||q x).length
 |[]=>by simp
 |x::l=>by
  have ih:=Bm p q d l;cases hp:p x<;>cases hq:q x<;>simp_all<;>lia
theorem Bn{α ZW:Type} [DecidableEq ZW](f:α->ZW)(l:List α):∀ks:List ZW,ks.Nodup->(ks.map λk=>(l.filter λt=>decide (f t=k)).length).sum<=(l.filter λt=>decide (f t∈ks)).length
 |[],_=>by simp
 |k::ks,h=>by
  rw[Gbb] at h;have ih:=Bn f l ks h.2;have two:=Bm (λt=>decide (f t=k)) (λt=>decide (f t∈ks)) (λx q=>h.1 (by have a:=Gaq q.1;have b:=Gaq q.2;rw[a] at b;exact b)) l;have e:(λt=>decide (f t∈k::ks))=λt=>decide (f t=k)||decide (f t∈ks):=by
   simp
  rw[Gay,List.sum_cons,e];lia
theorem Bo{α β:Type}{f:α->List β}{g:α->Nat}:∀l:List α,(∀x∈l,(f x).length<=2*g x)->(l.flatMap f).length<=2*(l.map g).sum
 |[],_=>by simp
 |x::l,h=>by
  have h1:=h x Gaj;have h2:=Bo l λy hy=>h y (Gaf _ hy)
  grind
def Qq{w:World}{gv:List Tr}{st:List Tg}(hc:∀s∈w.ar,s.ay.length<=2)(I:lH w.Zs gv st):(st.flatMap (tgF w.ar ws)).length<=2*gv.length:=by
 have h1:=Bo (f:=tgF w.ar ws) (g:=λe:Tg=>(gv.filter λt=>decide (tk w.Zs t=e.1)).length) st (λe he=>by
  have h2:=lu ws e.1.1 e.1.2 e.2 0 ((w.ar[e.1.2.toNat]?.map (·.ay)).getD []);have h3:((w.ar[e.1.2.toNat]?.map (·.ay)).getD []).length<=2:=by
   cases h:w.ar[e.1.2.toNat]? with
   |none=>simp
   |some s=>exact hc s (Gax h)
  have h4:e.2.length=(gv.filter λt=>decide (tk w.Zs t=e.1)).length:=by rw[I.ms e he,Gae]
  have h5:=Nat.mul_le_mul_right e.2.length h3;unfold tgF;lia)
 have h2:=Bn (tk w.Zs) gv (st.map (·.1)) I.nd;rw[GaN] at h2;have h3:=Gbo h2 (GbL _ _);have e:((λk=>(gv.filter λt=>decide (tk w.Zs t=k)).length)∘λe:Tg=>e.1)=λe:Tg=>(gv.filter λt=>decide (tk w.Zs t=e.1)).length:=rfl;rw[e] at h3;lia
theorem Bp{F:Int×Int->List Flt}(each:∀l,(F l).length<=1):∀rs:List (Int×Int),rs.Nodup->(∀l∈rs,l≠x->F l=[])->(rs.flatMap F).length<=1
 |[],_,_=>by simp
 |l::rs,nd,h=>by
  rw[Gbb] at nd;rw[GaY];by_cases c:l=x
  .have:rs.flatMap F=[]:=Gbx.mpr λm hm=>h m (Gaf _ hm) λz=>nd.1 (by rw[c,<-z];exact hm);rw[this];simp_all
  .rw[h l Gaj c];have:=Bp each rs nd.2 λm hm=>h m (Gaf _ hm);simp_all
theorem Eu(each:∀r l,(F r l).length<=1):∀rs,rs.Nodup->(rs.Pairwise λr l=>r≠x->l≠x->F r l=[])->(prs F rs).length<=rs.length
 |[],_,_=>by simp[prs]
 |r::rs,nd,h=>by
  rw[Gbb] at nd;rw[GaV] at h;unfold prs;rw[Gal,GaF];by_cases c:r=x
  .have:prs F rs=[]:=(Em F rs).mpr ((GcQ.mp h.2).imp λ{a b} q=>q.2.2 (λz=>nd.1 (by rw[c,<-z];exact q.1)) (λz=>nd.1 (by rw[c,<-z];exact q.2.1)));rw[this];have:=nQ (F r) (each r) rs;simp only[Gbm];lia
  .have h1:=Bp (each r) rs nd.2 λl hl z=>h.1 l hl c z;have h2:=Eu each rs nd.2 h.2;lia
theorem Ew(os:List Zz):∀(gv ts:List Tr),(gv.foldl (bf os) ts).length<=ts.length+gv.length
 |[],ts=>by simp
 |g::gv,ts=>by
  have h1:=Ew os gv (bf os ts g);have h2:=wz ts g.1 ((os[g.1.toNat]?).bind λo=>bM o.aP g.2.1);rw[Gcl,GaF];unfold bf at h1⊢;lia
def K2{w:World}{gv' :List Tr}{t:Tr}(W:aH w)(hc:∀s∈w.ar,s.ay.length<=2)(B:oQ w 12 ws gv)(t0:0<=t.1)(t1:t.1<w.Zs.length)(p:gv'.Perm (gv++[t]))(nd:(gvR gv').Nodup)(st:List Tg)(eA:List (Int×Int))(I:lH w.Zs gv' st)(r2:eA.Perm (gvR gv'))(r3:eA.Pairwise λa b=>a.1<=b.1):
  (st.flatMap (tgF w.ar ws)++df w.Zs (w.br.foldl aT []) (wide w.br) eA++twF (gv'.foldl (bf w.Zs) [])++gv'.flatMap (c6 w ws)).length<64:=by
 have le:=λb hb=>(W.bo.1 b hb).2.1;have pos:=λb hb=>(W.bo.1 b hb).2.2.2;have gl:=B.gl;have len:gv'.length<=13:=by rw[p.length_eq];simp;lia
 have f1:=Qq (ws:=ws) hc I;have lr:eA.length=gv'.length:=by rw[r2.length_eq];simp[gvR]
 have f2:(df w.Zs (w.br.foldl aT []) (wide w.br) eA).length<=eA.length:=by
  rw[mU (Jy le pos W.bo.2) eA r3];refine Eu (x:=(t.2.1,t.1)) (λr l=>wA _ _ r l) eA (r2.nodup_iff.mpr nd) ?_;have old:∀r∈eA,r≠(t.2.1,t.1)->r∈gvR gv:=λr hr ne=>by
   have h1:=r2.mem_iff.mp hr;have h2:=(p.map λt:Tr=>(t.2.1,t.1)).mem_iff.mp h1;rw[GaC] at h2;rcases Gau.mp h2 with h3|h3
   .exact h3
   .simp_all
  exact(GcQ.mp ((r2.nodup_iff.mpr nd).and r3)).imp λ{a b} q na nb=>(B8 q.2.2.2).mpr (Cy (λa b z=>Apart.symm W z) B.sn.gap a (old a q.1 na) b (old b q.2.1 nb) q.2.2.1)
 have f3:(twF (gv'.foldl (bf w.Zs) [])).length<=gv'.length:=by
  have z:=Ew w.Zs gv' [];unfold twF
  grind
 have f4:(gv'.flatMap (c6 w ws)).length<=5:=by
  rw[(p.flatMap_right _).length_eq,Gcx,Gbx.mpr B.sn.MK,GaY,List.flatMap_nil,Gbh];exact(sC W t0 t1).2
 simp only[Gal];lia
def K3{w:World}{gv' :List Tr}{t:Tr}(W:aH w)(hc:∀s∈w.ar,s.ay.length<=2)(B:oQ w 12 ws gv)(t0:0<=t.1)(t1:t.1<w.Zs.length)(p:gv'.Perm (gv++[t]))(ct:∀o k,iN w.Zs gv' o k<=1):(gv'.flatMap (gc w ws gv')).length<64:=by
 have none_:=(ql W B.go B.nd).mpr B.sn;have hl:=B.gl;rw[(p.flatMap_right _).length_eq,Gcx,Gal];have len:gv'.length<=13:=by rw[p.length_eq];simp;lia
 have old:∀u∈gv,(gc w ws gv' u).length<=3:=λu h=>by
  obtain⟨o,s,g,e1,e2,e3,_⟩:=d6 W (B.go u h).1 (B.go u h).2;have n1:=Gbx.mp none_ u h;rw[jZ e1 e2 e3,Gcg] at n1;have tw:twL gv' o.aP u.1 u.2.1=[]:=nil_of λf hf=>by
   obtain⟨k,_,h2,_⟩:=(qm e1 f).mp hf;have:=ct u.1 k;lia
  have a1:=(B9 e1 e2 e3).mpr ⟨B.sn.MK u h,tw⟩;have a2:=gY w.Zs ws gv' o u.2.1 0 s.ay;have a3:=hc s (Gax e2);have a4:(gv'.flatMap (nrT w.Zs w.br u.1 u.2.1)).length<=1:=by
   rw[(p.flatMap_right _).length_eq,Gcx,n1.2];have:=gQ (f:=nrT w.Zs w.br u.1 u.2.1) [t] λx _=>Er W _ _ x
   simpa using this
  rw[jZ e1 e2 e3,a1,GbV,Gal];lia
 have new:∀u∈[t],(gc w ws gv' u).length<=21:=λu h=>by
  rw[GaU.mp h];obtain⟨o,s,g,e1,e2,e3,_⟩:=d6 W t0 t1;have a1:=sG ws gv' o s g.2 t.1 t.2.1 t.2.2;have a2:=gY w.Zs ws gv' o t.2.1 0 s.ay;have a3:=hc s (Gax e2);have a4:=gQ (f:=nrT w.Zs w.br t.1 t.2.1) gv' λx _=>Er W _ _ x;rw[jZ e1 e2 e3,Gal,Gal];lia
 have s1:=gQ gv old;have s2:=gQ [t] new;rw[GcN] at s2;lia
def K4{w:World}{gv' :List Tr}(hs:∀o k,iN w.Zs gv o k<=1)(R:pQ w.Zs gv h r)(p:gv'.Perm (gv++[(r.2.1,h,a)]))(o k:Int):iN w.Zs gv' o k<=1:=by
 rw[JU p,iO];obtain⟨_,_,od,eo,du,no⟩:=R;split
 .rename_i q;unfold pY at q;rw[Gah] at q;have q1:=Gaq q.1;have q2:=Gaq q.2;have Wn :=q1;have q2' :(w.Zs[r.2.1.toNat]?.bind λo=>bM o.aP h)=U k:=q2;rw[eo] at q2';have e:r.2.2=k:=by
   simp_all
  have z:iN w.Zs gv o k=0:=by
   unfold iN;rw[Gbn];refine GdM.mpr λt ht=> ?_;have h1:=Gbk.mp ht;have h2:=h1.2;unfold pY at h2;rw[Gah] at h2;have h3:=Gaq h2.1;have h4:=Gaq h2.2;unfold Cv at h4;rw[h3,<-Wn,eo] at h4;exact no t h1.1 (h3.trans Wn.symm) (by rw[e];exact h4)
  lia
 .have:=hs o k;lia
def GA{w:World}(R:pQ w.Zs gv h r):tL r.2.1 h gv=M:=by
 obtain⟨_,_,od,eo,du,no⟩:=R;unfold tL;rw[GbX];intro t ht z;have q:=Gaq z;exact no t ht q.1 (by rw[q.2];exact du)
noncomputable def more(way:Str)(s r:Int):Bool:=(decide (way="up")&&decide (0<r))||(decide (way="near")&&decide (s<2*r))
def wH(t s p:Int)(way:Str):Int:=(t/s+(if more way s (t -t/s*s) then 1 else 0))*p
def o6(hs:b*p=s)(s0:0<s)(s1:s<1073741824)(p0:0<p)(p1:p<1073741824):jH [E t,E b,E p,X way]=U (E (wH t s p way)):=by
 have m1:aQ b p=O:=bI;have m2:∀i,aQ i s=O:=λi=>bI;have m3:∀i,aQ i p=O:=λi=>bI;have m4:∀i,aQ 2 i=O:=λi=>bq;unfold wH more;generalize hq:t/s=q;generalize hr:t -q*s=r;refine aL rfl ?_;refine sqn (by simp[m1,hs];rfl) ?_;refine sqn (by simp[s0,s1,hq];rfl) ?_;refine sqn (by simp[m2,hr];rfl) ?_;by_cases c1:way=Str.ofString "up"
 .subst c1;by_cases c2:0<r<;>simp[c2,m3]
 .by_cases c3:way=Str.ofString "near"
  .subst c3;by_cases c2:s<2*r<;>simp[c2,m3,m4]
  .simp[c1,c3,m3]
def Qr{f most p m:Int}(hp:0<p)(hf:f=m*p):(if most/p*p<f then most/p*p else f)=if most<f then most/p*p else f:=by
 by_cases c:most<f
 .rw[Gao c,Gao (Int.lt_of_le_of_lt (Int.ediv_mul_le _ (by lia)) c)]
 .rw[Gai c,Gai];rw[hf] at c⊢;have h1:m<=most/p:=(Int.le_ediv_iff_mul_le hp).mpr (by lia);simp_all
def ve(way:Str)(t s most p:Int):Int:=if most<wH t s p way then most/p*p else wH t s p way
def down_eq:wH most p p "down"=most/p*p:=by
 unfold wH more;simp
def vf(hh:(per=0/\top*num=t/\den=b)\/(¬per=0/\∃w,wd= E w/\w*(top*num)=t/\per*den=b))(hs:b*p=s)(s0:0<s)(s1:s<1073741824)(p0:0<p)(p1:p<1073741824)(n0:0<=num)(n1:num<=12)(d0:0<=den)(d1:den<=12)(t0:0<=top)(t1:top<=1000000):
  rT [N [X way,E top,E per,E most],wd,E num,E den,E p]=U (E (ve way t s most p)):=by
 have r1:=o6 (t:=t) (way:=way) hs s0 s1 p0 p1;have r2:=o6 (t:=most) (way:="down") (Int.one_mul p) p0 p1 p0 p1;rw[down_eq] at r2;have ce:=Qr (most:=most) p0 (show wH t s p way=_*p from rfl);have m1:aQ top num=O:=bI;have tn:=jn t0 t1 n0 n1;have tn0:=GbM t0 n0;have m2:∀i,aQ i (top*num)=O:=λi=>bI;have m3:aQ per den=O:=bI;unfold ve;rw[<-ce];generalize wH t s p way=f at*;refine aL rfl ?_;refine sqn (by simp;rfl) ?_;refine sqn (by simp[m1];rfl) ?_;refine sqn (e:=[U (Z (N [X way,E top,E per,E most])),U (Z wd),U (Z (E num)),U (Z (E den)),U (Z (E p)),U (Z (X way)),U (Z (E (top*num))),U (Z (E per)),J,J]) (by simp) ?_;refine sqn (e:=[U (Z (N [X way,E top,E per,E most])),U (Z wd),U (Z (E num)),U (Z (E den)),U (Z (E p)),U (Z (X way)),U (Z (E (top*num))),U (Z (E per)),U (Z (E most)),J]) (by simp) ?_;refine sqn (e:=[U (Z (N [X way,E top,E per,E most])),U (Z wd),U (Z (E num)),U (Z (E den)),U (Z (E p)),U (Z (X way)),U (Z (E (top*num))),U (Z (E per)),U (Z (E most)),U (Z (E f))]) ?_ ?_
 .rcases hh with⟨z,e1,e2⟩| ⟨z,w,rfl,e1,e2⟩
  .simp_all
  .simp_all
 .simp[r2]
def mh(hh:(per=0/\top*num=t/\den=b)\/(0<per/\∃w,wd= E w/\top*num*w=t/\den*per=b))(hs:b*p=s)(s0:0<s)(s1:s<1073741824)(b0:0<=b)(b1:b<1000000)(p0:0<p)(p1:p<1073741824)(n0:0<=num)(n1:num<=12)(d0:0<=den)(d1:den<=12)(t0:0<=top)(t1:top<=1000000):
  iH [N [X way,E top,E per,E most],wd,E num,E den,E p]=U (E (ve way t s most p)):=by
 have m1:aQ top num=O:=bI;have tn:=jn t0 t1 n0 n1;have tn0:=GbM t0 n0;have m2:∀i,aQ (top*num) i=O:=λi=>bq;have m3:aQ den per=O:=bq;have m4:∀i,aQ i p=O:=λi=>bI;have m5:∀i,aQ i b=O:=λi=>bI;have m6:∀i,aQ 2 i=O:=λi=>bq;have eq:t -t/s*p*b=t -t/s*s:=by rw[Int.mul_assoc,Int.mul_comm p b,hs]
 have p9:0<p/\p<1073741824:=⟨p0,p1⟩
 unfold ve wH more;rw[Int.add_mul];rw[<-eq];generalize hq:t/s=q;generalize hf:q*p=f;generalize hr:t -f*b=r;refine aL rfl ?_;refine sqn (by simp[m1];rfl) ?_;refine sqn (e:=[U (Z (N [X way,E top,E per,E most])),U (Z wd),U (Z (E num)),U (Z (E den)),U (Z (E p)),U (Z (E (top*num))),U (Z (E den)),J,J]) (by simp) ?_;refine sqn (e:=[U (Z (N [X way,E top,E per,E most])),U (Z wd),U (Z (E num)),U (Z (E den)),U (Z (E p)),U (Z (E t)),U (Z (E b)),J,J]) ?_ ?_
 .rcases hh with⟨z,e1,e2⟩| ⟨z,w,rfl,e1,e2⟩
  .simp[z,e1,e2]
  .simp[z,e1,e2,m2,m3]
 refine sqn (by simp[m4,hs,s0,s1,hq,hf];rfl) ?_;refine sqn (by simp[m5,hr];rfl) ?_;obtain⟨mo,hm⟩:∃mo:Bool,(decide (way=Str.ofString "up")&&decide (0<r)||decide (way=Str.ofString "near")&&decide (s<2*r))=mo:=⟨_,rfl⟩
 rw[hm];refine sqn (e:=[U (Z (N [X way,E top,E per,E most])),U (Z wd),U (Z (E num)),U (Z (E den)),U (Z (E p)),U (Z (E t)),U (Z (E b)),U (Z (E (f+(if mo=O then 1 else 0)*p))),U (Z (E r))]) ?_ ?_
 .rw[<-hm];by_cases c1:way=Str.ofString "up"
  .subst c1;by_cases c2:0<r<;>simp[c2]
  .by_cases c3:way=Str.ofString "near"
   .subst c3;by_cases c2:s<2*r<;>simp[c2,m4,m6,hs]
   .simp[c1,c3]
 .generalize f+(if mo=O then 1 else 0)*p=f';by_cases c:most<f' <;>simp[c,m4,p9]
noncomputable def qa(k:Int):List Tr->Tr->Tr
 |[],f=>f
 |t::ts,f=>qa k ts (if t.1<=k then t else f)
def MA(t:Tr):Prop:=1<=t.2.1/\t.2.1<=12/\1<=t.2.2/\t.2.2<=12
theorem Ex:∀ts f,(∀t∈ts,MA t)->MA f->MA (qa k ts f)
 |[],f,_,h=>h
 |t::ts,f,ht,h=>by
  refine Ex ts _ (λx hx=>ht x (Gaf _ hx)) ?_;split
  .exact ht t Gaj
  .exact h
theorem vg:∀{ds:List D},(∀t∈ds,ja t)->∃ts:List Tr,ds=ts.map ZD/\∀t∈ts,MA t
 |[],_=> ⟨[],rfl,λ_ h=>by cases h⟩
 |d::ds,h=>by
  obtain⟨a,b,c,rfl,q⟩:=h d Gaj;obtain⟨ts,rfl,q2⟩:=vg λt ht=>h t (Gaf _ ht);exact⟨(a,b,c)::ts,rfl,λt ht=>by
   rcases Gat.mp ht with rfl|ht
   .exact q
   .exact q2 t ht⟩
theorem sS:∀ts f x3,∃y3,Zw (gN 3) gx (ts.map ZD) [U (Z od),U (Z (E k)),U (Z (N [E f.2.1,E f.2.2])),x3]=U (P [U (Z od),U (Z (E k)),U (Z (N [E (qa k ts f).2.1,E (qa k ts f).2.2])),y3])
 |[],f,x3=> ⟨x3,by simp[qa]⟩
 |t::ts,f,x3=>by
  obtain⟨y3,e⟩:=sS ts (if t.1<=k then t else f) (U (Z (ZD t)));refine⟨y3, ?_⟩;have st:gx [U (Z od),U (Z (E k)),U (Z (N [E f.2.1,E f.2.2])),U (Z (ZD t))]=U (P [U (Z od),U (Z (E k)),U (Z (N [E (if t.1<=k then t else f).2.1,E (if t.1<=k then t else f).2.2])),U (Z (ZD t))]):=by
   unfold gx ZD;by_cases c:t.1<=k<;>simp[c]
  rw[Gay];simp only[Zw,gN,GaK,GaL,Option.bind_some,st];exact e
def CJ{ts:List Tr}(h5:ixD od (E 5)=U (N (ts.map ZD))):jU [od,E k]=U (N [E (qa k ts (0,1,1)).2.1,E (qa k ts (0,1,1)).2.2]):=by
 obtain⟨y3,e⟩:=sS (od:=od) (k:=k) ts (0,1,1) J;refine aL rfl ?_;refine sqn (by simp;rfl) ?_;simp[h5,e]
theorem vh:∀(ts:List Tr) (f:Tr) (x8:Os),∃y8,Zw (gN 8) dU (ts.map ZD) [e0,e1,e2,U (Z (E k)),e4,e5,e6,U (Z (ZD f)),x8]=U (P [e0,e1,e2,U (Z (E k)),e4,e5,e6,U (Z (ZD (qa k ts f))),y8])
 |[],f,x8=> ⟨x8,by simp[qa]⟩
 |t::ts,f,x8=>by
  obtain⟨y8,e⟩:=vh ts (if t.1<=k then t else f) (U (Z (ZD t)));refine⟨y8, ?_⟩;have st:dU [e0,e1,e2,U (Z (E k)),e4,e5,e6,U (Z (ZD f)),U (Z (ZD t))]=U (P [e0,e1,e2,U (Z (E k)),e4,e5,e6,U (Z (ZD (if t.1<=k then t else f))),U (Z (ZD t))]):=by
   unfold dU;by_cases c:t.1<=k
   .unfold ZD;simp[c]
   .unfold ZD;simp[c]
  rw[Gay];simp only[Zw,gN,GaK,GaL,Option.bind_some,st];exact e
def T9{bk rd:D}{W:List D}{am:Option Int}(w3:ixD wd (E 3)=U (N Zq))(w1:ixD wd (E 1)=U (N B))(hO:atD Zq n=U od)(o1:ixD od (E 1)=U (E g))(o2:ixD od (E 2)=U (E st))(o3:ixD od (E 3)=U rd)(r2:ixD rd (E 2)=U (E per))(hS:atD B st=U sd)(s1:ixD sd (E 1)=U (N ZY))(WN:atD ZY 0=U (E p))(b0:ixD bk (E 0)=U (N W))
  (ew:dA [N W,E g,E h]=U (bX wo))(et:jU [od,E k]=U (N [E num,E den]))(hn:¬per=0/\wo=J->am=J)(hy:¬(¬per=0/\wo=J)->rT [rd,bX wo,E num,E den,E p]=U (bX am)):gW [wd,bk,E n,E k,E h]=U (bX am):=by
 have xK :=aV (cn wo);refine aL rfl ?_;refine sqn (by simp[w3,hO];rfl) ?_;refine sqn (by simp[o3];rfl) ?_;refine sqn (by simp[b0,o1,ew,xK];rfl) ?_;by_cases c:¬per=0/\wo=J
 .simp_all
 .have hd:=hy c;have ia:=cn am;have ra:=aV ia;refine sqn (e:=[U (Z wd),U (Z bk),U (Z (E n)),U (Z (E k)),U (Z (E h)),U (Z od),U (Z rd),U (Z (bX wo)),J]) ?_ ?_
  .by_cases c1:per=0
   .simp[r2,c1]
   .cases wo with
    |none=>exact absurd ⟨c1,rfl⟩ c
    |some v=>simp[r2]
  .simp_all
def Ta{bk rd:D}{W:List D}{ts:List Tr}{am:Option Int}(w3:ixD wd (E 3)=U (N Zq))(w1:ixD wd (E 1)=U (N B))(hO:atD Zq n=U od)(o1:ixD od (E 1)=U (E g))(o2:ixD od (E 2)=U (E st))(o3:ixD od (E 3)=U rd)(h5:ixD od (E 5)=U (N (ts.map ZD)))(r2:ixD rd (E 2)=U (E per))(hS:atD B st=U sd)(s1:ixD sd (E 1)=U (N ZY))(WN:atD ZY 0=U (E p))(b0:ixD bk (E 0)=U (N W))
  (ew:cT [N W,E g,E h]=U (bX wo))(hn:0<per/\wo=J->am=J)(hy:¬(0<per/\wo=J)->iH [rd,bX wo,E (qa k ts (0,1,1)).2.1,E (qa k ts (0,1,1)).2.2,E p]=U (bX am)):cH [wd,bk,E n,E k,E h]=U (bX am):=by
 have xK :=aV (cn wo);obtain⟨y8,el⟩:=vh (e0:=U (Z wd)) (e1:=U (Z bk)) (e2:=U (Z (E n))) (e4:=U (Z (E h))) (e5:=U (Z od)) (e6:=U (Z (bX wo))) (k:=k) ts (0,1,1) J;refine aL rfl ?_;refine sqn (by simp[w3,hO];rfl) ?_;refine sqn (by simp[b0,o1,ew,xK];rfl) ?_;by_cases c:0<per/\wo=J
 .simp_all
 .have hd:=hy c;have ia:=cn am;have ra:=aV ia;have t0:ZD (0,1,1)= N [E 0,E 1,E 1]:=rfl;rw[t0] at el;refine sqn (e:=[U (Z wd),U (Z bk),U (Z (E n)),U (Z (E k)),U (Z (E h)),U (Z od),U (Z (bX wo)),J,J]) ?_ ?_
  .cases wo with
   |none=>
    have c1:¬0<per:=λz=>c ⟨z,rfl⟩;simp[o3,r2,c1]
   |some v=>simp
  .refine sqn (by simp;rfl) ?_;refine sqn (by simp[h5,el];rfl) ?_;unfold ZD;simp_all
def MB{w:World}{n:Int}(W:aH w)(hr:∀o∈w.Zs,kP o)(n0:0<=n)(n1:n<w.Zs.length):∃am,∀gv,gW [aE w,bkD ws gv,E n,E k,E h]=U (bX am)/\cH [aE w,bkD ws gv,E n,E k,E h]=U (bX am):=by
 obtain⟨o,s,g,e1,e2,e3,so,ok,oa,sa,_⟩:=d6 W n0 n1;obtain⟨q1,q2,q3,q4,q5⟩:=hr o (Gax e1);obtain⟨ts,et,tb⟩:=vg q5;have p1:=so.p1;have p2:=so.p2;obtain⟨f1,f2,f3,f4⟩:=Ex ts (0,1,1) tb ⟨by decide,by decide,by decide,by decide⟩;have i5:ixD (aj o) (E 5)=U (N (ts.map ZD)):=by rw[<-et];rfl
 have tp:=CJ (k:=k) i5;have ew:=iI (ws:=ws) (g:=o.ax) (h:=h);have el:=gH (ws:=ws) (g:=o.ax) (h:=h);generalize hf:qa k ts (0,1,1)=f at*;generalize wgt o.ax h ws J=wo at*;have key:∃am:Option Int,(¬o.per=0/\wo=J->am=J)/\(¬(¬o.per=0/\wo=J)->rT [N [X o.way,E o.top,E o.per,E o.most],bX wo,E f.2.1,E f.2.2,E s.part]=U (bX am)/\iH [N [X o.way,E o.top,E o.per,E o.most],bX wo,E f.2.1,E f.2.2,E s.part]=U (bX am)):=by
  by_cases c:o.per=0
  .have b1:0<f.2.2*s.part:=Int.mul_pos (by lia) (by lia);have b2:=jn (by lia) f4 (by lia) p2;refine⟨U (ve o.way (o.top*f.2.1) (f.2.2*s.part) o.most s.part),λz=>absurd c z.1,λ_=> ⟨?_, ?_⟩⟩
   .exact vf (.inl ⟨c,rfl,rfl⟩) rfl b1 (by lia) (by lia) (by lia) (by lia) (by lia) (by lia) (by lia) (by lia) (by lia)
   .exact mh (.inl ⟨c,rfl,rfl⟩) rfl b1 (by lia) (by lia) (by lia) (by lia) (by lia) (by lia) (by lia) (by lia) (by lia) (by lia) (by lia)
  .cases wo with
   |none=>exact⟨J,λ_=>rfl,λz=>absurd ⟨c,rfl⟩ z⟩
   |some v=>
    have d1:0<o.per*f.2.2:=Int.mul_pos (by lia) (by lia);have d2:=jn q1 q2 (by lia) f4;have b1:0<o.per*f.2.2*s.part:=Int.mul_pos d1 (by lia);have b2:=jn (by lia) d2 (by lia) p2;refine⟨U (ve o.way (v*(o.top*f.2.1)) (o.per*f.2.2*s.part) o.most s.part),λz=>absurd z.2 (by simp),λ_=> ⟨?_, ?_⟩⟩
    .exact vf (.inr ⟨c,v,rfl,rfl,rfl⟩) rfl b1 (by lia) (by lia) (by lia) (by lia) (by lia) (by lia) (by lia) (by lia) (by lia)
    .exact mh (b:=o.per*f.2.2) (.inr ⟨by lia,v,rfl,Int.mul_comm _ _,Int.mul_comm _ _⟩) rfl b1 (by lia) (by lia) (by lia) (by lia) (by lia) (by lia) (by lia) (by lia) (by lia) (by lia) (by lia)
 obtain⟨am,k1,k2⟩:=key;refine⟨am,λgv=> ⟨?_, ?_⟩⟩
 .exact T9 rfl rfl oa rfl rfl rfl rfl sa rfl rfl rfl ew tp k1 λz=>(k2 z).1
 .refine Ta (ts:=ts) rfl rfl oa rfl rfl rfl i5 rfl sa rfl rfl rfl el (λz=>k1 ⟨by lia,z.2⟩) λz=> ?_;rw[hf];exact(k2 λy=>z ⟨by lia,y.2⟩).2
def MC{tk:D}{H:List D}(ed:gW [wd,bk0,E n,E k,E h]=U ζ)(hz:H.length<1000):
  d9 [U (Z wd),U (Z bk0),U (Z (E h)),U (Y (Q T)),U (Y (Q H)),U (Z tk),U (Z (N [at_,E n,E k])),x7,x8,x9,eI,eN]=
   U (P [U (Z wd),U (Z bk0),U (Z (E h)),U (Y (Q T)),U (Y (Q (H++[N [E n,E k,δ [N [X "weight",E n,E h]]]]))),U (Z tk),U (Z (N [at_,E n,E k])),U (Z (E n)),U (Z (E k)),U (Z ζ),eI,eN]):=by
 have z:H.length<16777216:=by lia
 refine sqn (e:=[U (Z wd),U (Z bk0),U (Z (E h)),U (Y (Q T)),U (Y (Q H)),U (Z tk),U (Z (N [at_,E n,E k])),U (Z (E n)),x8,x9,eI,eN]) (by simp) ?_;simp[ed,af,z]
def MD{tk xW :D}{T H:List D}{fs:List Flt}(ed:gW [wd,bk0,E n,E k,E h]=U (E a))(ew:d7 [tk,E n,E h,E a]=U xW)(ib:xW.imm=O)(ef:jJ [wd,xW]=U (Q (fs.map ag)))(hz:H.length<1000)(ht:T.length<1000):∃eV,
  d9 [U (Z wd),U (Z bk0),U (Z (E h)),U (Y (Q T)),U (Y (Q H)),U (Z tk),U (Z (N [at_,E n,E k])),x7,x8,x9,eI,eN]=
   U (P [U (Z wd),U (Z bk0),U (Z (E h)),U (Y (Q (if fs=[] then T++[N [E n,E k,E a]] else T))),U (Y (Q (if fs=[] then H else H++[N [E n,E k,δ (fs.map ag)]]))),U (Z (if fs=[] then xW else tk)),U (Z (N [at_,E n,E k])),U (Z (E n)),U (Z (E k)),U (Z (E a)),U (Z xW),eV]):=by
 have z:H.length<16777216:=by lia
 have z2:T.length<16777216:=by lia
 have rb:=aV ib;have eq:=Mt fs;have im:=bW fs;by_cases c:fs=[]
 .subst c;refine⟨U (Y (Q [])), ?_⟩;rw[Gdf] at eq ef;refine sqn (e:=[U (Z wd),U (Z bk0),U (Z (E h)),U (Y (Q T)),U (Y (Q H)),U (Z tk),U (Z (N [at_,E n,E k])),U (Z (E n)),x8,x9,eI,eN]) (by simp) ?_;simp[ed,ew,rb,ef,eq,af,z2]
 .refine⟨U (Z (δ (fs.map ag))), ?_⟩;rw[Gai c,Gai c,Gai c];rw[GaE c] at eq;refine sqn (e:=[U (Z wd),U (Z bk0),U (Z (E h)),U (Y (Q T)),U (Y (Q H)),U (Z tk),U (Z (N [at_,E n,E k])),U (Z (E n)),x8,x9,eI,eN]) (by simp) ?_;simp[ed,ew,rb,ef,eq,af,z,im]
def ME{H:List D}(ed:cH [wd,bk,E n,E k,E h]=U ζ)(hz:H.length<1000):∃y9,
  cj [U (Z wd),U (Z bk),U (Z (E h)),U (Y (Q T)),U (Y (Q H)),U (Z (E at_)),U (Z (E n)),U (Z (E k)),x8,x9]=
   U (P [U (Z wd),U (Z bk),U (Z (E h)),U (Y (Q T)),U (Y (Q (H++[N [E n,E k,δ [N [X "weight",E n,E h]]]]))),U (Z (E at_)),U (Z (E n)),U (Z (E k)),U (Z ζ),y9]):=by
 have z:H.length<16777216:=by lia
 refine⟨U (Z (δ [N [X "weight",E n,E h]])), ?_⟩;refine sqn (by simp[ed];rfl) ?_;simp[af,z]
def MF{xW :D}{T H:List D}{fs:List Flt}(ed:cH [wd,bk,E n,E k,E h]=U (E a))(ew:cg [bk,E n,E h,E a]=U xW)(ib:xW.imm=O)(ef:bA [wd,xW]=U (Q (fs.map ag)))(hz:H.length<1000)(ht:T.length<1000):∃y9,
  cj [U (Z wd),U (Z bk),U (Z (E h)),U (Y (Q T)),U (Y (Q H)),U (Z (E at_)),U (Z (E n)),U (Z (E k)),x8,x9]=
   U (P [U (Z wd),U (Z (if fs=[] then xW else bk)),U (Z (E h)),U (Y (Q (if fs=[] then T++[N [E n,E k,E a]] else T))),U (Y (Q (if fs=[] then H else H++[N [E n,E k,δ (fs.map ag)]]))),U (Z (E at_)),U (Z (E n)),U (Z (E k)),U (Z (E a)),y9]):=by
 have z:H.length<16777216:=by lia
 have z2:T.length<16777216:=by lia
 have rb:=aV ib;have im:=bW fs;unfold cj;have pre:∀rest:DS,(ah (aq 8 (ak cH (aa (vE 0) (aa (vE 1) (aa (vE 6) (aa (vE 7) (aa (vE 2) aX)))))))
  (ah (aq 9 (de (aa (aO (aa (kE (X "weight")) (aa (vE 6) (aa (vE 2) aX)))) aX)))
  (ah (ifS (az iX (vE 8) (kE ζ)) (aq 9 (ak bA (aa (vE 0) (aa (ak cg (aa (vE 1) (aa (vE 6) (aa (vE 2) (aa (vE 8) aX))))) aX)))) ni) rest)))
  [U (Z wd),U (Z bk),U (Z (E h)),U (Y (Q T)),U (Y (Q H)),U (Z (E at_)),U (Z (E n)),U (Z (E k)),x8,x9]=
   rest [U (Z wd),U (Z bk),U (Z (E h)),U (Y (Q T)),U (Y (Q H)),U (Z (E at_)),U (Z (E n)),U (Z (E k)),U (Z (E a)),U (Y (Q (fs.map ag)))]:=λrest=>by
  refine sqn (by simp[ed];rfl) ?_;refine sqn (by simp;rfl) ?_;exact mP (by simp[ew,rb,ef])
 rw[pre];by_cases c:fs=[]
 .subst c;refine⟨U (Y (Q [])), ?_⟩;simp[ew,rb,af,z2]
 .rw[Gai c,Gai c,Gai c];have ne:¬(((fs.map ag).length:Int)=0):=by
   rw[Gae];have:=List.length_pos_iff.mpr c;lia
  have hL:cO [Q (fs.map ag)]=U ⟨.c,E ((fs.map ag).length:Int)⟩:=rfl;generalize ((fs.map ag).length:Int)=L at*;simp[hL,ne,af,z,im]
def K5(ws gv:List Tr):(bkD ws gv).imm=O:=by
 have h1:=bJ ws;have h2:=bJ gv;simp[bkD,h1,h2]
def TOk(d:D):Prop:=∃a b c:Int,d= N [E a,E b,E c]
def HOk(d:D):Prop:=∃(a b:Int) (fs:List Flt),d= N [E a,E b,δ (fs.map ag)]/\fs.length<64/\∀f∈fs,f.2.length<=100
structure MG(w:World)(i:Nat)(ws gv:List Tr)(T H:List D):Prop where
 b:oQ w (9+i) ws gv
 t:∀d∈T,TOk d
 h:∀d∈H,HOk d
 tl:T.length<=i
 hl:H.length<=i
def CK{w:World}{gv:List Tr}(W:aH w)(hg:bQ w.Zs.length gv):∀f∈gv.flatMap (gc w ws gv),f.2.length<=100:=λf hf=>by
 obtain⟨t,ht,hf⟩:=GaQ.mp hf;obtain⟨o,s,g,e1,e2,e3,so,ok,_⟩:=d6 W (hg t ht).1 (hg t ht).2;rw[jZ e1 e2 e3,Gau,Gau,Eo e1 e2 e3] at hf;rcases hf with((hf|hf)|hf)|hf
 .rw[(nX hf).2];simp
 .obtain⟨k,_,_,rfl⟩:=(qm e1 f).mp hf;simp
 .obtain⟨j,c,_,h2⟩:=(ly _ 0).mp hf;obtain⟨top,rfl⟩:=gf h2;simp
 .obtain⟨u,_,hf⟩:=GaQ.mp hf;unfold nrT at hf;split at hf
  .rename_i q;rw[nU (λb hb=>(W.bo.1 b hb).2.1) W.bo.2 (show(t.2.1,t.1).1<=(u.2.1,u.1).1 from(kO q).1)] at hf;rw[oO hf];simp
  .cases hf
def CL{w:World}{H:List D}(W:aH w)(hc:∀s∈w.ar,s.ay.length<=2)(hr:∀o∈w.Zs,kP o)(I:MG w i ws gv T H)(hi:i<4)(R:pQ w.Zs gv h r):∃gv' T' H',MG w (i+1) ws gv' T' H' /\(∀t∈gv',t∈gv\/t.1=r.2.1)/\
  (∀yd x7 x8 x9 eI eN,∃y7 y8 y9 eP eV,d9 [U (Z (aE w)),U (Z (bkD ws yd)),U (Z (E h)),U (Y (Q T)),U (Y (Q H)),U (Z (bkD ws gv)),U (Z (ZD r)),x7,x8,x9,eI,eN]=
   U (P [U (Z (aE w)),U (Z (bkD ws yd)),U (Z (E h)),U (Y (Q T')),U (Y (Q H')),U (Z (bkD ws gv')),U (Z (ZD r)),y7,y8,y9,eP,eV]))/\
  (∀x8 x9,∃y8 y9,cj [U (Z (aE w)),U (Z (bkD ws gv)),U (Z (E h)),U (Y (Q T)),U (Y (Q H)),U (Z (E r.1)),U (Z (E r.2.1)),U (Z (E r.2.2)),x8,x9]=
   U (P [U (Z (aE w)),U (Z (bkD ws gv')),U (Z (E h)),U (Y (Q T')),U (Y (Q H')),U (Z (E r.1)),U (Z (E r.2.1)),U (Z (E r.2.2)),y8,y9])):=by
 have n0:=R.1;have n1:=R.2.1;have tl:=I.tl;have hl:=I.hl;have gl:=I.b.gl;have wl:=I.b.wl;have et:ZD r= N [E r.1,E r.2.1,E r.2.2]:=rfl;have snoc:∀{ZY:D->Prop} {L:List D} {d:D},(∀x∈L,ZY x)->ZY d->∀x∈L++[d],ZY x:=λhL hd x hx=>by
  rcases Gau.mp hx with hx|hx
  .exact hL x hx
  .rw[GaU.mp hx];exact hd
 obtain⟨am,pl⟩:=MB W hr (ws:=ws) (k:=r.2.2) (h:=h) n0 n1;cases am with
 |none=>
  refine⟨gv,T,H++[N [E r.2.1,E r.2.2,δ [N [X "weight",E r.2.1,E h]]]],⟨I.b.mono (by lia),I.t,snoc I.h ⟨_,_,[(Str.ofString "weight",[r.2.1,h])],rfl,by simp,by simp⟩,by lia,by simp;lia⟩,λt ht=> .inl ht,λyd x7 x8 x9 eI eN=> ?_,λx8 x9=> ?_⟩
  .exact⟨_,_,_,_,_,MC (pl yd).1 (by lia)⟩
  .obtain⟨y9,e⟩:=ME (T:=T) (H:=H) (at_:=r.1) (x8:=x8) (x9:=x9) (pl gv).2 (by lia);exact⟨_,y9,e⟩
 |some a=>
  have hs:=GA R;have pm:=lA gv (r.2.1,h,a);have B12:oQ w 12 ws gv:=I.b.mono (by lia);have zx :=Et (a:=a) I.b.nd hs;have go' :=(I.b.go.app (JZ (h:=h) (a:=a) n0 n1)).perm pm;have l' :(laid gv (r.2.1,h,a)).length=gv.length+1:=by rw[pm.length_eq];simp
  obtain⟨fs,e1,e2,fl,fn,fm⟩:=Mk W (ws:=ws) go' (by lia) zx (K3 W hc B12 n0 n1 pm (K4 I.b.sn.cnt R pm)) (K2 W hc B12 n0 n1 pm zx);have sm:=λf hf=>CK W (ws:=ws) go' f (fm f hf);have iw:(N (ws.map ZD)).imm=O:=by have:=bJ ws;simpa using this
  have w1:d7 [bkD ws gv,E r.2.1,E h,E a]=U (bkD ws (laid gv (r.2.1,h,a))):=CF (V:= N (ws.map ZD)) iw (by lia);have w2:cg [bkD ws gv,E r.2.1,E h,E a]=U (bkD ws (laid gv (r.2.1,h,a))):=va (V:= N (ws.map ZD)) iw (by lia);have ib:=K5 ws (laid gv (r.2.1,h,a));have ZY:=λ(yd:List Tr) (x7 x8 x9 eI eN:Os)=>MD (bk0:=bkD ws yd) (at_:= E r.1) (T:=T) (H:=H) (x7:=x7) (x8:=x8) (x9:=x9) (eI:=eI) (eN:=eN) (pl yd).1 w1 ib e1 (by lia) (by lia);have L:=λ(x8 x9:Os)=>MF (at_:=r.1) (T:=T) (H:=H) (x8:=x8) (x9:=x9) (pl gv).2 w2 ib e2 (by lia) (by lia);by_cases c:fs=[]
  .simp only[Gao c] at ZY L;refine⟨laid gv (r.2.1,h,a),T++[N [E r.2.1,E r.2.2,E a]],H,⟨⟨go',zx,fn.mp c,by lia,by lia⟩,snoc I.t ⟨_,_,_,rfl⟩,I.h,by simp;lia,by lia⟩,λt ht=> ?_,λyd x7 x8 x9 eI eN=> ?_,λx8 x9=> ?_⟩
   .rcases Gau.mp (pm.mem_iff.mp ht) with q|q
    .exact .inl q
    .rw[GaU.mp q];exact .inr rfl
   .obtain⟨eV,e⟩:=ZY yd x7 x8 x9 eI eN;exact⟨_,_,_,_,eV,e⟩
   .obtain⟨y9,e⟩:=L x8 x9;exact⟨_,y9,e⟩
  .simp only[Gai c] at ZY L;refine⟨gv,T,H++[N [E r.2.1,E r.2.2,δ (fs.map ag)]],⟨I.b.mono (by lia),I.t,snoc I.h ⟨_,_,fs,rfl,fl,sm⟩,by lia,by simp;lia⟩,λt ht=> .inl ht,λyd x7 x8 x9 eI eN=> ?_,λx8 x9=> ?_⟩
   .obtain⟨eV,e⟩:=ZY yd x7 x8 x9 eI eN;exact⟨_,_,_,_,eV,e⟩
   .obtain⟨y9,e⟩:=L x8 x9;exact⟨_,y9,e⟩
def pQ.keep{gv gv' :List Tr}{h:Int}{r q:Tr}(hk:∀t∈gv',t∈gv\/t.1=r.2.1)(ne:¬r.2.1=q.2.1)(ZV:pQ os gv h q):pQ os gv' h q:=by
 obtain⟨h1,h2,o,e,d,no⟩:=ZV;refine⟨h1,h2,o,e,d,λt ht et=> ?_⟩;rcases hk t ht with z|z
 .exact no t z et
 .simp_all
theorem sT{w:World}(W:aH w)(hc:∀s∈w.ar,s.ay.length<=2)(hr:∀o∈w.Zs,kP o):∀(rs gv:List Tr) (T H:List D) (i:Nat),MG w i ws gv T H->i+rs.length<=4->(∀r∈rs,pQ w.Zs gv h r)->(rs.map (·.2.1)).Nodup->∃(gv' :List Tr) (T' H' :List D),MG w (i+rs.length) ws gv' T' H' /\
  (∀(x6 x7 x8 x9 eI eN:Os),∃y6 y7 y8 y9 eP eV:Os,Zw (gN 6) d9 (rs.map ZD) [U (Z (aE w)),U (Z (bkD ws yd)),U (Z (E h)),U (Y (Q T)),U (Y (Q H)),U (Z (bkD ws gv)),x6,x7,x8,x9,eI,eN]=
   U (P [U (Z (aE w)),U (Z (bkD ws yd)),U (Z (E h)),U (Y (Q T')),U (Y (Q H')),U (Z (bkD ws gv')),y6,y7,y8,y9,eP,eV]))/\
  (∀(x5 x6 x7 x8 x9:Os),∃y5 y6 y7 y8 y9:Os,Zw (gT [5,6,7]) cj (rs.map ZD) [U (Z (aE w)),U (Z (bkD ws gv)),U (Z (E h)),U (Y (Q T)),U (Y (Q H)),x5,x6,x7,x8,x9]=
   U (P [U (Z (aE w)),U (Z (bkD ws gv')),U (Z (E h)),U (Y (Q T')),U (Y (Q H')),y5,y6,y7,y8,y9]))
 |[],gv,T,H,i,I,_,_,_=> ⟨gv,T,H,I,λx6 x7 x8 x9 eI eN=> ⟨x6,x7,x8,x9,eI,eN,by simp⟩,λx5 x6 x7 x8 x9=> ⟨x5,x6,x7,x8,x9,by simp⟩⟩
 |r::rs,gv,T,H,i,I,hl,ok,nd=>by
  rw[GaF] at hl;rw[Gay,Gbb] at nd;obtain⟨Z6,T1,H1,I1,k1,p1,q1⟩:=CL W hc hr I (by lia) (ok r Gaj);obtain⟨Z5,T2,H2,I2,p2,q2⟩:=sT W hc hr rs Z6 T1 H1 (i+1) I1 (by lia) (λq hq=>(ok q (Gaf _ hq)).keep k1 λz=>nd.1 (Gas.mpr ⟨q,hq,z.symm⟩)) nd.2;refine⟨Z5,T2,H2,by rw[GaF,show i+(rs.length+1)=i+1+rs.length by lia];exact I2,λx6 x7 x8 x9 eI eN=> ?_,λx5 x6 x7 x8 x9=> ?_⟩
  .obtain⟨a7,a8,a9,Zd,Zc,e1⟩:=p1 yd x7 x8 x9 eI eN;obtain⟨y6,y7,y8,y9,eP,eV,e2⟩:=p2 (U (Z (ZD r))) a7 a8 a9 Zd Zc;refine⟨y6,y7,y8,y9,eP,eV, ?_⟩;rw[Gay];simp only[Zw,gN,GaK,GaL,Option.bind_some,e1];exact e2
  .obtain⟨a8,a9,e1⟩:=q1 x8 x9;obtain⟨y5,y6,y7,y8,y9,e2⟩:=q2 (U (Z (E r.1))) (U (Z (E r.2.1))) (U (Z (E r.2.2))) a8 a9;refine⟨y5,y6,y7,y8,y9, ?_⟩;rw[Gay];have et:ZD r= N [E r.1,E r.2.1,E r.2.2]:=rfl;simp_all
theorem TOk.imm{d:D}(h:TOk d):d.imm=O:=by obtain⟨a,b,c,rfl⟩:=h;simp
theorem HOk.imm{d:D}(h:HOk d):d.imm=O:=by
 obtain⟨a,b,fs,rfl,_⟩:=h;have:=bW fs;simp[this]
def Qs{H:List D}(eo:fG [wd,bk,E h]=U (Q R))(e:Zw (gN 6) d9 R [U (Z wd),U (Z bk),U (Z (E h)),U (Y (Q [])),U (Y (Q [])),U (Z bk),J,J,J,J,J,J]=U (P [U (Z wd),U (Z bk),U (Z (E h)),U (Y (Q T)),U (Y (Q H)),U (Z b'),y6,y7,y8,y9,eP,eV]))(it:aA T=O)(ih:aA H=O):iB [wd,bk,E h]=U (N [δ T,δ H]):=by
 refine aL rfl ?_;refine sqn (by simp;rfl) ?_;simp[eo,e,it,ih]
def Qt{H:List D}(eo:cZ [wd,bk,E h,X "open"]=U (Q R))(e:Zw (gT [5,6,7]) cj R [U (Z wd),U (Z bk),U (Z (E h)),U (Y (Q [])),U (Y (Q [])),J,J,J,J,J]=U (P [U (Z wd),U (Z b'),U (Z (E h)),U (Y (Q T)),U (Y (Q H)),y5,y6,y7,y8,y9]))(it:aA T=O)(ih:aA H=O):gE [wd,bk,E h]=U (N [δ T,δ H]):=by
 refine aL rfl ?_;refine sqn (by simp;rfl) ?_;simp[eo,e,it,ih]
def K6{w:World}(W:aH w)(h4:w.Zs.length<=4)(hc:∀s∈w.ar,s.ay.length<=2)(hr:∀o∈w.Zs,kP o)(B:oQ w 9 ws gv):∃T H,(∀d∈T,TOk d)/\(∀d∈H,HOk d)/\T.length<=4/\H.length<=4/\iB [aE w,bkD ws gv,E h]=U (N [δ T,δ H])/\gE [aE w,bkD ws gv,E h]=U (N [δ T,δ H]):=by
 have gl:=B.gl;obtain⟨rs,pm,o1,o2⟩:=Gz W h4 (gv:=gv) (hour:=h) (by lia);have du:=λo ho=>(W.oo o ho).du;have ln:=kQ w.Zs gv h w.Zs.length;have rl:rs.length<=4:=by rw[pm.length_eq];lia
 have ok:=λr q=>(kT du _ r (pm.mem_iff.mp q)).2;have nd:=((pm.map λr:Tr=>r.2.1).nodup_iff).mpr (sQ du w.Zs.length);obtain⟨gv',T,H,I,p,q⟩:=sT W hc hr rs gv [] [] 0 ⟨B,λ_ z=>(by cases z),λ_ z=>(by cases z),(by simp),(by simp)⟩ (by lia) ok nd;obtain⟨y6,y7,y8,y9,eP,eV,ep⟩:=p J J J J J J;obtain⟨z5,z6,z7,z8,z9,eq⟩:=q J J J J J;have it:=iQ λd hd=>(I.t d hd).imm;have ih:=iQ λd hd=>(I.h d hd).imm;have tl:=I.tl;have hl:=I.hl;exact⟨T,H,I.t,I.h,by lia,by lia,Qs o1 ep it ih,Qt o2 eq it ih⟩
def lB(n:Nat)(i:Int):aB (n+1) [E i,E i]=U (ZZ O):=by
 unfold aB bZ;simp
def GB(n:Nat)(x:Str):aB (n+1) [X x,X x]=U (ZZ O):=by
 unfold aB bZ;simp
def sU{ds:List D}(ha:∀k:Nat,ixD a (E (k:Int))=ds[k]?)(h:∀d∈ds,aB n [d,d]=U (ZZ O)):∀(Zr:Nat) (hM:Zr<=ds.length) (x0:Os),
  cB (gN 0) fK (ak (aB n) (aa (ZE (vE 1) (vE 0)) (aa (ZE (vE 2) (vE 0)) aX))) (aC 0 Zr) [x0,U (Z a),U (Z a)]=U ((List.replicate Zr O).map ZZ):=by
 intro Zr hM x0;have c:=dW (g:=gN 0) (f:=ak (aB n) (aa (ZE (vE 1) (vE 0)) (aa (ZE (vE 2) (vE 0)) aX))) (λk:Nat=>E ((0:Int)+(k:Int))) (λenv=>∃y,env=[y,U (Z a),U (Z a)]) (λ_=> ZZ O) (List.range Zr) [x0,U (Z a),U (Z a)] ⟨x0,rfl⟩ (by
  rintro k hk env ⟨y,rfl⟩;have xw :=GaS.mp hk;have hd:ixD a (E (0+(k:Int)))=U (ds[k]'(by lia)):=by
   simp_all
  have hh:=h (ds[k]'(by lia)) (GaA _);generalize (0:Int)+(k:Int)=kk at*;exact⟨_,rfl,⟨_,rfl⟩,.c,by simp[hd,hh],rfl⟩)
 unfold aC;rw[c];congr 1;rw[List.map_replicate];exact(List.eq_replicate_iff.mpr ⟨by simp,by simp⟩)
def sV{L:Int}(hL:cO [N ds]=U ⟨.c,E L⟩)(s:aS L=O)(z:(aC 0 L.toNat).length<=16777216)
  (c:cB (gN 0) fK (ak (aB n) (aa (ZE (vE 1) (vE 0)) (aa (ZE (vE 2) (vE 0)) aX))) (aC 0 L.toNat) [J,U (Z (N ds)),U (Z (N ds))]=U bl)(al:BC [Q bl]=U ⟨.c,ZZ O⟩):aB (n+1) [N ds,N ds]=U (ZZ O):=by
 show bu 2 2 (bZ (aB n)) _=_;refine aL rfl ?_;unfold bZ;refine DV ?_;refine(PV (by simp)).trans ?_;refine sqn (e:=[U (Z (N ds)),U (Z (N ds))]) (by simp) ?_;refine sqn (e:=[U (Z (N ds)),U (Z (N ds))]) (by simp) ?_;refine sqn (by simp[-A1,hL];rfl) ?_;simp[-A1,hL,s,z,af,DL.Zx,dh,c,al]
def lC{ds:List D}(hl:ds.length<=1000)(h:∀d∈ds,aB n [d,d]=U (ZZ O)):aB (n+1) [N ds,N ds]=U (ZZ O):=by
 have c:=sU (a:= N ds) (λk=>by show atD ds (k:Int)=_;exact bO) h ds.length (Gan _) J;have e:(ds.length:Int).toNat=ds.length:=by lia
 have al:=AS (List.replicate ds.length O);have al2:(List.replicate ds.length O).all id=O:=by simp
 rw[al2] at al;refine sV rfl (b8) (by rw[e,bV];lia) ?_ al;exact c
def tN{L:Int}(hL:cO [δ ds]=U ⟨.c,E L⟩)(s:aS L=O)(z:(aC 0 L.toNat).length<=16777216)
  (c:cB (gN 0) fK (ak (aB n) (aa (ZE (vE 1) (vE 0)) (aa (ZE (vE 2) (vE 0)) aX))) (aC 0 L.toNat) [J,U (Z (δ ds)),U (Z (δ ds))]=U bl)(al:BC [Q bl]=U ⟨.c,ZZ O⟩):aB (n+1) [δ ds,δ ds]=U (ZZ O):=by
 show bu 2 2 (bZ (aB n)) _=_;refine aL rfl ?_;unfold bZ;refine DV ?_;refine(PV (by simp)).trans ?_;refine sqn (e:=[U (Z (δ ds)),U (Z (δ ds))]) (by simp) ?_;refine sqn (e:=[U (Z (δ ds)),U (Z (δ ds))]) (by simp) ?_;refine sqn (by simp[-CZ,hL];rfl) ?_;simp[-CZ,hL,s,z,af,DL.Zx,dh,c,al]
def sW{ds:List D}(hl:ds.length<=1000)(h:∀d∈ds,aB n [d,d]=U (ZZ O)):aB (n+1) [δ ds,δ ds]=U (ZZ O):=by
 have c:=sU (a:= δ ds) (λk=>by show atD ds (k:Int)=_;exact bO) h ds.length (Gan _) J;have e:(ds.length:Int).toNat=ds.length:=by lia
 have al:=AS (List.replicate ds.length O);have al2:(List.replicate ds.length O).all id=O:=by simp
 rw[al2] at al;refine tN rfl (b8) (by rw[e,bV];lia) ?_ al;exact c
def GC(hl:f.2.length<=100):aB 2 [ag f,ag f]=U (ZZ O):=by
 refine lC (by simp;lia) λd hd=> ?_;rcases Gat.mp hd with rfl|hd
 .exact GB 0 _
 .obtain⟨i,_,rfl⟩:=Gas.mp hd;exact lB 0 i
def MH(h:TOk d):aB 4 [d,d]=U (ZZ O):=by
 obtain⟨a,b,c,rfl⟩:=h;refine lC (by simp) λd hd=> ?_;simp at hd;rcases hd with rfl|rfl|rfl<;>exact lB 2 _
def MI(h:HOk d):aB 4 [d,d]=U (ZZ O):=by
 obtain⟨a,b,fs,rfl,hl,sm⟩:=h;refine lC (by simp) λd hd=> ?_;simp only[Gat,GbE,Gdi] at hd;rcases hd with rfl|rfl|rfl
 .exact lB 2 _
 .exact lB 2 _
 .refine sW (by rw[Gae];lia) λd hd=> ?_;obtain⟨f,hf,rfl⟩:=Gas.mp hd;exact GC (sm f hf)
def MJ{T H:List D}(hT:∀d∈T,TOk d)(hH:∀d∈H,HOk d)(tl:T.length<=4)(hl:H.length<=4):j9 [N [δ T,δ H],N [δ T,δ H]]=U (ZZ O):=by
 refine lC (by simp) λd hd=> ?_;simp only[Gat,GbE,Gdi] at hd;rcases hd with rfl|rfl
 .exact sW (by lia) λd hd=>MH (hT d hd)
 .exact sW (by lia) λd hd=>MI (hH d hd)
def Tc{ns:List Int}{bk rd:D}(w3:ixD wd (E 3)=U (N Zq))(m5:aQ 5 j=O)(ef:da [.scr ns]=U (E far))(hl:cO [N Zq]=U ⟨.c,E lo⟩)(lp:0<lo)(e0:ae [.scr ns,E (2000+5*j)]=U (E (mx ns (2000+5*j))))(hn:mx ns (2000+5*j)%lo=n)(hO:atD Zq n=U od)(hh:dI [.scr ns,E (2001+5*j),od,E far]=U (E h))
  (ep:iB [wd,bk,E h]=U rd)(el:gE [wd,bk,E h]=U rd)(al:j9 [rd,rd]=U (ZZ O)):
  AQ [U (Z (.scr ns)),U (Z wd),U (Z bk),U (Z (E j)),x4,x5]=U (P [U (Z (.scr ns)),U (Z wd),U (Z bk),U (Z (E j)),U (Z od),U (Z (E h))]):=by
 refine sqn (by simp[w3,m5,e0,hl,lp,hn,hO];rfl) ?_;refine sqn (by simp[m5,ef,hh];rfl) ?_;have Ym :(ku rd).d=rd:=rfl;simp[ep,el,Ym,al]
def K7(ns:List Int)(zA:ns.length<=63):uN [.scr ns]=U (ZZ O):=by
 obtain⟨far,w,hf,W,h4,hc,hm,hr,ef,ew⟩:=JT ns;obtain⟨ws,gv,B,eb⟩:=Ms W hc hm hf ef;obtain⟨e,h1,y3,y4,y5,rfl⟩:=cE (g:=gN 3) (λ_ env=>∃(y3 y4 y5:Os),env=[U (Z (.scr ns)),U (Z (aE w)),U (Z (bkD ws gv)),y3,y4,y5]) (aC 0 4) 0
  [U (Z (.scr ns)),U (Z (aE w)),U (Z (bkD ws gv)),J,J,J] ⟨_,_,_,rfl⟩ (by
   rintro i d env hd ⟨y3,y4,y5,rfl⟩;obtain⟨hi,rfl⟩:=b9 hd;have j0:0<=0+(i:Int):=by lia
   have j1:0+(i:Int)<4:=by lia
   generalize 0+(i:Int)=j at*;have m5:aQ 5 j=O:=bq;have e0:=aM ns (2000+5*j);obtain⟨lo,n,hl,lp,hn,n0,n1⟩:=sO W (mx ns (2000+5*j));obtain⟨o,s,g,o1,o2,o3,so,ok,oa,sa,_⟩:=d6 W n0 n1;obtain⟨h,hh⟩:=Es (k:=2001+5*j) (by lia) (by lia) hf ok.du;obtain⟨T,H,hT,hH,tl,yA,ep,el⟩:=K6 W h4 hc hr B;exact⟨_,_,rfl,Tc rfl m5 ef hl lp e0 hn oa hh ep el (MJ hT hH tl yA),_,_,_,rfl⟩)
 have s4:aS 4=O:=rfl;have rw_:ku (aE w)=⟨.c,aE w⟩:=by
  have g1:=fV se w.bN;have g2:=fV g9 w.ar;have g3:=bJ w.br;have g4:=iQ λd hd=>by
   obtain⟨o,ho,rfl⟩:=Gas.mp hd;exact cF o (W.oo o ho).ti
  simp[aE]
 have rb:=aV (K5 ws gv);generalize aE w=wd at*;refine aL rfl ?_;refine sqn (e:=[U (Z (.scr ns)),U (Z wd),J,J,J,J]) (by simp[ew,rw_]) ?_;simp[eb,rb,s4,h1]
end Maths
seal L2.PE L2.PT L2.PW L2.PA L2.PS L2.PSs L2.PG L2.PGs L2.PI
namespace Der
open PySem PySem.Spec PyProof.Rows L2 DL Den
noncomputable abbrev top:=Hd.top
abbrev iR:ZP:=top 23
abbrev o7:ZP:=top 61
def fb{us:List ZH}(h:us.length=n+1):∃a t,us=a::t/\t.length=n:=by
 cases us with
 |nil=>cases h
 |cons a t=>exact⟨a,t,rfl,Nat.succ.inj h⟩
def all1{K:PySem.W.Frag}{fd:ZR}{p0:Str}(h:∀v0,bindArgs fd ⟨[v0],[]⟩=pure ([p0].zip [v0])):Binds K fd [p0] []:= .all λus hl=>by
 obtain⟨v0,t0,rfl,hZ⟩:=fb hl;cases Gbn.mp hZ;exact h v0
def all2{K:PySem.W.Frag}{fd:ZR}{p0:Str}(h:∀v0 v1,bindArgs fd ⟨[v0,v1],[]⟩=pure ([p0,p1].zip [v0,v1])):Binds K fd [p0,p1] []:= .all λus hl=>by
 obtain⟨v0,t0,rfl,h0⟩:=fb hl;obtain⟨v1,t1,rfl,hZ⟩:=fb h0;cases Gbn.mp hZ;exact h v0 v1
def tP{K:PySem.W.Frag}{fd:ZR}{p0:Str}(h:∀v0 v1 v2,bindArgs fd ⟨[v0,v1,v2],[]⟩=pure ([p0,p1,p2].zip [v0,v1,v2])):Binds K fd [p0,p1,p2] []:= .all λus hl=>by
 obtain⟨v0,t0,rfl,h0⟩:=fb hl;obtain⟨v1,t1,rfl,h1⟩:=fb h0;obtain⟨v2,t2,rfl,hZ⟩:=fb h1;cases Gbn.mp hZ;exact h v0 v1 v2
def tQ{K:PySem.W.Frag}{fd:ZR}{p0:Str}(h:∀v0 v1 v2 v3,bindArgs fd ⟨[v0,v1,v2,v3],[]⟩=pure ([p0,p1,p2,p3].zip [v0,v1,v2,v3])):Binds K fd [p0,p1,p2,p3] []:= .all λus hl=>by
 obtain⟨v0,t0,rfl,h0⟩:=fb hl;obtain⟨v1,t1,rfl,h1⟩:=fb h0;obtain⟨v2,t2,rfl,h2⟩:=fb h1;obtain⟨v3,t3,rfl,hZ⟩:=fb h2;cases Gbn.mp hZ;exact h v0 v1 v2 v3
def GF{K:PySem.W.Frag}{fd:ZR}{p0:Str}(h:∀v0 v1 v2 v3 v4,bindArgs fd ⟨[v0,v1,v2,v3,v4],[]⟩=pure ([p0,p1,p2,p3,p4].zip [v0,v1,v2,v3,v4])):Binds K fd [p0,p1,p2,p3,p4] []:= .all λus hl=>by
 obtain⟨v0,t0,rfl,h0⟩:=fb hl;obtain⟨v1,t1,rfl,h1⟩:=fb h0;obtain⟨v2,t2,rfl,h2⟩:=fb h1;obtain⟨v3,t3,rfl,h3⟩:=fb h2;obtain⟨v4,t4,rfl,hZ⟩:=fb h3;cases Gbn.mp hZ;exact h v0 v1 v2 v3 v4
def V1{K:PySem.W.Frag}{fd:ZR}{p0:Str}(h:∀v0 v1 v2 v3 v4 v5,bindArgs fd ⟨[v0,v1,v2,v3,v4,v5],[]⟩=pure ([p0,p1,p2,p3,p4,p5].zip [v0,v1,v2,v3,v4,v5])):Binds K fd [p0,p1,p2,p3,p4,p5] []:= .all λus hl=>by
 obtain⟨v0,t0,rfl,h0⟩:=fb hl;obtain⟨v1,t1,rfl,h1⟩:=fb h0;obtain⟨v2,t2,rfl,h2⟩:=fb h1;obtain⟨v3,t3,rfl,h3⟩:=fb h2;obtain⟨v4,t4,rfl,h4⟩:=fb h3;obtain⟨v5,t5,rfl,hZ⟩:=fb h4;cases Gbn.mp hZ;exact h v0 v1 v2 v3 v4 v5
section
variable{Pm:ZT}{mg:Str->Option ZH}
def Txt(Pm:ZT)(mg:Str->Option ZH):Prop:=∃h:ZK,(Hd.K Pm).In h/\h.Ns mainGlobals mg
def Txt.at(T:Txt Pm mg)(e:PySem.W.nsIn (Hd.K Pm) mainGlobals n=U (U v):=by kernel_rfl):mg n=U v:=let⟨_,X,G⟩:=T;PySem.W.mg_of X G e
def Txt.no(T:Txt Pm mg)(e:PySem.W.nsIn (Hd.K Pm) mainGlobals n=U J:=by kernel_rfl):mg n=J:=let⟨_,X,G⟩:=T;PySem.W.mg_none_of X G e
variable{st:ZP}
def mkF{x:Str}{f:ZG}{pm cd:ZH}(l:(Hd.K Pm).lookup f=U (Hd.fo (PySem.W.fnOf x x (kW st) (gq st) (aY st) .none .none .none pm J cd .none)):=by kernel_rfl)(c:PySem.W.codeIn (Hd.K Pm) cd x=O:=by kernel_rfl)(k:PySem.W.keepIn (Hd.K Pm) (.ref f)=O:=by kernel_rfl):Fun (Hd.K Pm) x x st f (PySem.W.fnOf x x (kW st) (gq st) (aY st) .none .none .none pm J cd .none):=NZ l c k
noncomputable abbrev bls:List Str:=["all","any","bool","enumerate","int","isinstance","len","list","max","min","range","set","sorted","str","tuple"]
def noB(T:Txt Pm mg):∀x∈bls,mg x=J:=by
 simp only[GdN];exact⟨T.no,T.no,T.no,T.no,T.no,T.no,T.no,T.no,T.no,T.no,T.no,T.no,T.no,T.no,T.no,λ_ h=>nomatch h⟩
variable{P:ZQ}{w:World}{base:ZK}
abbrev Kn(P:ZQ)(w:World)(Pm:ZT)(mg:Str->Option ZH)(base:ZK)(tab:List En):Prop:=∀e∈tab,SK P w (Hd.K Pm) mg base e
def ad(T:Txt Pm mg)(h:Kn P w Pm mg base tab)(x:Str)(i fa:Nat)(fd:ZR)(k np:Nat)(ps lo:List Str)(sp:SpF)(B:Binds (Hd.K Pm) fd ps [])(fz:List Str:=[])(yy:Bool:=M)(F:Fun (Hd.K Pm) x x (top i) fa fd:=by exact mkF)(S:gL (ps++lo) ps (aY (top i)):=by exact LD)(zP:autoParam (ps.length=np) Za1._auto_1)(hs:autoParam (sp=bu (ps++lo).length np b) Za1._auto_1)
  (hc:(Jc 60 ⟨ps++lo,λx=>(aY (top i)).names.lookup x,SM tab k,bls,O,yy,fz⟩).B (gq (top i))=U b:=by kernel_rfl)(hm:PySem.W.nsIn (Hd.K Pm) mainGlobals x=U (U (.ref fa)):=by kernel_rfl):Kn P w Pm mg base (⟨x,k+1,np,sp⟩::tab):=GdN.mpr ⟨⟨fa,fd,ps,by subst hs;exact we F S zP (DR h) (noB T) hc,T.at hm,F.kp,B⟩,h⟩
def ad0{tab:List En}{x:Str}{fa k np:Nat}{fd:ZR}{ps:List Str}{sp:SpF}(h:Kn P w Pm mg base tab)(Zq:jr P w (Hd.K Pm) mg base CX0 k fa fd ps (spD (Hd.K Pm) np sp))(B:Binds (Hd.K Pm) fd ps [])(F:Fun (Hd.K Pm) x x st fa fd)(hm:mg x=U (.ref fa)):Kn P w Pm mg base (⟨x,k,np,sp⟩::tab):=GdN.mpr ⟨⟨fa,fd,ps,Zq,hm,F.kp,B⟩,h⟩
def jc:Fun (Hd.K Pm) "marks_by_target" "marks_by_target" iR 118 Hd.dg:=mkF
def dm:Binds (Hd.K Pm) Hd.dg ["world","givings"] []:=all2 λ_ _=>rfl
def iS:gL ["world","givings","found","giving","order"] ["world","givings"] (aY iR):=LD
def mW(T:Txt Pm mg):jr P w (Hd.K Pm) mg base CX0 1 118 Hd.dg ["world","givings"] (spD (Hd.K Pm) 2 cC):=by
 refine HK jc iS rfl λxj A outer s H E hr=> ?_;have sc:=iS;have hu:=Rw hr;refine qd 0 _ λv0=>qd 1 _ λv1=>qd 3 _ λv3=>qd 4 _ λv4=>La 2 "found" λl2=> ?_;exact(FK (i:=2) sc.nd rfl l2 (by first|exact Or.inl rfl|exact Or.inr (Or.inl rfl)|exact Or.inr (Or.inr rfl)) (Pr (i:=2) (j:=3) PassesOwn.never rfl (v1 _) sc.nd rfl (by first|exact Or.inl rfl|exact Or.inr rfl) (by decide) (IM (Pp (i:=2) (j:=4) sc.nd rfl (by first|exact Or.inl rfl|exact Or.inr rfl) (by decide) (ph (ph (v0 _) mq) (ph (v3 _) mq)))
 (LC (Pq (i:=2) hu rfl (by first|exact Or.inl rfl|exact Or.inr (Or.inl rfl)|exact Or.inr (Or.inr rfl)) (BE (cL (ph (v4 _) mq) (cL (ph (v4 _) mq) gF))) (BE (cL (ph (v3 _) mq) (cL (ph (v3 _) mq) gF))))))))
def jd:Fun (Hd.K Pm) "_law_alike" "_law_alike" o7 356 Hd.iW:=mkF
def bZ:Binds (Hd.K Pm) Hd.iW ["_law_found","_law_due_here"] []:=all2 λ_ _=>rfl
def o8:gL ["_law_found","_law_due_here"] ["_law_found","_law_due_here"] (aY o7):=LD
theorem mi(T:Txt Pm mg):∀n,jr P w (Hd.K Pm) mg base CX0 (n+1) 356 Hd.iW ["_law_found","_law_due_here"] (spD (Hd.K Pm) 2 (aB n))
 |0=>HK jd o8 rfl λxj A outer s H E hr=>FD
 |n+1=>we (fns:=λy=>if y==("_law_alike":Str) then U (2,aB n) else J) (yy:=M) (fz:=[]) jd o8 rfl (λy np sp h=>by
   split at h
   .rename_i q;cases h;have q:=Gbv.mp q;subst q;exact⟨_,_,_,_,mi T n,Gan _,T.at,jd.kp,bZ⟩
   .cases h) (noB T) (by kernel_rfl)
def Qu(T:Txt Pm mg):jr P w (Hd.K Pm) mg base CX0 8 363 Hd.MP ["_law_script"] (spD (Hd.K Pm) 1 uN):=by
 have h:Kn P w Pm mg base []:=λ_ h=>nomatch h;have h:=ad T h "laid_in" 1 21 Hd.u6 0 2 ["rows","row"] [] l9 (all2 λ_ _=>rfl) [] O;have h:=ad T h "with_giving" 2 28 Hd.lI 1 4 ["book","order","hour","amount"] [] d7 (tQ λ_ _ _ _=>rfl);have h:=ad T h "givings_of" 3 33 Hd.n5 0 2 ["book","order"] [] gO (all2 λ_ _=>rfl);have h:=ad T h "rounded" 5 40 Hd.u7 0 4 ["top","bottom","part","way"] ["step","many","rest"] jH (tQ λ_ _ _ _=>rfl);have h:=ad T h "dose" 7 47 Hd.Hq 1 5 ["rule","weight","num","den","part"] ["way","top","per","most","found"] rT (GF λ_ _ _ _ _=>rfl);have h:=ad T h "span" 9 54 Hd.Hr 0 2 ["order","k"] ["dues","hour"] wg (all2 λ_ _=>rfl);have h:=ad T h "due_of" 10 61 Hd.wW 0 2 ["order","hour"] ["dues","behind","k"] iz (all2 λ_ _=>rfl);have h:=ad T h "astray" 11 68 Hd.wX 1 2 ["order","hour"] ["dues"] kD (all2 λ_ _=>rfl);have h:=ad T h "state" 12 73 Hd.CU 1 4 ["order","hours","k","hour"] ["ends"] qk (tQ λ_ _ _ _=>rfl);have h:=ad T h "taper_of" 13 80 Hd.qx 0 2 ["order","k"] ["found","taper"] jU (all2 λ_ _=>rfl);have h:=ad T h "bound" 15 87 Hd.CV 0 2 ["cap","weight"] [] j5 (all2 λ_ _=>rfl);have h:=ad T h "weight_at" 17 94 Hd.oW 0 3 ["weights","guest","hour"] ["found","row"] dA (tP λ_ _ _=>rfl);have h:=ad T h "sums" 19 101 Hd.Hs 0 2 ["marks","hours"] ["rows","found","total","gone","k","row"] jV (all2 λ_ _=>rfl);have h:=ad T h "goes_by_weight" 21 106 Hd.ju 0 1 ["stuff"] [] dR (all1 λ_=>rfl);have h:=ad T h "lone_faults" 22 111 Hd.lJ 2 3 ["world","weights","giving"] ["number","hour","amount","order","stuff","kinds"] dZ (tP λ_ _ _=>rfl);have h:=ad0 h (mW T) dm jc T.at;have h:=ad T h "cap_faults" 24 125 Hd.n6 1 3 ["world","weights","givings"] ["found","target","marks","guest","k","cap","hours","row","top"] fO (tP λ_ _ _=>rfl);have h:=ad T h "gaps_by_stuffs" 25 132 Hd.jv 0 1 ["bars"] ["gaps","bar"] dS (all1 λ_=>rfl);have h:=ad T h "gap_between" 26 139 Hd.lL 0 3 ["gaps","order","other"] [] gy (tP λ_ _ _=>rfl);have h:=ad T h "gap_faults" 27 144 Hd.n8 1 2 ["world","givings"] ["gaps","widest","rows","found","k","row","later","apart"] fP (all2 λ_ _=>rfl);have h:=ad T h "twice_faults" 28 149 Hd.ko 1 2 ["world","givings"] ["counts","giving","k"] dB (all2 λ_ _=>rfl);have h:=ad T h "faults" 29 156 Hd.wY 3 2 ["world","book"] ["weights","givings","found","giving"] jJ (all2 λ_ _=>rfl);have h:=ad T h "due_numbers" 31 163 Hd.lM 0 1 ["order"] ["dues"] d8 (all1 λ_=>rfl);have h:=ad T h "giving_hours" 32 168 Hd.kq 1 2 ["book","number"] [] dC (all2 λ_ _=>rfl);have h:=ad T h "dues_in" 33 175 Hd.u9 2 4 ["world","book","hour","wanted"] ["found","number","order","hours","k"] oG (tQ λ_ _ _ _=>rfl);have h:=ad T h "open_dues" 34 182 Hd.oX 3 3 ["world","book","hour"] [] fG (tP λ_ _ _=>rfl);have h:=ad T h "dose_at" 35 189 Hd.ua 2 5 ["world","book","number","k","hour"] ["order","rule","weight","taper"] gW (GF λ_ _ _ _ _=>rfl);have h:=ad T h "round_at" 36 196 Hd.qy 4 3 ["world","book","hour"] ["takes","helds","taken","due","number","k","amount","tried","found"] iB (tP λ_ _ _=>rfl) ["takes","helds","found"] M;have h:=ad T h "_law_mixed" 38 203 Hd.oY 0 2 ["_law_script","_law_k"] ["_law_cell","_law_v"] ae (all2 λ_ _=>rfl);have h:=ad T h "_law_far" 39 210 Hd.ub 1 1 ["_law_script"] [] da (all1 λ_=>rfl);have h:=ad T h "_law_cap" 40 217 Hd.uc 1 4 ["_law_script","_law_k","_law_part","_law_far_here"] ["_law_hours","_law_kind"] gX (tQ λ_ _ _ _=>rfl);have h:=ad T h "_law_stuff" 41 224 Hd.oZ 2 4 ["_law_script","_law_k","_law_name","_law_far_here"] ["_law_part","_law_sizes","_law_j","_law_caps_here","_law_young"] j6 (tQ λ_ _ _ _=>rfl);have h:=ad T h "_law_dues" 42 231 Hd.qz 1 3 ["_law_script","_law_k","_law_far_here"] ["_law_every","_law_early","_law_late","_law_begin"] iD (tP λ_ _ _=>rfl);have h:=ad T h "_law_order" 43 238 Hd.p8 2 6 ["_law_script","_law_k","_law_name","_law_guests","_law_stuffs","_law_far_here"] ["_law_stuff_here","_law_part","_law_most_here","_law_per","_law_top","_law_rule","_law_dues_here","_law_tapers","_law_at","_law_j","_law_den"] j7 (V1 λ_ _ _ _ _ _=>rfl);have h:=ad T h "_law_world" 44 245 Hd.pb 3 1 ["_law_script"] ["_law_far_here","_law_names","_law_guests","_law_k","_law_stuffs","_law_bars","_law_x","_law_y","_law_gap","_law_orders"] j8 (all1 λ_=>rfl);have h:=ad T h "_law_hour" 45 252 Hd.qA 1 4 ["_law_script","_law_k","_law_order_here","_law_far_here"] ["_law_dues_here","_law_by","_law_hour_here"] dI (tQ λ_ _ _ _=>rfl);have h:=ad T h "_law_spots" 46 257 Hd.pe 0 1 ["_law_rows"] [] dJ (all1 λ_=>rfl);have h:=ad T h "_law_weight" 47 264 Hd.n9 0 3 ["_law_weights","_law_guest","_law_hour_here"] ["_law_found","_law_weighing"] cT (tP λ_ _ _=>rfl);have h:=ad T h "_law_due" 48 271 Hd.ud 0 2 ["_law_order_here","_law_hour_here"] ["_law_k","_law_at"] jK (all2 λ_ _=>rfl);have h:=ad T h "_law_most" 49 278 Hd.qB 0 2 ["_law_cap_here","_law_weight_here"] [] dK (all2 λ_ _=>rfl);have h:=ad T h "_law_caps" 50 285 Hd.qC 1 5 ["_law_world_here","_law_book_here","_law_guest","_law_stuff_here","_law_hour_here"] ["_law_found","_law_k","_law_cap_here","_law_total","_law_order_here","_law_at","_law_amount","_law_most_here"] iF (GF λ_ _ _ _ _=>rfl);have h:=ad T h "_law_near" 51 292 Hd.qD 0 4 ["_law_world_here","_law_book_here","_law_order_here","_law_hour_here"] ["_law_found","_law_one","_law_other","_law_later","_law_told","_law_pair","_law_bar"] iG (tQ λ_ _ _ _=>rfl);have h:=ad T h "_law_own" 52 297 Hd.ue 1 5 ["_law_world_here","_law_book_here","_law_order_here","_law_hour_here","_law_amount"] ["_law_told","_law_stuff_here","_law_k","_law_found","_law_same"] lj (GF λ_ _ _ _ _=>rfl);have h:=ad T h "_law_faults" 53 304 Hd.nh 2 2 ["_law_world_here","_law_book_here"] ["_law_found","_law_order_here","_law_hour_here","_law_amount"] bA (all2 λ_ _=>rfl);have h:=ad T h "_law_with" 54 311 Hd.qE 0 4 ["_law_book_here","_law_order_here","_law_hour_here","_law_amount"] [] cg (tQ λ_ _ _ _=>rfl) [] O;have h:=ad T h "_law_book" 55 318 Hd.qF 3 3 ["_law_script","_law_world_here","_law_many_here"] ["_law_far_here","_law_book_here","_law_j","_law_at","_law_order_here","_law_told","_law_hour_here","_law_part","_law_amount","_law_other","_law_weighing"] mN (tP λ_ _ _=>rfl) [] O;have h:=ad T h "_law_many" 56 325 Hd.qG 0 1 ["_law_order_here"] [] g8 (all1 λ_=>rfl);have h:=ad T h "_law_dues_that" 57 330 Hd.k7 1 4 ["_law_world_here","_law_book_here","_law_hour_here","_law_wanted"] ["_law_found","_law_order_here","_law_dues_here","_law_hours","_law_k","_law_at","_law_word"] cZ (tQ λ_ _ _ _=>rfl);have h:=ad T h "_law_dose" 58 337 Hd.qH 0 5 ["_law_rule","_law_weight_here","_law_num","_law_den","_law_part"] ["_law_top","_law_bottom","_law_found","_law_rest"] iH (GF λ_ _ _ _ _=>rfl);have h:=ad T h "_law_planned" 59 344 Hd.lN 1 5 ["_law_world_here","_law_book_here","_law_order_here","_law_k","_law_hour_here"] ["_law_told","_law_weight_here","_law_taper","_law_each"] cH (GF λ_ _ _ _ _=>rfl);have h:=ad T h "_law_round" 60 351 Hd.pf 3 3 ["_law_world_here","_law_book_here","_law_hour_here"] ["_law_takes","_law_helds","_law_at","_law_order_here","_law_k","_law_amount","_law_broken"] gE (tP λ_ _ _=>rfl) ["_law_takes","_law_helds","_law_broken"] M;have h:=ad0 h (show jr _ _ _ _ _ _ _ _ _ _ (spD _ _ j9) from mi T 6) bZ jd T.at;exact we (yy:=M) (fz:=[]) (N:=["_law_script","_law_world_here","_law_book_here","_law_j","_law_order_here","_law_hour_here"]) mkF LD rfl (DR h) (noB T) (by kernel_rfl)
end
def all_mk{l:PySem.W.OpenLaw}{w:World}{h:ZK}(X:(Hd.K w.params).In h)(G:h.Ns mainGlobals mg)(YS:mg "law"=U (.ref fa)):
  ∃fd,(∀s v,BindsTo s fd ⟨[v],[]⟩ [("_law_script",v)])/\∀base,(Hd.K w.params).In base->base.Ns mainGlobals mg->jr l.prog w (Hd.K w.params) mg base CX0 8 fa fd ["_law_script"] (spD (Hd.K w.params) 1 uN):=by
 have T:Txt w.params mg:=⟨h,X,G⟩
 have e:=YS.symm.trans (T.at:mg "law"=U (.ref 363));cases e;exact⟨_,λs v=> .of_eq rfl,λbase _ _=>Qu T⟩
def walk{l:PySem.W.OpenLaw}{YP:World->ZK->Prop}{d:DefRec}{K:ZT->PySem.W.Frag}(hn:l.most=U 63)(zW:d.params.defaults=[])
  (hY:∀w h,YP w h->(K w.params).In h)(zF:∀ns,ns.length<=63->uN [.scr ns]=U (.bl O))
  (F:∀w mg fa h,(K w.params).In h->h.Ns mainGlobals mg->mg d.name=U (.ref fa)->
   ∃fd,(∀s u,BindsTo s fd ⟨[u],[]⟩ [("_law_script",u)])/\∀base,(K w.params).In base->base.Ns mainGlobals mg->jr l.prog w (K w.params) mg base CX0 8 fa fd ["_law_script"] (spD (K w.params) 1 uN)):
  PySem.W.WalkO q loose XP YP l.row.toRowW d [] (λf vs=>PySem.call f vs):=
 L2.KG (n:=63) (k:=8) (x:="_law_script") (CX:=λ_=>CX0) (sp:=λw=>spD (K w.params) 1 uN) hn (by decide) zW ⟨rfl,by decide,by decide⟩ hY F (λ_ _ a ns hl hO hS=>OI hO hS (zF ns hl)) λ_ _ _ _ _ z=>z
end Der
open PySem PySem.W PyProof.Rows
theorem PySem.Challenge.cw_dosehouse_k62_a_round_holds : PySem.Challenge.rw_dosehouse_k62_a_round.Holds := by
 exact Hd.close λd h1 h2=>Der.walk (l:=PySem.Challenge.rw_dosehouse_k62_a_round) (K:=Hd.K) rfl h1 (λw h Y=>PySem.W.kIn_of Y) Maths.K7 λw mg fa h KX G zQ=>Der.all_mk KX G (h2▸zQ)
