import PyProof.Rows.All
import Wide.All
import OpenK.AllK
import Wide.FinOn
import PySem.Challenge.RW_dosehouse_k44_dues_given_twice
set_option Elab.async false
set_option linter.all false
set_option maxRecDepth 100000
set_option maxHeartbeats 1000000
def Gaa:=@PySem.wpAny_bind
def Gab:=@List.getElem?_eq_getElem
def Gac:=@List.getElem?_set_ne
def Gad:=@List.getElem?_eq_some_iff
def Gae:=@List.length_map
def Gaf:=@PySem.wpAny_pure
def Gag:=@if_neg
def Gah:=@if_pos
def Gai:=@PyProof.Rows.wpS_bind
def Gaj:=@List.mem_cons_of_mem
def Gak:=@PySem.Heap.get?_push_of_some
def Gal:=@Option.map_eq_some_iff
def Gam:=@List.size_toArray
def Gan:=@List.getElem?_map
def Gao:=@PyProof.Rows.wpS_pure
def Gap:=@List.mem_cons_self
def Gaq:=@Nat.le_refl
def Gar:=@List.map_cons
def Gas:=@Bool.and_eq_true
def Gat:=@List.all_eq_true
def Gau:=@Bool.false_ne_true
def Gav:=@List.length_append
def Gaw:=@of_decide_eq_true
def Gax:=@List.append_assoc
def Gay:=@List.mem_append
def Gaz:=@PySem.Heap.lt_size
def GaA:=@List.mem_cons
def GaB:=@Bool.false_eq_true
def GaC:=@List.getElem_mem
def GaD:=@PySem.Heap.get?_push_size
def GaE:=@decide_eq_false
def GaF:=@decide_eq_true
def GaG:=@List.mem_map
def GaH:=@List.length_cons
def GaI:=@PySem.PassesOwn.never
def GaJ:=@List.map_append
def GaK:=@Int.eq_ofNat_of_zero_le
def GaL:=@List.mem_of_getElem?
def GaM:=@List.getElem?_append_right
def GaN:=@List.getElem?_set_self
def GaO:=@List.map_congr_left
def GaP:=@Nat.ne_of_lt
def GaQ:=@Int.toNat_natCast
def GaR:=@Nat.lt_of_lt_of_le
def GaS:=@List.map_map
def GaT:=@List.getElem?_append_left
def GaU:=@List.getElem?_take_of_lt
def GaV:=@if_false
def GaW:=@List.set_cons_succ
def GaX:=@List.set_cons_zero
def GaY:=@Ne.symm
def GaZ:=@PySem.Heap.get?_update_other
def Gba:=@List.mem_append_right
def Gbb:=@List.append_nil
def Gbc:=@List.take_append_drop
def Gbd:=@Bool.or_eq_true
def Gbe:=@List.lookup_cons
def Gbf:=@PySem.wpAny_newObj_type
def Gbg:=@PyProof.Rows.wpS_forRange
def Gbh:=@List.getElem?_drop
def Gbi:=@List.mem_range
def Gbj:=@if_true
def Gbk:=@List.filter_cons
def Gbl:=@List.mem_of_mem_take
def Gbm:=@List.Perm.append_right
def Gbn:=@List.getElem?_eq_none
def Gbo:=@List.perm_append_comm
def Gbp:=@List.mem_filter
def Gbq:=@PySem.W.kia_one
def Gbr:=@PyProof.Rows.wpS_mono
def Gbs:=@List.mem_of_mem_drop
def Gbt:=@Nat.le_trans
def Gbu:=@PySem.wpAny_field
def Gbv:=@List.take_of_length_le
def Gbw:=@List.find?_cons
def Gbx:=@List.drop_eq_getElem_cons
def Gby:=@Array.getElem?_eq_getElem
def Gbz:=@PySem.F.slot_dict_itemiterator_next
def GbA:=@PySem.wpAny_call_entry
def GbB:=@List.all_map
def GbC:=@List.all_cons
def GbD:=@List.drop_zero
def GbE:=@PySem.wpAny_callSpecial?_slot
def GbF:=@PySem.wpAny_truthy_bool
def GbG:=@PySem.sizeLine_eq
def GbH:=@Nat.zero_le
def GbI:=@Int.le_refl
def GbJ:=@Nat.lt_irrefl
def GbK:=@PySem.wpAny_mono
def GbL:=@PyProof.Rows.wpS_modify
def GbM:=@List.drop_length
def GbN:=@List.mem_reverse
def GbO:=@List.pairwise_cons
def GbP:=@PySem.wpAny_setField_rec
def GbQ:=@List.mem_iff_getElem?
def GbR:=@List.drop_drop
def GbS:=@List.Perm.append_left
def GbT:=@List.filter_append
def GbU:=@List.mem_append_left
def GbV:=@Nat.ne_of_gt
def GbW:=@List.length_nil
def GbX:=@PySem.wpAny_rule
def GbY:=@PySem.wpAny_typeNameOfWhole_itemiter
def GbZ:=@List.pairwise_map
def Gca:=@List.pairwise_singleton
def Gcb:=@Array.length_toList
def Gcc:=@PySem.Heap.SameBut.update
def Gce:=@Function.comp_apply
def Gcf:=@List.length_drop
def Gcg:=@List.getElem_map
def Gch:=@PySem.F.plain_max_loop
def Gci:=@PyProof.Rows.callWith_type1
def Gcj:=@List.mem_singleton
def Gck:=@Array.getD_eq_getD_getElem?
def Gcl:=@Nat.zero_add
def Gcm:=@PySem.wpAny_passesOwn
def Gcn:=@List.nodup_cons
def Gco:=@PySem.Heap.get?_update_self
def Gcp:=@List.foldl_cons
def Gcq:=@List.length_filter_le
def Gcr:=@PySem.wpAny_holding
def Gcs:=@PySem.F.slot_tuple_iterator_next
def Gct:=@List.pairwise_iff_getElem
def Gcu:=@PySem.wpAny_typeNameOf_itemiter
def Gcv:=@List.map_id
def Gcw:=@List.take_take
def Gcx:=@Array.toList_inj
def Gcy:=@List.not_mem_nil
def Gcz:=@PyProof.Rows.slot_tuple_getitem
def GcA:=@List.getElem?_replicate
def GcB:=@PySem.F.plainAttrs_list
def GcC:=@PySem.Calls.spliced_cons
def GcD:=@PySem.AutoSeq1.wpAny_loadPart'
def GcE:=@Nat.min_eq_left
def GcF:=@PySem.Calls.callWith_builtin
def GcG:=@Option.some.injEq
def GcH:=@Bool.and_false
def GcI:=@PyProof.Rows.wpS_get
def GcJ:=@List.drop_take
def GcK:=@List.length_take
def GcL:=@beq_iff_eq
def GcM:=@List.mem_flatMap
def GcN:=@List.length_set
def GcO:=@Option.map_some
def GcP:=@PySem.codeAny_builtin
def GcQ:=@PySem.wpAny_Call_Name_kw
def GcR:=@PySem.tupleKind_room_in1
def GcS:=@Nat.lt_of_le_of_lt
def GcT:=@PySem.wpAny_pyIter_tuple
def GcU:=@PySem.wpAny_comprehension_free
def GcV:=@PySem.wpAny_seqItems
def GcW:=@PySem.wpAny_tryCatch
def GcX:=@PySem.F.slot_dict_itemiterator_iter
def GcY:=@Int.mul_nonneg
def GcZ:=@PySem.F.plainAttrs_dict
def Gda:=@List.getElem?_cons_succ
def Gdb:=@List.ext_getElem?
def Gdc:=@Nat.lt_succ_of_lt
def Gdd:=@PySem.wpAny_pyIter_enum
def Gde:=@PySem.wpAny_dictEntries
def Gdf:=@PySem.atKey_none_of_get
def Gdg:=@List.nodup_append
def Gdh:=@List.flatMap_cons
def Gdi:=@Nat.le_succ
def Gdj:=@PySem.wpAny_isOneOf_itemiter
def Gdk:=@List.pairwise_lt_range
def Gdl:=@List.findIdx?_eq_some_iff_getElem
def Gdm:=@List.any_cons
def Gdn:=@List.Perm.map
def Gdo:=@Bool.not_true
def Gdp:=@List.take_succ_eq_append_getElem
def Gdq:=@List.length_replicate
def Gdr:=@PySem.F.slot_dict_get
def Gds:=@Nat.le_of_lt
def Gdt:=@PySem.wpAny_execs_nil
def Gdu:=@PySem.Calls.evalArgs_plain
def Gdv:=@List.map_nil
def Gdw:=@PySem.Around.under_plainId
def Gdx:=@List.filterMap_cons
def Gdy:=@List.getElem_of_mem
def Gdz:=@PySem.Heap.size_push
def GdA:=@Nat.eq_or_lt_of_le
def GdB:=@Int.emod_lt_of_pos
def GdC:=@List.map_drop
def GdD:=@Nat.add_assoc
def GdE:=@List.any_eq_false
def GdF:=@List.getElem?_set
def GdG:=@Array.toList_push
def GdH:=@List.findIdx?_map
def GdI:=@Nat.min_self
def GdJ:=@Nat.succ_mul
namespace L2
open PySem PySem.Spec PyProof.Rows
noncomputable abbrev Key:=Sum Int Str
noncomputable def sE:Key→Value→Bool
 | .inl k,v=>Value.isInt k v
 | .inr x,v=>Value.isStrOf x v
noncomputable def MW(w:World):Key→Int
 | .inl k=>hashInt k
 | .inr x=>hashStr w x
theorem cM:∀{k:Key} {v:Value},sE k v=true→(∃i t,k=Sum.inl i∧v=Value.int i t)∨(∃x t,k=Sum.inr x∧v=Value.str x t)
 | .inl i,v,h=>by
  obtain⟨t,e⟩:=Value.isInt_shape (k:=i) (v:=v) h
  exact .inl ⟨i,t,rfl,e⟩
 | .inr x,v,h=>by
  obtain⟨t,e⟩:=Value.isStrOf_shape (x:=x) (v:=v) h
  exact .inr ⟨x,t,rfl,e⟩
theorem BP(i:Int)(t:Tok):sE (.inl i) (.int i t)=true:=by simp[sE,Value.isInt]
theorem BQ(x:Str)(t:Tok):sE (.inr x) (.str x t)=true:=by simp[sE,Value.isStrOf]
theorem Ij(a b:Int):decide ((Sum.inl a:Key)=Sum.inl b)=(a==b):=by
 by_cases e:a=b
 ·subst e;simp
 ·have h:¬(Sum.inl a:Key)=Sum.inl b:=λq=>e (Sum.inl.inj q)
  rw[GaE h]
  exact(beq_eq_false_iff_ne.mpr e).symm
theorem Ik(a b:Str):decide ((Sum.inr a:Key)=Sum.inr b)=decide (a=b):=by
 by_cases e:a=b
 ·subst e;simp
 ·have h:¬(Sum.inr a:Key)=Sum.inr b:=λq=>e (Sum.inr.inj q)
  rw[GaE h,GaE e]
theorem Il(a:Int)(b:Str):decide ((Sum.inl a:Key)=Sum.inr b)=false:=GaE (λq=>nomatch q)
theorem Im(a:Str)(b:Int):decide ((Sum.inr a:Key)=Sum.inl b)=false:=GaE (λq=>nomatch q)
noncomputable def cD(prog:Program)(w:World):PySem.KeyKind prog w Key where
 is:=sE
 hash:=MW w
 inj:=λv a b ha hb=>by
  rcases cM ha with⟨i,t,rfl,rfl⟩| ⟨x,t,rfl,rfl⟩
  ·rcases cM hb with⟨j,u,rfl,e⟩| ⟨y,u,rfl,e⟩
   ·injection e with e1 _;rw[e1]
   ·exact nomatch e
  ·rcases cM hb with⟨j,u,rfl,e⟩| ⟨y,u,rfl,e⟩
   ·exact nomatch e
   ·injection e with e1 _;rw[e1]
 byValue:=λk v h=>by
  rcases cM h with⟨i,t,rfl,rfl⟩| ⟨x,t,rfl,rfl⟩<;>rfl
 pyHash:=λhv h=>by
  rcases cM hv with⟨i,t,rfl,rfl⟩| ⟨x,t,rfl,rfl⟩
  ·exact wpAny_pyHash_int h
  ·exact wpAny_pyHash_str h
 eqBool:=λhu hv h=>by
  rcases cM hu with⟨i,t,rfl,rfl⟩| ⟨x,t,rfl,rfl⟩
  ·rcases cM hv with⟨j,u,rfl,rfl⟩| ⟨y,u,rfl,rfl⟩
   ·rw[Ij] at h;exact wpAny_eqBool_int h
   ·rw[Il] at h;exact SeqAt.EqAt.int_str i t y u _ _ _ _ h
  ·rcases cM hv with⟨j,u,rfl,rfl⟩| ⟨y,u,rfl,rfl⟩
   ·rw[Im] at h;exact SeqAt.EqAt.str_int x t j u _ _ _ _ h
   ·rw[Ik] at h;exact wpAny_eqBool_str h
 «strs» :=λk x t v h=>by
  rcases cM h with⟨i,u,rfl,e⟩| ⟨y,u,rfl,e⟩
  ·exact nomatch e
  ·injection e with e1 _
   subst e1
   cases v<;>rfl
theorem uM(prog:Program)(w:World)(i:Int)(t:Tok):(cD prog w).is (.inl i) (.int i t)=true:=BP i t
theorem uN(prog:Program)(w:World)(x:Str)(t:Tok):(cD prog w).is (.inr x) (.str x t)=true:=BQ x t
inductive V where
 |non|bl (b:Bool)|int (i:Int)|str (x:Str)|byt (b:Array UInt8)|flt (b:UInt64)|ref (a:Addr)|ty (n:String)
 deriving DecidableEq
noncomputable def RelV:V→Value→Prop
 | .non,u=>u=Value.none
 | .bl b,u=>u=Value.bool b
 | .int i,u=>∃t,u=Value.int i t
 | .str x,u=>∃t,u=Value.str x t
 | .byt b,u=>∃t,u=Value.bytes b t
 | .flt b,u=>∃t,u=Value.float b t
 | .ref a,u=>u=Value.ref a
 | .ty n,u=>u=Value.type n
noncomputable abbrev Vals:List V→List Value→Prop:=Paired RelV
theorem Vals.length{xs:List V}{us:List Value}(r:Vals xs us):xs.length=us.length:=Paired.length r
theorem Vals.get:∀{xs:List V} {us:List Value} {i:Nat} {x:V},Vals xs us→xs[i]? =some x→∃u,us[i]? =some u∧RelV x u
 |_,_,_,_,.nil,e=>by simp at e
 |_,_,0,_,.cons r _,e=>by simp at e;subst e;exact⟨_,rfl,r⟩
 |_,_,i+1,x,.cons _ t,e=>by
  obtain⟨u,h1,h2⟩:=Vals.get (i:=i) (x:=x) t (by simpa using e)
  exact⟨u,by simpa using h1,h2⟩
theorem Vals.set{x:V}{u:Value}(r:RelV x u):∀{xs:List V} {us:List Value} (i:Nat),Vals xs us→Vals (xs.set i x) (us.set i u)
 |_,_,_,.nil=> .nil
 |_,_,0,.cons _ t=> .cons r t
 |_,_,i+1,.cons q t=> .cons q (Vals.set r i t)
theorem Vals.append:∀{xs ys:List V} {us ws:List Value},Vals xs us→Vals ys ws→Vals (xs++ys) (us++ws)
 |_,_,_,_,.nil,s=>s
 |_,_,_,_,.cons r t,s=> .cons r (Vals.append t s)
theorem Vals.take:∀{xs:List V} {us:List Value} (n:Nat),Vals xs us→Vals (xs.take n) (us.take n)
 |_,_,0,_=> .nil
 |_,_,_+1,.nil=> .nil
 |_,_,n+1,.cons r t=> .cons r (Vals.take n t)
theorem Vals.drop:∀{xs:List V} {us:List Value} (n:Nat),Vals xs us→Vals (xs.drop n) (us.drop n)
 |_,_,0,r=>r
 |_,_,_+1,.nil=> .nil
 |_,_,n+1,.cons _ t=>Vals.drop n t
noncomputable def oA:Option V→Option Value→Prop
 |some v,some u=>RelV v u
 |none,none=>True
 |_,_=>False
noncomputable def KV{κ:Type}:List (κ×V)→List (κ×Value)→Prop:=Paired λ(p:κ×V) (q:κ×Value)=>p.1=q.1∧RelV p.2 q.2
noncomputable def kV:Key→V
 | .inl i=> .int i
 | .inr x=> .str x
inductive HO where
 |lst (xs:List V)
 |tup (xs:List V)
 |dK (kvs:List (Key×V))|dT (kvs:List (List Key×V))
 |set (S:Int→Bool) (n:Nat)
 |ins (C dx:Addr) (fs:List (Str×V))
 |own (x:Addr)
 |xd (fs:List (Str×V))
 |met (f x:Addr)
 |rng (lo hi:Int)
 |frz (o:Obj) (u:HO)
 |tbl (ps:Array Value)
 |ext (φ:Heap→Prop)
noncomputable abbrev Hp:=Addr→Option HO
noncomputable def upd(H:Hp)(a:Addr)(o:HO):Hp:=λb=>if b=a then some o else H b
theorem aK{H:Hp}{a:Addr}{o:HO}:upd H a o a=some o:=by unfold upd;rw[Gah rfl]
theorem ax{H:Hp}{a b:Addr}{o:HO}(h:b≠a):upd H a o b=H b:=by unfold upd;rw[Gag h]
theorem AQ{H:Hp}{a b:Addr}{o u:HO}(h:H a=some o)(h' :H b=some u)(d:o≠u):a≠b:=by
 intro e;subst e;rw[h] at h';exact d (Option.some.inj h')
theorem dR{H:Hp}{a b:Addr}{o:HO}(h:H a=some o)(h' :H b=none):a≠b:=by
 intro e;subst e;rw[h] at h';cases h'
section
variable(P:Program)(w:World)
noncomputable def cz(H:Hp)(h:Heap)(a:Addr):HO→Prop
 | .lst xs=>xs.length≤sizeLine∧∃(its:List Value) (n:Nat),Vals xs its∧h.get? a=some {cls:= .type "list",data:= .seq its.toArray n}
 | .tup xs=>xs.length≤sizeLine∧∃its:List Value,Vals xs its∧IsTup h a its.toArray
 | .dK kvs=>kvs.length≤sizeLine∧(a==sysModules)=false∧∃vs,KV kvs vs∧h.DictOf (cD P w) a vs
 | .dT kvs=>kvs.length≤sizeLine∧(a==sysModules)=false∧∃xs:List (List Key×Addr×Value),
   Paired (λ(p:List Key×V) (q:List Key×Addr×Value)=>p.1=q.1∧H q.2.1=some (.tup (p.1.map kV))∧RelV p.2 q.2.2) kvs xs∧
   ∃o es ep,h.get? a=some o∧o.ExactDict∧o.data= .dict es ep∧es.toList=xs.map (entryOfKey (tupleKind (cD P w)))∧(xs.map (·.1)).Nodup
 | .set S n=>h.SetOf (intKind P w) a S n
 | .ins C dx fs=>H dx=some (.own a)∧fs.length≤1000∧dx≠a∧h.get? a=some (PySem.W.instObj C dx)∧
   ∃mA,h.Ns1 dx mA∧(∀f,oA (fs.lookup f) (mA f))∧PySem.Within mA (fs.map (·.1))
 | .own _=>∃o,h.get? a=some o
 | .xd fs=>∃mA,h.Ns1 a mA∧∀f,oA (fs.lookup f) (mA f)
 | .rng lo hi=>∃t u v,h.get? a=some {cls:= .type "range",data:= .fields #[.int lo t,.int hi u,.int 1 v]}
 | .frz o u=>h.get? a=some o∧cz H h a u
 | .tbl ps=>h.get? a=some {cls:= .none,data:= .fields ps}
 | .met f x=>h.get? a=some (PySem.W.methodObj (.ref f) (.ref x))
 | .ext φ=>φ h∧(∃o,h.get? a=some o)∧∀h1 h2:Heap,φ h1→(∀o,h1.get? a=some o→h2.get? a=some o)→φ h2
noncomputable def HOk(H:Hp)(h:Heap):Prop:=∀a o,H a=some o→cz P w H h a o
end
section
variable{P:Program}{w:World}{H H' :Hp}{h h' :Heap}{a:Addr}{o:HO}
theorem cz.lt(x:cz P w H h a o):a<h.objs.size:=by
 cases o with
 |lst xs=>obtain⟨_,_,_,_,e⟩:=x;exact Gaz e
 |tup xs=>obtain⟨_,_,_,p⟩:=x;exact p.lt
 |dK kvs=>obtain⟨_,_,_,_,o,_,_,e,_⟩:=x;exact Gaz e
 |dT kvs=>obtain⟨_,_,_,_,o,_,_,e,_⟩:=x;exact Gaz e
 |set S n=>obtain⟨o,_,_,_,e,_⟩:=x;exact Gaz e
 |ins C dx fs=>obtain⟨_,_,_,e,_⟩:=x;exact Gaz e
 |own y=>obtain⟨_,e⟩:=x;exact Gaz e
 |xd fs=>obtain⟨_,⟨_,_,_,e,_⟩,_⟩:=x;exact Gaz e
 |rng lo hi=>obtain⟨_,_,_,e⟩:=x;exact Gaz e
 |frz ob u=>obtain⟨e,_⟩:=x;exact Gaz e
 |tbl ps=>exact Gaz (show h.get? a=some _ from x)
 |met f y=>exact Gaz (show h.get? a=some _ from x)
 |ext φ=>obtain⟨_,⟨_,e⟩,_⟩:=x;exact Gaz e
theorem Paired.Io{α β:Type}{F G:α→β→Prop}:∀{l₁:List α} {l₂:List β},Paired F l₁ l₂→(∀a b,F a b→G a b)→Paired G l₁ l₂
 |_,_,.nil,_=> .nil
 |_,_,.cons r t,f=> .cons (f _ _ r) (Paired.Io t f)
theorem cz.dP(x:cz P w H h a o)(k:∀b u,(b=a∨H b=some (.own a))→h.get? b=some u→h'.get? b=some u)
  (ho:∀b,H b=some (.own a)→H' b=some (.own a))(ht:∀b xs,H b=some (.tup xs)→H' b=some (.tup xs)):cz P w H' h' a o:=by
 induction o with
 |lst xs=>obtain⟨z,its,n,r,e⟩:=x;exact⟨z,its,n,r,k _ _ (.inl rfl) e⟩
 |tup xs=>obtain⟨z,its,r,ob,e,c⟩:=x;exact⟨z,its,r,ob,k _ _ (.inl rfl) e,c⟩
 |dK kvs=>obtain⟨z,y,vs,r,ob,es,ep,e,c⟩:=x;exact⟨z,y,vs,r,ob,es,ep,k _ _ (.inl rfl) e,c⟩
 |dT kvs=>
  obtain⟨z,y,xs,r,ob,es,ep,e,c⟩:=x
  exact⟨z,y,xs,Paired.Io r λp q z=> ⟨z.1,ht _ _ z.2.1,z.2.2⟩,ob,es,ep,k _ _ (.inl rfl) e,c⟩
 |set S n=>obtain⟨ob,es,ep,t,e,c⟩:=x;exact⟨ob,es,ep,t,k _ _ (.inl rfl) e,c⟩
 |ins C dx fs=>
  obtain⟨d,z,ne,e,mA,⟨od,es,ep,e2,c⟩,r⟩:=x
  exact⟨ho _ d,z,ne,k _ _ (.inl rfl) e,mA,⟨od,es,ep,k _ _ (.inr d) e2,c⟩,r⟩
 |own y=>obtain⟨ob,e⟩:=x;exact⟨ob,k _ _ (.inl rfl) e⟩
 |xd fs=>obtain⟨mA,⟨od,es,ep,e,c⟩,r⟩:=x;exact⟨mA,⟨od,es,ep,k _ _ (.inl rfl) e,c⟩,r⟩
 |rng lo hi=>obtain⟨t,u,v,e⟩:=x;exact⟨t,u,v,k _ _ (.inl rfl) e⟩
 |frz ob u ih=>obtain⟨e,q⟩:=x;exact⟨k _ _ (.inl rfl) e,ih q⟩
 |tbl ps=>
  have e:h.get? a=some {cls:= .none,data:= .fields ps}:=x
  show h'.get? a=some {cls:= .none,data:= .fields ps}
  exact k a _ (.inl rfl) e
 |met f y=>
  have e:h.get? a=some (PySem.W.methodObj (.ref f) (.ref y)):=x
  show h'.get? a=some (PySem.W.methodObj (.ref f) (.ref y))
  exact k a _ (.inl rfl) e
 |ext φ=>obtain⟨p,⟨o,e⟩,st⟩:=x;exact⟨st _ _ p λo q=>k _ _ (.inl rfl) q,⟨o,k _ _ (.inl rfl) e⟩,st⟩
theorem HOk.lt(x:HOk P w H h)(e:H a=some o):a<h.objs.size:=(x a o e).lt
theorem HOk.fresh(x:HOk P w H h)(e:h.objs.size≤a):H a=none:=by
 cases q:H a with
 |none=>rfl
 |some u=>exact absurd (GaR (x.lt q) e) (GbJ _)
theorem HOk.kept(x:HOk P w H h)(k:∀b u,h.get? b=some u→h'.get? b=some u):HOk P w H h' :=λa o e=>
 (x a o e).dP (λb u _ q=>k b u q) (λ_ q=>q) λ_ _ q=>q
theorem HOk.laid(x:HOk P w H h)(k:∀b u,h.get? b=some u→h'.get? b=some u)(hp:h.objs.size≤a)(new:cz P w (upd H a o) h' a o):HOk P w (upd H a o) h' :=λb u e=>by
 have hn:=x.fresh hp
 by_cases hb:b=a
 ·subst hb;rw[aK] at e;cases e;exact new
 ·rw[ax hb] at e
  exact(x b u e).dP (λc v _ q=>k c v q) (λc q=>by rw[ax (dR q hn)];exact q) λc xs q=>by rw[ax (dR q hn)];exact q
end
noncomputable def Rd(H:Hp)(a:Addr)(u:HO):Prop:=H a=some u∨∃o,H a=some (.frz o u)
theorem Rd.of{H:Hp}{a:Addr}{u:HO}(h:H a=some u):Rd H a u:= .inl h
theorem Rd.ok{P:Program}{w:World}{H:Hp}{h:Heap}{a:Addr}{u:HO}(r:Rd H a u)(x:HOk P w H h):cz P w H h a u:=by
 rcases r with r| ⟨o,r⟩
 ·exact x a u r
 ·obtain⟨_,q⟩:=x a _ r
  exact q
noncomputable def Mut:Option HO→Prop
 |some (.lst _)=>True
 |some (.dK _)=>True
 |some (.dT _)=>True
 |some (.set _ _)=>True
 |some (.ins _ _ _)=>True
 |some (.ext _)=>True
 |_=>False
section
variable{P:Program}{w:World}{H:Hp}{h h' :Heap}{x e:Addr}{o' :HO}
theorem HOk.write(ok:HOk P w H h)(mu:Mut (H x))(he:e=x∨H e=some (.own x))(k:∀b u,b≠e→h.get? b=some u→h'.get? b=some u)(heo:∃u,h'.get? e=some u)
  (new:cz P w (upd H x o') h' x o'):HOk P w (upd H x o') h' :=λb u q=>by
 have nown:∀c y,H c=some (.own y)→c≠x:=λc y r z=>by subst z;rw[r] at mu;exact mu
 have ntup:∀c xs,H c=some (.tup xs)→c≠x:=λc xs r z=>by subst z;rw[r] at mu;exact mu
 by_cases hb:b=x
 ·subst hb;rw[aK] at q;cases q;exact new
 ·rw[ax hb] at q
  by_cases hbe:b=e
  ·have q' :H b=some (.own x):=by
    rcases he with z|z
    ·exact absurd (hbe.trans z) hb
    ·rw[hbe];exact z
   rw[q] at q';cases q'
   obtain⟨v,hv⟩:=heo
   exact⟨v,by rw[hbe];exact hv⟩
  ·refine(ok b u q).dP (λc v hc r=>k c v ?_ r) (λc r=>by rw[ax (nown c b r)];exact r) λc xs r=>by rw[ax (ntup c xs r)];exact r
   rcases hc with rfl|hc
   ·exact hbe
   ·rintro rfl
    rcases he with z|z
    ·exact nown c b hc z
    ·rw[hc] at z;cases z;exact hb rfl
end
structure Un(fs ex:List Addr)(H H' :Hp)(h h' :Heap):Prop where
 keep:∀b o,h.get? b=some o→H b=none→b∉fs→b∉ex→h'.get? b=some o
 slot:∀b o,h.get? b=some o→H b=none→b∈fs→b∉ex→∃sl,h'.get? b=some {o with slots:=sl}
 free:∀b o,h.get? b=some o→H b=none→b∉ex→H' b=none
 there:∀b o,h.get? b=some o→b∉ex→∃o',h'.get? b=some o'
 p9:∀b xs,H b=some (.tup xs)→H' b=some (.tup xs)
 nz:∀b o u,H b=some (.frz o u)→H' b=some (.frz o u)
 pb:∀b ps,H b=some (.tbl ps)→∃more,H' b=some (.tbl (ps++more))
section
variable{fs fs' ex ex' :List Addr}{H H1 H2:Hp}{h h1 h2 h' :Heap}{a x e:Addr}{o:HO}
theorem Un.any(u:Un fs ex H H1 h h1){b:Addr}{ob:Obj}(q:h.get? b=some ob)(n:H b=none)(hx:b∉ex):∃sl,h1.get? b=some {ob with slots:=sl}:=by
 by_cases hb:b∈fs
 ·exact u.slot b ob q n hb hx
 ·exact⟨ob.slots,u.keep b ob q n hb hx⟩
theorem Un.trans(a:Un fs ex H H1 h h1)(b:Un fs ex H1 H2 h1 h2):Un fs ex H H2 h h2 where
 keep:=λc ob q n hc hx=>b.keep c ob (a.keep c ob q n hc hx) (a.free c ob q n hx) hc hx
 slot:=λc ob q n hc hx=>by
  obtain⟨sl,e1⟩:=a.slot c ob q n hc hx
  obtain⟨sl',e2⟩:=b.slot c _ e1 (a.free c ob q n hx) hc hx
  exact⟨sl',e2⟩
 free:=λc ob q n hx=>by
  obtain⟨o',e1⟩:=a.there c ob q hx
  exact b.free c o' e1 (a.free c ob q n hx) hx
 there:=λc ob q hx=>by
  obtain⟨o',e1⟩:=a.there c ob q hx
  exact b.there c o' e1 hx
 p9:=λc xs q=>b.p9 c xs (a.p9 c xs q)
 nz:=λc ob xs q=>b.nz c ob xs (a.nz c ob xs q)
 pb:=λc ps q=>by
  obtain⟨m1,e1⟩:=a.pb c ps q
  obtain⟨m2,e2⟩:=b.pb c _ e1
  exact⟨m1++m2,by rw[e2,Array.append_assoc]⟩
theorem Un.kept(k:∀b u,h.get? b=some u→h'.get? b=some u):Un fs ex H H h h' :=
 ⟨λb ob q _ _ _=>k b ob q,λb ob q _ _ _=> ⟨ob.slots,k b ob q⟩,λ_ _ _ n _=>n,λb ob q _=> ⟨ob,k b ob q⟩,λ_ _ q=>q,λ_ _ _ q=>q,λ_ ps q=> ⟨#[],by rw[q];simp⟩⟩
theorem Un.refl:Un fs ex H H h h:=Un.kept λ_ _ q=>q
theorem Un.laid(k:∀b u,h.get? b=some u→h'.get? b=some u)(hp:h.objs.size≤a)(hn:H a=none):Un fs ex H (upd H a o) h h' where
 keep:=λb u q _ _ _=>k b u q
 slot:=λb u q _ _ _=> ⟨u.slots,k b u q⟩
 free:=λb u q n _=>by rw[ax (GaP (GaR (Gaz q) hp))];exact n
 there:=λb u q _=> ⟨u,k b u q⟩
 p9:=λb xs q=>by rw[ax (dR q hn)];exact q
 nz:=λb u xs q=>by rw[ax (dR q hn)];exact q
 pb:=λb ps q=> ⟨#[],by rw[ax (dR q hn),q];simp⟩
theorem Un.write(mu:Mut (H x))(he:e=x∨H e=some (.own x))(k:∀b u,b≠e→h.get? b=some u→h'.get? b=some u)(heo:∃u,h'.get? e=some u):Un fs ex H (upd H x o) h h' :=by
 have hx:∀b,H b=none→b≠x:=λb n z=>by subst z;rw[n] at mu;exact mu
 have hb:∀b,H b=none→b≠e:=λb n z=>by
  subst z
  rcases he with r|r
  ·exact hx b n r
  ·rw[n] at r;cases r
 have hm:∀b u,H b=some u→¬Mut (some u)→b≠x:=λb u q nm z=>by subst z;rw[q] at mu;exact nm mu
 refine⟨λb u q n _ _=>k b u (hb b n) q,λb u q n _ _=> ⟨u.slots,k b u (hb b n) q⟩,λb u q n _=>by rw[ax (hx b n)];exact n,λb u q _=> ?_,
  λb xs q=>by rw[ax (hm b _ q λz=>z)];exact q,λb u xs q=>by rw[ax (hm b _ q λz=>z)];exact q,λb ps q=> ⟨#[],by rw[ax (hm b _ q λz=>z),q];simp⟩⟩
 by_cases hbe:b=e
 ·subst hbe;exact heo
 ·exact⟨u,k b u hbe q⟩
theorem Un.mono(u:Un fs ex H H1 h h1)(hs:∀b∈fs,b∈fs')(hx:∀b∈ex,b∈ex'):Un fs' ex' H H1 h h1:=
 ⟨λb ob q n hb he=>u.keep b ob q n (λz=>hb (hs b z)) λz=>he (hx b z),λ_ _ q n _ he=>u.any q n λz=>he (hx _ z),λb ob q n he=>u.free b ob q n λz=>he (hx b z),λb ob q he=>u.there b ob q λz=>he (hx b z),u.p9,u.nz,u.pb⟩
end
noncomputable def trk(h:Heap)(H:Hp):List Addr:=(List.range h.objs.size).filter λa=>(H a).isSome
noncomputable def tV(h:Heap)(H:Hp):Heap:=PySem.W.hideAll h (trk h H)
theorem BR(h:Heap)(H:Hp):(tV h H).objs.size=h.objs.size:=PySem.W.hideAll_size _ _
theorem D9{h:Heap}{H:Hp}{b:Addr}{o:Obj}(e:h.get? b=some o)(n:H b=none):(tV h H).get? b=some o:=
 PySem.W.hideAll_get _ e λhm=>by
  have q:(H b).isSome=true:=(Gbp.mp hm).2
  rw[n] at q;simp at q
theorem FN{h:Heap}{H:Hp}{b:Addr}{o:Obj}(e:(tV h H).get? b=some o):h.get? b=some o∧H b=none:=by
 have e' :h.get? b=some o:=PySem.W.of_hideAll (trk h H) e
 refine⟨e', ?_⟩
 cases q:H b with
 |none=>rfl
 |some x=>
  have hm:b∈trk h H:=Gbp.mpr ⟨Gbi.mpr (Gaz e'),by simp[q]⟩
  have z:(tV h H).get? b=none:=PySem.W.hideAll_none (trk h H) hm
  rw[z] at e;cases e
noncomputable def FO(g h:Heap)(L:Addr):List (Addr×Obj):=(List.range h.objs.size).filterMap λa=>if a=L∨(g.get? a).isSome=true then none else(h.get? a).map λo=>(a,o)
noncomputable def rest(g h:Heap)(L d:Addr):List (Addr×Obj):=(FO g h L).filter λp=>decide (p.1≠d)
structure Mod(K:PySem.W.Frag)(mg:Str→Option Value)(base:Heap):Prop where
 kin:K.In base
 glob:base.Ns mainGlobals mg
 blt:∃mb,base.Ns builtinsNs mb∧∀x:Str,x≠"__name__"→mb x=bootBuiltins x
 nolimit:base.NoLimit
structure Cx where
 prog:Program
 w:World
 K:PySem.W.Frag
 mg:Str→Option Value
 base:Heap
 A:Around
 N:List Str
 s₀:Shared
 H₀:Hp
 env:Env
 outer:List Env
 stack:List Env
 ex:List Addr
 fn:Str→Bool
 calm:Bool
 pn:List (Addr×Obj)
 xe:Value→Shared→Prop
noncomputable def frs(l:List Env):List Addr:=l.filterMap (·.frame)
noncomputable abbrev Cx.fs (X:Cx):List Addr:=frs X.outer
noncomputable def Vis(sc:Scope)(x:Str):Prop:=sc.names.lookup x=some .local∨sc.names.lookup x=some .cell∨sc.names.lookup x=some .free
noncomputable def Loc(sc:Scope)(x:Str):Prop:=sc.names.lookup x=some .local∨sc.names.lookup x=some .cell
noncomputable def Look(env:Env)(h:Heap)(m:Str→Option Value)(x:Str)(u:Value):Prop:=
 (env.kindOf x=some .local∧m x=some u)∨((env.kindOf x=some .cell∨env.kindOf x=some .free)∧∃c,env.cells.lookup x=some c∧h.IsCell c (some u))
structure Cx.Ok(X:Cx):Prop where
 mod:Mod X.K X.mg X.base
 kind:X.env.scope.kind= .function
 glob:X.env.globals=mainGlobals
 blt:X.env.builtins=builtinsNs
 above:X.s₀.heap.objs.size≤X.env.locals
 inj:∀x y c,X.env.cells.lookup x=some c→X.env.cells.lookup y=some c→x=y
 has:∀x,(X.env.kindOf x=some .cell∨X.env.kindOf x=some .free)→∃c,X.env.cells.lookup x=some c
 cab:∀x c,X.fn x=true→X.env.cells.lookup x=some c→X.s₀.heap.objs.size≤c
 hd:X.calm=true→X.A.handled=none
 frames:X.A.frames=some X.stack
 stk:X.stack=X.outer∨(X.stack=X.env::X.outer∧X.env.frame=some X.env.locals)
 exf:∀b∈X.ex,b≠X.env.locals∧∀x c,X.env.cells.lookup x=some c→c≠b
 bs:∀b o,X.base.get? b=some o→X.s₀.heap.get? b=some o∧X.H₀ b=none
 bsz:X.base.objs.size≤X.s₀.heap.objs.size
 FK:∀b o,X.base.get? b=some o→b∉X.ex
 FL:∀b∈X.ex,b∉X.fs
 pS:X.s₀.heap.FunFrames X.base X.outer
 frf:∀b∈X.fs,X.H₀ b=none
structure Inv(X:Cx)(pins:List (Addr×Obj))(σ:List (Option V))(H:Hp)(s:Shared):Prop where
 ok:X.Ok
 os:s.os=X.s₀.os
 bare:AllBare s.gens
 base:Un X.fs X.ex X.H₀ H X.s₀.heap s.heap
 loc:∃m,s.heap.Ns X.env.locals m∧∀(i:Nat) (x:Str) (v:V),X.N[i]? =some x→σ[i]? =some (some v)→Vis X.env.scope x→∃u,RelV v u∧Look X.env s.heap m x u
 cell:∀x c,X.env.cells.lookup x=some c→∃v,s.heap.IsCell c v
 free:H X.env.locals=none
 jZ:∀x c,X.env.cells.lookup x=some c→H c=none
 pin:∀p∈X.pn++pins,s.heap.get? p.1=some p.2∧H p.1=none∧p.1≠X.env.locals∧p.1∉X.fs∧∀v,p.2.data≠ .cell v
 hok:HOk X.prog X.w H s.heap
 len:σ.length=X.N.length
section
variable{X:Cx}{pins:List (Addr×Obj)}{σ:List (Option V)}{H H' :Hp}{s:Shared}{h' :Heap}
theorem Cx.Ok.MX(ok:X.Ok){b:Addr}{o:Obj}(e:X.base.get? b=some o):b∉X.fs:=λhb=>by
 have:=(ok.pS.mem hb).1
 rw[e] at this;cases this
theorem Inv.bs(I:Inv X pins σ H s):∀b o,X.base.get? b=some o→s.heap.get? b=some o∧H b=none:=λb o e=>
 ⟨I.base.keep b o (I.ok.bs b o e).1 (I.ok.bs b o e).2 (I.ok.MX e) (I.ok.FK b o e),I.base.free b o (I.ok.bs b o e).1 (I.ok.bs b o e).2 (I.ok.FK b o e)⟩
theorem Inv.bk(I:Inv X pins σ H s):∀b o,X.base.get? b=some o→s.heap.get? b=some o:=λb o e=>(I.bs b o e).1
theorem Inv.mod(I:Inv X pins σ H s):Mod X.K X.mg X.base:=I.ok.mod
theorem Inv.kIn(I:Inv X pins σ H s):X.K.In s.heap:=I.ok.mod.kin.keeps I.bk
theorem Inv.nolimit(I:Inv X pins σ H s):s.heap.NoLimit:=I.ok.mod.nolimit.keeps I.bk
theorem Inv.fr(I:Inv X pins σ H s):∃m,Fr X.base X.env.locals s.heap m:=
 let⟨m,hn,_⟩:=I.loc
 ⟨m,hn,I.bk,Gbt I.ok.bsz I.ok.above⟩
theorem Inv.lt(I:Inv X pins σ H s):X.env.locals<s.heap.objs.size:=let⟨_,hn,_⟩:=I.loc;hn.lt
theorem Inv.sz(I:Inv X pins σ H s):X.s₀.heap.objs.size≤s.heap.objs.size:=Gbt I.ok.above (Gds I.lt)
theorem Inv.MY(I:Inv X pins σ H s){a:Addr}(h:s.heap.objs.size≤a):a∉X.fs:=λhb=>by
 obtain⟨_,o,ho,_⟩:=I.ok.pS.mem hb
 exact absurd (GaR (Gaz ho) (Gbt I.sz h)) (GbJ _)
theorem Inv.cne(I:Inv X pins σ H s):∀x c,X.env.cells.lookup x=some c→c≠X.env.locals:=λx c e z=>by
 obtain⟨v,o,ho,hd⟩:=I.cell x c e
 obtain⟨m,⟨o',es,ep,ho',hd',_⟩,_⟩:=I.loc
 rw[z,ho'] at ho;cases ho;rw[hd'] at hd;cases hd
theorem Inv.pS(I:Inv X pins σ H s):s.heap.FunFrames X.base X.outer:=by
 have all:∀(l:List Env),(∀b∈frs l,b∈X.fs)→X.s₀.heap.FunFrames X.base l→s.heap.FunFrames X.base l:=by
  intro l
  induction l with
  |nil=>intro _ _;trivial
  |cons env r ih=>
   intro hs hl
   obtain⟨hk,⟨L,o,hf,hn,ho,hd⟩,hr⟩:=hl
   have hL:L∈X.fs:=hs L (by unfold frs;rw[Gdx,hf];exact Gap)
   obtain⟨sl,e⟩:=I.base.slot L o ho (I.ok.frf L hL) hL λz=>I.ok.FL L z hL
   exact⟨hk,⟨L,_,hf,hn,e,hd⟩,ih (λb hb=>hs b (by unfold frs;rw[Gdx,hf];exact Gaj _ hb)) hr⟩
 exact all X.outer (λ_ hb=>hb) I.ok.pS
theorem Inv.stack(I:Inv X pins σ H s):s.heap.FunFrames X.base X.stack:=by
 rcases I.ok.stk with e| ⟨e,hf⟩
 ·rw[e];exact I.pS
 ·rw[e]
  obtain⟨m,hn,_⟩:=I.loc
  refine .cons (by rw[I.ok.kind];decide) hf hn ?_ I.pS
  exact Heap.get?_none_of_le (Gbt I.ok.bsz I.ok.above)
theorem Inv.wR(I:Inv X pins σ H s):∀b∈frs X.stack,b∈X.env.locals::X.fs:=λb hb=>by
 rcases I.ok.stk with e| ⟨e,hf⟩
 ·rw[e] at hb;exact Gaj _ hb
 ·rw[e] at hb
  unfold frs at hb
  rw[Gdx,hf] at hb
  exact hb
theorem Inv.AR(I:Inv X pins σ H s):∀b∈frs X.stack,H b=none:=λb hb=>by
 rcases GaA.mp (I.wR b hb) with e|hb
 ·rw[e];exact I.free
 ·obtain⟨_,o,ho,_⟩:=I.ok.pS.mem hb
  exact I.base.free b o ho (I.ok.frf b hb) λz=>I.ok.FL b z hb
theorem Inv.step{g' :Array GenState}{t' :Nat}{d' :Drawn}{ch:List Addr}(I:Inv X pins σ H s)
  (hch:∀b∈ch,(b∈X.ex∨X.s₀.heap.objs.size≤b)∧b≠X.env.locals∧(∀x c,X.env.cells.lookup x=some c→c≠b)∧∀p∈X.pn++pins,p.1≠b)
  (keep:∀b o,b≠X.env.locals→b∉X.fs→b∉ch→s.heap.get? b=some o→H b=none→h'.get? b=some o)
  (slot:∀b o,b≠X.env.locals→b∈X.fs→b∉ch→s.heap.get? b=some o→H b=none→∃sl,h'.get? b=some {o with slots:=sl})(free:∀b o,b∉ch→s.heap.get? b=some o→H b=none→H' b=none)
  (there:∀b o,b∉ch→s.heap.get? b=some o→∃o',h'.get? b=some o')
  (p9:∀b xs,H b=some (.tup xs)→H' b=some (.tup xs))(nz:∀b o u,H b=some (.frz o u)→H' b=some (.frz o u))(pb:∀b ps,H b=some (.tbl ps)→∃more,H' b=some (.tbl (ps++more)))
  (ns:∀m,s.heap.Ns X.env.locals m→h'.Ns X.env.locals m)(hok:HOk X.prog X.w H' h')(hg:AllBare g'):
  Inv X pins σ H' {s with heap:=h',gens:=g',drawn:=d',toks:=t' }:=by
 have neL:∀b o,X.s₀.heap.get? b=some o→b≠X.env.locals:=λb o e=>GaP (GaR (Gaz e) I.ok.above)
 have neC:∀b o,X.s₀.heap.get? b=some o→b∉X.ex→b∉ch:=λb o e hx hb=>by
  rcases(hch b hb).1 with z|z
  ·exact hx z
  ·exact absurd (GaR (Gaz e) z) (GbJ _)
 have cellK:∀x c,X.env.cells.lookup x=some c→∀v,s.heap.IsCell c v→h'.IsCell c v:=λx c e v ⟨o,ho,hd⟩=>by
  have nch:c∉ch:=λz=>(hch c z).2.2.1 x c e rfl
  by_cases hc:c∈X.fs
  ·obtain⟨sl,q⟩:=slot c o (I.cne x c e) hc nch ho (I.jZ x c e)
   exact⟨_,q,hd⟩
  ·exact⟨o,keep c o (I.cne x c e) hc nch ho (I.jZ x c e),hd⟩
 refine⟨I.ok,I.os,hg,⟨λb o e n hb hx=> ?_,λb o e n hb hx=> ?_,λb o e n hx=> ?_,λb o e hx=> ?_,λb xs e=>p9 b xs (I.base.p9 b xs e),λb o xs e=>nz b o xs (I.base.nz b o xs e),λb ps e=> ?_⟩, ?_,λx c e=> ?_, ?_,λx c e=> ?_,λp hp=> ?_,hok,I.len⟩
 ·exact keep b o (neL b o e) hb (neC b o e hx) (I.base.keep b o e n hb hx) (I.base.free b o e n hx)
 ·obtain⟨sl,e1⟩:=I.base.slot b o e n hb hx
  obtain⟨sl',e2⟩:=slot b _ (neL b o e) hb (neC b o e hx) e1 (I.base.free b o e n hx)
  exact⟨sl',e2⟩
 ·obtain⟨o',e1⟩:=I.base.there b o e hx
  exact free b o' (neC b o e hx) e1 (I.base.free b o e n hx)
 ·obtain⟨o',e1⟩:=I.base.there b o e hx
  exact there b o' (neC b o e hx) e1
 ·obtain⟨m1,e1⟩:=I.base.pb b ps e
  obtain⟨m2,e2⟩:=pb b _ e1
  exact⟨m1++m2,by rw[e2,Array.append_assoc]⟩
 ·obtain⟨m,hn,hl⟩:=I.loc
  refine⟨m,ns m hn,λi x v e1 e2 e3=> ?_⟩
  obtain⟨u,r,l⟩:=hl i x v e1 e2 e3
  refine⟨u,r, ?_⟩
  rcases l with l| ⟨k,c,e,z⟩
  ·exact .inl l
  ·exact .inr ⟨k,c,e,cellK x c e _ z⟩
 ·obtain⟨v,z⟩:=I.cell x c e
  exact⟨v,cellK x c e v z⟩
 ·obtain⟨m,⟨o,_,_,ho,_⟩,_⟩:=I.loc
  exact free _ o (λz=>(hch _ z).2.1 rfl) ho I.free
 ·obtain⟨v,o,ho,hd⟩:=I.cell x c e
  exact free c o (λz=>(hch c z).2.2.1 x c e rfl) ho (I.jZ x c e)
 ·obtain⟨e,n,ne,nf,d⟩:=I.pin p hp
  have nch:p.1∉ch:=λz=>(hch p.1 z).2.2.2 p hp rfl
  exact⟨keep p.1 p.2 ne nf nch e n,free p.1 p.2 nch e n,ne,nf,d⟩
theorem Inv.un{t' :Nat}(I:Inv X pins σ H s)(u:Un X.fs [] H H' s.heap h')(hok:HOk X.prog X.w H' h'):Inv X pins σ H' {s with heap:=h',toks:=t' }:=by
 obtain⟨m,⟨o,es,ep,ho,r⟩,_⟩:=id I.loc
 obtain⟨sl,hL⟩:=u.any ho I.free (by simp)
 exact I.step (g' :=s.gens) (d' :=s.drawn) (ch:=[]) (λ_ z=>nomatch z) (λb o _ hb _ e n=>u.keep b o e n hb (by simp)) (λb o _ hb _ e n=>u.slot b o e n hb (by simp)) (λb o _ e n=>u.free b o e n (by simp)) (λb o _ e=>u.there b o e (by simp)) u.p9 u.nz u.pb (λm' hm=>by
  obtain⟨o',es',ep',ho',r'⟩:=hm
  rw[ho] at ho';cases ho'
  exact⟨_,es',ep',hL,r'⟩) hok I.bare
theorem Inv.call{g' :Array GenState}{t' :Nat}{d' :Drawn}{ch:List Addr}(I:Inv X pins σ H s)(u:Un (frs X.stack) ch H H' s.heap h')(hok:HOk X.prog X.w H' h')(hg:AllBare g')
  (hch:∀b∈ch,(b∈X.ex∨X.s₀.heap.objs.size≤b)∧b≠X.env.locals∧(∀x c,X.env.cells.lookup x=some c→c≠b)∧∀p∈X.pn++pins,p.1≠b):
  Inv X pins σ H' {s with heap:=h',gens:=g',drawn:=d',toks:=t' }:=by
 obtain⟨m,⟨o,es,ep,ho,r⟩,_⟩:=id I.loc
 obtain⟨sl,hL⟩:=u.any ho I.free λz=>(hch _ z).2.1 rfl
 exact I.step (ch:=ch) hch (λb o hL hb hc e n=>u.keep b o e n (λz=>(GaA.mp (I.wR b z)).elim hL hb) hc) (λb o _ _ hc e n=>u.any e n hc) (λb o hc e n=>u.free b o e n hc) (λb o hc e=>u.there b o e hc) u.p9 u.nz u.pb (λm' hm=>by
  obtain⟨o',es',ep',ho',r'⟩:=hm
  rw[ho] at ho';cases ho'
  exact⟨_,es',ep',hL,r'⟩) hok hg
theorem Inv.turned{t' :Nat}{it:Addr}(I:Inv X pins σ H s)(k:∀b o,b≠it→s.heap.get? b=some o→h'.get? b=some o)(hn:H it=none)(hL:it≠X.env.locals)
  (h1:it∈X.ex∨X.s₀.heap.objs.size≤it)(h2:∀x c,X.env.cells.lookup x=some c→c≠it)(h3:∀p∈X.pn++pins,p.1≠it):Inv X pins σ H {s with heap:=h',toks:=t' }:=by
 have nit:∀b u,H b=some u→b≠it:=λb u e z=>by rw[z,hn] at e;cases e
 refine I.step (g' :=s.gens) (d' :=s.drawn) (ch:=[it]) (λb hb=> ?_) (λb o _ _ hc e _=>k b o (λz=>hc (by simp[z])) e) (λb o _ _ hc e _=> ⟨o.slots,k b o (λz=>hc (by simp[z])) e⟩) (λ_ _ _ _ n=>n)
  (λb o hc e=> ⟨o,k b o (λz=>hc (by simp[z])) e⟩) (λ_ _ e=>e) (λ_ _ _ e=>e) (λb ps e=> ⟨#[],by rw[e];simp⟩) (λm hm=> ?_) (λb u e=> ?_) I.bare
 ·have e:b=it:=by simpa using hb
  subst e
  exact⟨h1,hL,h2,h3⟩
 ·obtain⟨o,es,ep,ho,r⟩:=hm
  exact⟨o,es,ep,k _ o (GaY hL) ho,r⟩
 ·refine(I.hok b u e).dP (λc v hc q=>k c v ?_ q) (λ_ q=>q) λ_ _ q=>q
  rcases hc with z|z
  ·rw[z];exact nit b u e
  ·exact nit c _ z
theorem Inv.tok(I:Inv X pins σ H s)(t:Nat):Inv X pins σ H {s with toks:=t}:=I.un (h' :=s.heap) (t' :=t) Un.refl I.hok
theorem Inv.kept{t' :Nat}(I:Inv X pins σ H s)(k:∀b u,s.heap.get? b=some u→h'.get? b=some u):Inv X pins σ H {s with heap:=h',toks:=t' }:=I.un (Un.kept k) (I.hok.kept k)
theorem Inv.laid{a:Addr}{o:HO}{t' :Nat}(I:Inv X pins σ H s)(k:∀b u,s.heap.get? b=some u→h'.get? b=some u)(hp:s.heap.objs.size≤a)(new:cz X.prog X.w (upd H a o) h' a o):
  Inv X pins σ (upd H a o) {s with heap:=h',toks:=t' }:=I.un (Un.laid k hp (I.hok.fresh hp)) (I.hok.laid k hp new)
theorem Inv.write{x e:Addr}{o:HO}{t' :Nat}(I:Inv X pins σ H s)(mu:Mut (H x))(he:e=x∨H e=some (.own x))(k:∀b u,b≠e→s.heap.get? b=some u→h'.get? b=some u)(heo:∃u,h'.get? e=some u)
  (new:cz X.prog X.w (upd H x o) h' x o):Inv X pins σ (upd H x o) {s with heap:=h',toks:=t' }:=I.un (Un.write mu he k heo) (I.hok.write mu he k heo new)
theorem Inv.AS{pins' :List (Addr×Obj)}(I:Inv X pins σ H s)(h:∀p∈pins',s.heap.get? p.1=some p.2∧H p.1=none∧p.1≠X.env.locals∧p.1∉X.fs∧∀v,p.2.data≠ .cell v):Inv X pins' σ H s:=
 ⟨I.ok,I.os,I.bare,I.base,I.loc,I.cell,I.free,I.jZ,λp hp=>(Gay.mp hp).elim (λz=>I.pin p (GbU _ z)) (h p),I.hok,I.len⟩
theorem uO{N:List Str}(hN:N.Nodup){i j:Nat}{x:Str}(a:N[i]? =some x)(b:N[j]? =some x):i=j:=by
 obtain⟨h1,e1⟩:=Gad.mp a
 obtain⟨h2,e2⟩:=Gad.mp b
 exact(List.getElem_inj hN).mp (e1.trans e2.symm)
theorem sF{M:Model}{A:Around}{E:Value→Shared→Prop}{i:Nat}{x:Str}{v:V}{u:Value}{Q:Unit→Shared→Prop}(I:Inv X pins σ H s)(hN:X.N.Nodup)(hi:X.N[i]? =some x)(hx:Loc X.env.scope x)(r:RelV v u)
  (h:∀s',Inv X pins (σ.set i (some v)) H s' →(∃a,Heap.SameBut a s.heap s'.heap∧(a=X.env.locals∨X.env.cells.lookup x=some a))→Q () s')(hf:X.fn x=true∨X.env.scope.names.lookup x=some .local:=by first|exact .inl rfl|exact .inr rfl|assumption):wpAny M A (storeName X.env x u) Q E s:=by
 obtain⟨m,hn,hl⟩:=id I.loc
 have hcls:(X.env.scope.kind== .class||(X.env.scope.kind== .module&&X.env.locals !=X.env.globals))=false:=by rw[I.ok.kind];rfl
 have hiσ:i<σ.length:=by rw[I.len];exact(Gad.mp hi).1
 have cne:=I.cne
 have tracked:∀{a:Addr} {h' :Heap},(∃o,s.heap.get? a=some o∧H a=none)→Heap.SameBut a s.heap h' →HOk X.prog X.w H h' :=λ{a h'} ha hs b ob e=>by
  obtain⟨_,_,hfree⟩:=ha
  refine(I.hok b ob e).dP (λc w' hc q=>(hs.2 c ?_).trans q) (λ_ q=>q) λ_ _ q=>q
  rintro rfl
  rcases hc with rfl|hc
  ·rw[hfree] at e;cases e
  ·rw[hfree] at hc;cases hc
 rcases hx with hk|hk
 ·refine wpAny_storeName_local hk hn (λh' hn' hs=> ?_) hcls
  obtain⟨oL,_,_,hoL,_⟩:=id hn
  refine h _ ⟨I.ok,I.os,I.bare,⟨λb o e n hb hx=> ?_,λb o e n hb hx=> ?_,I.base.free,λb o e hx=> ?_,I.base.p9,I.base.nz,I.base.pb⟩,⟨_,hn',λj y v' e1 e2 e3=> ?_⟩,λy c e=> ?_,I.free,I.jZ,λp hp=> ?_,tracked ⟨oL,hoL,I.free⟩ hs,by simpa using I.len⟩ ⟨_,hs,.inl rfl⟩
  ·exact(hs.2 b (GaP (GaR (Gaz e) I.ok.above))).trans (I.base.keep b o e n hb hx)
  ·obtain⟨sl,e1⟩:=I.base.slot b o e n hb hx
   exact⟨sl,(hs.2 b (GaP (GaR (Gaz e) I.ok.above))).trans e1⟩
  ·obtain⟨o',e1⟩:=I.base.there b o e hx
   exact⟨o',(hs.2 b (GaP (GaR (Gaz e) I.ok.above))).trans e1⟩
  ·by_cases hj:j=i
   ·subst hj
    rw[hi] at e1;cases e1
    rw[GaN hiσ] at e2
    cases e2
    exact⟨u,r,.inl ⟨hk,by simp⟩⟩
   ·rw[Gac (GaY hj)] at e2
    obtain⟨u',r',q⟩:=hl j y v' e1 e2 e3
    refine⟨u',r', ?_⟩
    rcases q with⟨k,e⟩| ⟨k,c,e,z⟩
    ·refine .inl ⟨k, ?_⟩
     have:y≠x:=λe=>hj (uO hN e1 (e▸hi))
     simp[this,e]
    ·exact .inr ⟨k,c,e,z.sameBut hs (cne y c e)⟩
  ·obtain⟨w',z⟩:=I.cell y c e
   exact⟨w',z.sameBut hs (cne y c e)⟩
  ·obtain⟨e,n,ne,nf,d⟩:=I.pin p hp
   exact⟨(hs.2 p.1 ne).trans e,n,ne,nf,d⟩
 ·have hfn:X.fn x=true:=by
   rcases hf with z|z
   ·exact z
   ·rw[z] at hk;cases hk
  obtain⟨c,hc⟩:=I.ok.has x (.inl hk)
  obtain⟨w',z⟩:=I.cell x c hc
  refine wpAny_storeName_cell I.ok.kind hk hc z (λh' hc' hs=> ?_)
  obtain⟨oc,hoc,hocd⟩:=id z
  refine h {s with heap:=h' } ⟨I.ok,I.os,I.bare,⟨λb o e n hb hx=> ?_,λb o e n hb hx=> ?_,I.base.free,λb o e hx=> ?_,I.base.p9,I.base.nz,I.base.pb⟩,⟨m,hn.sameBut hs (GaY (cne x c hc)),λj y v' e1 e2 e3=> ?_⟩,λy c' e=> ?_,I.free,I.jZ,λp hp=> ?_,tracked ⟨oc,hoc,I.jZ x c hc⟩ hs,by simpa using I.len⟩ ⟨c,hs,.inr hc⟩
  ·exact(hs.2 b (GaP (GaR (Gaz e) (I.ok.cab x c hfn hc)))).trans (I.base.keep b o e n hb hx)
  ·obtain⟨sl,e1⟩:=I.base.slot b o e n hb hx
   exact⟨sl,(hs.2 b (GaP (GaR (Gaz e) (I.ok.cab x c hfn hc)))).trans e1⟩
  ·obtain⟨o',e1⟩:=I.base.there b o e hx
   exact⟨o',(hs.2 b (GaP (GaR (Gaz e) (I.ok.cab x c hfn hc)))).trans e1⟩
  ·by_cases hj:j=i
   ·subst hj
    rw[hi] at e1;cases e1
    rw[GaN hiσ] at e2
    cases e2
    exact⟨u,r,.inr ⟨.inl hk,c,hc,hc'⟩⟩
   ·rw[Gac (GaY hj)] at e2
    obtain⟨u',r',q⟩:=hl j y v' e1 e2 e3
    refine⟨u',r', ?_⟩
    rcases q with q| ⟨k,c',e,z'⟩
    ·exact .inl q
    ·refine .inr ⟨k,c',e,z'.sameBut hs ?_⟩
     rintro rfl
     exact hj (uO hN e1 (I.ok.inj _ _ _ e hc▸hi))
  ·by_cases hcc:c' =c
   ·subst hcc;exact⟨_,hc'⟩
   ·obtain⟨w2,z2⟩:=I.cell y c' e
    exact⟨w2,z2.sameBut hs hcc⟩
  ·obtain⟨e,n,ne,nf,d⟩:=I.pin p hp
   refine⟨(hs.2 p.1 ?_).trans e,n,ne,nf,d⟩
   intro q
   rw[q,hoc] at e
   have q' :oc=p.2:=Option.some.inj e
   exact d w' (by rw[←q'];exact hocd)
theorem uP{M:Model}{A:Around}{E:Value→Shared→Prop}{i:Nat}{x:Str}{v:V}{u:Value}{Q:Unit→Shared→Prop}(I:Inv X pins σ H s)(hN:X.N.Nodup)(hi:X.N[i]? =some x)(hx:Loc X.env.scope x)(r:RelV v u)
  (h:∀s',Inv X pins (σ.set i (some v)) H s' →Q () s')(hf:X.fn x=true∨X.env.scope.names.lookup x=some .local:=by first|exact .inl rfl|exact .inr rfl|assumption):wpAny M A (storeName X.env x u) Q E s:=
 sF I hN hi hx r (λs' I' _=>h s' I') hf
theorem Inv.HM{s' :Shared}{ch:List Addr}(I:Inv X pins σ H s)(ho:s'.os=s.os)(u:Un (frs X.stack) ch H H' s.heap s'.heap)(hok:HOk X.prog X.w H' s'.heap)(hg:AllBare s'.gens)
  (hch:∀b∈ch,(b∈X.ex∨X.s₀.heap.objs.size≤b)∧b≠X.env.locals∧(∀x c,X.env.cells.lookup x=some c→c≠b)∧∀p∈X.pn++pins,p.1≠b):Inv X pins σ H' s' :=by
 obtain⟨h',g',d',t',o'⟩:=s'
 have e:o' =s.os:=ho
 subst e
 exact I.call (g' :=g') (t' :=t') (d' :=d') u hok hg hch
end
noncomputable abbrev XK:=Value→Option Addr→Hp→Prop
noncomputable abbrev St:=List (Option V)
noncomputable abbrev VK:=V→Hp→Prop
noncomputable abbrev TE:=St→Hp→VK→Prop
noncomputable abbrev TT:=St→Hp→(Bool→Hp→Prop)→Prop
noncomputable abbrev TA:=St→Hp→(List V→Hp→Prop)→Prop
structure Ends where
 nx:St→Hp→Prop
 rt:VK
 bk:St→Hp→Prop:=λ_ _=>False
 ct:St→Hp→Prop:=λ_ _=>False
noncomputable abbrev TS:=Ends→St→Hp→Prop
noncomputable def EP(X:Cx)(pins:List (Addr×Obj))(σ:St)(Q:VK)(u:Value)(s' :Shared):Prop:=∃v H',Inv X pins σ H' s' ∧RelV v u∧Q v H'
noncomputable def TP(X:Cx)(pins:List (Addr×Obj))(σ:St)(Q:Bool→Hp→Prop)(b:Bool)(s' :Shared):Prop:=∃H',Inv X pins σ H' s' ∧Q b H'
noncomputable def AP(X:Cx)(pins:List (Addr×Obj))(σ:St)(Q:List V→Hp→Prop)(us:List Value)(s' :Shared):Prop:=∃vs H',Inv X pins σ H' s' ∧Vals vs us∧Q vs H'
noncomputable def SP(X:Cx)(pins:List (Addr×Obj))(D:Ends)(f:Flow)(s' :Shared):Prop:=
 match f with
 | .next=>∃σ' H',Inv X pins σ' H' s' ∧D.nx σ' H'
 | .brk=>∃σ' H',Inv X pins σ' H' s' ∧D.bk σ' H'
 | .cont=>∃σ' H',Inv X pins σ' H' s' ∧D.ct σ' H'
 | .ret u=>∃v σ' H',Inv X pins σ' H' s' ∧RelV v u∧D.rt v H'
noncomputable def PE(X:Cx)(e:Expr)(t:TE):Prop:=
 ∀(pins:List (Addr×Obj)) (s:Shared) (σ:St) (H:Hp) (Q:VK),Inv X pins σ H s→t σ H Q→wpAny (model X.prog X.w) X.A (eval e X.env) (EP X pins σ Q) X.xe s
noncomputable def PT(X:Cx)(e:Expr)(t:TT):Prop:=
 ∀(pins:List (Addr×Obj)) (s:Shared) (σ:St) (H:Hp) (Q:Bool→Hp→Prop),Inv X pins σ H s→t σ H Q→wpAny (model X.prog X.w) X.A (isTrue e X.env (eval e X.env)) (TP X pins σ Q) X.xe s
noncomputable def PW(X:Cx)(e:Expr)(t:TT):Prop:=
 ∀(whole:Sem Value) (pins:List (Addr×Obj)) (s:Shared) (σ:St) (H:Hp) (Q:Bool→Hp→Prop),Inv X pins σ H s→t σ H Q→wpAny (model X.prog X.w) X.A (isTrue e X.env whole) (TP X pins σ Q) X.xe s
theorem PW.pt{X:Cx}{e:Expr}{t:TT}(h:PW X e t):PT X e t:=h _
noncomputable def PA(X:Cx)(es:List Expr)(t:TA):Prop:=
 ∀(pos:Pos) (pins:List (Addr×Obj)) (s:Shared) (σ:St) (H:Hp) (Q:List V→Hp→Prop),Inv X pins σ H s→t σ H Q→wpAny (model X.prog X.w) X.A (spliced (backTo pos (starEach es X.env))) (AP X pins σ Q) X.xe s
noncomputable def PS(X:Cx)(st:Stmt)(t:TS):Prop:=
 ∀(pins:List (Addr×Obj)) (s:Shared) (σ:St) (H:Hp) (D:Ends),Inv X pins σ H s→t D σ H→wpAny (model X.prog X.w) X.A (exec st X.env) (SP X pins D) X.xe s
noncomputable def PSs(X:Cx)(st:List Stmt)(t:TS):Prop:=
 ∀(pins:List (Addr×Obj)) (s:Shared) (σ:St) (H:Hp) (D:Ends),Inv X pins σ H s→t D σ H→wpAny (model X.prog X.w) X.A (execs st X.env) (SP X pins D) X.xe s
theorem thn{α:Type}{t:Sem α}{Q Q' :α→Shared→Prop}{M:Model}{A:Around}{E:Value→Shared→Prop}{s:Shared}(h:wpAny M A t Q E s)(hQ:∀a s,Q a s→Q' a s):wpAny M A t Q' E s:=GbK h hQ λ_ _ x=>x
section
variable{X:Cx}
noncomputable def KA(i:Nat):TE:=λσ H Q=>∃v,σ[i]? =some (some v)∧Q v H
noncomputable def tC(v:V):TE:=λ_ H Q=>Q v H
theorem kK{i:Nat}{x:Str}{pos:Pos}(hN:X.N[i]? =some x)(hv:Vis X.env.scope x)(hd:(x==("__debug__":Str))=false:=by decide)(hcd:(x==("__classdict__":Str))=false:=by decide):PE X (.Name x pos) (KA i):=by
 intro pins s σ H Q I h
 obtain⟨v,e,h⟩:=h
 obtain⟨m,hn,hl⟩:=I.loc
 obtain⟨u,r,l⟩:=hl i x v hN e hv
 have fin:EP X pins σ Q u s:=⟨v,H,I,r,h⟩
 rcases l with⟨hk,hm⟩| ⟨hk,c,hc,hcell⟩
 ·exact wpAny_Name (wpAny_loadName_local I.ok.kind hk hn hm fin) hd
 ·rcases hk with hk|hk
  ·exact wpAny_Name (wpAny_loadName_cell I.ok.kind hk hc hcell fin) hd
  ·exact wpAny_Name (wpAny_loadName_free I.ok.kind hk hc hcell fin hcd) hd
theorem Dc{i j pos}:PE X (.Constant (.int i) j pos) (tC (.int i)):=λ_ _ _ H _ I h=>wpAny_Constant_int ⟨.int i,H,I.tok _,⟨_,rfl⟩,h⟩
theorem KC{b j pos}:PE X (.Constant (.bool b) j pos) (tC (.bl b)):=λ_ _ _ H _ I h=>Constant_bool ⟨.bl b,H,I,rfl,h⟩
theorem Ip{j pos}:PE X (.Constant .none j pos) (tC .non):=λ_ _ _ H _ I h=>Constant_none ⟨.non,H,I,rfl,h⟩
theorem Iq{x j pos}:PE X (.Constant (.str x) j pos) (tC (.str x)):=λ_ _ _ H _ I h=>Calls.Constant_str ⟨.str x,H,I.tok _,⟨_,rfl⟩,h⟩
noncomputable def Gl(X:Cx)(x:Str):Prop:=X.env.kindOf x=some .globalImplicit
theorem FP{E:Value→Shared→Prop}{pins:List (Addr×Obj)}{s:Shared}{σ:St}{H:Hp}{x:Str}{u:Value}{pos:Pos}{Q:Value→Shared→Prop}(I:Inv X pins σ H s)(hg:Gl X x)(hm:X.mg x=some u)(h:Q u s)
  (hd:(x==("__debug__":Str))=false:=by decide):wpAny (model X.prog X.w) X.A (eval (.Name x pos) X.env) Q E s:=
 Calls.Name_function_global I.ok.kind hg (Calls.loadGlobal_global (by rw[I.ok.glob];exact I.mod.glob.keeps I.bk) hm h) hd
theorem mX{E:Value→Shared→Prop}{pins:List (Addr×Obj)}{s:Shared}{σ:St}{H:Hp}{x:Str}{u:Value}{pos:Pos}{Q:Value→Shared→Prop}(I:Inv X pins σ H s)(hg:Gl X x)(hm:X.mg x=none)(hv:bootBuiltins x=some u)(h:Q u s)
  (hn:x≠"__name__":=by decide)(hd:(x==("__debug__":Str))=false:=by decide):wpAny (model X.prog X.w) X.A (eval (.Name x pos) X.env) Q E s:=by
 obtain⟨mb,h1,h2⟩:=I.mod.blt
 exact Calls.Name_function_global I.ok.kind hg (Calls.loadGlobal_builtin (by rw[I.ok.glob];exact I.mod.glob.keeps I.bk) hm (by rw[I.ok.blt];exact h1.keeps I.bk) ((h2 x hn).trans hv) h) hd
theorem FQ{x:Str}{v:V}{u:Value}{pos:Pos}(hg:Gl X x)(hm:X.mg x=none)(hv:bootBuiltins x=some u)(r:RelV v u)(hn:x≠"__name__":=by decide)(hd:(x==("__debug__":Str))=false:=by decide):PE X (.Name x pos) (tC v):=
 λ_ _ _ H _ I h=>mX I hg hm hv ⟨v,H,I,r,h⟩ hn hd
variable{a b:Expr}{ta tb:TE}{pos:Pos}
noncomputable def tB(t:TE):TT:=λσ H Q=>t σ H λx H1=>∃c,x= .bl c∧Q c H1
theorem Ir{e:Expr}{t:TE}(h:PE X e t)(he:∀whole,isTrue e X.env whole=(do let v←whole;standAt e.pos;holding [v] (truthy v)):=by intro _;rfl):PT X e (tB t):=by
 intro pins s σ H Q I hw
 refine isTrue_plain (thn (h pins s σ H _ I hw) λv s1 ⟨x,H1,I1,r1,q1⟩=> ?_) (he _)
 obtain⟨d,rfl,q⟩:=q1
 cases r1
 exact GbF ⟨H1,I1,q⟩
variable{tA tB' :TT}{rest:List Expr}
noncomputable def MZ(t u:TT):TT:=λσ H Q=>t σ H λc H1=>if c=true then u σ H1 Q else Q false H1
noncomputable def tOr(t u:TT):TT:=λσ H Q=>t σ H λc H1=>if c=true then Q true H1 else u σ H1 Q
noncomputable def N0(t:TT):TT:=λσ H Q=>t σ H λc H1=>Q (!c) H1
theorem FR(ha:PT X a tA):PW X (.BoolOp .And [a] pos) tA:=by
 intro wh pins s σ H Q I h
 refine isTrue_and (thn (ha pins s σ H Q I h) λc s1 e=> ?_)
 cases c with
 |true=>exact isTrue_and_nil e
 |false=>exact e
theorem Iu(ha:PT X a tA):PW X (.BoolOp .Or [a] pos) tA:=by
 intro wh pins s σ H Q I h
 refine isTrue_or (thn (ha pins s σ H Q I h) λc s1 e=> ?_)
 cases c with
 |false=>exact isTrue_or_nil e
 |true=>exact e
theorem Iv(ha:PT X a tA)(hb:PW X (.BoolOp .And (b::rest) pos) tB'):PW X (.BoolOp .And (a::b::rest) pos) (MZ tA tB'):=by
 intro wh pins s σ H Q I h
 refine isTrue_and (thn (ha pins s σ H _ I h) λc s1 ⟨H1,I1,q1⟩=> ?_)
 cases c with
 |true=>exact hb wh pins s1 σ H1 Q I1 q1
 |false=>exact⟨H1,I1,q1⟩
theorem KD(ha:PT X a tA)(hb:PW X (.BoolOp .Or (b::rest) pos) tB'):PW X (.BoolOp .Or (a::b::rest) pos) (tOr tA tB'):=by
 intro wh pins s σ H Q I h
 refine isTrue_or (thn (ha pins s σ H _ I h) λc s1 ⟨H1,I1,q1⟩=> ?_)
 cases c with
 |true=>exact⟨H1,I1,q1⟩
 |false=>exact hb wh pins s1 σ H1 Q I1 q1
theorem Iw(ha:PT X a tA):PT X (.UnaryOp .Not a pos) (N0 tA):=by
 intro pins s σ H Q I h
 exact isTrue_not (ha pins s σ H (λc H1=>Q (!c) H1) I h)
noncomputable def KG(ta tb:TE):TE:=λσ H Q=>ta σ H λx H1=>∃c,x= .bl c∧if c=true then tb σ H1 Q else Q (.bl false) H1
noncomputable def KH(ta:TE):TE:=λσ H Q=>ta σ H λx H1=>∃c,x= .bl c∧Q (.bl (!c)) H1
theorem Iy{op}{t:TE}(h:PE X a t):PE X (.BoolOp op [a] pos) t:=λpins s σ H Q I hw=>BoolOp_one (h pins s σ H Q I hw)
theorem Iz(ha:PE X a ta)(hb:PE X (.BoolOp .And (b::rest) pos) tb):PE X (.BoolOp .And (a::b::rest) pos) (KG ta tb):=by
 intro pins s σ H Q I h
 refine BoolOp_and (thn (ha pins s σ H _ I h) λv s1 ⟨x,H1,I1,r1,q1⟩=> ?_)
 obtain⟨c,rfl,q1⟩:=q1
 cases r1
 refine GbF ?_
 cases c with
 |true=>exact hb pins s1 σ H1 Q I1 q1
 |false=>exact⟨.bl false,H1,I1,rfl,q1⟩
theorem IA(ha:PE X a ta):PE X (.UnaryOp .Not a pos) (KH ta):=by
 intro pins s σ H Q I h
 refine UnaryOp_ (thn (ha pins s σ H _ I h) λv s1 ⟨x,H1,I1,r1,q1⟩=> ?_)
 obtain⟨c,rfl,q1⟩:=q1
 cases r1
 exact not_of (GbF ⟨.bl (!c),H1,I1,rfl,q1⟩)
noncomputable def tIf(t:TT)(ta tb:TE):TE:=λσ H Q=>t σ H λc H1=>if c=true then ta σ H1 Q else tb σ H1 Q
theorem Dd{c:Expr}(hc:PT X c tA)(ha:PE X a ta)(hb:PE X b tb):PE X (.IfExp c a b pos) (tIf tA ta tb):=by
 intro pins s σ H Q I h
 refine wpAny_IfExp (thn (hc pins s σ H _ I h) λd s1 ⟨H1,I1,q1⟩=> ?_)
 cases d with
 |true=>exact ha pins s1 σ H1 Q I1 q1
 |false=>exact hb pins s1 σ H1 Q I1 q1
end
noncomputable def SqL(K:PySem.W.Frag)(H:Hp)(a:Addr)(xs:List V):Prop:=
 Rd H a (.lst xs)∨
  ∃(o:Obj) (its:Array Value) (n:Nat),K.lookup a=some o∧o.cls= .type "list"∧o.dict=none∧o.data= .seq its n∧its.size≤sizeLine∧Vals xs its.toList
noncomputable def SqT(K:PySem.W.Frag)(H:Hp)(a:Addr)(xs:List V):Prop:=
 Rd H a (.tup xs)∨
  ∃(o:Obj) (its:Array Value) (n:Nat),K.lookup a=some o∧o.cls= .type "tuple"∧o.data= .seq its n∧its.size≤sizeLine∧Vals xs its.toList
noncomputable def N5:Value→Option V
 | .none=>some .non
 | .bool b=>some (.bl b)
 | .int i _=>some (.int i)
 | .str x _=>some (.str x)
 | .bytes b _=>some (.byt b)
 | .float b _=>some (.flt b)
 | .ref a=>some (.ref a)
 | .type n=>some (.ty n)
 |_=>none
theorem RelV.abs{x:V}{u:Value}(r:RelV x u):N5 u=some x:=by
 cases x with
 |non=>cases r;rfl
 |bl _=>cases r;rfl
 |int _=>obtain⟨t,rfl⟩:=r;rfl
 |str _=>obtain⟨t,rfl⟩:=r;rfl
 |byt _=>obtain⟨t,rfl⟩:=r;rfl
 |flt _=>obtain⟨t,rfl⟩:=r;rfl
 |ref _=>cases r;rfl
 |ty _=>cases r;rfl
theorem RelV.inj{x y:V}{u:Value}(r:RelV x u)(q:RelV y u):x=y:=Option.some.inj (r.abs.symm.trans q.abs)
theorem Vals.inj:∀{xs ys:List V} {us:List Value},Vals xs us→Vals ys us→xs=ys
 |_,_,_,.nil,.nil=>rfl
 |_,_,_,.cons r t,.cons r' t' =>by rw[r.inj r',Vals.inj t t']
section
variable{X:Cx}{pins:List (Addr×Obj)}{σ:St}{H:Hp}{s:Shared}{a:Addr}{xs ys:List V}
theorem SqL.of{K:PySem.W.Frag}(h:H a=some (.lst xs)):SqL K H a xs:= .inl (.inl h)
theorem SqT.of{K:PySem.W.Frag}(h:H a=some (.tup xs)):SqT K H a xs:= .inl (.inl h)
theorem Inv.list(I:Inv X pins σ H s)(h:SqL X.K H a xs):∃its:List Value,Vals xs its∧PlainL s.heap a its.toArray∧xs.length≤sizeLine:=by
 rcases h with h| ⟨o,its,n,hk,hc,hd,hs,hz,r⟩
 ·obtain⟨z,its,n,r,e⟩:=h.ok I.hok
  exact⟨its,r,⟨_,n,e,rfl,rfl,rfl⟩,z⟩
 ·refine⟨its.toList,r,⟨o,n,I.kIn a o hk,hc,hd,by simpa using hs⟩, ?_⟩
  have e:=r.length
  simp only[Gcb] at e
  omega
theorem Inv.tuple(I:Inv X pins σ H s)(h:SqT X.K H a xs):∃its:List Value,Vals xs its∧IsTup s.heap a its.toArray∧xs.length≤sizeLine:=by
 rcases h with h| ⟨o,its,n,hk,hc,hs,hz,r⟩
 ·obtain⟨z,its,r,p⟩:=h.ok I.hok
  exact⟨its,r,p,z⟩
 ·refine⟨its.toList,r,⟨o,I.kIn a o hk,hc,n,by simpa using hs⟩, ?_⟩
  have e:=r.length
  simp only[Gcb] at e
  omega
theorem Inv.uQ(I:Inv X pins σ H s)(h:SqL X.K H a xs)(h' :SqL X.K H a ys):xs=ys:=by
 obtain⟨its,r,⟨o,n,e,_,_,d⟩,_⟩:=I.list h
 obtain⟨its',r',⟨o',n',e',_,_,d'⟩,_⟩:=I.list h'
 rw[e] at e';cases e'
 rw[d] at d'
 injection d' with d1 _
 have:its=its' :=by simpa using congrArg Array.toList d1
 subst this
 exact r.inj r'
theorem Inv.sG(I:Inv X pins σ H s)(h:SqT X.K H a xs)(h' :SqT X.K H a ys):xs=ys:=by
 obtain⟨its,r,⟨o,e,_,n,d⟩,_⟩:=I.tuple h
 obtain⟨its',r',⟨o',e',_,n',d'⟩,_⟩:=I.tuple h'
 rw[e] at e';cases e'
 rw[d] at d'
 injection d' with d1 _
 have:its=its' :=by simpa using congrArg Array.toList d1
 subst this
 exact r.inj r'
end
noncomputable abbrev Cx.pT (X:Cx) (E:Value→Shared→Prop):Cx:={X with xe:=E}
noncomputable abbrev Cx.nox (X:Cx):Cx:=X.pT λ_ _=>False
theorem Cx.Ok.pT{X:Cx}(ok:X.Ok)(E:Value→Shared→Prop):(X.pT E).Ok:=
 ⟨ok.mod,ok.kind,ok.glob,ok.blt,ok.above,ok.inj,ok.has,ok.cab,ok.hd,ok.frames,ok.stk,ok.exf,ok.bs,ok.bsz,ok.FK,ok.FL,ok.pS,ok.frf⟩
theorem Cx.Ok.jD{X:Cx}{E:Value→Shared→Prop}(ok:(X.pT E).Ok):X.Ok:=
 ⟨ok.mod,ok.kind,ok.glob,ok.blt,ok.above,ok.inj,ok.has,ok.cab,ok.hd,ok.frames,ok.stk,ok.exf,ok.bs,ok.bsz,ok.FK,ok.FL,ok.pS,ok.frf⟩
section
variable{X:Cx}{pins:List (Addr×Obj)}{σ:St}{H:Hp}{s:Shared}{E:Value→Shared→Prop}
theorem Inv.pT(I:Inv X pins σ H s)(E:Value→Shared→Prop):Inv (X.pT E) pins σ H s:=⟨I.ok.pT E,I.os,I.bare,I.base,I.loc,I.cell,I.free,I.jZ,I.pin,I.hok,I.len⟩
theorem Inv.jD(I:Inv (X.pT E) pins σ H s):Inv X pins σ H s:=⟨I.ok.jD,I.os,I.bare,I.base,I.loc,I.cell,I.free,I.jZ,I.pin,I.hok,I.len⟩
theorem SP.jD{D:Ends}{f:Flow}{s' :Shared}(h:SP (X.pT E) pins D f s'):SP X pins D f s' :=by
 cases f with
 |next=>obtain⟨σ',H',I,q⟩:=h;exact⟨σ',H',I.jD,q⟩
 |brk=>obtain⟨σ',H',I,q⟩:=h;exact⟨σ',H',I.jD,q⟩
 |cont=>obtain⟨σ',H',I,q⟩:=h;exact⟨σ',H',I.jD,q⟩
 |ret u=>obtain⟨v,σ',H',I,r,q⟩:=h;exact⟨v,σ',H',I.jD,r,q⟩
theorem PE.nox{e:Expr}{t:TE}(h:PE X.nox e t):PE X e t:=λpins s σ H Q I hw=>
 GbK (h pins s σ H Q (I.pT _) hw) (λ_ _ ⟨v,H',I',r,q⟩=> ⟨v,H',I'.jD,r,q⟩) λ_ _ z=>False.elim z
theorem PT.nox{e:Expr}{t:TT}(h:PT X.nox e t):PT X e t:=λpins s σ H Q I hw=>
 GbK (h pins s σ H Q (I.pT _) hw) (λ_ _ ⟨H',I',q⟩=> ⟨H',I'.jD,q⟩) λ_ _ z=>False.elim z
theorem PSs.nox{st:List Stmt}{t:TS}(h:PSs X.nox st t):PSs X st t:=λpins s σ H D I hw=>
 GbK (h pins s σ H D (I.pT _) hw) (λ_ _ q=>q.jD) λ_ _ z=>False.elim z
end
section
variable{X:Cx}{st:Stmt}{rest:List Stmt}{t u:TS}{e:Expr}{te:TE}{pos:Pos}
noncomputable def KI:TS:=λD σ H=>D.nx σ H
noncomputable def N6(t u:TS):TS:=λD σ H=>t {D with nx:=u D} σ H
theorem FT:PSs X [] KI:=λ_ _ σ H _ I h=>Gdt ⟨σ,H,I,h⟩
theorem nA(h1:PS X st t)(h2:PSs X rest u):PSs X (st::rest) (N6 t u):=by
 intro pins s σ H D I h
 refine wpAny_execs_cons (thn (h1 pins s σ H {D with nx:=u D} I h) λf s1 q=> ?_)
 cases f with
 |next=>
  obtain⟨σ',H',I',q⟩:=q
  exact h2 pins s1 σ' H' D I' q
 |ret v=>exact q
 |brk=>exact q
 |cont=>exact q
theorem tW(h1:PS X st t):PSs X [st] t:=by
 intro pins s σ H D I h
 refine wpAny_execs_cons (thn (h1 pins s σ H D I h) λf s1 q=> ?_)
 cases f with
 |next=>exact Gdt q
 |ret v=>exact q
 |brk=>exact q
 |cont=>exact q
noncomputable def IB:TS:=λD σ H=>D.bk σ H
theorem De:PS X (.Break pos) IB:=λ_ _ σ H _ I h=>wpAny_Break ⟨σ,H,I,h⟩
theorem Inv.quiet{pins:List (Addr×Obj)}{σ:St}{H:Hp}{s:Shared}(I:Inv X pins σ H s):interactive X.env=false:=by simp[interactive,I.ok.kind]
noncomputable def KJ(te:TE):TS:=λD σ H=>te σ H λ_ H1=>D.nx σ H1
theorem pZ(he:PE X e te)(hs:swapsWith e none pos.line X.env=pure false:=by rfl):PS X (.Expr e pos) (KJ te):=by
 intro pins s σ H D I h
 exact wpAny_Expr_any (thn (he pins s σ H _ I h) λv s1 ⟨x,H1,I1,r1,q1⟩=> ⟨σ,H1,I1,q1⟩) I.quiet hs
noncomputable def N7(te:TE):TS:=λD σ H=>te σ H D.rt
theorem Df(he:PE X e te):PS X (.Return (some e) pos) (N7 te):=by
 intro pins s σ H D I h
 exact wpAny_Return_some (thn (he pins s σ H _ I h) λv s1 ⟨x,H1,I1,r1,q1⟩=> ⟨x,σ,H1,I1,r1,q1⟩)
noncomputable def N8(c:TT)(t u:TS):TS:=λD σ H=>c σ H λb H1=>if b=true then t D σ H1 else u D σ H1
theorem KN{c:Expr}{a b:List Stmt}{tc:TT}(hc:PT X c tc)(ha:PSs X a t)(hb:PSs X b u):PS X (.If c a b pos) (N8 tc t u):=by
 intro pins s σ H D I h
 refine wpAny_If (thn (hc pins s σ H _ I h) λd s1 ⟨H1,I1,q1⟩=> ?_)
 cases d with
 |true=>exact ha pins s1 σ H1 D I1 q1
 |false=>exact hb pins s1 σ H1 D I1 q1
end
noncomputable abbrev TG:=V→St→Hp→(St→Hp→Prop)→Prop
noncomputable abbrev TGs:=List V→St→Hp→(St→Hp→Prop)→Prop
noncomputable def PG(X:Cx)(target:Expr)(t:TG):Prop:=
 ∀(pins:List (Addr×Obj)) (s:Shared) (σ:St) (H:Hp) (v:V) (u:Value) (Q:St→Hp→Prop),Inv X pins σ H s→RelV v u→t v σ H Q→
  wpAny (model X.prog X.w) X.A (assign target X.env u) (λ_ s' =>∃σ' H',Inv X pins σ' H' s' ∧Q σ' H') X.xe s
noncomputable def PGs(X:Cx)(ts:List Expr)(t:TGs):Prop:=
 ∀(pins:List (Addr×Obj)) (s:Shared) (σ:St) (H:Hp) (vs:List V) (us:List Value) (Q:St→Hp→Prop),Inv X pins σ H s→Vals vs us→t vs σ H Q→
  wpAny (model X.prog X.w) X.A (assignInOrder ((assignEach ts X.env).map (·.2)) us) (λ_ s' =>∃σ' H',Inv X pins σ' H' s' ∧Q σ' H') X.xe s
noncomputable abbrev N9:=V→V→V→Hp→(Hp→Prop)→Prop
noncomputable def KO(X:Cx)(t:N9):Prop:=
 ∀(pins:List (Addr×Obj)) (s:Shared) (σ:St) (H:Hp) (o i v:V) (ov iv u:Value) (Q:Hp→Prop),Inv X pins σ H s→RelV o ov→RelV i iv→RelV v u→t o i v H Q→
  wpAny (model X.prog X.w) X.A (setItem ov iv u) (λ_ s' =>∃H',Inv X pins σ H' s' ∧Q H') X.xe s
section
variable{X:Cx}{pos:Pos}
noncomputable def HP(i:Nat):TG:=λv σ H Q=>Q (σ.set i (some v)) H
theorem AU{i:Nat}{x:Str}(hN:X.N.Nodup)(hi:X.N[i]? =some x)(hx:Loc X.env.scope x)(hf:X.fn x=true∨X.env.scope.names.lookup x=some .local:=by first|exact .inl rfl|exact .inr rfl|assumption):PG X (.Name x pos) (HP i):=by
 intro pins s σ H v u Q I r h
 exact wpAny_assign_Name (uP I hN hi hx r (λs' I' => ⟨_,H,I',h⟩) hf)
noncomputable def Na:TGs:=λvs σ H Q=>vs=[]∧Q σ H
noncomputable def KP(t:TG)(u:TGs):TGs:=λvs σ H Q=>∃v r,vs=v::r∧t v σ H λσ' H' =>u r σ' H' Q
theorem FU:PGs X [] Na:=by
 intro pins s σ H vs us Q I r h
 obtain⟨e,h⟩:=h
 subst e
 cases r
 exact assignInOrder_nil ⟨σ,H,I,h⟩
theorem Dg{e:Expr}{es:List Expr}{t:TG}{u:TGs}(h1:PG X e t)(h2:PGs X es u)
  (hs:(assignEach (e::es) X.env).map (·.2)=assign e X.env::(assignEach es X.env).map (·.2):=by rfl):PGs X (e::es) (KP t u):=by
 intro pins s σ H vs us Q I r h
 obtain⟨v,vr,e1,h⟩:=h
 subst e1
 cases r with
 |cons r rr=>
  rw[hs]
  refine assignInOrder_cons (thn (h1 pins s σ H _ _ _ I r h) λ_ s1 ⟨σ1,H1,I1,q1⟩=> ?_)
  exact h2 pins s1 σ1 H1 _ _ Q I1 rr q1
noncomputable def Nb(K:PySem.W.Frag)(n:Nat)(t:TGs):TG:=λv σ H Q=>∃a xs,v= .ref a∧SqT K H a xs∧xs.length=n∧t xs σ H Q
theorem IC{es:List Expr}{k:Nat}{t:TGs}{n:Nat}(hc:X.calm=true)(h:PGs X es t)
  (hn:(assignEach es X.env).length=n:=by rfl)(hst:(assignEach es X.env).findIdx? (·.1)=none:=by rfl):PG X (.Tuple es k pos) (Nb X.K n t):=by
 intro pins s σ H v u Q I r hw
 obtain⟨a,xs,e1,hq,hl,hw⟩:=hw
 subst e1
 cases r
 obtain⟨its,rv,ht,hz⟩:=I.tuple hq
 refine assign_Tuple_tuple (I.ok.hd hc) ht (by simp[hn,←hl,rv.length]) hst λh' hx=> ?_
 have I1:Inv X pins σ H {s with heap:=h' }:=I.kept (t' :=s.toks) λb o e=>hx b o (GaP (Gaz e)) e
 exact h pins _ σ H xs _ Q I1 (by simpa using rv) hw
noncomputable def Nc(te:TE)(g:TG):TS:=λD σ H=>te σ H λx H1=>g x σ H1 D.nx
theorem wU{i:Nat}{x:Str}{e:Expr}{te:TE}{pos' :Pos}(hN:X.N.Nodup)(hi:X.N[i]? =some x)(hx:Loc X.env.scope x)(he:PE X e te)(hs:swapsWith e (some (.Name x pos')) pos.line X.env=pure false:=by rfl)(hf:X.fn x=true∨X.env.scope.names.lookup x=some .local:=by first|exact .inl rfl|exact .inr rfl|assumption):
  PS X (.Assign [.Name x pos'] e pos) (Nc te (HP i)):=by
 intro pins s σ H D I h
 refine wpAny_Assign_Name (thn (he pins s σ H _ I h) λv s1 ⟨y,H1,I1,r1,q1⟩=> ?_) hs
 exact uP I1 hN hi hx r1 (λs2 I2=> ⟨_,H1,I2,q1⟩) hf
end
section
variable{X:Cx}{pos:Pos}
noncomputable def ID(c:TT)(tb:TS):TS:=λD σ H=>∃W:Nat→St→Hp→Prop,(∃m,W m σ H)∧∀m σ H,W m σ H→
 c σ H λb H1=>if b=true then∃N:St→Hp→Prop,(∀σ' H',N σ' H' →∃m',m' <m∧W m' σ' H')∧tb {D with nx:=N,ct:=N,bk:=D.nx} σ H1 else D.nx σ H1
theorem Dh{c:Expr}{body:List Stmt}{tc:TT}{tb:TS}(hp:PassesOwn (model X.prog X.w) X.A X.env X.xe)(hc:PT X c tc)(hb:PSs X body tb):PS X (.While c body [] pos) (ID tc tb):=by
 intro pins s σ H D I h
 obtain⟨W,⟨m0,w0⟩,turn⟩:=h
 refine wpAny_While (codeAny_whileLoop (λn s' =>∃σ' H',Inv X pins σ' H' s' ∧W n σ' H') ?_ m0 ⟨σ,H,I,w0⟩)
 rintro n s1 ⟨σ1,H1,I1,w1⟩
 refine Gcm hp (thn (hc pins s1 σ1 H1 _ I1 (turn n σ1 H1 w1)) λb s2 ⟨H2,I2,q2⟩=> ?_)
 cases b with
 |true=>
  obtain⟨N,hN,q2⟩:=q2
  rw[Gah rfl]
  refine Gcm hp (thn (hb pins s2 σ1 H2 _ I2 q2) λf s3 q3=> ?_)
  cases f with
  |next=>
   obtain⟨σ3,H3,I3,n3⟩:=q3
   obtain⟨m',hm,w3⟩:=hN σ3 H3 n3
   exact⟨m',hm,σ3,H3,I3,w3⟩
  |cont=>
   obtain⟨σ3,H3,I3,n3⟩:=q3
   obtain⟨m',hm,w3⟩:=hN σ3 H3 n3
   exact⟨m',hm,σ3,H3,I3,w3⟩
  |brk=>exact q3
  |ret v=>exact q3
 |false=>
  rw[Gag Gau]
  exact Gdt ⟨σ1,H2,I2,q2⟩
end
structure It where
 go:Nat→Hp→Prop
 yld:Nat→Hp→V→Hp→Prop
 stop:Nat→Hp→Prop
noncomputable def mY(X:Cx)(pins:List (Addr×Obj))(H:Hp)(b:Addr):Prop:=
 H b=none∧b≠X.env.locals∧b∉X.fs∧(b∈X.ex∨X.s₀.heap.objs.size≤b)∧(∀x c,X.env.cells.lookup x=some c→c≠b)∧∀p∈X.pn++pins,p.1≠b
theorem Inv.BS{X:Cx}{pins:List (Addr×Obj)}{σ:St}{H H' :Hp}{s:Shared}{b:Addr}(I:Inv X pins σ H s)(hb:s.heap.objs.size≤b)(hn:H' b=none):mY X pins H' b:=by
 refine⟨hn,GbV (GaR I.lt hb),I.MY hb,.inr (Gbt I.sz hb),λx c e z=> ?_,λp hp z=> ?_⟩
 ·obtain⟨v,q⟩:=I.cell x c e
  exact absurd (GaR q.lt (by rw[z];exact hb)) (GbJ _)
 ·exact absurd (GaR (Gaz (I.pin p hp).1) (by rw[z];exact hb)) (GbJ _)
structure Turn(P:Program)(w:World)(K:PySem.W.Frag)(tg:Expr)(J:It)(fp:List Addr)(it:Addr)(tn:Nat→Heap→Prop):Prop where
 mem:it∈fp
 obj:∀i h,tn i h→∀b∈fp,∃o,h.get? b=some o∧∀v,o.data≠ .cell v
 keep:∀i h h',tn i h→(∀b∈fp,∀o,h.get? b=some o→h'.get? b=some o)→tn i h'
 item:∀(X:Cx),X.prog=P→X.w=w→X.K=K→X.calm=true→∀(i:Nat) (pins:List (Addr×Obj)) (s:Shared) (σ:St) (H:Hp) (E:Value→Shared→Prop),Inv X pins σ H s→(∀b∈fp,mY X pins H b)→tn i s.heap→J.go i H→
  wpAny (model P w) X.A (pyNext (.ref it)) (λr s1=>∃u,r=some u∧
   wpAny (model P w) X.A (letOwnedTupleGo tg (.ref it) u) (λ_ s2=>∃x H',Inv X pins σ H' s2∧RelV x u∧J.yld i H x H' ∧tn (i+1) s2.heap∧∀b∈fp,H' b=none) E s1) E s
 done:∀(X:Cx),X.prog=P→X.w=w→X.K=K→X.calm=true→∀(i:Nat) (pins:List (Addr×Obj)) (s:Shared) (σ:St) (H:Hp) (E:Value→Shared→Prop),Inv X pins σ H s→(∀b∈fp,mY X pins H b)→tn i s.heap→J.stop i H→
  wpAny (model P w) X.A (pyNext (.ref it)) (λr s1=>r=none∧Inv X pins σ H s1) E s
 self:∀(A:Around) (i:Nat) (s:Shared) (Q:Value→Shared→Prop) (E:Value→Shared→Prop),tn i s.heap→Q (.ref it) s→wpAny (model P w) A (pyIter (.ref it)) Q E s
noncomputable abbrev TI:=St→Hp→(It→Hp→Prop)→Prop
noncomputable def PIE(X:Cx)(pins:List (Addr×Obj))(σ:St)(tg:Expr)(R:It→Hp→Prop)(itv:Value)(s2:Shared):Prop:=
 ∃(it:Addr) (fp:List Addr) (tn:Nat→Heap→Prop) (J:It) (H' :Hp),itv= .ref it∧Inv X pins σ H' s2∧Turn X.prog X.w X.K tg J fp it tn∧tn 0 s2.heap∧(∀b∈fp,mY X pins H' b)∧R J H'
noncomputable def PI(X:Cx)(tg iter:Expr)(wi:TI):Prop:=
 ∀(pins:List (Addr×Obj)) (s:Shared) (σ:St) (H:Hp) (R:It→Hp→Prop),Inv X pins σ H s→wi σ H R→
  wpAny (model X.prog X.w) X.A (eval iter X.env) (λv s1=>wpAny (model X.prog X.w) X.A (pyIter v) (PIE X pins σ tg R) X.xe s1) X.xe s
theorem Di{M:Model}{A:Around}{E:Value→Shared→Prop}{s:Shared}{tg:Expr}{it:Addr}{u:Value}{o:Obj}{n:String}{vs:Array Value}{Q:Unit→Shared→Prop}(ho:s.heap.get? it=some o)(hc:o.cls= .type n)(hd:o.data= .fields vs)
  (hn:["enumerate","zip","dict_itemiterator","dict_reverseitemiterator","odict_iterator","itertools.zip_longest","itertools.pairwise"].contains n=false)(hQ:Q () s):wpAny M A (letOwnedTupleGo tg (.ref it) u) Q E s:=by
 unfold letOwnedTupleGo
 cases tg<;>first
  |exact Gaf hQ
  |(cases u<;>first
    |exact Gaf hQ
    |(refine Gaa (wpAny_load ho ?_)
      rw[hc,hd]
      show wpAny M A (if(["enumerate","zip","dict_itemiterator","dict_reverseitemiterator","odict_iterator","itertools.zip_longest","itertools.pairwise"].contains n&&vs[0]? ==some (rawInt _))=true then _ else _) Q E s
      rw[Gag (by intro h;rw[hn,Bool.false_and] at h;cases h)]
      exact Gaf hQ))
noncomputable def Itl(K:PySem.W.Frag)(a:Addr):It:=
 ⟨λi H=>∃xs x,SqL K H a xs∧xs[i]? =some x,λi H x H' =>H' =H∧∀xs,SqL K H a xs→xs[i]? =some x,λi H=>∃xs,SqL K H a xs∧xs.length≤i⟩
noncomputable def Itt(K:PySem.W.Frag)(a:Addr):It:=
 ⟨λi H=>∃xs x,SqT K H a xs∧xs[i]? =some x,λi H x H' =>H' =H∧∀xs,SqT K H a xs→xs[i]? =some x,λi H=>∃xs,SqT K H a xs∧xs.length≤i⟩
noncomputable def Itr(lo:Int)(n:Nat):It:=⟨λi _=>i<n,λi H x H' =>H' =H∧x= .int (lo+i),λi _=>n≤i⟩
theorem BU{P:Program}{w:World}{K:PySem.W.Frag}{tg:Expr}(a it:Addr):Turn P w K tg (Itl K a) [it] it (λi h=>h.IsListIter it a i) where
 mem:=by simp
 obj:=λi h st b hb=>by
  have e:b=it:=by simpa using hb
  subst e
  obtain⟨o,e,c,d⟩:=st
  exact⟨o,e,λv z=>by rw[d] at z;cases z⟩
 keep:=λi h h' st k=>st.at λo e=>k it (by simp) o e
 item:=by
  intro X hP hw hK hc i pins s σ H E I hf st hg
  subst hP hw hK
  obtain⟨xs,x,hq,hx⟩:=hg
  obtain⟨its,rv,p,hz⟩:=I.list hq
  obtain⟨u,hu,ru⟩:=rv.get hx
  obtain⟨f0,f1,f2,f3,f4,f5⟩:=hf it (by simp)
  refine wpAny_pyNext_list_item st p.isList (x:=u) (by simpa using hu) λh' st' sb=> ?_
  have I1:Inv X pins σ H {s with heap:=h' }:=I.turned (t' :=s.toks) (λb o hb e=>(sb.2 b hb).trans e) f0 f1 f3 f4 f5
  obtain⟨o,e,c,d⟩:=id st'
  exact⟨u,rfl,Di (s:={s with heap:=h' }) e c d (by decide) ⟨x,H,I1,ru,⟨rfl,λys hy=>by rw[I.uQ hy hq];exact hx⟩,st',λb hb=>(hf b hb).1⟩⟩
 done:=by
  intro X hP hw hK hc i pins s σ H E I hf st hg
  subst hP hw hK
  obtain⟨xs,hq,hx⟩:=hg
  obtain⟨its,rv,p,hz⟩:=I.list hq
  obtain⟨f0,f1,f2,f3,f4,f5⟩:=hf it (by simp)
  have hl:=rv.length
  exact wpAny_pyNext_list_end (I.ok.hd hc) st p.isList (by simp;omega) λh' eb=> ⟨rfl,I.turned (t' :=s.toks) (λb o hb e=>eb b o hb e) f0 f1 f3 f4 f5⟩
 self:=λ_ _ _ _ _ st h=>wpAny_pyIter_listiter st h
theorem wV{P:Program}{w:World}{K:PySem.W.Frag}{tg:Expr}(a it:Addr):Turn P w K tg (Itt K a) [it] it (λi h=>h.IsTupleIter it a i) where
 mem:=by simp
 obj:=λi h st b hb=>by
  have e:b=it:=by simpa using hb
  subst e
  obtain⟨o,e,c,d⟩:=st
  exact⟨o,e,λv z=>by rw[d] at z;cases z⟩
 keep:=λi h h' st k=>st.at λo e=>k it (by simp) o e
 item:=by
  intro X hP hw hK hc i pins s σ H E I hf st hg
  subst hP hw hK
  obtain⟨xs,x,hq,hx⟩:=hg
  obtain⟨its,rv,p,hz⟩:=I.tuple hq
  obtain⟨u,hu,ru⟩:=rv.get hx
  obtain⟨f0,f1,f2,f3,f4,f5⟩:=hf it (by simp)
  refine wpAny_pyNext_tuple_item st (show s.heap.IsTuple a its.toArray from p) (x:=u) (by simpa using hu) λh' st' sb=> ?_
  have I1:Inv X pins σ H {s with heap:=h' }:=I.turned (t' :=s.toks) (λb o hb e=>(sb.2 b hb).trans e) f0 f1 f3 f4 f5
  obtain⟨o,e,c,d⟩:=id st'
  exact⟨u,rfl,Di (s:={s with heap:=h' }) e c d (by decide) ⟨x,H,I1,ru,⟨rfl,λys hy=>by rw[I.sG hy hq];exact hx⟩,st',λb hb=>(hf b hb).1⟩⟩
 done:=by
  intro X hP hw hK hc i pins s σ H E I hf st hg
  subst hP hw hK
  obtain⟨xs,hq,hx⟩:=hg
  obtain⟨its,rv,p,hz⟩:=I.tuple hq
  obtain⟨f0,f1,f2,f3,f4,f5⟩:=hf it (by simp)
  have hl:=rv.length
  exact wpAny_pyNext_tuple_end (I.ok.hd hc) st (show s.heap.IsTuple a its.toArray from p) (by simp;omega) λh' eb=> ⟨rfl,I.turned (t' :=s.toks) (λb o hb e=>eb b o hb e) f0 f1 f3 f4 f5⟩
 self:=λ_ _ _ _ _ st h=>wpAny_pyIter_tupleiter st h
theorem wW{P:Program}{w:World}{K:PySem.W.Frag}{tg:Expr}(it:Addr)(lo:Int)(n:Nat):Turn P w K tg (Itr lo n) [it] it (λi h=>IsRangeIter h it (lo+(i:Nat)*1) ((n:Int)-(i:Nat)) 1) where
 mem:=by simp
 obj:=λi h st b hb=>by
  have e:b=it:=by simpa using hb
  subst e
  exact⟨_,st,λv z=>by
   have z' :Data.fields _=Data.cell v:=z
   cases z'⟩
 keep:=λi h h' st k=>k it (by simp) _ st
 item:=by
  intro X hP hw hK hc i pins s σ H E I hf st hg
  subst hP hw hK
  obtain⟨f0,f1,f2,f3,f4,f5⟩:=hf it (by simp)
  have W:=Walks.range (prog:=X.prog) (w:=X.w) (I.ok.hd hc) it lo 1 n
  refine W.item i s _ _ hg st λv h' tk hv st' kk=> ?_
  obtain⟨t,rfl⟩:=hv
  have I1:Inv X pins σ H {s with heap:=h',toks:=tk}:=I.turned (λb o hb e=>kk b o (by simpa using hb) e) f0 f1 f3 f4 f5
  refine⟨_,rfl,Di (s:={s with heap:=h',toks:=tk}) (n:="range_iterator") st' rfl rfl (by decide) ⟨.int (lo+i),H,I1,⟨t, ?_⟩,⟨rfl,rfl⟩,st',λb hb=>(hf b hb).1⟩⟩
  rw[Int.mul_one]
 done:=by
  intro X hP hw hK hc i pins s σ H E I hf st hg
  subst hP hw hK
  obtain⟨f0,f1,f2,f3,f4,f5⟩:=hf it (by simp)
  exact wpAny_pyNext_range_end (I.ok.hd hc) st (by have:n≤i:=hg;omega) λh' eb=> ⟨rfl,I.turned (t' :=s.toks) (λb o hb e=>eb b o hb e) f0 f1 f3 f4 f5⟩
 self:=λ_ _ _ _ _ st h=>wpAny_pyIter_rangeiter st h
section
variable{X:Cx}{tg:Expr}
theorem kL{pins:List (Addr×Obj)}{σ:St}{H:Hp}{s:Shared}{R:It→Hp→Prop}{E:Value→Shared→Prop}{lo hi:Int}{t u v:Tok}{tk:Nat}(I:Inv X pins σ H s)(h1: -(2^62)≤lo)(h2:lo<2^62)(h3: -(2^62)≤hi)(h4:hi<2^62)
  (q:R (Itr lo (hi -lo).toNat) H):wpAny (model X.prog X.w) X.A (pyIter (.ref s.heap.objs.size)) (PIE X pins σ tg R) E {s with heap:=s.heap.push {cls:= .type "range",data:= .fields #[.int lo t,.int hi u,.int 1 v]},toks:=tk}:=by
 refine wpAny_pyIter_range (IsRange.new ..) (small_one h1 h2 h3 h4) ?_
 have I1:Inv X pins σ H {s with heap:=s.heap.push {cls:= .type "range",data:= .fields #[.int lo t,.int hi u,.int 1 v]},toks:=tk}:=I.kept λb o e=>Gak _ e
 refine⟨(s.heap.push {cls:= .type "range",data:= .fields #[.int lo t,.int hi u,.int 1 v]}).objs.size,[(s.heap.push {cls:= .type "range",data:= .fields #[.int lo t,.int hi u,.int 1 v]}).objs.size],_,_,H,rfl,
  I1.kept (t' :=tk) λb o e=>Gak _ e,wW _ lo (hi -lo).toNat, ?_,λb hb=> ?_,q⟩
 ·have e1:lo+((0:Nat):Int)*1=lo:=by simp
  have e2:(((hi -lo).toNat:Nat):Int)-((0:Nat):Int)=Builtin.Range.rangeSize lo hi 1:=by rw[rangeSize_one];split<;>omega
  show IsRangeIter _ _ (lo+((0:Nat):Int)*1) ((((hi -lo).toNat:Nat):Int)-((0:Nat):Int)) 1
  rw[e1,e2]
  exact GaD _ rfl
 ·have e:b=(s.heap.push {cls:= .type "range",data:= .fields #[.int lo t,.int hi u,.int 1 v]}).objs.size:=by simpa using hb
  subst e
  exact I1.BS (Gaq _) (I1.hok.fresh (Gaq _))
noncomputable def KQ(ta:TA):TI:=λσ H R=>ta σ H λvs H1=>∃j:Int,vs=[.int j]∧-(2^62)≤j∧j<2^62∧R (Itr 0 j.toNat) H1
noncomputable def KR(ta:TA):TI:=λσ H R=>ta σ H λvs H1=>∃i j:Int,vs=[.int i,.int j]∧(-(2^62)≤i∧i<2^62∧-(2^62)≤j∧j<2^62)∧R (Itr i (j -i).toNat) H1
theorem BV{a:Expr}{ta:TA}{p pos:Pos}(hg:Gl X "range")(hm:X.mg "range"=none)(ha:PA X [a] ta)(hs:starEach [a] X.env=[(false,eval a X.env)]:=by rfl):PI X tg (.Call (.Name "range" p) [a] [] pos) (KQ ta):=by
 intro pins s σ H R I h
 refine Call_ (mX I hg hm boot_range (Gci (thn (ha pos pins s σ H _ I h) λus s1 ⟨vs,H1,I1,r1,q1⟩=> ?_) hs rfl))
 obtain⟨j,e,q1,q2,q⟩:=q1
 subst e
 cases r1 with
 |cons r rr=>
  cases rr
  obtain⟨t,rfl⟩:=r
  exact call_range_1 (kL I1 (by omega) (by omega) q1 q2 (by simpa using q))
theorem BW{a b:Expr}{ta:TA}{p pos:Pos}(hg:Gl X "range")(hm:X.mg "range"=none)(ha:PA X [a,b] ta)(hs:starEach [a,b] X.env=[(false,eval a X.env),(false,eval b X.env)]:=by rfl)(hs2:starEach [b] X.env=[(false,eval b X.env)]:=by rfl):
  PI X tg (.Call (.Name "range" p) [a,b] [] pos) (KR ta):=by
 intro pins s σ H R I h
 refine Call_ (mX I hg hm boot_range (Gci (thn (ha pos pins s σ H _ I h) λus s1 ⟨vs,H1,I1,r1,q1⟩=> ?_) (by rw[hs,hs2]) (by rw[hs2];rfl)))
 obtain⟨i,j,e,⟨q1,q2,q3,q4⟩,q⟩:=q1
 subst e
 cases r1 with
 |cons r rr=>
  cases rr with
  |cons r' rr=>
   cases rr
   obtain⟨t,rfl⟩:=r
   obtain⟨t',rfl⟩:=r'
   exact call_range_2 (kL I1 q1 q2 q3 q4 q)
noncomputable def Nd(wi:TI)(g:TG)(tb:TS):TS:=λD σ H=>wi σ H λJ H1=>∃W:Nat→Nat→St→Hp→Prop,(∃m,W 0 m σ H1)∧∀i m σ H,W i m σ H→
 (J.stop i H∧D.nx σ H)∨(J.go i H∧∃N:St→Hp→Prop,(∀σ' H',N σ' H' →∃m',m' <m∧W (i+1) m' σ' H')∧∀x H',J.yld i H x H' →g x σ H' λσ2 H2=>tb {D with nx:=N,ct:=N,bk:=D.nx} σ2 H2)
noncomputable def qq(fp:List Addr)(h:Heap):List (Addr×Obj):=fp.filterMap λb=>(h.get? b).map λo=>(b,o)
theorem k4{fp:List Addr}{h:Heap}{b:Addr}{o:Obj}(hb:b∈fp)(e:h.get? b=some o):(b,o)∈qq fp h:=List.mem_filterMap.mpr ⟨b,hb,by rw[e];rfl⟩
theorem BX{fp:List Addr}{h:Heap}{p:Addr×Obj}(hp:p∈qq fp h):p.1∈fp∧h.get? p.1=some p.2:=by
 obtain⟨b,hb,e⟩:=List.mem_filterMap.mp hp
 cases q:h.get? b with
 |none=>rw[q] at e;cases e
 |some o=>
  rw[q] at e
  have e' :(b,o)=p:=Option.some.inj e
  subst e'
  exact⟨hb,q⟩
theorem Inv.pinned{pins:List (Addr×Obj)}{σ:St}{H:Hp}{s:Shared}{fp:List Addr}(I:Inv X pins σ H s)(hf:∀b∈fp,mY X pins H b)(ho:∀b∈fp,∃o,s.heap.get? b=some o∧∀v,o.data≠ .cell v):Inv X (pins++qq fp s.heap) σ H s:=
 I.AS λp hp=>(Gay.mp hp).elim (λz=>I.pin p (Gba _ z)) λz=>by
  obtain⟨hb,e⟩:=BX z
  obtain⟨f0,f1,f2,_⟩:=hf p.1 hb
  obtain⟨o,e',d⟩:=ho p.1 hb
  rw[e] at e';cases e'
  exact⟨e,f0,f1,f2,d⟩
theorem Inv.nB{pins pl:List (Addr×Obj)}{σ:St}{H:Hp}{s:Shared}(I:Inv X (pins++pl) σ H s):Inv X pins σ H s:=I.AS λp hp=>I.pin p (Gba _ (GbU _ hp))
theorem Dj{iter:Expr}{body:List Stmt}{wi:TI}{g:TG}{tb:TS}{pos:Pos}(hp:PassesOwn (model X.prog X.w) X.A X.env X.xe)(hc:X.calm=true)(hi:PI X tg iter wi)(hg:PG X tg g)(hb:PSs X body tb)
  (hs:∀x,foldedSetIterable iter X.env x=pure x:=by intro _;rfl):PS X (.For tg iter body [] pos) (Nd wi g tb):=by
 intro pins s σ H D I h
 refine wpAny_For (thn (hi pins s σ H _ I h) λv s1 h1=>thn h1 λitv s2 h2=> ?_) hs
 obtain⟨it,fp,tn,J,H2,e,I2,T,st2,f2,W,⟨m0,w0⟩,turn⟩:=h2
 subst e
 have stat:∀{H' :Hp},(∀b∈fp,H' b=none)→∀b∈fp,mY X pins H' b:=λhn b hb=> ⟨hn b hb,(f2 b hb).2⟩
 refine codeAny_forLoop_any (λn s' =>∃i σ' H',Inv X pins σ' H' s' ∧tn i s'.heap∧(∀b∈fp,H' b=none)∧W i n σ' H') ?_ m0 ⟨0,σ,H2,I2,st2,λb hb=>(f2 b hb).1,w0⟩
 rintro n s3 ⟨i,σ3,H3,I3,st3,fr3,w3⟩
 rcases turn i n σ3 H3 w3 with⟨stop,qn⟩| ⟨go,N,hN,step⟩
 ·refine Gcm hp (thn (T.done X rfl rfl rfl hc i pins s3 σ3 H3 X.xe I3 (stat fr3) st3 stop) λr s4 ⟨hr,I4⟩=> ?_)
  subst hr
  exact Gdt ⟨σ3,H3,I4,qn⟩
 ·refine Gcm hp (thn (T.item X rfl rfl rfl hc i pins s3 σ3 H3 X.xe I3 (stat fr3) st3 go) λr s4 ⟨u,hr,h4⟩=> ?_)
  subst hr
  refine Gcm hp (thn h4 λ_ s5 ⟨x,H5,I5,r5,y5,st5,fr5⟩=> ?_)
  have I5' :=I5.pinned (stat fr5) (T.obj _ _ st5)
  refine Gcm hp (thn (hg _ s5 σ3 H5 x u _ I5' r5 (step x H5 y5)) λ_ s6 ⟨σ6,H6,I6,q6⟩=> ?_)
  refine Gcm hp (thn (hb _ s6 σ6 H6 _ I6 q6) λf s7 q7=> ?_)
  have again:∀{σ7:St} {H7:Hp},Inv X (pins++qq fp s5.heap) σ7 H7 s7→N σ7 H7→∃m,m<n∧∃i σ' H',Inv X pins σ' H' s7∧tn i s7.heap∧(∀b∈fp,H' b=none)∧W i m σ' H' :=λ{σ7 H7} I7 n7=>by
   obtain⟨m',hm,w7⟩:=hN σ7 H7 n7
   refine⟨m',hm,i+1,σ7,H7,I7.nB,T.keep _ _ _ st5 λb hb o e=>(I7.pin (b,o) (Gba _ (Gba _ (k4 hb e)))).1,λb hb=> ?_,w7⟩
   obtain⟨o,e,d⟩:=T.obj _ _ st5 b hb
   exact(I7.pin (b,o) (Gba _ (Gba _ (k4 hb e)))).2.1
  cases f with
  |next=>obtain⟨σ7,H7,I7,n7⟩:=q7;exact again I7 n7
  |cont=>obtain⟨σ7,H7,I7,n7⟩:=q7;exact again I7 n7
  |brk=>obtain⟨σ7,H7,I7,q7⟩:=q7;exact⟨σ7,H7,I7.nB,q7⟩
  |ret v=>obtain⟨x7,σ7,H7,I7,r7,q7⟩:=q7;exact⟨x7,σ7,H7,I7.nB,r7,q7⟩
end
noncomputable abbrev R2:=V→V→Hp→VK→Prop
noncomputable def OpR(X:Cx)(f:Value→Value→Sem Value)(r:R2):Prop:=
 ∀(pins:List (Addr×Obj)) (s:Shared) (σ:St) (H:Hp) (x y:V) (v u:Value) (Q:VK),Inv X pins σ H s→RelV x v→RelV y u→r x y H Q→
  wpAny (model X.prog X.w) X.A (f v u) (EP X pins σ Q) X.xe s
noncomputable def UnR(X:Cx)(f:Value→Sem Value)(r:V→Hp→VK→Prop):Prop:=
 ∀(pins:List (Addr×Obj)) (s:Shared) (σ:St) (H:Hp) (x:V) (v:Value) (Q:VK),Inv X pins σ H s→RelV x v→r x H Q→
  wpAny (model X.prog X.w) X.A (f v) (EP X pins σ Q) X.xe s
noncomputable def i5(X:Cx)(f:Value)(r:List V→Hp→VK→Prop):Prop:=
 ∀(pins:List (Addr×Obj)) (s:Shared) (σ:St) (H:Hp) (xs:List V) (us:List Value) (Q:VK),Inv X pins σ H s→Vals xs us→r xs H Q→
  wpAny (model X.prog X.w) X.A (call f us) (EP X pins σ Q) X.xe s
noncomputable def tOp(r:R2)(ta tb:TE):TE:=λσ H Q=>ta σ H λx H1=>tb σ H1 λy H2=>r x y H2 Q
noncomputable def tUn(r:V→Hp→VK→Prop)(ta:TE):TE:=λσ H Q=>ta σ H λx H1=>r x H1 Q
noncomputable def rI(C:Int→Int→Prop)(g:Int→Int→V):R2:=λx y H Q=>∃i j,x= .int i∧y= .int j∧C i j∧Q (g i j) H
noncomputable def rI0(g:Int→Int→V):R2:=λx y H Q=>∃i j,x= .int i∧y= .int j∧Q (g i j) H
noncomputable def rU(g:Int→V):V→Hp→VK→Prop:=λx H Q=>∃i,x= .int i∧Q (g i) H
section
variable{X:Cx}{a b c:Expr}{ta tb tc:TE}{pos:Pos}
theorem IE(ha:PE X a ta)(hb:PE X b tb){pins:List (Addr×Obj)}{s:Shared}{σ:St}{H:Hp}{R:V→V→Hp→Prop}(I:Inv X pins σ H s)
  (h:ta σ H λx H1=>tb σ H1 λy H2=>R x y H2){Q:Value→Shared→Prop}{f:Value→Value→Sem Value}
  (hf:∀v u s2 x y H2,Inv X pins σ H2 s2→RelV x v→RelV y u→R x y H2→wpAny (model X.prog X.w) X.A (f v u) Q X.xe s2):
  wpAny (model X.prog X.w) X.A (eval a X.env) (λv s₁=>wpAny (model X.prog X.w) X.A (eval b X.env) (λu s₂=>wpAny (model X.prog X.w) X.A (f v u) Q X.xe s₂) X.xe s₁) X.xe s:=by
 refine thn (ha pins s σ H _ I h) λv s1 ⟨x,H1,I1,r1,q1⟩=> ?_
 refine thn (hb pins s1 σ H1 _ I1 q1) λu s2 ⟨y,H2,I2,r2,q2⟩=> ?_
 exact hf v u s2 x y H2 I2 r1 r2 q2
theorem KS{op:Operator}{r:R2}(ho:OpR X (binaryOp op) r)(ha:PE X a ta)(hb:PE X b tb):PE X (.BinOp a op b pos) (tOp r ta tb):=by
 intro pins s σ H Q I h
 exact wpAny_BinOp (IE ha hb I h λv u s2 x y H2 I2 rx ry q=>ho pins s2 σ H2 x y v u Q I2 rx ry q)
theorem KU{op:UnaryOp}{r:V→Hp→VK→Prop}(ho:UnR X (unaryOp op) r)(ha:PE X a ta):PE X (.UnaryOp op a pos) (tUn r ta):=by
 intro pins s σ H Q I h
 exact UnaryOp_ (thn (ha pins s σ H _ I h) λv s1 ⟨x,H1,I1,r1,q1⟩=>ho pins s1 σ H1 x v Q I1 r1 q1)
theorem opI{f:Value→Value→Sem Value}{C:Int→Int→Prop}{g:Int→Int→Int}
  (rule:∀(i j:Int) (t u:Tok) (s:Shared) (Q:Value→Shared→Prop) (E:Value→Shared→Prop),C i j→Q (.int (g i j) s.toks) {s with toks:=s.toks+1}→wpAny (model X.prog X.w) X.A (f (.int i t) (.int j u)) Q E s):
  OpR X f (rI C λi j=> .int (g i j)):=by
 intro pins s σ H x y v u Q I rx ry h
 obtain⟨i,j,rfl,rfl,hc,q⟩:=h
 obtain⟨t,rfl⟩:=rx
 obtain⟨t',rfl⟩:=ry
 exact rule i j t t' s _ _ hc ⟨.int (g i j),H,I.tok _,⟨_,rfl⟩,q⟩
theorem KW{f:Value→Value→Sem Value}{g:Int→Int→Int}
  (rule:∀(i j:Int) (t u:Tok) (s:Shared) (Q:Value→Shared→Prop) (E:Value→Shared→Prop),Q (.int (g i j) s.toks) {s with toks:=s.toks+1}→wpAny (model X.prog X.w) X.A (f (.int i t) (.int j u)) Q E s):
  OpR X f (rI0 λi j=> .int (g i j)):=by
 intro pins s σ H x y v u Q I rx ry h
 obtain⟨i,j,rfl,rfl,q⟩:=h
 obtain⟨t,rfl⟩:=rx
 obtain⟨t',rfl⟩:=ry
 exact rule i j t t' s _ _ ⟨.int (g i j),H,I.tok _,⟨_,rfl⟩,q⟩
theorem FV{f:Value→Value→Sem Value}{g:Int→Int→Bool}
  (rule:∀(i j:Int) (t u:Tok) (s:Shared) (Q:Value→Shared→Prop) (E:Value→Shared→Prop),Q (.bool (g i j)) s→wpAny (model X.prog X.w) X.A (f (.int i t) (.int j u)) Q E s):
  OpR X f (rI0 λi j=> .bl (g i j)):=by
 intro pins s σ H x y v u Q I rx ry h
 obtain⟨i,j,rfl,rfl,q⟩:=h
 obtain⟨t,rfl⟩:=rx
 obtain⟨t',rfl⟩:=ry
 exact rule i j t t' s _ _ ⟨.bl (g i j),H,I,rfl,q⟩
noncomputable def KY(i j:Int):Prop:=0<j∧j<1073741824
noncomputable def KZ(i j:Int):Prop:=0≤j∧j≤1000000∧i.natAbs<2^64
noncomputable def FW(i j:Int):Prop:=(-(2^64)<i∧i<2^64)∨(-(2^64)<j∧j<2^64)
theorem FW.ok{i j:Int}(h:FW i j):IntMulOk i j:=by
 rcases h with⟨h1,h2⟩| ⟨h1,h2⟩
 ·exact .of_left (intBits_le_64 h1 h2)
 ·exact .of_right (intBits_le_64 h1 h2)
theorem IF:OpR X (binaryOp .Add) (rI0 λi j=> .int (i+j)):=KW λ_ _ _ _ _ _ _ q=>add_int q
theorem IG:OpR X (binaryOp .Sub) (rI0 λi j=> .int (i -j)):=KW λ_ _ _ _ _ _ _ q=>sub_int q
theorem IH:OpR X (binaryOp .Mult) (rI FW λi j=> .int (i*j)):=opI λ_ _ _ _ _ _ _ hc q=>mul_int q hc.ok
theorem FX:OpR X (binaryOp .FloorDiv) (rI KY λi j=> .int (i/j)):=opI λi j _ _ _ _ _ hc q=>by
 have h1:(0:Int)<j:=hc.1
 have h2:j<1073741824:=hc.2
 exact floordiv_int (by omega) (by rw[Int.fdiv_eq_ediv_of_nonneg i (by omega)];exact q) (.inl (PyProof.noPylong_small (by omega)))
theorem II:OpR X (binaryOp .Mod) (rI (λ_ j=>0<j) λi j=> .int (i%j)):=opI λi j _ _ _ _ _ hc q=>by
 have h1:(0:Int)<j:=hc
 exact mod_int' (by omega) (by rw[Int.fmod_eq_emod_of_nonneg i (by omega)];exact q)
theorem IJ:OpR X (binaryOp .Pow) (rI KZ λi j=> .int (i^j.toNat)):=opI λ_ _ _ _ _ _ _ hc q=>pow_int_small hc.1 hc.2.1 hc.2.2 q
theorem unI{f:Value→Sem Value}{g:Int→Int}
  (rule:∀(i:Int) (t:Tok) (s:Shared) (Q:Value→Shared→Prop) (E:Value→Shared→Prop),Q (.int (g i) s.toks) {s with toks:=s.toks+1}→wpAny (model X.prog X.w) X.A (f (.int i t)) Q E s):
  UnR X f (rU λi=> .int (g i)):=by
 intro pins s σ H x v Q I rx h
 obtain⟨i,rfl,q⟩:=h
 obtain⟨t,rfl⟩:=rx
 exact rule i t s _ _ ⟨.int (g i),H,I.tok _,⟨_,rfl⟩,q⟩
theorem IK:UnR X (unaryOp .USub) (rU λi=> .int (-i)):=unI λ_ _ _ _ _ q=>neg_int q
end
section
variable{X:Cx}{a b c:Expr}{ta tb tc:TE}{pos:Pos}
theorem Dk{pins:List (Addr×Obj)}{σ:St}{H:Hp}{s:Shared}{Q:VK}{k k' :Bool}(I:Inv X pins σ H s)(q:Q (.bl k) H)(e:k=k'):EP X pins σ Q (.bool k') s:=by
 subst e
 exact⟨.bl k,H,I,rfl,q⟩
theorem pf:OpR X (compareOp .Lt) (rI0 λi j=> .bl (decide (i<j))):=FV λ_ _ _ _ _ _ _ q=>lt_int q
theorem uR:OpR X (compareOp .LtE) (rI0 λi j=> .bl (decide (i≤j))):=FV λ_ _ _ _ _ _ _ q=>le_int q
theorem nC:OpR X (compareOp .Gt) (rI0 λi j=> .bl (decide (j<i))):=FV λ_ _ _ _ _ _ _ q=>gt_int q
theorem L0:OpR X (compareOp .GtE) (rI0 λi j=> .bl (decide (j≤i))):=FV λ_ _ _ _ _ _ _ q=>ge_int q
theorem wX:OpR X (compareOp .Is) (λx y H Q=>y= .non∧Q (.bl (decide (x= .non))) H):=by
 intro pins s σ H x y v u Q I rx ry h
 obtain⟨rfl,q⟩:=h
 cases ry
 refine is_none_gen (Dk I q ?_)
 cases x<;>first
  |(cases rx;rfl)
  |(obtain⟨t,rfl⟩:=rx;rfl)
theorem tX:OpR X (compareOp .IsNot) (λx y H Q=>y= .non∧Q (.bl (!decide (x= .non))) H):=by
 intro pins s σ H x y v u Q I rx ry h
 obtain⟨rfl,q⟩:=h
 cases ry
 refine isnot_none_gen (Dk I q ?_)
 cases x<;>first
  |(cases rx;rfl)
  |(obtain⟨t,rfl⟩:=rx;rfl)
theorem OpR.or{f:Value→Value→Sem Value}{r r' :R2}(h:OpR X f r)(h' :OpR X f r'):OpR X f (λx y H Q=>r x y H Q∨r' x y H Q):=by
 intro pins s σ H x y v u Q I rx ry q
 rcases q with q|q
 ·exact h pins s σ H x y v u Q I rx ry q
 ·exact h' pins s σ H x y v u Q I rx ry q
theorem aM(b:Expr){op:CmpOp}(h:op≠ .In:=by decide)(h2:op≠ .NotIn:=by decide):behindInMarks op b=false:=by
 have e1:(op==CmpOp.In)=false:=by cases op<;>first|rfl|exact absurd rfl h
 have e2:(op==CmpOp.NotIn)=false:=by cases op<;>first|rfl|exact absurd rfl h2
 cases b<;>simp[behindInMarks,e1,e2]
theorem FY{op:CmpOp}{r:R2}(ho:OpR X (compareOp op) r)(ha:PE X a ta)(hb:PE X b tb)(hm:behindInMarks op b=false):PE X (.Compare a [op] [b] pos) (tOp r ta tb):=by
 intro pins s σ H Q I h
 exact wpAny_Compare1 (IE ha hb I h λv u s2 x y H2 I2 rx ry q=>ho pins s2 σ H2 x y v u Q I2 rx ry q) hm
noncomputable def HQ(t:TE):TT:=λσ H Q=>t σ H λx H' =>∃k,x= .bl k∧Q k H'
theorem FZ{op:CmpOp}{r:R2}(ho:OpR X (compareOp op) r)(ha:PE X a ta)(hb:PE X b tb)(hm:behindInMarks op b=false):PT X (.Compare a [op] [b] pos) (HQ (tOp r ta tb)):=by
 intro pins s σ H Q I h
 refine wpAny_isTrue_Compare1 (thn (ha pins s σ H _ I h) λv s1 ⟨x,H1,I1,r1,q1⟩=>thn (hb pins s1 σ H1 _ I1 q1) λu s2 ⟨y,H2,I2,r2,q2⟩=>
  thn (ho pins s2 σ H2 x y v u _ I2 r1 r2 q2) λc s3 ⟨z,H3,I3,r3,k,e,q3⟩=> ?_) hm
 subst e
 cases r3
 exact GbF ⟨H3,I3,q3⟩
noncomputable def IL(r r' :R2)(ta tb tc:TE):TE:=λσ H Q=>ta σ H λx H1=>tb σ H1 λy H2=>r x y H2 λz H3=>∃k,z= .bl k∧
 (if k=true then tc σ H3 λw' H4=>r' y w' H4 Q else Q (.bl false) H3)
theorem Dl{op op' :CmpOp}{r r' :R2}(ho:OpR X (compareOp op) r)(ho' :OpR X (compareOp op') r')(ha:PE X a ta)(hb:PE X b tb)(hc:PE X c tc)
  (hm:lastMarks [op,op'] [b,c]=false:=by with_unfolding_all rfl):PT X (.Compare a [op,op'] [b,c] pos) (HQ (IL r r' ta tb tc)):=by
 intro pins s σ H Q I h
 refine isTrue_chain (thn (ha pins s σ H _ I h) λv s1 ⟨x,H1,I1,r1,q1⟩=>test_link (thn (hb pins s1 σ H1 _ I1 q1) λu s2 ⟨y,H2,I2,r2,q2⟩=>
  thn (ho pins s2 σ H2 x y v u _ I2 r1 r2 q2) λd s3 ⟨z,H3,I3,r3,k,e,q3⟩=> ?_)) hm
 subst e
 cases r3
 refine GbF ?_
 cases k with
 |false=>
  obtain⟨k',e',q'⟩:=q3
  cases e'
  exact ite_ff ⟨H3,I3,q'⟩
 |true=>
  refine ite_tt (test_last (thn (hc pins s3 σ H3 _ I3 q3) λw' s4 ⟨z',H4,I4,r4,q4⟩=>thn (ho' pins s4 σ H4 y z' u w' _ I4 r2 r4 q4) λd' s5 ⟨z2,H5,I5,r5,k2,e2,q5⟩=> ?_))
  subst e2
  cases r5
  exact GbF ⟨H5,I5,q5⟩
theorem qr:(sizeLine:Nat)<2^63:=by rw[GbG];decide
theorem wY:OpR X (binaryOp .Add) (λx y H Q=>∃i j,x= .str i∧y= .str j∧i.length+j.length≤sizeLine∧Q (.str (i++j)) H):=by
 intro pins s σ H x y v u Q I rx ry h
 obtain⟨i,j,rfl,rfl,hz,q⟩:=h
 obtain⟨t,rfl⟩:=rx
 obtain⟨t',rfl⟩:=ry
 exact add_str (λt' tk=> ⟨.str (i++j),H,I.tok _,⟨_,rfl⟩,q⟩) hz
theorem vals1{x:V}{us:List Value}(r:Vals [x] us):∃u,us=[u]∧RelV x u:=by
 cases r with
 |cons r1 r2=>cases r2;exact⟨_,rfl,r1⟩
theorem vals2{x y:V}{us:List Value}(r:Vals [x,y] us):∃u w',us=[u,w']∧RelV x u∧RelV y w' :=by
 cases r with
 |cons r1 r2=>
  cases r2 with
  |cons r3 r4=>cases r4;exact⟨_,_,rfl,r1,r3⟩
theorem BY(hc:X.calm=true):i5 X (.builtin "max") (λxs H Q=>∃i j,xs=[.int i,.int j]∧Q (.int (if j>i then j else i)) H):=by
 intro pins s σ H xs us Q I r h
 obtain⟨i,j,rfl,q⟩:=h
 obtain⟨u,w',rfl,⟨t,rfl⟩,⟨t',rfl⟩⟩:=vals2 r
 refine max_two_ints (I.ok.hd hc) λh' tk k=> ⟨_,H,I.kept k, ?_,q⟩
 by_cases hj:j>i
 ·rw[Gah hj,Gah hj];exact⟨_,rfl⟩
 ·rw[Gag hj,Gag hj];exact⟨_,rfl⟩
theorem sI(hc:X.calm=true):i5 X (.builtin "min") (λxs H Q=>∃i j,xs=[.int i,.int j]∧Q (.int (if j<i then j else i)) H):=by
 intro pins s σ H xs us Q I r h
 obtain⟨i,j,rfl,q⟩:=h
 obtain⟨u,w',rfl,⟨t,rfl⟩,⟨t',rfl⟩⟩:=vals2 r
 refine min_two_ints (I.ok.hd hc) λh' tk k=> ⟨_,H,I.kept k, ?_,q⟩
 by_cases hj:j<i
 ·rw[Gah hj,Gah hj];exact⟨_,rfl⟩
 ·rw[Gag hj,Gag hj];exact⟨_,rfl⟩
noncomputable def L1(K:PySem.W.Frag)(x:V)(H:Hp)(n:Nat):Prop:=
 match x with
 | .str y=>y.length≤sizeLine∧n=y.length
 | .byt y=>y.size≤sizeLine∧n=y.size
 | .ref p=>(∃xs,SqL K H p xs∧n=xs.length)∨∃xs,SqT K H p xs∧n=xs.length
 |_=>False
theorem cA:i5 X (.builtin "len") (λxs H Q=>∃x n,xs=[x]∧L1 X.K x H n∧Q (.int n) H):=by
 intro pins s σ H xs us Q I r h
 obtain⟨x,n,rfl,e,q⟩:=h
 obtain⟨u,rfl,rx⟩:=vals1 r
 have hl:=qr
 have hs:sizeLine=16777216:=GbG
 cases x with
 |str y=>
  obtain⟨t,rfl⟩:=rx
  obtain⟨hy,e'⟩:y.length≤sizeLine∧n=y.length:=e
  subst e'
  exact len_str (by omega) ⟨.int _,H,I.tok _,⟨_,rfl⟩,q⟩
 |byt y=>
  obtain⟨t,rfl⟩:=rx
  obtain⟨hy,e'⟩:y.size≤sizeLine∧n=y.size:=e
  subst e'
  exact PySem.W.len_bytes (by omega) ⟨.int _,H,I.tok _,⟨_,rfl⟩,q⟩
 |ref p=>
  cases rx
  have e' :(∃xs,SqL X.K H p xs∧n=xs.length)∨∃xs,SqT X.K H p xs∧n=xs.length:=e
  rcases e' with⟨xs,hx,e'⟩| ⟨xs,hx,e'⟩
  ·subst e'
   obtain⟨its,r',pl,hz⟩:=I.list hx
   have hlen:=r'.length
   exact Calls.call_len_list pl.isList (by simp only[Gam];omega) ⟨.int xs.length,H,I.tok _,⟨_,by simp only[Gam];rw[hlen]⟩,q⟩
  ·subst e'
   obtain⟨its,r',pl,hz⟩:=I.tuple hx
   have hlen:=r'.length
   exact len_tuple pl (by simp only[Gam];omega) ⟨.int xs.length,H,I.tok _,⟨_,by simp only[Gam];rw[hlen]⟩,q⟩
 |_=>exact(show False from e).elim
end
structure IM(h:Heap)(x dx C:Addr)(mA:Str→Option Value):Prop where
 obj:h.get? x=some (PySem.W.instObj C dx)
 ns:h.Ns1 dx mA
 ne:dx≠x
theorem BZ{h:Heap}{dx:Addr}{mA:Str→Option Value}(n:h.Ns1 dx mA):∃od,h.get? dx=some od∧∀name,PySem.W.lookIn name od=some (mA name):=by
 obtain⟨o,es,ep,ho,hd,hk,_,hm⟩:=n
 refine⟨o,ho,λname=> ?_⟩
 have e:=hm name
 unfold nsFind findBy at e
 rw[←Array.find?_toList] at e
 unfold PySem.W.lookIn
 rw[hd]
 dsimp only
 split
 ·rename_i y q
  rw[q] at e
  exact congrArg some e
 ·rename_i q
  rw[q] at e
  have a:es.toList.any (·.refKey)=false:=by
   rw[GdE]
   intro y hy
   obtain⟨z,t,hkey⟩:=hk y (Array.mem_toList_iff.mp hy)
   simp[DictEntry.refKey,hkey]
  have a' :¬es.toList.any (·.refKey)=true:=by rw[a];exact Gau
  rw[Gag a']
  exact congrArg some e
theorem IM.look{h:Heap}{x dx C:Addr}{mA:Str→Option Value}(I:IM h x dx C mA):∃od,PySem.W.InstAt h x (PySem.W.instObj C dx) C (some od)∧∀name,PySem.W.lookIn name od=some (mA name):=
 let⟨od,ho,hl⟩:=BZ I.ns
 ⟨od,⟨I.obj,rfl,rfl,ho⟩,hl⟩
theorem oA.some_of{v:V}{o:Option Value}(r:oA (some v) o):∃u,o=some u∧RelV v u:=by
 cases o with
 |none=>exact(show False from r).elim
 |some u=>exact⟨u,rfl,r⟩
section
variable{P:Program}{w:World}{H H' :Hp}{h h' :Heap}{a C dx:Addr}{fs fs' :List (Str×V)}
theorem G0(hok:HOk P w H h)(e:H a=some (.ins C dx fs)):∃mA,IM h a dx C mA∧(∀f,oA (fs.lookup f) (mA f))∧PySem.Within mA (fs.map (·.1))∧fs.length≤1000∧H dx=some (.own a):=by
 obtain⟨d,z,ne,ob,mA,n,r,q⟩:=(show cz P w H h a (.ins C dx fs) from hok a _ e)
 exact⟨mA,⟨ob,n,ne⟩,r,q,z,d⟩
end
structure Cls(K:PySem.W.Frag)(C:Addr):Prop where
 pg:PySem.W.plainGet K C Str.empty=true
 hd:PySem.W.hasDictIn K C=true
 po:PySem.W.plainOver K C=true
 sa:PySem.W.findIn K (.ref C) "__setattr__"=some (some (.builtin "object.__setattr__"))
theorem Cls.get{K:PySem.W.Frag}{C:Addr}(c:Cls K C)(f:Str):PySem.W.plainGet K C f=true:=c.pg
section
variable{X:Cx}{pins:List (Addr×Obj)}{σ:St}{H:Hp}{s:Shared}{A:Around}{E:Value→Shared→Prop}{Q:Value→Shared→Prop}{c:Value}{b:Bool}
inductive mZ(K:PySem.W.Frag)(H:Hp):V→Value→Prop where
 |non:mZ K H .non (.type "NoneType")
 |bl (x:Bool):mZ K H (.bl x) (.type "bool")
 |int (i:Int):mZ K H (.int i) (.type "int")
 |str (x:Str):mZ K H (.str x) (.type "str")
 |flt (x:UInt64):mZ K H (.flt x) (.type "float")
 |lst {a:Addr} {xs:List V} (e:H a=some (.lst xs)):mZ K H (.ref a) (.type "list")
 |frz {a:Addr} {o:Obj} {xs:List V} (e:H a=some (.frz o (.lst xs))):mZ K H (.ref a) (.type "list")
 |tup {a:Addr} {xs:List V} (e:H a=some (.tup xs)):mZ K H (.ref a) (.type "tuple")
 |dK {a:Addr} {kvs:List (Key×V)} (e:H a=some (.dK kvs)):mZ K H (.ref a) (.type "dict")
 |dT {a:Addr} {kvs:List (List Key×V)} (e:H a=some (.dT kvs)):mZ K H (.ref a) (.type "dict")
 |ins {a C dx:Addr} {fs:List (Str×V)} (e:H a=some (.ins C dx fs)) (cl:Cls K C) (ha:PySem.W.findIn K (.ref C) "__class__"=some (some (.builtin "object.__class__")))
   (hn:PySem.W.specialIn K (.builtin "object.__class__") "__get__"=some (some (.builtin "getset_descriptor.__get__"))) (htk:PySem.W.takesIn K (.builtin "object.__class__")=some true)
   (hm:PySem.W.mroIn K C (.type "object")=some true):mZ K H (.ref a) (.ref C)
theorem C0{x:V}{u t:Value}(I:Inv X pins σ H s)(rx:RelV x u)(ty:mZ X.K H x t)(e:PySem.W.kitOne X.K t c=some b)(h:∀tk,Q (.bool b) {s with toks:=tk}):
  wpAny (model X.prog X.w) A (call (.builtin "isinstance") [u,c]) Q E s:=by
 cases ty with
 |non=>cases(show u=Value.none from rx);exact Gbq PySem.W.kitx_none I.kIn True.intro e (λz=>nomatch z) h
 |bl y=>cases(show u=Value.bool y from rx);exact Gbq PySem.W.kitx_bool I.kIn True.intro e (λz=>nomatch z) h
 |int i=>obtain⟨t,q⟩:=(show∃t,u=Value.int i t from rx);cases q;exact Gbq PySem.W.kitx_int I.kIn True.intro e (λz=>nomatch z) h
 |str y=>obtain⟨t,q⟩:=(show∃t,u=Value.str y t from rx);cases q;exact Gbq PySem.W.kitx_str I.kIn True.intro e (λz=>nomatch z) h
 |flt y=>obtain⟨t,q⟩:=(show∃t,u=Value.float y t from rx);cases q;exact Gbq PySem.W.kitx_float I.kIn True.intro e (λz=>nomatch z) h
 | @lst a xs ea=>
  cases(show u=Value.ref a from rx)
  obtain⟨_,_,n,_,h1⟩:=(show cz X.prog X.w H s.heap a (.lst xs) from I.hok a _ ea)
  exact Gbq PySem.W.kitx_list I.kIn ⟨_,h1,rfl⟩ e (λz=>nomatch z) h
 | @frz a ob xs ea=>
  cases(show u=Value.ref a from rx)
  obtain⟨_,_,_,n,_,h1⟩:=(show cz X.prog X.w H s.heap a (.frz ob (.lst xs)) from I.hok a _ ea)
  exact Gbq PySem.W.kitx_list I.kIn ⟨_,h1,rfl⟩ e (λz=>nomatch z) h
 | @tup a xs ea=>
  cases(show u=Value.ref a from rx)
  obtain⟨_,_,_,p⟩:=(show cz X.prog X.w H s.heap a (.tup xs) from I.hok a _ ea)
  obtain⟨o,h1,h2,_⟩:=p
  exact Gbq PySem.W.kitx_tuple I.kIn ⟨o,h1,h2⟩ e (λz=>nomatch z) h
 | @dK a kvs ea=>
  cases(show u=Value.ref a from rx)
  obtain⟨_,_,vs,_,p⟩:=(show cz X.prog X.w H s.heap a (.dK kvs) from I.hok a _ ea)
  obtain⟨o,es,ep,h1,h2,_⟩:=p
  exact Gbq PySem.W.kitx_dict I.kIn ⟨o,h1,h2.1⟩ e (λz=>nomatch z) h
 | @dT a kvs ea=>
  cases(show u=Value.ref a from rx)
  obtain⟨_,_,xs,_,o,es,ep,h1,h2,_⟩:=(show cz X.prog X.w H s.heap a (.dT kvs) from I.hok a _ ea)
  exact Gbq PySem.W.kitx_dict I.kIn ⟨o,h1,h2.1⟩ e (λz=>nomatch z) h
 | @ins a C dx fs ea cl ha hn htk hm=>
  cases(show u=Value.ref a from rx)
  obtain⟨mA,O,_⟩:=G0 I.hok ea
  obtain⟨od,J,_⟩:=O.look
  exact Gbq (PySem.W.kitx_own (cl.get _) cl.hd ha hn htk hm) I.kIn J e (λz=>nomatch z) h
end
structure gZ(k:Nat)(A:Around):Prop where
 hd:A.handled=none
 dp:A.depth+3*k+5<recursionLimit
 un:A.units+16*k+200<cLine
theorem gZ.mono{j k:Nat}{A:Around}(r:gZ k A)(h:j≤k):gZ j A:=⟨r.hd,by have:=r.dp;omega,by have:=r.un;omega⟩
theorem gZ.deeper{k:Nat}{A:Around}(r:gZ (k+1) A)(env:Env):gZ k (A.deeper env):=
 ⟨r.hd,by have:=r.dp;show A.depth+1+3*k+5<_;omega,by have:=r.un;show A.units+3+16*k+200<_;omega⟩
theorem wZ{A:Around}{C:Addr}{us:List Value}{kw:List (Str×Value)}:(A.under (.builtin "type.__call__" ⟨.ref C::us,kw⟩)).depth=A.depth+1:=by
 first|rfl|simp[Around.under,Code.weight,Code.isCreation,Code.isGuard,Code.isCaller,Code.frames,Code.isFrame,guardIds]
theorem A0{A:Around}{C:Addr}{us:List Value}{kw:List (Str×Value)}:(A.under (.builtin "type.__call__" ⟨.ref C::us,kw⟩)).units=A.units+1:=by
 first|rfl|simp[Around.under,Code.cUnits,Code.frames,Code.isFrame]
theorem gZ.make{k:Nat}{A:Around}(r:gZ (k+1) A)(C:Addr)(us:List Value)(kw:List (Str×Value)):gZ k (A.under (.builtin "type.__call__" ⟨.ref C::us,kw⟩)):=
 ⟨r.hd,by have:=r.dp;rw[wZ];omega,by have:=r.un;rw[A0];omega⟩
theorem gZ.depth{k:Nat}{A:Around}(r:gZ k A):A.depth<recursionLimit:=by have:=r.dp;omega
theorem gZ.units{k:Nat}{A:Around}(r:gZ k A):A.units+64<cLine:=by have:=r.un;omega
noncomputable def Nf:TA:=λ_ H Q=>Q [] H
noncomputable def L3(ta:TE)(tr:TA):TA:=λσ H Q=>ta σ H λx H1=>tr σ H1 λxs H2=>Q (x::xs) H2
section
variable{X:Cx}{e:Expr}{es:List Expr}{te:TE}{t:TA}{pos:Pos}
theorem A1:PA X [] Nf:=λ_ _ _ _ H Q I h=>Calls.spliced_nil ⟨[],H,I,.nil,h⟩
theorem tY(ha:PE X e te)(hr:PA X es t)(hs:starEach (e::es) X.env=(false,eval e X.env)::starEach es X.env:=by rfl):PA X (e::es) (L3 te t):=by
 intro pos pins s σ H Q I h
 rw[hs]
 show wpAny _ _ (spliced ((false,eval e X.env)::backTo pos (starEach es X.env))) _ _ s
 refine GcC (thn (ha pins s σ H _ I h) λu s1 ⟨x,H1,I1,r1,q1⟩=> ?_)
 exact thn (hr pos pins s1 σ H1 _ I1 q1) λus s2 ⟨xs,H2,I2,r2,q2⟩=> ⟨x::xs,H2,I2,.cons r1 r2,q2⟩
noncomputable def Ng(t:TA):TE:=λσ H Q=>t σ H λxs H1=>xs.length≤sizeLine∧∀p,H1 p=none→Q (.ref p) (upd H1 p (.tup xs))
noncomputable def Nh(t:TA):TE:=λσ H Q=>t σ H λxs H1=>xs.length≤sizeLine∧∀p,H1 p=none→Q (.ref p) (upd H1 p (.lst xs))
theorem IP{x1}(h:PA X es t):PE X (.Tuple es x1 pos) (Ng t):=by
 intro pins s σ H Q I hq
 refine wpAny_Tuple_spliced (thn (h pos pins s σ H _ I hq) λus s1 ⟨xs,H1,I1,r,z,q⟩=> ⟨by rw[←r.length];exact z, ?_⟩)
 have hf:H1 s1.heap.objs.size=none:=I1.hok.fresh (Gaq _)
 refine⟨.ref s1.heap.objs.size,upd H1 s1.heap.objs.size (.tup xs),I1.laid (t' :=s1.toks) (λb u e=>Gak _ e) (Gaq _) ?_,rfl,q _ hf⟩
 exact⟨z,us,r,⟨_,GaD _ rfl,rfl,_,rfl⟩⟩
theorem Dm(h:PA X es t):PE X (.List es pos) (Nh t):=by
 intro pins s σ H Q I hq
 refine wpAny_List_spliced (thn (h pos pins s σ H _ I hq) λus s1 ⟨xs,H1,I1,r,z,q⟩=> ⟨by rw[←r.length];exact z, ?_⟩)
 have hf:H1 s1.heap.objs.size=none:=I1.hok.fresh (Gaq _)
 refine⟨.ref s1.heap.objs.size,upd H1 s1.heap.objs.size (.lst xs),I1.laid (t' :=s1.toks) (λb u e=>Gak _ e) (Gaq _) ?_,rfl,q _ hf⟩
 exact⟨z,us,0,r,GaD _ rfl⟩
end
noncomputable abbrev Sp:=List V→Hp→VK→XK→Prop
noncomputable abbrev CXT:=List Env→Hp→Shared→XK→Value→Shared→Prop
structure A2(P:Program)(w:World)(K:PySem.W.Frag)(mg:Str→Option Value)(base:Heap)(A:Around)(outer:List Env)(s:Shared)(H:Hp):Prop where
 frames:A.frames=some outer
 mod:Mod K mg base
 bs:∀b o,base.get? b=some o→s.heap.get? b=some o∧H b=none
 bsz:base.objs.size≤s.heap.objs.size
 pS:s.heap.FunFrames base outer
 frf:∀b∈frs outer,H b=none
 hok:HOk P w H s.heap
 bare:AllBare s.gens
noncomputable def CE(outer:List Env)(P:Program)(w:World)(H:Hp)(s:Shared)(Q:VK)(u:Value)(s' :Shared):Prop:=
 ∃v H',s'.os=s.os∧AllBare s'.gens∧Un (frs outer) [] H H' s.heap s'.heap∧HOk P w H' s'.heap∧RelV v u∧Q v H'
noncomputable def CR(CX:CXT)(outer:List Env)(P:Program)(w:World)(H:Hp)(s:Shared)(Q:VK)(E:XK)(r:Result)(s' :Shared):Prop:=
 match r with
 | .ok (.ret u)=>CE outer P w H s Q u s'
 | .ok _=>False
 | .error e=>CX outer H s E e s'
structure cF(P:Program)(w:World)(K:PySem.W.Frag)(mg:Str→Option Value)(base:Heap)(CX:CXT)(k:Nat)(f:Addr)(fd:FuncData)(ps:List Str)(sp:Sp):Prop where
 len:∀vs H Q E,sp vs H Q E→vs.length=ps.length
 run:∀(A:Around) (outer:List Env) (s:Shared) (H:Hp) (args:Args) (us:List Value) (vs:List V) (Q:VK) (E:XK),gZ k A→A2 P w K mg base A outer s H→BindsTo s fd args (ps.zip us)→Vals vs us→sp vs H Q E→
  codeAny (model P w) A (.call (.ref f) args) (CR CX outer P w H s Q E) s
theorem cF.mono{P:Program}{w:World}{K:PySem.W.Frag}{mg:Str→Option Value}{base:Heap}{CX:CXT}{j k:Nat}{f:Addr}{fd:FuncData}{ps:List Str}{sp:Sp}(F:cF P w K mg base CX j f fd ps sp)(h:j≤k):
  cF P w K mg base CX k f fd ps sp:=⟨F.len,λA outer s H args us vs Q E hr=>F.run A outer s H args us vs Q E (hr.mono h)⟩
theorem cF.imp{P:Program}{w:World}{K:PySem.W.Frag}{mg:Str→Option Value}{base:Heap}{CX:CXT}{k:Nat}{f:Addr}{fd:FuncData}{ps:List Str}{sp sp' :Sp}(F:cF P w K mg base CX k f fd ps sp)
  (h:∀vs H Q E,sp' vs H Q E→sp vs H Q E):cF P w K mg base CX k f fd ps sp' :=
 ⟨λvs H Q E q=>F.len vs H Q E (h _ _ _ _ q),λA outer s H args us vs Q E hr he hb hv hs=>F.run A outer s H args us vs Q E hr he hb hv (h _ _ _ _ hs)⟩
theorem A2.make{P:Program}{w:World}{K:PySem.W.Frag}{mg:Str→Option Value}{base:Heap}{A:Around}{outer:List Env}{s:Shared}{H:Hp}(e:A2 P w K mg base A outer s H)(C:Addr)(us:List Value)(kw:List (Str×Value)):
  A2 P w K mg base (A.under (.builtin "type.__call__" ⟨.ref C::us,kw⟩)) outer s H:=⟨by first|exact e.frames|(simpa[Around.under,Code.envs,Code.isFrame,pushEnvs] using e.frames),e.mod,e.bs,e.bsz,e.pS,e.frf,e.hok,e.bare⟩
section
variable{X:Cx}{pins:List (Addr×Obj)}{σ:St}{H:Hp}{s s' :Shared}
theorem Inv.Nj(I:Inv X pins σ H s):A2 X.prog X.w X.K X.mg X.base X.A X.stack s H:=
 ⟨I.ok.frames,I.ok.mod,I.bs,Gbt I.ok.bsz I.sz,I.stack,I.AR,I.hok,I.bare⟩
theorem Inv.after{Q:VK}{u:Value}(I:Inv X pins σ H s)(h:CE X.stack X.prog X.w H s Q u s'):EP X pins σ Q u s' :=by
 obtain⟨v,H',os,bare,un,hok,r,q⟩:=h
 obtain⟨hh,g,d,t,os'⟩:=s'
 obtain rfl:os' =s.os:=os
 exact⟨v,H',I.call (h' :=hh) (g' :=g) (d' :=d) (t' :=t) (ch:=[]) un hok bare (λb z=>absurd z (by simp)),r,q⟩
end
noncomputable def L4(sp:Sp)(dvs:List V)(E:XK)(t:TA):TE:=λσ H Q=>t σ H λvs H1=>sp (vs++dvs) H1 Q E
noncomputable def Binds(K:PySem.W.Frag)(fd:FuncData)(ps:List Str)(ds:List Value):Prop:=
 ∀(s:Shared) (us:List Value),K.In s.heap→(us++ds).length=ps.length→BindsTo s fd ⟨us,[]⟩ (ps.zip (us++ds))
theorem Binds.all{K:PySem.W.Frag}{fd:FuncData}{ps:List Str}(h:∀us:List Value,us.length=ps.length→bindArgs fd ⟨us,[]⟩=pure (ps.zip us)):Binds K fd ps []:=λs us _ hl=>by
 rw[Gbb] at hl⊢
 exact .of_eq (h us hl)
noncomputable def Passes(CX:CXT)(X:Cx)(E:XK):Prop:=∀(pins:List (Addr×Obj)) (σ:St) (H:Hp) (s:Shared) (e:Value) (s' :Shared),Inv X pins σ H s→CX X.stack H s E e s' →X.xe e s'
section
variable{X:Cx}{CX:CXT}{k:Nat}{f C:Addr}{fd:FuncData}{ps:List Str}{sp:Sp}{dvs:List V}{ds:List Value}{E:XK}{x m:Str}{p pos apos:Pos}{e o:Expr}{es:List Expr}{ta:TE}{t:TA}
theorem IQ{pins:List (Addr×Obj)}{σ:St}{H:Hp}{s:Shared}{Q:VK}{us:List Value}{vs:List V}(F:cF X.prog X.w X.K X.mg X.base CX k f fd ps sp)(hr:gZ k X.A)(hb:Binds X.K fd ps ds)(hd:Vals dvs ds)(hx:Passes CX X E)
  (I:Inv X pins σ H s)(r:Vals vs us)(h:sp (vs++dvs) H Q E):wpAny (model X.prog X.w) X.A (call (.ref f) us) (EP X pins σ Q) X.xe s:=by
 have r2:Vals (vs++dvs) (us++ds):=r.append hd
 have hl:(us++ds).length=ps.length:=by rw[←r2.length];exact F.len _ _ _ _ h
 refine wpAny_call (codeAny_mono (F.run X.A X.stack s H ⟨us,[]⟩ (us++ds) (vs++dvs) Q E hr I.Nj (hb s us I.kIn hl) r2 h) λr s' hq=> ?_)
 cases r with
 |error e=>exact hx pins σ H s e s' I hq
 |ok fl=>
  cases fl with
  |ret u=>exact I.after hq
  |next=>exact False.elim hq
  |brk=>exact False.elim hq
  |cont=>exact False.elim hq
theorem G1(F:cF X.prog X.w X.K X.mg X.base CX k f fd ps sp)(hr:gZ k X.A)(hg:Gl X x)(hm:X.mg x=some (.ref f))(hk:PySem.W.keepIn X.K (.ref f)=true)(hb:Binds X.K fd ps ds)(hd:Vals dvs ds)(hx:Passes CX X E)
  (ha:PA X (e::es) t)(hdb:(x==("__debug__":Str))=false:=by decide)(he:starEach (e::es) X.env=(false,eval e X.env)::starEach es X.env:=by rfl)(hpl:(backTo pos (starEach es X.env)).any (·.1)=false:=by rfl):
  PE X (.Call (.Name x p) (e::es) [] pos) (L4 sp dvs E t):=by
 intro pins s σ H Q I h
 refine GcQ (FP I hg hm ?_ hdb)
 refine PySem.W.callWith_K (h₀:=X.base) I.ok.mod.kin hk (thn (ha pos pins s σ H _ I h) λus s1 ⟨vs,H1,I1,r,q⟩=> ⟨I1.kIn, ?_⟩) he hpl
 exact IQ F hr hb hd hx I1 r q
end
structure aW(N P:List Str)(sc:Scope):Prop where
 kind:sc.kind= .function
 co:sc.isCoroutine=false
 gen:sc.isGenerator=false
 nd:N.Nodup
 pre:N.take P.length=P
 par:∀x∈P,sc.names.lookup x=some .local∨sc.names.lookup x=some .cell
 Kf:∀y∈sc.names,y.2≠ .free
theorem sJ{kindOf:Str→Option NameKind}{x:Str}:∀{binds:List (Str×Value)} {m:Str→Option Value},(∀v,(x,v)∉binds)→bindL kindOf binds m x=m x
 |[],_,_=>rfl
 |(n,v)::r,m,h=>by
  unfold bindL
  rw[sJ λw hw=>h w (Gaj _ hw)]
  split
  ·have:x≠n:=by rintro rfl;exact h v Gap
   simp[this]
  ·rfl
theorem sL{kindOf:Str→Option NameKind}{x:Str}:∀{binds:List (Str×Value)} {m:Str→Option Value},(∀v,(x,v)∉binds)→bindC kindOf binds m x=m x
 |[],_,_=>rfl
 |(n,v)::r,m,h=>by
  unfold bindC
  rw[sL λw hw=>h w (Gaj _ hw)]
  split
  ·rfl
  ·have:x≠n:=by rintro rfl;exact h v Gap
   simp[this]
theorem sM{kindOf:Str→Option NameKind}{x:Str}{v:Value}:∀{P:List Str} {vs:List Value} {i:Nat} {m:Str→Option Value},P.Nodup→P[i]? =some x→vs[i]? =some v→kindOf x=some .local→
  bindL kindOf (P.zip vs) m x=some v
 |[],_,_,_,_,h,_,_=>by simp at h
 |_::_,[],_,_,_,_,h,_=>by simp at h
 |p::P,w::vs,0,m,nd,h1,h2,hk=>by
  simp at h1 h2;subst h1;subst h2
  show bindL kindOf ((p,w)::P.zip vs) m p=_
  unfold bindL
  rw[sJ λv hv=>(Gcn.mp nd).1 (List.of_mem_zip hv).1,Gah hk]
  simp
 |p::P,w::vs,i+1,m,nd,h1,h2,hk=>by
  show bindL kindOf ((p,w)::P.zip vs) m x=_
  unfold bindL
  exact sM (i:=i) (Gcn.mp nd).2 (by simpa using h1) (by simpa using h2) hk
theorem sN{kindOf:Str→Option NameKind}{x:Str}{v:Value}:∀{P:List Str} {vs:List Value} {i:Nat} {m:Str→Option Value},P.Nodup→P[i]? =some x→vs[i]? =some v→kindOf x≠some .local→
  bindC kindOf (P.zip vs) m x=some v
 |[],_,_,_,_,h,_,_=>by simp at h
 |_::_,[],_,_,_,_,h,_=>by simp at h
 |p::P,w::vs,0,m,nd,h1,h2,hk=>by
  simp at h1 h2;subst h1;subst h2
  show bindC kindOf ((p,w)::P.zip vs) m p=_
  unfold bindC
  rw[sL λv hv=>(Gcn.mp nd).1 (List.of_mem_zip hv).1,Gag hk]
  simp
 |p::P,w::vs,i+1,m,nd,h1,h2,hk=>by
  show bindC kindOf ((p,w)::P.zip vs) m x=_
  unfold bindC
  exact sN (i:=i) (Gcn.mp nd).2 (by simpa using h1) (by simpa using h2) hk
noncomputable def start(N:List Str)(vs:List V):St:=vs.map some++List.replicate (N.length -vs.length) none
noncomputable def A3(CX:CXT)(P:Program)(w:World)(K:PySem.W.Frag)(mg:Str→Option Value)(base:Heap)(N:List Str)(qual:Str)(scope:Scope)(f:Addr)(cd:Value)(A:Around)(outer:List Env)(s:Shared)(H:Hp)(E:XK):Cx where
 prog:=P
 w:=w
 K:=K
 mg:=mg
 base:=base
 A:=A.deeper (envOfC qual scope s.heap.objs.size f cd)
 N:=N
 s₀:=s
 H₀:=H
 env:=envOfC qual scope s.heap.objs.size f cd
 outer:=outer
 stack:=envOfC qual scope s.heap.objs.size f cd::outer
 ex:=[]
 calm:=true
 fn:=λ_=>true
 pn:=[]
 xe:=λe s' =>wpAny (model P w) (A.deeper (envOfC qual scope s.heap.objs.size f cd)) (leaving (envOfC qual scope s.heap.objs.size f cd) e) (λ_ s'' =>CX outer H s E e s'') (λe' s'' =>CX outer H s E e' s'') s'
theorem uS{sc:Scope}{n:Nat}{x:Str}(h:sc.names.lookup x=some .cell):∃c,(cellsFrom n sc.names []).lookup x=some c:=by
 have q:=PySem.W.cellsFrom_some sc.names n [] (.inl h)
 exact Option.isSome_iff_exists.mp q
theorem C1{CX:CXT}{P:Program}{w:World}{K:PySem.W.Frag}{mg:Str→Option Value}{base:Heap}{N ps:List Str}{qual:Str}{scope:Scope}{f:Addr}{cd:Value}{A:Around}{outer:List Env}{s s1:Shared}{H:Hp}{E:XK}{us:List Value}{vs:List V}
  (S:aW N ps scope)(hd:A.handled=none)(e0:A2 P w K mg base A outer s H)(hl:vs.length=ps.length)(r:Vals vs us)
  (x:InCallC s s.heap.objs.size (bindL (envOfC qual scope s.heap.objs.size f cd).kindOf (ps.zip us) λ_=>none) (cellsFrom (s.heap.objs.size+1) scope.names []) (bindC (envOfC qual scope s.heap.objs.size f cd).kindOf (ps.zip us) λ_=>none) s1):
  Inv (A3 CX P w K mg base N qual scope f cd A outer s H E) [] (start N vs) H s1:=by
 have hpl:ps.length≤N.length:=by have:=congrArg List.length S.pre;rw[GcK] at this;omega
 obtain⟨h1,tk,rfl,hk⟩:=x.done
 have noA:∀b:Addr,b∉(A3 CX P w K mg base N qual scope f cd A outer s H E).ex:=λb z=>absurd (show b∈([]:List Addr) from z) (by simp)
 refine⟨⟨e0.mod,S.kind,rfl,rfl,Gaq _,λy z c h1 h2=> ?_,λy hy=> ?_,λy c _ h=> ?_,λ_=>hd,Around.frames_deeper e0.frames,.inr ⟨rfl,rfl⟩,λb z=>absurd z (noA b),e0.bs,e0.bsz,λb _ _=>noA b,λb z=>absurd z (noA b),e0.pS,e0.frf⟩,
  rfl,e0.bare,Un.kept hk,⟨_,x.toInCall.ns,λi y v h1 h2 h3=> ?_⟩,λy c h=> ⟨_,x.cell y c h⟩,e0.hok.fresh (Gaq _),λy c h=> ?_,λp hp=>absurd (show p∈([]:List (Addr×Obj)) from hp) (by simp),e0.hok.kept hk, ?_⟩
 ·exact name_of_addr x.apart (PySem.mem_of_lookup h1) (PySem.mem_of_lookup h2)
 ·have hy:scope.names.lookup y=some .cell∨scope.names.lookup y=some .free:=hy
  rcases hy with hy|hy
  ·exact uS hy
  ·exact absurd rfl (S.Kf _ (PySem.mem_of_lookup hy))
 ·exact Gds (x.above y c (PySem.mem_of_lookup h))
 ·have hi:i<vs.length:=by
   unfold start at h2
   by_cases hi:i<vs.length
   ·exact hi
   ·rw[GaM (by simpa using hi)] at h2
    rw[GcA] at h2
    split at h2<;>cases h2
  have ha:vs[i]? =some v:=by
   unfold start at h2
   rw[GaT (by simpa using hi),Gan] at h2
   cases e:vs[i]? with
   |none=>rw[e] at h2;cases h2
   |some a=>rw[e] at h2;cases h2;rfl
  obtain⟨u,hu,rv⟩:=r.get ha
  have hp:ps[i]? =some y:=by
   rw[←S.pre,GaU (by omega)];exact h1
  have ndP:ps.Nodup:=by rw[←S.pre];exact S.nd.sublist (List.take_sublist _ _)
  refine⟨u,rv, ?_⟩
  rcases S.par y (GaL hp) with k|k
  ·exact .inl ⟨k,sM ndP hp hu k⟩
  ·obtain⟨c,e⟩:=uS (n:=s.heap.objs.size+1) k
   refine .inr ⟨.inl k,c,e, ?_⟩
   have q:=x.cell y c e
   rw[sN ndP hp hu (by show scope.names.lookup y≠_;rw[k];decide)] at q
   exact q
 ·exact e0.hok.fresh (Gds (x.above y c (PySem.mem_of_lookup h)))
 ·unfold start
  show _=N.length
  rw[Gav,Gae,Gdq]
  omega
theorem L5{CX:CXT}{P:Program}{w:World}{K:PySem.W.Frag}{mg:Str→Option Value}{base:Heap}{k:Nat}{f:Addr}{name qual:Str}{params:Arguments}{body:List Stmt}{scope:Scope}{dV kV doc pm cdv ct oc:Value}{an od:Option Addr}
  {osl:Array (Option Value)}{N ps:List Str}{sp:Sp}(lk:K.lookup f=some ⟨oc,od,.func (PySem.W.fnOf name qual params body scope dV kV doc pm an cdv ct),osl⟩)(hcd:PySem.W.codeIn K cdv qual=true)(S:aW N ps scope)
  (len:∀vs H Q E,sp vs H Q E→vs.length=ps.length)
  (hbody:∀(A:Around) (outer:List Env) (s:Shared) (H:Hp) (vs:List V) (Q:VK) (E:XK),gZ k (A.deeper (envOfC qual scope s.heap.objs.size f cdv))→sp vs H Q E→
   ∃t,PSs (A3 CX P w K mg base N qual scope f cdv A outer s H E) body t∧t {nx:=λ_ H' =>Q .non H',rt:=Q} (start N vs) H):
  cF P w K mg base CX (k+1) f (PySem.W.fnOf name qual params body scope dV kV doc pm an cdv ct) ps sp:=by
 refine⟨len,λA outer s H args us vs Q E hr e0 hb r hsp=> ?_⟩
 have hl:=len _ _ _ _ hsp
 have KX:K.In s.heap:=e0.mod.kin.keeps λb o e=>(e0.bs b o e).1
 have lim:s.heap.NoLimit:=e0.mod.nolimit.keeps λb o e=>(e0.bs b o e).1
 have hkind:∀y∈ps.zip us,scope.names.lookup y.1=some .local∨(scope.names.lookup y.1=some .cell∧((cellsFrom (s.heap.objs.size+1) scope.names []).lookup y.1).isSome=true):=λ⟨n,v⟩ hy=>by
  rcases S.par n (List.of_mem_zip hy).1 with q|q
  ·exact .inl q
  ·exact .inr ⟨q,PySem.W.cellsFrom_some _ _ _ (.inl q)⟩
 refine codeAny_call_function hr.depth (KX _ _ lk) rfl S.co S.gen rfl (PySem.W.codeRec_of KX hcd) (hb _ _ _ _ ?_)
 refine wpAny_newFunctionEnv_cells S.kind hkind λenv he s1 x=> ?_
 subst he
 refine⟨lim.keeps x.toInCall.keep,codeAny_func ?_⟩
 obtain⟨t,ht,hq⟩:=hbody A outer s H vs Q E (hr.deeper _) hsp
 have I:Inv (A3 CX P w K mg base N qual scope f cdv A outer s H E) [] (start N vs) H s1:=C1 S hr.hd e0 hl r x
 refine GbK (ht [] s1 (start N vs) H _ I hq) (λfl s' hs=> ?_) λe s' hs=>hs
 have fin:∀{σ' :St} {H' :Hp} {v:V} {u:Value},Inv (A3 CX P w K mg base N qual scope f cdv A outer s H E) [] σ' H' s' →RelV v u→Q v H' →CE outer P w H s Q u s' :=
  λ{σ' H' v u} J rv q=> ⟨v,H',J.os,J.bare,J.base,J.hok,rv,q⟩
 cases fl with
 |ret u=>
  obtain⟨v,σ',H',J,rv,q⟩:=hs
  exact fin J rv q
 |next=>
  obtain⟨σ',H',J,q⟩:=hs
  exact fin (v:=V.non) (u:=Value.none) J rfl q
 |brk=>
  obtain⟨_,_,_,q⟩:=hs
  exact False.elim q
 |cont=>
  obtain⟨_,_,_,q⟩:=hs
  exact False.elim q
section
variable{X:Cx}{x:Str}{p pos:Pos}{e:Expr}{es:List Expr}{t:TA}{id T:String}{r:List V→Hp→VK→Prop}
noncomputable def tCB(r:List V→Hp→VK→Prop)(t:TA):TE:=λσ H Q=>t σ H λvs H1=>r vs H1 Q
theorem uT(hc:i5 X (.builtin id) r)(hg:Gl X x)(hm:X.mg x=none)(hv:bootBuiltins x=some (.builtin id))(ha:PA X (e::es) t)(hn:x≠"__name__":=by decide)(hdb:(x==("__debug__":Str))=false:=by decide)
  (he:starEach (e::es) X.env=(false,eval e X.env)::starEach es X.env:=by rfl)(hpl:(backTo pos (starEach es X.env)).any (·.1)=false:=by rfl):PE X (.Call (.Name x p) (e::es) [] pos) (tCB r t):=by
 intro pins s σ H Q I h
 refine GcQ (mX I hg hm hv ?_ hn hdb)
 exact PyProof.Rows.callWith_builtin1 (thn (ha pos pins s σ H _ I h) λus s1 ⟨vs,H1,I1,r1,q1⟩=>hc pins s1 σ H1 vs us Q I1 r1 q1) he hpl
theorem C2(hc:i5 X (.type T) r)(hg:Gl X x)(hm:X.mg x=none)(hv:bootBuiltins x=some (.type T))(ha:PA X (e::es) t)(hn:x≠"__name__":=by decide)(hdb:(x==("__debug__":Str))=false:=by decide)
  (he:starEach (e::es) X.env=(false,eval e X.env)::starEach es X.env:=by rfl)(hpl:(backTo pos (starEach es X.env)).any (·.1)=false:=by rfl):PE X (.Call (.Name x p) (e::es) [] pos) (tCB r t):=by
 intro pins s σ H Q I h
 refine GcQ (mX I hg hm hv ?_ hn hdb)
 exact Gci (thn (ha pos pins s σ H _ I h) λus s1 ⟨vs,H1,I1,r1,q1⟩=>hc pins s1 σ H1 vs us Q I1 r1 q1) he hpl
end
end L2
namespace HT
open PySem PyProof.Rows
section
open PySem.SeqAt
open PySem.AutoSeq1 (wpAny_loadPart')
open PySem.MeetsSeq PySem.MeetsSeq2 PySem.MeetsSeq3
end
section
variable{prog:Program}{w:World}{A:Around}{E:Value→Shared→Prop}{s:Shared}
theorem G2{t b:Addr}{vs ws:List Value}{Q:Value→Shared→Prop}(ht:IsTup s.heap t vs.toArray)(hb:IsTup s.heap b ws.toArray)(hv:vs≠[])
  (h1:ws=[]→Q (.ref t) s)(h2:ws≠[]→Q (.ref s.heap.objs.size) {s with heap:=s.heap.push {cls:= .type "tuple",data:= .seq (vs++ws).toArray}})
  (hsz:vs.length+ws.length≤sizeLine):wpAny (model prog w) A (binaryOp .Add (.ref t) (.ref b)) Q E s:=by
 obtain⟨⟨cls,dd,data,sl⟩,ho,hc,n,hd⟩:=id ht
 obtain⟨⟨cls2,dd2,data2,sl2⟩,ho2,hc2,n2,hd2⟩:=id hb
 simp only at hc hd hc2 hd2
 subst hc hd hc2 hd2
 have e:vs.toArray++ws.toArray=(vs++ws).toArray:=by simp
 by_cases hw:ws=[]
 ·exact concat_meets ⟨_,ho,rfl⟩ ⟨_,ho2,rfl⟩ noFill_tuple_add seq_tuple_add PySem.F.slot_tuple_add PySem.F.entry_tuple_add (PySem.F.args_tuple_add_2 _ _)
   (tuple_addW1 t b vs.toArray ws.toArray n n2 dd dd2 sl sl2 (by simpa using hv) (by simp[hw])) ⟨ho,ho2,h1 hw⟩
 ·refine concat_meets ⟨_,ho,rfl⟩ ⟨_,ho2,rfl⟩ noFill_tuple_add seq_tuple_add PySem.F.slot_tuple_add PySem.F.entry_tuple_add (PySem.F.args_tuple_add_2 _ _)
   (tuple_addW2 t b vs.toArray ws.toArray n n2 dd dd2 sl sl2 (by simpa using hv) (by simpa using hw) (by rw[Gam,Gam];exact hsz)) ⟨ho,ho2, ?_⟩
  rw[e]
  exact h2 hw
noncomputable def sIx(n d:Nat):Option Int→Nat
 |none=>d
 |some v=>if v<0 then(v+(n:Int)).toNat else min v.toNat n
theorem IS(n d:Nat)(hd:d≤n)(o:Option Int):sIx n d o≤n:=by
 cases o with
 |none=>exact hd
 |some v=>
  show(if v<0 then(v+(n:Int)).toNat else min v.toNat n)≤n
  by_cases hv:v<0
  ·rw[Gah hv];omega
  ·rw[Gag hv];exact Nat.min_le_right _ _
theorem AV(v:Int)(n d:Nat):(if v<0 then max (v+(n:Int)) 0 else min v (n:Int))=((sIx n d (some v):Nat):Int):=by
 show(if v<0 then max (v+(n:Int)) 0 else min v (n:Int))=(((if v<0 then(v+(n:Int)).toNat else min v.toNat n):Nat):Int)
 by_cases hv:v<0
 ·simp only[Gah hv];omega
 ·simp only[Gag hv];omega
theorem A4(lo hi:Option Int)(n:Nat):Builtin.Slice.sliceAdjust lo hi 1 (n:Int)=(((sIx n 0 lo:Nat):Int),((sIx n n hi:Nat):Int)):=by
 have h1:¬((1:Int)<0):=by omega
 unfold Builtin.Slice.sliceAdjust
 simp only[h1,GaV]
 refine Prod.ext ?_ ?_
 ·cases lo with
  |none=>rfl
  |some v=>exact AV v n 0
 ·cases hi with
  |none=>rfl
  |some v=>exact AV v n n
theorem A5(i j:Nat):Builtin.Slice.slicePlaces (i:Int) (j:Int) 1=j -i:=by
 unfold Builtin.Slice.slicePlaces
 have h1:(1:Int)>0:=by omega
 simp only[h1,Gbj,Int.ediv_one]
 split<;>omega
theorem qt{v:Value}{o:Option Int}{Q:Option Int→Shared→Prop}(p:IsPart v o)(h:Q o s):wpAny (model prog w) A (Builtin.Slice.slicePartIndex v) Q E s:=by
 cases p with
 |none=>exact slicePart_none h
 |int i t=>exact slicePart_int h
theorem oB{sl:Addr}{vl vu:Value}{lo hi:Option Int}{n:Nat}{Q:Int×Int×Nat→Shared→Prop}(hs:s.heap.IsSliceOf sl vl vu .none)(pl:IsPart vl lo)(pu:IsPart vu hi)
  (h:Q (((sIx n 0 lo:Nat):Int),1,sIx n n hi -sIx n 0 lo) s):wpAny (model prog w) A (Builtin.Slice.sliceApplied (.ref sl) (pure (n:Int))) Q E s:=by
 obtain⟨os,hos,hcs,hds⟩:=id hs
 unfold Builtin.Slice.sliceApplied Builtin.Slice.sliceFields
 refine Gaa (Gaa (Gbu hos hds (x:=vl) rfl (Gaa (Gbu hos hds (x:=vu) rfl (Gaa (Gbu hos hds (x:= .none) rfl (Gaf ?_)))))))
 refine Gaa (slicePart_none ?_)
 show wpAny _ _ (if((1:Int)==0)=true then _ else _) _ _ s
 rw[Gag (by decide)]
 refine Gaa (qt pl (Gaa (qt pu (Gaa (Gaf ?_)))))
 show wpAny _ _ (match Builtin.Slice.sliceAdjust lo hi 1 (n:Int) with|(lo,hi)=>pure (lo,(1:Int),Builtin.Slice.slicePlaces lo hi 1)) _ _ s
 rw[A4 lo hi n]
 show wpAny _ _ (pure (((sIx n 0 lo:Nat):Int),(1:Int),Builtin.Slice.slicePlaces ((sIx n 0 lo:Nat):Int) ((sIx n n hi:Nat):Int) 1)) _ _ s
 rw[A5]
 exact Gaf h
theorem Dn(xs:Array Value)(i k:Nat):((List.range k).filterMap λ(m:Nat)=>xs[((i:Int)+(m:Int)*1).toNat]?).toArray=((xs.toList.drop i).take k).toArray:=by
 have e:(λ(m:Nat)=>xs[((i:Int)+(m:Int)*1).toNat]?)=λm=>xs[i+m]? :=by
  funext m
  have:((i:Int)+(m:Int)*1).toNat=i+m:=by omega
  rw[this]
 rw[e]
 have:=pick_run xs i k
 rw[List.filterMap_map] at this
 have e2:((λx=>xs[x]?)∘λx=>i+x)=λm=>xs[i+m]? :=rfl
 rw[e2] at this
 rw[this]
theorem nD{t sl:Addr}{items:Array Value}{vl vu:Value}{lo hi:Option Int}{Q:Value→Shared→Prop}(ht:IsTup s.heap t items)(hs:s.heap.IsSliceOf sl vl vu .none)(pl:IsPart vl lo)(pu:IsPart vu hi)
  (hw:¬(sIx items.size 0 lo=0∧sIx items.size items.size hi=items.size))
  (h:Q (.ref s.heap.objs.size) {s with heap:=s.heap.push {cls:= .type "tuple",data:= .seq ((items.toList.drop (sIx items.size 0 lo)).take (sIx items.size items.size hi -sIx items.size 0 lo)).toArray}})
  (hsz:items.size≤sizeLine):wpAny (model prog w) A (getItem (.ref t) (.ref sl)) Q E s:=by
 have htake:sizeOk (.seq ((items.toList.drop (sIx items.size 0 lo)).take (sIx items.size items.size hi -sIx items.size 0 lo)).toArray):=by
  show((items.toList.drop (sIx items.size 0 lo)).take (sIx items.size items.size hi -sIx items.size 0 lo)).toArray.size≤sizeLine
  rw[Gam,GcK,Gcf,Gcb]
  omega
 have hj:sIx items.size items.size hi≤items.size:=IS _ _ (Gaq _) hi
 obtain⟨os,hos,hcs,hds⟩:=id hs
 have hTs:s.TypeIs (.ref sl) "slice":=⟨os,hos,hcs⟩
 unfold getItem
 try with_reducible refine Gcr ?_
 first|refine Gaa (Gaf ?_)|skip
 refine Gaa (wpAny_sequenceKey ht.typeIs (by decide) ?_)
 refine Gaa (GbE (name:=Str.ofString "__getitem__") ht.typeIs Gcz
  (GbA Gcz ht.typeIs entry_tuple_getitem ?_ (args_tuple_getitem _ _)))
 show wpAny _ _ (Builtin.Tuple.tupleItemsOf (.ref t)>>=_) _ _ s
 refine Gaa (tupleItemsOf_ ht ?_)
 refine Gaa (wpAny_typeOf hTs ?_)
 rw[Gah (by decide)]
 refine Gaa (oB hs pl pu ?_)
 have hno:¬((((sIx items.size 0 lo:Nat):Int)==0&&(1:Int)==1&&(sIx items.size items.size hi -sIx items.size 0 lo)==items.size)=true):=by
  intro q
  rw[Gas,Gas] at q
  have q1:((sIx items.size 0 lo:Nat):Int)=0:=eq_of_beq q.1.1
  have q2:sIx items.size items.size hi -sIx items.size 0 lo=items.size:=eq_of_beq q.2
  exact hw ⟨by omega,by omega⟩
 show wpAny _ _ (if(((sIx items.size 0 lo:Nat):Int)==0&&(1:Int)==1&&(sIx items.size items.size hi -sIx items.size 0 lo)==items.size)=true then _ else _) _ _ s
 rw[Gag hno,Dn]
 first
  |exact Gaa (m:=Builtin.Tuple.tupleExact _) (Gbf (Gaf ⟨_,rfl,Gaf h⟩) htake)
  |exact Gaa (m:=Builtin.Tuple.tupleExact _) (Gbf (Gaa (Gaf (Gaf ⟨_,rfl,Gaf h⟩))) htake)
  |exact Gaa (Gaa (m:=Builtin.Tuple.tupleExact _) (Gbf (Gaf (Gaf ⟨_,rfl,Gaf h⟩)) htake))
  |exact Gaa (Gaa (m:=Builtin.Tuple.tupleExact _) (Gbf (Gaf ⟨_,rfl,Gaf h⟩) htake))
end
end HT
namespace L2
open PySem PySem.Spec PyProof.Rows
noncomputable abbrev TO:=St→Hp→(Option Int→Hp→Prop)→Prop
noncomputable def PO(X:Cx)(e:Option Expr)(t:TO):Prop:=
 ∀(pins:List (Addr×Obj)) (s:Shared) (σ:St) (H:Hp) (Q:Option Int→Hp→Prop),Inv X pins σ H s→t σ H Q→
  wpAny (model X.prog X.w) X.A (evalPart e X.env) (λu s' =>∃o H',Inv X pins σ H' s' ∧IsPart u o∧Q o H') X.xe s
noncomputable def G3:TO:=λ_ H Q=>Q none H
noncomputable def L6(t:TE):TO:=λσ H Q=>t σ H λx H1=>∃i,x= .int i∧Q (some i) H1
section
variable{X:Cx}{e:Expr}{te:TE}{lo hi:Option Expr}{tl th:TO}{pos p2:Pos}
theorem G4:PO X none G3:=by
 intro pins s σ H Q I h
 rw[evalPart_none]
 exact Gaf ⟨none,H,I,.none,h⟩
theorem G5(h:PE X e te):PO X (some e) (L6 te):=by
 intro pins s σ H Q I hw
 rw[evalPart_some]
 refine thn (h pins s σ H _ I hw) λu s1 ⟨x,H1,I1,r1,q1⟩=> ?_
 obtain⟨i,rfl,q⟩:=q1
 obtain⟨t,rfl⟩:=r1
 exact⟨some i,H1,I1,.int i t,q⟩
noncomputable def SlR(X:Cx)(r:V→Option Int→Option Int→Hp→VK→Prop):Prop:=
 ∀(pins:List (Addr×Obj)) (s:Shared) (σ:St) (H:Hp) (x:V) (v vl vu:Value) (lo hi:Option Int) (sl:Addr) (Q:VK),Inv X pins σ H s→RelV x v→s.heap.IsSliceOf sl vl vu .none→IsPart vl lo→IsPart vu hi→r x lo hi H Q→
  ∃T id,typeLookup (.type T) "__getitem__"=pure (some (.builtin id))∧s.TypeIs v T∧wpAny (model X.prog X.w) X.A (getItem v (.ref sl)) (EP X pins σ Q) X.xe s
theorem SlR.or{r r' :V→Option Int→Option Int→Hp→VK→Prop}(h:SlR X r)(h' :SlR X r'):SlR X (λx lo hi H Q=>r x lo hi H Q∨r' x lo hi H Q):=by
 intro pins s σ H x v vl vu lo hi sl Q I rx hs pl pu q
 rcases q with q|q
 ·exact h pins s σ H x v vl vu lo hi sl Q I rx hs pl pu q
 ·exact h' pins s σ H x v vl vu lo hi sl Q I rx hs pl pu q
noncomputable def tSl(r:V→Option Int→Option Int→Hp→VK→Prop)(te:TE)(tl th:TO):TE:=λσ H Q=>te σ H λx H1=>tl σ H1 λl H2=>th σ H2 λu H3=>r x l u H3 Q
theorem Dp{r:V→Option Int→Option Int→Hp→VK→Prop}(hr:SlR X r)(he:PE X e te)(hl:PO X lo tl)(hu:PO X hi th):PE X (.Subscript e (.Slice lo hi none p2) pos) (tSl r te tl th):=by
 intro pins s σ H Q I h
 refine Subscript_ (thn (he pins s σ H _ I h) λv s1 ⟨x,H1,I1,r1,q1⟩=> ?_)
 refine wpAny_Slice (thn (hl pins s1 σ H1 _ I1 q1) λvl s2 ⟨l,H2,I2,pl,q2⟩=>thn (hu pins s2 σ H2 _ I2 q2) λvu s3 ⟨u,H3,I3,pu,q3⟩=> ?_)
 rw[evalPart_none]
 refine Gaf ?_
 have I4:Inv X pins σ H3 {s3 with heap:=s3.heap.push {cls:= .type "slice",data:= .fields #[vl,vu,.none]}}:=I3.kept (t' :=s3.toks) λb ob q=>Gak _ q
 obtain⟨T,id,hT,ht,hg⟩:=hr pins {s3 with heap:=s3.heap.push {cls:= .type "slice",data:= .fields #[vl,vu,.none]}} σ H3 x v vl vu l u s3.heap.objs.size Q I4 r1 (Heap.IsSliceOf.new ..) pl pu q3
 show wpAny (model X.prog X.w) X.A (subscriptTail e (.Slice lo hi none p2) v (.ref s3.heap.objs.size)) (EP X pins σ Q) X.xe {s3 with heap:=s3.heap.push {cls:= .type "slice",data:= .fields #[vl,vu,.none]}}
 exact tail_any (ops:=[.ref s3.heap.objs.size,v]) ht hT hg (by with_unfolding_all rfl)
noncomputable def uU(xs:List V)(lo hi:Option Int):List V:=(xs.drop (HT.sIx xs.length 0 lo)).take (HT.sIx xs.length xs.length hi -HT.sIx xs.length 0 lo)
theorem ph(xs:List V)(lo hi:Option Int):(uU xs lo hi).length≤xs.length:=by
 unfold uU
 rw[GcK,Gcf]
 omega
noncomputable def Nk(K:PySem.W.Frag):V→Option Int→Option Int→Hp→VK→Prop:=λx lo hi H Q=>∃a xs,x= .ref a∧SqT K H a xs∧
 ¬(HT.sIx xs.length 0 lo=0∧HT.sIx xs.length xs.length hi=xs.length)∧∀p,H p=none→Q (.ref p) (upd H p (.tup (uU xs lo hi)))
theorem IT:SlR X (Nk X.K):=by
 intro pins s σ H x v vl vu lo hi sl Q I rx hs pl pu h
 obtain⟨a,xs,rfl,hx,hw,q⟩:=h
 cases rx
 obtain⟨its,r,ht,hz⟩:=I.tuple hx
 have hlen:its.toArray.size=xs.length:=by rw[Gam];exact r.length.symm
 refine⟨"tuple",_,Gcz.lookup,ht.typeIs, ?_⟩
 refine HT.nD ht hs pl pu (by rw[hlen];exact hw) ?_ (by rw[hlen];exact hz)
 rw[hlen]
 refine⟨.ref s.heap.objs.size,_,I.laid (t' :=s.toks) (o:= .tup (uU xs lo hi)) (λb ob q=>Gak _ q) (Gaq _) ?_,rfl,q _ (I.hok.fresh (Gaq _))⟩
 exact⟨Gbt (ph xs lo hi) hz,_,(r.drop (HT.sIx xs.length 0 lo)).take (HT.sIx xs.length xs.length hi -HT.sIx xs.length 0 lo),IsTup.new _ _⟩
noncomputable def HR(K:PySem.W.Frag):R2:=λx y H Q=>∃a b xs ys,x= .ref a∧y= .ref b∧SqT K H a xs∧SqT K H b ys∧xs≠[]∧xs.length+ys.length≤sizeLine∧
 (ys=[]→Q (.ref a) H)∧(ys≠[]→∀p,H p=none→Q (.ref p) (upd H p (.tup (xs++ys))))
theorem Vals.cU{xs:List V}{us:List Value}(r:Vals xs us):us=[]↔xs=[]:=by
 cases r with
 |nil=>simp
 |cons _ _=>simp
theorem G6:OpR X (binaryOp .Add) (HR X.K):=by
 intro pins s σ H x y v u Q I rx ry h
 obtain⟨a,b,xs,ys,rfl,rfl,ha,hb,hx,hz,q1,q2⟩:=h
 cases rx
 cases ry
 obtain⟨its,r1,p1,_⟩:=I.tuple ha
 obtain⟨its2,r2,p2,_⟩:=I.tuple hb
 refine HT.G2 p1 p2 (λz=>hx (r1.cU.mp z)) (λz=> ⟨.ref a,H,I,rfl,q1 (r2.cU.mp z)⟩) (λz=> ?_) (by rw[←r1.length,←r2.length];exact hz)
 refine⟨.ref s.heap.objs.size,_,I.laid (t' :=s.toks) (o:= .tup (xs++ys)) (λb ob q=>Gak _ q) (Gaq _) ?_,rfl,q2 (λw=>z (r2.cU.mpr w)) _ (I.hok.fresh (Gaq _))⟩
 exact⟨by rw[Gav];exact hz,_,r1.append r2,IsTup.new _ _⟩
end
noncomputable def ixN(n:Nat)(i:Int):Option Nat:=if 0≤i then(if i<n then some i.toNat else none) else if -(n:Int)≤i then some (i+n).toNat else none
noncomputable def atI{α:Type}(xs:List α)(i:Int):Option α:=(ixN xs.length i).bind λj=>xs[j]?
theorem AW{n:Nat}{i:Int}{j:Nat}(h:ixN n i=some j):seqIndex? i n=some j∧j<n∧-(n:Int)≤i∧i<n:=by
 unfold ixN at h
 by_cases h0:0≤i
 ·rw[Gah h0] at h
  by_cases h1:i<n
  ·rw[Gah h1] at h
   have e:i.toNat=j:=Option.some.inj h
   exact⟨by rw[seqIndex_of h0 h1,e],by omega,by omega,h1⟩
  ·rw[Gag h1] at h;cases h
 ·rw[Gag h0] at h
  by_cases h1: -(n:Int)≤i
  ·rw[Gah h1] at h
   have e:(i+n).toNat=j:=Option.some.inj h
   exact⟨by rw[seqIndex_neg (by omega) h1,e],by omega,h1,by omega⟩
  ·rw[Gag h1] at h;cases h
theorem tZ{α:Type}{xs:List α}{i:Int}{v:α}(h:atI xs i=some v):∃j,seqIndex? i xs.length=some j∧xs[j]? =some v∧j<xs.length∧-(xs.length:Int)≤i∧i<xs.length:=by
 unfold atI at h
 cases e:ixN xs.length i with
 |none=>rw[e] at h;cases h
 |some j=>
  rw[e] at h
  obtain⟨h1,h2,h3,h4⟩:=AW e
  exact⟨j,h1,h,h2,h3,h4⟩
noncomputable def AX(b:Expr):Prop:=∀o i,subscripted b false o i=operate [o,i] (getItem o i)
noncomputable def IxR(X:Cx)(r:R2):Prop:=
 ∀(value slice:Expr) (pins:List (Addr×Obj)) (s:Shared) (σ:St) (H:Hp) (x y:V) (v u:Value) (Q:VK),Inv X pins σ H s→RelV x v→RelV y u→r x y H Q→
  subscripted slice false v u=operate [v,u] (getItem v u)→wpAny (model X.prog X.w) X.A (subscriptTail value slice v u) (EP X pins σ Q) X.xe s
noncomputable def MtR(X:Cx)(id:String)(r:V→List V→Hp→VK→Prop):Prop:=
 ∀(pins:List (Addr×Obj)) (s:Shared) (σ:St) (H:Hp) (x:V) (xs:List V) (v:Value) (us:List Value) (Q:VK),Inv X pins σ H s→RelV x v→Vals xs us→r x xs H Q→
  wpAny (model X.prog X.w) X.A (call (.builtin id) (v::us)) (EP X pins σ Q) X.xe s
section
variable{X:Cx}{a b:Expr}{ta tb:TE}{pos:Pos}
theorem IxR.or{r r' :R2}(h:IxR X r)(h' :IxR X r'):IxR X (λx y H Q=>r x y H Q∨r' x y H Q):=by
 intro value slice pins s σ H x y v u Q I rx ry q hs
 rcases q with q|q
 ·exact h value slice pins s σ H x y v u Q I rx ry q hs
 ·exact h' value slice pins s σ H x y v u Q I rx ry q hs
theorem MtR.or{id:String}{r r' :V→List V→Hp→VK→Prop}(h:MtR X id r)(h' :MtR X id r'):MtR X id (λx xs H Q=>r x xs H Q∨r' x xs H Q):=by
 intro pins s σ H x xs v us Q I rx rs q
 rcases q with q|q
 ·exact h pins s σ H x xs v us Q I rx rs q
 ·exact h' pins s σ H x xs v us Q I rx rs q
theorem L7{r:R2}(hr:IxR X r)(ha:PE X a ta)(hb:PE X b tb)(hs:AX b):PE X (.Subscript a b pos) (tOp r ta tb):=by
 intro pins s σ H Q I h
 exact Subscript_ (IE ha hb I h λv u s2 x y H2 I2 rx ry q=>hr a b pins s2 σ H2 x y v u Q I2 rx ry q (hs _ _))
noncomputable def L8(K:PySem.W.Frag):R2:=λx y H Q=>∃p xs i v,x= .ref p∧y= .int i∧SqL K H p xs∧atI xs i=some v∧Q v H
noncomputable def L9(K:PySem.W.Frag):R2:=λx y H Q=>∃p xs i v,x= .ref p∧y= .int i∧SqT K H p xs∧atI xs i=some v∧Q v H
noncomputable def La:R2:=λx y H Q=>∃z i c,x= .str z∧y= .int i∧z.length≤sizeLine∧atI z.cps.toList i=some c∧Q (.str ⟨#[c]⟩) H
theorem G7:IxR X (L8 X.K):=by
 intro value slice pins s σ H x y v u Q I rx ry h hs
 obtain⟨p,xs,i,z,rfl,rfl,hq,he,q⟩:=h
 cases rx
 obtain⟨t,rfl⟩:=ry
 obtain⟨its,r,pl,hz⟩:=I.list hq
 obtain⟨j,h1,h2,h3,h4,h5⟩:=tZ he
 obtain⟨w,ew,rw'⟩:=r.get h2
 have hl:=r.length
 have hn:=qr
 have fin:EP X pins σ Q w s:=⟨z,H,I,rw',q⟩
 by_cases h0:0≤i
 ·have hj:i.toNat=j:=by
   rw[seqIndex_of h0 h5] at h1
   exact Option.some.inj h1
  exact item_listR pl.isList h0 (by omega) (by rw[hj];simpa using ew) fin hs
 ·have hj:(i+(its.toArray.size:Int)).toNat=j:=by
   rw[seqIndex_neg (by omega) h4] at h1
   rw[Gam,←hl]
   exact Option.some.inj h1
  exact subscriptTail_builtinR (x:=w) pl.isList.typeIs slot_list_getitem.lookup
   (wpAny_getItem_list_neg (Q:=λr s' =>r=w∧EP X pins σ Q r s') pl.isList (by omega) (by rw[Gam]<;>omega) (by omega) (by rw[hj];simpa using ew) ⟨rfl,fin⟩) hs
theorem IU:IxR X (L9 X.K):=by
 intro value slice pins s σ H x y v u Q I rx ry h hs
 obtain⟨p,xs,i,z,rfl,rfl,hq,he,q⟩:=h
 cases rx
 obtain⟨t,rfl⟩:=ry
 obtain⟨its,r,pl,hz⟩:=I.tuple hq
 obtain⟨j,h1,h2,h3,h4,h5⟩:=tZ he
 obtain⟨w,ew,rw'⟩:=r.get h2
 have hl:=r.length
 have hn:=qr
 have fin:EP X pins σ Q w s:=⟨z,H,I,rw',q⟩
 exact subscriptTail_builtinR (x:=w) pl.typeIs slot_tuple_getitem.lookup
  (getItem_tuple (j:=j) (Q:=λr s' =>r=w∧EP X pins σ Q r s') pl (by omega) (by omega) (by rw[Gam,←hl];exact h1) (by simpa using ew) ⟨rfl,fin⟩) hs
theorem IV:IxR X La:=by
 intro value slice pins s σ H x y v u Q I rx ry h hs
 obtain⟨z,i,c,rfl,rfl,hz,he,q⟩:=h
 obtain⟨t,rfl⟩:=rx
 obtain⟨t',rfl⟩:=ry
 obtain⟨j,h1,h2,h3,h4,h5⟩:=tZ he
 have hl:z.cps.toList.length=z.length:=by simp[Str.length]
 rw[hl] at h1 h4 h5
 have hn:=qr
 exact tail_any (typeIs_str s z t) slot_str_getitem.lookup (getItem_str (c:=c) (by
  have e1:decide (i< -(2^63:Int))=false:=GaE (by omega)
  have e2:decide (i≥2^63)=false:=GaE (by omega)
  rw[e1,e2,Bool.or_false]) (by rw[h1];simpa using h2) ⟨.str ⟨#[c]⟩,H,I.tok _,⟨_,rfl⟩,q⟩) hs
noncomputable def rIx(K:PySem.W.Frag):R2:=λx y H Q=>L8 K x y H Q∨L9 K x y H Q∨La x y H Q
theorem IW:IxR X (rIx X.K):=G7.or (IU.or IV)
theorem A6(its:List Value)(n j:Nat)(u:Value):Obj.mapSeq (·.setIfInBounds j u) {cls:= .type "list",data:= .seq its.toArray n}={cls:= .type "list",data:= .seq (its.set j u).toArray n}:=by
 simp[Obj.mapSeq]
theorem Inv.lst{pins:List (Addr×Obj)}{σ:St}{H:Hp}{s:Shared}{p:Addr}{xs:List V}(I:Inv X pins σ H s)(h:H p=some (.lst xs)):
  ∃(its:List Value) (n:Nat),Vals xs its∧s.heap.get? p=some {cls:= .type "list",data:= .seq its.toArray n}∧xs.length≤sizeLine:=by
 obtain⟨z,its,n,r,e⟩:=I.hok p _ h
 exact⟨its,n,r,e,z⟩
theorem Inv.IY{pins:List (Addr×Obj)}{σ:St}{H:Hp}{s:Shared}{p:Addr}{xs ys:List V}{its its' :List Value}{n n' :Nat}{f:Obj→Obj}(I:Inv X pins σ H s)(h:H p=some (.lst xs))
  (ho:s.heap.get? p=some {cls:= .type "list",data:= .seq its.toArray n})(hf:f {cls:= .type "list",data:= .seq its.toArray n}={cls:= .type "list",data:= .seq its'.toArray n' })(r:Vals ys its')(hz:ys.length≤sizeLine)(t:Nat):
  Inv X pins σ (upd H p (.lst ys)) {s with heap:=s.heap.update p f,toks:=t}:=by
 have e:(s.heap.update p f).get? p=some {cls:= .type "list",data:= .seq its'.toArray n' }:=by
  rw[Gco f ho (by rw[hf]<;>rfl),hf]
 refine I.write (x:=p) (e:=p) (by rw[h];trivial) (.inl rfl) (λb u hb q=>(GaZ _ _ (GaY hb)).trans q) ⟨_,e⟩ ?_
 exact⟨hz,its',n',r,e⟩
noncomputable def HS:V→V→V→Hp→(Hp→Prop)→Prop:=λo i v H Q=>∃p xs k j,o= .ref p∧i= .int k∧H p=some (.lst xs)∧ixN xs.length k=some j∧Q (upd H p (.lst (xs.set j v)))
theorem set_list:KO X HS:=by
 intro pins s σ H o i v ov iv u Q I ro ri rv h
 obtain⟨p,xs,k,j,rfl,rfl,hp,hj,q⟩:=h
 cases ro
 obtain⟨t,rfl⟩:=ri
 obtain⟨its,n,r,ho,hz⟩:=I.lst hp
 obtain⟨h1,h2,h3,h4⟩:=AW hj
 have hl:=r.length
 have hn:=qr
 have I' :Inv X pins σ (upd H p (.lst (xs.set j v))) {s with heap:=s.heap.update p (Obj.mapSeq (·.setIfInBounds j u))}:=
  I.IY hp ho (A6 its n j u) (r.set rv j) (by rw[GcN];exact hz) s.toks
 by_cases h0:0≤k
 ·have hk:k.toNat=j:=by
   rw[seqIndex_of h0 h4] at h1
   exact Option.some.inj h1
  exact PySem.W.ki_setAt ho h0 (by omega) (by rw[Gam,←hl];exact h4) (by rw[hk];exact⟨_,I',q⟩)
 ·have hk:(k+(its.toArray.size:Int)).toNat=j:=by
   rw[seqIndex_neg (by omega) h3] at h1
   rw[Gam,←hl]
   exact Option.some.inj h1
  exact PySem.W.ki_setBack ho (by omega) (by rw[Gam,←hl];exact h3) (by omega) (by rw[hk];exact⟨_,I',q⟩)
theorem u0(lo hi:Option Int)(n:Nat):(sliceBounds lo hi none n).1=((HT.sIx n 0 lo:Nat):Int)∧(sliceBounds lo hi none n).2.1=((HT.sIx n n hi:Nat):Int)∧(sliceBounds lo hi none n).2.2=1:=by
 refine⟨?_, ?_,rfl⟩
 ·cases lo with
  |none=>simp[sliceBounds,HT.sIx]
  |some i=>
   simp only[sliceBounds,HT.sIx,Option.getD_none,show(1:Int)>0 by decide,Gbj]
   by_cases h:i<0
   ·simp only[h,Gbj]<;>omega
   ·simp only[h,GaV]<;>omega
 ·cases hi with
  |none=>simp[sliceBounds,HT.sIx]
  |some i=>
   simp only[sliceBounds,HT.sIx,Option.getD_none,show(1:Int)>0 by decide,Gbj]
   by_cases h:i<0
   ·simp only[h,Gbj]<;>omega
   ·simp only[h,GaV]<;>omega
theorem rT(its:List Value)(lo hi:Option Int):slicePick its.toArray lo hi none=((its.drop (HT.sIx its.length 0 lo)).take (HT.sIx its.length its.length hi -HT.sIx its.length 0 lo)).toArray:=by
 obtain⟨h1,h2,h3⟩:=u0 lo hi its.toArray.size
 unfold slicePick
 rw[h1,h2,h3]
 simp only[sliceRange_one,pick_run,Gam]<;>rfl
noncomputable def Nl(K:PySem.W.Frag):V→Option Int→Option Int→Hp→VK→Prop:=λx lo hi H Q=>∃a xs,x= .ref a∧SqL K H a xs∧∀p,H p=none→Q (.ref p) (upd H p (.lst (uU xs lo hi)))
theorem G8:SlR X (Nl X.K):=by
 intro pins s σ H x v vl vu lo hi sl Q I rx hs pl pu h
 obtain⟨a,xs,rfl,hx,q⟩:=h
 cases rx
 obtain⟨its,r,ht,hz⟩:=I.list hx
 have hlen:=r.length
 refine⟨"list",_,slot_list_getitem.lookup,ht.isList.typeIs, ?_⟩
 refine wpAny_getItem_list_slice ht.isList hs pl pu .none (by simp) ?_ (by rw[Gam]<;>omega)
 rw[rT,←hlen]
 refine⟨.ref s.heap.objs.size,_,I.laid (t' :=s.toks) (o:= .lst (uU xs lo hi)) (λb ob q=>Gak _ q) (Gaq _) ?_,rfl,q _ (I.hok.fresh (Gaq _))⟩
 exact⟨Gbt (ph xs lo hi) hz,_,0,(r.drop (HT.sIx xs.length 0 lo)).take (HT.sIx xs.length xs.length hi -HT.sIx xs.length 0 lo),GaD _ rfl⟩
noncomputable def sO:V→Bool
 | .non=>true
 | .bl _=>true
 | .int _=>true
 | .str _=>true
 |_=>false
noncomputable def eqV:V→V→Bool
 | .non,.non=>true
 | .bl a,.bl b=>a==b
 | .bl a,.int b=>(if a then 1 else 0)==b
 | .int a,.bl b=>a==(if b then 1 else 0)
 | .int a,.int b=>a==b
 | .str a,.str b=>a==b
 |_,_=>false
theorem IZ{A:Around}{s:Shared}{y x:V}{u v:Value}(ry:RelV y u)(rx:RelV x v)(fy:sO y=true)(fx:sO x=true):SeqAt.EqAt A s u v (eqV y x):=by
 cases y with
 |non=>
  cases ry
  cases x with
  |non=>cases rx;exact SeqAt.EqAt.same _
  |bl b=>cases rx;exact SeqAt.EqAt.none_bool b
  |int b=>obtain⟨t,rfl⟩:=rx;exact SeqAt.EqAt.none_int b t
  |str b=>obtain⟨t,rfl⟩:=rx;exact SeqAt.EqAt.none_str b t
  |_=>exact absurd (show false=true from fx) Gau
 |bl a=>
  cases ry
  cases x with
  |non=>cases rx;exact SeqAt.EqAt.bool_none a
  |bl b=>cases rx;exact SeqAt.EqAt.bool_bool a b
  |int b=>obtain⟨t,rfl⟩:=rx;exact SeqAt.EqAt.bool_int a b t
  |str b=>obtain⟨t,rfl⟩:=rx;exact SeqAt.EqAt.bool_str a b t
  |_=>exact absurd (show false=true from fx) Gau
 |int a=>
  obtain⟨t',rfl⟩:=ry
  cases x with
  |non=>cases rx;exact SeqAt.EqAt.int_none a t'
  |bl b=>cases rx;exact SeqAt.EqAt.int_bool a t' b
  |int b=>obtain⟨t,rfl⟩:=rx;exact SeqAt.EqAt.int_int a t' b t
  |str b=>obtain⟨t,rfl⟩:=rx;exact SeqAt.EqAt.int_str a t' b t
  |_=>exact absurd (show false=true from fx) Gau
 |str a=>
  obtain⟨t',rfl⟩:=ry
  cases x with
  |non=>cases rx;exact SeqAt.EqAt.str_none a t'
  |bl b=>cases rx;exact SeqAt.EqAt.str_bool a t' b
  |int b=>obtain⟨t,rfl⟩:=rx;exact SeqAt.EqAt.str_int a t' b t
  |str b=>obtain⟨t,rfl⟩:=rx;exact SeqAt.EqAt.str_str a t' b t
  |_=>exact absurd (show false=true from fx) Gau
 |_=>exact absurd (show false=true from fy) Gau
theorem i5.or{f:Value}{r r' :List V→Hp→VK→Prop}(h:i5 X f r)(h' :i5 X f r'):i5 X f (λxs H Q=>r xs H Q∨r' xs H Q):=by
 intro pins s σ H xs us Q I rs q
 rcases q with q|q
 ·exact h pins s σ H xs us Q I rs q
 ·exact h' pins s σ H xs us Q I rs q
theorem cP:i5 X (.type "tuple") (λxs H Q=>∃p ys,xs=[.ref p]∧((SqL X.K H p ys∧∀l,H l=none→Q (.ref l) (upd H l (.tup ys)))∨(SqT X.K H p ys∧Q (.ref p) H))):=by
 intro pins s σ H xs us Q I r h
 obtain⟨p,ys,rfl,h⟩:=h
 obtain⟨u,rfl,rx⟩:=vals1 r
 cases rx
 rcases h with⟨hq,q⟩| ⟨hq,q⟩
 ·obtain⟨its,r',pl,hz⟩:=I.list hq
  have hlen:=r'.length
  refine call_tuple_list pl.isList (λh' kp=> ?_) (by simp only[Gam]<;>omega)
  have I1:Inv X pins σ H {s with heap:=h' }:=I.kept (t' :=s.toks) kp
  have I2:Inv X pins σ (upd H h'.objs.size (.tup ys)) {s with heap:=h'.push {cls:= .type "tuple",data:= .seq its.toArray}}:=
   I1.laid (t' :=s.toks) (λb o e=>Gak _ e) (Gaq _) (show cz X.prog X.w _ _ _ (.tup ys) from⟨hz,its,r',IsTup.new _ _⟩)
  exact⟨.ref h'.objs.size,_,I2,rfl,q _ (I1.hok.fresh (Gaq _))⟩
 ·obtain⟨its,r',pl,hz⟩:=I.tuple hq
  exact call_tuple_same pl ⟨.ref p,H,I,rfl,q⟩
noncomputable def tyV(K:PySem.W.Frag)(T:String)(x:V)(H:Hp):Prop:=match x with
 | .str _=>T="str"
 | .int _=>T="int"
 | .ref p=>(T="list"∧∃xs,SqL K H p xs)∨(T="tuple"∧∃o,K.lookup p=some o∧o.cls= .type "tuple"∧o.dict=none)∨
   (T="dict"∧((∃kvs,H p=some (.dK kvs))∨∃kvs,H p=some (.dT kvs)))∨(T="set"∧∃S n,H p=some (.set S n))
 |_=>False
theorem J0{pins:List (Addr×Obj)}{σ:St}{H:Hp}{s:Shared}{T:String}{x:V}{v:Value}(I:Inv X pins σ H s)(r:RelV x v)(ty:tyV X.K T x H):
  s.TypeIs v T∧∀a,v= .ref a→∃ob,s.heap.get? a=some ob∧ob.dict=none:=by
 cases x with
 |str z=>
  obtain⟨t,rfl⟩:=r
  cases(show T="str" from ty)
  exact⟨typeIs_str s z t,λ_ e=>nomatch e⟩
 |int i=>
  obtain⟨t,rfl⟩:=r
  cases(show T="int" from ty)
  exact⟨typeIs_int s i t,λ_ e=>nomatch e⟩
 |ref p=>
  cases r
  rcases ty with⟨rfl,xs,hq⟩| ⟨rfl,o,hk,hc,hd⟩| ⟨rfl,hk⟩| ⟨rfl,S,n,hk⟩
  ·obtain⟨its,_,pl,_⟩:=I.list hq
   refine⟨pl.isList.typeIs,λa e=> ?_⟩
   cases e
   obtain⟨o,n,e,c,hd,_⟩:=pl
   exact⟨o,e,hd⟩
  ·refine⟨⟨o,I.kIn p o hk,hc⟩,λa e=> ?_⟩
   cases e
   exact⟨o,I.kIn _ o hk,hd⟩
  ·have z:∃o,s.heap.get? p=some o∧o.ExactDict:=by
    rcases hk with⟨kvs,hk⟩| ⟨kvs,hk⟩
    ·obtain⟨_,_,_,_,o,_,_,e,ex,_⟩:=I.hok p _ hk
     exact⟨o,e,ex⟩
    ·obtain⟨_,_,_,_,o,_,_,e,ex,_⟩:=I.hok p _ hk
     exact⟨o,e,ex⟩
   obtain⟨o,e,ex⟩:=z
   refine⟨⟨o,e,ex.1⟩,λa e2=> ?_⟩
   cases e2
   exact⟨o,e,ex.2.1⟩
  ·obtain⟨o,_,_,_,e,ex,_⟩:=I.hok p _ hk
   refine⟨⟨o,e,ex.1⟩,λa e2=> ?_⟩
   cases e2
   exact⟨o,e,ex.2.1⟩
 |_=>exact False.elim ty
noncomputable def tBM(K:PySem.W.Frag)(T:String)(r:V→List V→Hp→VK→Prop)(to:TE)(t:TA):TE:=λσ H Q=>to σ H λx H1=>tyV K T x H1∧t σ H1 λxs H2=>r x xs H2 Q
variable{o e:Expr}{es:List Expr}{to:TE}{t:TA}{name:Str}{apos cpos:Pos}{T id:String}{r:V→List V→Hp→VK→Prop}
theorem AY(pa:PlainAttrs T)(slot:Slot T name id)(hty:typeOf (.builtin id)=pure (.type "method_descriptor"))(hm:MtR X id r)(ho:PE X o to)(ha:PA X (e::es) t)
  (hbase:attributeBase o name X.env (eval o X.env)=eval o X.env:=by rfl)
  (hfew:((backTo cpos (starEach (e::es) X.env)).all (λx=> !x.1)&&(backToKw cpos (keywordEach [] X.env)).all (λx=>x.1.isSome)
   &&decide ((e::es).length+([]:List Keyword).length+(if([]:List Keyword).isEmpty then 0 else 1)<30))=true:=by rfl)
  (hline:(apos.endLine==cpos.line)=true:=by rfl)(hs:starEach (e::es) X.env=(false,eval e X.env)::starEach es X.env:=by rfl)(hplain:(backTo cpos (starEach es X.env)).any (·.1)=false:=by rfl):
  PE X (.Call (.Attribute o name apos) (e::es) [] cpos) (tBM X.K T r to t):=by
 intro pins s σ H Q I h
 refine wpAny_Call_method_late hbase hfew hline rfl (thn (ho pins s σ H _ I h) λv s1 ⟨x,H1,I1,r1,ty,q1⟩=> ?_)
 obtain⟨h1,h2⟩:=J0 I1 r1 ty
 refine⟨T,id,pa,slot,hty,h1,h2, ?_⟩
 have hA:=ha cpos pins s1 σ H1 _ I1 q1
 rw[hs] at hA⊢
 refine GcF (by show(false||(backTo cpos (starEach es X.env)).any (·.1))=false;rw[hplain]<;>rfl) (Gdu ?_)
 exact thn hA λus s2 ⟨vs,H2,I2,r2,q2⟩=>hm pins s2 σ H2 x vs v us Q I2 r1 r2 q2
end
noncomputable def MtM(X:Cx)(id:String)(r:V→List V→Hp→VK→Prop):Prop:=
 ∀(pins:List (Addr×Obj)) (s:Shared) (σ:St) (H:Hp) (x:V) (xs:List V) (v:Value) (us:List Value) (Q:VK),Inv X pins σ H s→RelV x v→Vals xs us→r x xs H Q→
  wpAny (model X.prog X.w) X.A (call (.builtin id) (v::us)) (EP X pins σ Q) X.xe s
theorem Vals.one:∀{x:V} {us:List Value},Vals [x] us→∃u,us=[u]∧RelV x u
 |_,_,.cons r .nil=> ⟨_,rfl,r⟩
theorem Vals.zero:∀{us:List Value},Vals [] us→us=[]
 |_,.nil=>rfl
theorem Vals.reverse{xs:List V}{us:List Value}(h:Vals xs us):Vals xs.reverse us.reverse:=by
 induction h with
 |nil=>exact .nil
 |cons r t ih=>rw[List.reverse_cons,List.reverse_cons];exact Vals.append ih (.cons r .nil)
theorem Vals.rep{xs:List V}{us:List Value}(h:Vals xs us):∀k:Nat,Vals (List.replicate k xs).flatten (List.replicate k us).flatten
 |0=> .nil
 |k+1=>by
  rw[List.replicate_succ,List.replicate_succ,List.flatten_cons,List.flatten_cons]
  exact Vals.append h (Vals.rep h k)
section
variable{X:Cx}{pins:List (Addr×Obj)}{σ:St}{H:Hp}{s:Shared}{l b:Addr}{xs ys zs:List V}
theorem Inv.J1{its its' :List Value}{n:Nat}{f:Array Value→Array Value}{t' :Nat}(I:Inv X pins σ H s)(hH:H l=some (.lst xs))
  (e:s.heap.get? l=some {cls:= .type "list",data:= .seq its.toArray n})(hf:f its.toArray=its'.toArray)(hv:Vals ys its')(hz:ys.length≤sizeLine):
  Inv X pins σ (upd H l (.lst ys)) {s with heap:=s.heap.update l (Obj.mapSeq f),toks:=t' }:=by
 have q:=PySem.IsL.update e f
 rw[hf] at q
 refine I.write (x:=l) (e:=l) (by rw[hH];exact trivial) (.inl rfl) (λb' u hb hu=>(GaZ s.heap (Obj.mapSeq f) (GaY hb)).trans hu) ⟨_,q⟩ ?_
 exact⟨hz,its',_,hv,q⟩
theorem Inv.Nm{its:List Value}{t' :Nat}(I:Inv X pins σ H s)(hv:Vals ys its)(hz:ys.length≤sizeLine):
  Inv X pins σ (upd H s.heap.objs.size (.lst ys)) {s with heap:=s.heap.push {cls:= .type "list",data:= .seq its.toArray},toks:=t' }:=
 I.laid (λ_ _ q=>Gak _ q) (Gaq _) ⟨hz,its,0,hv,GaD _ rfl⟩
theorem Inv.fresh(I:Inv X pins σ H s):H s.heap.objs.size=none:=I.hok.fresh (Gaq _)
theorem Inv.G9(I:Inv X pins σ H s)(hH:H l=some (.lst xs)):xs.length≤sizeLine∧∃(its:List Value) (n:Nat),Vals xs its∧xs.length=its.length∧s.heap.get? l=some {cls:= .type "list",data:= .seq its.toArray n}:=by
 obtain⟨z,its,n,r,e⟩:=I.hok l _ hH
 exact⟨z,its,n,r,r.length,e⟩
theorem Dq{n:Nat}(h:n≤sizeLine):Builtin.List.listTooLong n=false:=by
 unfold Builtin.List.listTooLong
 exact GaE (by omega)
end
section
variable{X:Cx}
noncomputable def AZ:V→List V→Hp→VK→Prop:=λx vs H Q=>∃l xs y,x= .ref l∧vs=[y]∧H l=some (.lst xs)∧xs.length<sizeLine∧Q .non (upd H l (.lst (xs++[y])))
theorem oC:MtM X "list.append" AZ:=by
 intro pins s σ H x vs v us Q I rx rv h
 obtain⟨l,xs,y,rfl,rfl,hH,hz,q⟩:=h
 cases rx
 obtain⟨u,rfl,ru⟩:=rv.one
 obtain⟨z,its,n,r,hl,e⟩:=I.G9 hH
 refine call_meets F.slot_list_append ⟨_,e,rfl⟩ F.entry_list_append (F.args_list_append_2 _ _) (PySem.list_append l its.toArray n u (by rw[Gam];omega)) ⟨e, ?_⟩
 refine⟨.non,_,I.J1 (its' :=its++[u]) hH e (by simp) (r.append (.cons ru .nil)) ?_,rfl,q⟩
 rw[Gav,List.length_singleton]
 omega
noncomputable def Ga:V→List V→Hp→VK→Prop:=λx vs H Q=>∃l b xs zs,x= .ref l∧vs=[.ref b]∧H l=some (.lst xs)∧H b=some (.lst zs)∧xs.length+zs.length≤sizeLine∧Q .non (upd H l (.lst (xs++zs)))
theorem C3:MtM X "list.extend" Ga:=by
 intro pins s σ H x vs v us Q I rx rv h
 obtain⟨l,b,xs,zs,rfl,rfl,hH,hB,hz,q⟩:=h
 cases rx
 obtain⟨u,rfl,ru⟩:=rv.one
 cases ru
 obtain⟨z,its,n,r,hl,e⟩:=I.G9 hH
 obtain⟨z2,its2,n2,r2,hl2,e2⟩:=I.G9 hB
 have hsz:its.toArray.size+its2.toArray.size≤sizeLine:=by rw[Gam,Gam];omega
 have hlong:¬(!its.toArray.isEmpty&&Builtin.List.listTooLong (its.toArray.size+its2.toArray.size))=true:=by
  rw[Dq hsz,GcH]
  exact Gau
 refine call_meets F.slot_list_extend ⟨_,e,rfl⟩ F.entry_list_extend (F.args_list_extend_2 _ _)
  (AutoSeq1.list_extend_list_list_0 l its.toArray n b its2.toArray n2 hlong (by rw[Gam];omega) (by omega)) ⟨e,e2, ?_⟩
 refine⟨.non,_,I.J1 (its' :=its++its2) hH e (by simp) (r.append r2) ?_,rfl,q⟩
 rw[Gav]
 omega
end
section
variable{κ:Type} [DecidableEq κ]
noncomputable def gO(kvs:List (κ×V))(k:κ):Option V:=(kvs.find? λkv=>decide (kv.1=k)).map (·.2)
noncomputable def putK(kvs:List (κ×V))(k:κ)(v:V):List (κ×V):=
 if(kvs.any λkv=>decide (kv.1=k))=true then kvs.map (λkv=>if kv.1=k then(kv.1,v) else kv) else kvs++[(k,v)]
noncomputable def HU(kvs:List (κ×V))(k:κ):List (κ×V):=kvs.filter λkv=>decide (kv.1≠k)
theorem kM{p:κ×V}{r:List (κ×V)}{k:κ}(e:p.1=k):gO (p::r) k=some p.2:=by simp[gO,Gbw,e]
theorem iM{p:κ×V}{r:List (κ×V)}{k:κ}(e:¬p.1=k):gO (p::r) k=gO r k:=by simp[gO,Gbw,e]
theorem qu(k:κ):∀kvs:List (κ×V),(kvs.any λkv=>decide (kv.1=k))=(gO kvs k).isSome
 |[]=>rfl
 |p::r=>by
  rw[Gdm]
  by_cases e:p.1=k
  ·simp only[kM e,GaF e,Bool.true_or,Option.isSome_some]
  ·rw[iM e,GaE e,Bool.false_or];exact qu k r
theorem kN(kvs:List (κ×V))(k:κ)(v:V):(putK kvs k v).length≤kvs.length+1:=by
 unfold putK
 split
 ·rw[Gae];omega
 ·rw[Gav,GaH,GbW];omega
theorem Dr{kvs:List (κ×V)}{k:κ}(v:V)(h:gO kvs k=none):putK kvs k v=kvs++[(k,v)]:=by
 unfold putK
 rw[qu,h]
 exact Gag (by decide)
theorem oA.C4{o:Option V}{u:Option Value}(r:oA o u):o.isSome=u.isSome:=by
 cases o with
 |none=>cases u with
  |none=>rfl
  |some _=>exact(show False from r).elim
 |some _=>cases u with
  |none=>exact(show False from r).elim
  |some _=>rfl
theorem oA.getD{o:Option V}{u:Option Value}{d:V}{d' :Value}(r:oA o u)(rd:RelV d d'):RelV (o.getD d) (u.getD d'):=by
 cases o with
 |none=>cases u with
  |none=>exact rd
  |some _=>exact(show False from r).elim
 |some _=>cases u with
  |none=>exact(show False from r).elim
  |some _=>exact r
theorem KV.val{kvs:List (κ×V)}{vs:List (κ×Value)}(r:KV kvs vs)(k:κ):oA (gO kvs k) (valueAt vs k):=by
 unfold KV at r
 induction r with
 |nil=>exact True.intro
 | @cons p q ps qs h t ih=>
  obtain⟨h1,h2⟩:=h
  by_cases e:p.1=k
  ·have e' :q.1=k:=h1.symm.trans e
   have b:valueAt (q::qs) k=some q.2:=by simp[valueAt,Gbw,e']
   rw[kM e,b];exact h2
  ·have e' :¬q.1=k:=λz=>e (h1.trans z)
   have b:valueAt (q::qs) k=valueAt qs k:=by simp[valueAt,Gbw,e']
   rw[iM e,b];exact ih
theorem KV.any{kvs:List (κ×V)}{vs:List (κ×Value)}(r:KV kvs vs)(k:κ):(kvs.any λkv=>decide (kv.1=k))=vs.any λkv=>decide (kv.1=k):=by
 unfold KV at r
 induction r with
 |nil=>rfl
 |cons h t ih=>rw[Gdm,Gdm,ih,h.1]
theorem KV.J3{kvs:List (κ×V)}{vs:List (κ×Value)}(r:KV kvs vs)(k:κ){y:V}{u:Value}(ry:RelV y u):
  KV (kvs.map λkv=>if kv.1=k then(kv.1,y) else kv) (vs.map λkv=>if kv.1=k then(kv.1,u) else kv):=by
 unfold KV at r⊢
 induction r with
 |nil=>exact .nil
 | @cons p q ps qs h t ih=>
  rw[Gar,Gar]
  refine .cons ?_ ih
  obtain⟨h1,h2⟩:=h
  by_cases e:p.1=k
  ·rw[Gah e,Gah (h1.symm.trans e)];exact⟨h1,ry⟩
  ·rw[Gag e,Gag (λz=>e (h1.trans z))];exact⟨h1,h2⟩
theorem KV.put{kvs:List (κ×V)}{vs:List (κ×Value)}(r:KV kvs vs)(k:κ){y:V}{u:Value}(ry:RelV y u):KV (putK kvs k y) (stored vs k u):=by
 unfold putK stored
 rw[r.any k]
 by_cases e:(vs.any λkv=>decide (kv.1=k))=true
 ·rw[Gah e,Gah e];exact r.J3 k ry
 ·rw[Gag e,Gag e];exact Paired.snoc r ⟨rfl,ry⟩
theorem KV.drop{kvs:List (κ×V)}{vs:List (κ×Value)}(r:KV kvs vs)(k:κ):KV (HU kvs k) (without vs k):=by
 unfold KV at r⊢
 unfold HU without
 induction r with
 |nil=>exact .nil
 | @cons p q ps qs h t ih=>
  obtain⟨h1,h2⟩:=h
  rw[Gbk,Gbk]
  by_cases e:p.1=k
  ·have a:¬decide (p.1≠k)=true:=by simp[e]
   have b:¬decide (q.1≠k)=true:=by simp[h1.symm.trans e]
   rw[Gag a,Gag b];exact ih
  ·have e' :¬q.1=k:=λz=>e (h1.trans z)
   have a:decide (p.1≠k)=true:=by simp[e]
   have b:decide (q.1≠k)=true:=by simp[e']
   rw[Gah a,Gah b];exact .cons ⟨h1,h2⟩ ih
theorem KV.keys{kvs:List (κ×V)}{vs:List (κ×Value)}(r:KV kvs vs):kvs.map (·.1)=vs.map (·.1):=by
 unfold KV at r
 induction r with
 |nil=>rfl
 |cons h t ih=>rw[Gar,Gar,ih,h.1]
theorem KV.length{kvs:List (κ×V)}{vs:List (κ×Value)}(r:KV kvs vs):kvs.length=vs.length:=Paired.length r
end
theorem B0{P:Program}{w:World}{k:Key}{u:Value}(r:RelV (kV k) u):(cD P w).is k u=true:=by
 cases k with
 |inl i=>obtain⟨t,e⟩:=(show∃t,u=Value.int i t from r);subst e;exact uM P w i t
 |inr x=>obtain⟨t,e⟩:=(show∃t,u=Value.str x t from r);subst e;exact uN P w x t
theorem sP{P:Program}{w:World}:∀{ks:List Key} {us:List Value},Vals (ks.map kV) us→ItemsAre (cD P w) ks us
 |[],_,r=>by rw[Gdv] at r;cases r;exact .nil
 |k::ks,_,r=>by
  rw[Gar] at r
  cases r with
  |cons h t=>exact .cons (B0 h) (sP t)
noncomputable abbrev KT (H:Hp):List (List Key×V)→List (List Key×Addr×Value)→Prop:=Paired λp q=>p.1=q.1∧H q.2.1=some (.tup (p.1.map kV))∧RelV p.2 q.2.2
theorem KT.val{H:Hp}{kvs:List (List Key×V)}{xs:List (List Key×Addr×Value)}(r:KT H kvs xs)(k:List Key):oA (gO kvs k) ((atKey xs k).map (·.2)):=by
 induction r with
 |nil=>exact True.intro
 | @cons p q ps qs h t ih=>
  obtain⟨h1,_,h2⟩:=h
  by_cases e:p.1=k
  ·have e' :q.1=k:=h1.symm.trans e
   have b:atKey (q::qs) k=some q.2:=by simp[atKey,Gbw,e']
   rw[kM e,b];exact h2
  ·have e' :¬q.1=k:=λz=>e (h1.trans z)
   have b:atKey (q::qs) k=atKey qs k:=by simp[atKey,Gbw,e']
   rw[iM e,b];exact ih
theorem KT.J3{H:Hp}{kvs:List (List Key×V)}{xs:List (List Key×Addr×Value)}(r:KT H kvs xs)(k:List Key){y:V}{u:Value}(ry:RelV y u):
  KT H (kvs.map λkv=>if kv.1=k then(kv.1,y) else kv) (xs.map (putAt k u)):=by
 induction r with
 |nil=>exact .nil
 | @cons p q ps qs h t ih=>
  rw[Gar,Gar]
  refine .cons ?_ ih
  obtain⟨h1,h2,h3⟩:=h
  unfold putAt
  by_cases e:p.1=k
  ·rw[Gah e,Gah (h1.symm.trans e)];exact⟨h1,h2,ry⟩
  ·rw[Gag e,Gag (λz=>e (h1.trans z))];exact⟨h1,h2,h3⟩
theorem KT.put{H:Hp}{kvs:List (List Key×V)}{xs:List (List Key×Addr×Value)}(r:KT H kvs xs)(k:List Key){b:Addr}{y:V}{u:Value}(hb:H b=some (.tup (k.map kV)))(ry:RelV y u):
  KT H (putK kvs k y) (storedH xs k b u):=by
 have e:(kvs.any λkv=>decide (kv.1=k))=(atKey xs k).isSome:=by
  rw[qu,(r.val k).C4,Option.isSome_map]
 unfold putK storedH
 rw[e]
 by_cases q:(atKey xs k).isSome=true
 ·rw[Gah q,Gah q];exact r.J3 k ry
 ·rw[Gag q,Gag q];exact Paired.snoc r ⟨rfl,hb,ry⟩
theorem KT.keeps{H H' :Hp}{kvs:List (List Key×V)}{xs:List (List Key×Addr×Value)}(r:KT H kvs xs)(ht:∀b ys,H b=some (.tup ys)→H' b=some (.tup ys)):KT H' kvs xs:=
 Paired.Io r λ_ _ z=> ⟨z.1,ht _ _ z.2.1,z.2.2⟩
section
variable{P:Program}{w:World}{H:Hp}{h:Heap}{a:Addr}
theorem HV{u:HO}(ok:HOk P w H h)(e:Rd H a u):cz P w H h a u:=e.ok ok
theorem sQ{kvs:List (Key×V)}(ok:HOk P w H h)(e:Rd H a (.dK kvs)):kvs.length≤sizeLine∧(a==sysModules)=false∧∃vs,KV kvs vs∧h.DictOf (cD P w) a vs:=
 show cz P w H h a (.dK kvs) from HV ok e
theorem Lb{kvs:List (Key×V)}(ok:HOk P w H h)(e:H a=some (.dK kvs)):kvs.length≤sizeLine∧(a==sysModules)=false∧∃vs,KV kvs vs∧h.DictOf (cD P w) a vs:=sQ ok (.inl e)
theorem n4{ks:List Key}(ok:HOk P w H h)(e:H a=some (.tup (ks.map kV))):(tupleKind (cD P w)).is h ks a:=by
 obtain⟨_,its,r,o,h1,h2,n,h3⟩:=(show cz P w H h a (.tup (ks.map kV)) from ok a _ e)
 exact⟨o,its.toArray,n,h1,h2,h3,by simpa using sP r⟩
theorem uV{kvs:List (List Key×V)}(ok:HOk P w H h)(e:Rd H a (.dT kvs)):kvs.length≤sizeLine∧(a==sysModules)=false∧
  ∃xs,KT H kvs xs∧h.DictOfH (tupleKind (cD P w)) a xs:=by
 obtain⟨z,y,xs,r,o,es,ep,h1,h2,h3,h4,h5⟩:=(show cz P w H h a (.dT kvs) from HV ok e)
 refine⟨z,y,xs,r,o,es,ep,h1,h2,h3,h4,λx hx=> ?_,h5⟩
 have all:∀{l:List (List Key×V)} {m:List (List Key×Addr×Value)},KT H l m→∀x∈m,(tupleKind (cD P w)).is h x.1 x.2.1:=by
  intro l m q
  induction q with
  |nil=>intro x hx;exact nomatch hx
  | @cons p q ps qs hq t ih=>
   intro x hx
   rcases GaA.mp hx with e|hx
   ·subst e
    exact n4 ok (by rw[←hq.1];exact hq.2.1)
   ·exact ih x hx
 exact all r x hx
theorem Ds{kvs:List (List Key×V)}(ok:HOk P w H h)(e:H a=some (.dT kvs)):kvs.length≤sizeLine∧(a==sysModules)=false∧
  ∃xs,KT H kvs xs∧h.DictOfH (tupleKind (cD P w)) a xs:=uV ok (.inl e)
end
noncomputable def pU(H:Hp)(a:Addr)(y:V)(r:Option V):Prop:=
 (∃kvs k,Rd H a (.dK kvs)∧y=kV k∧r=gO kvs k)∨∃kvs k b,Rd H a (.dT kvs)∧y= .ref b∧H b=some (.tup (k.map kV))∧r=gO kvs k
noncomputable def uW(H:Hp)(a:Addr)(y v:V)(H' :Hp):Prop:=
 (∃kvs k,H a=some (.dK kvs)∧y=kV k∧kvs.length<sizeLine∧H' =upd H a (.dK (putK kvs k v)))∨
 ∃kvs k b,H a=some (.dT kvs)∧y= .ref b∧H b=some (.tup (k.map kV))∧kvs.length<sizeLine∧H' =upd H a (.dT (putK kvs k v))
theorem pU.k{H:Hp}{a:Addr}{kvs:List (Key×V)}{k:Key}(e:H a=some (.dK kvs)):pU H a (kV k) (gO kvs k):= .inl ⟨kvs,k,.inl e,rfl,rfl⟩
theorem pU.t{H:Hp}{a b:Addr}{kvs:List (List Key×V)}{k:List Key}(e:H a=some (.dT kvs))(eb:H b=some (.tup (k.map kV))):pU H a (.ref b) (gO kvs k):= .inr ⟨kvs,k,b,.inl e,rfl,eb,rfl⟩
theorem uW.k{H:Hp}{a:Addr}{kvs:List (Key×V)}{k:Key}{v:V}(e:H a=some (.dK kvs))(hl:kvs.length<sizeLine):uW H a (kV k) v (upd H a (.dK (putK kvs k v))):= .inl ⟨kvs,k,e,rfl,hl,rfl⟩
theorem uW.t{H:Hp}{a b:Addr}{kvs:List (List Key×V)}{k:List Key}{v:V}(e:H a=some (.dT kvs))(eb:H b=some (.tup (k.map kV)))(hl:kvs.length<sizeLine):
  uW H a (.ref b) v (upd H a (.dT (putK kvs k v))):= .inr ⟨kvs,k,b,e,rfl,eb,hl,rfl⟩
section
variable{X:Cx}{pins:List (Addr×Obj)}{σ:St}{H:Hp}{s:Shared}{a:Addr}{y v:V}{u r:Value}{o:Option V}{A:Around}{E:Value→Shared→Prop}
theorem Inv.big(I:Inv X pins σ H s):sysModules<s.heap.objs.size:=by
 have h:mainGlobals<s.heap.objs.size:=(I.mod.glob.keeps I.bk).lt
 exact Nat.lt_trans (by decide) h
theorem C5{Q:Value→Shared→Prop}(hu:A.units+1<cLine)(I:Inv X pins σ H s)(g:pU H a y (some v))(ry:RelV y u)(h:∀w' s',Inv X pins σ H s' →RelV v w' →Q w' s'):
  wpAny (model X.prog X.w) A (getItem (.ref a) u) Q E s:=by
 rcases g with⟨kvs,k,e,ey,l⟩| ⟨kvs,k,b,e,ey,eb,l⟩
 ·subst ey
  obtain⟨z,hd,vs,rel,dd⟩:=sQ I.hok e
  obtain⟨w',hw,rw'⟩:=oA.some_of (v:=v) (o:=valueAt vs k) (by rw[l];exact rel.val k)
  exact wpAny_getItem_of (B0 ry) dd.mapOf hw (h w' _ (I.tok _) rw')
 ·subst ey
  cases(show u=Value.ref b from ry)
  obtain⟨z,hd,xs,rel,dd⟩:=uV I.hok e
  obtain⟨w',hw,rw'⟩:=oA.some_of (v:=v) (o:=(atKey xs k).map (·.2)) (by rw[l];exact rel.val k)
  obtain⟨p,hp,hp2⟩:=Gal.mp hw
  refine wpAny_getItem_heap (GcR hu) (n4 I.hok eb) dd hp ?_
  rw[hp2]
  exact h w' _ (I.tok _) rw'
theorem q9{h' :Heap}{t' :Nat}{ob:HO}(I:Inv X pins σ H s)(mu:Mut (H a))(hs:Heap.SameBut a s.heap h')(he:∃q,h'.get? a=some q)(new:cz X.prog X.w (upd H a ob) h' a ob):
  Inv X pins σ (upd H a ob) {s with heap:=h',toks:=t' }:=
 I.write (x:=a) (e:=a) mu (.inl rfl) (λb q hb z=>(hs.2 b hb).trans z) he new
theorem J4{P:Program}{w:World}{H' :Hp}{h' :Heap}{kvs:List (Key×V)}{vs:List (Key×Value)}(z:kvs.length≤sizeLine)(hd:(a==sysModules)=false)(rel:KV kvs vs)(dd:h'.DictOf (cD P w) a vs):
  cz P w H' h' a (.dK kvs):=⟨z,hd,vs,rel,dd⟩
theorem C6{H' :Hp}{Q:Unit→Shared→Prop}(hu:A.units+1<cLine)(I:Inv X pins σ H s)(g:uW H a y v H')(ry:RelV y u)(rv:RelV v r)(h:∀s',Inv X pins σ H' s' →Q () s'):
  wpAny (model X.prog X.w) A (setItem (.ref a) u r) Q E s:=by
 rcases g with⟨kvs,k,e,ey,l,eH⟩| ⟨kvs,k,b,e,ey,eb,l,eH⟩
 ·subst ey eH
  obtain⟨z,hd,vs,rel,dd⟩:=Lb I.hok e
  have hz:vs.length≤sizeLine:=by rw[←rel.length];exact z
  have hl:(putK kvs k v).length≤sizeLine:=by have:=kN kvs k v;omega
  refine wpAny_setItem_pairs (hsz:=hz) (B0 ry) dd λh' dd' hs=>h _ ?_
  have he:∃q,h'.get? a=some q:=let⟨q,_,_,hq,_⟩:=dd';⟨q,hq⟩
  exact q9 I (by rw[e];exact True.intro) hs he (J4 hl hd (rel.put k rv) dd')
 ·subst ey eH
  cases(show u=Value.ref b from ry)
  obtain⟨z,hd,xs,rel,dd⟩:=Ds I.hok e
  have hz:xs.length≤sizeLine:=by rw[←Paired.length rel];exact z
  have hl:(putK kvs k v).length≤sizeLine:=by have:=kN kvs k v;omega
  refine wpAny_setItem_heap (hsz:=hz) (GcR hu) (n4 I.hok eb) dd λh' dd' hs=>h _ ?_
  obtain⟨q,es,ep,hq,h2,h3,h4,_,h5⟩:=dd'
  refine q9 I (by rw[e];exact True.intro) hs ⟨q,hq⟩ ⟨hl,hd,_,(rel.put k eb rv).keeps λc ys ec=> ?_,q,es,ep,hq,h2,h3,h4,h5⟩
  rw[ax (AQ ec e (λz=>nomatch z))]
  exact ec
end
section
variable{X:Cx}{pins:List (Addr×Obj)}{σ:St}{H:Hp}{s:Shared}{a:Addr}{kvs:List (Key×V)}{k:Key}{u:Value}{A:Around}{E:Value→Shared→Prop}
theorem Lc{Q:Value→Shared→Prop}(I:Inv X pins σ H s)(e:Rd H a (.dK kvs))(h:∀t s',Inv X pins σ H s' →Q (.int kvs.length t) s'):wpAny (model X.prog X.w) A (call (.builtin "len") [.ref a]) Q E s:=by
 obtain⟨z,hd,vs,rel,dd⟩:=sQ I.hok e
 refine call_len_dict hd dd (by rw[←rel.length];rw[GbG] at z;omega) ?_
 rw[←rel.length]
 exact h _ _ (I.tok _)
end
theorem uX{X:Cx}{pins:List (Addr×Obj)}{σ:St}{H:Hp}{s:Shared}{a:Addr}{y:V}{o:Option V}(I:Inv X pins σ H s)(g:pU H a y o):s.TypeIs (.ref a) "dict":=by
 rcases g with⟨kvs,k,e,_,_⟩| ⟨kvs,k,b,e,_,_,_⟩
 ·obtain⟨_,_,vs,_,dd⟩:=sQ I.hok e
  exact dd.typeIs
 ·obtain⟨_,_,xs,_,dd⟩:=uV I.hok e
  exact dd.typeIs
theorem Dt{P:Program}{w:World}{H:Hp}(h:Heap)(hb:sysModules<h.objs.size):cz P w H (h.push {cls:= .type "dict",data:= .dict #[]}) h.objs.size (.dT []):=
 ⟨GbH _,beq_eq_false_iff_ne.mpr (GaY (GaP hb)),[],.nil,_,#[],0,GaD _ rfl,⟨rfl,rfl,rfl⟩,rfl,rfl,List.nodup_nil⟩
noncomputable def J5:TE:=λ_ H Q=>∀p,H p=none→Q (.ref p) (upd H p (.dT []))
section
variable{X:Cx}{pos:Pos}
theorem uY:PE X (.Dict [] [] pos) J5:=λpins s σ H Q I h=>
 wpAny_Dict_empty ⟨.ref s.heap.objs.size,_,I.laid (a:=s.heap.objs.size) (o:= .dT []) (t' :=s.toks) (λ_ _ q=>Gak _ q) (Gaq _) (Dt s.heap I.big),rfl,h _ (I.hok.fresh (Gaq _))⟩
end
structure M2(X:Cx)(o:Expr)(m:Str)(apos:Pos)(e f:Expr)(cpos:Pos):Prop where
 base:attributeBase o m X.env (eval o X.env)=eval o X.env
 few:((backTo cpos (starEach [e,f] X.env)).all (λx=> !x.1)&&(backToKw cpos (keywordEach [] X.env)).all (λx=>x.1.isSome)
  &&decide (([e,f]:List Expr).length+([]:List Keyword).length+(if([]:List Keyword).isEmpty then 0 else 1)<30))=true
 line:(apos.endLine==cpos.line)=true
 trees:backTo cpos (starEach [e,f] X.env)=[(false,eval e X.env),(false,eval f X.env)]
noncomputable def IsD(H:Hp)(a:Addr):Prop:=(∃kvs,Rd H a (.dK kvs))∨∃kvs,Rd H a (.dT kvs)
theorem A7{X:Cx}{pins:List (Addr×Obj)}{σ:St}{H:Hp}{s:Shared}{a:Addr}(I:Inv X pins σ H s)(d:IsD H a):
  s.TypeIs (.ref a) "dict"∧(∀b,Value.ref a= .ref b→∃ob,s.heap.get? b=some ob∧ob.dict=none)∧(a==sysModules)=false:=by
 rcases d with⟨kvs,e⟩| ⟨kvs,e⟩
 ·obtain⟨_,hd,vs,_,dd⟩:=sQ I.hok e
  refine⟨dd.typeIs,λb q=> ?_,hd⟩
  cases q
  obtain⟨ob,_,_,h1,h2,_⟩:=dd
  exact⟨ob,h1,h2.2.1⟩
 ·obtain⟨_,hd,xs,_,dd⟩:=uV I.hok e
  refine⟨dd.typeIs,λb q=> ?_,hd⟩
  cases q
  obtain⟨ob,_,_,h1,h2,_⟩:=dd
  exact⟨ob,h1,h2.2.1⟩
section
variable{X:Cx}{pins:List (Addr×Obj)}{σ:St}{H:Hp}{s:Shared}{a:Addr}{y d:V}{u r:Value}{o:Option V}{A:Around}{E:Value→Shared→Prop}
theorem J6{Q:Value→Shared→Prop}(hu:A.units+1<cLine)(I:Inv X pins σ H s)(g:pU H a y o)(ry:RelV y u)(rd:RelV d r)(h:∀w' s',Inv X pins σ H s' →RelV (o.getD d) w' →Q w' s'):
  wpAny (model X.prog X.w) A (call (.builtin "dict.get") [.ref a,u,r]) Q E s:=by
 rcases g with⟨kvs,k,e,ey,l⟩| ⟨kvs,k,b,e,ey,eb,l⟩
 ·subst ey
  obtain⟨z,hd,vs,rel,dd⟩:=sQ I.hok e
  refine call_meetsIn Gdr dd.typeIs PySem.F.entry_dict_get (PySem.F.args_dict_get_3 _ _ _) (meets_dict_get_default (cD X.prog X.w) a (B0 ry) hd r) ⟨_,dd.mapOf,h _ _ (I.tok _) ?_⟩
  rw[l]
  exact(rel.val k).getD rd
 ·subst ey
  cases(show u=Value.ref b from ry)
  obtain⟨z,hd,xs,rel,dd⟩:=uV I.hok e
  refine call_meetsIn Gdr dd.typeIs PySem.F.entry_dict_get (PySem.F.args_dict_get_3 _ _ _) (meetsH_dict_get_default (tupleKind (cD X.prog X.w)) a b hd r) ⟨GcR hu,k,xs,n4 I.hok eb,dd,h _ _ (I.tok _) ?_⟩
  rw[l]
  exact(rel.val k).getD rd
end
noncomputable def J7(td ty tx:TE):TE:=λσ H Q=>td σ H λx H1=>∃a,x= .ref a∧IsD H1 a∧ty σ H1 λy H2=>tx σ H2 λz H3=>∃o,pU H3 a y o∧Q (o.getD z) H3
section
variable{X:Cx}{o e f:Expr}{apos cpos:Pos}{td ty tx:TE}
theorem Du(hu:X.A.units+1<cLine)(ho:PE X o td)(he:PE X e ty)(hf:PE X f tx)(m:M2 X o "get" apos e f cpos):PE X (.Call (.Attribute o "get" apos) [e,f] [] cpos) (J7 td ty tx):=by
 intro pins s σ H Q I h
 refine wpAny_Call_method m.base m.few m.line GcZ Gdr PySem.F.type_dict_get (thn (ho pins s σ H _ I h) λu s1 ⟨x,H1,I1,rx,a,ex,d,q1⟩=> ?_)
 subst ex
 obtain rfl:u=Value.ref a:=rx
 obtain⟨t1,t2,_⟩:=A7 I1 d
 refine⟨t1,t2, ?_⟩
 rw[m.trees]
 refine GcF rfl (Gdu (GcC (thn (he pins s1 σ H1 _ I1 q1) λiv s2 ⟨y,H2,I2,ry,q2⟩=>
  GcC (thn (hf pins s2 σ H2 _ I2 q2) λfv s3 ⟨z,H3,I3,rz,ov,g,q3⟩=>Calls.spliced_nil ?_))))
 exact J6 hu I3 g ry rz λw' s4 I4 rw' => ⟨_,H3,I4,rw',q3⟩
end
end L2
namespace Att
open PySem PySem.W PySem.Calls PyProof.Rows
theorem pV{P:Params}{h:Heap}:∀(ns:List Int) (vs:List Value),WellAll P h vs (ns.map WData.int)→IntsAre vs ns:=by
 intro ns
 induction ns with
 |nil=>
  intro vs w
  rw[Gdv] at w
  cases w
  exact .nil
 |cons n ns ih=>
  intro vs w
  rw[Gar] at w
  cases w with
  |cons a b=>
   cases a
   exact .cons _ _ (ih _ b)
theorem C7{l:OpenLaw}{n:Nat}(hn:l.most=some n){P:Params}{h:Heap}{args:List WData}{vals:List Value}
  (hpre:l.row.toRowW.claim.pre args=true)(hwl:WellAll P h vals args):
  ∃a vs ns,vals=[Value.ref a]∧args=[WData.list (ns.map WData.int)]∧h.get? a=some {cls:= .type "list",data:= .seq vs.toArray}∧IntsAre vs ns∧ns.length≤n:=by
 have hsh:WShape.hasAll [] args [.list .int]=true:=(pre_splitW hpre).1
 have hc:l.pre.holds [] {args:=args}=true:=(pre_splitW hpre).2
 obtain⟨d,r,rfl,h1,h2⟩:=hasAllW_cons hsh
 obtain rfl:=hasAllW_nil h2
 obtain⟨xs,rfl,h3⟩:=hasW_list h1
 obtain⟨ns,rfl⟩:=items_int h3
 have hlen:ns.length≤n:=by
  unfold OpenLaw.pre at hc
  have h4:(WTm.not (.lt (.lit (.int (n:Int))) (.len (.arg 0)))).holds [] {args:=[.list (ns.map .int)]}=true:=by
   have h4:=(holds_andW hc).1
   rw[hn] at h4
   exact h4
  have h5:=condW_of h4 (w_not (w_lt w_lit (w_len_list (w_arg rfl))))
  rw[Gae] at h5
  refine Nat.le_of_not_lt λq=> ?_
  have q' :(n:Int)<((ns.length:Nat):Int):=by omega
  first
   |(rw[GaF q'] at h5;exact absurd h5 (by decide))
   |(simp at h5;omega)
 cases hwl with
 |cons w1 w2=>
  cases w2
  cases w1 with
  |list ho hall=>exact⟨_,_,ns,rfl,rfl,ho,pV ns _ hall,hlen⟩
theorem C8(l:OpenLaw)(args:List WData):l.row.toRowW.claim.post args (.bool true) args=true:=
 postW_of (r:=l.row.toRowW) (X:=(true==true))
  (show WShape.has [] (.bool true) .bool=true by first|rfl|decide|simp[WShape.has,WShape.arms,WShape.armsAll])
  (show(WTm.eq .res (.lit (.bool true))).value [] {args:=args,res:=some (.bool true),after:=args}=some (.bool (true==true)) from w_eq_bool (w_res rfl) w_lit) rfl
theorem uZ{l:OpenLaw}{n:Nat}{q:Program}{loose:List Str}{XP:(Str→Option Value)→Heap→Prop}{YP:World→Heap→Prop}{d:DefRec}
  (hn:l.most=some n)(hdf:d.params.defaults=[])
  (call:∀(w:World) (s₀ s₁:Shared) (mg mb:Str→Option Value) (fa:Addr) (o:Obj) (pm cd doc:Value) (a:Addr) (vs:List Value) (ns:List Int),
   Ground q loose [] XP w s₀ mg mb s₁.heap→YP w s₁.heap→
   s₁.heap.get? fa=some o→o.data= .func (docDef d.name d.params d.body d.scope pm cd doc)→s₁.heap.CodeRec cd d.name→mg d.name=some (.ref fa)→
   s₁.heap.get? a=some {cls:= .type "list",data:= .seq vs.toArray}→IntsAre vs ns→ns.length≤n→s₁.gens=#[]→
   codeAny (model l.prog w) callerA (.call (.ref fa) ⟨[.ref a],[]⟩) (λr s' =>r= .ok (.ret (.bool true))∧OldK s₁.heap s'.heap∧s'.os=s₁.os∧AllBare s'.gens) s₁):
  WalkO q loose XP YP l.row.toRowW d [] (λf vs=>PySem.call f vs):=by
 intro w s₀ s₁ mg mb G Y fa o pm cd doc dV kV ho hd hcd hD hmg hg args vals as hpre hlay hrd hwl hlo
 obtain rfl:dV= .none:=Dflts.none hD hdf
 obtain rfl:kV= .none:=Dflts.noKw hD
 obtain⟨a,vs,ns,rfl,rfl,hobj,hints,hlen⟩:=C7 hn hpre hwl
 refine enter_call (codeAny_mono (call w s₀ s₁ mg mb fa o pm cd doc a vs ns G Y ho (fd_plain hd) hcd hmg hobj hints hlen hg) λr s' hq=> ?_)
 obtain⟨rfl,h2,h3,h4⟩:=hq
 exact⟨.inl ⟨.bool true,.bool true,[],rfl,λ_=>rfl,.bool true,C8 l _,λ_=> ⟨List.Pairwise.nil,λ_ hm=>(nomatch hm)⟩⟩,h2,h3,h4⟩
end Att
namespace L2
open PySem PySem.Spec PyProof.Rows
theorem lV:∀{vs:List Value} {ns:List Int},IntsAre vs ns→Vals (ns.map V.int) vs
 |_,_,.nil=> .nil
 |_,_,.cons n t h=> .cons ⟨t,rfl⟩ (lV h)
noncomputable def Gb(H:Hp):Prop:=∀b,H b=none∨∃o xs,H b=some (.frz o (.lst xs))
theorem Dv{P:Program}{w:World}{K:PySem.W.Frag}{mg mb:Str→Option Value}{CX:CXT}{k:Nat}{fa a:Addr}{fd:FuncData}{x:Str}{sp:Sp}{s₁:Shared}{vs:List Value}{ns:List Int}
  (KX:K.In s₁.heap)(hns:s₁.heap.Ns mainGlobals mg)(hb:s₁.heap.Ns builtinsNs mb)(hbb:∀x:Str,x≠"__name__"→mb x=bootBuiltins x)(hlim:s₁.heap.NoLimit)(hg:s₁.gens=#[])
  (ha:s₁.heap.get? a=some {cls:= .type "list",data:= .seq vs.toArray})(hi:IntsAre vs ns)(hl:ns.length≤sizeLine)(hr:gZ k callerA)
  (F:∀base:Heap,K.In base→base.Ns mainGlobals mg→cF P w K mg base CX k fa fd [x] sp)(hbind:∀(s:Shared) (u:Value),BindsTo s fd ⟨[u],[]⟩ [(x,u)])
  (hsp:∀H:Hp,Gb H→SqL K H a (ns.map V.int)→sp [.ref a] H (λv _=>v= .bl true) λ_ _ _=>False)
  (hCX:∀H e s',CX [] H s₁ (λ_ _ _=>False) e s' →False):
  codeAny (model P w) callerA (.call (.ref fa) ⟨[.ref a],[]⟩) (λr s' =>r= .ok (.ret (.bool true))∧OldK s₁.heap s'.heap∧s'.os=s₁.os∧AllBare s'.gens) s₁:=by
 have rv:=lV hi
 have lenV:=hi.length
 have core:∀H:Hp,Gb H→SqL K H a (ns.map V.int)→HOk P w H s₁.heap→(∀b,H b≠none→b=a)→(H a≠none→K.lookup a=none)→
   codeAny (model P w) callerA (.call (.ref fa) ⟨[.ref a],[]⟩) (λr s' =>r= .ok (.ret (.bool true))∧OldK s₁.heap s'.heap∧s'.os=s₁.os∧AllBare s'.gens) s₁:=by
  intro H hO hS hok hA hK
  have base_of:∀{b:Addr} {o:Obj},s₁.heap.get? b=some o→H b=none→(tV s₁.heap H).get? b=some o:=λe n=>D9 e n
  have noA:∀{b:Addr} {o:Obj} {es:Array DictEntry} {ep:Nat},s₁.heap.get? b=some o→o.data= .dict es ep→H b=none:=λ{b o es ep} e d=>by
   cases q:H b with
   |none=>rfl
   |some u=>
    have e' :b=a:=hA b (by rw[q];simp)
    subst e'
    rw[ha] at e;cases e
    have d' :Data.seq vs.toArray _=Data.dict es ep:=d
    cases d'
  have nsK:∀{b:Addr} {m:Str→Option Value},s₁.heap.Ns b m→(tV s₁.heap H).Ns b m:=λ{b m} ⟨o,es,ep,e,d,r⟩=> ⟨o,es,ep,base_of e (noA e d),d,r⟩
  have hKb:K.In (tV s₁.heap H):=λb o e=>base_of (KX b o e) (by
   cases q:H b with
   |none=>rfl
   |some u=>
    have e' :b=a:=hA b (by rw[q];simp)
    subst e'
    rw[hK (by rw[q];simp)] at e;cases e)
  have hM:Mod K mg (tV s₁.heap H):=⟨hKb,nsK hns,⟨mb,nsK hb,hbb⟩,let⟨mc,h1,h2⟩:=hlim;⟨mc,nsK h1,h2⟩⟩
  have e0:A2 P w K mg (tV s₁.heap H) callerA [] s₁ H:=⟨rfl,hM,λb o e=>FN e,Nat.le_of_eq (BR _ _),trivial,λb hb=>absurd (show b∈([]:List Addr) from hb) (by simp),hok,.of_eq hg⟩
  refine codeAny_mono ((F _ hKb (nsK hns)).run callerA [] s₁ H ⟨[.ref a],[]⟩ [.ref a] [.ref a] _ _ hr e0 (hbind s₁ (.ref a)) (.cons rfl .nil) (hsp H hO hS)) λr s' h=> ?_
  cases r with
  |error e=>exact(hCX H e s' h).elim
  |ok fl=>
   cases fl with
   |next=>exact False.elim h
   |brk=>exact False.elim h
   |cont=>exact False.elim h
   |ret u=>
    obtain⟨v,H',os,bare,un,hok',r',q⟩:=h
    have q' :v= .bl true:=q
    subst q'
    obtain rfl:u=Value.bool true:=r'
    refine⟨rfl,OldK.of_keep λb o e=> ?_,os,bare⟩
    cases q:H b with
    |none=>exact un.keep b o e q (by intro z;exact absurd (show b∈([]:List Addr) from z) (by simp)) (by simp)
    |some u=>
     rcases hO b with z| ⟨ob,xs,z⟩
     ·rw[q] at z;cases z
     ·have z2:=un.nz b ob _ z
      obtain⟨e1,_⟩:=hok b _ z
      obtain⟨e2,_⟩:=hok' b _ z2
      rw[e] at e1;cases e1
      exact e2
 cases hk:K.lookup a with
 |some o=>
  have e:=KX a o hk
  rw[ha] at e
  cases e
  refine core (λ_=>none) (λ_=> .inl rfl) (.inr ⟨_,vs.toArray,_,hk,rfl,rfl,rfl,by rw[Gam,lenV];exact hl,by simpa using rv⟩) (λb u z=>by have z' :(none:Option HO)=some u:=z;cases z') (λb z=>absurd rfl z) λz=>absurd rfl z
 |none=>
  refine core (λb=>if b=a then some (.frz {cls:= .type "list",data:= .seq vs.toArray} (.lst (ns.map V.int))) else none) (λb=> ?_) (.inl (.inr ⟨{cls:= .type "list",data:= .seq vs.toArray},Gah rfl⟩)) (λb u z=> ?_) (λb z=> ?_) λ_=>hk
  ·by_cases hb:b=a
   ·exact .inr ⟨_,_,Gah hb⟩
   ·exact .inl (Gag hb)
  ·by_cases hb:b=a
   ·have z' :=(Gah hb).symm.trans z
    cases z'
    subst hb
    exact⟨ha,by rw[Gae];exact hl,vs,_,rv,ha⟩
   ·have z' :=(Gag hb).symm.trans z
    cases z'
  ·by_cases hb:b=a
   ·exact hb
   ·exact absurd (Gag hb) z
theorem Gd{l:PySem.W.OpenLaw}{n k:Nat}{q:Program}{loose:List Str}{XP:(Str→Option Value)→Heap→Prop}{YP:World→Heap→Prop}{d:DefRec}{K:Params→PySem.W.Frag}{CX:World→CXT}{sp:World→Sp}{x:Str}
  (hn:l.most=some n)(hn2:n≤sizeLine)(hdf:d.params.defaults=[])(hr:gZ k callerA)
  (hY:∀(w:World) (h:Heap),YP w h→(K w.params).In h)
  (F:∀(w:World) (mg:Str→Option Value) (fa:Addr) (h:Heap),(K w.params).In h→h.Ns mainGlobals mg→mg d.name=some (.ref fa)→
   ∃fd:FuncData,(∀(s:Shared) (u:Value),BindsTo s fd ⟨[u],[]⟩ [(x,u)])∧
    ∀base:Heap,(K w.params).In base→base.Ns mainGlobals mg→cF l.prog w (K w.params) mg base (CX w) k fa fd [x] (sp w))
  (hsp:∀(w:World) (H:Hp) (a:Addr) (ns:List Int),ns.length≤n→Gb H→SqL (K w.params) H a (ns.map V.int)→sp w [.ref a] H (λv _=>v= .bl true) λ_ _ _=>False)
  (hCX:∀(w:World) (H:Hp) (s:Shared) (e:Value) (s' :Shared),CX w [] H s (λ_ _ _=>False) e s' →False):
  PySem.W.WalkO q loose XP YP l.row.toRowW d [] (λf vs=>PySem.call f vs):=by
 refine Att.uZ hn hdf λw s₀ s₁ mg mb fa o pm cd doc a vs ns G Y ho hd hcd hmg hobj hints hlen hg=> ?_
 have KX:=hY w _ Y
 obtain⟨fd,hb,hF⟩:=F w mg fa _ KX G.T.g hmg
 exact Dv KX G.T.g G.T.b G.T.builtins G.T.nolimit hg hobj hints (Gbt hlen hn2) hr hF hb (λH hO hS=>hsp w H a ns hlen hO hS) λH e s' =>hCX w H s₁ e s'
noncomputable def lW(s:Stmt):Arguments:=match s with
 | .FunctionDef _ a _ _ _ _ _ _ _ _=>a
 |_=>{posonlyargs:=[],args:=[],vararg:=none,kwonlyargs:=[],kw_defaults:=[],kwarg:=none,defaults:=[]}
noncomputable def jk(s:Stmt):List Stmt:=match s with
 | .FunctionDef _ _ b _ _ _ _ _ _ _=>b
 |_=>[]
noncomputable def aJ(s:Stmt):Scope:=match s with
 | .FunctionDef _ _ _ _ _ _ sc _ _ _=>sc
 |_=>{kind:= .function,names:=[],isGenerator:=false,isCoroutine:=false}
noncomputable abbrev CX0:CXT:=λ_ _ _ _ _ _=>False
noncomputable abbrev E0:XK:=λ_ _ _=>False
theorem Ld{X:Cx}:Passes CX0 X E0:=λ_ _ _ _ _ _ _ h=>h.elim
structure Fun(K:PySem.W.Frag)(x qual:Str)(st:Stmt)(f:Addr)(fd:FuncData):Prop where
 ex:∃(oc:Value) (od:Option Addr) (kV doc pm:Value) (an:Option Addr) (cdv ct:Value) (osl:Array (Option Value)),
  fd=PySem.W.fnOf x qual (lW st) (jk st) (aJ st) .none kV doc pm an cdv ct∧K.lookup f=some ⟨oc,od,.func fd,osl⟩∧PySem.W.codeIn K cdv qual=true
 kp:PySem.W.keepIn K (.ref f)=true
section
variable{P:Program}{w:World}{K:PySem.W.Frag}{mg:Str→Option Value}{base:Heap}
theorem Fun.ok{x qual:Str}{st:Stmt}{f:Addr}{fd:FuncData}{N ps:List Str}{k:Nat}{sp:Sp}(F:Fun K x qual st f fd)(S:aW N ps (aJ st))(len:∀vs H Q E,sp vs H Q E→vs.length=ps.length)
  (hbody:∀(cdv:Value) (A:Around) (outer:List Env) (s:Shared) (H:Hp) (vs:List V) (Q:VK) (E:XK),gZ k (A.deeper (envOfC qual (aJ st) s.heap.objs.size f cdv))→sp vs H Q E→
   ∃t,PSs (A3 CX0 P w K mg base N qual (aJ st) f cdv A outer s H E).nox (jk st) t∧t {nx:=λ_ H' =>Q .non H',rt:=Q} (start N vs) H):cF P w K mg base CX0 (k+1) f fd ps sp:=by
 obtain⟨oc,od,kV,doc,pm,an,cdv,ct,osl,rfl,lk,hcd⟩:=F.ex
 refine L5 lk hcd S len λA outer s H vs Q E hr hsp=> ?_
 obtain⟨t,h,q⟩:=hbody cdv A outer s H vs Q E hr hsp
 exact⟨t,h.nox,q⟩
theorem J8{x qual:Str}{st:Stmt}{f:Addr}{oc:Value}{od an:Option Addr}{osl:Array (Option Value)}{kV doc pm cdv ct:Value}(l:K.lookup f=some ⟨oc,od,.func (PySem.W.fnOf x qual (lW st) (jk st) (aJ st) .none kV doc pm an cdv ct),osl⟩)
  (c:PySem.W.codeIn K cdv qual=true)(k:PySem.W.keepIn K (.ref f)=true):Fun K x qual st f (PySem.W.fnOf x qual (lW st) (jk st) (aJ st) .none kV doc pm an cdv ct):=⟨⟨oc,od,kV,doc,pm,an,cdv,ct,osl,rfl,l,c⟩,k⟩
end
theorem dm{A:Around}{k:Nat}(hr:gZ k A):A.units+1<cLine:=GcS (Nat.add_le_add_left (by decide:1≤64) _) hr.units
noncomputable def c9(H H' :Hp):Prop:=∀b o,H b=some o→H' b=some o
theorem c9.refl(H:Hp):c9 H H:=λ_ _ h=>h
theorem c9.trans{H H1 H2:Hp}(a:c9 H H1)(b:c9 H1 H2):c9 H H2:=λc o h=>b c o (a c o h)
theorem c9.free{H H' :Hp}(e:c9 H H'){l:Addr}(h:H' l=Option.none):H l=Option.none:=by
 cases q:H l with
 |none=>rfl
 |some o=>
  rw[e l o q] at h
  cases h
end L2
namespace DL
open PySem
noncomputable abbrev Key:=Sum Int Str
inductive D where
 |non
 |bl (b:Bool)
 |int (i:Int)
 |str (x:Str)
 |tup (ds:List D)
 |lst (ds:List D)
 |dK (kvs:List (Key×D))
 |dT (kvs:List (List Key×D))
 |scr (ns:List Int)
 deriving Inhabited
mutual
@[simp] noncomputable def D.imm:D→Bool
 | .non=>true
 | .bl _=>true
 | .int _=>true
 | .str _=>true
 | .tup ds=>aN ds
 | .lst _=>false
 | .dK _=>false
 | .dT _=>false
 | .scr _=>true
@[simp] noncomputable def aN:List D→Bool
 |[]=>true
 |d::ds=>d.imm&&aN ds
end
noncomputable def D.pj:D→Bool
 | .lst ds=>aN ds
 | .dK kvs=>aN (kvs.map (·.2))
 | .dT kvs=>aN (kvs.map (·.2))
 |d=>d.imm
noncomputable def D.top:D→Bool
 | .lst _=>true
 | .dK _=>true
 | .dT _=>true
 |_=>false
noncomputable def ah:Nat:=16777216
inductive Slot where
 |sh (d:D)
 |own (d:D)
 |lok (d:D)
 |bor (d:D)
noncomputable abbrev Env:=List (Option Slot)
inductive Cls where
 |c|tn|to|tb
 deriving DecidableEq
structure RV where
 k:Cls
 d:D
noncomputable abbrev DE:=Env→Option RV
noncomputable abbrev DT:=Env→Option Bool
noncomputable abbrev DA:=Env→Option (List RV)
noncomputable abbrev DG:=D→Env→Option Env
inductive Out where
 |nx (e:Env)
 |ret (d:D)
 |bk (e:Env)
 |ct (e:Env)
noncomputable abbrev DS:=Env→Option Out
noncomputable def k5(d:D):RV:=⟨if d.top then .tn else .c,d⟩
noncomputable def RV.free(r:RV):Bool:=match r.k with
 | .c=>true
 | .tn=>true
 |_=>false
@[simp] noncomputable def vE(i:Nat):DE:=λenv=>match env[i]? with
 |some (some (.sh d))=>some ⟨.c,d⟩
 |some (some (.own d))=>some ⟨.to,d⟩
 |some (some (.lok d))=>some ⟨.tb,d⟩
 |some (some (.bor d))=>some ⟨.tb,d⟩
 |_=>none
@[simp] noncomputable def kE(d:D):DE:=λ_=>some ⟨.c,d⟩
@[simp] noncomputable def opE(o:D→D→Option RV)(f g:DE):DE:=λenv=>(f env).bind λx=>(g env).bind λy=>o x.d y.d
@[simp] noncomputable def unE(o:D→Option RV)(f:DE):DE:=λenv=>(f env).bind λx=>o x.d
noncomputable def aP:D→D→Option RV
 | .int i,.int j=>some ⟨.c,.int (i+j)⟩
 | .str x,.str y=>if x.length+y.length≤ah then some ⟨.c,.str (x++y)⟩ else none
 | .tup x,.tup y=>if x.length+y.length≤ah∧0<x.length then some ⟨.c,.tup (x++y)⟩ else none
 | .lst x,.lst y=>if x.length+y.length≤ah then some ⟨.tn,.lst (x++y)⟩ else none
 |_,_=>none
noncomputable def kI:D→D→Option RV
 | .int i,.int j=>some ⟨.c,.int (i -j)⟩
 |_,_=>none
noncomputable def cf(i j:Int):Bool:=decide (i.natAbs<18446744073709551616)||decide (j.natAbs<18446744073709551616)
noncomputable def dA:D→D→Option RV
 | .int i,.int j=>if cf i j then some ⟨.c,.int (i*j)⟩ else none
 |_,_=>none
noncomputable def mw:D→D→Option RV
 | .int i,.int j=>if 0<j∧j<1073741824 then some ⟨.c,.int (i/j)⟩ else none
 |_,_=>none
noncomputable def qv:D→D→Option RV
 | .int i,.int j=>if 0<j then some ⟨.c,.int (i%j)⟩ else none
 |_,_=>none
noncomputable def oD:D→D→Option RV
 | .int i,.int j=>if 0≤j∧j≤1000∧i.natAbs<1000000 then some ⟨.c,.int (i^j.toNat)⟩ else none
 |_,_=>none
noncomputable def C9:D→Option RV
 | .int i=>some ⟨.c,.int (-i)⟩
 |_=>none
@[simp] noncomputable def ay:Nat→D→Bool
 |_,.non=>true
 |_,.bl _=>true
 |_,.int _=>true
 |_,.str _=>true
 |n+1,.tup ds=>ds.all (ay n)
 |n+1,.lst ds=>ds.all (ay n)
 |_,_=>false
@[simp] noncomputable def D.plain(d:D):Bool:=ay 20 d
mutual
@[simp] noncomputable def eqD:D→D→Bool
 | .non,.non=>true
 | .bl a,.bl b=>a==b
 | .bl a,.int b=>(if a then 1 else 0)==b
 | .int a,.bl b=>a==(if b then 1 else 0)
 | .int a,.int b=>a==b
 | .str a,.str b=>a==b
 | .tup a,.tup b=>kO a b
 | .lst a,.lst b=>kO a b
 |_,_=>false
@[simp] noncomputable def kO:List D→List D→Bool
 |[],[]=>true
 |a::as,b::bs=>eqD a b&&kO as bs
 |_,_=>false
end
noncomputable def eqB(x y:D):Option Bool:=if x.plain&&y.plain then some (eqD x y) else none
noncomputable def neB(x y:D):Option Bool:=if x.plain&&y.plain then some (!eqD x y) else none
noncomputable def dB:D→Bool
 | .non=>true
 |_=>false
noncomputable def qx(x y:D):Option Bool:=if dB y then some (dB x) else none
noncomputable def kA(x y:D):Option Bool:=if dB y then some (!dB x) else none
noncomputable def ltB:D→D→Option Bool
 | .int i,.int j=>some (decide (i<j))
 |_,_=>none
noncomputable def leB:D→D→Option Bool
 | .int i,.int j=>some (decide (i≤j))
 |_,_=>none
noncomputable def gtB:D→D→Option Bool
 | .int i,.int j=>some (decide (j<i))
 |_,_=>none
noncomputable def geB:D→D→Option Bool
 | .int i,.int j=>some (decide (j≤i))
 |_,_=>none
@[simp] noncomputable def b9(o:D→D→Option Bool)(f g:DE):DT:=λenv=>(f env).bind λx=>(g env).bind λy=>o x.d y.d
@[simp] noncomputable def bE(t:DT):DE:=λenv=>(t env).map λb=> ⟨.c,.bl b⟩
@[simp] noncomputable def va(f:DE):DT:=λenv=>(f env).bind λx=>match x.d with
 | .bl b=>some b
 |_=>none
@[simp] noncomputable def kP(t u:DT):DT:=λenv=>(t env).bind λb=>if b then u env else some false
@[simp] noncomputable def orT(t u:DT):DT:=λenv=>(t env).bind λb=>if b then some true else u env
@[simp] noncomputable def u3(t:DT):DT:=λenv=>(t env).map (!·)
@[simp] noncomputable def Dw(o p:D→D→Option Bool)(f g h:DE):DT:=λenv=>(f env).bind λx=>(g env).bind λy=>(o x.d y.d).bind λb=>if b then(h env).bind λz=>p y.d z.d else some false
@[simp] noncomputable def ifE(t:DT)(f g:DE):DE:=λenv=>(t env).bind λb=>if b then f env else g env
noncomputable def atD{α:Type}(xs:List α)(i:Int):Option α:=if 0≤i then xs[i.toNat]? else if -(xs.length:Int)≤i then xs[(i+xs.length).toNat]? else none
noncomputable def keyOf:D→Option Key
 | .int i=>some (.inl i)
 | .str x=>some (.inr x)
 |_=>none
@[simp] noncomputable def keysOf:List D→Option (List Key)
 |[]=>some []
 |d::ds=>(keyOf d).bind λk=>(keysOf ds).map (k:: ·)
section
variable{κ:Type} [DecidableEq κ]
noncomputable def look(kvs:List (κ×D))(k:κ):Option D:=(kvs.find? λkv=>decide (kv.1=k)).map (·.2)
noncomputable def put(kvs:List (κ×D))(k:κ)(v:D):List (κ×D):=
 if(kvs.any λkv=>decide (kv.1=k))=true then kvs.map (λkv=>if kv.1=k then(kv.1,v) else kv) else kvs++[(k,v)]
end
noncomputable def ixD:D→D→Option D
 | .lst xs,.int i=>atD xs i
 | .tup xs,.int i=>atD xs i
 | .str x,.int i=>if x.length≤ah then(atD x.cps.toList i).map λc=> .str ⟨#[c]⟩ else none
 | .dK kvs,k=>(keyOf k).bind λk=>look kvs k
 | .dT kvs,.tup ds=>(keysOf ds).bind λk=>look kvs k
 | .scr ns,.int i=>(atD ns i).map .int
 |_,_=>none
@[simp] noncomputable def ixE(f g:DE):DE:=λenv=>(f env).bind λx=>(g env).bind λy=>(ixD x.d y.d).map λd=> ⟨.c,d⟩
@[simp] noncomputable def aq:DA:=λ_=>some []
@[simp] noncomputable def a5(f:DE)(r:DA):DA:=λenv=>(f env).bind λx=>(r env).bind λxs=>some (x::xs)
@[simp] noncomputable def bQ(a:DA):DE:=λenv=>(a env).bind λrs=>if rs.all (·.free)&&decide (rs.length≤ah) then some ⟨.c,.tup (rs.map (·.d))⟩ else none
@[simp] noncomputable def gk(a:DA):DE:=λenv=>(a env).bind λrs=>if rs.all (·.free)&&decide (rs.length≤ah) then some ⟨.tn,.lst (rs.map (·.d))⟩ else none
@[simp] noncomputable def aG(sp:List D→Option D)(a:DA):DE:=λenv=>(a env).bind λrs=>(sp (rs.map (·.d))).map k5
@[simp] noncomputable def dS(o:List D→Option RV)(a:DA):DE:=λenv=>(a env).bind λrs=>o (rs.map (·.d))
noncomputable def cB:List D→Option RV
 |[.lst xs]=>some ⟨.c,.int xs.length⟩
 |[.tup xs]=>some ⟨.c,.int xs.length⟩
 |[.str x]=>if x.length≤ah then some ⟨.c,.int x.length⟩ else none
 |[.dK kvs]=>some ⟨.c,.int kvs.length⟩
 |[.scr ns]=>some ⟨.c,.int ns.length⟩
 |_=>none
noncomputable def nE:List D→Option RV
 |[.int i,.int j]=>some ⟨.c,.int (if j<i then j else i)⟩
 |_=>none
noncomputable def sR:List D→Option RV
 |[.int i,.int j]=>some ⟨.c,.int (if j>i then j else i)⟩
 |_=>none
noncomputable def iN:List D→Option RV
 |[.lst xs]=>some ⟨.c,.tup xs⟩
 |[.tup xs]=>some ⟨.c,.tup xs⟩
 |_=>none
@[simp] noncomputable def u4:List D→Option (List Bool)
 |[]=>some []
 | .bl b::ds=>(u4 ds).map (b:: ·)
 |_=>none
@[simp] noncomputable def B1:List D→Option (List Int)
 |[]=>some []
 | .int i::ds=>(B1 ds).map (i:: ·)
 |_=>none
noncomputable def mz:D→Option (List D)
 | .lst xs=>some xs
 | .tup xs=>some xs
 | .scr ns=>some (ns.map .int)
 |_=>none
noncomputable def one(o:List D→Option RV):List D→Option RV
 |[d]=>(mz d).bind o
 |_=>none
noncomputable def anyS:List D→Option RV:=one λds=>(u4 ds).map λbs=> ⟨.c,.bl (bs.any id)⟩
noncomputable def A8(i:Int)(ns:List Int):Int:=ns.foldl (λa b=>if b>a then b else a) i
noncomputable def jK(T:String):D→Bool
 | .non=>T=="NoneType"
 | .bl _=>T=="bool"||T=="int"
 | .int _=>T=="int"
 | .str _=>T=="str"
 | .tup _=>T=="tuple"
 | .lst _=>T=="list"
 | .dK _=>T=="dict"
 | .dT _=>T=="dict"
 | .scr _=>T=="list"
noncomputable def kQ:D→Bool
 | .scr _=>true
 |_=>false
@[simp] noncomputable def Ca(T:String)(f:DE):DT:=λenv=>(f env).bind λx=>if kQ x.d then none else some (jK T x.d)
noncomputable def sIx(n d:Nat):Option Int→Nat
 |none=>d
 |some v=>if v<0 then(v+(n:Int)).toNat else min v.toNat n
noncomputable def cutD{α:Type}(xs:List α)(lo hi:Option Int):List α:=(xs.drop (sIx xs.length 0 lo)).take (sIx xs.length xs.length hi -sIx xs.length 0 lo)
noncomputable abbrev DO:=Env→Option (Option Int)
@[simp] noncomputable def noO:DO:=λ_=>some none
@[simp] noncomputable def Dx(f:DE):DO:=λenv=>(f env).bind λx=>match x.d with
 | .int i=>some (some i)
 |_=>none
noncomputable def slD(lo hi:Option Int):D→Option RV
 | .lst xs=>some ⟨.tn,.lst (cutD xs lo hi)⟩
 | .tup xs=>if sIx xs.length 0 lo=0∧sIx xs.length xs.length hi=xs.length then none else some ⟨.c,.tup (cutD xs lo hi)⟩
 | .scr ns=>some ⟨.tn,.lst (cutD (ns.map .int) lo hi)⟩
 |_=>none
@[simp] noncomputable def slE(f:DE)(lo hi:DO):DE:=λenv=>(f env).bind λx=>(lo env).bind λl=>(hi env).bind λh=>slD l h x.d
@[simp] noncomputable def gN(i:Nat):DG:=λd env=>some (env.set i (some (.sh d)))
@[simp] noncomputable def gNs:List Nat→List D→Env→Option Env
 |[],[],env=>some env
 |i::is,d::ds,env=>gNs is ds (env.set i (some (.sh d)))
 |_,_,_=>none
@[simp] noncomputable def gT(is:List Nat):DG:=λd env=>match d with
 | .tup ds=>gNs is ds env
 |_=>none
@[simp] noncomputable def bg:DS:=λenv=>some (.nx env)
@[simp] noncomputable def bkS:DS:=λenv=>some (.bk env)
@[simp] noncomputable def aE(f g:DS):DS:=λenv=>(f env).bind λo=>match o with
 | .nx e=>g e
 |o=>some o
noncomputable def stored(i:Nat)(r:RV)(env:Env):Option Env:=match r.k with
 | .c=>some (env.set i (some (.sh r.d)))
 | .tn=>some (env.set i (some (.own r.d)))
 |_=>none
@[simp] noncomputable def aQ(i:Nat)(f:DE):DS:=λenv=>(f env).bind λr=>(stored i r env).map .nx
noncomputable def B2(r:RV):Bool:=match r.k with
 | .c=>r.d.imm
 | .tn=>r.d.pj
 | .to=>r.d.pj
 | .tb=>false
@[simp] noncomputable def retS(f:DE):DS:=λenv=>(f env).bind λr=>if B2 r then some (.ret r.d) else none
@[simp] noncomputable def ifS(t:DT)(f g:DS):DS:=λenv=>(t env).bind λb=>if b then f env else g env
@[simp] noncomputable def forL(g:DG)(body:DS):List D→Env→Option Out
 |[],env=>some (.nx env)
 |d::ds,env=>(g d env).bind λe=>(body e).bind λo=>match o with
  | .nx e=>forL g body ds e
  | .ct e=>forL g body ds e
  | .bk e=>some (.nx e)
  | .ret d=>some (.ret d)
noncomputable abbrev DI:=Env→Option (List D)
@[simp] noncomputable def bD(l:Option Nat)(env:Env):Env:=match l with
 |none=>env
 |some i=>match env[i]? with
  |some (some (.own d))=>env.set i (some (.lok d))
  |_=>env
@[simp] noncomputable def qy(l:Option Nat)(env:Env):Bool:=match l with
 |none=>false
 |some i=>match env[i]? with
  |some (some (.own _))=>true
  |_=>false
@[simp] noncomputable def iP(l:Option Nat)(env:Env):Env:=match l with
 |none=>env
 |some i=>match env[i]? with
  |some (some (.lok d))=>env.set i (some (.own d))
  |_=>env
noncomputable def freed(l:Option Nat)(b:Bool):Out→Out
 | .nx e=> .nx (if b then iP l e else e)
 |o=>o
@[simp] noncomputable def i8(l:Option Nat)(src:DI)(g:DG)(body:DS):DS:=λenv=>(src (bD l env)).bind λds=>(forL g body ds (bD l env)).map (freed l (qy l env))
noncomputable def i4(t:DT)(body:DS):Nat→Env→Option Out
 |0,_=>none
 |n+1,env=>(t env).bind λb=>if b then(body env).bind λo=>match o with
   | .nx e=>i4 t body n e
   | .ct e=>i4 t body n e
   | .bk e=>some (.nx e)
   | .ret d=>some (.ret d)
  else some (.nx env)
noncomputable def u5(t:DT)(body:DS):DS:=i4 t body 100000
@[simp] noncomputable def kR(f:DE):DI:=λenv=>(f env).bind λr=>if r.k= .to then none else match r.d with
 | .lst xs=>some xs
 | .tup xs=>some xs
 | .scr ns=>some (ns.map .int)
 |_=>none
noncomputable def bx(lo:Int)(n:Nat):List D:=(List.range n).map λ(k:Nat)=> .int (lo+(k:Int))
noncomputable def bU(i:Int):Bool:=decide (-4611686018427387904≤i)&&decide (i<4611686018427387904)
@[simp] noncomputable def gz(f:DE):DI:=λenv=>(f env).bind λr=>match r.d with
 | .int j=>if bU j then some (bx 0 j.toNat) else none
 |_=>none
@[simp] noncomputable def B3(f g:DE):DI:=λenv=>(f env).bind λx=>(g env).bind λy=>match x.d,y.d with
 | .int i,.int j=>if bU i&&bU j then some (bx i (j -i).toNat) else none
 |_,_=>none
@[simp] noncomputable def ownAt(i:Nat)(env:Env):Option D:=match env[i]? with
 |some (some (.own d))=>some d
 |_=>none
@[simp] noncomputable def kS(i:Nat)(f:DE):DS:=λenv=>(f env).bind λr=>(ownAt i env).bind λd=>match d with
 | .lst xs=>if r.free&&decide (xs.length<ah) then some (.nx (env.set i (some (.own (.lst (xs++[r.d])))))) else none
 |_=>none
@[simp] noncomputable def Le(i:Nat)(f:DE):DS:=λenv=>(f env).bind λr=>(ownAt i env).bind λd=>match d,r.d with
 | .lst xs,.lst ys=>if(r.k== .tn)&&decide (xs.length+ys.length≤ah) then some (.nx (env.set i (some (.own (.lst (xs++ys)))))) else none
 |_,_=>none
noncomputable def putD(d k v:D):Option D:=match d with
 | .dK kvs=>if kvs.length<ah then(keyOf k).map λk=> .dK (put kvs k v) else none
 | .dT kvs=>match k with
  | .tup ks=>if kvs.length<ah then(keysOf ks).map λk=> .dT (put kvs k v) else none
  |_=>none
 | .lst xs=>match k with
  | .int j=>if 0≤j∧j<xs.length then some (.lst (xs.set j.toNat v)) else if j<0∧-(xs.length:Int)≤j then some (.lst (xs.set (j+xs.length).toNat v)) else none
  |_=>none
 |_=>none
@[simp] noncomputable def qz:DE:=λ_=>some ⟨.tn,.dT []⟩
@[simp] noncomputable def vc(i:Nat)(k v:DE):DS:=λenv=>(v env).bind λx=>(k env).bind λy=>(ownAt i env).bind λd=>if x.free then(putD d y.d x.d).map λd=> .nx (env.set i (some (.own d))) else none
noncomputable def dF:Option Slot→Option Slot
 |some (.sh d)=>some (.sh d)
 |some (.own d)=>some (.bor d)
 |some (.lok d)=>some (.bor d)
 |some (.bor d)=>some (.bor d)
 |none=>none
noncomputable def compEnv(n:Nat)(aR:List Nat)(env:Env):Env:=List.replicate n none++aR.map λi=>dF (env[i]?.getD none)
@[simp] noncomputable def bH(g:DG)(t:DT)(f:DE):List D→Env→Option (List D)
 |[],_=>some []
 |d::ds,env=>(g d env).bind λe=>(t e).bind λb=>if b then(f e).bind λr=>if r.free then(bH g t f ds e).map (r.d:: ·) else none else bH g t f ds e
@[simp] noncomputable def kT(l:Option Nat)(n:Nat)(aR:List Nat)(src:DI)(g:DG)(t:DT)(f:DE):DE:=λenv=>(src (bD l env)).bind λds=>if ds.length≤ah then(bH g t f ds (compEnv n aR env)).map λrs=> ⟨.tn,.lst rs⟩ else none
@[simp] noncomputable def iQ:DT:=λ_=>some true
@[simp] noncomputable def bz(n:Nat)(ds:List D):Env:=ds.map (λd=>some (.sh d))++List.replicate (n -ds.length) none
@[simp] noncomputable def fw(n np:Nat)(body:DS):List D→Option D:=λds=>if ds.length=np then(body (bz n ds)).bind λo=>match o with
  | .ret d=>some d
  | .nx _=>some .non
  |_=>none
 else none
@[simp] theorem Ge{a b:String}:Str.ofString a=Str.ofString b↔a=b:=by
 constructor
 ·intro h
  rw[Str.ofString_eq_toList,Str.ofString_eq_toList] at h
  have h1:a.toList.map Char.toNat=b.toList.map Char.toNat:=by
   injection h with h
   exact Gcx.mpr h|>λz=>by simpa using z
  have h2:a.toList=b.toList:=by
   have inj:∀(x y:List Char),x.map Char.toNat=y.map Char.toNat→x=y:=by
    intro x
    induction x with
    |nil=>intro y e;cases y with
     |nil=>rfl
     |cons=>simp at e
    |cons c x ih=>intro y e;cases y with
     |nil=>simp at e
     |cons c' y=>
      simp only[Gar,List.cons.injEq] at e
      rw[ih y e.2,Char.toNat_inj.mp e.1]
   exact inj _ _ h1
  exact String.toList_inj.mp h2
 ·rintro rfl;rfl
section
variable{i j:Int}{x y:Str}{ds es:List D}{d:D}{env:Env}{n:Nat}
@[simp] theorem Lf:aP (.int i) (.int j)=some ⟨.c,.int (i+j)⟩:=rfl
@[simp] theorem Lg:aP (.str x) (.str y)=if x.length+y.length≤ah then some ⟨.c,.str (x++y)⟩ else none:=rfl
@[simp] theorem Lh:aP (.tup ds) (.tup es)=if ds.length+es.length≤ah∧0<ds.length then some ⟨.c,.tup (ds++es)⟩ else none:=rfl
@[simp] theorem Li:aP (.lst ds) (.lst es)=if ds.length+es.length≤ah then some ⟨.tn,.lst (ds++es)⟩ else none:=rfl
@[simp] theorem Lj:kI (.int i) (.int j)=some ⟨.c,.int (i -j)⟩:=rfl
@[simp] theorem Lk:dA (.int i) (.int j)=if cf i j then some ⟨.c,.int (i*j)⟩ else none:=rfl
@[simp] theorem Kg:mw (.int i) (.int j)=if 0<j∧j<1073741824 then some ⟨.c,.int (i/j)⟩ else none:=rfl
@[simp] theorem Ll:qv (.int i) (.int j)=if 0<j then some ⟨.c,.int (i%j)⟩ else none:=rfl
@[simp] theorem Lm:oD (.int i) (.int j)=if 0≤j∧j≤1000∧i.natAbs<1000000 then some ⟨.c,.int (i^j.toNat)⟩ else none:=rfl
@[simp] theorem Ln:C9 (.int i)=some ⟨.c,.int (-i)⟩:=rfl
@[simp] theorem Mz:ltB (.int i) (.int j)=some (decide (i<j)):=rfl
@[simp] theorem MA:leB (.int i) (.int j)=some (decide (i≤j)):=rfl
@[simp] theorem MB:gtB (.int i) (.int j)=some (decide (j<i)):=rfl
@[simp] theorem MC:geB (.int i) (.int j)=some (decide (j≤i)):=rfl
@[simp] theorem MD:eqB (.int i) (.int j)=some (i==j):=rfl
@[simp] theorem ME:eqB (.str x) (.str y)=some (x==y):=rfl
@[simp] theorem Np:eqB .non (.int j)=some false:=rfl
@[simp] theorem Nq:eqB (.int j) .non=some false:=rfl
@[simp] theorem Nr:eqB .non .non=some true:=rfl
@[simp] theorem MF:neB (.int i) (.int j)=some (!(i==j)):=rfl
@[simp] theorem MG:neB (.str x) (.str y)=some (!(x==y)):=rfl
@[simp] theorem Nt:neB .non (.int j)=some true:=rfl
@[simp] theorem Nu:neB (.int j) .non=some true:=rfl
@[simp] theorem Nv:neB .non .non=some false:=rfl
@[simp] theorem Kh:dB .non=true:=rfl
@[simp] theorem Ki:dB (.int i)=false:=rfl
@[simp] theorem Kj:dB (.str x)=false:=rfl
@[simp] theorem Lo{b:Bool}:dB (.bl b)=false:=rfl
@[simp] theorem Kk:dB (.tup ds)=false:=rfl
@[simp] theorem Km:dB (.lst ds)=false:=rfl
@[simp] theorem Lp:qx d .non=some (dB d):=rfl
@[simp] theorem Kn:kA d .non=some (!dB d):=rfl
@[simp] theorem jL:cB [.lst ds]=some ⟨.c,.int ds.length⟩:=rfl
@[simp] theorem gP:cB [.tup ds]=some ⟨.c,.int ds.length⟩:=rfl
@[simp] theorem Lq:cB [.str x]=if x.length≤ah then some ⟨.c,.int x.length⟩ else none:=rfl
@[simp] theorem Dy{ns:List Int}:cB [.scr ns]=some ⟨.c,.int ns.length⟩:=rfl
@[simp] theorem MH{kvs:List (Key×D)}:cB [.dK kvs]=some ⟨.c,.int kvs.length⟩:=rfl
@[simp] theorem Ko:nE [.int i,.int j]=some ⟨.c,.int (if j<i then j else i)⟩:=rfl
@[simp] theorem Kp:sR [.int i,.int j]=some ⟨.c,.int (if j>i then j else i)⟩:=rfl
@[simp] theorem J9:iN [.lst ds]=some ⟨.c,.tup ds⟩:=rfl
@[simp] theorem Ja:iN [.tup ds]=some ⟨.c,.tup ds⟩:=rfl
@[simp] theorem Lr{T:String}:jK T .non=(T=="NoneType"):=rfl
@[simp] theorem MI{T:String}{b:Bool}:jK T (.bl b)=(T=="bool"||T=="int"):=rfl
@[simp] theorem Ls{T:String}:jK T (.int i)=(T=="int"):=rfl
@[simp] theorem Lu{T:String}:jK T (.str x)=(T=="str"):=rfl
@[simp] theorem Lv{T:String}:jK T (.tup ds)=(T=="tuple"):=rfl
@[simp] theorem Lw{T:String}:jK T (.lst ds)=(T=="list"):=rfl
@[simp] theorem Kq:kQ .non=false:=rfl
@[simp] theorem Lx{b:Bool}:kQ (.bl b)=false:=rfl
@[simp] theorem Kr:kQ (.int i)=false:=rfl
@[simp] theorem Ks:kQ (.str x)=false:=rfl
@[simp] theorem Kt:kQ (.tup ds)=false:=rfl
@[simp] theorem Ku:kQ (.lst ds)=false:=rfl
@[simp] theorem MJ{lo hi:Option Int}:slD lo hi (.lst ds)=some ⟨.tn,.lst (cutD ds lo hi)⟩:=rfl
@[simp] theorem MK{lo hi:Option Int}:slD lo hi (.tup ds)=if sIx ds.length 0 lo=0∧sIx ds.length ds.length hi=ds.length then none else some ⟨.c,.tup (cutD ds lo hi)⟩:=rfl
@[simp] theorem ML{lo hi:Option Int}{ns:List Int}:slD lo hi (.scr ns)=some ⟨.tn,.lst (cutD (ns.map .int) lo hi)⟩:=rfl
@[simp] theorem Ly:stored n ⟨.c,d⟩ env=some (env.set n (some (.sh d))):=rfl
@[simp] theorem Kv:stored n ⟨.tn,d⟩ env=some (env.set n (some (.own d))):=rfl
@[simp] theorem MM:B2 ⟨.c,d⟩=d.imm:=rfl
@[simp] theorem Lz:B2 ⟨.tn,d⟩=d.pj:=rfl
@[simp] theorem LA:B2 ⟨.to,d⟩=d.pj:=rfl
@[simp] theorem Kw:(D.lst ds).pj=aN ds:=rfl
@[simp] theorem LB{kvs:List (List Key×D)}:(D.dT kvs).pj=aN (kvs.map (·.2)):=rfl
@[simp] theorem LC{kvs:List (Key×D)}:(D.dK kvs).pj=aN (kvs.map (·.2)):=rfl
@[simp] theorem LD:k5 .non=⟨.c,.non⟩:=rfl
@[simp] theorem MN{b:Bool}:k5 (.bl b)=⟨.c,.bl b⟩:=rfl
@[simp] theorem LF:k5 (.int i)=⟨.c,.int i⟩:=rfl
@[simp] theorem LH:k5 (.str x)=⟨.c,.str x⟩:=rfl
@[simp] theorem LI:k5 (.tup ds)=⟨.c,.tup ds⟩:=rfl
@[simp] theorem LJ:k5 (.lst ds)=⟨.tn,.lst ds⟩:=rfl
@[simp] theorem MO{kvs:List (List Key×D)}:k5 (.dT kvs)=⟨.tn,.dT kvs⟩:=rfl
@[simp] theorem MP{kvs:List (Key×D)}:k5 (.dK kvs)=⟨.tn,.dK kvs⟩:=rfl
@[simp] theorem Nw:RV.free ⟨.c,d⟩=true:=rfl
@[simp] theorem MQ:RV.free ⟨.tn,d⟩=true:=rfl
@[simp] theorem LK{l:Option Nat}{b:Bool}:freed l b (.nx env)= .nx (if b then iP l env else env):=rfl
@[simp] theorem Kx{l:Option Nat}{b:Bool}:freed l b (.ret d)= .ret d:=rfl
@[simp] theorem Ky:keyOf (.int i)=some (.inl i):=rfl
@[simp] theorem Kz:keyOf (.str x)=some (.inr x):=rfl
@[simp] theorem MR:ixD (.lst ds) (.int i)=atD ds i:=rfl
@[simp] theorem MS:ixD (.tup ds) (.int i)=atD ds i:=rfl
@[simp] theorem MT{ns:List Int}:ixD (.scr ns) (.int i)=(atD ns i).map .int:=rfl
@[simp] theorem MU:ixD (.str x) (.int i)=if x.length≤ah then(atD x.cps.toList i).map λc=> .str ⟨#[c]⟩ else none:=rfl
@[simp] theorem Nx{kvs:List (List Key×D)}:ixD (.dT kvs) (.tup ds)=(keysOf ds).bind λk=>look kvs k:=rfl
theorem f6{α:Type}{xs:List α}{k:Nat}:atD xs (k:Int)=xs[k]? :=by
 unfold atD;rw[Gah (by omega)];simp
@[simp] theorem NF{α:Type}{xs:List α}:atD xs 0=xs[0]? :=rfl
@[simp] theorem NG{α:Type}{xs:List α}:atD xs 1=xs[1]? :=rfl
@[simp] theorem NH{α:Type}{xs:List α}:atD xs 2=xs[2]? :=rfl
@[simp] theorem NI{α:Type}{xs:List α}:atD xs 3=xs[3]? :=rfl
@[simp] theorem NJ{α:Type}{xs:List α}:atD xs 4=xs[4]? :=rfl
@[simp] theorem NK{α:Type}{xs:List α}:atD xs 5=xs[5]? :=rfl
end
open PySem
noncomputable def aY:D→List Int
 | .non=>[0]
 | .int i=>[1,i]
 | .str x=>2::x.cps.toList.map Int.ofNat
 |_=>[3]
noncomputable def fu{α:Type} [DecidableEq α](lt:α→α→Bool):List α→List α→Bool
 |[],[]=>false
 |[],_::_=>true
 |_::_,[]=>false
 |a::as,b::bs=>if a=b then fu lt as bs else lt a b
noncomputable def ltI(a b:Int):Bool:=decide (a<b)
noncomputable def ltC:List (List Int)→List (List Int)→Bool:=fu (fu ltI)
noncomputable def code:D→List (List Int)
 | .tup ds=>ds.map aY
 |d=>[aY d]
noncomputable def Cb(d:D):List D→List D
 |[]=>[d]
 |e::es=>if ltC (code d) (code e) then d::e::es else e::Cb d es
noncomputable def cR:List D→List D
 |[]=>[]
 |d::ds=>Cb d (cR ds)
noncomputable def tyD:D→Nat
 | .non=>0
 | .int _=>1
 | .str _=>2
 |_=>3
noncomputable def mj(d:D):Bool:=tyD d !=3
noncomputable def mC:List D→List D→Bool
 |a::as,b::bs=>if aY a=aY b then mC as bs else(tyD a==tyD b&&(tyD a==1||tyD a==2))
 |_,_=>true
noncomputable def Cc:D→Bool
 | .int _=>true
 |_=>false
noncomputable def mq(t:Nat):D→Bool
 | .tup (f::r)=>tyD f==t&&r.all mj
 |_=>false
noncomputable def vd:D→D→Bool
 | .tup a,.tup b=>mC a b
 |_,_=>false
noncomputable def keysOk(ds:List D):Bool:=ds.all Cc||((ds.all (mq 1)||ds.all (mq 2))&&ds.all λx=>ds.all λy=>vd x y)
noncomputable def sortedS:List D→Option RV:=one λds=>if decide (ds.length<64)&&keysOk ds then some ⟨.tn,.lst (cR ds)⟩ else none
structure u6{α:Type}(lt:α→α→Bool):Prop where
 irr:∀a,lt a a=false
 tr:∀a b c,lt a b=true→lt b c=true→lt a c=true
 tot:∀a b,lt a b=false→lt b a=false→a=b
theorem Ny:u6 ltI:=⟨λa=>by simp[ltI],λa b c h1 h2=>by simp[ltI] at*;omega,λa b h1 h2=>by simp[ltI] at*;omega⟩
section
variable{α:Type} [DecidableEq α]{lt:α→α→Bool}
theorem u6.lex(L:u6 lt):u6 (fu lt):=by
 refine⟨λa=> ?_,λa=> ?_,λa=> ?_⟩
 ·induction a with
  |nil=>rfl
  |cons x xs ih=>simp[fu,ih]
 ·induction a with
  |nil=>
   intro b c h1 h2
   cases c with
   |nil=>cases b<;>simp[fu] at h1 h2
   |cons z zs=>rfl
  |cons x xs ih=>
   intro b c h1 h2
   cases b with
   |nil=>simp[fu] at h1
   |cons y ys=>
    cases c with
    |nil=>simp[fu] at h2
    |cons z zs=>
     unfold fu at h1 h2⊢
     by_cases e1:x=y
     ·subst e1
      rw[Gah rfl] at h1
      by_cases e2:x=z
      ·subst e2
       rw[Gah rfl] at h2⊢
       exact ih ys zs h1 h2
      ·rw[Gag e2] at h2⊢;exact h2
     ·rw[Gag e1] at h1
      by_cases e2:y=z
      ·subst e2
       rw[Gag e1];exact h1
      ·rw[Gag e2] at h2
       by_cases e3:x=z
       ·subst e3
        have:=L.tr x y x h1 h2
        rw[L.irr] at this;cases this
       ·rw[Gag e3];exact L.tr x y z h1 h2
 ·induction a with
  |nil=>
   intro b h1 h2
   cases b with
   |nil=>rfl
   |cons y ys=>simp[fu] at h1
  |cons x xs ih=>
   intro b h1 h2
   cases b with
   |nil=>simp[fu] at h2
   |cons y ys=>
    unfold fu at h1 h2
    by_cases e:x=y
    ·subst e
     rw[Gah rfl] at h1 h2
     rw[ih ys h1 h2]
    ·rw[Gag e] at h1
     rw[Gag (GaY e)] at h2
     exact absurd (L.tot x y h1 h2) e
theorem u6.nt(L:u6 lt){k x y:α}(h1:lt k y=true)(h2:lt x y=false):lt k x=true:=by
 cases h:lt y x with
 |true=>exact L.tr k y x h1 h
 |false=>rw[L.tot x y h2 h];exact h1
theorem u6.LL(L:u6 lt){x y:α}(h:lt x y=true):lt y x=false:=by
 cases q:lt y x with
 |false=>rfl
 |true=>have:=L.tr x y x h q;rw[L.irr] at this;cases this
end
theorem ve:u6 ltC:=Ny.lex.lex
noncomputable def rank(cs:List (List (List Int)))(i:Nat):Int:=((cs.filter λc=>ltC c (cs[i]?.getD [])).length:Nat)
theorem n5{α:Type}{p q:α→Bool}:∀{l:List α},(∀x∈l,p x=true→q x=true)→(l.filter p).length≤(l.filter q).length
 |[],_=>Gaq _
 |x::l,h=>by
  have ih:=n5 (l:=l) λy hy=>h y (Gaj _ hy)
  have hx:=h x Gap
  cases hp:p x with
  |false=>
   rw[Gbk,hp]
   simp only[GaB,GaV]
   refine Gbt ih ?_
   rw[Gbk]
   split
   ·rw[GaH];omega
   ·exact Gaq _
  |true=>rw[Gbk,Gbk,hp,hx hp];simp;exact ih
theorem mD{α:Type}{p q:α→Bool}:∀{l:List α} {z:α},z∈l→p z=false→q z=true→(∀x∈l,p x=true→q x=true)→(l.filter p).length<(l.filter q).length
 |[],z,hz,_,_,_=>by cases hz
 |x::l,z,hz,h1,h2,h=>by
  rcases GaA.mp hz with e|hz
  ·subst e
   have:=n5 (l:=l) (p:=p) (q:=q) λy hy=>h y (Gaj _ hy)
   rw[Gbk,Gbk,h1,h2]
   simp;omega
  ·have ih:=mD hz h1 h2 λy hy=>h y (Gaj _ hy)
   have hx:=h x Gap
   cases hp:p x with
   |false=>
    rw[Gbk,hp]
    simp only[GaB,GaV]
    rw[Gbk]
    split
    ·rw[GaH];omega
    ·exact ih
   |true=>rw[Gbk,Gbk,hp,hx hp];simp;exact ih
theorem B4{cs:List (List (List Int))}{i j:Nat}(hi:i<cs.length)(hj:j<cs.length):decide (rank cs i<rank cs j)=ltC cs[i] cs[j]:=by
 unfold rank
 rw[Gab hi,Gab hj]
 simp only[Option.getD_some]
 cases h:ltC cs[i] cs[j] with
 |true=>
  refine GaF (Int.ofNat_lt.mpr ?_)
  exact mD (z:=cs[i]) (GaC hi) (ve.irr _) h λc _ hc=>ve.tr _ _ _ hc h
 |false=>
  refine GaE (Int.not_lt.mpr (Int.ofNat_le.mpr ?_))
  exact n5 λc _ hc=>ve.nt hc h
noncomputable def f7(ds:List D):Prop:=ds.Pairwise λa b=>ltC (code b) (code a)=false
theorem oE(d:D):∀es:List D,(Cb d es).Perm (d::es)
 |[]=>List.Perm.refl _
 |e::es=>by
  unfold Cb
  split
  ·exact List.Perm.refl _
  ·exact((oE d es).cons e).trans (List.Perm.swap d e es)
theorem fK:∀ds:List D,(cR ds).Perm ds
 |[]=>List.Perm.refl _
 |d::ds=>(oE d _).trans ((fK ds).cons d)
theorem pk(d:D):∀{es:List D},f7 es→f7 (Cb d es)
 |[],_=>Gca _ _
 |e::es,h=>by
  have h' :=GbO.mp h
  unfold Cb
  split
  ·rename_i c
   refine GbO.mpr ⟨λb hb=> ?_,h⟩
   rcases GaA.mp hb with q|q
   ·subst q;exact ve.LL c
   ·cases z:ltC (code b) (code d) with
    |false=>rfl
    |true=>have:=ve.tr _ _ _ z c;rw[h'.1 b q] at this;cases this
  ·rename_i c
   refine GbO.mpr ⟨λb hb=> ?_,pk d h'.2⟩
   rcases GaA.mp ((oE d es).mem_iff.mp hb) with q|q
   ·subst q;simpa using c
   ·exact h'.1 b q
theorem fR:∀ds:List D,f7 (cR ds)
 |[]=>List.Pairwise.nil
 |d::ds=>pk d (fR ds)
theorem jE:∀{xs ys:List D},xs.Perm ys→f7 xs→f7 ys→(∀a∈xs,∀b∈xs,code a=code b→a=b)→xs=ys
 |[],ys,hp,_,_,_=>(List.nil_perm.mp hp).symm
 |x::xs,ys,hp,hx,hy,hi=>by
  cases ys with
  |nil=>exact absurd (List.perm_nil.mp hp) (by simp)
  |cons y ys=>
   have px:=GbO.mp hx
   have py:=GbO.mp hy
   have e:x=y:=by
    have mx:x∈y::ys:=hp.mem_iff.mp Gap
    have my:y∈x::xs:=hp.mem_iff.mpr Gap
    rcases GaA.mp mx with q|q
    ·exact q
    ·rcases GaA.mp my with r|r
     ·exact r.symm
     ·exact hi x Gap y my (ve.tot _ _ (py.1 x q) (px.1 y r)).symm.symm
   subst e
   rw[jE (List.perm_cons x|>.mp hp) px.2 py.2 λa ha b hb=>hi a (Gaj _ ha) b (Gaj _ hb)]
open PySem
@[simp] noncomputable def fA:Nat→List D→List D
 |_,[]=>[]
 |i,x::xs=> .tup [.int i,x]::fA (i+1) xs
@[simp] noncomputable def B5(f:DE):DI:=λenv=>(f env).bind λr=>if r.k= .to then none else match r.d with
 | .lst xs=>some (fA 0 xs)
 | .tup xs=>some (fA 0 xs)
 |_=>none
theorem jM:∀(i:Nat) (xs:List D),(fA i xs).length=xs.length
 |_,[]=>rfl
 |i,x::xs=>by simp[jM (i+1) xs]
theorem jN:∀(k:Nat) (xs:List D) (i:Nat),(fA k xs)[i]? =(xs[i]?).map λx=> .tup [.int ((k+i:Nat)),x]
 |_,[],i=>by simp
 |k,x::xs,i=>by
  cases i with
  |zero=>simp
  |succ i=>
   simp only[fA,Gda]
   rw[jN (k+1) xs i,show k+1+i=k+(i+1) by omega]
open PySem
open PySem
noncomputable def gn{α:Type}(xs:List α)(i:Int)(y:α):List α:=xs.take (if i<0 then(i+(xs.length:Int)).toNat else min i.toNat xs.length)++y::xs.drop (if i<0 then(i+(xs.length:Int)).toNat else min i.toNat xs.length)
theorem sS{α:Type}(xs:List α)(i:Int)(y:α):(gn xs i y).length=xs.length+1:=by
 unfold gn
 rw[Gav,GaH,GcK,Gcf]
 omega
theorem A9{α:Type}(xs:List α)(i:Int)(y:α):(gn xs i y).Perm (y::xs):=by
 unfold gn
 refine List.perm_middle.trans ?_
 rw[Gbc]
@[simp] noncomputable def LM(i:Nat)(k v:DE):DS:=λenv=>(k env).bind λx=>(v env).bind λr=>(ownAt i env).bind λd=>match d,x.d with
 | .lst xs,.int j=>if r.free&&(decide (xs.length<ah)&&bU j) then some (.nx (env.set i (some (.own (.lst (gn xs j r.d)))))) else none
 |_,_=>none
open PySem
noncomputable def mmD(best:Int→List Int→Int)(dv:D)(d:D):Option RV:=(mz d).bind λds=>(B1 ds).map λns=>match ns with
 |[]=> ⟨.c,dv⟩
 |n::ns=> ⟨.c,.int (best n ns)⟩
@[simp] noncomputable def mmE(best:Int→List Int→Int)(dv:D)(f:DE):DE:=λenv=>(f env).bind λr=>mmD best dv r.d
open PySem
noncomputable def isInt:D→Bool
 | .int _=>true
 |_=>false
noncomputable def unI:D→Int
 | .int i=>i
 |_=>0
noncomputable def Jb:Key→D
 | .inl i=> .int i
 | .inr x=> .str x
open PySem
noncomputable def Cd:D→D→Option (Option D)
 | .dK kvs,k=>(keyOf k).map λk=>look kvs k
 | .dT kvs,.tup ks=>(keysOf ks).map λk=>look kvs k
 |_,_=>none
@[simp] noncomputable def Gf(o k d:DE):DE:=λenv=>(o env).bind λx=>(k env).bind λy=>(d env).bind λr=>if r.k= .c then(Cd x.d y.d).map λv=> ⟨.c,v.getD r.d⟩ else none
@[simp] theorem MV{kvs:List (List Key×D)}{ks:List D}:Cd (.dT kvs) (.tup ks)=(keysOf ks).map λk=>look kvs k:=rfl
open PySem
open PySem
noncomputable def bL(kvs:List (List Key×D)):List D:=kvs.map λp=> .tup [.tup (p.1.map Jb),p.2]
@[simp] noncomputable def Dz(vw:List (List Key×D)→List D)(f:DE):DI:=λenv=>(f env).bind λr=>if r.k= .tn then match r.d with
 | .dT kvs=>some (vw kvs)
 |_=>none
 else none
@[simp] noncomputable def LN(i:Nat)(env:Env):Bool:=(List.range env.length).all λj=>j==i||match env[j]? with
 |some (some (.bor _))=>false
 |_=>true
@[simp] noncomputable def dictAt(i:Nat)(env:Env):Option (List (List Key×D)):=match env[i]? with
 |some (some (.own (.dT kvs)))=>some kvs
 |some (some (.lok (.dT kvs)))=>some kvs
 |some (some (.bor (.dT kvs)))=>if LN i env then some kvs else none
 |_=>none
@[simp] noncomputable def oF(vw:List (List Key×D)→List D)(i n:Nat)(aR:List Nat)(g:DG)(t:DT)(f:DE):DE:=λenv=>(dictAt i env).bind λkvs=>
 if(vw kvs).length≤ah then(bH g t f (vw kvs) (compEnv n aR (env.set i none))).map λrs=> ⟨.tn,.lst rs⟩ else none
open PySem
open PySem
open PySem
open PySem
open PySem
noncomputable abbrev DN:=Env→List (List D)→Option (Env×List (List D))
@[simp] noncomputable def B6(env:Env):Bool:=env.all λz=>match z with
 |some (.bor _)=>false
 |_=>true
open PySem
noncomputable def iR:List D→Option RV:=one λds=>if decide (ds.length<1000000)&&keysOk ds then some ⟨.tn,.lst (cR ds)⟩ else none
open PySem
noncomputable def dd1(ks:List Int)(k:Int):List Int:=if k∈ks then ks else ks++[k]
noncomputable def ddF(ns:List Int):List Int:=ns.foldl dd1 []
open PySem
noncomputable abbrev Rws:=List (List Key×D)
noncomputable abbrev DM:=Env→Rws→Option (Env×Rws)
@[simp] noncomputable def LP(f g:DM):DM:=λenv rows=>(f env rows).bind λq=>g q.1 q.2
@[simp] noncomputable def setM(j:Nat)(f:DE):DM:=λenv rows=>(f env).bind λr=>match r.k with
 | .c=>some (env.set j (some (.sh r.d)),rows)
 |_=>none
noncomputable def DB(kvs:Rws)(k:List Key)(d:D):Option Rws:=if kvs.length<ah then match kvs.findIdx? (λp=>decide (p.1=k)) with
 |some j=>match kvs[j]? with
  |some (_,.lst ds)=>if ds.length<ah then some (kvs.set j (k,.lst (ds++[d]))) else none
  |_=>none
 |none=>some (kvs++[(k,.lst [d])])
 else none
@[simp] noncomputable def LQ(k f:DE):DM:=λenv rows=>(k env).bind λy=>(f env).bind λr=>match y.d with
 | .tup ks=>if r.d.imm&&B6 env then(keysOf ks).bind λk=>(DB rows k r.d).map λrows' =>(env,rows') else none
 |_=>none
@[simp] noncomputable def nF(j:Nat)(f:DM):List D→DM
 |[],env,rows=>some (env,rows)
 |d::ds,env,rows=>(f (env.set j (some (.sh d))) rows).bind λq=>nF j f ds q.1 q.2
@[simp] noncomputable def HW(j:Nat)(e:DE)(f:DM):DM:=λenv rows=>(e env).bind λr=>match r.d with
 | .tup xs=>if aN xs then nF j f xs env rows else none
 |_=>none
@[simp] noncomputable def DC(i:Nat)(f:DM):DS:=λenv=>(f (env.set i none) []).bind λq=>some (.ret (.dT q.2))
open PySem PySem.Spec PyProof.Rows L2
noncomputable abbrev aD:=PySem.W.Frag
noncomputable abbrev St:=L2.St
noncomputable def isT:HO→Prop
 | .tup _=>True
 | .frz _ _=>True
 |_=>False
noncomputable def Kl(K:aD)(a:Addr)(xs:List V):Prop:=∃(o:Obj) (its:Array Value) (n:Nat),K.lookup a=some o∧o.cls= .type "list"∧o.dict=none∧o.data= .seq its n∧its.size≤sizeLine∧Vals xs its.toList
noncomputable def Scr(K:aD)(H:Hp)(a:Addr)(ns:List Int):Prop:=(∃o,H a=some (.frz o (.lst (ns.map V.int))))∨Kl K a (ns.map V.int)
inductive Rep (K:aD) (F:Addr→Prop) (H:Hp):D→V→Prop where
 |non:Rep K F H .non .non
 |bl (b:Bool):Rep K F H (.bl b) (.bl b)
 |int (i:Int):Rep K F H (.int i) (.int i)
 |str (x:Str):Rep K F H (.str x) (.str x)
 |tup {a:Addr} {vs:List V} {ds:List D} (h:H a=some (.tup vs)) (l:ds.length=vs.length) (r:∀(i:Nat) d v,ds[i]? =some d→vs[i]? =some v→Rep K F H d v):Rep K F H (.tup ds) (.ref a)
 |lst {a:Addr} {vs:List V} {ds:List D} (f:F a) (h:Rd H a (.lst vs)) (l:ds.length=vs.length) (r:∀(i:Nat) d v,ds[i]? =some d→vs[i]? =some v→Rep K F H d v):Rep K F H (.lst ds) (.ref a)
 |scr {a:Addr} {ns:List Int} (h:Scr K H a ns):Rep K F H (.scr ns) (.ref a)
 |dK {a:Addr} {ws:List (Key×V)} {kvs:List (Key×D)} (f:F a) (h:H a=some (.dK ws)) (l:kvs.map (·.1)=ws.map (·.1)) (r:∀(i:Nat) p q,kvs[i]? =some p→ws[i]? =some q→Rep K F H p.2 q.2):Rep K F H (.dK kvs) (.ref a)
 |dT {a:Addr} {ws:List (List Key×V)} {kvs:List (List Key×D)} (f:F a) (h:H a=some (.dT ws)) (l:kvs.map (·.1)=ws.map (·.1)) (r:∀(i:Nat) p q,kvs[i]? =some p→ws[i]? =some q→Rep K F H p.2 q.2):Rep K F H (.dT kvs) (.ref a)
noncomputable def aX(K:aD)(F:Addr→Prop)(H:Hp)(ds:List D)(vs:List V):Prop:=ds.length=vs.length∧∀(i:Nat) d v,ds[i]? =some d→vs[i]? =some v→Rep K F H d v
noncomputable def b8{κ:Type}(K:aD)(F:Addr→Prop)(H:Hp)(kvs:List (κ×D))(ws:List (κ×V)):Prop:=kvs.map (·.1)=ws.map (·.1)∧∀(i:Nat) p q,kvs[i]? =some p→ws[i]? =some q→Rep K F H p.2 q.2
inductive Inn (K:aD) (F:Addr→Prop) (H:Hp):D→V→Prop where
 |non:Inn K F H .non .non
 |bl (b:Bool):Inn K F H (.bl b) (.bl b)
 |int (i:Int):Inn K F H (.int i) (.int i)
 |str (x:Str):Inn K F H (.str x) (.str x)
 |tup {a:Addr} {vs:List V} {ds:List D} (h:H a=some (.tup vs)) (r:aX K F H ds vs):Inn K F H (.tup ds) (.ref a)
 |lst {a:Addr} {vs:List V} {ds:List D} (h:Rd H a (.lst vs)) (r:aX K F H ds vs):Inn K F H (.lst ds) (.ref a)
 |scr {a:Addr} {ns:List Int} (h:Scr K H a ns):Inn K F H (.scr ns) (.ref a)
 |dK {a:Addr} {ws:List (Key×V)} {kvs:List (Key×D)} (h:H a=some (.dK ws)) (r:b8 K F H kvs ws):Inn K F H (.dK kvs) (.ref a)
 |dT {a:Addr} {ws:List (List Key×V)} {kvs:List (List Key×D)} (h:H a=some (.dT ws)) (r:b8 K F H kvs ws):Inn K F H (.dT kvs) (.ref a)
section
variable{K:aD}{F F' :Addr→Prop}{H H' :Hp}{d:D}{v:V}{ds:List D}{vs:List V}
theorem Rep.inn(h:Rep K F H d v):Inn K F H d v:=by
 cases h with
 |non=>exact .non
 |bl b=>exact .bl b
 |int i=>exact .int i
 |str x=>exact .str x
 |tup h l r=>exact .tup h ⟨l,r⟩
 |lst f h l r=>exact .lst h ⟨l,r⟩
 |scr h=>exact .scr h
 |dK f h l r=>exact .dK h ⟨l,r⟩
 |dT f h l r=>exact .dT h ⟨l,r⟩
theorem Inn.rep(h:Inn K F H d v)(hf:∀a,v= .ref a→d.top=true→F a):Rep K F H d v:=by
 cases h with
 |non=>exact .non
 |bl b=>exact .bl b
 |int i=>exact .int i
 |str x=>exact .str x
 |tup h r=>exact .tup h r.1 r.2
 |lst h r=>exact .lst (hf _ rfl rfl) h r.1 r.2
 |scr h=>exact .scr h
 |dK h r=>exact .dK (hf _ rfl rfl) h r.1 r.2
 |dT h r=>exact .dT (hf _ rfl rfl) h r.1 r.2
noncomputable def iU(F:Addr→Prop)(H H' :Hp):Prop:=∀b o,H b=some o→(F b∨isT o)→H' b=some o
theorem iU.of_same(h:c9 H H'):iU F H H' :=λb o e _=>h b o e
theorem iU.tup{a:Addr}(s:iU F H H')(h:H a=some (.tup vs)):H' a=some (.tup vs):=s _ _ h (.inr trivial)
theorem iU.scr{a:Addr}{ns:List Int}(s:iU F H H')(h:Scr K H a ns):Scr K H' a ns:=by
 rcases h with⟨o,h⟩|h
 ·exact .inl ⟨o,s _ _ h (.inr trivial)⟩
 ·exact .inr h
theorem iU.rd{a:Addr}{u:HO}(s:iU F H H')(f:F a)(h:Rd H a u):Rd H' a u:=by
 rcases h with h| ⟨o,h⟩
 ·exact .inl (s _ _ h (.inl f))
 ·exact .inr ⟨o,s _ _ h (.inl f)⟩
theorem Rd.there{a:Addr}{u:HO}(h:Rd H a u):H a≠none:=by
 rcases h with h| ⟨o,h⟩<;>rw[h]<;>simp
theorem Rep.gen(s:iU F H H')(hF:∀b,F b→H b≠none→F' b)(h:Rep K F H d v):Rep K F' H' d v:=by
 induction h with
 |non=>exact .non
 |bl b=>exact .bl b
 |int i=>exact .int i
 |str x=>exact .str x
 |tup h l r ih=>exact .tup (s.tup h) l ih
 |lst f h l r ih=>exact .lst (hF _ f (Rd.there h)) (s.rd f h) l ih
 |scr h=>exact .scr (s.scr h)
 |dK f h l r ih=>exact .dK (hF _ f (by rw[h];simp)) (s _ _ h (.inl f)) l ih
 |dT f h l r ih=>exact .dT (hF _ f (by rw[h];simp)) (s _ _ h (.inl f)) l ih
theorem Rep.same(s:c9 H H')(h:Rep K F H d v):Rep K F H' d v:=h.gen (.of_same s) λ_ f _=>f
theorem Rep.imp(hF:∀b,F b→F' b)(h:Rep K F H d v):Rep K F' H d v:=h.gen (.of_same λ_ _ e=>e) λb f _=>hF b f
theorem aX.gen(s:iU F H H')(hF:∀b,F b→H b≠none→F' b)(h:aX K F H ds vs):aX K F' H' ds vs:=⟨h.1,λi d v e1 e2=>(h.2 i d v e1 e2).gen s hF⟩
theorem b8.gen{κ:Type}{kvs:List (κ×D)}{ws:List (κ×V)}(s:iU F H H')(hF:∀b,F b→H b≠none→F' b)(h:b8 K F H kvs ws):b8 K F' H' kvs ws:=⟨h.1,λi p q e1 e2=>(h.2 i p q e1 e2).gen s hF⟩
theorem Inn.gen(s:iU F H H')(hF:∀b,F b→H b≠none→F' b)(ht:∀a,v= .ref a→d.top=true→∀o,H a=some o→H' a=some o)(h:Inn K F H d v):Inn K F' H' d v:=by
 have rd:∀{a:Addr} {u:HO},(∀o,H a=some o→H' a=some o)→Rd H a u→Rd H' a u:=λk h=>by
  rcases h with h| ⟨o,h⟩
  ·exact .inl (k _ h)
  ·exact .inr ⟨o,k _ h⟩
 cases h with
 |non=>exact .non
 |bl b=>exact .bl b
 |int i=>exact .int i
 |str x=>exact .str x
 |tup h r=>exact .tup (s.tup h) (r.gen s hF)
 |lst h r=>exact .lst (rd (ht _ rfl rfl) h) (r.gen s hF)
 |scr h=>exact .scr (s.scr h)
 |dK h r=>exact .dK (ht _ rfl rfl _ h) (r.gen s hF)
 |dT h r=>exact .dT (ht _ rfl rfl _ h) (r.gen s hF)
theorem Inn.same(s:c9 H H')(h:Inn K F H d v):Inn K F H' d v:=h.gen (.of_same s) (λ_ f _=>f) λ_ _ _ o e=>s _ o e
theorem Inn.imp(hF:∀b,F b→F' b)(h:Inn K F H d v):Inn K F' H d v:=h.gen (.of_same λ_ _ e=>e) (λb f _=>hF b f) λ_ _ _ _ e=>e
theorem Inn.any(h:Inn K F H d v):Rep K (λ_=>True) H d v:=(h.imp (F' :=λ_=>True) λ_ _=>trivial).rep λ_ _ _=>trivial
theorem qf{ds:List D}(h:aN ds=true):∀(i:Nat) d,ds[i]? =some d→d.imm=true:=by
 induction ds with
 |nil=>intro i d e;simp at e
 |cons x xs ih=>
  unfold aN at h
  rw[Gas] at h
  intro i d e
  cases i with
  |zero=>simp at e;subst e;exact h.1
  |succ i=>exact ih h.2 i d (by simpa using e)
theorem Rep.imm(h:Rep K F H d v)(hd:d.imm=true):Rep K F' H d v:=by
 induction h with
 |non=>exact .non
 |bl b=>exact .bl b
 |int i=>exact .int i
 |str x=>exact .str x
 |tup h l r ih=>
  unfold D.imm at hd
  exact .tup h l λi d v e1 e2=>ih i d v e1 e2 (qf hd i d e1)
 |lst f h l r ih=>simp[D.imm] at hd
 |scr h=>exact .scr h
 |dK f h l r ih=>simp[D.imm] at hd
 |dT f h l r ih=>simp[D.imm] at hd
theorem Inn.imm(h:Inn K F H d v)(hd:d.imm=true):Rep K F' H d v:=by
 refine Rep.imm (h.rep λa _ ht=> ?_) hd
 cases d<;>simp[D.top] at ht<;>simp[D.imm] at hd
theorem aX.nil:aX K F H [] []:=⟨rfl,λi d v e=>by simp at e⟩
theorem aX.cU(h:aX K F H [] vs):vs=[]:=List.eq_nil_of_length_eq_zero h.1.symm
theorem aX.cons(h:Rep K F H d v)(r:aX K F H ds vs):aX K F H (d::ds) (v::vs):=by
 refine⟨by simp[r.1],λi x u e1 e2=> ?_⟩
 cases i with
 |zero=>simp at e1 e2;subst e1;subst e2;exact h
 |succ i=>exact r.2 i x u (by simpa using e1) (by simpa using e2)
theorem aX.cons_inv(h:aX K F H (d::ds) vs):∃v r,vs=v::r∧Rep K F H d v∧aX K F H ds r:=by
 cases vs with
 |nil=>exact absurd h.1 (by simp)
 |cons v r=>exact⟨v,r,rfl,h.2 0 d v rfl rfl,by simpa using h.1,λi x u e1 e2=>h.2 (i+1) x u (by simpa using e1) (by simpa using e2)⟩
theorem aX.append:∀{ds es:List D} {vs us:List V},aX K F H ds vs→aX K F H es us→aX K F H (ds++es) (vs++us)
 |[],es,vs,us,h,r=>by rw[h.cU];exact r
 |d::ds,es,vs,us,h,r=>by
  obtain⟨v,w,rfl,h1,h2⟩:=h.cons_inv
  exact .cons h1 (h2.append r)
theorem aX.take(n:Nat)(h:aX K F H ds vs):aX K F H (ds.take n) (vs.take n):=by
 refine⟨by simp[h.1],λi x u e1 e2=> ?_⟩
 by_cases hi:i<n
 ·rw[GaU hi] at e1 e2;exact h.2 i x u e1 e2
 ·rw[Gbn (by simp;omega)] at e1;cases e1
theorem aX.drop(n:Nat)(h:aX K F H ds vs):aX K F H (ds.drop n) (vs.drop n):=by
 refine⟨by simp[h.1],λi x u e1 e2=> ?_⟩
 rw[Gbh] at e1 e2
 exact h.2 _ x u e1 e2
theorem aX.reverse(h:aX K F H ds vs):aX K F H ds.reverse vs.reverse:=by
 refine⟨by simp[h.1],λi x u e1 e2=> ?_⟩
 have hi:i<ds.length:=by have:=(Gad.mp e1).1;simpa using this
 rw[List.getElem?_reverse hi] at e1
 rw[List.getElem?_reverse (by rw[←h.1];exact hi),←h.1] at e2
 exact h.2 _ x u e1 e2
theorem aX.set(h:aX K F H ds vs)(r:Rep K F H d v)(i:Nat):aX K F H (ds.set i d) (vs.set i v):=by
 refine⟨by simp[h.1],λj x u e1 e2=> ?_⟩
 by_cases hj:i=j
 ·subst hj
  have hi:i<ds.length:=by have:=(Gad.mp e1).1;simpa using this
  rw[GaN hi] at e1
  rw[GaN (by rw[←h.1];exact hi)] at e2
  cases e1;cases e2;exact r
 ·rw[Gac hj] at e1 e2
  exact h.2 j x u e1 e2
theorem aX.get{i:Nat}(h:aX K F H ds vs)(e:ds[i]? =some d):∃v,vs[i]? =some v∧Rep K F H d v:=by
 have hi:=(Gad.mp e).1
 have hi' :i<vs.length:=by rw[←h.1];exact hi
 exact⟨vs[i],by simp[hi'],h.2 i d _ e (by simp[hi'])⟩
theorem aX.imm(h:aX K F H ds vs)(hd:aN ds=true):aX K F' H ds vs:=⟨h.1,λi d v e1 e2=>(h.2 i d v e1 e2).imm (qf hd i d e1)⟩
end
noncomputable def bw:Option (Option Slot)→Prop
 |some (some (.own _))=>True
 |some (some (.lok _))=>True
 |some (some (.bor _))=>True
 |_=>False
noncomputable def vf:Option (Option Slot)→Prop
 |some (some (.own _))=>True
 |some (some (.lok _))=>True
 |_=>False
noncomputable def isO:Option (Option Slot)→Prop
 |some (some (.own _))=>True
 |_=>False
noncomputable def rV:Option (Option Slot)→Prop
 |some (some (.lok _))=>True
 |some (some (.bor _))=>True
 |_=>False
theorem sT{x:Option (Option Slot)}(h:bw x):isO x∨rV x:=by
 match x,h with
 |some (some (.own _)),_=>exact .inl trivial
 |some (some (.lok _)),_=>exact .inr trivial
 |some (some (.bor _)),_=>exact .inr trivial
theorem rV.top{x:Option (Option Slot)}(h:rV x):bw x:=by
 match x,h with
 |some (some (.lok _)),_=>trivial
 |some (some (.bor _)),_=>trivial
theorem isO.ol{x:Option (Option Slot)}(h:isO x):vf x:=by
 match x,h with
 |some (some (.own _)),_=>trivial
theorem vf.top{x:Option (Option Slot)}(h:vf x):bw x:=by
 match x,h with
 |some (some (.own _)),_=>trivial
 |some (some (.lok _)),_=>trivial
noncomputable def Cln(Bad:Addr→Prop)(env:Env)(σ:St)(a:Addr):Prop:=¬Bad a∧∀i:Nat,bw env[i]? →σ[i]? ≠some (some (V.ref a))
noncomputable def isW:HO→Prop
 | .lst _=>True
 | .dK _=>True
 | .dT _=>True
 |_=>False
noncomputable def Wr(H:Hp)(a:Addr):Prop:=∃o,H a=some o∧isW o
noncomputable def Ow(env:Env)(σ:St)(a:Addr):Prop:=∃i:Nat,isO env[i]? ∧σ[i]? =some (some (.ref a))
structure aF(K:aD)(H₀:Hp)(Bad:Addr→Prop)(env:Env)(σ:St)(H:Hp):Prop where
 same:c9 H₀ H
 len:env.length=σ.length
 bad:∀a,Bad a→H a≠none
 sh:∀(i:Nat) d,env[i]? =some (some (.sh d))→∃v,σ[i]? =some (some v)∧Rep K (Cln Bad env σ) H d v
 ow:∀(i:Nat) d,(env[i]? =some (some (.own d))∨env[i]? =some (some (.lok d)))→∃a,σ[i]? =some (some (.ref a))∧H₀ a=none∧¬Bad a∧Wr H a∧d.top=true∧Inn K (Cln Bad env σ) H d (.ref a)
 bo:∀(i:Nat) d,env[i]? =some (some (.bor d))→∃a,σ[i]? =some (some (.ref a))∧Wr H a∧d.top=true∧Inn K (Cln Bad env σ) H d (.ref a)
 dj:∀(i j:Nat) a,vf env[i]? →bw env[j]? →σ[i]? =some (some (.ref a))→σ[j]? =some (some (.ref a))→i=j
structure Stp(env:Env)(σ:St)(H:Hp)(env' :Env)(σ' :St)(H' :Hp):Prop where
 keep:∀b o,H b=some o→¬Ow env σ b→H' b=some o
 ow:∀b,Ow env' σ' b→Ow env σ b∨H b=none
 lk:∀i:Nat,rV env'[i]? →env'[i]? =env[i]? ∧σ'[i]? =σ[i]?
theorem Stp.refl{env:Env}{σ:St}{H:Hp}:Stp env σ H env σ H:=⟨λ_ _ e _=>e,λ_ h=> .inl h,λ_ _=> ⟨rfl,rfl⟩⟩
theorem Stp.of_same{env:Env}{σ:St}{H H' :Hp}(s:c9 H H'):Stp env σ H env σ H' :=⟨λb o e _=>s b o e,λ_ h=> .inl h,λ_ _=> ⟨rfl,rfl⟩⟩
theorem Stp.trans{e1 e2 e3:Env}{s1 s2 s3:St}{H1 H2 H3:Hp}(a:Stp e1 s1 H1 e2 s2 H2)(b:Stp e2 s2 H2 e3 s3 H3):Stp e1 s1 H1 e3 s3 H3:=by
 refine⟨λc o e n=>b.keep c o (a.keep c o e n) λh=> ?_,λc h=> ?_,λi h=> ?_⟩
 ·rcases a.ow c h with q|q
  ·exact n q
  ·rw[e] at q;cases q
 ·rcases b.ow c h with q|q
  ·exact a.ow c q
  ·by_cases z:Ow e1 s1 c
   ·exact .inl z
   ·right
    cases e:H1 c with
    |none=>rfl
    |some o=>rw[a.keep c o e z] at q;cases q
 ·obtain⟨h1,h2⟩:=b.lk i h
  rw[h1] at h
  obtain⟨h3,h4⟩:=a.lk i h
  exact⟨h1.trans h3,h2.trans h4⟩
section
variable{K:aD}{H₀ H H' H1:Hp}{Bad:Addr→Prop}{env env' :Env}{σ σ' :St}{d:D}{v:V}{a:Addr}{i:Nat}
theorem Wr.same(s:c9 H H')(w:Wr H a):Wr H' a:=let⟨o,h1,h2⟩:=w;⟨o,s a o h1,h2⟩
theorem Wr.there(w:Wr H a):H a≠none:=let⟨o,h1,_⟩:=w;by rw[h1];simp
theorem aF.mono(E:aF K H₀ Bad env σ H)(s:c9 H H'):aF K H₀ Bad env σ H' where
 same:=E.same.trans s
 len:=E.len
 bad:=λa h e=>E.bad a h (s.free e)
 sh:=λi d e=>let⟨v,h1,h2⟩:=E.sh i d e;⟨v,h1,h2.same s⟩
 ow:=λi d e=>let⟨a,h1,h2,h3,h4,h5,h6⟩:=E.ow i d e;⟨a,h1,h2,h3,h4.same s,h5,h6.same s⟩
 bo:=λi d e=>let⟨a,h1,h2,h3,h4⟩:=E.bo i d e;⟨a,h1,h2.same s,h3,h4.same s⟩
 dj:=E.dj
theorem aF.LR(E:aF K H₀ Bad env σ H)(h:bw env[i]?):∃d a,d.top=true∧σ[i]? =some (some (.ref a))∧Wr H a∧Inn K (Cln Bad env σ) H d (.ref a):=by
 match e:env[i]?,h with
 |some (some (.own d)),_=>obtain⟨a,h1,_,_,h4,h5,h6⟩:=E.ow i d (.inl e);exact⟨d,a,h5,h1,h4,h6⟩
 |some (some (.lok d)),_=>obtain⟨a,h1,_,_,h4,h5,h6⟩:=E.ow i d (.inr e);exact⟨d,a,h5,h1,h4,h6⟩
 |some (some (.bor d)),_=>obtain⟨a,h1,h4,h5,h6⟩:=E.bo i d e;exact⟨d,a,h5,h1,h4,h6⟩
theorem aF.HX(E:aF K H₀ Bad env σ H)(h:bw env[i]?)(e:σ[i]? =some (some (.ref a))):Wr H a:=by
 obtain⟨d,b,h1,h2,h3,h4⟩:=E.LR h
 rw[e] at h2;cases h2
 exact h3
theorem aF.nG(E:aF K H₀ Bad env σ H)(h:bw env[i]?)(e:σ[i]? =some (some (.ref a))):H a≠none:=(E.HX h e).there
theorem aF.u7(E:aF K H₀ Bad env σ H)(h:H a=none):Cln Bad env σ a:=⟨λb=>E.bad a b h,λi t e=>E.nG t e h⟩
noncomputable def jF(K:aD)(H₀:Hp)(Bad:Addr→Prop)(env:Env)(σ:St)(H H' :Hp)(r:RV)(v:V):Prop:=
 match r.k with
 | .c=>Rep K (Cln Bad env σ) H' r.d v
 | .tn=>∃a,v= .ref a∧H a=none∧Wr H' a∧r.d.top=true∧Inn K (λb=>Cln Bad env σ b∧b≠a) H' r.d v
 | .to=>∃a,v= .ref a∧H₀ a=none∧Wr H' a∧r.d.top=true∧Inn K (Cln Bad env σ) H' r.d v
 | .tb=>Inn K (Cln Bad env σ) H' r.d v∧∀a,v= .ref a→r.d.top=true→¬Ow env σ a
theorem jF.inn{r:RV}(h:jF K H₀ Bad env σ H H' r v):Inn K (Cln Bad env σ) H' r.d v:=by
 obtain⟨k,d⟩:=r
 cases k with
 |c=>exact Rep.inn h
 |tn=>obtain⟨_,_,_,_,_,h⟩:=h;exact h.imp λ_ z=>z.1
 |to=>obtain⟨_,_,_,_,_,h⟩:=h;exact h
 |tb=>exact h.1
theorem jF.rep{r:RV}(h:jF K H₀ Bad env σ H H' r v)(E:aF K H₀ Bad env σ H)(hf:r.free=true):Rep K (Cln Bad env σ) H' r.d v:=by
 obtain⟨k,d⟩:=r
 cases k with
 |c=>exact h
 |tn=>
  obtain⟨a,e,h1,_,_,h2⟩:=h
  exact(h2.imp λ_ z=>z.1).rep λb eb _=>by rw[e] at eb;cases eb;exact E.u7 h1
 |to=>simp[RV.free] at hf
 |tb=>simp[RV.free] at hf
theorem jF.same{r:RV}{H2:Hp}(h:jF K H₀ Bad env σ H H' r v)(s:c9 H' H2):jF K H₀ Bad env σ H H2 r v:=by
 obtain⟨k,d⟩:=r
 cases k with
 |c=>exact Rep.same s h
 |tn=>obtain⟨a,e,h1,w,t,h2⟩:=h;subst e;exact⟨a,rfl,h1,w.same s,t,h2.same s⟩
 |to=>obtain⟨a,e,h1,w,t,h2⟩:=h;subst e;exact⟨a,rfl,h1,w.same s,t,h2.same s⟩
 |tb=>exact⟨h.1.same s,h.2⟩
theorem jF.from{r:RV}(s:c9 H H1)(h:jF K H₀ Bad env σ H1 H' r v):jF K H₀ Bad env σ H H' r v:=by
 obtain⟨k,d⟩:=r
 cases k with
 |c=>exact h
 |tn=>obtain⟨a,e,h1,w,t,h2⟩:=h;exact⟨a,e,s.free h1,w,t,h2⟩
 |to=>exact h
 |tb=>exact h
noncomputable def sU(K:aD)(H₀ H' :Hp)(d:D)(v:V):Prop:=
 (d.top=true→∃a,v= .ref a∧H₀ a=none∧Wr H' a)∧Inn K (λb=>H₀ b=none∧v≠ .ref b) H' d v
theorem sU.rv(E:aF K H₀ Bad env σ H)(h:sU K H H' d v):jF K H₀ Bad env σ H H' (k5 d) v:=by
 obtain⟨h1,h2⟩:=h
 unfold k5
 by_cases t:d.top=true
 ·rw[Gah t]
  obtain⟨a,e,n,w⟩:=h1 t
  subst e
  exact⟨a,rfl,n,w,t,h2.imp λb z=> ⟨E.u7 z.1,λq=>z.2 (by rw[q])⟩⟩
 ·rw[Gag t]
  exact(h2.imp λb z=>E.u7 z.1).rep λ_ _ z=>absurd z t
end
open PySem PySem.Spec PyProof.Rows L2
noncomputable def tE(X:Cx)(f:DE):TE:=λσ H Q=>∃H₀ Bad env r,aF X.K H₀ Bad env σ H∧f env=some r∧∀v H',c9 H H' →jF X.K H₀ Bad env σ H H' r v→Q v H'
noncomputable def tT(X:Cx)(t:DT):TT:=λσ H Q=>∃H₀ Bad env b,aF X.K H₀ Bad env σ H∧t env=some b∧∀H',c9 H H' →Q b H'
noncomputable def tA(X:Cx)(a:DA):TA:=λσ H Q=>∃H₀ Bad env rs,aF X.K H₀ Bad env σ H∧a env=some rs∧∀vs H',c9 H H' →Paired (jF X.K H₀ Bad env σ H H') rs vs→Q vs H'
noncomputable def LU(X:Cx)(H₀:Hp)(Bad:Addr→Prop)(env:Env)(σ:St)(H:Hp)(E:Ends):Out→Prop
 | .nx e=>∀σ' H',aF X.K H₀ Bad e σ' H' →Stp env σ H e σ' H' →E.nx σ' H'
 | .bk e=>∀σ' H',aF X.K H₀ Bad e σ' H' →Stp env σ H e σ' H' →E.bk σ' H'
 | .ct e=>∀σ' H',aF X.K H₀ Bad e σ' H' →Stp env σ H e σ' H' →E.ct σ' H'
 | .ret d=>∀v H',c9 H₀ H' →sU X.K H₀ H' d v→E.rt v H'
noncomputable def tS(X:Cx)(f:DS):TS:=λE σ H=>∃H₀ Bad env o,aF X.K H₀ Bad env σ H∧f env=some o∧LU X H₀ Bad env σ H E o
noncomputable def tG(X:Cx)(g:DG):TG:=λv σ H Q=>∃H₀ Bad env d env',aF X.K H₀ Bad env σ H∧g d env=some env' ∧Rep X.K (Cln Bad env σ) H d v∧∀σ' H',aF X.K H₀ Bad env' σ' H' →Stp env σ H env' σ' H' →Q σ' H'
noncomputable abbrev PEd (X:Cx) (e:Expr) (f:DE):Prop:=PE X e (tE X f)
noncomputable abbrev PTd (X:Cx) (e:Expr) (t:DT):Prop:=PT X e (tT X t)
noncomputable abbrev PWd (X:Cx) (e:Expr) (t:DT):Prop:=PW X e (tT X t)
noncomputable abbrev PAd (X:Cx) (es:List Expr) (a:DA):Prop:=PA X es (tA X a)
noncomputable abbrev PSd (X:Cx) (st:Stmt) (f:DS):Prop:=PS X st (tS X f)
noncomputable abbrev kJ (X:Cx) (st:List Stmt) (f:DS):Prop:=PSs X st (tS X f)
noncomputable abbrev PGd (X:Cx) (e:Expr) (g:DG):Prop:=PG X e (tG X g)
section
variable{X:Cx}{e a b c:Expr}{f g h:DE}{t u:DT}{pos:Pos}
theorem _root_.L2.PE.aU{t t' :TE}(h:PE X e t')(i:∀σ H Q,t σ H Q→t' σ H Q):PE X e t:=λpins s σ H Q I q=>h pins s σ H Q I (i σ H Q q)
theorem _root_.L2.PT.aU{t t' :TT}(h:PT X e t')(i:∀σ H Q,t σ H Q→t' σ H Q):PT X e t:=λpins s σ H Q I q=>h pins s σ H Q I (i σ H Q q)
theorem _root_.L2.PW.aU{t t' :TT}(h:PW X e t')(i:∀σ H Q,t σ H Q→t' σ H Q):PW X e t:=λwh pins s σ H Q I q=>h wh pins s σ H Q I (i σ H Q q)
theorem _root_.L2.PA.aU{es:List Expr}{t t' :TA}(h:PA X es t')(i:∀σ H Q,t σ H Q→t' σ H Q):PA X es t:=λpos pins s σ H Q I q=>h pos pins s σ H Q I (i σ H Q q)
theorem _root_.L2.PS.aU{st:Stmt}{t t' :TS}(h:PS X st t')(i:∀D σ H,t D σ H→t' D σ H):PS X st t:=λpins s σ H D I q=>h pins s σ H D I (i D σ H q)
theorem _root_.L2.PSs.aU{st:List Stmt}{t t' :TS}(h:PSs X st t')(i:∀D σ H,t D σ H→t' D σ H):PSs X st t:=λpins s σ H D I q=>h pins s σ H D I (i D σ H q)
theorem _root_.L2.PG.aU{t t' :TG}(h:PG X e t')(i:∀v σ H Q,t v σ H Q→t' v σ H Q):PG X e t:=λpins s σ H v u Q I r q=>h pins s σ H v u Q I r (i v σ H Q q)
theorem bV{H:Hp}:c9 H H:=λ_ _ e=>e
theorem bind_some{α β:Type}{o:Option α}{k:α→Option β}{y:β}(h:o.bind k=some y):∃x,o=some x∧k x=some y:=Option.bind_eq_some_iff.mp h
theorem bM(i:Nat){x:Str}(hN:X.N[i]? =some x:=by rfl)(hv:Vis X.env.scope x:=by first|exact Or.inl rfl|exact Or.inr (Or.inl rfl)|exact Or.inr (Or.inr rfl))(hd:(x==("__debug__":Str))=false:=by decide)
  (hcd:(x==("__classdict__":Str))=false:=by decide):PEd X (.Name x pos) (vE i):=by
 refine(kK hN hv hd hcd).aU ?_
 rintro σ H Q ⟨H₀,Bad,env,r,E,e,k⟩
 unfold vE at e
 match q:env[i]?,e with
 |some (some (.sh d)),e=>
  cases e
  obtain⟨v,h1,h2⟩:=E.sh i d q
  exact⟨v,h1,k v H bV h2⟩
 |some (some (.own d)),e=>
  cases e
  obtain⟨a,h1,h2,h3,h4,h5,h6⟩:=E.ow i d (.inl q)
  exact⟨_,h1,k _ H bV ⟨a,rfl,h2,h4,h5,h6⟩⟩
 |some (some (.lok d)),e=>
  cases e
  obtain⟨a,h1,h2,h3,h4,h5,h6⟩:=E.ow i d (.inr q)
  refine⟨_,h1,k _ H bV ⟨h6,λb eb _ ⟨j,ho,hj⟩=> ?_⟩⟩
  cases eb
  have:=E.dj j i a ho.ol (by rw[q];trivial) hj h1
  subst this
  rw[q] at ho;exact ho
 |some (some (.bor d)),e=>
  cases e
  obtain⟨a,h1,h4,h5,h6⟩:=E.bo i d q
  refine⟨_,h1,k _ H bV ⟨h6,λb eb _ ⟨j,ho,hj⟩=> ?_⟩⟩
  cases eb
  have:=E.dj j i a ho.ol (by rw[q];trivial) hj h1
  subst this
  rw[q] at ho;exact ho
theorem a6{i:Int}{j:Nat}:PEd X (.Constant (.int i) j pos) (kE (.int i)):=Dc.aU λσ H Q ⟨_,_,_,_,_,e,k⟩=>by cases e;exact k _ H bV (.int i)
theorem vg{b:Bool}{j:Nat}:PEd X (.Constant (.bool b) j pos) (kE (.bl b)):=KC.aU λσ H Q ⟨_,_,_,_,_,e,k⟩=>by cases e;exact k _ H bV (.bl b)
theorem iV{j:Nat}:PEd X (.Constant .none j pos) (kE .non):=Ip.aU λσ H Q ⟨_,_,_,_,_,e,k⟩=>by cases e;exact k _ H bV .non
theorem bq{x:Str}{j:Nat}:PEd X (.Constant (.str x) j pos) (kE (.str x)):=Iq.aU λσ H Q ⟨_,_,_,_,_,e,k⟩=>by cases e;exact k _ H bV (.str x)
noncomputable def RvN(K:aD)(F:Addr→Prop)(H H' :Hp)(r:RV)(v:V):Prop:=
 match r.k with
 | .c=>Rep K F H' r.d v
 | .tn=>∃a,v= .ref a∧H a=none∧Wr H' a∧r.d.top=true∧Inn K (λb=>F b∧b≠a) H' r.d v
 |_=>False
theorem RvN.ok{K:aD}{H₀ H H1 H' :Hp}{Bad:Addr→Prop}{env:Env}{σ:St}{r:RV}{v:V}(h:RvN K (Cln Bad env σ) H1 H' r v)(s:c9 H H1):jF K H₀ Bad env σ H H' r v:=by
 obtain⟨k,d⟩:=r
 cases k with
 |c=>exact h
 |tn=>obtain⟨a,e,h1,w,t,h2⟩:=h;exact⟨a,e,s.free h1,w,t,h2⟩
 |to=>exact(show False from h).elim
 |tb=>exact(show False from h).elim
noncomputable def OpD(X:Cx)(o:D→D→Option RV)(r:R2):Prop:=∀(F:Addr→Prop) (H:Hp) (dx dy:D) (x y:V) (rv:RV) (Q:VK),Inn X.K F H dx x→Inn X.K F H dy y→o dx dy=some rv→
 (∀v H',c9 H H' →RvN X.K F H H' rv v→Q v H')→r x y H Q
theorem sV{op:Operator}{o:D→D→Option RV}{r:R2}(ho:OpR X (binaryOp op) r)(hd:OpD X o r)(ha:PEd X a f)(hb:PEd X b g):PEd X (.BinOp a op b pos) (opE o f g):=by
 refine(KS ho ha hb).aU ?_
 rintro σ H Q ⟨H₀,Bad,env,rv,E,e,k⟩
 obtain⟨x,hx,e⟩:=bind_some e
 obtain⟨y,hy,e⟩:=bind_some e
 exact⟨H₀,Bad,env,x,E,hx,λvx H1 s1 R1=> ⟨H₀,Bad,env,y,E.mono s1,hy,λvy H2 s2 R2=>hd _ H2 x.d y.d vx vy rv Q (R1.inn.same s2) R2.inn e λv H3 s3 R3=>
  k v H3 (s1.trans (s2.trans s3)) (R3.ok (s1.trans s2))⟩⟩
theorem Jc{o:D→D→Option RV}{gi:Int→Int→Int}(h:∀dx dy rv,o dx dy=some rv→∃i j,dx= .int i∧dy= .int j∧rv=⟨.c,.int (gi i j)⟩):OpD X o (rI0 λi j=> .int (gi i j)):=by
 intro F H dx dy x y rv Q ix iy e k
 obtain⟨i,j,rfl,rfl,rfl⟩:=h dx dy rv e
 cases ix;cases iy
 exact⟨i,j,rfl,rfl,k _ H bV (.int _)⟩
theorem B7{o:D→D→Option RV}{C:Int→Int→Prop}{gi:Int→Int→Int}(h:∀dx dy rv,o dx dy=some rv→∃i j,dx= .int i∧dy= .int j∧C i j∧rv=⟨.c,.int (gi i j)⟩):OpD X o (rI C λi j=> .int (gi i j)):=by
 intro F H dx dy x y rv Q ix iy e k
 obtain⟨i,j,rfl,rfl,hc,rfl⟩:=h dx dy rv e
 cases ix;cases iy
 exact⟨i,j,rfl,rfl,hc,k _ H bV (.int _)⟩
theorem Gg:OpD X kI (rI0 λi j=> .int (i -j)):=Jc λdx dy rv e=>by
 unfold kI at e
 split at e
 ·cases e;exact⟨_,_,rfl,rfl,rfl⟩
 ·cases e
theorem Gh:OpD X dA (rI FW λi j=> .int (i*j)):=B7 λdx dy rv e=>by
 unfold dA at e
 split at e
 ·split at e
  ·rename_i i j q
   cases e
   refine⟨i,j,rfl,rfl, ?_,rfl⟩
   unfold cf at q
   rw[Gbd] at q
   rcases q with q|q
   ·left;have:=Gaw q;omega
   ·right;have:=Gaw q;omega
  ·cases e
 ·cases e
theorem DD:OpD X mw (rI KY λi j=> .int (i/j)):=B7 λdx dy rv e=>by
 unfold mw at e
 split at e
 ·split at e
  ·rename_i i j q
   cases e
   exact⟨i,j,rfl,rfl,q,rfl⟩
  ·cases e
 ·cases e
theorem Gi:OpD X qv (rI (λ_ j=>0<j) λi j=> .int (i%j)):=B7 λdx dy rv e=>by
 unfold qv at e
 split at e
 ·split at e
  ·rename_i i j q
   cases e
   exact⟨i,j,rfl,rfl,q,rfl⟩
  ·cases e
 ·cases e
theorem Gj:OpD X oD (rI KZ λi j=> .int (i^j.toNat)):=B7 λdx dy rv e=>by
 unfold oD at e
 split at e
 ·split at e
  ·rename_i i j q
   cases e
   exact⟨i,j,rfl,rfl,⟨q.1,by omega,by omega⟩,rfl⟩
  ·cases e
 ·cases e
noncomputable def HY:R2:=λx y H Q=>∃l b xs zs,x= .ref l∧y= .ref b∧Rd H l (.lst xs)∧Rd H b (.lst zs)∧xs.length+zs.length≤sizeLine∧∀p,H p=none→Q (.ref p) (upd H p (.lst (xs++zs)))
theorem Gk:OpR X (binaryOp .Add) HY:=by
 intro pins s σ H x y v u Q I rx ry h
 obtain⟨l,b,xs,zs,rfl,rfl,hH,hB,hz,q⟩:=h
 cases rx
 cases ry
 obtain⟨z,its,n,r,e⟩:=(show cz X.prog X.w H s.heap l (.lst xs) from hH.ok I.hok)
 obtain⟨z2,its2,n2,r2,e2⟩:=(show cz X.prog X.w H s.heap b (.lst zs) from hB.ok I.hok)
 have hl:=r.length
 have hl2:=r2.length
 refine PySem.P.add_list e e2 ?_ (by rw[Gam,Gam];omega)
 have ea:its.toArray++its2.toArray=(its++its2).toArray:=by simp
 rw[ea]
 exact⟨.ref _,_,I.Nm (t' :=s.toks) (r.append r2) (by rw[Gav];omega),rfl,q _ I.fresh⟩
theorem size_eq:ah=sizeLine:=by rw[GbG];rfl
theorem bJ{H:Hp}{p:Addr}{o:HO}(n:H p=none):c9 H (upd H p o):=λb u e=>by rw[ax (dR e n)];exact e
theorem fL{K:aD}{F:Addr→Prop}{H:Hp}{p:Addr}{ds:List D}{vs:List V}(n:H p=none)(r:aX K F H ds vs):Rep K F (upd H p (.tup vs)) (.tup ds) (.ref p):=by
 have r2:=r.gen (F' :=F) (.of_same (bJ (o:= .tup vs) n)) λ_ f _=>f
 exact .tup aK r2.1 r2.2
theorem iW{K:aD}{F:Addr→Prop}{H:Hp}{p:Addr}{ds:List D}{vs:List V}(n:H p=none)(r:aX K F H ds vs):Inn K (λb=>F b∧b≠p) (upd H p (.lst vs)) (.lst ds) (.ref p):=
 .lst (.inl aK) (r.gen (F' :=λb=>F b∧b≠p) (.of_same (bJ (o:= .lst vs) n)) λb f hb=> ⟨f,λz=>hb (z▸n)⟩)
theorem qA{H:Hp}{p:Addr}{xs:List V}:Wr (upd H p (.lst xs)) p:=⟨_,aK,trivial⟩
noncomputable def HZ(K:aD):R2:=λx y H Q=>rI0 (λi j=> .int (i+j)) x y H Q∨(∃i j,x= .str i∧y= .str j∧i.length+j.length≤sizeLine∧Q (.str (i++j)) H)∨HY x y H Q∨HR K x y H Q
theorem Gm:OpR X (binaryOp .Add) (HZ X.K):=IF.or (wY.or (Gk.or G6))
theorem aX.ne{K:aD}{F:Addr→Prop}{H:Hp}{ds:List D}{vs:List V}(r:aX K F H ds vs):vs=[]↔ds=[]:=by
 constructor
 ·intro z;subst z;exact List.eq_nil_of_length_eq_zero r.1
 ·intro z;subst z;exact r.cU
theorem Gn:OpD X aP (HZ X.K):=by
 intro F H dx dy x y rv Q ix iy e k
 unfold aP at e
 split at e
 ·cases e;cases ix;cases iy
  exact .inl ⟨_,_,rfl,rfl,k _ H bV (.int _)⟩
 ·split at e
  ·rename_i q
   cases e;cases ix;cases iy
   exact .inr (.inl ⟨_,_,rfl,rfl,by rw[←size_eq];exact q,k _ H bV (.str _)⟩)
  ·cases e
 ·split at e
  ·rename_i xs ys q
   cases e
   cases ix with
   |tup hx rx=>
    cases iy with
    |tup hy ry=>
     refine .inr (.inr (.inr ⟨_,_,_,_,rfl,rfl,SqT.of hx,SqT.of hy, ?_, ?_, ?_, ?_⟩))
     ·intro z
      have:=rx.ne.mp z
      subst this
      exact absurd q.2 (by simp)
     ·rw[←rx.1,←ry.1,←size_eq];exact q.1
     ·intro z
      have:=ry.ne.mp z
      subst this
      refine k _ H bV ?_
      rw[Gbb]
      exact .tup hx rx.1 rx.2
     ·intro z p n
      exact k _ _ (bJ n) (fL n (rx.append ry))
  ·cases e
 ·split at e
  ·rename_i xs ys q
   cases e
   cases ix with
   |lst hx rx=>
    cases iy with
    |lst hy ry=>
     refine .inr (.inr (.inl ⟨_,_,_,_,rfl,rfl,hx,hy,by rw[←rx.1,←ry.1,←size_eq];exact q,λp n=> ?_⟩))
     exact k _ _ (bJ n) ⟨p,rfl,n,qA,rfl,iW n (rx.append ry)⟩
  ·cases e
 ·cases e
noncomputable def UnD(X:Cx)(o:D→Option RV)(r:V→Hp→VK→Prop):Prop:=∀(F:Addr→Prop) (H:Hp) (dx:D) (x:V) (rv:RV) (Q:VK),Inn X.K F H dx x→o dx=some rv→(∀v H',c9 H H' →RvN X.K F H H' rv v→Q v H')→r x H Q
theorem LV{op:UnaryOp}{o:D→Option RV}{r:V→Hp→VK→Prop}(ho:UnR X (unaryOp op) r)(hd:UnD X o r)(ha:PEd X a f):PEd X (.UnaryOp op a pos) (unE o f):=by
 refine(KU ho ha).aU ?_
 rintro σ H Q ⟨H₀,Bad,env,rv,E,e,k⟩
 obtain⟨x,hx,e⟩:=bind_some e
 exact⟨H₀,Bad,env,x,E,hx,λvx H1 s1 R1=>hd _ H1 x.d vx rv Q R1.inn e λv H3 s3 R3=>k v H3 (s1.trans s3) (R3.ok s1)⟩
theorem Gp:UnD X C9 (rU λi=> .int (-i)):=by
 intro F H dx x rv Q ix e k
 unfold C9 at e
 split at e
 ·cases e;cases ix;exact⟨_,rfl,k _ H bV (.int _)⟩
 ·cases e
theorem aB(ha:PEd X a f)(hb:PEd X b g):PEd X (.BinOp a .Add b pos) (opE aP f g):=sV Gm Gn ha hb
theorem iX(ha:PEd X a f)(hb:PEd X b g):PEd X (.BinOp a .Sub b pos) (opE kI f g):=sV IG Gg ha hb
theorem br(ha:PEd X a f)(hb:PEd X b g):PEd X (.BinOp a .Mult b pos) (opE dA f g):=sV IH Gh ha hb
theorem lX(ha:PEd X a f)(hb:PEd X b g):PEd X (.BinOp a .FloorDiv b pos) (opE mw f g):=sV FX DD ha hb
theorem n6(ha:PEd X a f)(hb:PEd X b g):PEd X (.BinOp a .Mod b pos) (opE qv f g):=sV II Gi ha hb
theorem kU(ha:PEd X a f)(hb:PEd X b g):PEd X (.BinOp a .Pow b pos) (opE oD f g):=sV IJ Gj ha hb
theorem DF(ha:PEd X a f):PEd X (.UnaryOp .USub a pos) (unE C9 f):=LV IK Gp ha
noncomputable def OpB(X:Cx)(o:D→D→Option Bool)(r:R2):Prop:=∀(F:Addr→Prop) (H:Hp) (dx dy:D) (x y:V) (b:Bool) (Q:VK),Inn X.K F H dx x→Inn X.K F H dy y→o dx dy=some b→Q (.bl b) H→r x y H Q
theorem aS{op:CmpOp}{o:D→D→Option Bool}{r:R2}(ho:OpR X (compareOp op) r)(hd:OpB X o r)(ha:PEd X a f)(hb:PEd X b g)(hm:behindInMarks op b=false):PTd X (.Compare a [op] [b] pos) (b9 o f g):=by
 refine(FZ ho ha hb hm).aU ?_
 rintro σ H Q ⟨H₀,Bad,env,bb,E,e,k⟩
 obtain⟨x,hx,e⟩:=bind_some e
 obtain⟨y,hy,e⟩:=bind_some e
 exact⟨H₀,Bad,env,x,E,hx,λvx H1 s1 R1=> ⟨H₀,Bad,env,y,E.mono s1,hy,λvy H2 s2 R2=>hd _ H2 x.d y.d vx vy bb _ (R1.inn.same s2) R2.inn e ⟨bb,rfl,k H2 (s1.trans s2)⟩⟩⟩
theorem u9{op:CmpOp}{o:D→D→Option Bool}{r:R2}(ho:OpR X (compareOp op) r)(hd:OpB X o r)(ha:PEd X a f)(hb:PEd X b g)(hm:behindInMarks op b=false):PEd X (.Compare a [op] [b] pos) (bE (b9 o f g)):=by
 refine(FY ho ha hb hm).aU ?_
 rintro σ H Q ⟨H₀,Bad,env,rv,E,e,k⟩
 obtain⟨bb,e',rfl⟩:=Gal.mp e
 clear e
 have e:=e'
 clear e'
 obtain⟨x,hx,e⟩:=bind_some e
 obtain⟨y,hy,e⟩:=bind_some e
 exact⟨H₀,Bad,env,x,E,hx,λvx H1 s1 R1=> ⟨H₀,Bad,env,y,E.mono s1,hy,λvy H2 s2 R2=>hd _ H2 x.d y.d vx vy bb _ (R1.inn.same s2) R2.inn e (k _ H2 (s1.trans s2) (.bl bb))⟩⟩
theorem B8{o:D→D→Option Bool}{gb:Int→Int→Bool}(h:∀dx dy b,o dx dy=some b→∃i j,dx= .int i∧dy= .int j∧b=gb i j):OpB X o (rI0 λi j=> .bl (gb i j)):=by
 intro F H dx dy x y b Q ix iy e q
 obtain⟨i,j,rfl,rfl,rfl⟩:=h dx dy b e
 cases ix;cases iy
 exact⟨i,j,rfl,rfl,q⟩
theorem kW:OpB X ltB (rI0 λi j=> .bl (decide (i<j))):=B8 λdx dy b e=>by
 unfold ltB at e;split at e<;>cases e;exact⟨_,_,rfl,rfl,rfl⟩
theorem qB:OpB X leB (rI0 λi j=> .bl (decide (i≤j))):=B8 λdx dy b e=>by
 unfold leB at e;split at e<;>cases e;exact⟨_,_,rfl,rfl,rfl⟩
theorem k6:OpB X gtB (rI0 λi j=> .bl (decide (j<i))):=B8 λdx dy b e=>by
 unfold gtB at e;split at e<;>cases e;exact⟨_,_,rfl,rfl,rfl⟩
theorem Jd:OpB X geB (rI0 λi j=> .bl (decide (j≤i))):=B8 λdx dy b e=>by
 unfold geB at e;split at e<;>cases e;exact⟨_,_,rfl,rfl,rfl⟩
theorem sW{K:aD}{F:Addr→Prop}{H:Hp}{d:D}{x:V}(h:Inn K F H d x):decide (x= .non)=dB d:=by
 cases h<;>simp[dB]
theorem uc:OpB X qx (λx y H Q=>y= .non∧Q (.bl (decide (x= .non))) H):=by
 intro F H dx dy x y b Q ix iy e q
 simp only[qx,kA] at e
 split at e
 ·rename_i h
  cases e
  cases iy<;>simp[dB] at h
  exact⟨rfl,by rw[sW ix];exact q⟩
 ·cases e
theorem qC:OpB X kA (λx y H Q=>y= .non∧Q (.bl (!decide (x= .non))) H):=by
 intro F H dx dy x y b Q ix iy e q
 simp only[qx,kA] at e
 split at e
 ·rename_i h
  cases e
  cases iy<;>simp[dB] at h
  exact⟨rfl,by rw[sW ix];exact q⟩
 ·cases e
theorem n8(h:PEd X e f)(he:∀whole,isTrue e X.env whole=(do let v←whole;standAt e.pos;holding [v] (truthy v)):=by intro _;rfl):PTd X e (va f):=by
 refine(Ir h he).aU ?_
 rintro σ H Q ⟨H₀,Bad,env,bb,E,e,k⟩
 obtain⟨x,hx,e⟩:=bind_some e
 split at e
 ·rename_i b hb
  cases e
  refine⟨H₀,Bad,env,x,E,hx,λvx H1 s1 R1=> ⟨bb, ?_,k H1 s1⟩⟩
  have i:=R1.inn
  rw[hb] at i
  cases i;rfl
 ·cases e
theorem i9(ha:PTd X a t):PWd X (.BoolOp .And [a] pos) t:=FR ha
theorem ud(ha:PTd X a t):PWd X (.BoolOp .Or [a] pos) t:=Iu ha
theorem k7{rest:List Expr}(ha:PTd X a t)(hb:PWd X (.BoolOp .And (b::rest) pos) u):PWd X (.BoolOp .And (a::b::rest) pos) (kP t u):=by
 refine(Iv ha hb).aU ?_
 rintro σ H Q ⟨H₀,Bad,env,bb,E,e,k⟩
 obtain⟨x,hx,e⟩:=bind_some e
 refine⟨H₀,Bad,env,x,E,hx,λH1 s1=> ?_⟩
 cases x with
 |true=>rw[Gah rfl];rw[Gah rfl] at e;exact⟨H₀,Bad,env,bb,E.mono s1,e,λH2 s2=>k H2 (s1.trans s2)⟩
 |false=>rw[Gag Gau];rw[Gag Gau] at e;cases e;exact k H1 s1
theorem vh{rest:List Expr}(ha:PTd X a t)(hb:PWd X (.BoolOp .Or (b::rest) pos) u):PWd X (.BoolOp .Or (a::b::rest) pos) (orT t u):=by
 refine(KD ha hb).aU ?_
 rintro σ H Q ⟨H₀,Bad,env,bb,E,e,k⟩
 obtain⟨x,hx,e⟩:=bind_some e
 refine⟨H₀,Bad,env,x,E,hx,λH1 s1=> ?_⟩
 cases x with
 |false=>rw[Gag Gau];rw[Gag Gau] at e;exact⟨H₀,Bad,env,bb,E.mono s1,e,λH2 s2=>k H2 (s1.trans s2)⟩
 |true=>rw[Gah rfl];rw[Gah rfl] at e;cases e;exact k H1 s1
theorem oG(ha:PTd X a t):PTd X (.UnaryOp .Not a pos) (u3 t):=by
 refine(Iw ha).aU ?_
 rintro σ H Q ⟨H₀,Bad,env,bb,E,e,k⟩
 obtain⟨x,hx,rfl⟩:=Gal.mp e
 exact⟨H₀,Bad,env,x,E,hx,λH1 s1=>k H1 s1⟩
theorem Je{op:BoolOp}(ha:PEd X a (bE t)):PEd X (.BoolOp op [a] pos) (bE t):=Iy ha
theorem Jf{rest:List Expr}(ha:PEd X a (bE t))(hb:PEd X (.BoolOp .And (b::rest) pos) (bE u)):PEd X (.BoolOp .And (a::b::rest) pos) (bE (kP t u)):=by
 refine(Iz ha hb).aU ?_
 rintro σ H Q ⟨H₀,Bad,env,rv,E,e,k⟩
 obtain⟨bb,e',rfl⟩:=Gal.mp e
 clear e
 have e:=e'
 clear e'
 obtain⟨x,hx,e⟩:=bind_some e
 refine⟨H₀,Bad,env,⟨.c,.bl x⟩,E,by unfold bE;rw[hx];rfl,λv H1 s1 R=> ?_⟩
 have R' :Inn X.K (Cln Bad env σ) H1 (.bl x) v:=R.inn
 cases R'
 refine⟨x,rfl, ?_⟩
 cases x with
 |true=>rw[Gah rfl];rw[Gah rfl] at e;exact⟨H₀,Bad,env,⟨.c,.bl bb⟩,E.mono s1,by unfold bE;rw[e];rfl,λv2 H2 s2 R2=>k v2 H2 (s1.trans s2) (R2.from s1)⟩
 |false=>rw[Gag Gau];rw[Gag Gau] at e;cases e;exact k _ H1 s1 (.bl false)
theorem Jg(ha:PEd X a (bE t)):PEd X (.UnaryOp .Not a pos) (bE (u3 t)):=by
 refine(IA ha).aU ?_
 rintro σ H Q ⟨H₀,Bad,env,rv,E,e,k⟩
 obtain⟨bb,e',rfl⟩:=Gal.mp e
 clear e
 have e:=e'
 clear e'
 obtain⟨x,hx,rfl⟩:=Gal.mp e
 refine⟨H₀,Bad,env,⟨.c,.bl x⟩,E,by unfold bE;rw[hx];rfl,λv H1 s1 R=> ?_⟩
 have R' :Inn X.K (Cln Bad env σ) H1 (.bl x) v:=R.inn
 cases R'
 exact⟨x,rfl,k _ H1 s1 (.bl _)⟩
theorem DH(hc:PTd X c t)(ha:PEd X a f)(hb:PEd X b g):PEd X (.IfExp c a b pos) (ifE t f g):=by
 refine(Dd hc ha hb).aU ?_
 rintro σ H Q ⟨H₀,Bad,env,rv,E,e,k⟩
 obtain⟨x,hx,e⟩:=bind_some e
 refine⟨H₀,Bad,env,x,E,hx,λH1 s1=> ?_⟩
 cases x with
 |true=>rw[Gah rfl];rw[Gah rfl] at e;exact⟨H₀,Bad,env,rv,E.mono s1,e,λv H2 s2 R=>k v H2 (s1.trans s2) (R.from s1)⟩
 |false=>rw[Gag Gau];rw[Gag Gau] at e;exact⟨H₀,Bad,env,rv,E.mono s1,e,λv H2 s2 R=>k v H2 (s1.trans s2) (R.from s1)⟩
theorem DJ{op op' :CmpOp}{o p:D→D→Option Bool}{r r' :R2}(ho:OpR X (compareOp op) r)(hd:OpB X o r)(ho' :OpR X (compareOp op') r')(hd' :OpB X p r')(ha:PEd X a f)(hb:PEd X b g)(hc:PEd X c h)
  (hm:lastMarks [op,op'] [b,c]=false:=by with_unfolding_all rfl):PTd X (.Compare a [op,op'] [b,c] pos) (Dw o p f g h):=by
 refine(Dl ho ho' ha hb hc hm).aU ?_
 rintro σ H Q ⟨H₀,Bad,env,bb,E,e,k⟩
 obtain⟨x,hx,e⟩:=bind_some e
 obtain⟨y,hy,e⟩:=bind_some e
 obtain⟨b1,h1,e⟩:=bind_some e
 refine⟨H₀,Bad,env,x,E,hx,λvx H1 s1 R1=> ⟨H₀,Bad,env,y,E.mono s1,hy,λvy H2 s2 R2=>hd _ H2 x.d y.d vx vy b1 _ (R1.inn.same s2) R2.inn h1 ⟨b1,rfl, ?_⟩⟩⟩
 cases b1 with
 |true=>
  rw[Gah rfl];rw[Gah rfl] at e
  obtain⟨z,hz,e⟩:=bind_some e
  exact⟨H₀,Bad,env,z,(E.mono s1).mono s2,hz,λvz H3 s3 R3=>hd' _ H3 y.d z.d vy vz bb _ (R2.inn.same s3) R3.inn e ⟨bb,rfl,k H3 (s1.trans (s2.trans s3))⟩⟩
 |false=>
  rw[Gag Gau];rw[Gag Gau] at e;cases e
  exact⟨false,rfl,k H2 (s1.trans s2)⟩
end
open PySem PySem.Spec PyProof.Rows L2
section
variable{X:Cx}{e a b c:Expr}{f g h:DE}{t u:DT}{pos:Pos}
theorem Scr.sq{K:aD}{H:Hp}{a:Addr}{ns:List Int}(h:Scr K H a ns):SqL K H a (ns.map V.int):=by
 rcases h with⟨o,h⟩|h
 ·exact .inl (.inr ⟨o,h⟩)
 ·exact .inr h
theorem DK{K:aD}{F:Addr→Prop}{H:Hp}{ds:List D}{vs:List V}{i:Int}{d:D}(r:aX K F H ds vs)(e:atD ds i=some d):∃v,atI vs i=some v∧Rep K F H d v:=by
 unfold atD at e
 unfold atI ixN
 rw[←r.1]
 split at e
 ·rename_i h0
  obtain⟨v,h1,h2⟩:=r.get e
  have hi:=(Gad.mp e).1
  refine⟨v, ?_,h2⟩
  rw[Gah h0,Gah (by omega)]
  exact h1
 ·rename_i h0
  split at e
  ·rename_i h1
   obtain⟨v,h2,h3⟩:=r.get e
   refine⟨v, ?_,h3⟩
   rw[Gag h0,Gah h1]
   exact h2
  ·cases e
noncomputable def LW:R2:=λx y H Q=>∃a v,x= .ref a∧pU H a y (some v)∧Q v H
theorem Gq(hu:X.A.units+1<cLine):IxR X LW:=by
 intro value slice pins s σ H x y v u Q I rx ry h hs
 obtain⟨a,z,rfl,g,q⟩:=h
 cases rx
 exact tail_any (uX I g) PySem.F.slot_dict_getitem.lookup (C5 hu I g ry λw' s3 I3 rw' => ⟨z,H,I3,rw',q⟩) hs
noncomputable def Nz(K:aD):R2:=λx y H Q=>rIx K x y H Q∨LW x y H Q
theorem Gr(hu:X.A.units+1<cLine):IxR X (Nz X.K):=IW.or (Gq hu)
theorem nH{κ:Type} [DecidableEq κ]{K:aD}{F:Addr→Prop}{H:Hp}:∀{kvs:List (κ×D)} {ws:List (κ×V)} {k:κ} {d:D},b8 K F H kvs ws→look kvs k=some d→∃v,gO ws k=some v∧Rep K F H d v
 |[],ws,k,d,_,e=>by simp[look] at e
 |p::kvs,[],k,d,r,_=>absurd r.1 (by simp)
 |p::kvs,q::ws,k,d,r,e=>by
  have h1:p.1=q.1∧kvs.map (·.1)=ws.map (·.1):=by have:=r.1;simpa using this
  have r2:b8 K F H kvs ws:=⟨h1.2,λi x y e1 e2=>r.2 (i+1) x y (by simpa using e1) (by simpa using e2)⟩
  by_cases z:p.1=k
  ·have e' :look (p::kvs) k=some p.2:=by simp[look,Gbw,z]
   rw[e'] at e;cases e
   exact⟨q.2,kM (h1.1.symm.trans z),r.2 0 p q rfl rfl⟩
  ·have e' :look (p::kvs) k=look kvs k:=by simp[look,Gbw,z]
   rw[e'] at e
   obtain⟨v,h3,h4⟩:=nH r2 e
   exact⟨v,by rw[iM (λw=>z (h1.1.trans w))];exact h3,h4⟩
theorem sX{κ:Type} [DecidableEq κ]{K:aD}{F:Addr→Prop}{H:Hp}:∀{kvs:List (κ×D)} {ws:List (κ×V)} {k:κ},b8 K F H kvs ws→look kvs k=none→gO ws k=none
 |[],[],k,_,_=>rfl
 |[],q::ws,k,r,_=>absurd r.1 (by simp)
 |p::kvs,[],k,r,_=>absurd r.1 (by simp)
 |p::kvs,q::ws,k,r,e=>by
  have h1:p.1=q.1∧kvs.map (·.1)=ws.map (·.1):=by have:=r.1;simpa using this
  have r2:b8 K F H kvs ws:=⟨h1.2,λi x y e1 e2=>r.2 (i+1) x y (by simpa using e1) (by simpa using e2)⟩
  by_cases z:p.1=k
  ·have e' :look (p::kvs) k=some p.2:=by simp[look,Gbw,z]
   rw[e'] at e;cases e
  ·have e' :look (p::kvs) k=look kvs k:=by simp[look,Gbw,z]
   rw[e'] at e
   rw[iM (λw=>z (h1.1.trans w))]
   exact sX r2 e
theorem oH{K:aD}{F:Addr→Prop}{H:Hp}{d:D}{x:V}{k:Key}(i:Inn K F H d x)(e:keyOf d=some k):x=kV k:=by
 unfold keyOf at e
 split at e<;>cases e<;>cases i<;>rfl
theorem jm{K:aD}{F:Addr→Prop}{H:Hp}:∀{ds:List D} {vs:List V} {ks:List Key},aX K F H ds vs→keysOf ds=some ks→vs=ks.map kV
 |[],vs,ks,r,e=>by cases e;rw[r.cU];rfl
 |d::ds,vs,ks,r,e=>by
  obtain⟨v,w,rfl,h1,h2⟩:=r.cons_inv
  unfold keysOf at e
  obtain⟨k,hk,e⟩:=bind_some e
  obtain⟨ks',hks,rfl⟩:=Gal.mp e
  rw[oH h1.inn hk,jm h2 hks]
  rfl
theorem ue{K:aD}{F:Addr→Prop}{H:Hp}{d k:D}{x y:V}(ix:Inn K F H d x)(iy:Inn K F H k y):
  (∀kvs key,d= .dK kvs→keyOf k=some key→∃a ws,x= .ref a∧b8 K F H kvs ws∧pU H a y (gO ws key))∧
  (∀kvs ks key,d= .dT kvs→k= .tup ks→keysOf ks=some key→∃a ws,x= .ref a∧b8 K F H kvs ws∧pU H a y (gO ws key)):=by
 refine⟨λkvs key ed ek=> ?_,λkvs ks key ed ek e=> ?_⟩
 ·subst ed
  cases ix with
  |dK h r=>exact⟨_,_,rfl,r,.inl ⟨_,key,.inl h,oH iy ek,rfl⟩⟩
 ·subst ed ek
  cases ix with
  |dT h r=>
   cases iy with
   |tup hy ry=>exact⟨_,_,rfl,r,.inr ⟨_,key,_,.inl h,rfl,by rw[←jm ry e];exact hy,rfl⟩⟩
theorem ai(hu:X.A.units+1<cLine)(ha:PEd X a f)(hb:PEd X b g)(hs:AX b:=by exactλ_ _=>rfl):PEd X (.Subscript a b pos) (ixE f g):=by
 refine(L7 (Gr hu) ha hb hs).aU ?_
 rintro σ H Q ⟨H₀,Bad,env,rv,E,e,k⟩
 obtain⟨x,hx,e⟩:=bind_some e
 obtain⟨y,hy,e⟩:=bind_some e
 obtain⟨d,e',rfl⟩:=Gal.mp e
 clear e
 have e:=e'
 clear e'
 refine⟨H₀,Bad,env,x,E,hx,λvx H1 s1 R1=> ⟨H₀,Bad,env,y,E.mono s1,hy,λvy H2 s2 R2=> ?_⟩⟩
 have ix:=R1.inn.same s2
 have iy:=R2.inn
 have fin:∀v,Rep X.K (Cln Bad env σ) H2 d v→Q v H2:=λv r=>k v H2 (s1.trans s2) r
 generalize x.d=dx at ix e
 generalize y.d=dy at iy e
 unfold ixD at e
 split at e
 ·cases iy
  cases ix with
  |lst h r=>
   obtain⟨v,h1,h2⟩:=DK r e
   exact .inl (.inl ⟨_,_,_,v,rfl,rfl,.inl h,h1,fin v h2⟩)
 ·cases iy
  cases ix with
  |tup h r=>
   obtain⟨v,h1,h2⟩:=DK r e
   exact .inl (.inr (.inl ⟨_,_,_,v,rfl,rfl,SqT.of h,h1,fin v h2⟩))
 ·split at e
  ·rename_i hz
   obtain⟨ch,e',rfl⟩:=Gal.mp e
   clear e
   have e:=e'
   clear e'
   cases iy;cases ix
   refine .inl (.inr (.inr ⟨_,_,ch,rfl,rfl,by rw[←size_eq];exact hz, ?_,fin _ (.str _)⟩))
   unfold atD at e
   unfold atI ixN
   split at e
   ·rename_i h0
    have hi:=(Gad.mp e).1
    rw[Gah h0,Gah (by omega)]
    exact e
   ·rename_i h0
    split at e
    ·rename_i h1
     rw[Gag h0,Gah h1]
     exact e
    ·cases e
  ·cases e
 ·obtain⟨key,hk,e⟩:=bind_some e
  obtain⟨p,ws,rfl,r,dg⟩:=(ue ix iy).1 _ key rfl hk
  obtain⟨v,h1,h2⟩:=nH r e
  rw[h1] at dg
  exact .inr ⟨p,v,rfl,dg,fin v h2⟩
 ·obtain⟨key,hk,e⟩:=bind_some e
  obtain⟨p,ws,rfl,r,dg⟩:=(ue ix iy).2 _ _ key rfl rfl hk
  obtain⟨v,h1,h2⟩:=nH r e
  rw[h1] at dg
  exact .inr ⟨p,v,rfl,dg,fin v h2⟩
 ·obtain⟨n,e',rfl⟩:=Gal.mp e
  clear e
  have e:=e'
  clear e'
  cases iy
  cases ix with
  |scr h=>
   refine .inl (.inl ⟨_,_,_,.int n,rfl,rfl,h.sq, ?_,fin _ (.int n)⟩)
   unfold atD at e
   unfold atI ixN
   rw[Gae]
   split at e
   ·rename_i h0
    have hi:=(Gad.mp e).1
    rw[Gah h0,Gah (by omega)]
    show(List.map V.int _)[_]? =_
    rw[Gan,e];rfl
   ·rename_i h0
    split at e
    ·rename_i h1
     rw[Gag h0,Gah h1]
     show(List.map V.int _)[_]? =_
     rw[Gan,e];rfl
    ·cases e
 ·cases e
theorem aa:PAd X [] aq:=by
 refine A1.aU ?_
 rintro σ H Q ⟨H₀,Bad,env,rs,E,e,k⟩
 cases e
 exact k [] H bV .nil
theorem pq{K:aD}{H₀ H H1 H' :Hp}{Bad:Addr→Prop}{env:Env}{σ:St}(s:c9 H H1):∀{rs:List RV} {vs:List V},Paired (jF K H₀ Bad env σ H1 H') rs vs→Paired (jF K H₀ Bad env σ H H') rs vs
 |_,_,.nil=> .nil
 |_,_,.cons h t=> .cons (h.from s) (pq s t)
theorem a4{es:List Expr}{r:DA}(ha:PEd X e f)(hr:PAd X es r)(hs:starEach (e::es) X.env=(false,eval e X.env)::starEach es X.env:=by rfl):PAd X (e::es) (a5 f r):=by
 refine(tY ha hr hs).aU ?_
 rintro σ H Q ⟨H₀,Bad,env,rs,E,e,k⟩
 obtain⟨x,hx,e⟩:=bind_some e
 obtain⟨xs,hxs,e⟩:=bind_some e
 cases e
 exact⟨H₀,Bad,env,x,E,hx,λvx H1 s1 R1=> ⟨H₀,Bad,env,xs,E.mono s1,hxs,λvs H2 s2 Rs=>k _ H2 (s1.trans s2) (.cons (R1.same s2) (pq s1 Rs))⟩⟩
theorem oI{K:aD}{H₀ H H' :Hp}{Bad:Addr→Prop}{env:Env}{σ:St}(E:aF K H₀ Bad env σ H):∀{rs:List RV} {vs:List V},Paired (jF K H₀ Bad env σ H H') rs vs→rs.all (·.free)=true→aX K (Cln Bad env σ) H' (rs.map (·.d)) vs
 |_,_,.nil,_=>aX.nil
 |r::rs,v::vs,.cons h t,f=>by
  rw[GbC,Gas] at f
  exact aX.cons (h.rep E f.1) (oI E t f.2)
theorem b6{es:List Expr}{r:DA}{j:Nat}(ha:PAd X es r):PEd X (.Tuple es j pos) (bQ r):=by
 refine(IP ha).aU ?_
 rintro σ H Q ⟨H₀,Bad,env,rv,E,e,k⟩
 obtain⟨rs,hr,e⟩:=bind_some e
 split at e
 ·rename_i q
  rw[Gas] at q
  cases e
  refine⟨H₀,Bad,env,rs,E,hr,λvs H1 s1 Rs=> ?_⟩
  have rep:=oI E Rs q.1
  refine⟨by rw[←rep.1,Gae,←size_eq];exact Gaw q.2,λp n=> ?_⟩
  exact k _ _ (s1.trans (bJ n)) (fL n rep)
 ·cases e
theorem bS{es:List Expr}{r:DA}(ha:PAd X es r):PEd X (.List es pos) (gk r):=by
 refine(Dm ha).aU ?_
 rintro σ H Q ⟨H₀,Bad,env,rv,E,e,k⟩
 obtain⟨rs,hr,e⟩:=bind_some e
 split at e
 ·rename_i q
  rw[Gas] at q
  cases e
  refine⟨H₀,Bad,env,rs,E,hr,λvs H1 s1 Rs=> ?_⟩
  have rep:=oI E Rs q.1
  refine⟨by rw[←rep.1,Gae,←size_eq];exact Gaw q.2,λp n=> ?_⟩
  exact k _ _ (s1.trans (bJ n)) ⟨p,rfl,s1.free n,qA,rfl,iW n rep⟩
 ·cases e
noncomputable def spD(K:aD)(np:Nat)(sp:List D→Option D):Sp:=λvs H Q _=>∃ds d,ds.length=np∧aX K (λ_=>True) H ds vs∧sp ds=some d∧∀v H',c9 H H' →sU K H H' d v→Q v H'
theorem sY{K:aD}{H₀ H H' :Hp}{Bad:Addr→Prop}{env:Env}{σ:St}:∀{rs:List RV} {vs:List V},Paired (jF K H₀ Bad env σ H H') rs vs→aX K (λ_=>True) H' (rs.map (·.d)) vs
 |_,_,.nil=>aX.nil
 |r::rs,v::vs,.cons h t=>aX.cons h.inn.any (sY t)
theorem Gs{CX:CXT}{k:Nat}{fa:Addr}{fd:FuncData}{ps:List Str}{np:Nat}{sp:List D→Option D}{x:Str}{p:Pos}{es:List Expr}{r:DA}{E:XK}(F:cF X.prog X.w X.K X.mg X.base CX k fa fd ps (spD X.K np sp))(hr:gZ k X.A)(hg:Gl X x)
  (hm:X.mg x=some (.ref fa))(hk:PySem.W.keepIn X.K (.ref fa)=true)(hb:Binds X.K fd ps [])(hx:Passes CX X E)(ha:PAd X (e::es) r)(hl:∀env rs,r env=some rs→rs.length=np)
  (hdb:(x==("__debug__":Str))=false:=by decide)(he:starEach (e::es) X.env=(false,eval e X.env)::starEach es X.env:=by rfl)(hpl:(backTo pos (starEach es X.env)).any (·.1)=false:=by rfl):
  PEd X (.Call (.Name x p) (e::es) [] pos) (aG sp r):=by
 refine(G1 (dvs:=[]) F hr hg hm hk hb .nil hx ha hdb he hpl).aU ?_
 rintro σ H Q ⟨H₀,Bad,env,rv,E,e,k⟩
 obtain⟨rs,hrs,e⟩:=bind_some e
 obtain⟨d,hd,rfl⟩:=Gal.mp e
 refine⟨H₀,Bad,env,rs,E,hrs,λvs H1 s1 Rs=> ⟨rs.map (·.d),d,by rw[Gae];exact hl env rs hrs, ?_,hd,λv H2 s2 R2=>k v H2 (s1.trans s2) ((R2.rv (E.mono s1)).from s1)⟩⟩
 rw[Gbb]
 exact sY Rs
noncomputable def CallD(X:Cx)(o:List D→Option RV)(r:List V→Hp→VK→Prop):Prop:=∀(F:Addr→Prop) (H:Hp) (ds:List D) (vs:List V) (rv:RV) (Q:VK),Paired (Inn X.K F H) ds vs→o ds=some rv→(∀v H',c9 H H' →RvN X.K F H H' rv v→Q v H')→r vs H Q
theorem n9{K:aD}{H₀ H H' :Hp}{Bad:Addr→Prop}{env:Env}{σ:St}:∀{rs:List RV} {vs:List V},Paired (jF K H₀ Bad env σ H H') rs vs→Paired (Inn K (Cln Bad env σ) H') (rs.map (·.d)) vs
 |_,_,.nil=> .nil
 |_,_,.cons h t=> .cons h.inn (n9 t)
theorem cg{id:String}{o:List D→Option RV}{r:List V→Hp→VK→Prop}{x:Str}{p:Pos}{es:List Expr}{ra:DA}(hc:i5 X (.builtin id) r)(hd:CallD X o r)(hg:Gl X x)(hm:X.mg x=none)(hv:bootBuiltins x=some (.builtin id))(ha:PAd X (e::es) ra)
  (hn:x≠"__name__":=by decide)(hdb:(x==("__debug__":Str))=false:=by decide)(he:starEach (e::es) X.env=(false,eval e X.env)::starEach es X.env:=by rfl)(hpl:(backTo pos (starEach es X.env)).any (·.1)=false:=by rfl):
  PEd X (.Call (.Name x p) (e::es) [] pos) (dS o ra):=by
 refine(uT hc hg hm hv ha hn hdb he hpl).aU ?_
 rintro σ H Q ⟨H₀,Bad,env,rv,E,e,k⟩
 obtain⟨rs,hrs,e⟩:=bind_some e
 exact⟨H₀,Bad,env,rs,E,hrs,λvs H1 s1 Rs=>hd _ H1 _ vs rv Q (n9 Rs) e λv H2 s2 R2=>k v H2 (s1.trans s2) (R2.ok s1)⟩
theorem iY{T:String}{o:List D→Option RV}{r:List V→Hp→VK→Prop}{x:Str}{p:Pos}{es:List Expr}{ra:DA}(hc:i5 X (.type T) r)(hd:CallD X o r)(hg:Gl X x)(hm:X.mg x=none)(hv:bootBuiltins x=some (.type T))(ha:PAd X (e::es) ra)
  (hn:x≠"__name__":=by decide)(hdb:(x==("__debug__":Str))=false:=by decide)(he:starEach (e::es) X.env=(false,eval e X.env)::starEach es X.env:=by rfl)(hpl:(backTo pos (starEach es X.env)).any (·.1)=false:=by rfl):
  PEd X (.Call (.Name x p) (e::es) [] pos) (dS o ra):=by
 refine(C2 hc hg hm hv ha hn hdb he hpl).aU ?_
 rintro σ H Q ⟨H₀,Bad,env,rv,E,e,k⟩
 obtain⟨rs,hrs,e⟩:=bind_some e
 exact⟨H₀,Bad,env,rs,E,hrs,λvs H1 s1 Rs=>hd _ H1 _ vs rv Q (n9 Rs) e λv H2 s2 R2=>k v H2 (s1.trans s2) (R2.ok s1)⟩
theorem ie{R:D→V→Prop}{d:D}{vs:List V}(h:Paired R [d] vs):∃v,vs=[v]∧R d v:=by
 cases h with
 |cons h t=>cases t;exact⟨_,rfl,h⟩
theorem B9{R:D→V→Prop}{d d2:D}{vs:List V}(h:Paired R [d,d2] vs):∃v w,vs=[v,w]∧R d v∧R d2 w:=by
 cases h with
 |cons h t=>cases t with
  |cons h2 t=>cases t;exact⟨_,_,rfl,h,h2⟩
theorem bN:i5 X (.builtin "len") (λxs H Q=>∃a kvs,xs=[.ref a]∧Rd H a (.dK kvs)∧Q (.int kvs.length) H):=by
 intro pins s σ H xs us Q I r h
 obtain⟨a,kvs,rfl,e,q⟩:=h
 obtain⟨u,rfl,rx⟩:=vals1 r
 cases rx
 exact Lc I e λt s' I' => ⟨.int kvs.length,H,I',⟨t,rfl⟩,q⟩
theorem bO:CallD X cB (λxs H Q=>(∃x n,xs=[x]∧L1 X.K x H n∧Q (.int n) H)∨(∃a kvs,xs=[.ref a]∧Rd H a (.dK kvs)∧Q (.int kvs.length) H)):=by
 intro F H ds vs rv Q ps e k
 unfold cB at e
 split at e
 ·cases e
  obtain⟨v,rfl,i⟩:=ie ps
  cases i with
  |lst h r=>exact .inl ⟨_,_,rfl,.inl ⟨_,.inl h,r.1⟩,k _ H bV (.int _)⟩
 ·cases e
  obtain⟨v,rfl,i⟩:=ie ps
  cases i with
  |tup h r=>exact .inl ⟨_,_,rfl,.inr ⟨_,SqT.of h,r.1⟩,k _ H bV (.int _)⟩
 ·split at e
  ·rename_i q
   cases e
   obtain⟨v,rfl,i⟩:=ie ps
   cases i
   exact .inl ⟨_,_,rfl,⟨by rw[←size_eq];exact q,rfl⟩,k _ H bV (.int _)⟩
  ·cases e
 ·cases e
  obtain⟨v,rfl,i⟩:=ie ps
  cases i with
  |dK h r=>
   have hl:=congrArg List.length r.1
   rw[Gae,Gae] at hl
   exact .inr ⟨_,_,rfl,.inl h,by rw[←hl];exact k _ H bV (.int _)⟩
 ·cases e
  obtain⟨v,rfl,i⟩:=ie ps
  cases i with
  |scr h=>exact .inl ⟨_,_,rfl,.inl ⟨_,h.sq,by simp⟩,k _ H bV (.int _)⟩
 ·cases e
theorem qD:CallD X nE (λxs H Q=>∃i j,xs=[.int i,.int j]∧Q (.int (if j<i then j else i)) H):=by
 intro F H ds vs rv Q ps e k
 unfold nE at e
 split at e
 ·cases e
  obtain⟨v,w,rfl,i1,i2⟩:=B9 ps
  cases i1;cases i2
  exact⟨_,_,rfl,k _ H bV (.int _)⟩
 ·cases e
theorem Aa:CallD X sR (λxs H Q=>∃i j,xs=[.int i,.int j]∧Q (.int (if j>i then j else i)) H):=by
 intro F H ds vs rv Q ps e k
 unfold sR at e
 split at e
 ·cases e
  obtain⟨v,w,rfl,i1,i2⟩:=B9 ps
  cases i1;cases i2
  exact⟨_,_,rfl,k _ H bV (.int _)⟩
 ·cases e
theorem dU:CallD X iN (λxs H Q=>∃p ys,xs=[.ref p]∧((SqL X.K H p ys∧∀l,H l=none→Q (.ref l) (upd H l (.tup ys)))∨(SqT X.K H p ys∧Q (.ref p) H))):=by
 intro F H ds vs rv Q ps e k
 unfold iN at e
 split at e
 ·cases e
  obtain⟨v,rfl,i⟩:=ie ps
  cases i with
  |lst h r=>
   refine⟨_,_,rfl,.inl ⟨.inl h,λl n=> ?_⟩⟩
   exact k _ _ (bJ n) (fL n r)
 ·cases e
  obtain⟨v,rfl,i⟩:=ie ps
  cases i with
  |tup h r=>exact⟨_,_,rfl,.inr ⟨SqT.of h,k _ H bV (.tup h r.1 r.2)⟩⟩
 ·cases e
end
open PySem PySem.Spec PyProof.Rows L2
section
variable{K:aD}{H₀ H H' :Hp}{Bad:Addr→Prop}{env env' :Env}{σ σ' :St}{d:D}{v:V}{a:Addr}{i:Nat}
theorem get_set{α:Type}{l:List α}{i j:Nat}{x y:α}(e:(l.set i x)[j]? =some y):(i=j∧y=x)∨(i≠j∧l[j]? =some y):=by
 by_cases h:i=j
 ·subst h
  have hi:i<l.length:=by have:=(Gad.mp e).1;simpa using this
  rw[GaN hi] at e
  cases e
  exact .inl ⟨rfl,rfl⟩
 ·rw[Gac h] at e
  exact .inr ⟨h,e⟩
theorem set_same{α:Type}{l:List α}{i:Nat}{x:α}(e:l[i]? =some x):l.set i x=l:=by
 apply Gdb
 intro j
 by_cases h:i=j
 ·subst h
  rw[GaN (Gad.mp e).1,e]
 ·rw[Gac h]
theorem cE{α:Type}{l:List α}{i:Nat}{x:α}(h:i<l.length):(l.set i x)[i]? =some x:=GaN h
theorem gq{j:Nat}(h:bw (env.set i (some (.sh d)))[j]?):i≠j∧bw env[j]? :=by
 by_cases q:i=j
 ·subst q
  by_cases z:i<env.length
  ·rw[cE z] at h;exact h.elim
  ·rw[Gbn (by simpa using Nat.le_of_not_lt z)] at h;exact h.elim
 ·rw[Gac q] at h
  exact⟨q,h⟩
theorem aF.kX(E:aF K H₀ Bad env σ H)(r:Rep K (Cln Bad env σ) H d v):aF K H₀ Bad (env.set i (some (.sh d))) (σ.set i (some v)) H:=by
 have cln:∀b,Cln Bad env σ b→Cln Bad (env.set i (some (.sh d))) (σ.set i (some v)) b:=λb ⟨h1,h2⟩=> ⟨h1,λj t e=>by
  obtain⟨q,t⟩:=gq t
  rw[Gac q] at e
  exact h2 j t e⟩
 refine⟨E.same,by simp[E.len],E.bad,λj dj e=> ?_,λj dj e=> ?_,λj dj e=> ?_,λj k b t1 t2 e1 e2=> ?_⟩
 ·rcases get_set e with⟨q,e⟩| ⟨q,e⟩
  ·cases e
   subst q
   have hi:i<env.length:=by have:=(Gad.mp e);simpa using this.1
   exact⟨v,cE (by rw[←E.len];exact hi),r.imp cln⟩
  ·obtain⟨w,h1,h2⟩:=E.sh j dj e
   exact⟨w,by rw[Gac q];exact h1,h2.imp cln⟩
 ·have e' :i≠j∧(env[j]? =some (some (.own dj))∨env[j]? =some (some (.lok dj))):=by
   rcases e with e|e
   ·rcases get_set e with⟨q,e⟩| ⟨q,e⟩
    ·cases e
    ·exact⟨q,.inl e⟩
   ·rcases get_set e with⟨q,e⟩| ⟨q,e⟩
    ·cases e
    ·exact⟨q,.inr e⟩
  obtain⟨b,h1,h2,h3,h4,h5,h6⟩:=E.ow j dj e'.2
  exact⟨b,by rw[Gac e'.1];exact h1,h2,h3,h4,h5,h6.imp cln⟩
 ·rcases get_set e with⟨q,e⟩| ⟨q,e⟩
  ·cases e
  ·obtain⟨b,h1,hw,h2,h3⟩:=E.bo j dj e
   exact⟨b,by rw[Gac q];exact h1,hw,h2,h3.imp cln⟩
 ·obtain⟨q1,t1'⟩:=gq t1.top
  obtain⟨q2,t2⟩:=gq t2
  rw[Gac q1] at e1 t1
  rw[Gac q2] at e2
  exact E.dj j k b t1 t2 e1 e2
theorem Stp.kX:Stp env σ H (env.set i (some (.sh d))) (σ.set i (some v)) H:=⟨λ_ _ e _=>e,λb ⟨j,h,e⟩=>by
 have h' :bw (env.set i (some (.sh d)))[j]? :=h.ol.top
 obtain⟨q,_⟩:=gq h'
 rw[Gac q] at h e
 exact .inl ⟨j,h,e⟩,λj h=>by
 obtain⟨q,_⟩:=gq h.top
 rw[Gac q,Gac q]
 exact⟨rfl,rfl⟩⟩
theorem jn{j:Nat}(h:bw (env.set i (some (.own d)))[j]?)(hi:i<env.length):i=j∨(i≠j∧bw env[j]?):=by
 by_cases q:i=j
 ·exact .inl q
 ·rw[Gac q] at h
  exact .inr ⟨q,h⟩
theorem aF.DP(E:aF K H₀ Bad env σ H)(hi:i<env.length)(n0:H₀ a=none)(nb:¬Bad a)(w:Wr H' a)(t:d.top=true)(s:c9 H₀ H')(bd:∀b,Bad b→H' b≠none)
  (ne:∀j b,j≠i→bw env[j]? →σ[j]? =some (some (.ref b))→b≠a∧H' b=H b)
  (inn:Inn K (Cln Bad (env.set i (some (.own d))) (σ.set i (some (.ref a)))) H' d (.ref a))
  (cln:∀b,Cln Bad env σ b→H b≠none→Cln Bad (env.set i (some (.own d))) (σ.set i (some (.ref a))) b)
  (dP:iU (Cln Bad env σ) H H'):
  aF K H₀ Bad (env.set i (some (.own d))) (σ.set i (some (.ref a))) H' :=by
 have keep:∀{j:Nat} {b:Addr} {dj:D},j≠i→bw env[j]? →σ[j]? =some (some (.ref b))→Inn K (Cln Bad env σ) H dj (.ref b)→Inn K (Cln Bad (env.set i (some (.own d))) (σ.set i (some (.ref a)))) H' dj (.ref b):=λ{j b dj} hj tj ej h=>
  h.gen dP cln λb' eb _ o e=>by cases eb;rw[(ne j b hj tj ej).2];exact e
 refine⟨s,by simp[E.len],bd,λj dj e=> ?_,λj dj e=> ?_,λj dj e=> ?_,λj k b t1 t2 e1 e2=> ?_⟩
 ·rcases get_set e with⟨q,e⟩| ⟨q,e⟩
  ·cases e
  ·obtain⟨u,h1,h2⟩:=E.sh j dj e
   exact⟨u,by rw[Gac q];exact h1,h2.gen dP cln⟩
 ·have e' :(i=j∧dj=d)∨(i≠j∧(env[j]? =some (some (.own dj))∨env[j]? =some (some (.lok dj)))):=by
   rcases e with e|e
   ·rcases get_set e with⟨q,e⟩| ⟨q,e⟩
    ·cases e;exact .inl ⟨q,rfl⟩
    ·exact .inr ⟨q,.inl e⟩
   ·rcases get_set e with⟨q,e⟩| ⟨q,e⟩
    ·cases e
    ·exact .inr ⟨q,.inr e⟩
  rcases e' with⟨q,rfl⟩| ⟨q,e'⟩
  ·subst q
   exact⟨a,cE (by rw[←E.len];exact hi),n0,nb,w,t,inn⟩
  ·obtain⟨b,h1,h2,h3,h4,h5,h6⟩:=E.ow j dj e'
   have tj:bw env[j]? :=by rcases e' with e' |e' <;>rw[e']<;>trivial
   refine⟨b,by rw[Gac q];exact h1,h2,h3, ?_,h5,keep (GaY q) tj h1 h6⟩
   unfold Wr
   rw[(ne j b (GaY q) tj h1).2]
   exact h4
 ·rcases get_set e with⟨q,e⟩| ⟨q,e⟩
  ·cases e
  ·obtain⟨b,h1,hw,h2,h3⟩:=E.bo j dj e
   have tj:bw env[j]? :=by rw[e];trivial
   refine⟨b,by rw[Gac q];exact h1, ?_,h2,keep (GaY q) tj h1 h3⟩
   unfold Wr
   rw[(ne j b (GaY q) tj h1).2]
   exact hw
 ·rcases jn t1.top hi with q1| ⟨q1,t1'⟩
  ·rcases jn t2 hi with q2| ⟨q2,t2'⟩
   ·rw[←q1,←q2]
   ·subst q1
    rw[cE (by rw[←E.len];exact hi)] at e1
    cases e1
    rw[Gac q2] at e2
    exact absurd rfl (ne k a (GaY q2) t2' e2).1
  ·rcases jn t2 hi with q2| ⟨q2,t2'⟩
   ·subst q2
    rw[cE (by rw[←E.len];exact hi)] at e2
    cases e2
    rw[Gac q1] at e1
    exact absurd rfl (ne j a (GaY q1) t1' e1).1
   ·rw[Gac q1] at e1 t1
    rw[Gac q2] at e2
    exact E.dj j k b t1 t2' e1 e2
theorem vk(hi:i<env.length)(hs:env.length=σ.length){b:Addr}(h:Cln Bad env σ b)(hb:b≠a):Cln Bad (env.set i (some (.own d))) (σ.set i (some (.ref a))) b:=⟨h.1,λj t e=>by
 rcases jn t hi with q| ⟨q,t⟩
 ·subst q
  rw[cE (by rw[←hs];exact hi)] at e
  cases e
  exact hb rfl
 ·rw[Gac q] at e
  exact h.2 j t e⟩
theorem aF.qE(E:aF K H₀ Bad env σ H)(s:c9 H H')(hi:i<env.length)(n:H a=none)(w:Wr H' a)(t:d.top=true)(hin:Inn K (λb=>Cln Bad env σ b∧b≠a) H' d (.ref a)):
  aF K H₀ Bad (env.set i (some (.own d))) (σ.set i (some (.ref a))) H' :=by
 have cln:∀b,Cln Bad env σ b→b≠a→Cln Bad (env.set i (some (.own d))) (σ.set i (some (.ref a))) b:=λb h hb=>vk hi E.len h hb
 have cln' :∀b,Cln Bad env σ b→H b≠none→Cln Bad (env.set i (some (.own d))) (σ.set i (some (.ref a))) b:=λb h hb=>cln b h λz=>hb (z▸n)
 refine E.DP (H' :=H') hi (E.same.free n) (λb=>E.bad a b n) w t (E.same.trans s) (λb h e=>E.bad b h (s.free e)) (λj b hj tj ej=> ?_) (hin.imp λb h=>cln b h.1 h.2) cln' (.of_same s)
 have hb:=E.nG tj ej
 refine⟨λz=>hb (z▸n), ?_⟩
 cases q:H b with
 |none=>exact absurd q hb
 |some o=>exact s b o q
theorem Stp.qE(s:c9 H H')(hi:i<env.length)(hs:env.length=σ.length)(n:H a=none):Stp env σ H (env.set i (some (.own d))) (σ.set i (some (.ref a))) H' :=⟨λb o e _=>s b o e,λb ⟨j,h,e⟩=>by
 by_cases q:i=j
 ·subst q
  rw[cE (by rw[←hs];exact hi)] at e
  cases e
  exact .inr n
 ·rw[Gac q] at h e
  exact .inl ⟨j,h,e⟩,λj h=>by
 by_cases q:i=j
 ·subst q
  rw[cE hi] at h;exact h.elim
 ·rw[Gac q,Gac q]
  exact⟨rfl,rfl⟩⟩
theorem aF.change{d' :D}{o:HO}(E:aF K H₀ Bad env σ H)(e:env[i]? =some (some (.own d)))(ea:σ[i]? =some (some (.ref a)))(wo:isW o)(t:d'.top=true)
  (inn:Inn K (Cln Bad env σ) (upd H a o) d' (.ref a)):aF K H₀ Bad (env.set i (some (.own d'))) σ (upd H a o)∧Stp env σ H (env.set i (some (.own d'))) σ (upd H a o):=by
 have hi:i<env.length:=(Gad.mp e).1
 obtain⟨a',h1,h2,h3,h4,h5,h6⟩:=E.ow i d (.inl e)
 rw[ea] at h1;cases h1
 have hσ:σ.set i (some (.ref a))=σ:=set_same ea
 have tops:∀j,bw (env.set i (some (.own d')))[j]? ↔bw env[j]? :=λj=>by
  by_cases q:i=j
  ·subst q;rw[cE hi,e];exact⟨λ_=>trivial,λ_=>trivial⟩
  ·rw[Gac q]
 have clnE:∀b,Cln Bad env σ b→Cln Bad (env.set i (some (.own d'))) σ b:=λb h=> ⟨h.1,λj tj ej=>h.2 j ((tops j).mp tj) ej⟩
 have ca:∀b,Cln Bad env σ b→b≠a:=λb h z=>by subst z;exact h.2 i (by rw[e];trivial) ea
 have dP:iU (Cln Bad env σ) H (upd H a o):=λb x hb q=>by
  have:b≠a:=by
   rintro rfl
   rcases q with q|q
   ·exact ca b q rfl
   ·obtain⟨y,hy,wy⟩:=h4
    rw[hb] at hy;cases hy
    cases x<;>simp[isT] at q<;>exact wy
  rw[ax this];exact hb
 have keepA:∀b x,H b=some x→b≠a→(upd H a o) b=some x:=λb x hb hn=>by rw[ax hn];exact hb
 refine⟨?_,⟨λb x hb n=>keepA b x hb λz=>n ⟨i,by rw[e];trivial,by rw[z];exact ea⟩,λb ⟨j,h,ej⟩=> .inl ?_,λj h=> ?_⟩⟩
 ·have:=E.DP (H' :=upd H a o) (a:=a) (d:=d') hi h2 h3 ⟨o,aK,wo⟩ t (λb x hb=>keepA b x (E.same b x hb) λz=>by rw[z,h2] at hb;cases hb)
   (λb hb z=>by
    by_cases q:b=a
    ·subst q;rw[aK] at z;cases z
    ·rw[ax q] at z;exact E.bad b hb z)
   (λj b hj tj ej=>by
    have:b≠a:=by rintro rfl;exact hj (E.dj i j b (by rw[e];trivial) tj ea ej).symm
    exact⟨this,by rw[ax this]⟩)
   (by rw[hσ];exact inn.imp clnE) (λb h _=>by rw[hσ];exact clnE b h) dP
  rw[hσ] at this
  exact this
 ·by_cases q:i=j
  ·subst q;exact⟨i,by rw[e];trivial,ej⟩
  ·rw[Gac q] at h;exact⟨j,h,ej⟩
 ·by_cases q:i=j
  ·subst q;rw[cE hi] at h;exact h.elim
  ·rw[Gac q];exact⟨rfl,rfl⟩
end
open PySem PySem.Spec PyProof.Rows L2
section
variable{X:Cx}{e a b c:Expr}{f g h:DE}{t u:DT}{pos:Pos}{st:Stmt}{rest:List Stmt}{s1 s2:DS}
theorem bc:kJ X [] bg:=by
 refine FT.aU ?_
 rintro D σ H ⟨H₀,Bad,env,o,E,e,k⟩
 cases e
 exact k σ H E .refl
theorem ae(h1:PSd X st s1)(h2:kJ X rest s2):kJ X (st::rest) (aE s1 s2):=by
 refine(nA h1 h2).aU ?_
 rintro D σ H ⟨H₀,Bad,env,o,E,e,k⟩
 obtain⟨o1,h1,e⟩:=bind_some e
 refine⟨H₀,Bad,env,o1,E,h1, ?_⟩
 cases o1 with
 |nx e1=>
  intro σ1 H1 E1 p1
  refine⟨H₀,Bad,e1,o,E1,e, ?_⟩
  cases o with
  |nx e2=>exactλσ2 H2 E2 p2=>k σ2 H2 E2 (p1.trans p2)
  |bk e2=>exactλσ2 H2 E2 p2=>k σ2 H2 E2 (p1.trans p2)
  |ct e2=>exactλσ2 H2 E2 p2=>k σ2 H2 E2 (p1.trans p2)
  |ret d=>exact k
 |bk e1=>cases e;exact k
 |ct e1=>cases e;exact k
 |ret d=>cases e;exact k
theorem aA(h1:PSd X st s1):kJ X [st] s1:=tW h1
theorem DQ:PSd X (.Break pos) bkS:=by
 refine De.aU ?_
 rintro D σ H ⟨H₀,Bad,env,o,E,e,k⟩
 cases e
 exact k σ H E .refl
theorem Gu{K:aD}{F:Addr→Prop}{H₀ H' :Hp}{d:D}{v:V}(i:Inn K F H' d v)(hd:d.imm=true):sU K H₀ H' d v:=by
 refine⟨λt=> ?_,(i.imm hd).inn⟩
 cases d<;>simp[D.top] at t<;>simp[D.imm] at hd
theorem LX{κ:Type}{K:aD}{F F' :Addr→Prop}{H:Hp}{kvs:List (κ×D)}{ws:List (κ×V)}(r:b8 K F H kvs ws)(h:aN (kvs.map (·.2))=true):b8 K F' H kvs ws:=
 ⟨r.1,λi p q e1 e2=>(r.2 i p q e1 e2).imm (qf h i p.2 (by rw[Gan,e1];rfl))⟩
theorem Ba{K:aD}{F:Addr→Prop}{H₀ H' :Hp}{d:D}{a:Addr}(i:Inn K F H' d (.ref a))(hd:d.pj=true)(n:H₀ a=none)(w:Wr H' a):sU K H₀ H' d (.ref a):=by
 refine⟨λ_=> ⟨a,rfl,n,w⟩, ?_⟩
 cases i with
 |tup h r=>exact(Inn.imm (.tup h r) (by exact hd)).inn
 |scr h=>exact .scr h
 |lst h r=>exact .lst h (r.imm hd)
 |dK h r=>exact .dK h (LX r hd)
 |dT h r=>exact .dT h (LX r hd)
theorem aZ(he:PEd X e f):PSd X (.Return (some e) pos) (retS f):=by
 refine(Df he).aU ?_
 rintro D σ H ⟨H₀,Bad,env,o,E,e,k⟩
 obtain⟨r,hr,e⟩:=bind_some e
 split at e
 ·rename_i ok
  cases e
  refine⟨H₀,Bad,env,r,E,hr,λv H1 s1 R=>k v H1 (E.same.trans s1) ?_⟩
  obtain⟨kd,d⟩:=r
  cases kd with
  |c=>exact Gu R.inn ok
  |tn=>
   have ii:=R.inn
   obtain⟨a,rfl,n,w,t,i⟩:=R
   exact Ba ii ok (E.same.free n) w
  |to=>
   have ii:=R.inn
   obtain⟨a,rfl,n,w,t,i⟩:=R
   exact Ba ii ok n w
  |tb=>exact absurd (show false=true from ok) Gau
 ·cases e
theorem bK{xs ys:List Stmt}(hc:PTd X c t)(ha:kJ X xs s1)(hb:kJ X ys s2):PSd X (.If c xs ys pos) (ifS t s1 s2):=by
 refine(KN hc ha hb).aU ?_
 rintro D σ H ⟨H₀,Bad,env,o,E,e,k⟩
 obtain⟨x,hx,e⟩:=bind_some e
 refine⟨H₀,Bad,env,x,E,hx,λH1 s1=> ?_⟩
 have st:Stp env σ H env σ H1:= .of_same s1
 have fin:∀{s:DS},s env=some o→tS X s D σ H1:=λ{s} e=> ⟨H₀,Bad,env,o,E.mono s1,e,by
  cases o with
  |nx e2=>exactλσ2 H2 E2 p2=>k σ2 H2 E2 (st.trans p2)
  |bk e2=>exactλσ2 H2 E2 p2=>k σ2 H2 E2 (st.trans p2)
  |ct e2=>exactλσ2 H2 E2 p2=>k σ2 H2 E2 (st.trans p2)
  |ret d=>exact k⟩
 dsimp only
 cases x with
 |true=>rw[Gah rfl];rw[Gah rfl] at e;exact fin e
 |false=>rw[Gag Gau];rw[Gag Gau] at e;exact fin e
theorem Ab{X:Cx}{Bad:Addr→Prop}{env:Env}{σ:St}{H:Hp}{i:Nat}{x:Str}(E:aF X.K H₀ Bad env σ H)(hl:σ.length=X.N.length)(hi:X.N[i]? =some x):i<env.length:=by
 rw[E.len,hl];exact(Gad.mp hi).1
theorem az{i:Nat}{x:Str}{pos' :Pos}(hN:X.N.Nodup)(hi:X.N[i]? =some x)(hx:Loc X.env.scope x)(he:PEd X e f)(hs:swapsWith e (some (.Name x pos')) pos.line X.env=pure false:=by rfl)
  (hf:X.fn x=true∨X.env.scope.names.lookup x=some .local:=by first|exact .inl rfl|exact .inr rfl|assumption):PSd X (.Assign [.Name x pos'] e pos) (aQ i f):=by
 intro pins s σ H D I hw
 have hl:=I.len
 refine(wU hN hi hx he hs hf) pins s σ H D I ?_
 obtain⟨H₀,Bad,env,o,E,e,k⟩:=hw
 obtain⟨r,hr,e⟩:=bind_some e
 obtain⟨e',hst,rfl⟩:=Gal.mp e
 have hie:i<env.length:=Ab E hl hi
 refine⟨H₀,Bad,env,r,E,hr,λv H1 s1 R=> ?_⟩
 have st:Stp env σ H env σ H1:= .of_same s1
 obtain⟨kd,d⟩:=r
 unfold stored at hst
 cases kd with
 |c=>
  cases hst
  exact k _ H1 ((E.mono s1).kX R) (st.trans .kX)
 |tn=>
  cases hst
  obtain⟨a,rfl,n,w,t,i⟩:=R
  exact k _ H1 (E.qE s1 hie n w t i) (.qE s1 hie E.len n)
 |to=>cases hst
 |tb=>cases hst
noncomputable def Ac(K:aD)(F N:Addr→Prop)(J:It)(ds:List D)(H1:Hp):Prop:=
 ∀Hi:Hp,(∀b o,H1 b=some o→N b→Hi b=some o)→(∀(i:Nat) d,ds[i]? =some d→J.go i Hi∧∀x H2,J.yld i Hi x H2→c9 Hi H2∧Rep K F H2 d x)∧J.stop ds.length Hi
noncomputable def tI(X:Cx)(src:DI):TI:=λσ H R=>∃H₀ Bad env ds,aF X.K H₀ Bad env σ H∧src env=some ds∧∀J H',c9 H H' →Ac X.K (λb=>Cln Bad env σ b∧H' b≠none) (λb=>¬Ow env σ b) J ds H' →R J H'
noncomputable abbrev PId (X:Cx) (tg iter:Expr) (src:DI):Prop:=PI X tg iter (tI X src)
theorem _root_.L2.PI.aU{tg iter:Expr}{w w' :TI}(h:PI X tg iter w')(i:∀σ H R,w σ H R→w' σ H R):PI X tg iter w:=λpins s σ H R I q=>h pins s σ H R I (i σ H R q)
theorem aF.lock{K:aD}{H₀:Hp}{Bad:Addr→Prop}{env:Env}{σ:St}{H:Hp}(E:aF K H₀ Bad env σ H)(l:Option Nat):aF K H₀ Bad (bD l env) σ H∧(∀b,Ow (bD l env) σ b→Ow env σ b)∧∀i:Nat,bw (bD l env)[i]? ↔bw env[i]? :=by
 cases l with
 |none=>exact⟨E,λ_ h=>h,λ_=>Iff.rfl⟩
 |some j=>
  unfold bD
  dsimp only
  split
  ·rename_i d q
   have hj:j<env.length:=(Gad.mp q).1
   have tops:∀i,bw (env.set j (some (.lok d)))[i]? ↔bw env[i]? :=λi=>by
    by_cases z:j=i
    ·subst z;rw[cE hj,q];exact⟨λ_=>trivial,λ_=>trivial⟩
    ·rw[Gac z]
   have cln:∀b,Cln Bad env σ b→Cln Bad (env.set j (some (.lok d))) σ b:=λb h=> ⟨h.1,λi t e=>h.2 i ((tops i).mp t) e⟩
   refine⟨⟨E.same,by simpa using E.len,E.bad,λi di e=> ?_,λi di e=> ?_,λi di e=> ?_,λi k b t1 t2 e1 e2=> ?_⟩,λb ⟨i,h,e⟩=> ?_,tops⟩
   ·rcases get_set e with⟨z,e⟩| ⟨z,e⟩
    ·cases e
    ·obtain⟨v,h1,h2⟩:=E.sh i di e;exact⟨v,h1,h2.imp cln⟩
   ·have e' :env[i]? =some (some (.own di))∨env[i]? =some (some (.lok di)):=by
     rcases e with e|e
     ·rcases get_set e with⟨z,e⟩| ⟨z,e⟩
      ·cases e
      ·exact .inl e
     ·rcases get_set e with⟨z,e⟩| ⟨z,e⟩
      ·cases e;subst z;exact .inl q
      ·exact .inr e
    obtain⟨b,h1,h2,h3,h4,h5,h6⟩:=E.ow i di e'
    exact⟨b,h1,h2,h3,h4,h5,h6.imp cln⟩
   ·rcases get_set e with⟨z,e⟩| ⟨z,e⟩
    ·cases e
    ·obtain⟨b,h1,hw,h2,h3⟩:=E.bo i di e;exact⟨b,h1,hw,h2,h3.imp cln⟩
   ·have t1' :vf env[i]? :=by
     by_cases z:j=i
     ·subst z;rw[q];trivial
     ·rw[Gac z] at t1;exact t1
    exact E.dj i k b t1' ((tops k).mp t2) e1 e2
   ·by_cases z:j=i
    ·subst z;rw[cE hj] at h;exact h.elim
    ·rw[Gac z] at h;exact⟨i,h,e⟩
  ·exact⟨E,λ_ h=>h,λ_=>Iff.rfl⟩
theorem aF.free{K:aD}{H₀:Hp}{Bad:Addr→Prop}{env:Env}{σ:St}{H:Hp}(E:aF K H₀ Bad env σ H)(l:Option Nat):aF K H₀ Bad (iP l env) σ H:=by
 cases l with
 |none=>exact E
 |some j=>
  unfold iP
  dsimp only
  split
  ·rename_i d q
   have hj:j<env.length:=(Gad.mp q).1
   have tops:∀i,bw (env.set j (some (.own d)))[i]? ↔bw env[i]? :=λi=>by
    by_cases z:j=i
    ·subst z;rw[cE hj,q];exact⟨λ_=>trivial,λ_=>trivial⟩
    ·rw[Gac z]
   have cln:∀b,Cln Bad env σ b→Cln Bad (env.set j (some (.own d))) σ b:=λb h=> ⟨h.1,λi t e=>h.2 i ((tops i).mp t) e⟩
   refine⟨E.same,by simpa using E.len,E.bad,λi di e=> ?_,λi di e=> ?_,λi di e=> ?_,λi k b t1 t2 e1 e2=> ?_⟩
   ·rcases get_set e with⟨z,e⟩| ⟨z,e⟩
    ·cases e
    ·obtain⟨v,h1,h2⟩:=E.sh i di e;exact⟨v,h1,h2.imp cln⟩
   ·have e' :env[i]? =some (some (.own di))∨env[i]? =some (some (.lok di)):=by
     rcases e with e|e
     ·rcases get_set e with⟨z,e⟩| ⟨z,e⟩
      ·cases e;subst z;exact .inr q
      ·exact .inl e
     ·rcases get_set e with⟨z,e⟩| ⟨z,e⟩
      ·cases e
      ·exact .inr e
    obtain⟨b,h1,h2,h3,h4,h5,h6⟩:=E.ow i di e'
    exact⟨b,h1,h2,h3,h4,h5,h6.imp cln⟩
   ·rcases get_set e with⟨z,e⟩| ⟨z,e⟩
    ·cases e
    ·obtain⟨b,h1,hw,h2,h3⟩:=E.bo i di e;exact⟨b,h1,hw,h2,h3.imp cln⟩
   ·have t1' :vf env[i]? :=by
     by_cases z:j=i
     ·subst z;rw[q];trivial
     ·rw[Gac z] at t1;exact t1
    exact E.dj i k b t1' ((tops k).mp t2) e1 e2
  ·exact E
end
open PySem PySem.Spec PyProof.Rows L2
section
variable{X:Cx}{e a b c:Expr}{f g h:DE}{t u:DT}{pos:Pos}{st:Stmt}{rest:List Stmt}{s1 s2:DS}
theorem vn{env:Env}{l:Option Nat}{i:Nat}(h:∀j,l=some j→j≠i):(bD l env)[i]? =env[i]? :=by
 unfold bD
 split
 ·rfl
 ·rename_i j
  split
  ·rw[Gac (h j rfl)]
  ·rfl
theorem Stp.loop{env envN:Env}{σ σN:St}{H HN:Hp}{l:Option Nat}(p:Stp (bD l env) σ H envN σN HN)(lo:∀b,Ow (bD l env) σ b→Ow env σ b):Stp env σ H (if qy l env then iP l envN else envN) σN HN:=by
 have same:qy l env=false→bD l env=env:=λh=>by
  unfold qy at h
  unfold bD
  split at h
  ·rfl
  ·split at h
   ·cases h
   ·rfl
 cases ho:qy l env with
 |false=>
  rw[Gag Gau]
  rw[same ho] at p
  exact p
 |true=>
  rw[Gah rfl]
  unfold qy at ho
  split at ho
  ·cases ho
  ·rename_i j
   split at ho
   ·rename_i d q
    have hj:j<env.length:=(Gad.mp q).1
    have lockj:(bD (some j) env)[j]? =some (some (.lok d)):=by unfold bD;simp only[q];exact cE hj
    have other:∀i,j≠i→(bD (some j) env)[i]? =env[i]? :=λi hi=>vn λk e=>by cases e;exact hi
    refine⟨λb o e n=>p.keep b o e λz=>n (lo b z),λb ⟨i,h,e⟩=> ?_,λi h=> ?_⟩
    ·by_cases z:j=i
     ·subst z
      unfold iP at h
      dsimp only at h
      split at h
      ·rename_i d' q'
       obtain⟨h1,h2⟩:=p.lk j (by rw[q'];trivial)
       rw[h2] at e
       exact .inl ⟨j,by rw[q];trivial,e⟩
      ·rcases p.ow b ⟨j,h,e⟩ with w|w
       ·exact .inl (lo b w)
       ·exact .inr w
     ·have h' :isO envN[i]? :=by
       unfold iP at h
       dsimp only at h
       split at h
       ·rw[Gac z] at h;exact h
       ·exact h
      rcases p.ow b ⟨i,h',e⟩ with w|w
      ·exact .inl (lo b w)
      ·exact .inr w
    ·by_cases z:j=i
     ·subst z
      unfold iP at h⊢
      dsimp only at h⊢
      split at h
      ·rename_i d' q'
       have hj' :j<envN.length:=(Gad.mp q').1
       rw[cE hj'] at h;exact h.elim
      ·rename_i q'
       obtain⟨h1,_⟩:=p.lk j h
       rw[lockj] at h1
       exact absurd h1 (q' d)
     ·have hN:(iP (some j) envN)[i]? =envN[i]? :=by
       unfold iP
       dsimp only
       split
       ·rw[Gac z]
       ·rfl
      rw[hN] at h⊢
      obtain⟨h1,h2⟩:=p.lk i h
      rw[other i z] at h1
      exact⟨h1,h2⟩
   ·cases ho
theorem sZ{Bad:Addr→Prop}{env env' :Env}{σ σ' :St}{H H' :Hp}(p:Stp env σ H env' σ' H'){b:Addr}(h:Cln Bad env σ b)(hb:H b≠none):Cln Bad env' σ' b:=⟨h.1,λi t e=>by
 rcases sT t with o|o
 ·rcases p.ow b ⟨i,o,e⟩ with⟨j,w,ej⟩|w
  ·exact h.2 j w.ol.top ej
  ·exact hb w
 ·obtain⟨h1,h2⟩:=p.lk i o
  rw[h1] at t
  rw[h2] at e
  exact h.2 i t e⟩
theorem cG{tg iter:Expr}{body:List Stmt}{l:Option Nat}{src:DI}{gd:DG}{sb:DS}(hp:PassesOwn (model X.prog X.w) X.A X.env X.xe)(hc:X.calm=true)(hi:PId X tg iter src)(hg:PGd X tg gd)(hb:kJ X body sb)
  (hs:∀x,foldedSetIterable iter X.env x=pure x:=by intro _;rfl):PSd X (.For tg iter body [] pos) (i8 l src gd sb):=by
 refine(Dj hp hc hi hg hb hs).aU ?_
 rintro D σ H ⟨H₀,Bad,env,o,E,e,k⟩
 obtain⟨ds,hds,e⟩:=bind_some e
 obtain⟨o1,ho1,rfl⟩:=Gal.mp e
 obtain⟨EL,lo,_⟩:=E.lock l
 refine⟨H₀,Bad,bD l env,ds,EL,hds,λJ H1 sH it=> ?_⟩
 have E1:=EL.mono sH
 have st1:Stp env σ H env σ H1:= .of_same sH
 have nxOk:∀envN σN HN,o1= .nx envN→aF X.K H₀ Bad envN σN HN→Stp (bD l env) σ H1 envN σN HN→D.nx σN HN:=λenvN σN HN eo EN pN=>by
  subst eo
  refine k σN HN ?_ (st1.trans (pN.loop lo))
  show aF X.K H₀ Bad (if qy l env then iP l envN else envN) σN HN
  split
  ·exact EN.free l
  ·exact EN
 refine⟨λi m σ' H' =>m=ds.length -i∧i≤ds.length∧∃envi,aF X.K H₀ Bad envi σ' H' ∧Stp (bD l env) σ H1 envi σ' H' ∧forL gd sb (ds.drop i) envi=some o1,
  ⟨ds.length,by simp,GbH _,_,E1,.refl,by simpa using ho1⟩, ?_⟩
 rintro i m σ' H' ⟨rfl,hle,envi,Ei,pi,ei⟩
 obtain⟨items,stop⟩:=it H' λb o hb n=>pi.keep b o hb n
 by_cases hlt:i<ds.length
 ·obtain⟨go,yld⟩:=items i ds[i] (by simp[hlt])
  refine .inr ⟨go,λσ2 H2=>(ds.length -(i+1))=ds.length -(i+1)∧i+1≤ds.length∧∃envi,aF X.K H₀ Bad envi σ2 H2∧Stp (bD l env) σ H1 envi σ2 H2∧forL gd sb (ds.drop (i+1)) envi=some o1,λσ2 H2 q=> ⟨_,by omega,q⟩,λx H2 y=> ?_⟩
  obtain⟨s2,rep⟩:=yld x H2 y
  have hd:ds.drop i=ds[i]::ds.drop (i+1):=Gbx hlt
  rw[hd] at ei
  unfold forL at ei
  obtain⟨e2,hg2,ei⟩:=bind_some ei
  obtain⟨o2,hb2,ei⟩:=bind_some ei
  refine⟨H₀,Bad,envi,ds[i],e2,Ei.mono s2,hg2,rep.imp λb q=>sZ pi q.1 q.2,λσ3 H3 E3 p3=> ?_⟩
  have p3' :Stp (bD l env) σ H1 e2 σ3 H3:=(pi.trans (.of_same s2)).trans p3
  refine⟨H₀,Bad,e2,o2,E3,hb2, ?_⟩
  cases o2 with
  |nx e4=>exactλσ4 H4 E4 p4=> ⟨rfl,hlt,e4,E4,p3'.trans p4,ei⟩
  |ct e4=>exactλσ4 H4 E4 p4=> ⟨rfl,hlt,e4,E4,p3'.trans p4,ei⟩
  |bk e4=>
   cases ei
   exactλσ4 H4 E4 p4=>nxOk e4 σ4 H4 rfl E4 (p3'.trans p4)
  |ret d=>
   cases ei
   exact k
 ·have hi:i=ds.length:=by omega
  subst hi
  rw[GbM] at ei
  cases ei
  exact .inl ⟨stop,nxOk envi σ' H' rfl Ei pi⟩
theorem DR{body:List Stmt}{sb:DS}(hp:PassesOwn (model X.prog X.w) X.A X.env X.xe)(hc:PTd X c t)(hb:kJ X body sb):PSd X (.While c body [] pos) (u5 t sb):=by
 refine(Dh hp hc hb).aU ?_
 rintro D σ H ⟨H₀,Bad,env,o,E,e,k⟩
 refine⟨λm σ' H' =>∃envi,aF X.K H₀ Bad envi σ' H' ∧Stp env σ H envi σ' H' ∧i4 t sb m envi=some o,⟨100000,env,E,.refl,e⟩, ?_⟩
 rintro m σ' H' ⟨envi,Ei,pi,ei⟩
 cases m with
 |zero=>cases ei
 |succ m=>
  unfold i4 at ei
  obtain⟨bb,hbb,ei⟩:=bind_some ei
  refine⟨H₀,Bad,envi,bb,Ei,hbb,λH1 s1=> ?_⟩
  have pi1:Stp env σ H envi σ' H1:=pi.trans (.of_same s1)
  dsimp only
  cases bb with
  |true=>
   rw[Gah rfl]
   rw[Gah rfl] at ei
   obtain⟨o2,hb2,ei⟩:=bind_some ei
   refine⟨λσ2 H2=>∃envi,aF X.K H₀ Bad envi σ2 H2∧Stp env σ H envi σ2 H2∧i4 t sb m envi=some o,λσ2 H2 q=> ⟨m,by omega,q⟩,H₀,Bad,envi,o2,Ei.mono s1,hb2, ?_⟩
   cases o2 with
   |nx e4=>exactλσ4 H4 E4 p4=> ⟨e4,E4,pi1.trans p4,ei⟩
   |ct e4=>exactλσ4 H4 E4 p4=> ⟨e4,E4,pi1.trans p4,ei⟩
   |bk e4=>cases ei;exactλσ4 H4 E4 p4=>k σ4 H4 E4 (pi1.trans p4)
   |ret d=>cases ei;exact k
  |false=>
   rw[Gag Gau]
   rw[Gag Gau] at ei
   cases ei
   exact k σ' H1 (Ei.mono s1) pi1
theorem aF.fM{K:aD}{H₀:Hp}{Bad:Addr→Prop}{env:Env}{σ:St}{H:Hp}(E:aF K H₀ Bad env σ H){b:Addr}{o:HO}(h:Ow env σ b)(hb:H b=some o):¬isT o:=by
 intro q
 obtain⟨i,h1,h2⟩:=h
 obtain⟨y,hy,wy⟩:=E.HX h1.ol.top h2
 rw[hb] at hy;cases hy
 cases o<;>simp[isT] at q<;>exact wy
theorem aF.lY{K:aD}{H₀:Hp}{Bad:Addr→Prop}{env:Env}{σ:St}{H Hi:Hp}{d:D}{v:V}(E:aF K H₀ Bad env σ H)(keep:∀b o,H b=some o→¬Ow env σ b→Hi b=some o)(r:Rep K (Cln Bad env σ) H d v):
  Rep K (λb=>Cln Bad env σ b∧H b≠none) Hi d v:=
 r.gen (λb o hb q=>keep b o hb (by
  rcases q with q|q
  ·exactλ⟨i,h1,h2⟩=>q.2 i h1.ol.top h2
  ·exactλw=>E.fM w hb q)) λb q hb=> ⟨q,hb⟩
noncomputable def NA(K:aD)(tl:TE):TI:=λσ H R=>tl σ H λx H1=>∃a,x= .ref a∧(((∃xs,SqL K H1 a xs)∧R (Itl K a) H1)∨((∃xs,SqT K H1 a xs)∧R (Itt K a) H1))
theorem DU{tg l:Expr}{tl:TE}(hl:PE X l tl):PI X tg l (NA X.K tl):=by
 intro pins s σ H R I h
 refine thn (hl pins s σ H _ I h) λv s1 ⟨x,H1,I1,r1,q1⟩=> ?_
 obtain⟨a,e,q1⟩:=q1
 subst e
 cases r1
 have fp:∀b∈[s1.heap.objs.size],mY X pins H1 b:=λb hb=>by
  have e:b=s1.heap.objs.size:=by simpa using hb
  subst e
  exact I1.BS (Gaq _) (I1.hok.fresh (Gaq _))
 rcases q1 with⟨⟨xs,hq⟩,q⟩| ⟨⟨xs,hq⟩,q⟩
 ·obtain⟨its,rv,p,hz⟩:=I1.list hq
  refine wpAny_pyIter_list p.isList ?_
  exact⟨s1.heap.objs.size,[s1.heap.objs.size],_,_,H1,rfl,I1.kept (t' :=s1.toks) λb o e=>Gak _ e,BU a _,⟨_,GaD _ rfl,rfl,rfl⟩,fp,q⟩
 ·obtain⟨its,rv,p,hz⟩:=I1.tuple hq
  refine GcT (show s1.heap.IsTuple a its.toArray from p) ?_
  exact⟨s1.heap.objs.size,[s1.heap.objs.size],_,_,H1,rfl,I1.kept (t' :=s1.toks) λb o e=>Gak _ e,wV a _,⟨_,GaD _ rfl,rfl,rfl⟩,fp,q⟩
theorem Bb{Bad:Addr→Prop}{env:Env}{σ:St}{H H1:Hp}{kd:Cls}{d:D}{v:V}(E:aF X.K H₀ Bad env σ H)(ht:d.top=true)(hk:kd≠ .to)(Rv:jF X.K H₀ Bad env σ H H1 ⟨kd,d⟩ v):∀a,v= .ref a→¬Ow env σ a:=λa ea=>by
 cases kd with
 |c=>
  have Rv' :Rep X.K (Cln Bad env σ) H1 d v:=Rv
  have fin:∀b,Cln Bad env σ b→¬Ow env σ b:=λb f ⟨i,h1,h2⟩=>f.2 i h1.ol.top h2
  cases Rv' with
  |tup h l r=>simp[D.top] at ht
  |lst f h l r=>cases ea;exact fin _ f
  |dK f h l r=>cases ea;exact fin _ f
  |dT f h l r=>cases ea;exact fin _ f
  |non=>cases ea
  |bl b=>cases ea
  |int i=>cases ea
  |str x=>cases ea
  |scr h=>simp[D.top] at ht
 |tn=>
  obtain⟨a',e',n,_⟩:=Rv
  rw[e'] at ea;cases ea
  exactλ⟨i,h1,h2⟩=>E.nG h1.ol.top h2 n
 |to=>exact absurd rfl hk
 |tb=>exact Rv.2 a ea ht
theorem fN{tg:Expr}(he:PEd X e f):PId X tg e (kR f):=by
 refine(DU he).aU ?_
 rintro σ H R ⟨H₀,Bad,env,ds,E,hf,k⟩
 obtain⟨⟨kd,d⟩,hr,hf⟩:=bind_some hf
 split at hf
 ·cases hf
 rename_i hk
 refine⟨H₀,Bad,env,_,E,hr,λv H1 s1 Rv=> ?_⟩
 have ii:=Rv.inn
 have E1:=E.mono s1
 split at hf
 ·rename_i xs hd
  cases hf
  have hd' :d= .lst ds:=hd
  subst hd'
  have hno:=Bb E rfl hk Rv
  cases ii with
  | @lst la lv _ h r=>
   refine⟨_,rfl,.inl ⟨⟨_,.inl h⟩,k _ H1 s1 λHi keep=> ?_⟩⟩
   have hh:Rd Hi la (.lst lv):=by
    rcases h with h| ⟨o,h⟩
    ·exact .inl (keep _ _ h (hno _ rfl))
    ·exact .inr ⟨o,keep _ _ h (hno _ rfl)⟩
   refine⟨λi d hd=> ?_,⟨_,.inl hh,by rw[r.1];exact Gaq _⟩⟩
   obtain⟨x,h1,h2⟩:=r.get hd
   refine⟨⟨_,x,.inl hh,h1⟩,λy H2 ⟨e2,e3⟩=> ?_⟩
   subst e2
   refine⟨bV, ?_⟩
   have:=e3 _ (.inl hh)
   rw[h1] at this;cases this
   exact E1.lY keep h2
 ·rename_i xs hd
  cases hf
  have hd' :d= .tup ds:=hd
  subst hd'
  cases ii with
  | @tup la lv _ h r=>
   refine⟨_,rfl,.inr ⟨⟨_,SqT.of h⟩,k _ H1 s1 λHi keep=> ?_⟩⟩
   have hh:Hi la=some (.tup lv):=keep _ _ h λw=>E1.fM w h trivial
   refine⟨λi d hd=> ?_,⟨_,SqT.of hh,by rw[r.1];exact Gaq _⟩⟩
   obtain⟨x,h1,h2⟩:=r.get hd
   refine⟨⟨_,x,SqT.of hh,h1⟩,λy H2 ⟨e2,e3⟩=> ?_⟩
   subst e2
   refine⟨bV, ?_⟩
   have:=e3 _ (SqT.of hh)
   rw[h1] at this;cases this
   exact E1.lY keep h2
 ·rename_i ns hd
  cases hf
  have hd' :d= .scr ns:=hd
  subst hd'
  cases ii with
  | @scr la _ h=>
   refine⟨_,rfl,.inl ⟨⟨_,h.sq⟩,k _ H1 s1 λHi keep=> ?_⟩⟩
   have hh:Scr X.K Hi la ns:=by
    rcases h with⟨o,h⟩|h
    ·exact .inl ⟨o,keep _ _ h λw=>E1.fM w h trivial⟩
    ·exact .inr h
   refine⟨λi d hd=> ?_,⟨_,hh.sq,by simp⟩⟩
   rw[Gan] at hd
   cases q:ns[i]? with
   |none=>rw[q] at hd;cases hd
   |some n=>
    rw[q] at hd;cases hd
    refine⟨⟨_,.int n,hh.sq,by rw[Gan,q];rfl⟩,λy H2 ⟨e2,e3⟩=> ?_⟩
    subst e2
    have:=e3 _ hh.sq
    rw[Gan,q] at this;cases this
    exact⟨bV,.int n⟩
 ·cases hf
theorem kL{lo:Int}{n:Nat}{F N:Addr→Prop}{H1:Hp}:Ac X.K F N (Itr lo n) (bx lo n) H1:=λHi _=>by
 refine⟨λi d hd=> ?_,by show n≤(bx lo n).length;simp[bx]⟩
 have hi:i<n:=by have:=(Gad.mp hd).1;simpa[bx] using this
 refine⟨hi,λx H2 ⟨e1,e2⟩=> ?_⟩
 subst e1 e2
 have:d= .int (lo+(i:Int)):=by
  unfold bx at hd
  rw[Gan,List.getElem?_range hi] at hd
  cases hd;rfl
 subst this
 exact⟨bV,.int _⟩
theorem fO{i:Int}(h:bU i=true): -(2^62)≤i∧i<2^62:=by
 unfold bU at h
 rw[Gas] at h
 have h1:=Gaw h.1
 have h2:=Gaw h.2
 omega
theorem f9{tg:Expr}{p:Pos}(hg:Gl X "range")(hm:X.mg "range"=none)(he:PEd X e f)(hs:starEach [e] X.env=[(false,eval e X.env)]:=by rfl):PId X tg (.Call (.Name "range" p) [e] [] pos) (gz f):=by
 refine(BV hg hm (a4 he aa hs) hs).aU ?_
 rintro σ H R ⟨H₀,Bad,env,ds,E,hf,k⟩
 obtain⟨r,hr,hf⟩:=bind_some hf
 split at hf
 ·rename_i j hd
  split at hf
  ·rename_i hz
   cases hf
   refine⟨H₀,Bad,env,[r],E,by unfold a5 aq;rw[hr];rfl,λvs H1 s1 Rs=> ?_⟩
   cases Rs with
   |cons R1 t=>
    cases t
    have i:=R1.inn
    rw[hd] at i
    cases i
    exact⟨j,rfl,(fO hz).1,(fO hz).2,k _ H1 s1 kL⟩
  ·cases hf
 ·cases hf
theorem Ce{tg:Expr}{p:Pos}(hg:Gl X "range")(hm:X.mg "range"=none)(ha:PEd X a f)(hb:PEd X b g)(hs:starEach [a,b] X.env=[(false,eval a X.env),(false,eval b X.env)]:=by rfl)(hs2:starEach [b] X.env=[(false,eval b X.env)]:=by rfl):
  PId X tg (.Call (.Name "range" p) [a,b] [] pos) (B3 f g):=by
 refine(BW hg hm (a4 ha (a4 hb aa hs2) (by rw[hs,hs2])) hs hs2).aU ?_
 rintro σ H R ⟨H₀,Bad,env,ds,E,hf,k⟩
 obtain⟨r,hr,hf⟩:=bind_some hf
 obtain⟨r',hr',hf⟩:=bind_some hf
 split at hf
 ·rename_i i j hd hd'
  split at hf
  ·rename_i hz
   rw[Gas] at hz
   cases hf
   refine⟨H₀,Bad,env,[r,r'],E,by simp only[a5,aq,hr,hr'];rfl,λvs H1 s1 Rs=> ?_⟩
   cases Rs with
   |cons R1 t=>
    cases t with
    |cons R2 t=>
     cases t
     have i1:=R1.inn
     rw[hd] at i1
     cases i1
     have i2:=R2.inn
     rw[hd'] at i2
     cases i2
     exact⟨i,j,rfl,⟨(fO hz.1).1,(fO hz.1).2,(fO hz.2).1,(fO hz.2).2⟩,k _ H1 s1 kL⟩
  ·cases hf
 ·cases hf
theorem aT{i:Nat}{x:Str}(hN:X.N.Nodup)(hi:X.N[i]? =some x)(hx:Loc X.env.scope x)(hf:X.fn x=true∨X.env.scope.names.lookup x=some .local:=by first|exact .inl rfl|exact .inr rfl|assumption):PGd X (.Name x pos) (gN i):=by
 refine(AU hN hi hx hf).aU ?_
 rintro v σ H Q ⟨H₀,Bad,env,d,env',E,hg,r,k⟩
 cases hg
 exact k _ H (E.kX r) .kX
noncomputable def tGs(X:Cx)(is:List Nat):TGs:=λvs σ H Q=>∃H₀ Bad env ds env',aF X.K H₀ Bad env σ H∧gNs is ds env=some env' ∧aX X.K (λb=>Cln Bad env σ b∧H b≠none) H ds vs∧∀σ' H',aF X.K H₀ Bad env' σ' H' →Stp env σ H env' σ' H' →Q σ' H'
theorem _root_.L2.PGs.aU{es:List Expr}{t t' :TGs}(h:PGs X es t')(i:∀v σ H Q,t v σ H Q→t' v σ H Q):PGs X es t:=λpins s σ H v u Q I r q=>h pins s σ H v u Q I r (i v σ H Q q)
theorem k8:PGs X [] (tGs X []):=by
 refine FU.aU ?_
 rintro vs σ H Q ⟨H₀,Bad,env,ds,env',E,hg,r,k⟩
 cases ds with
 |nil=>cases hg;exact⟨r.cU,k σ H E .refl⟩
 |cons d ds=>cases hg
theorem cN{es:List Expr}{i:Nat}{is:List Nat}(h1:PGd X e (gN i))(h2:PGs X es (tGs X is))(hs:(assignEach (e::es) X.env).map (·.2)=assign e X.env::(assignEach es X.env).map (·.2):=by rfl):PGs X (e::es) (tGs X (i::is)):=by
 refine(Dg h1 h2 hs).aU ?_
 rintro vs σ H Q ⟨H₀,Bad,env,ds,env',E,hg,r,k⟩
 cases ds with
 |nil=>cases hg
 |cons d ds=>
  obtain⟨v,vr,rfl,r1,r2⟩:=r.cons_inv
  refine⟨v,vr,rfl,H₀,Bad,env,d,_,E,rfl,r1.imp λ_ q=>q.1,λσ1 H1 E1 p1=> ?_⟩
  refine⟨H₀,Bad,_,ds,env',E1,hg,r2.gen (λb o hb q=>p1.keep b o hb (by
   rcases q with q|q
   ·exactλ⟨j,w1,w2⟩=>q.1.2 j w1.ol.top w2
   ·exactλw=>E.fM w hb q)) (λb q hb=> ⟨sZ p1 q.1 hb, ?_⟩),λσ2 H2 E2 p2=>k σ2 H2 E2 (p1.trans p2)⟩
  cases o:H b with
  |none=>exact absurd o hb
  |some x=>rw[p1.keep b x o λ⟨j,w1,w2⟩=>q.1.2 j w1.ol.top w2];simp
theorem Bc:∀{is:List Nat} {ds:List D} {env env' :Env},gNs is ds env=some env' →ds.length=is.length
 |[],[],_,_,_=>rfl
 |[],_::_,_,_,h=>by cases h
 |_::_,[],_,_,h=>by cases h
 |i::is,d::ds,env,env',h=>by
  have:=Bc (is:=is) (ds:=ds) h
  simp[this]
theorem nh{es:List Expr}{j n:Nat}{is:List Nat}(hc:X.calm=true)(h:PGs X es (tGs X is))(hn:(assignEach es X.env).length=n:=by rfl)(hst:(assignEach es X.env).findIdx? (·.1)=none:=by rfl)(hl:is.length=n:=by rfl):PGd X (.Tuple es j pos) (gT is):=by
 refine(IC hc h hn hst).aU ?_
 rintro v σ H Q ⟨H₀,Bad,env,d,env',E,hg,r,k⟩
 unfold gT at hg
 split at hg
 ·rename_i ds
  cases r with
  |tup h l r=>
   refine⟨_,_,rfl,SqT.of h,by rw[←l,Bc hg,hl],H₀,Bad,env,ds,env',E,hg,⟨l,λi d v e1 e2=>(r i d v e1 e2).gen (.of_same bV) λb q hb=> ⟨q,hb⟩⟩,k⟩
 ·cases hg
end
open PySem PySem.Spec PyProof.Rows L2
section
variable{X:Cx}{e a b c:Expr}{f g h:DE}{t u:DT}{pos:Pos}{st:Stmt}{rest:List Stmt}{s1 s2:DS}
theorem nI{i:Nat}{env:Env}{d:D}(h:ownAt i env=some d):env[i]? =some (some (.own d)):=by
 unfold ownAt at h
 split at h
 ·rename_i d' q;cases h;exact q
 ·cases h
theorem nJ{K:aD}{F:Addr→Prop}{H:Hp}{ds:List D}{a:Addr}(w:Wr H a)(i:Inn K F H (.lst ds) (.ref a)):∃vs,H a=some (.lst vs)∧aX K F H ds vs:=by
 cases i with
 |lst h r=>
  rcases h with h| ⟨o,h⟩
  ·exact⟨_,h,r⟩
  ·obtain⟨y,hy,wy⟩:=w
   rw[h] at hy;cases hy;exact wy.elim
theorem bP{i:Nat}{x:Str}{px apos cpos:Pos}(hN:X.N[i]? =some x)(hv:Vis X.env.scope x)(he:PEd X e f)(hd:(x==("__debug__":Str))=false:=by decide)(hcd:(x==("__classdict__":Str))=false:=by decide)
  (hs1:starEach [e] X.env=[(false,eval e X.env)]:=by rfl)
  (hbase:attributeBase (.Name x px) "append" X.env (eval (.Name x px) X.env)=eval (.Name x px) X.env:=by rfl)
  (hfew:((backTo cpos (starEach [e] X.env)).all (λx=> !x.1)&&(backToKw cpos (keywordEach [] X.env)).all (λx=>x.1.isSome)
   &&decide (([e]:List Expr).length+([]:List Keyword).length+(if([]:List Keyword).isEmpty then 0 else 1)<30))=true:=by rfl)
  (hline:(apos.endLine==cpos.line)=true:=by rfl)(hs:swapsWith (.Call (.Attribute (.Name x px) "append" apos) [e] [] cpos) none pos.line X.env=pure false:=by rfl):
  PSd X (.Expr (.Call (.Attribute (.Name x px) "append" apos) [e] [] cpos) pos) (kS i f):=by
 refine(pZ (AY GcB PySem.F.slot_list_append PySem.F.type_list_append oC (kK hN hv hd hcd) (a4 he aa hs1) hbase hfew hline hs1 rfl) hs).aU ?_
 rintro D σ H ⟨H₀,Bad,env,o,E,e,k⟩
 obtain⟨r,hr,e⟩:=bind_some e
 obtain⟨d,hd,e⟩:=bind_some e
 have q:=nI hd
 split at e
 ·rename_i xs
  split at e
  ·rename_i z
   rw[Gas] at z
   cases e
   obtain⟨a,h1,h2,h3,h4,h5,h6⟩:=E.ow i _ (.inl q)
   obtain⟨vs,hH,rp⟩:=nJ h4 h6
   refine⟨_,h1,.inl ⟨rfl,vs,.inl (.inl hH)⟩,H₀,Bad,env,[r],E,by unfold a5 aq;rw[hr];rfl,λws H2 s2 Rs=> ?_⟩
   cases Rs with
   | @cons _ v _ _ R1 tl=>
    cases tl
    have hH2:=s2 _ _ hH
    refine⟨a,vs,v,rfl,rfl,hH2,by rw[←rp.1,←size_eq];exact Gaw z.2, ?_⟩
    have E2:=E.mono s2
    have rep1:=R1.rep E z.1
    have rp2:aX X.K (Cln Bad env σ) H2 (xs++[r.d]) (vs++[v]):=(rp.gen (.of_same s2) λ_ f _=>f).append (.cons rep1 .nil)
    obtain⟨E3,p3⟩:=E2.change (d' := .lst (xs++[r.d])) (o:= .lst (vs++[v])) q h1 trivial rfl (.lst (.inl aK) (rp2.gen (λb o hb w=>by
     have:b≠a:=by
      rintro rfl
      rcases w with w|w
      ·exact w.2 i (by rw[q];trivial) h1
      ·rw[hH2] at hb;cases hb;exact w
     rw[ax this];exact hb) λ_ f _=>f))
    exact k σ _ E3 ((Stp.of_same s2).trans p3)
  ·cases e
 ·cases e
theorem Cf{i:Nat}{x:Str}{px apos cpos:Pos}(hN:X.N[i]? =some x)(hv:Vis X.env.scope x)(he:PEd X e f)(hd:(x==("__debug__":Str))=false:=by decide)(hcd:(x==("__classdict__":Str))=false:=by decide)
  (hs1:starEach [e] X.env=[(false,eval e X.env)]:=by rfl)
  (hbase:attributeBase (.Name x px) "extend" X.env (eval (.Name x px) X.env)=eval (.Name x px) X.env:=by rfl)
  (hfew:((backTo cpos (starEach [e] X.env)).all (λx=> !x.1)&&(backToKw cpos (keywordEach [] X.env)).all (λx=>x.1.isSome)
   &&decide (([e]:List Expr).length+([]:List Keyword).length+(if([]:List Keyword).isEmpty then 0 else 1)<30))=true:=by rfl)
  (hline:(apos.endLine==cpos.line)=true:=by rfl)(hs:swapsWith (.Call (.Attribute (.Name x px) "extend" apos) [e] [] cpos) none pos.line X.env=pure false:=by rfl):
  PSd X (.Expr (.Call (.Attribute (.Name x px) "extend" apos) [e] [] cpos) pos) (Le i f):=by
 refine(pZ (AY GcB PySem.F.slot_list_extend PySem.F.type_list_extend C3 (kK hN hv hd hcd) (a4 he aa hs1) hbase hfew hline hs1 rfl) hs).aU ?_
 rintro D σ H ⟨H₀,Bad,env,o,E,e,k⟩
 obtain⟨⟨kd,rd⟩,hr,e⟩:=bind_some e
 obtain⟨d,hd,e⟩:=bind_some e
 have q:=nI hd
 split at e
 ·rename_i xs ys hrd
  have hrd' :rd= .lst ys:=hrd
  subst hrd'
  split at e
  ·rename_i z
   rw[Gas] at z
   cases e
   have hk:kd= .tn:=by have:=z.1;simpa using this
   subst hk
   obtain⟨a,h1,h2,h3,h4,h5,h6⟩:=E.ow i _ (.inl q)
   obtain⟨vs,hH,rp⟩:=nJ h4 h6
   refine⟨_,h1,.inl ⟨rfl,vs,.inl (.inl hH)⟩,H₀,Bad,env,[⟨.tn,.lst ys⟩],E,by unfold a5 aq;rw[hr];rfl,λws H2 s2 Rs=> ?_⟩
   cases Rs with
   | @cons _ v _ _ R1 tl=>
    cases tl
    obtain⟨b,rfl,nb,wb,_,ib⟩:=R1
    obtain⟨us,hB,ru⟩:=nJ wb ib
    have hH2:=s2 _ _ hH
    refine⟨a,b,vs,us,rfl,rfl,hH2,hB,by rw[←rp.1,←ru.1,←size_eq];exact Gaw z.2, ?_⟩
    have E2:=E.mono s2
    have rp2:aX X.K (Cln Bad env σ) H2 (xs++ys) (vs++us):=(rp.gen (.of_same s2) λ_ f _=>f).append (ru.gen (.of_same bV) λ_ f _=>f.1)
    obtain⟨E3,p3⟩:=E2.change (d' := .lst (xs++ys)) (o:= .lst (vs++us)) q h1 trivial rfl (.lst (.inl aK) (rp2.gen (λb o hb w=>by
     have:b≠a:=by
      rintro rfl
      rcases w with w|w
      ·exact w.2 i (by rw[q];trivial) h1
      ·rw[hH2] at hb;cases hb;exact w
     rw[ax this];exact hb) λ_ f _=>f))
    exact k σ _ E3 ((Stp.of_same s2).trans p3)
  ·cases e
 ·cases e
noncomputable def NB(K:aD):List V→Hp→VK→Prop:=λxs H Q=>∃x T t b,xs=[x,.ty T]∧mZ K H x (.type t)∧PySem.W.kitOne K (.type t) (.type T)=some b∧Q (.bl b) H
theorem DV:i5 X (.builtin "isinstance") (NB X.K):=by
 intro pins s σ H xs us Q I r h
 obtain⟨x,T,t,bb,rfl,ty,hk,q⟩:=h
 obtain⟨u,w',rfl,r1,r2⟩:=vals2 r
 cases r2
 exact C0 I r1 ty hk λtk=> ⟨.bl bb,H,I.tok _,rfl,q⟩
noncomputable def t5(K:aD)(T:String):Prop:=∀t∈["NoneType","bool","int","str","tuple","list","dict"],PySem.W.kitOne K (.type t) (.type T)=some (T==t||(t=="bool"&&T=="int"))
theorem Gv{K:aD}{F:Addr→Prop}{H:Hp}{d:D}{x:V}(i:Inn K F H d x)(hs:kQ d=false):∃t∈["NoneType","bool","int","str","tuple","list","dict"],mZ K H x (.type t)∧∀S,jK S d=(S==t||(t=="bool"&&S=="int")):=by
 have rdl:∀{a:Addr} {vs:List V},Rd H a (.lst vs)→mZ K H (.ref a) (.type "list"):=λh=>by
  rcases h with h| ⟨o,h⟩
  ·exact .lst h
  ·exact .frz h
 cases i with
 |non=>exact⟨"NoneType",by simp,.non,λS=>by simp[jK]⟩
 |bl b=>exact⟨"bool",by simp,.bl b,λS=>by simp[jK]⟩
 |int i=>exact⟨"int",by simp,.int i,λS=>by simp[jK]⟩
 |str x=>exact⟨"str",by simp,.str x,λS=>by simp[jK]⟩
 |tup h r=>exact⟨"tuple",by simp,.tup h,λS=>by simp[jK]⟩
 |lst h r=>exact⟨"list",by simp,rdl h,λS=>by simp[jK]⟩
 |dK h r=>exact⟨"dict",by simp,.dK h,λS=>by simp[jK]⟩
 |dT h r=>exact⟨"dict",by simp,.dT h,λS=>by simp[jK]⟩
 |scr h=>cases hs
theorem qF{T:String}{x:Str}{p p2:Pos}(kit:t5 X.K T)(he:PEd X e f)(hg:Gl X "isinstance")(hm:X.mg "isinstance"=none)(hg2:Gl X x)(hm2:X.mg x=none)(hv2:bootBuiltins x=some (.type T))(hn2:x≠"__name__":=by decide)(hd2:(x==("__debug__":Str))=false:=by decide)
  (hs1:starEach [e,.Name x p2] X.env=(false,eval e X.env)::starEach [.Name x p2] X.env:=by rfl)(hs2:starEach [.Name x p2] X.env=(false,eval (.Name x p2) X.env)::starEach [] X.env:=by rfl)(hpl:(backTo pos (starEach [.Name x p2] X.env)).any (·.1)=false:=by rfl):
  PEd X (.Call (.Name "isinstance" p) [e,.Name x p2] [] pos) (bE (Ca T f)):=by
 have ht:PE X (.Name x p2) (tC (.ty T)):=FQ hg2 hm2 hv2 rfl hn2 hd2
 refine(uT DV hg hm (by decide+kernel) (tY he (tY ht A1 hs2) hs1) (by decide) (by decide) hs1 hpl).aU ?_
 rintro σ H Q ⟨H₀,Bad,env,rv,E,e,k⟩
 obtain⟨bb,e',rfl⟩:=Gal.mp e
 clear e
 have e:=e'
 clear e'
 obtain⟨r,hr,e⟩:=bind_some e
 split at e
 ·cases e
 ·rename_i hs
  cases e
  refine⟨H₀,Bad,env,r,E,hr,λv H1 s1 R=> ?_⟩
  obtain⟨t,ht,ty,hb⟩:=Gv R.inn (by simpa using hs)
  exact⟨v,T,t,_,rfl,ty,kit t ht,by rw[←hb T];exact k _ H1 s1 (.bl _)⟩
theorem au:∀env rs,aq env=some rs→rs.length=0:=λenv rs h=>by cases h;rfl
theorem a7{r:DA}{n:Nat}(h:∀env rs,r env=some rs→rs.length=n):∀env rs,a5 f r env=some rs→rs.length=n+1:=λenv rs e=>by
 obtain⟨x,_,e⟩:=bind_some e
 obtain⟨xs,hx,e⟩:=bind_some e
 cases e
 rw[GaH,h env xs hx]
theorem aF.start{K:aD}{H:Hp}{N:List Str}{ds:List D}{vs:List V}(hl:ds.length≤N.length)(r:aX K (λ_=>True) H ds vs):aF K H (λ_=>False) (bz N.length ds) (start N vs) H:=by
 have nt:∀i:Nat,¬bw (bz N.length ds)[i]? :=λi h=>by
  unfold bz at h
  by_cases hi:i<ds.length
  ·rw[GaT (by simpa using hi),Gan] at h
   cases q:ds[i]? with
   |none=>rw[q] at h;exact h
   |some d=>rw[q] at h;exact h
  ·rw[GaM (by simpa using hi),GcA] at h
   split at h<;>exact h
 have no:∀{i:Nat} {s:Slot},(bz N.length ds)[i]? =some (some s)→bw (some (some s))→False:=λ{i s} e h=>nt i (by rw[e];exact h)
 refine⟨λ_ _ e=>e,by simp[bz,L2.start,r.1],λ_ h=>h.elim,λi d e=> ?_,λi d e=> ?_,λi d e=> ?_,λi j a t _ _ _=>(nt i t.top).elim⟩
 ·unfold bz at e
  by_cases hi:i<ds.length
  ·rw[GaT (by simpa using hi),Gan] at e
   cases q:ds[i]? with
   |none=>rw[q] at e;cases e
   |some d' =>
    rw[q] at e
    have e' :d' =d:=by simpa using e
    subst e'
    obtain⟨v,h1,h2⟩:=r.get q
    refine⟨v, ?_,h2.imp λb _=> ⟨λz=>z,λj t=>(nt j t).elim⟩⟩
    unfold L2.start
    rw[GaT (by rw[Gae,←r.1];exact hi),Gan,h1];rfl
  ·rw[GaM (by simpa using hi),GcA] at e
   split at e<;>cases e
 ·rcases e with e|e
  ·exact(no e trivial).elim
  ·exact(no e trivial).elim
 ·exact(no e trivial).elim
theorem cS{P:Program}{w:World}{K:aD}{mg:Str→Option Value}{base:Heap}{x qual:Str}{sd:Stmt}{fa:Addr}{fd:FuncData}{N ps:List Str}{k np:Nat}{body:DS}(F:Fun K x qual sd fa fd)(S:aW N ps (aJ sd))(hnp:ps.length=np)
  (hbody:∀(cdv:Value) (A:Around) (outer:List PySem.Env) (s:Shared) (H:Hp) (E:XK),gZ k (A.deeper (envOfC qual (aJ sd) s.heap.objs.size fa cdv))→
   kJ (A3 CX0 P w K mg base N qual (aJ sd) fa cdv A outer s H E).nox (jk sd) body):cF P w K mg base CX0 (k+1) fa fd ps (spD K np (fw N.length np body)):=by
 refine F.ok S (λvs H Q E h=> ?_) λcdv A outer s H vs Q E hr h=> ⟨_,hbody cdv A outer s H E hr, ?_⟩
 ·obtain⟨ds,d,h1,h2,_⟩:=h
  rw[←h2.1,h1,hnp]
 ·obtain⟨ds,d,h1,h2,h3,k⟩:=h
  unfold fw at h3
  rw[Gah h1] at h3
  obtain⟨o,ho,h3⟩:=bind_some h3
  have hl:ds.length≤N.length:=by
   have:=congrArg List.length S.pre
   rw[GcK] at this
   omega
  refine⟨H,λ_=>False,bz N.length ds,o,aF.start hl h2,ho, ?_⟩
  cases o with
  |ret d' =>cases h3;exactλv H' s' R=>k v H' s' R
  |nx e=>cases h3;exactλσ' H' E' p' =>k .non H' E'.same ⟨λt=>(by cases t),.non⟩
  |bk e=>cases h3
  |ct e=>cases h3
theorem Jh{K:aD}{H:Hp}{a:Addr}{ns:List Int}{sp:List D→Option D}{E:XK}(hO:Gb H)(hS:SqL K H a (ns.map V.int))(h:sp [.scr ns]=some (.bl true)):spD K 1 sp [.ref a] H (λv _=>v= .bl true) E:=by
 refine⟨[.scr ns],.bl true,rfl,aX.cons (.scr ?_) .nil,h,λv H' _ R=> ?_⟩
 ·rcases hS with(z|z)|z
  ·rcases hO a with q| ⟨o,xs,q⟩<;>rw[z] at q<;>cases q
  ·exact .inl z
  ·exact .inr z
 ·have i:=R.2
  cases i;rfl
end
open PySem PySem.Spec PyProof.Rows L2
theorem plain_all{n:Nat}{ds:List D}(h:ds.all (ay n)=true){i:Nat}{d:D}(e:ds[i]? =some d):ay n d=true:=Gat.mp h d (GaL e)
theorem vo:∀(n:Nat) (d:D),ay n d=true→eqD d d=true:=by
 intro n
 induction n with
 |zero=>intro d h;cases d<;>simp[ay] at h<;>simp[eqD]
 |succ n ih=>
  have all:∀ds:List D,ds.all (ay n)=true→kO ds ds=true:=by
   intro ds
   induction ds with
   |nil=>intro _;rfl
   |cons d ds ih2=>
    intro h
    rw[GbC,Gas] at h
    simp[kO,ih d h.1,ih2 h.2]
  intro d h
  cases d<;>simp only[ay] at h<;>first
   |(simp[eqD];done)
   |(simp only[eqD];exact all _ h)
   |cases h
theorem kY:∀{ds es:List D},ds.length≠es.length→kO ds es=false
 |[],[],h=>absurd rfl h
 |[],_::_,_=>rfl
 |_::_,[],_=>rfl
 |d::ds,e::es,h=>by
  unfold kO
  rw[kY (by simpa using h),GcH]
theorem iZ:∀{ds es:List D},ds.length=es.length→(List.range ds.length).all (λj=>eqD (ds.getD j .non) (es.getD j .non))=kO ds es
 |[],[],_=>rfl
 |[],_::_,h=>by simp at h
 |_::_,[],h=>by simp at h
 |d::ds,e::es,h=>by
  have ih:=iZ (ds:=ds) (es:=es) (by simpa using h)
  unfold kO
  rw[GaH,List.range_succ_eq_map,GbC,GbB,←ih]
  rfl
section
variable{X:Cx}{pins:List (Addr×Obj)}{σ:St}{H:Hp}{s:Shared}
theorem Bd{K:aD}{F G:Addr→Prop}:∀(n:Nat) {d d' :D} {v:V},ay n d=true→ay n d' =true→Rep K F H d v→Rep K G H d' v→d=d' :=by
 intro n
 induction n with
 |zero=>intro d d' v h1 h2 r1 r2;cases r1<;>simp[ay] at h1<;>cases r2<;>simp[ay] at h2<;>rfl
 |succ n ih=>
  have all:∀{ds es:List D} {vs:List V},ds.all (ay n)=true→es.all (ay n)=true→ds.length=vs.length→es.length=vs.length→(∀(i:Nat) d v,ds[i]? =some d→vs[i]? =some v→Rep K F H d v)→(∀(i:Nat) d v,es[i]? =some d→vs[i]? =some v→Rep K G H d v)→ds=es:=by
   intro ds es vs p1 p2 l1 l2 r1 r2
   apply Gdb
   intro i
   by_cases hi:i<vs.length
   ·have e1:ds[i]? =some ds[i]:=by simp[l1,hi]
    have e2:es[i]? =some es[i]:=by simp[l2,hi]
    have e3:vs[i]? =some vs[i]:=by simp[hi]
    rw[e1,e2,ih (plain_all p1 e1) (plain_all p2 e2) (r1 i _ _ e1 e3) (r2 i _ _ e2 e3)]
   ·rw[Gbn (by omega),Gbn (by omega)]
  intro d d' v h1 h2 r1 r2
  cases r1 with
  |non=>cases r2;rfl
  |bl b=>cases r2;rfl
  |int i=>cases r2;rfl
  |str x=>cases r2;rfl
  |scr h=>simp[ay] at h1
  |dK f h l r=>simp[ay] at h1
  |dT f h l r=>simp[ay] at h1
  |tup h l r=>
   cases r2 with
   |tup h' l' r' =>
    rw[h] at h';cases h'
    rw[all (by simpa[ay] using h1) (by simpa[ay] using h2) l l' r r']
   |lst f h' l' r' =>rcases h' with h' | ⟨o,h'⟩<;>rw[h] at h' <;>cases h'
   |scr h' =>simp[ay] at h2
   |dK f h' l r=>simp[ay] at h2
   |dT f h' l r=>simp[ay] at h2
  |lst f h l r=>
   cases r2 with
   |tup h' l' r' =>rcases h with h| ⟨o,h⟩<;>rw[h] at h' <;>cases h'
   |lst f' h' l' r' =>
    have:∀{xs ys:List V} {a:Addr},Rd H a (.lst xs)→Rd H a (.lst ys)→xs=ys:=λz1 z2=>by
     rcases z1 with z1| ⟨o,z1⟩<;>rcases z2 with z2| ⟨o',z2⟩<;>rw[z1] at z2<;>cases z2<;>rfl
    cases this h h'
    rw[all (by simpa[ay] using h1) (by simpa[ay] using h2) l l' r r']
   |scr h' =>simp[ay] at h2
   |dK f h' l r=>simp[ay] at h2
   |dT f h' l r=>simp[ay] at h2
theorem item_at{ds:List D}{vs:List V}{its:List Value}{K:aD}{F:Addr→Prop}(l:ds.length=vs.length)(r:∀(i:Nat) d v,ds[i]? =some d→vs[i]? =some v→Rep K F H d v)(rv:Vals vs its){j:Nat}(h:j<its.toArray.size):
  ∃d v,ds[j]? =some d∧ds.getD j .non=d∧Rep K F H d v∧RelV v its.toArray[j]:=by
 have hj:j<its.length:=by simpa using h
 have hv:j<vs.length:=by rw[rv.length];exact hj
 have hd:j<ds.length:=by rw[l];exact hv
 obtain⟨u,e1,e2⟩:=rv.get (i:=j) (x:=vs[j]) (by simp[hv])
 refine⟨ds[j],vs[j],by simp[hd],by simp[hd],r j _ _ (by simp[hd]) (by simp[hv]), ?_⟩
 have:its.toArray[j]=u:=by
  have:=e1
  simp[hj] at this
  simpa using this
 rw[this];exact e2
theorem in1_units{A:Around}{n:Nat}(h:A.units+(n+1)<cLine):A.in1.units+n<cLine:=by
 show A.units+1+n<_
 omega
theorem vp(I:Inv X pins σ H s){F G:Addr→Prop}:∀(n:Nat) {dx dy:D} {x y:V} {v u:Value} {A:Around},ay n dx=true→ay n dy=true→Rep X.K F H dx x→Rep X.K G H dy y→RelV x v→RelV y u→A.units+n<cLine→SeqAt.EqAt A s v u (eqD dx dy):=by
 have flat:∀{dx dy:D} {x y:V} {v u:Value} {A:Around},Rep X.K F H dx x→Rep X.K G H dy y→RelV x v→RelV y u→sO x=true→sO y=true→SeqAt.EqAt A s v u (eqD dx dy):=by
  intro dx dy x y v u A r1 r2 rv ru fx fy
  have e:eqD dx dy=eqV x y:=by
   cases r1<;>cases r2<;>first|rfl|(simp[sO] at fx)|(simp[sO] at fy)
  rw[e]
  exact IZ rv ru fx fy
 intro n
 induction n with
 |zero=>
  intro dx dy x y v u A p1 p2 r1 r2 rv ru hu
  refine flat r1 r2 rv ru ?_ ?_
  ·cases r1<;>first|rfl|(simp[ay] at p1)
  ·cases r2<;>first|rfl|(simp[ay] at p2)
 |succ n ih=>
  intro dx dy x y v u A p1 p2 r1 r2 rv ru hu
  have hu0:A.units<cLine:=by omega
  cases r1 with
  |scr h=>simp[ay] at p1
  |dK f h l r=>simp[ay] at p1
  |dT f h l r=>simp[ay] at p1
  | @tup a vs1 ds1 h l r=>
   cases rv
   obtain⟨its,rvs,ht,_⟩:=I.tuple (SqT.of h)
   cases r2 with
   |scr h' =>simp[ay] at p2
   |dK f h' l r=>simp[ay] at p2
   |dT f h' l r=>simp[ay] at p2
   |non=>cases ru;exact SeqAt.EqAt.tuple_none ht hu0
   |bl b=>cases ru;exact SeqAt.EqAt.tuple_bool b ht hu0
   |int i=>obtain⟨t,rfl⟩:=ru;exact SeqAt.EqAt.tuple_int i t ht hu0
   |str z=>obtain⟨t,rfl⟩:=ru;exact SeqAt.EqAt.tuple_str z t ht hu0
   |lst f' h' l' r' =>
    cases ru
    obtain⟨its2,rvs2,pl,_⟩:=I.list (.inl h')
    exact SeqAt.EqAt.tuple_list ht pl.isList hu0
   | @tup b vs2 ds2 h' l' r' =>
    cases ru
    by_cases hab:a=b
    ·subst hab
     have:=Bd (n+1) p1 p2 (Rep.tup h l r) (Rep.tup h' l' r')
     rw[←this,vo _ _ p1]
     exact SeqAt.EqAt.same _
    ·obtain⟨its2,rvs2,ht2,_⟩:=I.tuple (SqT.of h')
     have hs1:its.toArray.size=ds1.length:=by rw[Gam,←rvs.length,l]
     have hs2:its2.toArray.size=ds2.length:=by rw[Gam,←rvs2.length,l']
     have key:=SeqAt.RcAt.tuples (e:=λj=>eqD (ds1.getD j .non) (ds2.getD j .non)) ht ht2 hu0 λj h1 h2=>by
      obtain⟨d1,v1,q1,q2,q3,q4⟩:=item_at l r rvs h1
      obtain⟨d2,v2,w1,w2,w3,w4⟩:=item_at l' r' rvs2 h2
      rw[q2,w2]
      exact ih (plain_all (by simpa[ay] using p1) q1) (plain_all (by simpa[ay] using p2) w1) q3 w3 q4 w4 (in1_units hu)
     refine SeqAt.EqAt.of_refs hab ?_
     show SeqAt.RcAt A s (.ref a) (.ref b) (kO ds1 ds2)
     rw[hs1,hs2] at key
     by_cases hl:ds1.length=ds2.length
     ·rw[←hl,GdI,iZ hl] at key
      simpa using key
     ·rw[kY hl]
      have:(ds1.length==ds2.length)=false:=by simpa using hl
      rw[this,GcH] at key
      exact key
  | @lst a vs1 ds1 f h l r=>
   cases rv
   obtain⟨its,rvs,pl,_⟩:=I.list (.inl h)
   have ht:=pl.isList
   cases r2 with
   |scr h' =>simp[ay] at p2
   |dK f h' l r=>simp[ay] at p2
   |dT f h' l r=>simp[ay] at p2
   |non=>cases ru;exact SeqAt.EqAt.list_none ht hu0
   |bl b=>cases ru;exact SeqAt.EqAt.list_bool b ht hu0
   |int i=>obtain⟨t,rfl⟩:=ru;exact SeqAt.EqAt.list_int i t ht hu0
   |str z=>obtain⟨t,rfl⟩:=ru;exact SeqAt.EqAt.list_str z t ht hu0
   |tup h' l' r' =>
    cases ru
    obtain⟨its2,rvs2,ht2,_⟩:=I.tuple (SqT.of h')
    exact SeqAt.EqAt.list_tuple ht ht2 hu0
   | @lst b vs2 ds2 f' h' l' r' =>
    cases ru
    by_cases hab:a=b
    ·subst hab
     have:=Bd (n+1) p1 p2 (Rep.lst f h l r) (Rep.lst f' h' l' r')
     rw[←this,vo _ _ p1]
     exact SeqAt.EqAt.same _
    ·obtain⟨its2,rvs2,pl2,_⟩:=I.list (.inl h')
     have ht2:=pl2.isList
     have hs1:its.toArray.size=ds1.length:=by rw[Gam,←rvs.length,l]
     have hs2:its2.toArray.size=ds2.length:=by rw[Gam,←rvs2.length,l']
     refine SeqAt.EqAt.of_refs hab ?_
     show SeqAt.RcAt A s (.ref a) (.ref b) (kO ds1 ds2)
     by_cases hl:ds1.length=ds2.length
     ·have key:=SeqAt.RcAt.lists (e:=λj=>eqD (ds1.getD j .non) (ds2.getD j .non)) ht ht2 (by rw[hs1,hs2,hl]) hu0 λj h1 h2=>by
       obtain⟨d1,v1,q1,q2,q3,q4⟩:=item_at l r rvs h1
       obtain⟨d2,v2,w1,w2,w3,w4⟩:=item_at l' r' rvs2 h2
       rw[q2,w2]
       exact ih (plain_all (by simpa[ay] using p1) q1) (plain_all (by simpa[ay] using p2) w1) q3 w3 q4 w4 (in1_units hu)
      rw[hs1,iZ hl] at key
      exact key
     ·rw[kY hl]
      exact SeqAt.RcAt.lists_lengths ht ht2 (by rw[hs1,hs2];simpa using hl) hu0
  |non=>
   cases rv
   cases r2 with
   |scr h' =>simp[ay] at p2
   |dK f h' l r=>simp[ay] at p2
   |dT f h' l r=>simp[ay] at p2
   |tup h' l' r' =>cases ru;obtain⟨its2,rvs2,ht2,_⟩:=I.tuple (SqT.of h');exact SeqAt.EqAt.none_tuple ht2 hu0
   |lst f' h' l' r' =>cases ru;obtain⟨its2,rvs2,pl2,_⟩:=I.list (.inl h');exact SeqAt.EqAt.none_list pl2.isList hu0
   |_=>exact flat .non (by first|exact .non|exact .bl _|exact .int _|exact .str _) rfl ru rfl rfl
  |bl b=>
   cases r2 with
   |scr h' =>simp[ay] at p2
   |dK f h' l r=>simp[ay] at p2
   |dT f h' l r=>simp[ay] at p2
   |tup h' l' r' =>cases rv;cases ru;obtain⟨its2,rvs2,ht2,_⟩:=I.tuple (SqT.of h');exact SeqAt.EqAt.bool_tuple b ht2 hu0
   |lst f' h' l' r' =>cases rv;cases ru;obtain⟨its2,rvs2,pl2,_⟩:=I.list (.inl h');exact SeqAt.EqAt.bool_list b pl2.isList hu0
   |_=>exact flat (.bl b) (by first|exact .non|exact .bl _|exact .int _|exact .str _) rv ru rfl rfl
  |int i=>
   cases r2 with
   |scr h' =>simp[ay] at p2
   |dK f h' l r=>simp[ay] at p2
   |dT f h' l r=>simp[ay] at p2
   |tup h' l' r' =>obtain⟨t,rfl⟩:=rv;cases ru;obtain⟨its2,rvs2,ht2,_⟩:=I.tuple (SqT.of h');exact SeqAt.EqAt.int_tuple i t ht2 hu0
   |lst f' h' l' r' =>obtain⟨t,rfl⟩:=rv;cases ru;obtain⟨its2,rvs2,pl2,_⟩:=I.list (.inl h');exact SeqAt.EqAt.int_list i t pl2.isList hu0
   |_=>exact flat (.int i) (by first|exact .non|exact .bl _|exact .int _|exact .str _) rv ru rfl rfl
  |str z=>
   cases r2 with
   |scr h' =>simp[ay] at p2
   |dK f h' l r=>simp[ay] at p2
   |dT f h' l r=>simp[ay] at p2
   |tup h' l' r' =>obtain⟨t,rfl⟩:=rv;cases ru;obtain⟨its2,rvs2,ht2,_⟩:=I.tuple (SqT.of h');exact SeqAt.EqAt.str_tuple z t ht2 hu0
   |lst f' h' l' r' =>obtain⟨t,rfl⟩:=rv;cases ru;obtain⟨its2,rvs2,pl2,_⟩:=I.list (.inl h');exact SeqAt.EqAt.str_list z t pl2.isList hu0
   |_=>exact flat (.str z) (by first|exact .non|exact .bl _|exact .int _|exact .str _) rv ru rfl rfl
theorem vq(I:Inv X pins σ H s){F G:Addr→Prop}{n:Nat}{dx dy:D}{x y:V}{v u:Value}{A:Around}(p1:ay n dx=true)(p2:ay n dy=true)(r1:Rep X.K F H dx x)(r2:Rep X.K G H dy y)(rv:RelV x v)(ru:RelV y u)(hu:A.units+n<cLine):
  SeqAt.RcAt A s v u (eqD dx dy)∧SeqAt.RcNeAt A s v u (!eqD dx dy):=by
 have hu0:A.units<cLine:=by omega
 have tupAt:∀{a:Addr} {vs:List V},H a=some (.tup vs)→∃its:List Value,s.heap.IsTuple a its.toArray:=λh=>let⟨its,_,ht,_⟩:=I.tuple (SqT.of h);⟨its,ht⟩
 have lstAt:∀{a:Addr} {vs:List V},Rd H a (.lst vs)→∃its:List Value,s.heap.IsList a its.toArray:=λh=>let⟨its,_,pl,_⟩:=I.list (.inl h);⟨its,pl.isList⟩
 cases r1 with
 |scr h=>cases n<;>simp[ay] at p1
 |dK f h l r=>cases n<;>simp[ay] at p1
 |dT f h l r=>cases n<;>simp[ay] at p1
 |non=>
  cases rv
  cases r2 with
  |scr h' =>cases n<;>simp[ay] at p2
  |dK f h' l r=>cases n<;>simp[ay] at p2
  |dT f h' l r=>cases n<;>simp[ay] at p2
  |non=>cases ru;exact⟨.none_none,.none_none⟩
  |bl b=>cases ru;exact⟨.none_bool b,.none_bool b⟩
  |int i=>obtain⟨t,rfl⟩:=ru;exact⟨.none_int i t,.none_int i t⟩
  |str z=>obtain⟨t,rfl⟩:=ru;exact⟨.none_str z t,.none_str z t⟩
  |tup h' l' r' =>cases ru;obtain⟨its,ht⟩:=tupAt h';exact⟨.none_tuple ht hu0,.none_tuple ht hu0⟩
  |lst f' h' l' r' =>cases ru;obtain⟨its,ht⟩:=lstAt h';exact⟨.none_list ht hu0,.none_list ht hu0⟩
 |bl b=>
  cases rv
  cases r2 with
  |scr h' =>cases n<;>simp[ay] at p2
  |dK f h' l r=>cases n<;>simp[ay] at p2
  |dT f h' l r=>cases n<;>simp[ay] at p2
  |non=>cases ru;exact⟨.bool_none b,.bool_none b⟩
  |bl b' =>cases ru;exact⟨.bool_bool b b',.bool_bool b b'⟩
  |int i=>obtain⟨t,rfl⟩:=ru;exact⟨.bool_int b i t,.bool_int b i t⟩
  |str z=>obtain⟨t,rfl⟩:=ru;exact⟨.bool_str b z t,.bool_str b z t⟩
  |tup h' l' r' =>cases ru;obtain⟨its,ht⟩:=tupAt h';exact⟨.bool_tuple b ht hu0,.bool_tuple b ht hu0⟩
  |lst f' h' l' r' =>cases ru;obtain⟨its,ht⟩:=lstAt h';exact⟨.bool_list b ht hu0,.bool_list b ht hu0⟩
 |int i=>
  obtain⟨t,rfl⟩:=rv
  cases r2 with
  |scr h' =>cases n<;>simp[ay] at p2
  |dK f h' l r=>cases n<;>simp[ay] at p2
  |dT f h' l r=>cases n<;>simp[ay] at p2
  |non=>cases ru;exact⟨.int_none i t,.int_none i t⟩
  |bl b' =>cases ru;exact⟨.int_bool i t b',.int_bool i t b'⟩
  |int j=>obtain⟨t',rfl⟩:=ru;exact⟨.int_int i t j t',.int_int i t j t'⟩
  |str z=>obtain⟨t',rfl⟩:=ru;exact⟨.int_str i t z t',.int_str i t z t'⟩
  |tup h' l' r' =>cases ru;obtain⟨its,ht⟩:=tupAt h';exact⟨.int_tuple i t ht hu0,.int_tuple i t ht hu0⟩
  |lst f' h' l' r' =>cases ru;obtain⟨its,ht⟩:=lstAt h';exact⟨.int_list i t ht hu0,.int_list i t ht hu0⟩
 |str z=>
  obtain⟨t,rfl⟩:=rv
  cases r2 with
  |scr h' =>cases n<;>simp[ay] at p2
  |dK f h' l r=>cases n<;>simp[ay] at p2
  |dT f h' l r=>cases n<;>simp[ay] at p2
  |non=>cases ru;exact⟨.str_none z t,.str_none z t⟩
  |bl b' =>cases ru;exact⟨.str_bool z t b',.str_bool z t b'⟩
  |int j=>obtain⟨t',rfl⟩:=ru;exact⟨.str_int z t j t',.str_int z t j t'⟩
  |str z' =>obtain⟨t',rfl⟩:=ru;exact⟨.str_str z t z' t',.str_str z t z' t'⟩
  |tup h' l' r' =>cases ru;obtain⟨its,ht⟩:=tupAt h';exact⟨.str_tuple z t ht hu0,.str_tuple z t ht hu0⟩
  |lst f' h' l' r' =>cases ru;obtain⟨its,ht⟩:=lstAt h';exact⟨.str_list z t ht hu0,.str_list z t ht hu0⟩
 | @tup a vs1 ds1 h l r=>
  cases n with
  |zero=>simp[ay] at p1
  |succ n=>
   cases rv
   obtain⟨its,rvs,ht,_⟩:=I.tuple (SqT.of h)
   cases r2 with
   |scr h' =>simp[ay] at p2
   |dK f h' l r=>simp[ay] at p2
   |dT f h' l r=>simp[ay] at p2
   |non=>cases ru;exact⟨.tuple_none ht hu0,.tuple_none ht hu0⟩
   |bl b=>cases ru;exact⟨.tuple_bool b ht hu0,.tuple_bool b ht hu0⟩
   |int i=>obtain⟨t,rfl⟩:=ru;exact⟨.tuple_int i t ht hu0,.tuple_int i t ht hu0⟩
   |str z=>obtain⟨t,rfl⟩:=ru;exact⟨.tuple_str z t ht hu0,.tuple_str z t ht hu0⟩
   |lst f' h' l' r' =>cases ru;obtain⟨its2,ht2⟩:=lstAt h';exact⟨.tuple_list ht ht2 hu0,.tuple_list ht ht2 hu0⟩
   | @tup b vs2 ds2 h' l' r' =>
    cases ru
    obtain⟨its2,rvs2,ht2,_⟩:=I.tuple (SqT.of h')
    have hs1:its.toArray.size=ds1.length:=by rw[Gam,←rvs.length,l]
    have hs2:its2.toArray.size=ds2.length:=by rw[Gam,←rvs2.length,l']
    have items:∀j (h1:j<its.toArray.size) (h2:j<its2.toArray.size),SeqAt.EqAt A.in1 s its.toArray[j] its2.toArray[j] ((λj=>eqD (ds1.getD j .non) (ds2.getD j .non)) j):=λj h1 h2=>by
     obtain⟨d1,v1,q1,q2,q3,q4⟩:=item_at l r rvs h1
     obtain⟨d2,v2,w1,w2,w3,w4⟩:=item_at l' r' rvs2 h2
     dsimp only
     rw[q2,w2]
     exact vp I n (plain_all (by simpa[ay] using p1) q1) (plain_all (by simpa[ay] using p2) w1) q3 w3 q4 w4 (in1_units hu)
    have k1:=SeqAt.RcAt.tuples ht ht2 hu0 items
    have k2:=SeqAt.RcNeAt.tuples ht ht2 hu0 items
    have e:((List.range (min its.toArray.size its2.toArray.size)).all (λj=>eqD (ds1.getD j .non) (ds2.getD j .non))&&its.toArray.size==its2.toArray.size)=kO ds1 ds2:=by
     rw[hs1,hs2]
     by_cases hl:ds1.length=ds2.length
     ·rw[←hl,GdI,iZ hl];simp
     ·rw[kY hl]
      have:(ds1.length==ds2.length)=false:=by simpa using hl
      rw[this,GcH]
    rw[e] at k1 k2
    exact⟨k1,k2⟩
 | @lst a vs1 ds1 f h l r=>
  cases n with
  |zero=>simp[ay] at p1
  |succ n=>
   cases rv
   obtain⟨its,rvs,pl,_⟩:=I.list (.inl h)
   have ht:=pl.isList
   cases r2 with
   |scr h' =>simp[ay] at p2
   |dK f h' l r=>simp[ay] at p2
   |dT f h' l r=>simp[ay] at p2
   |non=>cases ru;exact⟨.list_none ht hu0,.list_none ht hu0⟩
   |bl b=>cases ru;exact⟨.list_bool b ht hu0,.list_bool b ht hu0⟩
   |int i=>obtain⟨t,rfl⟩:=ru;exact⟨.list_int i t ht hu0,.list_int i t ht hu0⟩
   |str z=>obtain⟨t,rfl⟩:=ru;exact⟨.list_str z t ht hu0,.list_str z t ht hu0⟩
   |tup h' l' r' =>cases ru;obtain⟨its2,ht2⟩:=tupAt h';exact⟨.list_tuple ht ht2 hu0,.list_tuple ht ht2 hu0⟩
   | @lst b vs2 ds2 f' h' l' r' =>
    cases ru
    obtain⟨its2,rvs2,pl2,_⟩:=I.list (.inl h')
    have ht2:=pl2.isList
    have hs1:its.toArray.size=ds1.length:=by rw[Gam,←rvs.length,l]
    have hs2:its2.toArray.size=ds2.length:=by rw[Gam,←rvs2.length,l']
    have items:∀j (h1:j<its.toArray.size) (h2:j<its2.toArray.size),SeqAt.EqAt A.in1 s its.toArray[j] its2.toArray[j] ((λj=>eqD (ds1.getD j .non) (ds2.getD j .non)) j):=λj h1 h2=>by
     obtain⟨d1,v1,q1,q2,q3,q4⟩:=item_at l r rvs h1
     obtain⟨d2,v2,w1,w2,w3,w4⟩:=item_at l' r' rvs2 h2
     dsimp only
     rw[q2,w2]
     exact vp I n (plain_all (by simpa[ay] using p1) q1) (plain_all (by simpa[ay] using p2) w1) q3 w3 q4 w4 (in1_units hu)
    show SeqAt.RcAt A s (.ref a) (.ref b) (kO ds1 ds2)∧SeqAt.RcNeAt A s (.ref a) (.ref b) (!kO ds1 ds2)
    by_cases hl:ds1.length=ds2.length
    ·have k1:=SeqAt.RcAt.lists ht ht2 (by rw[hs1,hs2,hl]) hu0 items
     have k2:=SeqAt.RcNeAt.lists ht ht2 (by rw[hs1,hs2,hl]) hu0 items
     rw[hs1,iZ hl] at k1 k2
     exact⟨k1,k2⟩
    ·rw[kY hl]
     exact⟨SeqAt.RcAt.lists_lengths ht ht2 (by rw[hs1,hs2];simpa using hl) hu0,SeqAt.RcNeAt.lists_lengths ht ht2 (by rw[hs1,hs2];simpa using hl) hu0⟩
end
section
variable{X:Cx}
noncomputable def Gw(K:aD)(neg:Bool):R2:=λx y H Q=>∃F dx dy,Inn K F H dx x∧Inn K F H dy y∧dx.plain=true∧dy.plain=true∧Q (.bl (if neg then !eqD dx dy else eqD dx dy)) H
theorem cj(hu:X.A.units+20<cLine):OpR X (compareOp .Eq) (Gw X.K false):=by
 intro pins s σ H x y v u Q I rx ry h
 obtain⟨F,dx,dy,i1,i2,p1,p2,q⟩:=h
 exact(vq I (n:=20) p1 p2 i1.any i2.any rx ry hu).1 X.prog X.w _ _ ⟨.bl (eqD dx dy),H,I,rfl,q⟩
theorem DW(hu:X.A.units+20<cLine):OpR X (compareOp .NotEq) (Gw X.K true):=by
 intro pins s σ H x y v u Q I rx ry h
 obtain⟨F,dx,dy,i1,i2,p1,p2,q⟩:=h
 exact(vq I (n:=20) p1 p2 i1.any i2.any rx ry hu).2 X.prog X.w _ _ ⟨.bl (!eqD dx dy),H,I,rfl,q⟩
theorem ck:OpB X eqB (Gw X.K false):=by
 intro F H dx dy x y b Q ix iy e q
 unfold eqB at e
 split at e
 ·rename_i z
  rw[Gas] at z
  cases e
  exact⟨F,dx,dy,ix,iy,z.1,z.2,q⟩
 ·cases e
theorem DX:OpB X neB (Gw X.K true):=by
 intro F H dx dy x y b Q ix iy e q
 unfold neB at e
 split at e
 ·rename_i z
  rw[Gas] at z
  cases e
  exact⟨F,dx,dy,ix,iy,z.1,z.2,q⟩
 ·cases e
theorem cn{A:Around}{k:Nat}(hr:gZ k A):A.units+20<cLine:=GcS (Nat.add_le_add_left (by decide:20≤64) _) hr.units
theorem fP:bootBuiltins "len"=some (.builtin "len"):=by decide+kernel
theorem DY:bootBuiltins "min"=some (.builtin "min"):=by decide+kernel
theorem DZ:bootBuiltins "max"=some (.builtin "max"):=by decide+kernel
theorem Ji:bootBuiltins "any"=some (.builtin "any"):=by decide+kernel
theorem jO:bootBuiltins "sorted"=some (.builtin "sorted"):=by decide+kernel
theorem Jj:bootBuiltins "int"=some (.type "int"):=by decide+kernel
theorem Gx:bootBuiltins "bool"=some (.type "bool"):=by decide+kernel
theorem Jk:bootBuiltins "str"=some (.type "str"):=by decide+kernel
theorem gQ:bootBuiltins "tuple"=some (.type "tuple"):=by decide+kernel
theorem Gy:bootBuiltins "list"=some (.type "list"):=by decide+kernel
theorem uf:bootBuiltins "enumerate"=some (.type "enumerate"):=by decide+kernel
theorem Gz{K:aD}:t5 K "int":=by
 intro t ht
 simp only[GaA,Gcy,or_false] at ht
 rcases ht with rfl|rfl|rfl|rfl|rfl|rfl|rfl<;>rfl
theorem GA{K:aD}:t5 K "str":=by
 intro t ht
 simp only[GaA,Gcy,or_false] at ht
 rcases ht with rfl|rfl|rfl|rfl|rfl|rfl|rfl<;>rfl
theorem kit_tuple{K:aD}:t5 K "tuple":=by
 intro t ht
 simp only[GaA,Gcy,or_false] at ht
 rcases ht with rfl|rfl|rfl|rfl|rfl|rfl|rfl<;>rfl
theorem E5{K:aD}:t5 K "list":=by
 intro t ht
 simp only[GaA,Gcy,or_false] at ht
 rcases ht with rfl|rfl|rfl|rfl|rfl|rfl|rfl<;>rfl
theorem E9{K:aD}:t5 K "bool":=by
 intro t ht
 simp only[GaA,Gcy,or_false] at ht
 rcases ht with rfl|rfl|rfl|rfl|rfl|rfl|rfl<;>rfl
end
open PySem PySem.Spec PyProof.Rows L2
section
variable{X:Cx}{sts:List Stmt}{f:DS}
theorem a8(i:Nat)(x:Str)(k:(∀pos,PEd X (.Name x pos) (vE i))→kJ X sts f)(hN:X.N[i]? =some x:=by rfl)(hv:Vis X.env.scope x:=by first|exact Or.inl rfl|exact Or.inr (Or.inl rfl)|exact Or.inr (Or.inr rfl))(hd:(x==("__debug__":Str))=false:=by decide)
  (hcd:(x==("__classdict__":Str))=false:=by decide):kJ X sts f:=k λ_=>bM i hN hv hd hcd
theorem af(i:Nat)(x:Str)(k:Loc X.env.scope x→kJ X sts f)(hx:Loc X.env.scope x:=by first|exact Or.inl rfl|exact Or.inr rfl):kJ X sts f:=k hx
theorem dG(i:Nat)(x:Str)(k:Vis X.env.scope x→kJ X sts f)(hv:Vis X.env.scope x:=by first|exact Or.inl rfl|exact Or.inr (Or.inl rfl)|exact Or.inr (Or.inr rfl)):kJ X sts f:=k hv
theorem aC(x:Str)(k:Gl X x→kJ X sts f)(hg:Gl X x:=by rfl):kJ X sts f:=k hg
end
open PySem PySem.Spec PyProof.Rows L2
theorem ni{env:PySem.Env}:∀(names:List (Str×NameKind)),(∀y∈names,y.2= .free→∃c,env.cells.lookup y.1=some c)→∀(cs:List (Str×Addr)),(∀n c,cs.lookup n=some c→env.cells.lookup n=some c)→
  ∃cl:List (Str×Addr),(forIn names cs λx r=>(do
    if(x.2==NameKind.free)=true then pure (ForInStep.yield ((x.1,←cellOf env x.1)::r)) else pure (ForInStep.yield r):Sem (ForInStep (List (Str×Addr)))))=pure cl∧
   (∀n c,cl.lookup n=some c→env.cells.lookup n=some c)∧(∀y∈names,y.2= .free→∃c,cl.lookup y.1=some c)∧∀n c,cs.lookup n=some c→∃c',cl.lookup n=some c'
 |[],_,cs,h=>by
  refine⟨cs,rfl,h, ?_,λn c e=> ⟨c,e⟩⟩
  intro y hy;cases hy
 |(x,k)::names,hf,cs,h=>by
  by_cases hk:k= .free
  ·subst hk
   obtain⟨c,hc⟩:=hf (x,.free) Gap rfl
   have hcell:cellOf env x=pure c:=by unfold cellOf;rw[hc]<;>rfl
   obtain⟨cl,h1,h2,h3,h4⟩:=ni names (λy hy=>hf y (Gaj _ hy)) ((x,c)::cs) (λn c' e=>by
    by_cases z:n=x
    ·subst z;simp[Gbe] at e;subst e;exact hc
    ·have z' :(n==x)=false:=by simpa using z
     simp[Gbe,z'] at e;exact h n c' e)
   refine⟨cl, ?_,h2,λy hy hyf=> ?_,λn c' e=> ?_⟩
   ·rw[List.forIn_cons]
    simp only[hcell]
    exact h1
   ·rcases GaA.mp hy with rfl|hy
    ·exact h4 x c (by simp[Gbe])
    ·exact h3 y hy hyf
   ·by_cases z:n=x
    ·subst z;exact h4 n c (by simp[Gbe])
    ·have z' :(n==x)=false:=by simpa using z
     exact h4 n c' (by simp[Gbe,z',e])
  ·have hk' :(k==NameKind.free)=false:=by simpa using hk
   obtain⟨cl,h1,h2,h3,h4⟩:=ni names (λy hy=>hf y (Gaj _ hy)) cs h
   refine⟨cl, ?_,h2,λy hy hyf=> ?_,h4⟩
   ·rw[List.forIn_cons]
    simp only[hk']
    exact h1
   ·rcases GaA.mp hy with rfl|hy
    ·exact absurd hyf hk
    ·exact h3 y hy hyf
theorem jG{env:PySem.Env}{scope:Scope}(hf:∀y∈scope.names,y.2= .free→∃c,env.cells.lookup y.1=some c):
  ∃cl:List (Str×Addr),closureFor scope env=pure cl∧(∀n c,cl.lookup n=some c→env.cells.lookup n=some c)∧∀y∈scope.names,y.2= .free→∃c,cl.lookup y.1=some c:=by
 obtain⟨cl,h1,h2,h3,_⟩:=ni scope.names hf [] (λn c e=>by simp at e)
 refine⟨cl, ?_,h2,h3⟩
 unfold closureFor
 exact(congrArg (λm=>m>>=pure) h1).trans (by rfl)
theorem mem_of_lookup{x:Str}{k:NameKind}:∀{l:List (Str×NameKind)},l.lookup x=some k→(x,k)∈l
 |[],h=>by simp at h
 |(n,k')::r,h=>by
  rw[Gbe] at h
  cases hx:x==n with
  |true=>rw[hx] at h;cases h;rw[GcL] at hx;subst hx;exact Gap
  |false=>rw[hx] at h;exact Gaj _ (mem_of_lookup h)
theorem nj{env:PySem.Env}{x:Str}:∀{names:List (Str×NameKind)},(∀y∈names,y.2≠ .cell)→((names.map λ(n,k)=>if(k==NameKind.free&&env.scope.kind== .function&&env.kindOf n==some .cell) then(n,NameKind.cell) else(n,k)).lookup x=some .cell∨
   (names.map λ(n,k)=>if(k==NameKind.free&&env.scope.kind== .function&&env.kindOf n==some .cell) then(n,NameKind.cell) else(n,k)).lookup x=some .free)→(x,NameKind.free)∈names
 |[],_,h=>by simp at h
 |(n,k)::r,hc,h=>by
  have hk:k≠ .cell:=hc (n,k) Gap
  rw[Gar] at h
  dsimp only at h
  split at h
  ·rename_i q
   have q1:k= .free:=by
    rw[Gas,Gas] at q
    simpa using q.1.1
   subst q1
   rw[Gbe] at h
   cases hx:x==n with
   |true=>rw[GcL] at hx;subst hx;exact Gap
   |false=>rw[hx] at h;exact Gaj _ (nj (λy hy=>hc y (Gaj _ hy)) h)
  ·rw[Gbe] at h
   cases hx:x==n with
   |true=>
    rw[hx] at h
    rw[GcL] at hx;subst hx
    rcases h with h|h
    ·cases h;exact absurd rfl hk
    ·cases h;exact Gap
   |false=>rw[hx] at h;exact Gaj _ (nj (λy hy=>hc y (Gaj _ hy)) h)
theorem ij{env:PySem.Env}{x:Str}:∀{names:List (Str×NameKind)},names.lookup x=some .free→((names.map λ(n,k)=>if(k==NameKind.free&&env.scope.kind== .function&&env.kindOf n==some .cell) then(n,NameKind.cell) else(n,k)).lookup x=some .cell∨
   (names.map λ(n,k)=>if(k==NameKind.free&&env.scope.kind== .function&&env.kindOf n==some .cell) then(n,NameKind.cell) else(n,k)).lookup x=some .free)
 |[],h=>by simp at h
 |(n,k)::r,h=>by
  rw[Gbe] at h
  rw[Gar]
  dsimp only
  cases hx:x==n with
  |true=>
   rw[hx] at h;cases h
   split
   ·left;rw[Gbe,hx]
   ·right;rw[Gbe,hx]
  |false=>
   rw[hx] at h
   split
   ·rw[Gbe,hx];exact ij h
   ·rw[Gbe,hx];exact ij h
noncomputable def blk(X:Cx)(scope:Scope)(cl:List (Str×Addr))(C:Addr)(N:List Str)(s:Shared)(H:Hp)(ex:List Addr):Cx:=
 {X with N:=N,s₀:=s,H₀:=H,env:=compEnvC scope cl C X.env,outer:=X.stack,ex:=ex,fn:=λ_=>false,pn:=[],xe:=λ_ _=>False}
noncomputable def LY:Option NameKind→Bool
 |some .cell=>true
 |some .free=>true
 |_=>false
structure jH(X:Cx)(scope:Scope)(N:List Str)(n:Nat)(aR:List Nat):Prop where
 cell:(scope.names.all λy=>y.2 != .cell)=true
 kind:scope.kind= .function
 names:(scope.names.all λy=>y.2 != .local||scope.names.lookup y.1==some .local)=true
 free:(scope.names.all λy=>y.2 != .free||LY (X.env.kindOf y.1))=true
 cap:N.drop n=aR.map λi=>(X.N[i]?).getD ("":Str)
 le:n≤N.length
 lt:(aR.all λi=>decide (i<X.N.length))=true
 fr:((N.drop n).all λx=>scope.names.lookup x==some .free)=true
noncomputable def qh(X:Cx)(ifs:List Expr)(tt:TT):Prop:=∀(pins:List (Addr×Obj)) (s:Shared) (σ:St) (H:Hp) (Q:Bool→Hp→Prop),Inv X pins σ H s→tt σ H Q→
 wpAny (model X.prog X.w) X.A (forIn ifs true λc r=>if r=true then do let ok←isTrue c X.env (eval c X.env);pure (ForInStep.yield ok) else pure (ForInStep.yield r)) (TP X pins σ Q) X.xe s
theorem iJ{X:Cx}:qh X [] (tT X iQ):=λpins s σ H Q I ⟨_,_,_,_,_,e,k⟩=>by
 cases e
 exact wpAny_tests_nil ⟨H,I,k H bV⟩
theorem lZ{X:Cx}{c:Expr}{t:DT}(h:PTd X c t):qh X [c] (tT X t):=λpins s σ H Q I q=>wpAny_tests_one (h pins s σ H Q I q)
theorem qi{aR:List Nat}{n j:Nat}{α:Type}{f:Nat→Option α}{y:α}(h:(List.replicate n (none:Option α)++aR.map f)[j]? =some (some y)):∃i,aR[j -n]? =some i∧n≤j∧f i=some y:=by
 by_cases hj:j<n
 ·rw[GaT (by simpa using hj),GcA] at h
  rw[Gah hj] at h;cases h
 ·rw[GaM (by simp;omega),Gdq,Gan] at h
  cases q:aR[j -n]? with
  |none=>rw[q] at h;cases h
  |some i=>rw[q] at h;simp only[GcO,GcG] at h;exact⟨i,rfl,by omega,h⟩
theorem Ea{aR:List Nat}{n j i:Nat}{α:Type}{f:Nat→Option α}(h1:aR[j -n]? =some i)(h2:n≤j):(List.replicate n (none:Option α)++aR.map f)[j]? =some (f i):=by
 rw[GaM (by simp;omega),Gdq,Gan,h1];rfl
noncomputable def kZ(n:Nat)(aR:List Nat)(σ:St):St:=List.replicate n none++aR.map λi=>σ[i]?.getD none
noncomputable def lh(Bad:Addr→Prop)(env:Env)(σ:St)(p:Addr):Addr→Prop:=λa=>a=p∨¬Cln Bad env σ a
theorem getD_some{α:Type}{o:Option (Option α)}{y:α}(h:o.getD none=some y):o=some (some y):=by
 cases o with
 |none=>cases h
 |some z=>simp only[Option.getD_some] at h;rw[h]
theorem vt{aR:List Nat}{n j:Nat}{env:Env}{sl:Slot}(e:(compEnv n aR env)[j]? =some (some sl)):∃i,aR[j -n]? =some i∧n≤j∧dF (env[i]?.getD none)=some sl:=qi e
theorem Be{aR:List Nat}{n j:Nat}{env:Env}{σ:St}{a:Addr}(t:bw (compEnv n aR env)[j]?)(e:(kZ n aR σ)[j]? =some (some (.ref a))):∃i:Nat,bw env[i]? ∧σ[i]? =some (some (.ref a)):=by
 cases q:(compEnv n aR env)[j]? with
 |none=>rw[q] at t;exact t.elim
 |some z=>
  cases z with
  |none=>rw[q] at t;exact t.elim
  |some sl=>
   obtain⟨i,e1,e2,e3⟩:=vt q
   obtain⟨i',e1',_,e3'⟩:=qi e
   rw[e1] at e1';cases e1'
   refine⟨i, ?_,getD_some e3'⟩
   rw[q] at t
   cases r:env[i]? with
   |none=>rw[r] at e3;cases e3
   |some z=>cases z with
    |none=>rw[r] at e3;cases e3
    |some z=>
     rw[r] at e3
     cases z with
     |sh d=>cases e3;exact t.elim
     |own d=>trivial
     |lok d=>trivial
     |bor d=>trivial
theorem GB{aR:List Nat}{n j:Nat}{env:Env}:¬isO (compEnv n aR env)[j]? :=λt=>by
 match q:(compEnv n aR env)[j]?,t with
 |some (some (.own d)),_=>
  obtain⟨i,_,_,e3⟩:=vt q
  cases q:env[i]?.getD none with
  |none=>rw[q] at e3;cases e3
  |some z=>rw[q] at e3;cases z<;>cases e3
theorem aF.block{K:aD}{H₀:Hp}{Bad:Addr→Prop}{env:Env}{σ:St}{H:Hp}(E:aF K H₀ Bad env σ H)(n:Nat)(aR:List Nat){p:Addr}(hp:H p=none):
  aF K H (lh Bad env σ p) (compEnv n aR env) (kZ n aR σ) (upd H p (.lst [])):=by
 have sm:c9 H (upd H p (.lst [])):=bJ hp
 have slot:∀(j:Nat) (sl:Slot),(compEnv n aR env)[j]? =some (some sl)→∃i,aR[j -n]? =some i∧n≤j∧dF (env[i]?.getD none)=some sl:=λj sl e=>qi e
 have noO:∀(j:Nat) d,(compEnv n aR env)[j]? ≠some (some (.own d))∧(compEnv n aR env)[j]? ≠some (some (.lok d)):=λj d=>by
  constructor<;>
  ·intro e
   obtain⟨i,_,_,e3⟩:=slot j _ e
   cases q:env[i]?.getD none with
   |none=>rw[q] at e3;cases e3
   |some z=>rw[q] at e3;cases z<;>cases e3
 have topAd:∀(j:Nat) a,bw (compEnv n aR env)[j]? →(kZ n aR σ)[j]? =some (some (.ref a))→∃i:Nat,bw env[i]? ∧σ[i]? =some (some (.ref a)):=λj a t e=>Be t e
 have cln:∀b,Cln Bad env σ b→H b≠none→Cln (lh Bad env σ p) (compEnv n aR env) (kZ n aR σ) b:=λb h hb=>by
  refine⟨λz=> ?_,λj t e=> ?_⟩
  ·rcases z with z|z
   ·subst z;exact hb hp
   ·exact z h
  ·obtain⟨i,t',e'⟩:=topAd j b t e
   exact h.2 i t' e'
 refine⟨sm, ?_, ?_, ?_, ?_, ?_, ?_⟩
 ·simp[compEnv,kZ]
 ·intro a ha
  rcases ha with ha|ha
  ·subst ha;rw[aK];simp
  ·intro z
   refine ha ⟨λb=>E.bad a b (sm.free z),λi t e=>E.nG t e (sm.free z)⟩
 ·intro j d e
  obtain⟨i,e1,e2,e3⟩:=slot j _ e
  have q:env[i]? =some (some (.sh d)):=by
   cases r:env[i]? with
   |none=>rw[r] at e3;cases e3
   |some z=>cases z with
    |none=>rw[r] at e3;cases e3
    |some z=>rw[r] at e3;cases z<;>cases e3;rfl
  obtain⟨v,h1,h2⟩:=E.sh i d q
  refine⟨v, ?_,h2.gen (.of_same sm) cln⟩
  unfold kZ
  rw[Ea e1 e2,h1];rfl
 ·intro j d e
  rcases e with e|e
  ·exact absurd e (noO j d).1
  ·exact absurd e (noO j d).2
 ·intro j d e
  obtain⟨i,e1,e2,e3⟩:=slot j _ e
  have q:bw env[i]? ∧(env[i]? =some (some (.own d))∨env[i]? =some (some (.lok d))∨env[i]? =some (some (.bor d))):=by
   cases r:env[i]? with
   |none=>rw[r] at e3;cases e3
   |some z=>cases z with
    |none=>rw[r] at e3;cases e3
    |some z=>
     rw[r] at e3
     cases z with
     |sh d=>cases e3
     |own d=>cases e3;exact⟨trivial,.inl rfl⟩
     |lok d=>cases e3;exact⟨trivial,.inr (.inl rfl)⟩
     |bor d=>cases e3;exact⟨trivial,.inr (.inr rfl)⟩
  have fact:∃a,σ[i]? =some (some (.ref a))∧Wr H a∧d.top=true∧Inn K (Cln Bad env σ) H d (.ref a):=by
   rcases q.2 with q|q|q
   ·obtain⟨a,h1,_,_,h4,h5,h6⟩:=E.ow i d (.inl q);exact⟨a,h1,h4,h5,h6⟩
   ·obtain⟨a,h1,_,_,h4,h5,h6⟩:=E.ow i d (.inr q);exact⟨a,h1,h4,h5,h6⟩
   ·exact E.bo i d q
  obtain⟨a,h1,h4,h5,h6⟩:=fact
  refine⟨a, ?_,h4.same sm,h5,h6.gen (.of_same sm) cln λ_ _ _ o e=>sm _ o e⟩
  unfold kZ
  rw[Ea e1 e2,h1];rfl
 ·intro j k a t
  exfalso
  cases q:(compEnv n aR env)[j]? with
  |none=>rw[q] at t;exact t
  |some z=>cases z with
   |none=>rw[q] at t;exact t
   |some z=>cases z with
    |sh d=>rw[q] at t;exact t
    |own d=>exact(noO j d).1 q
    |lok d=>exact(noO j d).2 q
    |bor d=>rw[q] at t;exact t
theorem aF.grow{K:aD}{H₀:Hp}{Bad:Addr→Prop}{env:Env}{σ:St}{H:Hp}{p:Addr}{vs us:List V}(E:aF K H₀ Bad env σ H)(hb:Bad p)(h0:H₀ p=none)(hp:H p=some (.lst vs))(hl:∀i:Nat,rV env[i]? →σ[i]? ≠some (some (.ref p))):aF K H₀ Bad env σ (upd H p (.lst us)):=by
 have dP:iU (Cln Bad env σ) H (upd H p (.lst us)):=λb o e q=>by
  refine(ax ?_).trans e
  rintro rfl
  rcases q with q|q
  ·exact q.1 hb
  ·rw[hp] at e;cases e;exact q
 have wr:∀{a},Wr H a→Wr (upd H p (.lst us)) a:=λ{a} ⟨o,h1,h2⟩=>by
  by_cases z:a=p
  ·subst z;exact⟨_,aK,trivial⟩
  ·exact⟨o,(ax z).trans h1,h2⟩
 refine⟨λb o e=>(ax λz=>by subst z;rw[h0] at e;cases e).trans (E.same b o e),E.len,λa ha=> ?_,λi d e=> ?_,λi d e=> ?_,λi d e=> ?_,E.dj⟩
 ·by_cases z:a=p
  ·subst z;rw[aK];simp
  ·rw[ax z];exact E.bad a ha
 ·obtain⟨v,h1,h2⟩:=E.sh i d e
  exact⟨v,h1,h2.gen dP λ_ f _=>f⟩
 ·obtain⟨a,h1,h2,h3,h4,h5,h6⟩:=E.ow i d e
  refine⟨a,h1,h2,h3,wr h4,h5,h6.gen dP (λ_ f _=>f) λb eb _ o q=> ?_⟩
  cases eb
  exact(ax (λz:a=p=>h3 (by rw[z];exact hb))).trans q
 ·obtain⟨a,h1,h4,h5,h6⟩:=E.bo i d e
  refine⟨a,h1,wr h4,h5,h6.gen dP (λ_ f _=>f) λb eb _ o q=> ?_⟩
  cases eb
  exact(ax (λz:a=p=>hl i (by rw[e];trivial) (by rw[←z];exact h1))).trans q
open PySem PySem.Spec PyProof.Rows L2
section
variable{X:Cx}{pos:Pos}
theorem j0{env:PySem.Env}{scope:Scope}{x:Str}(h:scope.names.lookup x=some .local):(relabel scope env).names.lookup x=some .local:=lookup_relabel_local h
theorem b7{scope:Scope}{cl:List (Str×Addr)}{C:Addr}{N:List Str}{s:Shared}{H:Hp}{ex:List Addr}{x:Str}(h:scope.names.lookup x=some .local):Vis (blk X scope cl C N s H ex).env.scope x:= .inl (j0 h)
theorem cq{scope:Scope}{cl:List (Str×Addr)}{C:Addr}{N:List Str}{s:Shared}{H:Hp}{ex:List Addr}{x:Str}(h:scope.names.lookup x=some .local):Loc (blk X scope cl C N s H ex).env.scope x:= .inl (j0 h)
theorem lj{scope:Scope}{cl:List (Str×Addr)}{C:Addr}{N:List Str}{s:Shared}{H:Hp}{ex:List Addr}{x:Str}(h:scope.names.lookup x=some .free):Vis (blk X scope cl C N s H ex).env.scope x:= .inr (ij h)
theorem Cg{scope:Scope}{cl:List (Str×Addr)}{N:List Str}{n:Nat}{aR:List Nat}{pins:List (Addr×Obj)}{σ:St}{H:Hp}{s:Shared}{fp:List Addr}{h₁:Heap}{tk:Nat}{C:Addr}(S:jH X scope N n aR)(I:Inv X pins σ H s)
  (hcl:∀x c,cl.lookup x=some c→X.env.cells.lookup x=some c)(hfr:∀y∈scope.names,y.2= .free→∃c,cl.lookup y.1=some c)(hf:∀b∈fp,mY X pins H b)(hfo:∀b∈fp,b<s.heap.objs.size)
  (hC:s.heap.objs.size+1=C)(hns:h₁.Ns C λ_=>none)(old:∀b o,s.heap.get? b=some o→h₁.get? b=some o)(hacc:h₁.get? s.heap.objs.size=some {cls:= .type "list",data:= .seq ([]:List Value).toArray}):
  Inv (blk X scope cl C N s H fp) [] (kZ n aR σ) (upd H s.heap.objs.size (.lst [])) {s with heap:=h₁,toks:=tk}:=by
 have hpn:=I.fresh
 have hCn:H C=none:=I.hok.fresh (by omega)
 have hne:C≠s.heap.objs.size:=λz=>by rw[z] at hC;exact Nat.succ_ne_self _ hC
 have hcell:∀y∈scope.names,y.2≠ .cell:=λy hy z=>by
  have:=Gat.mp S.cell y hy
  rw[z] at this;simp at this
 have cells:∀x c,cl.lookup x=some c→∃v,s.heap.IsCell c v:=λx c e=>I.cell x c (hcl x c e)
 have cNe:∀x c,cl.lookup x=some c→c≠s.heap.objs.size:=λx c e z=>by
  obtain⟨v,q⟩:=cells x c e
  exact absurd q.lt (by rw[z];exact GbJ _)
 refine⟨⟨I.ok.mod,S.kind,I.ok.glob,I.ok.blt,by show s.heap.objs.size≤C;omega,λx y c e1 e2=>I.ok.inj x y c (hcl x c e1) (hcl y c e2),λx hx=> ?_,λx c e=>(by cases e),I.ok.hd,I.ok.frames,.inl rfl,λb hb=> ⟨?_,λx c e=>(hf b hb).2.2.2.2.1 x c (hcl x c e)⟩,
  I.bs,Gbt I.ok.bsz I.sz,λb o e hb=> ?_,λb hb hs=> ?_,I.stack,I.AR⟩,rfl,I.bare,Un.laid old (Gaq _) hpn,⟨_,hns,λj x v e1 e2 e3=> ?_⟩,λx c e=> ?_,(ax hne).trans hCn,λx c e=>(ax (cNe x c e)).trans (I.jZ x c (hcl x c e)),λp hp=> ?_, ?_, ?_⟩
 ·obtain⟨c,hc⟩:=hfr (x,.free) (nj hcell hx) rfl
  exact⟨c,hc⟩
 ·intro z
  have:=hfo b hb
  have z' :b=C:=z
  rw[z',←hC] at this
  exact GbJ _ (Nat.lt_of_succ_lt this)
 ·rcases(hf b hb).2.2.2.1 with z|z
  ·exact I.ok.FK b o e z
  ·exact absurd (GaR (Gaz e) (Gbt I.ok.bsz z)) (GbJ _)
 ·have hs' :b∈frs X.stack:=hs
  rcases GaA.mp (I.wR b hs') with z|z
  ·exact(hf b hb).2.1 z
  ·exact(hf b hb).2.2.1 z
 ·
  obtain⟨i,f1,f2,f3⟩:=qi e2
  have f3' :=getD_some f3
  have e1' :N[j]? =some x:=e1
  have hd:(N.drop n)[j -n]? =some x:=by rw[Gbh];rw[show n+(j -n)=j by omega];exact e1'
  have hxf:scope.names.lookup x=some .free:=by
   have:=Gat.mp S.fr x (GaL hd)
   simpa using this
  rw[S.cap,Gan,f1] at hd
  have hi:i<X.N.length:=Gaw (Gat.mp S.lt i (GaL f1))
  have hXN:X.N[i]? =some x:=by
   simp only[GcO,GcG] at hd
   rw[Gab hi] at hd⊢
   simpa using hd
  have hk:LY (X.env.kindOf x)=true:=by
   have:=Gat.mp S.free (x,.free) (mem_of_lookup hxf)
   simpa using this
  have hk' :X.env.kindOf x=some .cell∨X.env.kindOf x=some .free:=by
   cases q:X.env.kindOf x with
   |none=>rw[q] at hk;cases hk
   |some z=>rw[q] at hk;cases z<;>first|(cases hk;done)|exact .inl rfl|exact .inr rfl
  obtain⟨m,hm,look⟩:=I.loc
  have hv:Vis X.env.scope x:= .inr hk'
  obtain⟨u,ru,l⟩:=look i x v hXN f3' hv
  refine⟨u,ru,.inr ⟨?_, ?_⟩⟩
  ·exact ij hxf
  ·rcases l with⟨l,_⟩| ⟨_,c,hc,o,ho,hdt⟩
   ·rcases hk' with z|z<;>rw[l] at z<;>cases z
   ·obtain⟨c',hc'⟩:=hfr (x,.free) (mem_of_lookup hxf) rfl
    have:=hcl x c' hc'
    rw[hc] at this;cases this
    exact⟨c,hc',o,old _ _ ho,hdt⟩
 ·obtain⟨v,o,ho,hdt⟩:=cells x c e
  exact⟨v,o,old _ _ ho,hdt⟩
 ·cases hp
 ·exact I.hok.laid old (Gaq _) ⟨GbH _,[],0,.nil,hacc⟩
 ·show(kZ n aR σ).length=N.length
  have:=congrArg List.length S.cap
  rw[Gcf,Gae] at this
  have:=S.le
  simp[kZ]
  omega
theorem GC{scope:Scope}{cl:List (Str×Addr)}{N:List Str}{C:Addr}{pins pins' :List (Addr×Obj)}{σ σ' :St}{H H' :Hp}{s s' :Shared}{fp:List Addr}(I:Inv X pins σ H s)(hf:∀b∈fp,mY X pins H b)
  (I' :Inv (blk X scope cl C N s H fp) pins' σ' H' s'):Inv X pins σ H' s' :=
 I.HM I'.os I'.base I'.hok I'.bare λb hb=> ⟨(hf b hb).2.2.2.1,(hf b hb).2.1,(hf b hb).2.2.2.2.1,(hf b hb).2.2.2.2.2⟩
noncomputable def LZ(K:aD)(H H' :Hp)(F:Addr→Prop)(p:Addr)(rs:List D):Prop:=c9 H H' ∧H p=none∧∃vs,H' p=some (.lst vs)∧aX K (λb=>F b∧b≠p) H' rs vs
noncomputable def qG(gd:DG):Prop:=∀d e e',gd d e=some e' →(∀j:Nat,¬isO e[j]?)→∀j:Nat,¬isO e'[j]?
theorem Bf{e:Env}{i:Nat}{d:D}(h:∀j:Nat,¬isO e[j]?):∀j:Nat,¬isO (e.set i (some (.sh d)))[j]? :=λj z=>by
 by_cases q:i=j
 ·subst q
  by_cases hl:i<e.length
  ·rw[GaN hl] at z;exact z
  ·rw[Gbn (by simp;omega)] at z;exact z
 ·rw[Gac q] at z;exact h j z
theorem j3{i:Nat}:qG (gN i):=λd e e' h n=>by cases h;exact Bf n
theorem t6:∀(is:List Nat) (ds:List D) (e e' :Env),gNs is ds e=some e' →(∀j:Nat,¬isO e[j]?)→∀j:Nat,¬isO e'[j]?
 |[],[],e,e',h,n=>by cases h;exact n
 |i::is,d::ds,e,e',h,n=>t6 is ds _ e' h (Bf n)
 |[],_::_,_,_,h,_=>by cases h
 |_::_,[],_,_,h,_=>by cases h
theorem qH{is:List Nat}:qG (gT is):=λd e e' h n=>by
 unfold gT at h
 split at h
 ·exact t6 is _ e e' h n
 ·cases h
theorem oJ{scope:Scope}{cl:List (Str×Addr)}{N:List Str}{n:Nat}{aR:List Nat}{pins:List (Addr×Obj)}{σ:St}{H H₀:Hp}{s:Shared}{fp:List Addr}{it:Addr}{tn:Nat→Heap→Prop}{J:It}{tg iter elt:Expr}{ifs:List Expr}{E:Value→Shared→Prop}
  {gd:DG}{t:DT}{f:DE}{ds rs:List D}{Bad:Addr→Prop}{env:Env}{RR:Value→Addr→Result→Shared→Prop}(hc:X.calm=true)(S:jH X scope N n aR)(I:Inv X pins σ H s)
  (hcl:∀x c,cl.lookup x=some c→X.env.cells.lookup x=some c)(hfr:∀y∈scope.names,y.2= .free→∃c,cl.lookup y.1=some c)(hf:∀b∈fp,mY X pins H b)(T:Turn X.prog X.w X.K tg J fp it tn)(st:tn 0 s.heap)
  (hg:∀C s' H',PGd (blk X scope cl C N s' H' fp) tg gd)(ht:∀C s' H',qh (blk X scope cl C N s' H' fp) ifs (tT X t))(he:∀C s' H',PEd (blk X scope cl C N s' H' fp) elt f)
  (EE:aF X.K H₀ Bad env σ H)(io:Ac X.K (λb=>Cln Bad env σ b∧H b≠none) (λb=>¬Ow env σ b) J ds H)(hgo:qG gd)(hz:ds.length≤ah)(hl:bH gd t f ds (compEnv n aR env)=some rs)
  (hRR:∀p C s' H' m,Inv X pins σ H' s' →s'.heap.Ns C m→s.heap.objs.size≤C→mY X pins H' C→LZ X.K H H' (Cln Bad env σ) p rs→RR (.ref p) C (.ok .next) s'):
  wpAny (model X.prog X.w) X.A (newList []) (λacc s₃=>wpAny (model X.prog X.w) X.A (newFunctionEnv scope X.env.globals cl [] X.env.qual none .none (some X.env)) (λcenv s₄=>
   codeAny (model X.prog X.w) X.A (.compStart (.ListComp elt [⟨tg,iter,ifs,0⟩] scope pos) 0 (.ref it) acc {cenv with scope:=relabel scope X.env}) (RR acc cenv.locals) s₄) E s₃) E s:=by
 have hcell:∀y∈scope.names,y.2≠ .cell:=λy hy z=>by
  have:=Gat.mp S.cell y hy
  rw[z] at this;simp at this
 refine Gbf (wpAny_newFunctionEnv hcell (by intro y hy;simp at hy) (λh₁ hns₁ hsb₁=> ?_) S.kind)
 dsimp only at hns₁ hsb₁⊢
 generalize hH2:s.heap.push {cls:= .type "list",dict:=none,data:= .seq ([]:List Value).toArray}=H2 at hns₁ hsb₁⊢
 have hC:s.heap.objs.size+1=H2.objs.size:=by rw[←hH2,Gdz]
 have hDC:s.heap.objs.size≠H2.objs.size:=by rw[←hC];exact GaP (Nat.lt_succ_self _)
 have hCle:s.heap.objs.size≤H2.objs.size:=by rw[←hC];exact Gdi _
 have old:∀b o,s.heap.get? b=some o→h₁.get? b=some o:=λb o e=>hsb₁.extBut b o (by rw[←hC];exact GaP (Gdc (Gaz e))) (Gak _ (hH2▸Gak _ e))
 have hacc:h₁.get? s.heap.objs.size=some {cls:= .type "list",data:= .seq ([]:List Value).toArray}:=hsb₁.extBut _ _ hDC (Gak _ (hH2▸GaD _ rfl))
 have hfo:∀b∈fp,b<s.heap.objs.size:=λb hb=>by obtain⟨o,e,_⟩:=T.obj 0 _ st b hb;exact Gaz e
 have st₁:tn 0 h₁:=T.keep 0 _ _ st λb _ o e=>old b o e
 have hpn:=I.fresh
 generalize hC' :H2.objs.size=C at*
 have I1:Inv (blk X scope cl C N s H fp) [] (kZ n aR σ) (upd H s.heap.objs.size (.lst [])) {s with heap:=h₁,toks:=s.toks+([]:List (Str×Value)).length}:=Cg S I hcl hfr hf hfo hC (by
  have z:(λx:Str=>([]:List (Str×Value)).reverse.lookup x)=λ_=>none:=by funext x;rfl
  rw[z] at hns₁;exact hns₁) old hacc
 have E1:=EE.block n aR hpn
 generalize hp:s.heap.objs.size=p at*
 have loop:codeAny (model X.prog X.w) X.A (.compLoop (.ListComp elt [⟨tg,iter,ifs,0⟩] scope pos) 0 (.ref it) (.ref p) (compEnvC scope cl C X.env)) (RR (.ref p) C) {s with heap:=h₁,toks:=s.toks+([]:List (Str×Value)).length}:=by
  refine codeAny_loop rfl (λm s' =>∃i σi Hi envi vs done rest,m=ds.length -i∧i≤ds.length∧Inv (blk X scope cl C N s H fp) [] σi Hi s' ∧tn i s'.heap∧(∀b∈fp,Hi b=none)∧aF X.K H (lh Bad env σ p) envi σi Hi∧Hi p=some (.lst vs)∧
   aX X.K (λb=>Cln Bad env σ b∧b≠p) Hi done vs∧(∀j:Nat,¬isO envi[j]?)∧(∀(j:Nat) a,rV envi[j]? →σi[j]? =some (some (.ref a))→¬Cln Bad env σ a)∧done.length≤i∧bH gd t f (ds.drop i) envi=some rest∧done++rest=rs) ?_ ds.length ?_
  ·rintro m s' ⟨i,σi,Hi,envi,vs,done,rest,rfl,hi,Ii,sti,fri,Ei,hpi,ri,owi,lbi,dl,ci,eqi⟩
   have hfi:∀{H' :Hp},(∀b∈fp,H' b=none)→∀b∈fp,mY (blk X scope cl C N s H fp) [] H' b:=λhn b hb=>by
    refine⟨hn b hb,(Ii.ok.exf b hb).1,Ii.ok.FL b hb,.inl hb,(Ii.ok.exf b hb).2,λq hq=>(by cases hq)⟩
   have keepAll:∀b o,H b=some o→Hi b=some o:=Ei.same
   obtain⟨items,stop⟩:=io Hi λb o hb _=>keepAll b o hb
   show wpAny _ X.A ((compTurn (.ListComp elt [⟨tg,iter,ifs,0⟩] scope pos) 0 (.ref it) (.ref p) (compEnvC scope cl C X.env)).onRaise (λx=>do noteFrame x (compEnvC scope cl C X.env);theTreesLotGoes x)) _ _ s'
   refine wpAny_noted ?_
   rw[compTurn_list]
   refine Gaa (wpAny_standAt (Gaa ?_))
   by_cases hlt:i<ds.length
   ·obtain⟨go,yld⟩:=items i ds[i] (by simp[hlt])
    refine thn (T.item (blk X scope cl C N s H fp) rfl rfl rfl hc i [] s' σi Hi _ Ii (hfi fri) sti go) λr s4 ⟨u,hr,h4⟩=> ?_
    subst hr
    refine Gaa (thn h4 λ_ s5 ⟨x,H5,I5,r5,y5,st5,fr5⟩=> ?_)
    obtain⟨s2,rep⟩:=yld x H5 y5
    have I5' :=I5.pinned (hfi fr5) (T.obj _ _ st5)
    have hd:ds.drop i=ds[i]::ds.drop (i+1):=Gbx hlt
    rw[hd] at ci
    unfold bH at ci
    obtain⟨e2,hg2,ci⟩:=bind_some ci
    obtain⟨bb,ht2,ci⟩:=bind_some ci
    have clnIn:∀b,Cln Bad env σ b∧H b≠none→Cln (lh Bad env σ p) envi σi b:=λb ⟨q1,q2⟩=>by
     refine⟨λz=>z.elim (λz=>q2 (by rw[z];exact hpn)) λz=>z q1,λj tj ej=> ?_⟩
     rcases sT tj with o|o
     ·exact owi j o
     ·exact lbi j b o ej q1
    refine Gaa (thn (GbK (hg C s H _ s5 σi H5 x u (λσ6 H6=>aF X.K H (lh Bad env σ p) e2 σ6 H6∧Stp envi σi H5 e2 σ6 H6) I5' r5 ⟨H,lh Bad env σ p,envi,ds[i],e2,Ei.mono s2,hg2,rep.imp clnIn,λσ' H' E' p' => ⟨E',p'⟩⟩) (λ_ _ q=>q) λ_ _ q=>q.elim) λ_ s6 ⟨σ6,H6,I6,E6,p6⟩=> ?_)
    have noO6:=hgo _ _ _ hg2 owi
    have s56:c9 H5 H6:=λb o e=>p6.keep b o e λ⟨j,z,_⟩=>owi j z
    have lb6:∀(j:Nat) a,rV e2[j]? →σ6[j]? =some (some (.ref a))→¬Cln Bad env σ a:=λj a z ej=>by
     obtain⟨q1,q2⟩:=p6.lk j z
     rw[q1] at z;rw[q2] at ej
     exact lbi j a z ej
    have again:∀{H7:Hp} {s7:Shared} {vs' :List V} {done' rest' :List D},Inv (blk X scope cl C N s H fp) ([]++qq fp s5.heap) σ6 H7 s7→aF X.K H (lh Bad env σ p) e2 σ6 H7→H7 p=some (.lst vs')→aX X.K (λb=>Cln Bad env σ b∧b≠p) H7 done' vs' →
      done'.length≤i+1→bH gd t f (ds.drop (i+1)) e2=some rest' →done' ++rest' =rs→
      ∃m,m<ds.length -i∧∃i σi Hi envi vs done rest,m=ds.length -i∧i≤ds.length∧Inv (blk X scope cl C N s H fp) [] σi Hi s7∧tn i s7.heap∧(∀b∈fp,Hi b=none)∧aF X.K H (lh Bad env σ p) envi σi Hi∧Hi p=some (.lst vs)∧
       aX X.K (λb=>Cln Bad env σ b∧b≠p) Hi done vs∧(∀j:Nat,¬isO envi[j]?)∧(∀(j:Nat) a,rV envi[j]? →σi[j]? =some (some (.ref a))→¬Cln Bad env σ a)∧done.length≤i∧bH gd t f (ds.drop i) envi=some rest∧done++rest=rs:=by
     intro H7 s7 vs' done' rest' I7 E7 hp7 r7 dl7 c7 q7
     refine⟨ds.length -(i+1),by omega,i+1,σ6,H7,e2,vs',done',rest',rfl,hlt,I7.nB,T.keep _ _ _ st5 λb hb o e=>(I7.pin (b,o) (Gba _ (Gba _ (k4 hb e)))).1,λb hb=> ?_,E7,hp7,r7,noO6,lb6,dl7,c7,q7⟩
     obtain⟨o,e,d⟩:=T.obj _ _ st5 b hb
     exact(I7.pin (b,o) (Gba _ (Gba _ (k4 hb e)))).2.1
    refine Gaa (thn (GbK (ht C s H _ s6 σ6 H6 (λb' H7=>b' =bb∧c9 H6 H7) I6 ⟨H,lh Bad env σ p,e2,bb,E6,ht2,λH' s' => ⟨rfl,s'⟩⟩) (λ_ _ q=>q) λ_ _ q=>q.elim) λok s7 ⟨H7,I7,hok,s67⟩=> ?_)
    subst hok
    have sAll:c9 Hi H7:=s2.trans (s56.trans s67)
    have E7:=E6.mono s67
    have hp7:H7 p=some (.lst vs):=sAll _ _ hpi
    have r7:=ri.gen (F' :=λb=>Cln Bad env σ b∧b≠p) (.of_same sAll) λ_ q _=>q
    cases ok with
    |false=>
     rw[Gag Gau] at ci
     exact Gaf ⟨rfl,again I7 E7 hp7 r7 (Nat.le_succ_of_le dl) ci eqi⟩
    |true=>
     rw[Gah rfl] at ci
     obtain⟨r,hr,ci⟩:=bind_some ci
     split at ci
     ·rename_i hfree
      obtain⟨rest',c8,rfl⟩:=Gal.mp ci
      refine Gaa (Gaa (thn (GbK (he C s H _ s7 σ6 H7 (λv H8=>c9 H7 H8∧jF X.K H (lh Bad env σ p) e2 σ6 H7 H8 r v) I7 ⟨H,lh Bad env σ p,e2,r,E7,hr,λv H' s' R=> ⟨s',R⟩⟩) (λ_ _ q=>q) λ_ _ q=>q.elim) λy s8 ⟨v,H8,I8,ry,s78,R⟩=> ?_))
      have E8:=E7.mono s78
      have hp8:H8 p=some (.lst vs):=s78 _ _ hp7
      have r8:=(r7.gen (F' :=λb=>Cln Bad env σ b∧b≠p) (.of_same s78) λ_ q _=>q)
      have vr:Rep X.K (λb=>Cln Bad env σ b∧b≠p) H8 r.d v:=(R.rep E7 hfree).imp λb q=> ⟨Classical.byContradiction λz=>q.1 (.inr z),λz=>q.1 (.inl z)⟩
      have hlen:vs.length<sizeLine:=by
       rw[←size_eq,←ri.1];omega
      refine Gaa (thn (GbK (oC (X:=blk X scope cl C N s H fp) _ s8 σ6 H8 (.ref p) [v] (.ref p) [y] (λ_ H9=>H9=upd H8 p (.lst (vs++[v]))) I8 rfl (.cons ry .nil) ⟨p,vs,v,rfl,rfl,hp8,hlen,rfl⟩) (λ_ _ q=>q) λ_ _ q=>q.elim) λ_ s9 ⟨_,H9,I9,_,h9⟩=> ?_)
      subst h9
      have lbp:∀j:Nat,rV e2[j]? →σ6[j]? ≠some (some (.ref p)):=λj z ej=>lb6 j p z ej (EE.u7 hpn)
      have dP:iU (λb=>Cln Bad env σ b∧b≠p) H8 (upd H8 p (.lst (vs++[v]))):=λb o e q=>by
       refine(ax ?_).trans e
       rintro rfl
       rcases q with q|q
       ·exact q.2 rfl
       ·rw[hp8] at e;cases e;exact q
      refine Gaf (Gaf ⟨rfl,again I9 (E8.grow (.inl rfl) hpn hp8 lbp) aK ((r8.append (aX.cons vr .nil)).gen dP λ_ q _=>q) (by simp;omega) c8 ?_⟩)
      rw[←eqi,Gax];rfl
     ·cases ci
   ·have hi' :i=ds.length:=by omega
    subst hi'
    rw[GbM] at ci
    cases ci
    rw[Gbb] at eqi
    subst eqi
    refine thn (T.done (blk X scope cl C N s H fp) rfl rfl rfl hc ds.length [] s' σi Hi _ Ii (hfi fri) sti stop) λr s4 ⟨hr,I4⟩=> ?_
    subst hr
    obtain⟨m,hm,_⟩:=I4.loc
    have IX:=GC I hf I4
    exact Gaf (hRR p C s4 Hi m IX hm hCle ⟨I4.free,(I.BS (by rw[hp];exact hCle) (I.hok.fresh (by rw[hp];exact hCle))).2⟩ ⟨keepAll,hpn,vs,hpi,ri⟩)
  ·exact⟨0,_,_,_,[],[],rs,by simp,GbH _,I1,st₁,λb hb=>(ax (by rintro rfl;exact GbJ _ (hfo _ hb))).trans (hf b hb).1,E1,aK,aX.nil,λj=>GB,λj a z e=>by
    obtain⟨i,t1,t2⟩:=Be z.top e
    exactλq=>q.2 i t1 t2,Gaq _,by simpa using hl,rfl⟩
 exact codeAny_compStart_list loop (T.self X.A 0 _ _ _ st₁ loop)
end
open PySem PySem.Spec PyProof.Rows L2
section
variable{X:Cx}{pos:Pos}
theorem nK{n:Nat}{aR:List Nat}{l:Option Nat}{env:Env}:compEnv n aR (bD l env)=compEnv n aR env:=by
 cases l with
 |none=>rfl
 |some j=>
  unfold bD
  dsimp only
  split
  ·rename_i d q
   unfold compEnv
   congr 1
   apply GaO
   intro i _
   by_cases z:j=i
   ·subst z
    rw[GaN (Gad.mp q).1,q];rfl
   ·rw[Gac z]
  ·rfl
theorem jH.cells{scope:Scope}{N:List Str}{n:Nat}{aR:List Nat}{pins:List (Addr×Obj)}{σ:St}{H:Hp}{s:Shared}(S:jH X scope N n aR)(I:Inv X pins σ H s):∀y∈scope.names,y.2= .free→∃c,X.env.cells.lookup y.1=some c:=λy hy hf=>by
 have hk:=Gat.mp S.free y hy
 rw[hf] at hk
 simp only[bne_self_eq_false,Bool.false_or] at hk
 refine I.ok.has y.1 ?_
 cases q:X.env.kindOf y.1 with
 |none=>rw[q] at hk;cases hk
 |some z=>rw[q] at hk;cases z<;>first|(cases hk;done)|exact .inl rfl|exact .inr rfl
theorem jH.Ad{scope:Scope}{N:List Str}{n:Nat}{aR:List Nat}(S:jH X scope N n aR):∀y∈scope.names,y.2= .local→scope.names.lookup y.1=some .local:=λy hy hl=>by
 have:=Gat.mp S.names y hy
 rw[hl] at this
 simpa using this
structure Blk(X:Cx)(scope:Scope)(N:List Str)(tg elt:Expr)(ifs:List Expr)(gd:DG)(t:DT)(f:DE):Prop where
 g:∀cl C s H ex,PGd (blk X scope cl C N s H ex) tg gd
 t:∀cl C s H ex,qh (blk X scope cl C N s H ex) ifs (tT X t)
 e:∀cl C s H ex,PEd (blk X scope cl C N s H ex) elt f
theorem _root_.L2.Inv.Eb{pins:List (Addr×Obj)}{σ:St}{H:Hp}{s:Shared}{C:Addr}{h' :Heap}(I:Inv X pins σ H s)(F:mY X pins H C)(hs:Heap.SameBut C s.heap h'):Inv X pins σ H {s with heap:=h' }:=
 I.turned (t' :=s.toks) (λb o hb e=>(hs.2 b hb).trans e) F.1 F.2.1 F.2.2.2.1 F.2.2.2.2.1 F.2.2.2.2.2
theorem m6{tg iter elt:Expr}{ifs:List Expr}{scope:Scope}{N:List Str}{n:Nat}{aR:List Nat}{l:Option Nat}{src:DI}{gd:DG}{t:DT}{f:DE}(hc:X.calm=true)(S:jH X scope N n aR)(hi:PId X tg iter src)(hgo:qG gd)(B:Blk X scope N tg elt ifs gd t f)
  (hs:∀x,foldedSetIterable iter X.env x=pure x:=by intro _;rfl):PEd X (.ListComp elt [⟨tg,iter,ifs,0⟩] scope pos) (kT l n aR src gd t f):=by
 intro pins s σ H Q I hw
 obtain⟨H₀,Bad,env,r,E,e,k⟩:=hw
 unfold kT at e
 obtain⟨ds,hds,e⟩:=bind_some e
 split at e
 ·rename_i hz
  obtain⟨rs,hrs,rfl⟩:=Gal.mp e
  obtain⟨EL,lo,tops⟩:=E.lock l
  obtain⟨cl,h1,h2,h3⟩:=jG (S.cells I)
  rw[eval_ListComp]
  refine GcU (use:=none) rfl hs h1 S.kind S.Ad ?_
  refine thn (hi pins s σ H (λJ H' =>c9 H H' ∧Ac X.K (λb=>Cln Bad (bD l env) σ b∧H' b≠none) (λb=>¬Ow (bD l env) σ b) J ds H') I ⟨H₀,Bad,bD l env,ds,EL,hds,λJ H' s' io=> ⟨s',io⟩⟩) λv s1 q1=>thn q1 λitv s2 q2=> ?_
  obtain⟨it,fp,tn,J,H2,e,I2,T,st2,f2,sH,io⟩:=q2
  subst e
  refine oJ (RR:=λacc C=>compPost (model X.prog X.w) X.A X.xe none (EP X pins σ Q) acc C) hc S I2 h2 h3 f2 T st2 (λC s' H' =>B.g cl C s' H' fp) (λC s' H' =>B.t cl C s' H' fp) (λC s' H' =>B.e cl C s' H' fp) (EL.mono sH) io hgo hz (by rw[nK];exact hrs) ?_
  intro p C s' H' m IX hm hC hF G
  refine⟨m,hm,λh' hs' => ⟨.ref p,H',IX.Eb hF hs',rfl, ?_⟩⟩
  obtain⟨g1,g2,vs,g3,g4⟩:=G
  exact k _ H' (sH.trans g1) ⟨p,rfl,sH.free g2,⟨_,g3,trivial⟩,rfl,.lst (.inl g3) (g4.gen (.of_same bV) λb q _=> ⟨⟨q.1.1,λi ti ei=>q.1.2 i ((tops i).mpr ti) ei⟩,q.2⟩)⟩
 ·cases e
theorem GF{i:Nat}{x:Str}{pos' lpos:Pos}{tg iter elt:Expr}{ifs:List Expr}{scope:Scope}{N:List Str}{n:Nat}{aR:List Nat}{l:Option Nat}{src:DI}{gd:DG}{t:DT}{f:DE}(hN:X.N.Nodup)(hi' :X.N[i]? =some x)(hx:Loc X.env.scope x)(hc:X.calm=true)(S:jH X scope N n aR)
  (hi:PId X tg iter src)(hgo:qG gd)(B:Blk X scope N tg elt ifs gd t f)
  (hsw:swapsWith (.ListComp elt [⟨tg,iter,ifs,0⟩] scope lpos) (some (.Name x pos')) pos.line X.env=pure true:=by rfl)(hs:∀x,foldedSetIterable iter X.env x=pure x:=by intro _;rfl)
  (hf:X.fn x=true∨X.env.scope.names.lookup x=some .local:=by first|exact .inl rfl|exact .inr rfl|assumption):PSd X (.Assign [.Name x pos'] (.ListComp elt [⟨tg,iter,ifs,0⟩] scope lpos) pos) (aQ i (kT l n aR src gd t f)):=by
 intro pins s σ H D I hw
 have hl:=I.len
 obtain⟨H₀,Bad,env,o,E,e,k⟩:=hw
 obtain⟨r,hr,e⟩:=bind_some e
 obtain⟨e',hst,rfl⟩:=Gal.mp e
 have hie:i<env.length:=Ab E hl hi'
 unfold kT at hr
 obtain⟨ds,hds,hr⟩:=bind_some hr
 split at hr
 ·rename_i hz
  obtain⟨rs,hrs,rfl⟩:=Gal.mp hr
  cases hst
  obtain⟨EL,lo,tops⟩:=E.lock l
  obtain⟨cl,h1,h2,h3⟩:=jG (S.cells I)
  rw[exec_Assign_Name_used _ _ _ _ hsw]
  refine Gaa (wpAny_standAt (Gaa ?_))
  show wpAny _ X.A (do let _←comprehension (.ListComp elt [⟨tg,iter,ifs,0⟩] scope lpos) scope X.env _ (newList []) false (eval iter X.env) (some (assign (.Name x pos') X.env))) _ _ s
  refine Gaa (GbK (GcU (use:=some (assign (.Name x pos') X.env)) (Q:=λ_ s' =>SP X pins D .next s') rfl hs h1 S.kind S.Ad ?_) (λ_ s' hq=>Gaf (Gaf hq)) λ_ _ e=>e)
  refine thn (hi pins s σ H (λJ H' =>c9 H H' ∧Ac X.K (λb=>Cln Bad (bD l env) σ b∧H' b≠none) (λb=>¬Ow (bD l env) σ b) J ds H') I ⟨H₀,Bad,bD l env,ds,EL,hds,λJ H' s' io=> ⟨s',io⟩⟩) λv s1 q1=>thn q1 λitv s2 q2=> ?_
  obtain⟨it,fp,tn,J,H2,e,I2,T,st2,f2,sH,io⟩:=q2
  subst e
  refine oJ (RR:=λacc C=>compPost (model X.prog X.w) X.A X.xe (some (assign (.Name x pos') X.env)) (λ_ s' =>SP X pins D .next s') acc C) hc S I2 h2 h3 f2 T st2 (λC s' H' =>B.g cl C s' H' fp) (λC s' H' =>B.t cl C s' H' fp) (λC s' H' =>B.e cl C s' H' fp) (EL.mono sH) io hgo hz (by rw[nK];exact hrs) ?_
  intro p C s' H' m IX hm hC hF G
  obtain⟨g1,g2,vs,g3,g4⟩:=G
  show wpAny _ X.A (assign (.Name x pos') X.env (.ref p)) _ _ _
  refine wpAny_assign_Name (sF IX hN hi' hx (v:= .ref p) rfl (λs'' I'' ⟨a,hsb,ha⟩=> ?_) hf)
  have hCa:C≠a:=by
   rcases ha with ha|ha
   ·rw[ha];exact hF.2.1
   ·exactλz=>hF.2.2.2.2.1 x a ha z.symm
  refine⟨m,hm.sameBut hsb hCa,λh' hs' => ⟨_,H',I''.Eb hF hs', ?_⟩⟩
  exact k _ H' (E.qE (sH.trans g1) hie (sH.free g2) ⟨_,g3,trivial⟩ rfl (.lst (.inl g3) (g4.gen (.of_same bV) λb q _=> ⟨⟨q.1.1,λi ti ei=>q.1.2 i ((tops i).mpr ti) ei⟩,q.2⟩))) (.qE (sH.trans g1) hie E.len (sH.free g2))
 ·cases hr
end
open PySem PySem.Spec PyProof.Rows L2
section
variable{X:Cx}{scope:Scope}{cl:List (Str×Addr)}{C:Addr}{N:List Str}{s:Shared}{H:Hp}{ex:List Addr}{x:Str}
theorem gr(h:N.Nodup):(blk X scope cl C N s H ex).N.Nodup:=h
theorem gw(h:scope.names.lookup x=some .local):(blk X scope cl C N s H ex).fn x=true∨(blk X scope cl C N s H ex).env.scope.names.lookup x=some .local:= .inr (j0 h)
end
open PySem PySem.Spec PyProof.Rows L2
section
variable{X:Cx}{e a b c:Expr}{f g h:DE}{pos:Pos}
noncomputable def tO(X:Cx)(o:DO):TO:=λσ H Q=>∃H₀ Bad env i,aF X.K H₀ Bad env σ H∧o env=some i∧∀H',c9 H H' →Q i H'
theorem _root_.L2.PO.aU{e:Option Expr}{t t' :TO}(h:PO X e t')(i:∀σ H Q,t σ H Q→t' σ H Q):PO X e t:=λpins s σ H Q I q=>h pins s σ H Q I (i σ H Q q)
theorem t7:PO X none (tO X noO):=G4.aU λσ H Q ⟨_,_,_,_,_,e,k⟩=>by cases e;exact k H bV
theorem t8(he:PEd X e f):PO X (some e) (tO X (Dx f)):=by
 refine(G5 he).aU ?_
 rintro σ H Q ⟨H₀,Bad,env,o,E,ho,k⟩
 obtain⟨r,hr,ho⟩:=bind_some ho
 split at ho
 ·rename_i i hd
  cases ho
  refine⟨H₀,Bad,env,r,E,hr,λv H1 s1 R=> ?_⟩
  have q:=R.inn
  rw[hd] at q
  cases q
  exact⟨i,rfl,k H1 s1⟩
 ·cases ho
theorem ug(n d:Nat)(o:Option Int):HT.sIx n d o=sIx n d o:=by
 cases o<;>rfl
theorem qI{K:aD}{F:Addr→Prop}{H:Hp}{ds:List D}{vs:List V}{lo hi:Option Int}(r:aX K F H ds vs):aX K F H (cutD ds lo hi) (uU vs lo hi):=by
 unfold cutD uU
 rw[ug,ug,←r.1]
 exact(r.drop _).take _
theorem vA{K:aD}{F:Addr→Prop}{H:Hp}:∀{ns:List Int},aX K F H (ns.map .int) (ns.map V.int)
 |[]=> .nil
 |n::ns=> .cons (.int n) vA
theorem vB{lo hi:Option Expr}{l u:DO}{p2:Pos}(he:PEd X e f)(hl:PO X lo (tO X l))(hu:PO X hi (tO X u)):PEd X (.Subscript e (.Slice lo hi none p2) pos) (slE f l u):=by
 refine(Dp (G8.or IT) he hl hu).aU ?_
 rintro σ H Q ⟨H₀,Bad,env,rv,E,hf,k⟩
 obtain⟨r,hr,hf⟩:=bind_some hf
 obtain⟨lv,hlv,hf⟩:=bind_some hf
 obtain⟨uv,huv,hf⟩:=bind_some hf
 refine⟨H₀,Bad,env,r,E,hr,λv H1 s1 R=> ⟨H₀,Bad,env,lv,E.mono s1,hlv,λH2 s2=> ⟨H₀,Bad,env,uv,(E.mono s1).mono s2,huv,λH3 s3=> ?_⟩⟩⟩
 have i3:=(R.inn.same s2).same s3
 have s13:=s1.trans (s2.trans s3)
 unfold slD at hf
 split at hf
 ·rename_i xs hd
  cases hf
  rw[hd] at i3
  cases i3 with
  |lst hh rr=>exact .inl ⟨_,_,rfl,.inl hh,λp n=>k _ _ (s13.trans (bJ n)) ⟨p,rfl,s13.free n,qA,rfl,iW n (qI rr)⟩⟩
 ·rename_i xs hd
  split at hf
  ·cases hf
  ·rename_i hw
   cases hf
   rw[hd] at i3
   cases i3 with
   |tup hh rr=>exact .inr ⟨_,_,rfl,SqT.of hh,by rw[ug,ug,←rr.1];exact hw,λp n=>k _ _ (s13.trans (bJ n)) (fL n (qI rr))⟩
 ·rename_i ns hd
  cases hf
  rw[hd] at i3
  cases i3 with
  |scr hh=>exact .inl ⟨_,_,rfl,hh.sq,λp n=>k _ _ (s13.trans (bJ n)) ⟨p,rfl,s13.free n,qA,rfl,iW n (qI vA)⟩⟩
 ·cases hf
theorem vC{pins:List (Addr×Obj)}{σ:St}{H:Hp}{s:Shared}{p:Addr}{ys:List V}{Q:Value→Shared→Prop}{E:Value→Shared→Prop}(hc:X.calm=true)(I:Inv X pins σ H s)(h:SqL X.K H p ys∨SqT X.K H p ys)
  (k:∀(It:Addr) fp wr P St (s₂:Shared),Walks X.prog X.w X.A.in1 It fp wr ys.length P St→St 0 s₂.heap→(∀b∈fp,b<s₂.heap.objs.size)→(∀(i:Nat) v,P i v→∃y,ys[i]? =some y∧RelV y v)→
   (∀h' tk,(∀b o,b∉wr→s₂.heap.get? b=some o→h'.get? b=some o)→Inv X pins σ H {s₂ with heap:=h',toks:=tk})→Q (.ref It) s₂):wpAny (model X.prog X.w) X.A.in1 (pyIter (.ref p)) Q E s:=by
 have hh:X.A.in1.handled=none:=I.ok.hd hc
 have kept:∀{oi:Obj} {h' :Heap} {tk:Nat},(∀b o,b∉[s.heap.objs.size]→(s.heap.push oi).get? b=some o→h'.get? b=some o)→Inv X pins σ H {s with heap:=h',toks:=tk}:=λ{oi h' tk} hk=>
  I.kept λb o e=>hk b o (by simp only[Gcj];exact GaP (Gaz e)) (Gak _ e)
 have get:∀{its:List Value},Vals ys its→∀(i:Nat) v,its.toArray[i]? =some v→∃y,ys[i]? =some y∧RelV y v:=λ{its} r i v e=>by
  have e' :its[i]? =some v:=by simpa using e
  obtain⟨hi,_⟩:=Gad.mp e'
  have hi' :i<ys.length:=by rw[r.length];exact hi
  obtain⟨u,hu,ru⟩:=r.get (x:=ys[i]) (i:=i) (by simp[hi'])
  rw[e'] at hu;cases hu
  exact⟨ys[i],by simp[hi'],ru⟩
 have lts:∀{oi:Obj},p<s.heap.objs.size→∀b∈[s.heap.objs.size,p],b<(s.heap.push oi).objs.size:=λ{oi} hp b hb=>by
  rw[Gdz]
  rcases GaA.mp hb with rfl|hb
  ·exact Nat.lt_succ_self _
  ·rcases GaA.mp hb with rfl|hb
   ·exact Gdc hp
   ·cases hb
 rcases h with hq|hq
 ·obtain⟨its,rv,pl,hz⟩:=I.list hq
  have hlt:p<s.heap.objs.size:=by obtain⟨_,e,_⟩:=pl.isList;exact Gaz e
  have W:=Walks.list (prog:=X.prog) (w:=X.w) hh s.heap.objs.size p (GaP hlt) its.toArray
  have hsz:its.toArray.size=ys.length:=by rw[Gam,rv.length]
  rw[hsz] at W
  exact wpAny_pyIter_list pl.isList (k _ _ _ _ _ _ W ⟨⟨_,GaD _ rfl,rfl,rfl⟩,pl.isList.push _⟩ (lts hlt) (get rv) λh' tk hk=>kept hk)
 ·obtain⟨its,rv,pl,hz⟩:=I.tuple hq
  have pl' :s.heap.IsTuple p its.toArray:=pl
  have hlt:p<s.heap.objs.size:=by obtain⟨_,e,_⟩:=pl';exact Gaz e
  have W:=Walks.tuple (prog:=X.prog) (w:=X.w) hh s.heap.objs.size p (GaP hlt) its.toArray
  have hsz:its.toArray.size=ys.length:=by rw[Gam,rv.length]
  rw[hsz] at W
  exact GcT pl' (k _ _ _ _ _ _ W ⟨⟨_,GaD _ rfl,rfl,rfl⟩,pl'.at λo e=>Gak _ e⟩ (lts hlt) (get rv) λh' tk hk=>kept hk)
theorem range_any(bs:List Bool):(List.range bs.length).any (λi=>bs[i]?.getD false)=bs.any id:=by
 rw[Bool.eq_iff_iff]
 simp only[List.any_eq_true,Gbi,id]
 constructor
 ·rintro⟨i,hi,h⟩
  rw[Gab hi] at h
  exact⟨bs[i],GaC hi,h⟩
 ·rintro⟨b,hb,h⟩
  obtain⟨i,hi,rfl⟩:=Gdy hb
  exact⟨i,hi,by rw[Gab hi];exact h⟩
theorem vD{A:Around}{P:Nat→Value→Prop}{bs:List Bool}(hP:∀(i:Nat) v,P i v→∃y,(bs.map V.bl)[i]? =some y∧RelV y v):TruthOf X.prog X.w A P (λi=>bs[i]?.getD false):=by
 intro i v s Q E p q
 obtain⟨y,hy,r⟩:=hP i v p
 rw[Gan] at hy
 cases hb:bs[i]? with
 |none=>rw[hb] at hy;cases hy
 |some b=>
  rw[hb] at hy;cases hy
  cases r
  refine GbF ?_
  have q' :Q (bs[i]?.getD false) s:=q
  rw[hb] at q';exact q'
theorem Ci(hc:X.calm=true):i5 X (.builtin "any") (λxs H Q=>∃(p:Addr) (bs:List Bool),xs=[.ref p]∧(SqL X.K H p (bs.map V.bl)∨SqT X.K H p (bs.map V.bl))∧Q (.bl (bs.any id)) H):=by
 intro pins s σ H xs us Q I rv h
 obtain⟨p,bs,rfl,hq,q⟩:=h
 obtain⟨u,rfl,ru⟩:=rv.one
 cases ru
 refine call_any_walk (vC hc I hq λIt fp wr P St s₂ W st lt hP kept=> ⟨It,fp,wr,_,P,St,_,rfl,W,st,vD hP,λh' tk hk=> ?_⟩)
 rw[Gae,range_any]
 exact⟨.bl (bs.any id),H,kept h' tk hk,rfl,q⟩
noncomputable def uh(ns:List Int)(i:Nat):Int:=ns[i]?.getD 0
theorem vF{P:Nat→Value→Prop}{ns:List Int}(hP:∀(i:Nat) v,P i v→∃y,(ns.map V.int)[i]? =some y∧RelV y v):∀i v,P i v→∃t,v= .int (uh ns i) t:=by
 intro i v p
 obtain⟨y,hy,r⟩:=hP i v p
 rw[Gan] at hy
 cases hb:ns[i]? with
 |none=>rw[hb] at hy;cases hy
 |some n=>
  rw[hb] at hy;cases hy
  obtain⟨t,rfl⟩:=r
  exact⟨t,by unfold uh;rw[hb];rfl⟩
theorem Cj{f:Int→Int→Int}{i:Int}{ns:List Int}{k:Nat}(hk:k<ns.length):(ns.take (k+1)).foldl f i=f ((ns.take k).foldl f i) (ns[k]):=by
 rw[Gdp hk,List.foldl_append];rfl
theorem Ec{n:Int}{ns:List Int}:∀k,k≤ns.length→uh (n::ns) (argBest (λi j=>decide (uh (n::ns) i>uh (n::ns) j)) k)=(ns.take k).foldl (λa b=>if b>a then b else a) n
 |0,_=>by simp[argBest,uh]
 |k+1,hk=>by
  have ih:= @Ec n ns k (by omega)
  rw[Cj (by omega),argBest]
  have e:uh (n::ns) (k+1)=ns[k]:=by simp[uh,show k<ns.length by omega]
  rw[ih,e]
  simp only[decide_eq_true_eq]
  split
  ·exact e
  ·exact ih
theorem vG{K:aD}{F:Addr→Prop}{H:Hp}:∀{ds:List D} {vs:List V} {bs:List Bool},aX K F H ds vs→u4 ds=some bs→vs=bs.map V.bl
 |[],vs,bs,r,e=>by cases e;exact r.cU
 |d::ds,vs,bs,r,e=>by
  obtain⟨v,w,rfl,h1,h2⟩:=r.cons_inv
  cases d<;>try (cases e;done)
  obtain⟨bs',e',rfl⟩:=Gal.mp e
  cases h1
  rw[vG h2 e'];rfl
theorem Bg{K:aD}{F:Addr→Prop}{H:Hp}:∀{ds:List D} {vs:List V} {bs:List Int},aX K F H ds vs→B1 ds=some bs→vs=bs.map V.int
 |[],vs,bs,r,e=>by cases e;exact r.cU
 |d::ds,vs,bs,r,e=>by
  obtain⟨v,w,rfl,h1,h2⟩:=r.cons_inv
  cases d<;>try (cases e;done)
  obtain⟨bs',e',rfl⟩:=Gal.mp e
  cases h1
  rw[Bg h2 e'];rfl
theorem Ae{K:aD}{F:Addr→Prop}{H:Hp}{d:D}{v:V}{ds:List D}(i:Inn K F H d v)(e:mz d=some ds):∃p vs,v= .ref p∧(SqL K H p vs∨SqT K H p vs)∧aX K F H ds vs:=by
 unfold mz at e
 split at e
 ·cases e
  cases i with
  |lst h r=>exact⟨_,_,rfl,.inl (.inl h),r⟩
 ·cases e
  cases i with
  |tup h r=>exact⟨_,_,rfl,.inr (SqT.of h),r⟩
 ·rename_i ns
  cases e
  cases i with
  |scr h=>
   refine⟨_,_,rfl,.inl h.sq,by simp,λi d v e1 e2=> ?_⟩
   rw[Gan] at e1 e2
   cases q:ns[i]? with
   |none=>rw[q] at e1;cases e1
   |some n=>rw[q] at e1 e2;cases e1;cases e2;exact .int n
 ·cases e
theorem Af{o:List D→Option RV}{ds:List D}{rv:RV}(h:one o ds=some rv):∃d xs,ds=[d]∧mz d=some xs∧o xs=some rv:=by
 unfold one at h
 split at h
 ·obtain⟨xs,h1,h2⟩:=bind_some h
  exact⟨_,xs,rfl,h1,h2⟩
 ·cases h
theorem Ck:CallD X anyS (λxs H Q=>∃(p:Addr) (bs:List Bool),xs=[.ref p]∧(SqL X.K H p (bs.map V.bl)∨SqT X.K H p (bs.map V.bl))∧Q (.bl (bs.any id)) H):=by
 intro F H ds vs rv Q ps e k
 obtain⟨d,xs,rfl,h1,h2⟩:=Af e
 obtain⟨bs,hb,rfl⟩:=Gal.mp h2
 obtain⟨v,rfl,i⟩:=ie ps
 obtain⟨p,vs,rfl,hs,r⟩:=Ae i h1
 rw[vG r hb] at hs
 exact⟨p,bs,rfl,hs,k _ H bV (.bl _)⟩
end
open PySem PySem.Spec PyProof.Rows L2
section
variable{X:Cx}{e a b c:Expr}{f g h:DE}{pos:Pos}
theorem b8.cons{κ:Type}{K:aD}{F:Addr→Prop}{H:Hp}{kvs:List (κ×D)}{ws:List (κ×V)}{k:κ}{d:D}{v:V}(h:Rep K F H d v)(r:b8 K F H kvs ws):b8 K F H ((k,d)::kvs) ((k,v)::ws):=by
 refine⟨by simp[r.1],λi x u e1 e2=> ?_⟩
 cases i with
 |zero=>simp at e1 e2;subst e1;subst e2;exact h
 |succ i=>exact r.2 i x u (by simpa using e1) (by simpa using e2)
theorem b8.cons_inv{κ:Type}{K:aD}{F:Addr→Prop}{H:Hp}{kvs:List (κ×D)}{ws:List (κ×V)}{k:κ}{d:D}(h:b8 K F H ((k,d)::kvs) ws):∃v r,ws=(k,v)::r∧Rep K F H d v∧b8 K F H kvs r:=by
 cases ws with
 |nil=>exact absurd h.1 (by simp)
 |cons q r=>
  obtain⟨k',v⟩:=q
  have h1:k=k' ∧kvs.map (·.1)=r.map (·.1):=by have:=h.1;simpa using this
  obtain⟨rfl,h2⟩:=h1
  exact⟨v,r,rfl,h.2 0 (k,d) (k,v) rfl rfl,h2,λi x y e1 e2=>h.2 (i+1) x y (by simpa using e1) (by simpa using e2)⟩
theorem b8.nil{κ:Type}{K:aD}{F:Addr→Prop}{H:Hp}:b8 K F H ([]:List (κ×D)) []:=⟨rfl,λi p q e=>by simp at e⟩
theorem b8.cU{κ:Type}{K:aD}{F:Addr→Prop}{H:Hp}{ws:List (κ×V)}(h:b8 K F H [] ws):ws=[]:=by
 cases ws with
 |nil=>rfl
 |cons q r=>exact absurd h.1 (by simp)
theorem b8.len{κ:Type}{K:aD}{F:Addr→Prop}{H:Hp}{kvs:List (κ×D)}{ws:List (κ×V)}(h:b8 K F H kvs ws):kvs.length=ws.length:=by
 have:=congrArg List.length h.1
 simpa using this
theorem b8.over{κ:Type} [DecidableEq κ]{K:aD}{F:Addr→Prop}{H:Hp}{k:κ}{d:D}{v:V}(hv:Rep K F H d v):∀{kvs:List (κ×D)} {ws:List (κ×V)},b8 K F H kvs ws→
  b8 K F H (kvs.map λkv=>if kv.1=k then(kv.1,d) else kv) (ws.map λkv=>if kv.1=k then(kv.1,v) else kv)
 |[],ws,r=>by rw[r.cU];exact .nil
 |(k',d')::kvs,ws,r=>by
  obtain⟨v',w,rfl,h1,h2⟩:=r.cons_inv
  rw[Gar,Gar]
  dsimp only
  split
  ·exact .cons hv (b8.over hv h2)
  ·exact .cons h1 (b8.over hv h2)
theorem b8.snoc{κ:Type}{K:aD}{F:Addr→Prop}{H:Hp}{k:κ}{d:D}{v:V}(hv:Rep K F H d v):∀{kvs:List (κ×D)} {ws:List (κ×V)},b8 K F H kvs ws→b8 K F H (kvs++[(k,d)]) (ws++[(k,v)])
 |[],ws,r=>by rw[r.cU];exact .cons hv .nil
 |(k',d')::kvs,ws,r=>by
  obtain⟨v',w,rfl,h1,h2⟩:=r.cons_inv
  exact .cons h1 (b8.snoc hv h2)
theorem b8.any{κ:Type} [DecidableEq κ]{K:aD}{F:Addr→Prop}{H:Hp}{k:κ}:∀{kvs:List (κ×D)} {ws:List (κ×V)},b8 K F H kvs ws→(kvs.any λkv=>decide (kv.1=k))=(ws.any λkv=>decide (kv.1=k))
 |[],ws,r=>by rw[r.cU];rfl
 |(k',d')::kvs,ws,r=>by
  obtain⟨v',w,rfl,h1,h2⟩:=r.cons_inv
  rw[Gdm,Gdm,b8.any h2]
theorem b8.put{κ:Type} [DecidableEq κ]{K:aD}{F:Addr→Prop}{H:Hp}{kvs:List (κ×D)}{ws:List (κ×V)}{k:κ}{d:D}{v:V}(r:b8 K F H kvs ws)(hv:Rep K F H d v):b8 K F H (put kvs k d) (putK ws k v):=by
 unfold DL.put putK
 rw[r.any]
 split
 ·exact r.over hv
 ·exact r.snoc hv
theorem Jl{K:aD}{F:Addr→Prop}{H:Hp}{kvs:List (Key×D)}{a:Addr}(i:Inn K F H (.dK kvs) (.ref a)):∃ws,H a=some (.dK ws)∧b8 K F H kvs ws:=by
 cases i with
 |dK h r=>exact⟨_,h,r⟩
theorem Jm{K:aD}{F:Addr→Prop}{H:Hp}{kvs:List (List Key×D)}{a:Addr}(i:Inn K F H (.dT kvs) (.ref a)):∃ws,H a=some (.dT ws)∧b8 K F H kvs ws:=by
 cases i with
 |dT h r=>exact⟨_,h,r⟩
noncomputable def Ia:V→V→V→Hp→(Hp→Prop)→Prop:=λo i v H Q=>HS o i v H Q∨∃a H4,o= .ref a∧uW H a i v H4∧Q H4
theorem GG(hu:X.A.units+1<cLine):KO X Ia:=by
 intro pins s σ H o i v ov iv u Q I ro ri rv h
 rcases h with h| ⟨a,H4,rfl,g,q⟩
 ·exact set_list pins s σ H o i v ov iv u Q I ro ri rv h
 ·cases ro
  exact C6 hu I g ri rv λs4 I4=> ⟨H4,I4,q⟩
noncomputable def NC(td ty tv:TE):TS:=λD σ H=>tv σ H λv H1=>td σ H1 λx H2=>ty σ H2 λy H3=>Ia x y v H3 λH4=>D.nx σ H4
theorem Jn{o i value:Expr}{td ty tv:TE}{pos' :Pos}(hu:X.A.units+1<cLine)(ho:PE X o td)(hi:PE X i ty)(hv:PE X value tv)(hs:swapsWith value (some (.Subscript o i pos')) pos.line X.env=pure false):PS X (.Assign [.Subscript o i pos'] value pos) (NC td ty tv):=by
 intro pins s σ H D I h
 refine wpAny_Assign_Subscript (thn (hv pins s σ H _ I h) λr s1 ⟨v,H1,I1,rv,q1⟩=>thn (ho pins s1 σ H1 _ I1 q1) λu s2 ⟨x,H2,I2,rx,q2⟩=>thn (hi pins s2 σ H2 _ I2 q2) λiv s3 ⟨y,H3,I3,ry,q3⟩=> ?_) hs
 exact thn (GG hu pins s3 σ H3 x y v u iv r _ I3 rx ry rv q3) λ_ s4 ⟨H4,I4,q4⟩=> ⟨σ,H4,I4,q4⟩
theorem nL{Bad:Addr→Prop}{env:Env}{σ:St}{H:Hp}{i:Nat}{a:Addr}{d:D}{o o' :HO}(q:env[i]? =some (some (.own d)))(h1:σ[i]? =some (some (.ref a)))(hH:H a=some o')(hw:isW o'):iU (Cln Bad env σ) H (upd H a o):=λb x hb w=>by
 have:b≠a:=by
  rintro rfl
  rcases w with w|w
  ·exact w.2 i (by rw[q];trivial) h1
  ·rw[hH] at hb;cases hb
   cases o' <;>simp[isT] at w<;>exact hw
 rw[ax this];exact hb
theorem oK{i:Nat}{x:Str}{px pos' :Pos}{k value:Expr}{fk fv:DE}(hu:X.A.units+1<cLine)(hN:X.N[i]? =some x)(hv:Vis X.env.scope x)(hk:PEd X k fk)(he:PEd X value fv)(hd:(x==("__debug__":Str))=false:=by decide)(hcd:(x==("__classdict__":Str))=false:=by decide)
  (hs:swapsWith value (some (.Subscript (.Name x px) k pos')) pos.line X.env=pure false:=by rfl):PSd X (.Assign [.Subscript (.Name x px) k pos'] value pos) (vc i fk fv):=by
 refine(Jn hu (kK hN hv hd hcd) hk he hs).aU ?_
 rintro D σ H ⟨H₀,Bad,env,o,E,e,kk⟩
 obtain⟨r,hr,e⟩:=bind_some e
 obtain⟨y,hy,e⟩:=bind_some e
 obtain⟨d,hd,e⟩:=bind_some e
 have q:=nI hd
 split at e
 ·rename_i hfree
  obtain⟨d',hp,rfl⟩:=Gal.mp e
  refine⟨H₀,Bad,env,r,E,hr,λv H1 s1 R=> ?_⟩
  have E1:=E.mono s1
  obtain⟨a,h1,h2,h3,h4,h5,h6⟩:=E1.ow i _ (.inl q)
  refine⟨_,h1,H₀,Bad,env,y,E1,hy,λvy H3 s3 Ry=> ?_⟩
  have E3:=E1.mono s3
  have rep:=(R.rep E hfree).same s3
  have i6:=h6.same s3
  have iy:=Ry.inn
  have fin:∀(o' :HO) (o'' :HO),H3 a=some o'' →isW o'' →isW o' →d'.top=true→Inn X.K (Cln Bad env σ) (upd H3 a o') d' (.ref a)→D.nx σ (upd H3 a o'):=λo' o'' hH hw hw' ht inn=>by
   obtain⟨E4,p4⟩:=E3.change (d' :=d') (o:=o') q h1 hw' ht inn
   exact kk σ _ E4 (((Stp.of_same s1).trans (.of_same s3)).trans p4)
  unfold putD at hp
  split at hp
  ·rename_i kvs
   split at hp
   ·rename_i hz
    obtain⟨key,hkey,rfl⟩:=Gal.mp hp
    obtain⟨ws,hH,rp⟩:=Jl i6
    have hy' :=oH iy hkey
    subst hy'
    refine .inr ⟨a,_,rfl,uW.k hH (by rw[←rp.len,←size_eq];exact hz),fin _ _ hH trivial trivial rfl ?_⟩
    exact .dK aK ((rp.put rep).gen (nL q h1 hH trivial) λ_ f _=>f)
   ·cases hp
  ·rename_i kvs
   split at hp
   ·rename_i ks hks
    split at hp
    ·rename_i hz
     obtain⟨key,hkey,rfl⟩:=Gal.mp hp
     obtain⟨ws,hH,rp⟩:=Jm i6
     rw[hks] at iy
     cases iy with
     |tup hb rb=>
      have:=jm rb hkey
      subst this
      refine .inr ⟨a,_,rfl,uW.t hH hb (by rw[←rp.len,←size_eq];exact hz),fin _ _ hH trivial trivial rfl ?_⟩
      exact .dT aK ((rp.put rep).gen (nL q h1 hH trivial) λ_ f _=>f)
    ·cases hp
   ·cases hp
  ·rename_i xs
   split at hp
   ·rename_i j hj
    rw[hj] at iy
    cases iy
    obtain⟨vs,hH,rp⟩:=nJ (h4.same s3) i6
    split at hp
    ·rename_i hb
     cases hp
     refine .inl ⟨a,vs,j,j.toNat,rfl,rfl,hH, ?_,fin _ _ hH trivial trivial rfl ?_⟩
     ·unfold ixN
      rw[Gah hb.1,Gah (by rw[←rp.1];exact hb.2)]
     ·exact .lst (.inl aK) ((rp.set rep j.toNat).gen (nL q h1 hH trivial) λ_ f _=>f)
    ·split at hp
     ·rename_i hb
      cases hp
      refine .inl ⟨a,vs,j,(j+xs.length).toNat,rfl,rfl,hH, ?_,fin _ _ hH trivial trivial rfl ?_⟩
      ·unfold ixN
       rw[Gag (by omega),Gah (by rw[←rp.1];omega),rp.1]
      ·exact .lst (.inl aK) ((rp.set rep _).gen (nL q h1 hH trivial) λ_ f _=>f)
     ·cases hp
   ·cases hp
  ·cases hp
 ·cases e
theorem nM:PEd X (.Dict [] [] pos) qz:=uY.aU λσ H Q ⟨_,_,_,_,E,e,k⟩ p n=>by
 cases e
 exact k _ _ (bJ n) ⟨p,rfl,n,⟨_,aK,trivial⟩,rfl,.dT aK .nil⟩
end
open PySem PySem.Spec PyProof.Rows L2
open PySem.W (KasT kas_rev kas_asc kas_desc kas_tail3 kas_descPart kas_count kas_place kas_bin kas_sort)
section
variable{rk:Nat→Int}{N:Nat}
noncomputable def Asks(rk:Nat→Int)(N:Nat){α:Type}:KasT α→(α→Prop)→Prop
 | .ret a,Q=>Q a
 | .ask i j k,Q=>i<N∧j<N∧Asks rk N (k (decide (rk i<rk j))) Q
theorem Asks.mono{α:Type}{Q Q' :α→Prop}(hq:∀a,Q a→Q' a):∀(t:KasT α),Asks rk N t Q→Asks rk N t Q'
 | .ret a,h=>hq a h
 | .ask i j k,h=> ⟨h.1,h.2.1,Asks.mono hq _ h.2.2⟩
noncomputable def Ord(N:Nat)(p:Array Nat):Prop:=p.toList.Perm (List.range N)
theorem Ord.size{p:Array Nat}(h:Ord N p):p.size=N:=by
 have:=List.Perm.length_eq h
 simpa using this
theorem Ord.lt{p:Array Nat}(h:Ord N p){i:Nat}(hN:0<N):p.getD i 0<N:=by
 by_cases hi:i<p.size
 ·have e:p.getD i 0=p[i]:=by simp[Array.getD,hi]
  rw[e]
  have m:p[i]∈p.toList:=by simp
  exact Gbi.mp (h.mem_iff.mp m)
 ·have e:p.getD i 0=0:=by simp[Array.getD,hi]
  rw[e];exact hN
noncomputable def ui(rk:Nat→Int)(p:Array Nat)(i:Nat):Int:=rk (p.getD i 0)
noncomputable def Up(rk:Nat→Int)(p:Array Nat)(k:Nat):Prop:=∀u v,u≤v→v<k→ui rk p u≤ui rk p v
noncomputable def Down(rk:Nat→Int)(p:Array Nat)(k:Nat):Prop:=∀u v,u≤v→v<k→ui rk p v≤ui rk p u
theorem Down.snoc{p p' :Array Nat}{k:Nat}(hd:Down rk p k)(hk:1≤k)(e:∀i,ui rk p' i=ui rk p i)(c:ui rk p k≤ui rk p (k -1)):Down rk p' (k+1):=λu v huv hv=>by
 rw[e,e]
 rcases Nat.lt_or_ge v k with hvk|hvk
 ·exact hd u v huv hvk
 ·have ev:v=k:=by omega
  subst ev
  rcases GdA huv with q|q
  ·subst q;exact GbI _
  ·exact Int.le_trans c (hd u (v -1) (by omega) (by omega))
end
open PySem PySem.Spec PyProof.Rows L2
open PySem.W (KatLex KatTups kas_sort kas_ask kat_kind kat_lt kat_one kat_run kat_snds BoolBack kat_lt_int)
noncomputable def FlV:D→Value→Prop
 | .non,v=>v= .none
 | .int i,v=>∃t,v= .int i t
 | .str x,v=>∃t,v= .str x t
 |_,_=>False
noncomputable def nN(h:Heap):D→Value→Prop
 | .int i,v=>∃t,v= .int i t
 | .tup fs,v=>∃a o n us,v= .ref a∧h.get? a=some o∧o.cls= .type "tuple"∧o.data= .seq (List.toArray us) n∧Paired FlV fs us
 |_,_=>False
theorem nN.keep{h h' :Heap}{d:D}{v:Value}(k:nN h d v)(e:∀b o,h.get? b=some o→h'.get? b=some o):nN h' d v:=by
 cases d with
 |int i=>exact k
 |tup fs=>obtain⟨a,o,n,us,h1,h2,h3⟩:=k;exact⟨a,o,n,us,h1,e _ _ h2,h3⟩
 |_=>exact k
theorem pv{α β:Type}{R S:α→β→Prop}(h:∀a b,R a b→S a b):∀{xs:List α} {ys:List β},Paired R xs ys→Paired S xs ys
 |_,_,.nil=> .nil
 |_,_,.cons p t=> .cons (h _ _ p) (pv h t)
theorem GH{xs ys:List Nat}(h:xs.map Int.ofNat=ys.map Int.ofNat):xs=ys:=by
 induction xs generalizing ys with
 |nil=>cases ys with
  |nil=>rfl
  |cons=>simp at h
 |cons x xs ih=>cases ys with
  |nil=>simp at h
  |cons y ys=>
   simp only[Gar,List.cons.injEq] at h
   rw[ih h.2,Int.ofNat_inj.mp h.1]
theorem GI{x y:Str}(h:x.cps.toList=y.cps.toList):x=y:=by
 cases x;cases y
 simp only at h
 rw[Gcx.mp h]
theorem oM{a b:D}(ha:mj a=true)(hb:mj b=true)(h:aY a=aY b):a=b:=by
 cases a<;>cases b<;>simp[mj,tyD] at ha hb<;>simp[aY] at h
 ·rfl
 ·rw[h]
 ·have:=GI (GH h)
  rw[this]
theorem t9:∀{as bs:List D},as.all mj=true→bs.all mj=true→as.map aY=bs.map aY→as=bs
 |[],[],_,_,_=>rfl
 |[],_::_,_,_,h=>by simp at h
 |_::_,[],_,_,h=>by simp at h
 |a::as,b::bs,ha,hb,h=>by
  rw[GbC,Gas] at ha hb
  simp only[Gar,List.cons.injEq] at h
  rw[oM ha.1 hb.1 h.1,t9 ha.2 hb.2 h.2]
theorem Jo{a:D}{t:Nat}(h:(tyD a==t)=true)(ht:t≠3):mj a=true:=by
 unfold mj
 rw[GcL] at h
 rw[h]
 simpa using ht
theorem m8{t:Nat}{d:D}(ht:t≠3)(h:mq t d=true):∃f r,d= .tup (f::r)∧tyD f=t∧(f::r).all mj=true:=by
 unfold mq at h
 split at h
 ·rename_i f r
  rw[Gas] at h
  refine⟨f,r,rfl,GcL.mp h.1, ?_⟩
  rw[GbC,Gas]
  exact⟨Jo h.1 ht,h.2⟩
 ·cases h
theorem jP{d:D}(h:Cc d=true):∃i,d= .int i:=by
 unfold Cc at h
 split at h
 ·exact⟨_,rfl⟩
 ·cases h
theorem Ed{ds:List D}(h:keysOk ds=true):∀a∈ds,∀b∈ds,code a=code b→a=b:=by
 intro a ha b hb e
 unfold keysOk at h
 rw[Gbd,Gas,Gbd] at h
 have tup:∀t,t≠3→ds.all (mq t)=true→a=b:=λt ht hk=>by
  obtain⟨f,r,rfl,_,q1⟩:=m8 ht (Gat.mp hk a ha)
  obtain⟨f',r',rfl,_,q2⟩:=m8 ht (Gat.mp hk b hb)
  rw[t9 q1 q2 e]
 rcases h with h| ⟨h|h,_⟩
 ·obtain⟨i,rfl⟩:=jP (Gat.mp h a ha)
  obtain⟨j,rfl⟩:=jP (Gat.mp h b hb)
  simp[code,aY] at e
  rw[e]
 ·exact tup 1 (by decide) h
 ·exact tup 2 (by decide) h
theorem Bh{i j:Int}:fu ltI (aY (.int i)) (aY (.int j))=decide (i<j):=by
 unfold aY
 simp only[fu,Gbj]
 by_cases e:i=j
 ·subst e;simp
 ·rw[Gag e];rfl
theorem Bi:∀(xs ys:List Nat),fu ltI (xs.map Int.ofNat) (ys.map Int.ofNat)=decide (xs<ys)
 |[],[]=>by simp[fu]
 |[],y::ys=>by simp[fu]
 |x::xs,[]=>by simp[fu]
 |x::xs,y::ys=>by
  simp only[Gar,fu]
  by_cases e:x=y
  ·subst e
   rw[Gah rfl,Bi xs ys]
   simp[List.cons_lt_cons_iff]
  ·rw[Gag (λz:Int.ofNat x=Int.ofNat y=>e (Int.ofNat_inj.mp z))]
   have:(x::xs<y::ys)↔x<y:=by rw[List.cons_lt_cons_iff];simp[e]
   unfold ltI
   simp[this]
theorem GJ{x y:Str}:fu ltI (aY (.str x)) (aY (.str y))=decide (x.cps.toList<y.cps.toList):=by
 unfold aY
 simp only[fu,Gbj]
 exact Bi _ _
section
variable{prog:Program}{w:World}{A:Around}{E:Value→Shared→Prop}{s:Shared}
theorem M0{a b:D}{u v:Value}{Q:Bool→Shared→Prop}(ha:FlV a u)(hb:FlV b v)(ht:tyD a=tyD b)(h:Q (decide (aY a=aY b)) s):wpAny (model prog w) A (eqBool u v) Q E s:=by
 cases a<;>cases b<;>simp[tyD] at ht<;>try exact ha.elim
 ·cases ha;cases hb
  unfold eqBool
  refine Gcr ?_
  simp only[aY,decide_true] at h
  rw[Gah (by rfl)]
  exact Gaa (GbX (Gaf h))
 ·obtain⟨t,rfl⟩:=ha
  obtain⟨t',rfl⟩:=hb
  refine wpAny_eqBool_int ?_
  rename_i i j
  have e:decide (aY (.int i)=aY (.int j))=(i==j):=by
   simp only[aY]
   by_cases q:i=j
   ·subst q;simp
   ·simp[q]
  rw[e] at h;exact h
 ·obtain⟨t,rfl⟩:=ha
  obtain⟨t',rfl⟩:=hb
  refine eqBool_str ?_
  rename_i i j
  have e:decide (aY (.str i)=aY (.str j))=(i==j):=by
   by_cases q:i=j
   ·subst q;simp
   ·have:¬aY (.str i)=aY (.str j):=λz=>q (by
     have:=oM (a:= .str i) (b:= .str j) rfl rfl z
     cases this;rfl)
    simp[q,this]
  rw[e] at h;exact h
theorem M1{a b:D}{u v:Value}{one:Bool}{Q:Bool→Shared→Prop}(ha:FlV a u)(hb:FlV b v)(ht:tyD a=tyD b)(hk:tyD a=1∨tyD a=2)(h:Q (fu ltI (aY a) (aY b)) s):wpAny (model prog w) A (oneLt' one u v) Q E s:=by
 cases a<;>cases b<;>simp[tyD] at ht hk
 ·obtain⟨t,rfl⟩:=ha
  obtain⟨t',rfl⟩:=hb
  rw[Bh] at h
  cases one with
  |true=>exact oneLt_int h
  |false=>exact kat_one _ _ (PyProof.Rows.lt_int h)
 ·obtain⟨t,rfl⟩:=ha
  obtain⟨t',rfl⟩:=hb
  rw[GJ] at h
  cases one with
  |true=>exact oneLt_str h
  |false=>exact kat_one _ _ (PyProof.Rows.lt_str h)
theorem Ee{b fin:Bool}{Q:Bool→Shared→Prop}:∀{as bs:List D} {us vs:List Value} (i:Nat),Paired FlV as us→Paired FlV bs vs→mC as bs=true→fin=decide (as.length<bs.length)→Q (ltC (as.map aY) (bs.map aY)) s→KatLex prog w A b fin Q (us.zip vs) i s
 |[],[],_,_,i,.nil,.nil,_,hf,h=>by
  have h' :Q fin s:=by rw[hf];exact h
  exact h'
 |[],_::_,_,_,i,.nil,.cons _ _,_,hf,h=>by
  have h' :Q fin s:=by rw[hf,GaF (by simp)];exact h
  exact h'
 |_::_,[],_,_,i,.cons _ _,.nil,_,hf,h=>by
  have h' :Q fin s:=by rw[hf,GaE (by simp)];exact h
  exact h'
 |a::as,c::cs,_,_,i,.cons (b:=u) ha ta,.cons (b:=v) hb tb,hc,hf,h=>by
  unfold mC at hc
  have h0:ltC ((a::as).map aY) ((c::cs).map aY)=if aY a=aY c then ltC (as.map aY) (cs.map aY) else fu ltI (aY a) (aY c):=rfl
  rw[h0] at h
  have ht:tyD a=tyD c:=by
   split at hc
   ·rename_i e
    cases a<;>cases c<;>simp[aY] at e<;>first|rfl|exact ha.elim|exact hb.elim
   ·rw[Gas] at hc;exact GcL.mp hc.1
  show wpAny _ _ (eqBool u v) _ _ s
  refine M0 ha hb ht ?_
  by_cases e:aY a=aY c
  ·rw[GaF e,Gah rfl]
   rw[Gah e] at h hc
   exact Ee (i+1) ta tb hc (by rw[hf];simp) h
  ·rw[GaE e,Gag Gau]
   rw[Gag e] at h hc
   rw[Gas,Gbd] at hc
   exact M1 ha hb ht (hc.2.imp GcL.mp GcL.mp) h
theorem Ef{ds:List D}{vs:List Value}{κ:SortKind}(hK:Paired (nN s.heap) ds vs)(hok:keysOk ds=true)(hκ:(ds.all Cc=true∧κ=oneType')∨((ds.all (mq 1)||ds.all (mq 2))=true∧(ds.all λx=>ds.all λy=>vd x y)=true∧κ=tuples' true)):
  ∀i j C,i<ds.length→j<ds.length→C (decide (rank (ds.map code) i<rank (ds.map code) j)) s→kas_ask prog w A κ vs i j C s:=by
 intro i j C hi hj h
 have hl:=hK.length
 rw[B4 (by simpa using hi) (by simpa using hj)] at h
 simp only[Gcg] at h
 unfold kas_ask
 have gi:vs.getD i Value.none=vs[i]:=by simp[←hl,hi]
 have gj:vs.getD j Value.none=vs[j]:=by simp[←hl,hj]
 rw[gi,gj]
 have at_:∀{ds:List D} {vs:List Value},Paired (nN s.heap) ds vs→∀(i:Nat) (h1:i<ds.length) (h2:i<vs.length),nN s.heap ds[i] vs[i]:=by
  intro ds vs hK
  induction hK with
  |nil=>intro i h1;simp at h1
  |cons h t ih=>
   intro i h1 h2
   cases i with
   |zero=>exact h
   |succ i=>exact ih i (by simpa using h1) (by simpa using h2)
 have ki:=at_ hK i hi (by omega)
 have kj:=at_ hK j hj (by omega)
 rcases hκ with⟨a1,rfl⟩| ⟨a1,a2,rfl⟩
 ·obtain⟨x,hx⟩:=jP (Gat.mp a1 ds[i] (GaC hi))
  obtain⟨y,hy⟩:=jP (Gat.mp a1 ds[j] (GaC hj))
  rw[hx] at ki h
  rw[hy] at kj h
  obtain⟨t,ei⟩:=ki
  obtain⟨t',ej⟩:=kj
  rw[ei,ej]
  refine kat_lt_int ?_
  have e:ltC (code (.int x)) (code (.int y))=decide (x<y):=by
   show fu (fu ltI) [aY (.int x)] [aY (.int y)]=_
   unfold fu
   split
   ·rename_i z
    have:=oM (a:= .int x) (b:= .int y) rfl rfl z
    cases this
    simp[fu]
   ·exact Bh
  rw[e] at h;exact h
 ·have tup:∀d∈ds,∃fs,d= .tup fs:=λd hd=>by
   rw[Gbd] at a1
   rcases a1 with a1|a1
   ·obtain⟨f,r,e,_⟩:=m8 (by decide) (Gat.mp a1 d hd);exact⟨_,e⟩
   ·obtain⟨f,r,e,_⟩:=m8 (by decide) (Gat.mp a1 d hd);exact⟨_,e⟩
  have cm:=Gat.mp (Gat.mp a2 ds[i] (GaC hi)) ds[j] (GaC hj)
  obtain⟨xs,hx⟩:=tup ds[i] (GaC hi)
  obtain⟨ys,hy⟩:=tup ds[j] (GaC hj)
  rw[hx] at ki h cm
  rw[hy] at kj h cm
  obtain⟨a,o,n,us,ei,h1,h2,h3,h4⟩:=ki
  obtain⟨a',o',n',us',ej,h1',h2',h3',h4'⟩:=kj
  rw[ei,ej]
  refine kat_lt h1 h3 h1' h3' ?_
  exact Ee 0 h4 h4' cm (by rw[Gam,Gam,h4.length,h4'.length]) h
theorem oN{t:Nat}(ht:t≠3):∀{ds:List D} {vs:List Value},Paired (nN s.heap) ds vs→ds.all (mq t)=true→∃fs:List Value,∃gs:List D,KatTups s.heap vs fs∧Paired FlV gs fs∧(∀g∈gs,tyD g=t)∧fs.length=vs.length
 |[],_,.nil,_=> ⟨[],[],trivial,.nil,(by intro g hg;cases hg),rfl⟩
 |d::ds,_,.cons h tl,hk=>by
  rw[GbC,Gas] at hk
  obtain⟨fs,gs,h1,h2,h3,h4⟩:=oN ht tl hk.2
  obtain⟨f,r,rfl,q1,q2⟩:=m8 ht hk.1
  obtain⟨a,o,n,us,rfl,g1,g2,g3,g4⟩:=h
  cases g4 with
  |cons p t=>
   refine⟨_::fs,f::gs,KatTups.cons g1 g2 g3 (by simp) h1,.cons p h2,λg hg=> ?_,by simp[h4]⟩
   rcases GaA.mp hg with e|e
   ·subst e;exact q1
   ·exact h3 g e
theorem Bj{M:Model}{h:Heap}{d:D}{v:Value}{t:Nat}(hd:FlV d v)(ht:tyD d=t):(t=1→PySem.W.Looks M h (typeOf v) (.type "int"))∧(t=2→PySem.W.Looks M h (typeOf v) (.type "str")):=by
 subst ht
 cases d<;>simp[tyD]<;>try exact hd.elim
 ·obtain⟨u,rfl⟩:=hd
  exact PySem.W.Looks.of_pure rfl
 ·obtain⟨u,rfl⟩:=hd
  exact PySem.W.Looks.of_pure rfl
theorem Cm{ds:List D}{vs:List Value}{Q:SortKind→Shared→Prop}(hK:Paired (nN s.heap) ds vs)(hok:keysOk ds=true)(h2:2≤ds.length)
  (h:∀κ,((ds.all Cc=true∧κ=oneType')∨((ds.all (mq 1)||ds.all (mq 2))=true∧(ds.all λx=>ds.all λy=>vd x y)=true∧κ=tuples' true))→Q κ s):wpAny (model prog w) A (keyKind' vs.toArray) Q E s:=by
 have hl:=hK.length
 unfold keysOk at hok
 rw[Gbd,Gas] at hok
 rcases hok with hok| ⟨hok,hc⟩
 ·have ia:∀{ds:List D} {vs:List Value},Paired (nN s.heap) ds vs→ds.all Cc=true→∃ns,IntsAre vs ns:=by
   intro ds vs hK
   induction hK with
   |nil=>intro _;exact⟨[],.nil⟩
   |cons p t ih=>
    intro hk
    rw[GbC,Gas] at hk
    obtain⟨ns,q⟩:=ih hk.2
    obtain⟨i,rfl⟩:=jP hk.1
    obtain⟨u,rfl⟩:=p
    exact⟨i::ns,.cons i u q⟩
  obtain⟨ns,q⟩:=ia hK hok
  match vs,hl,q with
  |[],e,_=>rw[GbW] at e;omega
  |[_],e,_=>rw[List.length_singleton] at e;omega
  |v1::v2::vr,_,q=>
   rw[keyKind_ints q]
   exact Gaf (h _ (.inl ⟨hok,rfl⟩))
 ·have hok' :=hok
  rw[Gbd] at hok'
  rcases hok' with a1|a1
  ·obtain⟨fs,gs,q1,q2,q3,q4⟩:=oN (s:=s) (by decide) hK a1
   refine kat_kind (T:= .type "int") q1 (by rw[q4,←hl];omega) (λv hv=> ?_) (by rfl) (h _ (.inr ⟨hok,hc,rfl⟩))
   obtain⟨g,hg,hgv⟩:∃g∈gs,FlV g v:=by
    clear q1 q3 q4
    induction q2 with
    |nil=>cases hv
    |cons p t ih=>
     rcases GaA.mp hv with e|e
     ·subst e;exact⟨_,Gap,p⟩
     ·obtain⟨g,h1,h2⟩:=ih e;exact⟨g,Gaj _ h1,h2⟩
   exact(Bj hgv (q3 g hg)).1 rfl
  ·obtain⟨fs,gs,q1,q2,q3,q4⟩:=oN (s:=s) (by decide) hK a1
   refine kat_kind (T:= .type "str") q1 (by rw[q4,←hl];omega) (λv hv=> ?_) (by rfl) (h _ (.inr ⟨hok,hc,rfl⟩))
   obtain⟨g,hg,hgv⟩:∃g∈gs,FlV g v:=by
    clear q1 q3 q4
    induction q2 with
    |nil=>cases hv
    |cons p t ih=>
     rcases GaA.mp hv with e|e
     ·subst e;exact⟨_,Gap,p⟩
     ·obtain⟨g,h1,h2⟩:=ih e;exact⟨g,Gaj _ h1,h2⟩
   exact(Bj hgv (q3 g hg)).2 rfl
theorem vH{l:Addr}{o:Obj}{vs:List Value}{n:Nat}{T:String}{Q:List Value→Shared→Prop}(ho:s.heap.get? l=some o)(hc:o.cls= .type T)(hT:T="list"∨T="tuple")(hd:o.data= .seq vs.toArray n)
  (h:Q vs {s with heap:=(s.heap.push (seqObj "list" #[] 0)).update s.heap.objs.size (Obj.mapSeq (· ++vs.toArray))})(hsz:vs.length≤sizeLine):wpAny (model prog w) A (collect (.ref l)) Q E s:=by
 unfold collect
 refine Gaa (wpAny_runValue (GcP entry_proto_collect' ?_))
 show wpAny _ _ (newList []>>=λl0=>again (.builtin "list.__iadd__" ⟨[l0,.ref l],[]⟩)) _ _ s
 refine Gaa (wpAny_newList (Gaf ⟨Code.quiet_builtin _ (by decide+kernel),GcP entry_list_iadd' ?_⟩))
 show wpAny _ _ (Builtin.List.listExtendWith (.ref s.heap.objs.size) (.ref l) (.ref s.heap.objs.size)) _ _ {s with heap:=s.heap.push (seqObj "list" #[] 0)}
 unfold Builtin.List.listExtendWith
 have hol:(s.heap.push (seqObj "list" #[] 0)).get? l=some o:=Gak _ ho
 refine Gaa (wpAny_typeOf (T:=T) ⟨o,hol,hc⟩ ?_)
 rw[Gah (by rcases hT with rfl|rfl<;>simp<;>first|(left;right;rfl)|(right;rfl)|rfl)]
 refine Gaa (listItems_at hol hd ?_)
 refine Gaa (listItems_at (xs:=#[]) (n:=0) (GaD _ rfl) rfl ?_)
 rw[Gag (by simp)]
 refine Gaa (listUpdate_at (xs:=#[]) (n:=0) (GaD _ rfl) rfl ?_ (GbH _) (by simp only[Array.size_append,Gam,GbW];omega))
 refine Gaf ?_
 show wpAny (model prog w) A (load s.heap.objs.size>>=λo=>match o.data with
   | .seq xs _=>pure xs.toList
   |_=>unsupported "internal:collect") Q E {s with heap:=(s.heap.push (seqObj "list" #[] 0)).update s.heap.objs.size (Obj.mapSeq (· ++vs.toArray))}
 refine Gaa (wpAny_load (get?_update_seq (GaD _ rfl) _) ?_)
 have e:((#[]:Array Value)++vs.toArray).toList=vs:=by simp
 show wpAny _ _ (pure ((#[]:Array Value)++vs.toArray).toList) Q E _
 rw[e]
 exact Gaf h
end
section
variable{X:Cx}
theorem M3{K:aD}{F:Addr→Prop}{H:Hp}{d:D}{v:V}{u:Value}(r:Rep K F H d v)(hf:mj d=true)(ru:RelV v u):FlV d u:=by
 cases r<;>simp[mj,tyD] at hf
 ·cases ru;rfl
 ·exact ru
 ·exact ru
theorem Eg{K:aD}{F:Addr→Prop}{H:Hp}:∀{ds:List D} {vs:List V} {us:List Value},aX K F H ds vs→ds.all mj=true→Vals vs us→Paired FlV ds us
 |[],vs,us,r,_,ru=>by
  have:=r.cU
  subst this
  cases ru
  exact .nil
 |d::ds,vs,us,r,hf,ru=>by
  obtain⟨v,w,rfl,h1,h2⟩:=r.cons_inv
  rw[GbC,Gas] at hf
  cases ru with
  |cons r1 r2=>exact .cons (M3 h1 hf.1 r1) (Eg h2 hf.2 r2)
noncomputable def isKey(d:D):Bool:=match d with
 | .int _=>true
 | .tup fs=>fs.all mj
 |_=>false
theorem n4{pins:List (Addr×Obj)}{σ:St}{F:Addr→Prop}{H:Hp}{s:Shared}{d:D}{v:V}{u:Value}(I:Inv X pins σ H s)(r:Rep X.K F H d v)(hk:isKey d=true)(ru:RelV v u):nN s.heap d u:=by
 cases r<;>simp[isKey] at hk
 ·exact ru
 ·rename_i a vs fs h l r
  cases ru
  obtain⟨its,rv,⟨o,h1,h2,n,h3⟩,_⟩:=I.tuple (SqT.of h)
  exact⟨a,o,n,its,rfl,h1,h2,h3,Eg ⟨l,r⟩ (Gat.mpr hk) rv⟩
theorem Bk{pins:List (Addr×Obj)}{σ:St}{F:Addr→Prop}{H:Hp}{s:Shared}(I:Inv X pins σ H s):∀{ds:List D} {vs:List V} {us:List Value},aX X.K F H ds vs→ds.all isKey=true→Vals vs us→Paired (nN s.heap) ds us
 |[],vs,us,r,_,ru=>by
  have:=r.cU
  subst this
  cases ru
  exact .nil
 |d::ds,vs,us,r,hf,ru=>by
  obtain⟨v,w,rfl,h1,h2⟩:=r.cons_inv
  rw[GbC,Gas] at hf
  cases ru with
  |cons r1 r2=>exact .cons (n4 I h1 hf.1 r1) (Bk I h2 hf.2 r2)
theorem Eh{ds:List D}(h:keysOk ds=true):ds.all isKey=true:=by
 unfold keysOk at h
 rw[Gbd,Gas,Gbd] at h
 refine Gat.mpr λd hd=> ?_
 have tup:∀t,t≠3→ds.all (mq t)=true→isKey d=true:=λt ht hk=>by
  obtain⟨f,r,rfl,_,q1⟩:=m8 ht (Gat.mp hk d hd)
  exact q1
 rcases h with h| ⟨h|h,_⟩
 ·obtain⟨i,rfl⟩:=jP (Gat.mp h d hd);rfl
 ·exact tup 1 (by decide) h
 ·exact tup 2 (by decide) h
theorem range_getD{α:Type}{xs:List α}{d:α}:(List.range xs.length).map (λi=>xs.getD i d)=xs:=by
 apply List.ext_getElem
 ·simp
 ·intro i h1 h2
  simp[h2]
theorem qJ{α:Type}{xs:List α}{d:α}{p:Array Nat}(h:Ord xs.length p):(p.toList.map λi=>xs.getD i d).Perm xs:=by
 have:=Gdn (λi=>xs.getD i d) h
 rw[range_getD] at this
 exact this
theorem Ej{n:Nat}{p:Array Nat}(h:Ord n p){i:Nat}(hi:i<p.toList.length):p.toList[i]<n:=Gbi.mp (h.mem_iff.mp (GaC hi))
theorem Ah{ds:List D}{p:Array Nat}(h:Ord ds.length p)(hu:Up (rank (ds.map code)) p ds.length):f7 (p.toList.map λi=>ds.getD i .non):=by
 refine Gct.mpr λi j hi hj hij=> ?_
 rw[Gae] at hi hj
 rw[Gcg,Gcg]
 have bi:=Ej h hi
 have bj:=Ej h hj
 have hs:=h.size
 have hi' :i<p.size:=by simpa using hi
 have hj' :j<p.size:=by simpa using hj
 have u:=hu i j (Gds hij) (by omega)
 unfold ui at u
 have ei:p.getD i 0=p.toList[i]:=by simp[Array.getD,hi']
 have ej:p.getD j 0=p.toList[j]:=by simp[Array.getD,hj']
 rw[ei,ej] at u
 have r:=B4 (cs:=ds.map code) (i:=p.toList[j]) (j:=p.toList[i]) (by simpa using bj) (by simpa using bi)
 rw[GaE (Int.not_lt.mpr u)] at r
 simp only[Gcg] at r
 have gd:∀{k:Nat} (hk:k<ds.length),ds.getD k .non=ds[k]:=λ{k} hk=>by simp[hk]
 have gi:=gd bi
 have gj:=gd bj
 rw[gi,gj]
 exact r.symm
theorem Ek{K:aD}{F:Addr→Prop}{H:Hp}{ds:List D}{vs:List V}{p:Array Nat}(h:Ord ds.length p)(r:aX K F H ds vs):aX K F H (p.toList.map λi=>ds.getD i .non) (p.toList.map λi=>vs.getD i .non):=by
 refine⟨by simp,λi d v e1 e2=> ?_⟩
 rw[Gan] at e1 e2
 cases q:p.toList[i]? with
 |none=>rw[q] at e1;cases e1
 |some k=>
  rw[q] at e1 e2
  have hk:k<ds.length:=Gbi.mp (h.mem_iff.mp (GaL q))
  have hk2:k<vs.length:=by rw[←r.1];exact hk
  cases e1;cases e2
  exact r.2 k _ _ (by simp[hk]) (by simp[hk2])
theorem El{vs:List V}{us:List Value}{p:Array Nat}(h:Ord vs.length p)(r:Vals vs us):Vals (p.toList.map λi=>vs.getD i .non) (p.toList.map λi=>us.getD i Value.none):=by
 have hl:=r.length
 have all:∀(l:List Nat),(∀i∈l,i<vs.length)→Vals (l.map λi=>vs.getD i .non) (l.map λi=>us.getD i Value.none):=by
  intro l
  induction l with
  |nil=>intro _;exact .nil
  |cons i l ih=>
   intro hm
   have hi:=hm i Gap
   obtain⟨u,hu,ru⟩:=r.get (x:=vs[i]) (i:=i) (by simp[hi])
   refine .cons ?_ (ih λj hj=>hm j (Gaj _ hj))
   have e1:vs.getD i .non=vs[i]:=by simp[hi]
   have e2:us.getD i Value.none=u:=by simp[hu]
   show RelV (vs.getD i .non) (us.getD i Value.none)
   rw[e1,e2];exact ru
 exact all _ λi hi=>Gbi.mp (h.mem_iff.mp hi)
end
open PySem PySem.Spec PyProof.Rows L2
section
variable{X:Cx}{e a b c:Expr}{f g h:DE}{pos:Pos}
theorem _root_.L2.Inv.qK{pins:List (Addr×Obj)}{σ:St}{H:Hp}{s s' :Shared}{ch:List Addr}{T:Addr}{o:HO}(I:Inv X pins σ H s)(hf:∀b∈ch,mY X pins H b)(hos:s'.os=s.os)(hg:s'.gens=s.gens)
  (k:∀b u,b∉ch→s.heap.get? b=some u→s'.heap.get? b=some u)(hT:s.heap.objs.size≤T)(new:cz X.prog X.w (upd H T o) s'.heap T o):Inv X pins σ (upd H T o) s' :=by
 have hn:H T=none:=I.hok.fresh hT
 have ne:∀{b u},H b=some u→b≠T:=λ{b u} q=>dR q hn
 refine I.HM (ch:=ch) hos ⟨λb ob q _ _ hx=>k b ob hx q,λb ob q _ _ hx=> ⟨ob.slots,k b ob hx q⟩,λb ob q n _=> ?_,λb ob q hx=> ⟨ob,k b ob hx q⟩,λb xs q=> ?_,λb ob u q=> ?_,λb ps q=> ⟨#[], ?_⟩⟩ ?_ (by rw[hg];exact I.bare) λb hb=> ⟨(hf b hb).2.2.2.1,(hf b hb).2.1,(hf b hb).2.2.2.2.1,(hf b hb).2.2.2.2.2⟩
 ·rw[ax (GaP (GaR (Gaz q) hT))];exact n
 ·rw[ax (ne q)];exact q
 ·rw[ax (ne q)];exact q
 ·rw[ax (ne q),q];simp
 ·intro b u q
  by_cases hb:b=T
  ·subst hb;rw[aK] at q;cases q;exact new
  ·rw[ax hb] at q
   have tr:∀{c v},H c=some v→c∉ch:=λ{c v} z hc=>by rw[(hf c hc).1] at z;cases z
   refine(I.hok b u q).dP (λc v hc z=>k c v ?_ z) (λc z=>by rw[ax (ne z)];exact z) λc xs z=>by rw[ax (ne z)];exact z
   rcases hc with hc|hc
   ·rw[hc];exact tr q
   ·exact tr hc
noncomputable def Ite(K:aD)(l:Addr):It:=
 ⟨λi H=>∃xs x,SqL K H l xs∧xs[i]? =some x,λi H x H' =>∃p y,H p=none∧x= .ref p∧H' =upd H p (.tup [.int i,y])∧∀xs,SqL K H l xs→xs[i]? =some y,λi H=>∃xs,SqL K H l xs∧xs.length≤i⟩
theorem Cn{P:Program}{w:World}{K:aD}{elts:List Expr}{x1}{tp:Pos}(en it l:Addr)(hne:en≠it):Turn P w K (.Tuple elts x1 tp) (Ite K l) [en,it] en (λi h=>(∃old,IsEnum h en it i old)∧h.IsListIter it l i) where
 mem:=by simp
 obj:=λi h st b hb=>by
  obtain⟨⟨old,he⟩,o,e,c,d⟩:=st
  rcases GaA.mp hb with z|z
  ·subst z
   exact⟨_,he,λv z=>by
    have z' :Data.fields _=Data.cell v:=z
    cases z'⟩
  ·have z' :b=it:=by simpa using z
   subst z'
   exact⟨o,e,λv z=>by rw[d] at z;cases z⟩
 keep:=λi h h' st k=> ⟨let⟨old,he⟩:=st.1;⟨old,k en (by simp) _ he⟩,st.2.at λo e=>k it (by simp) o e⟩
 item:=by
  intro X hP hw hK hc i pins s σ H E I hf st hg
  subst hP hw hK
  obtain⟨⟨old,he⟩,hit⟩:=st
  obtain⟨xs,x,hq,hx⟩:=hg
  obtain⟨its,rv,p,hz⟩:=I.list hq
  obtain⟨u,hu,ru⟩:=rv.get hx
  refine wpAny_pyNext_enum_item he hit p.isList (x:=u) (by simpa using hu) hne λh' ho hit' hT hsz kk=> ⟨_,rfl, ?_⟩
  refine wpAny_letOwnedTupleGo_enum (s:={s with heap:=h',toks:=s.toks+1}) ho λh2 he2 sb=> ?_
  have hltE:en<s.heap.objs.size:=Gaz he
  have kept:∀b o,b∉[en,it]→s.heap.get? b=some o→h2.get? b=some o:=λb o hb e=>by
   have b1:b≠en:=λz=>hb (by simp[z])
   have b2:b≠it:=λz=>hb (by simp[z])
   exact(sb.2 b b1).trans (kk b o b1 b2 e)
  have hT2:h2.get? s.heap.objs.size=some {cls:= .type "tuple",data:= .seq #[.int i s.toks,u]}:=(sb.2 _ (GbV hltE)).trans hT
  have I1:Inv X pins σ (upd H s.heap.objs.size (.tup [.int i,x])) {s with heap:=h2,toks:=s.toks+1}:=I.qK (ch:=[en,it]) hf rfl rfl kept (Gaq _) (by
   refine⟨by simp[GbG],[.int i s.toks,u],.cons ⟨_,rfl⟩ (.cons ru .nil),_,hT2,rfl,0,rfl⟩)
  refine⟨.ref s.heap.objs.size,_,I1,rfl,⟨_,x,I.fresh,rfl,rfl,λys hy=>by rw[I.uQ hy hq];exact hx⟩,⟨⟨u,by simpa using he2⟩,hit'.at λo e=>(sb.2 it (GaY hne)).trans e⟩,λb hb=> ?_⟩
  obtain⟨o,ob,_⟩:∃o,s.heap.get? b=some o∧True:=by
   rcases GaA.mp hb with z|z
   ·subst z;exact⟨_,he,trivial⟩
   ·have z' :b=it:=by simpa using z
    subst z'
    obtain⟨o,e,_⟩:=hit
    exact⟨o,e,trivial⟩
  rw[ax (GaP (Gaz ob))]
  exact(hf b hb).1
 done:=by
  intro X hP hw hK hc i pins s σ H E I hf st hg
  subst hP hw hK
  obtain⟨⟨old,he⟩,hit⟩:=st
  obtain⟨xs,hq,hx⟩:=hg
  obtain⟨its,rv,p,hz⟩:=I.list hq
  obtain⟨f0,f1,f2,f3,f4,f5⟩:=hf it (by simp)
  have hl:=rv.length
  exact wpAny_pyNext_enum_end (I.ok.hd hc) he hit p.isList (by simp;omega) λh' eb=> ⟨rfl,I.turned (t' :=s.toks) (λb o hb e=>eb b o hb e) f0 f1 f3 f4 f5⟩
 self:=λ_ _ _ _ _ st h=>let⟨old,he⟩:=st.1;Gdd he h
theorem Em{prog:Program}{w:World}{A:Around}{E:Value→Shared→Prop}{z:Shared}{it t:Addr}{i:Nat}{its:Array Value}{x:Value}{Q:Value→Shared→Prop}(hit:z.heap.IsTupleIter it t i)(ht:z.heap.IsTuple t its)(hx:its[i]? =some x)
  (hQ:∀h',h'.IsTupleIter it t (i+1)→Heap.SameBut it z.heap h' →Q x {z with heap:=h' }):wpAny (model prog w) A (Builtin.SmallTypes.nextOf (.ref it)) Q E z:=by
 obtain⟨o,ho,hc,hd⟩:=id hit
 obtain⟨ol,hol,_,nl,hdl⟩:=ht
 unfold Builtin.SmallTypes.nextOf
 refine Gaa (GbE (name:=Str.ofString "__next__") hit.typeIs Gcs (GbA Gcs hit.typeIs F.entry_tuple_iterator_next ?_ (F.args_tuple_iterator_next_1 _)))
 show wpAny _ _ (field (.ref it) 0>>=_) _ _ z
 refine Gaa (Gbu ho hd (x:= .ref t) rfl ?_)
 show wpAny _ _ (if(Value.ref t==Value.none)=true then _ else _) _ _ z
 rw[Gag (by simp)]
 show wpAny _ _ (field (.ref it) 1>>=_) _ _ z
 refine Gaa (Gbu ho hd (x:= .int i 0) rfl ?_)
 show wpAny _ _ (seqItems? (.ref t)>>=_) _ _ z
 refine Gaa (GcV hol hdl ?_)
 simp only[GaQ,hx]
 refine Gaa (wpAny_setField ho hd (by simp) (Gaf ⟨x,rfl,Gaf (hQ _ ?_ (Gcc ..))⟩))
 exact⟨_,Gco _ ho (Obj.isFreed_of_fields (Obj.data_mapFields hd _)),(Obj.cls_mapFields ..).trans hc,by rw[Obj.data_mapFields hd];simp[rawInt]⟩
theorem Bl{prog:Program}{w:World}{A:Around}{E:Value→Shared→Prop}{z:Shared}{it t:Addr}{i:Nat}{its:Array Value}{Q:Value→Shared→Prop}(hh:A.handled=none)(hit:z.heap.IsTupleIter it t i)(ht:z.heap.IsTuple t its)(hx:its[i]? =none)
  (hE:∀h' e,Heap.ExtBut it z.heap h' →(∃o,h'.get? e=some o∧o.cls= .type "StopIteration")→E (.ref e) {z with heap:=h' }):wpAny (model prog w) A (Builtin.SmallTypes.nextOf (.ref it)) Q E z:=by
 obtain⟨o,ho,hc,hd⟩:=id hit
 obtain⟨ol,hol,_,nl,hdl⟩:=ht
 unfold Builtin.SmallTypes.nextOf
 refine Gaa (GbE (name:=Str.ofString "__next__") hit.typeIs Gcs (GbA Gcs hit.typeIs F.entry_tuple_iterator_next ?_ (F.args_tuple_iterator_next_1 _)))
 show wpAny _ _ (field (.ref it) 0>>=_) _ _ z
 refine Gaa (Gbu ho hd (x:= .ref t) rfl ?_)
 show wpAny _ _ (if(Value.ref t==Value.none)=true then _ else _) _ _ z
 rw[Gag (by simp)]
 show wpAny _ _ (field (.ref it) 1>>=_) _ _ z
 refine Gaa (Gbu ho hd (x:= .int i 0) rfl ?_)
 show wpAny _ _ (seqItems? (.ref t)>>=_) _ _ z
 refine Gaa (GcV hol hdl ?_)
 simp only[GaQ,hx]
 refine Gaa (GbX (Gaa (wpAny_setField ho hd (by simp) ?_)))
 show wpAny _ _ (newExc (.type "StopIteration") []>>=_) _ _ _
 refine Gaa ?_
 simp only[newExc,newTuple]
 refine Gaa (Gbf ?_ (by size_fits))
 refine Gaa (m:=firstArgMember _ _) (wpAny_of_eq (a:=Value.none) rfl ?_)
 refine Gbf ?_ (by size_fits)
 simp only[raiseNew]
 refine Gaa (wpAny_handled ?_)
 rw[show A.in1.handled=none from hh]
 refine Gaa (Gaf (wpAny_throw (hE _ _ ?_ ⟨_,GaD _ rfl,rfl⟩)))
 exact((Gcc ..).extBut.push _).push _
theorem Co{prog:Program}{w:World}{A:Around}(hh:A.handled=none)(it l:Addr)(hne:l≠it)(its:Array Value):Draws prog w A it [it,l] its.size (λi v=>its[i]? =some v) (λi h=>h.IsTupleIter it l i∧h.IsTuple l its) where
 live:=λ_ _ st=>let⟨o,ho,_⟩:=st.1;⟨o,ho⟩
 frame:=λ_ _ _ st hk=> ⟨st.1.at λo e=>hk it (by simp) o e,let⟨o,ho,r⟩:=st.2;⟨o,hk l (by simp) _ ho,r⟩⟩
 item:=λi z Q E hi st hQ=>Em st.1 st.2 (x:=its[i]) (by simp[hi]) λh' hit' hs' =>hQ _ h' z.toks (by simp[hi]) ⟨hit',let⟨o,ho,r⟩:=st.2;⟨o,hs'.extBut _ _ hne ho,r⟩⟩ hs'
 done:=λz Q E st hE=>Bl hh st.1 st.2 (by simp) hE
noncomputable def M4(K:aD)(l:Addr):It:=
 ⟨λi H=>∃xs x,SqT K H l xs∧xs[i]? =some x,λi H x H' =>∃p y,H p=none∧x= .ref p∧H' =upd H p (.tup [.int i,y])∧∀xs,SqT K H l xs→xs[i]? =some y,λi H=>∃xs,SqT K H l xs∧xs.length≤i⟩
theorem Ai{P:Program}{w:World}{K:aD}{elts:List Expr}{x1}{tp:Pos}(en it l:Addr)(hne:en≠it)(hle:l≠en)(hli:l≠it):Turn P w K (.Tuple elts x1 tp) (M4 K l) [en,it] en (λi h=>(∃old,IsEnum h en it i old)∧h.IsTupleIter it l i) where
 mem:=by simp
 obj:=λi h st b hb=>by
  obtain⟨⟨old,he⟩,o,e,c,d⟩:=st
  rcases GaA.mp hb with z|z
  ·subst z
   exact⟨_,he,λv z=>by
    have z' :Data.fields _=Data.cell v:=z
    cases z'⟩
  ·have z' :b=it:=by simpa using z
   subst z'
   exact⟨o,e,λv z=>by rw[d] at z;cases z⟩
 keep:=λi h h' st k=> ⟨let⟨old,he⟩:=st.1;⟨old,k en (by simp) _ he⟩,st.2.at λo e=>k it (by simp) o e⟩
 item:=by
  intro X hP hw hK hc i pins s σ H E I hf st hg
  subst hP hw hK
  obtain⟨⟨old,he⟩,hit⟩:=st
  obtain⟨xs,x,hq,hx⟩:=hg
  obtain⟨its,rv,p,hz⟩:=I.tuple hq
  obtain⟨u,hu,ru⟩:=rv.get hx
  have hi:i<its.toArray.size:=by
   have:=(Gad.mp hu).1
   simpa using this
  refine wpAny_pyNext_enum_itemD (Co (A:=X.A.in1) (I.ok.hd hc) it l hli its.toArray) he ⟨hit,p⟩ hi hne (by simp[hne,GaY hle]) λu' h' tk hu' ho hit' hT hsz kk=> ⟨_,rfl, ?_⟩
  have hit1:=hit'.1
  have eu:u' =u:=by
   have hu2:its.toArray[i]? =some u:=by simpa using hu
   rw[hu2] at hu';cases hu';rfl
  subst eu
  refine wpAny_letOwnedTupleGo_enum (s:={s with heap:=h',toks:=tk+1}) ho λh2 he2 sb=> ?_
  have hltE:en<s.heap.objs.size:=Gaz he
  have kept:∀b o,b∉[en,it]→s.heap.get? b=some o→h2.get? b=some o:=λb o hb e=>by
   have b1:b≠en:=λz=>hb (by simp[z])
   have b2:b≠it:=λz=>hb (by simp[z])
   exact(sb.2 b b1).trans (kk b o b1 b2 e)
  have hT2:h2.get? s.heap.objs.size=some {cls:= .type "tuple",data:= .seq #[.int i tk,u']}:=(sb.2 _ (GbV hltE)).trans hT
  have I1:Inv X pins σ (upd H s.heap.objs.size (.tup [.int i,x])) {s with heap:=h2,toks:=tk+1}:=I.qK (ch:=[en,it]) hf rfl rfl kept (Gaq _) (by
   refine⟨by simp[GbG],[.int i tk,u'],.cons ⟨_,rfl⟩ (.cons ru .nil),_,hT2,rfl,0,rfl⟩)
  refine⟨.ref s.heap.objs.size,_,I1,rfl,⟨_,x,I.fresh,rfl,rfl,λys hy=>by rw[I.sG hy hq];exact hx⟩,⟨⟨u',by simpa using he2⟩,hit1.at λo e=>(sb.2 it (GaY hne)).trans e⟩,λb hb=> ?_⟩
  obtain⟨o,ob,_⟩:∃o,s.heap.get? b=some o∧True:=by
   rcases GaA.mp hb with z|z
   ·subst z;exact⟨_,he,trivial⟩
   ·have z' :b=it:=by simpa using z
    subst z'
    obtain⟨o,e,_⟩:=hit
    exact⟨o,e,trivial⟩
  rw[ax (GaP (Gaz ob))]
  exact(hf b hb).1
 done:=by
  intro X hP hw hK hc i pins s σ H E I hf st hg
  subst hP hw hK
  obtain⟨⟨old,he⟩,hit⟩:=st
  obtain⟨xs,hq,hx⟩:=hg
  obtain⟨its,rv,p,hz⟩:=I.tuple hq
  obtain⟨f0,f1,f2,f3,f4,f5⟩:=hf it (by simp)
  have hl:=rv.length
  have hT:s.TypeIs (.ref en) "enumerate":=⟨_,he,rfl⟩
  unfold pyNext
  refine Gaa (wpAny_attempt (GbE (name:=Str.ofString "__next__") hT F.slot_enumerate_next (GbA F.slot_enumerate_next hT F.entry_enumerate_next ?_ (F.args_enumerate_next_1 _))))
  show wpAny _ _ (field (.ref en) 2>>=_) _ _ _
  refine Gaa (Gbu he rfl (x:= .ref it) rfl ?_)
  refine Gaa (Bl (A:=X.A.in1) (I.ok.hd hc) hit (show s.heap.IsTuple l its.toArray from p) (by simp;omega) λh' ex he' hx' => ?_)
  obtain⟨o,ho,hcl⟩:=hx'
  refine Gaa (wpAny_isInstance (T:="StopIteration") (b:=true) ⟨o,ho,hcl⟩ isSubtype_stop (Gaf ⟨rfl, ?_⟩))
  exact I.turned (t' :=s.toks) (λb o hb e=>he' b o hb e) f0 f1 f3 f4 f5
 self:=λ_ _ _ _ _ st h=>let⟨old,he⟩:=st.1;Gdd he h
theorem vI(l:Addr)(items:Array Value)(n:Nat)(dct:Option Addr)(sl:Array (Option Value)):
  Meets (Builtin.«enumerate.__new__» ⟨[.type "enumerate",.ref l],[]⟩) (λ_ R s=>s.heap.get? l=some {cls:= .type "tuple",dict:=dct,data:= .seq items n,slots:=sl}∧
   R (.ok (.ret (.ref (s.heap.push {cls:= .type "tuple_iterator",data:= .fields #[.ref l,.int 0 0]}).objs.size)))
    {s with heap:=(s.heap.push {cls:= .type "tuple_iterator",data:= .fields #[.ref l,.int 0 0]}).push {cls:= .type "enumerate",data:= .fields #[.none,.bool false,.ref s.heap.objs.size,rawInt 0,.none,.none]}}):=
 .of_wp λprog w A R s h=>by
  obtain⟨hp,gg,d,tk,os⟩:=s;obtain⟨hl,h⟩:=h
  have hsub:=sub_enumerate
  have hL:Heap.IsTuple (Shared.heap ⟨hp,gg,d,tk,os⟩) l items:=⟨_,hl,rfl,n,rfl⟩
  wp_walk using GcD hl
  refine wpAny_stack_any λst=>Gaf ?_
  split
  ·rename_i c _ _ _ _ _
   cases(c==Value.type "enumerate")<;>(wp_walk using GcD hl,GcT hL)<;>exact⟨_,rfl,h⟩
  ·wp_walk using GcD hl,GcT hL
   exact⟨_,rfl,h⟩
theorem Aj{prog:Program}{w:World}{A:Around}{E:Value→Shared→Prop}{z:Shared}{l:Addr}{items:Array Value}{Q:Value→Shared→Prop}(hL:z.heap.IsTuple l items)
  (h:∀h',IsEnum h' (z.heap.objs.size+1) z.heap.objs.size 0 .none→h'.IsTupleIter z.heap.objs.size l 0→(∀b o,z.heap.get? b=some o→h'.get? b=some o)→Q (.ref (z.heap.objs.size+1)) {z with heap:=h' }):
  wpAny (model prog w) A (call (.type "enumerate") [.ref l]) Q E z:=by
 obtain⟨⟨c,dct,dt,sl⟩,hl,hc,n,hd⟩:=hL
 replace hc:c= .type "tuple":=hc
 replace hd:dt= .seq items n:=hd
 subst hc hd
 refine callType_new F.called_enumerate (by decide) (F.typeCall_enumerate_1 _) (F.newCall_enumerate_1 _) (λobj=>F.args_object_init_2 obj _) F.entry_enumerate_new (vI l items n dct sl) ⟨hl, ?_⟩
 have hz:(z.heap.push {cls:= .type "tuple_iterator",data:= .fields #[.ref l,.int 0 0]}).objs.size=z.heap.objs.size+1:=Gdz ..
 show _∧_
 rw[hz]
 have he:IsEnum ((z.heap.push {cls:= .type "tuple_iterator",data:= .fields #[.ref l,.int 0 0]}).push {cls:= .type "enumerate",data:= .fields #[.none,.bool false,.ref z.heap.objs.size,rawInt 0,.none,.none]}) (z.heap.objs.size+1) z.heap.objs.size 0 .none:=by
  have:=GaD (z.heap.push {cls:= .type "tuple_iterator",data:= .fields #[.ref l,.int 0 0]}) (o:={cls:= .type "enumerate",data:= .fields #[.none,.bool false,.ref z.heap.objs.size,rawInt 0,.none,.none]}) rfl
  rw[hz] at this;exact this
 exact⟨⟨_,he,rfl⟩,h _ he ⟨_,Gak _ (GaD _ rfl),rfl,rfl⟩ λb o x=>Gak _ (Gak _ x)⟩
noncomputable def M5(K:aD)(tl:TA):TI:=λσ H R=>tl σ H λvs H1=>∃l,vs=[.ref l]∧(((∃xs,SqL K H1 l xs)∧R (Ite K l) H1)∨((∃xs,SqT K H1 l xs)∧R (M4 K l) H1))
theorem GK{elts:List Expr}{x1}{tp p:Pos}{ta:TA}(hg:Gl X "enumerate")(hm:X.mg "enumerate"=none)(ha:PA X [a] ta)(hs:starEach [a] X.env=[(false,eval a X.env)]:=by rfl):PI X (.Tuple elts x1 tp) (.Call (.Name "enumerate" p) [a] [] pos) (M5 X.K ta):=by
 intro pins s σ H R I h
 refine Call_ (mX I hg hm uf (Gci (thn (ha pos pins s σ H _ I h) λus s1 ⟨vs,H1,I1,r1,q1⟩=> ?_) hs rfl))
 obtain⟨l,e,q1⟩:=q1
 subst e
 cases r1 with
 |cons r rr=>
  cases rr
  cases r
  have fps:∀b∈[s1.heap.objs.size+1,s1.heap.objs.size],mY X pins H1 b:=λb hb=>by
   rcases GaA.mp hb with z|z
   ·subst z;exact I1.BS (Gdi _) (I1.hok.fresh (Gdi _))
   ·have z' :b=s1.heap.objs.size:=by simpa using z
    subst z'
    exact I1.BS (Gaq _) (I1.hok.fresh (Gaq _))
  rcases q1 with⟨⟨xs,hq⟩,q⟩| ⟨⟨xs,hq⟩,q⟩
  ·obtain⟨its,rv,pl,hz⟩:=I1.list hq
   refine call_enumerate_list pl.isList λh' he hit hsz kk=> ?_
   refine Gdd (s:={s1 with heap:=h' }) he ?_
   exact⟨s1.heap.objs.size+1,[s1.heap.objs.size+1,s1.heap.objs.size],_,_,H1,rfl,I1.kept (t' :=s1.toks) kk,Cn _ _ l (Nat.succ_ne_self _),⟨⟨.none,he⟩,hit⟩,fps,q⟩
  ·obtain⟨its,rv,pl,hz⟩:=I1.tuple hq
   have hlt:l<s1.heap.objs.size:=pl.lt
   refine Aj (show s1.heap.IsTuple l its.toArray from pl) λh' he hit kk=> ?_
   refine Gdd (s:={s1 with heap:=h' }) he ?_
   exact⟨s1.heap.objs.size+1,[s1.heap.objs.size+1,s1.heap.objs.size],_,_,H1,rfl,I1.kept (t' :=s1.toks) kk,Ai _ _ l (Nat.succ_ne_self _) (GaP (Gdc hlt)) (GaP hlt),⟨⟨.none,he⟩,hit⟩,fps,q⟩
theorem uj{elts:List Expr}{x1}{tp p:Pos}(hg:Gl X "enumerate")(hm:X.mg "enumerate"=none)(he:PEd X e f)(hs:starEach [e] X.env=[(false,eval e X.env)]:=by rfl):PId X (.Tuple elts x1 tp) (.Call (.Name "enumerate" p) [e] [] pos) (B5 f):=by
 refine(GK hg hm (a4 he aa hs) hs).aU ?_
 rintro σ H R ⟨H₀,Bad,env,ds,E,hf,k⟩
 obtain⟨⟨kd,d⟩,hr,hf⟩:=bind_some hf
 split at hf
 ·cases hf
 rename_i hk
 split at hf
 ·rename_i xs hd
  have hd' :d= .lst xs:=hd
  subst hd'
  cases hf
  refine⟨H₀,Bad,env,[⟨kd,.lst xs⟩],E,by unfold a5 aq;rw[hr];rfl,λvs H1 s1 Rs=> ?_⟩
  cases Rs with
  |cons Rv tl=>
   cases tl
   have ii:=Rv.inn
   have hno:=Bb E rfl hk Rv
   have E1:=E.mono s1
   cases ii with
   | @lst la lv _ h r=>
    refine⟨_,rfl,.inl ⟨⟨_,.inl h⟩,k _ H1 s1 λHi keep=> ?_⟩⟩
    have hh:Rd Hi la (.lst lv):=by
     rcases h with h| ⟨o,h⟩
     ·exact .inl (keep _ _ h (hno _ rfl))
     ·exact .inr ⟨o,keep _ _ h (hno _ rfl)⟩
    refine⟨λi d hd=> ?_,⟨_,.inl hh,by rw[jM,r.1];exact Gaq _⟩⟩
    rw[jN] at hd
    obtain⟨y,hy,rfl⟩:=Gal.mp hd
    obtain⟨v,h1,h2⟩:=r.get hy
    refine⟨⟨_,v,.inl hh,h1⟩,λz H2 ⟨p,w,hp,ez,eH,ew⟩=> ?_⟩
    subst ez eH
    have:=ew _ (.inl hh)
    rw[h1] at this;cases this
    refine⟨bJ hp, ?_⟩
    have rp:=E1.lY keep h2
    rw[show(((0+i:Nat)):Int)=(i:Int) by simp]
    exact fL hp (.cons (.int _) (.cons rp .nil))
 ·rename_i xs hd
  have hd' :d= .tup xs:=hd
  subst hd'
  cases hf
  refine⟨H₀,Bad,env,[⟨kd,.tup xs⟩],E,by unfold a5 aq;rw[hr];rfl,λvs H1 s1 Rs=> ?_⟩
  cases Rs with
  |cons Rv tl=>
   cases tl
   have ii:=Rv.inn
   have E1:=E.mono s1
   cases ii with
   | @tup la lv _ h r=>
    refine⟨_,rfl,.inr ⟨⟨_,SqT.of h⟩,k _ H1 s1 λHi keep=> ?_⟩⟩
    have hh:Hi la=some (.tup lv):=keep _ _ h λw=>E1.fM w h trivial
    refine⟨λi d hd=> ?_,⟨_,SqT.of hh,by rw[jM,r.1];exact Gaq _⟩⟩
    rw[jN] at hd
    obtain⟨y,hy,rfl⟩:=Gal.mp hd
    obtain⟨v,h1,h2⟩:=r.get hy
    refine⟨⟨_,v,SqT.of hh,h1⟩,λz H2 ⟨p,w,hp,ez,eH,ew⟩=> ?_⟩
    subst ez eH
    have:=ew _ (SqT.of hh)
    rw[h1] at this;cases this
    refine⟨bJ hp, ?_⟩
    have rp:=E1.lY keep h2
    rw[show(((0+i:Nat)):Int)=(i:Int) by simp]
    exact fL hp (.cons (.int _) (.cons rp .nil))
 ·cases hf
end
open PySem PySem.Spec PyProof.Rows L2
open PySem PySem.Spec PyProof.Rows L2
namespace Fr
end Fr
noncomputable def vJ(h:Heap)(it a:Addr)(i:Int):Prop:=∃o,h.get? it=some o∧o.cls= .type "reversed"∧o.data= .fields #[.ref a,rawInt i]
section
variable{prog:Program}{w:World}{A:Around}{E:Value→Shared→Prop}{z:Shared}
theorem vJ.ty{it a:Addr}{i:Int}(x:vJ z.heap it a i):z.TypeIs (.ref it) "reversed":=let⟨o,ho,hc,_⟩:=x;⟨o,ho,hc⟩
theorem vJ.at{h h' :Heap}{it a:Addr}{i:Int}(x:vJ h it a i)(e:∀o,h.get? it=some o→h'.get? it=some o):vJ h' it a i:=let⟨o,ho,r⟩:=x;⟨o,e _ ho,r⟩
end
open PySem PySem.Spec PyProof.Rows L2
section
variable{X:Cx}{e a b c:Expr}{f g h:DE}{pos:Pos}
theorem En{xs:List V}{its:List Value}(r:Vals xs its){x:V}{u:Value}(hx:RelV x u)(j:Int):Vals (gn xs j x) (PySem.W.kl_ins its j u):=by
 have hl:=r.length
 unfold gn PySem.W.kl_ins
 rw[hl]
 have tk:∀{xs:List V} {its:List Value} (r:Vals xs its) (n:Nat),Vals (xs.take n) (its.take n):=by
  intro xs its r
  induction r with
  |nil=>intro n;simp;exact .nil
  |cons h t ih=>intro n;cases n with
   |zero=>exact .nil
   |succ n=>exact .cons h (ih n)
 have dr:∀{xs:List V} {its:List Value} (r:Vals xs its) (n:Nat),Vals (xs.drop n) (its.drop n):=by
  intro xs its r
  induction r with
  |nil=>intro n;simp;exact .nil
  |cons h t ih=>intro n;cases n with
   |zero=>exact .cons h t
   |succ n=>exact ih n
 exact(tk r _).append (.cons hx (dr r _))
noncomputable def GL:V→List V→Hp→VK→Prop:=λx vs H Q=>∃l xs j y,x= .ref l∧vs=[.int j,y]∧H l=some (.lst xs)∧xs.length<sizeLine∧-(2^62)≤j∧j<2^62∧Q .non (upd H l (.lst (gn xs j y)))
theorem Cp:MtM X "list.insert" GL:=by
 intro pins z σ H x vs v us Q I rx rv h
 obtain⟨l,xs,j,y,rfl,rfl,hH,hz,h1,h2,q⟩:=h
 cases rx
 cases rv with
 |cons r1 t1=>
  cases t1 with
  |cons r2 t2=>
   cases t2
   obtain⟨t,rfl⟩:=r1
   rename_i u
   obtain⟨_,its,n,r,hl,e⟩:=I.G9 hH
   have hfit:Builtin.List.listFitsIndex j=true:=by simp[Builtin.List.listFitsIndex];omega
   refine call_meets F.slot_list_insert ⟨_,e,rfl⟩ F.entry_list_insert (F.args_list_insert_3 _ _ _) (PySem.AutoSeq1.list_insert_list_int_val_1 l its.toArray n j t u (by simp[hfit]) (by rw[Gam];omega)) ⟨e, ?_⟩
   refine⟨.non,_,I.J1 (its' :=PySem.W.kl_ins its j u) hH e ?_ (En r r2 j) ?_,rfl,q⟩
   ·show(its.toArray.extract 0 _).push u++its.toArray.extract _=_
    rw[PySem.W.kl_ins_eq]
    simp only[Gam]
    rfl
   ·rw[sS];omega
theorem Cq{i:Nat}{x:Str}{px apos cpos:Pos}(hN:X.N[i]? =some x)(hv:Vis X.env.scope x)(he:PEd X e f)(ha:PEd X a g)(hd:(x==("__debug__":Str))=false:=by decide)(hcd:(x==("__classdict__":Str))=false:=by decide)
  (hs1:starEach [e,a] X.env=(false,eval e X.env)::starEach [a] X.env:=by rfl)(hs2:starEach [a] X.env=[(false,eval a X.env)]:=by rfl)
  (hbase:attributeBase (.Name x px) "insert" X.env (eval (.Name x px) X.env)=eval (.Name x px) X.env:=by rfl)
  (hfew:((backTo cpos (starEach [e,a] X.env)).all (λx=> !x.1)&&(backToKw cpos (keywordEach [] X.env)).all (λx=>x.1.isSome)
   &&decide (([e,a]:List Expr).length+([]:List Keyword).length+(if([]:List Keyword).isEmpty then 0 else 1)<30))=true:=by rfl)
  (hline:(apos.endLine==cpos.line)=true:=by rfl)(hs:swapsWith (.Call (.Attribute (.Name x px) "insert" apos) [e,a] [] cpos) none pos.line X.env=pure false:=by rfl):
  PSd X (.Expr (.Call (.Attribute (.Name x px) "insert" apos) [e,a] [] cpos) pos) (LM i f g):=by
 refine(pZ (AY GcB PySem.F.slot_list_insert PySem.F.type_list_insert Cp (kK hN hv hd hcd) (a4 he (a4 ha aa hs2) hs1) hbase hfew hline hs1 (by rw[hs2];rfl)) hs).aU ?_
 rintro D σ H ⟨H₀,Bad,env,o,E,e,k⟩
 obtain⟨r,hr,e⟩:=bind_some e
 obtain⟨r2,hr2,e⟩:=bind_some e
 obtain⟨d,hd,e⟩:=bind_some e
 have q:=nI hd
 obtain⟨kd,rd⟩:=r
 split at e
 ·rename_i xs j hj
  have hj' :rd= .int j:=hj
  split at e
  ·rename_i z
   rw[Gas,Gas] at z
   obtain⟨z1,z2,z3⟩:=z
   cases e
   subst hj'
   obtain⟨a,h1,h2,h3,h4,h5,h6⟩:=E.ow i _ (.inl q)
   obtain⟨vs,hH,rp⟩:=nJ h4 h6
   refine⟨_,h1,.inl ⟨rfl,vs,.inl (.inl hH)⟩,H₀,Bad,env,[⟨kd,.int j⟩,r2],E,by unfold a5 aq;rw[hr,hr2];rfl,λws H2 s2 Rs=> ?_⟩
   cases Rs with
   | @cons _ v _ _ R1 tl=>
    cases tl with
    | @cons _ v2 _ _ R2 tl=>
    cases tl
    have i1:=R1.inn
    cases i1
    have hH2:=s2 _ _ hH
    have sj:=fO z3
    refine⟨a,vs,j,v2,rfl,rfl,hH2,by rw[←rp.1,←size_eq];exact Gaw z2,sj.1,sj.2, ?_⟩
    have E2:=E.mono s2
    have rep1:=R2.rep E z1
    have rp1:aX X.K (Cln Bad env σ) H2 xs vs:=rp.gen (.of_same s2) λ_ f _=>f
    have rp2:aX X.K (Cln Bad env σ) H2 (gn xs j r2.d) (gn vs j v2):=by
     unfold gn
     rw[←rp1.1]
     exact(rp1.take _).append (.cons rep1 (rp1.drop _))
    obtain⟨E3,p3⟩:=E2.change (d' := .lst (gn xs j r2.d)) (o:= .lst (gn vs j v2)) q h1 trivial rfl (.lst (.inl aK) (rp2.gen (λb o hb w=>by
     have:b≠a:=by
      rintro rfl
      rcases w with w|w
      ·exact w.2 i (by rw[q];trivial) h1
      ·rw[hH2] at hb;cases hb;exact w
     rw[ax this];exact hb) λ_ f _=>f))
    exact k σ _ E3 ((Stp.of_same s2).trans p3)
  ·cases e
 ·cases e
theorem vK{K:aD}{F:Addr→Prop}{H:Hp}{α:Type}{dd:α→D}{vv:α→V}(h:∀n,Rep K F H (dd n) (vv n)):∀{l:List α},aX K F H (l.map dd) (l.map vv)
 |[]=> .nil
 |x::l=> .cons (h x) (vK h)
end
noncomputable def Jp(prog:Program)(w:World)(A:Around)(op:CmpOp)(G:Shared→Prop)(P:Nat→Value→Prop)(bt:Nat→Nat→Bool):Prop:=
 ∀i j vi vj (z:Shared) (Q:Value→Shared→Prop) (E:Value→Shared→Prop),G z→P i vi→P j vj→Q (.bool (bt i j)) z→wpAny (model prog w) A (richCompare op vi vj) Q E z
section
variable{prog:Program}{w:World}{A:Around}{R:Result→Shared→Prop}{I:Addr}{fp wr:List Addr}{n:Nat}{P:Nat→Value→Prop}{St:Nat→Heap→Prop}{G:Shared→Prop}{kw:List (Str×Value)}
theorem GN{id:String}{b:Builtin}{args:List Value}{kw:List (Str×Value)}{E:Value→Shared→Prop}{z:Shared}{Q:Value→Shared→Prop}(hk:builtinKind id=none)(hp:plainId id=true)(hb:entryFor table id=some b)(ha:argsOk id ⟨args,kw⟩)
  (hc:wpAny (model prog w) A.in1 (b ⟨args,kw⟩) (λfin s' =>match fin with
   | .done f=>(match(Except.ok f:Result) with| .ok (.ret v)=>Q v s' | .ok _=>False| .error e=>E e s')
   | .again c' =>c'.quiet=true∧codeAny (model prog w) A c' (λr s' =>match r with| .ok (.ret v)=>Q v s' | .ok _=>False| .error e=>E e s') s') E z):wpAny (model prog w) A (call (.builtin id) args kw) Q E z:=by
 refine wpAny_call (codeAny_call_builtin hp hb ?_)
 simp only[checkBuiltinCall,hk]
 cases hsig:Manifest.signature? id with
 |none=>exact Gaf hc
 |some sig=>
  simp only[argsOk,hsig] at ha
  have h2:Bind.checkArgs id sig ⟨args,kw⟩=pure ():=ha
  show wpAny _ A.in1 (Bind.checkArgs id sig ⟨args,kw⟩) _ _ z
  rw[h2];exact Gaf hc
theorem Eo(W:Walks prog w A.in1 I fp wr n P St)(bt:Nat→Nat→Bool)(hcmp:Jp prog w A.in1 .Gt G P bt)(B:Addr)(hSf:B∉fp):∀(k j:Nat) (z:Shared) (vb:Value) (c:Nat),n -(j+1)=k→j+1≤n→St (j+1) z.heap→P (argBest bt j) vb→
  (∀h' tk,(∀b o,b∉wr→b≠B→z.heap.get? b=some o→h'.get? b=some o)→G {z with heap:=h',toks:=tk})→z.heap.get? B=some {cls:= .type "list",dict:=none,data:= .seq #[vb,vb] c,slots:=#[]}→
  (∀v h' tk,P (argBest bt (n -1)) v→(∀b o,b∉wr→b≠B→z.heap.get? b=some o→h'.get? b=some o)→R (.ok (.ret v)) {z with heap:=h',toks:=tk})→codeAny (model prog w) A (.builtin "max.loop" ⟨[.ref I,.none,.ref B],kw⟩) R z:=by
 have hBw:B∉wr:=λh=>hSf (W.sub _ h)
 have hname:(toString "max"++toString ".loop":String)="max.loop":=by decide
 intro k
 induction k with
 |zero=>
  intro j z vb c hk hj hst hPb hG hB hR
  have hin:j+1=n:=by omega
  refine GcP F.entry_max_loop ?_
  rw[Gdw Gch _]
  show wpAny _ A.in1 (seqItems? (.ref B)>>=_) _ _ z
  refine Gaa (GcV hB rfl ?_)
  show wpAny _ A.in1 (tryCatch (pyNext (.ref I)) _>>=_) _ _ z
  refine Gaa (GcW (W.done z _ _ (hin▸hst) λh' tk hk' => ?_))
  have hB' :=hk' B _ hBw hB
  show wpAny _ A.in1 (updateSeq B (λ_=>#[])>>=_) _ _ _
  refine Gaa (wpAny_updateSeq hB' rfl (Gaa (wpAny_letGo (Gaf ?_))))
  exact hR vb _ tk (by rw[←hin];exact hPb) λb o hbw hbB e=>(GaZ _ _ (GaY hbB)).trans (hk' b o hbw e)
 |succ k ih=>
  intro j z vb c hk hj hst hPb hG hB hR
  have hlt:j+1<n:=by omega
  refine GcP F.entry_max_loop ?_
  rw[Gdw Gch _]
  show wpAny _ A.in1 (seqItems? (.ref B)>>=_) _ _ z
  refine Gaa (GcV hB rfl ?_)
  show wpAny _ A.in1 (tryCatch (pyNext (.ref I)) _>>=_) _ _ z
  refine Gaa (GcW (W.item (j+1) z _ _ hlt hst λv h' tk hP hst' hk' => ?_))
  have hB' :=hk' B _ hBw hB
  show wpAny _ A.in1 (tryCatch (holding [v,v] (richCompare .Gt v vb>>=_)) _>>=_) _ _ _
  refine Gaa (GcW (Gcr (Gaa (hcmp (j+1) (argBest bt j) v vb _ _ _ (hG h' tk λb o hbw _ e=>hk' b o hbw e) hP hPb ?_))))
  refine Gaa (Gcr (GbF ?_))
  refine Gaa (wpAny_letGo (Gaf ?_))
  cases hb:bt (j+1) (argBest bt j) with
  |true=>
   simp only[Gbj]
   refine Gaa (wpAny_updateSeq hB' rfl (Gaa (wpAny_letGo ?_)))
   rw[hname]
   refine Gaf ⟨plainId_quiet Gch _,ih (j+1) _ v _ (by omega) hlt (W.frame _ _ _ hst' λb hbf o e=> ?_) (by simp only[argBest,hb,Gbj];exact hP) (λh'' tk'' hk'' => ?_) (Gco _ hB' rfl) λv' h'' tk'' hP' hk'' => ?_⟩
   ·exact(GaZ _ _ (λh:B=b=>hSf (by rw[h];exact hbf))).trans e
   ·exact hG h'' tk'' λb o hbw hbB e=>hk'' b o hbw hbB ((GaZ _ _ (GaY hbB)).trans (hk' b o hbw e))
   ·exact hR v' h'' tk'' hP' λb o hbw hbB e=>hk'' b o hbw hbB ((GaZ _ _ (GaY hbB)).trans (hk' b o hbw e))
  |false=>
   simp only[GaB,GaV]
   refine Gaa (wpAny_letGo ?_)
   rw[hname]
   refine Gaf ⟨plainId_quiet Gch _,ih (j+1) _ vb c (by omega) hlt hst' (by simp only[argBest,hb,GaB,GaV];exact hPb) (λh'' tk'' hk'' => ?_) hB' λv' h'' tk'' hP' hk'' => ?_⟩
   ·exact hG h'' tk'' λb o hbw hbB e=>hk'' b o hbw hbB (hk' b o hbw e)
   ·exact hR v' h'' tk'' hP' λb o hbw hbB e=>hk'' b o hbw hbB (hk' b o hbw e)
theorem Cr(W:Walks prog w A.in1 I fp wr n P St)(bt:Nat→Nat→Bool)(hcmp:Jp prog w A.in1 .Gt G P bt)(B:Addr)(hSf:B∉fp){z:Shared}{c:Nat}(hst:St 0 z.heap)
  (hG:∀h' tk,(∀b o,b∉wr→b≠B→z.heap.get? b=some o→h'.get? b=some o)→G {z with heap:=h',toks:=tk})(hB:z.heap.get? B=some {cls:= .type "list",dict:=none,data:= .seq #[] c,slots:=#[]})
  (hE:n=0→∃k d r,kw=(k,d)::r∧∀h' tk,(∀b o,b∉wr→b≠B→z.heap.get? b=some o→h'.get? b=some o)→R (.ok (.ret d)) {z with heap:=h',toks:=tk})
  (hR:0<n→∀v h' tk,P (argBest bt (n -1)) v→(∀b o,b∉wr→b≠B→z.heap.get? b=some o→h'.get? b=some o)→R (.ok (.ret v)) {z with heap:=h',toks:=tk}):codeAny (model prog w) A (.builtin "max.loop" ⟨[.ref I,.none,.ref B],kw⟩) R z:=by
 have hBw:B∉wr:=λh=>hSf (W.sub _ h)
 have hname:(toString "max"++toString ".loop":String)="max.loop":=by decide
 refine GcP F.entry_max_loop ?_
 rw[Gdw Gch _]
 show wpAny _ A.in1 (seqItems? (.ref B)>>=_) _ _ z
 refine Gaa (GcV hB rfl ?_)
 show wpAny _ A.in1 (tryCatch (pyNext (.ref I)) _>>=_) _ _ z
 rcases Nat.eq_zero_or_pos n with hn|hn
 ·obtain⟨k,d,r,rfl,hd⟩:=hE hn
  refine Gaa (GcW (W.done z _ _ (hn▸hst) λh' tk hk' => ?_))
  show wpAny _ A.in1 (rule _>>=_) _ _ _
  exact Gaa (GbX (Gaf (hd h' tk λb o hbw _ e=>hk' b o hbw e)))
 ·refine Gaa (GcW (W.item 0 z _ _ hn hst λv h' tk hP hst' hk' => ?_))
  have hB' :=hk' B _ hBw hB
  show wpAny _ A.in1 (updateSeq B (λ_=>#[v,v])>>=_) _ _ _
  refine Gaa (wpAny_updateSeq hB' rfl ?_)
  rw[hname]
  refine Gaf ⟨plainId_quiet Gch _,Eo W bt hcmp B hSf _ 0 _ v _ rfl hn (W.frame _ _ _ hst' λb hbf o e=> ?_) hP (λh'' tk'' hk'' => ?_) (Gco _ hB' rfl) λv' h'' tk'' hP' hk'' => ?_⟩
  ·exact(GaZ _ _ (λh:B=b=>hSf (by rw[h];exact hbf))).trans e
  ·exact hG h'' tk'' λb o hbw hbB e=>hk'' b o hbw hbB ((GaZ _ _ (GaY hbB)).trans (hk' b o hbw e))
  ·exact hR hn v' h'' tk'' hP' λb o hbw hbB e=>hk'' b o hbw hbB ((GaZ _ _ (GaY hbB)).trans (hk' b o hbw e))
theorem Ak(a d:Value):argsOk "max" ⟨[a],[(Str.ofString "default",d)]⟩:=by unfold argsOk;kernel_rfl
theorem Al{x d:Value}{z:Shared}{E:Value→Shared→Prop}{Q:Value→Shared→Prop}
  (h:wpAny (model prog w) A.in1 (pyIter x) (λit s₂=>∃I fp wr n P St bt G,it= .ref I∧Walks prog w A.in1 I fp wr n P St∧St 0 s₂.heap∧(∀b∈fp,b<s₂.heap.objs.size)∧Jp prog w A.in1 .Gt G P bt∧
   (∀h' tk,(∀b o,b∉wr→s₂.heap.get? b=some o→h'.get? b=some o)→G {s₂ with heap:=h',toks:=tk})∧(n=0→∀h' tk,(∀b o,b∉wr→s₂.heap.get? b=some o→h'.get? b=some o)→Q d {s₂ with heap:=h',toks:=tk})∧
   (0<n→∀v h' tk,P (argBest bt (n -1)) v→(∀b o,b∉wr→s₂.heap.get? b=some o→h'.get? b=some o)→Q v {s₂ with heap:=h',toks:=tk})) E z):
  wpAny (model prog w) A (call (.builtin "max") [x] [(Str.ofString "default",d)]) Q E z:=by
 have hname:(toString "max"++toString ".loop":String)="max.loop":=by decide
 refine GN F.kind_max F.plain_max F.entry_max (Ak _ _) ?_
 show wpAny _ A.in1 (Builtin.Builtins.bindParams "max" ["key","default"] 0 ⟨[],[(Str.ofString "default",d)]⟩>>=_) _ _ z
 refine Gaa (wpAny_of_eq (show Builtin.Builtins.bindParams "max" ["key","default"] 0 ⟨[],[(Str.ofString "default",d)]⟩=pure [none,some d] from rfl) ?_)
 refine Gaa (Gaf ?_)
 refine Gaa (GbK h (λit s₂ h₂=> ?_) λ_ _ e=>e)
 obtain⟨I,fp,wr,n,P,St,bt,G,rfl,W,hst,hfp,hcmp,hG,hE,hQ⟩:=h₂
 refine Gaa (Gbf ?_)
 have hSf:s₂.heap.objs.size∉fp:=λhm=>GbJ _ (hfp _ hm)
 rw[hname]
 have lift:∀{h' :Heap},(∀b o,b∉wr→b≠s₂.heap.objs.size→(s₂.heap.push {cls:= .type "list",data:= .seq #[]}).get? b=some o→h'.get? b=some o)→∀b o,b∉wr→s₂.heap.get? b=some o→h'.get? b=some o:=λhk b o hbw e=>hk b o hbw (GaP (Gaz e)) (Gak _ e)
 refine Gaf ⟨plainId_quiet Gch _,Cr (G:=G) W bt hcmp s₂.heap.objs.size hSf (W.frame _ _ _ hst λb _ o e=>Gak _ e) (λh' tk hk=>hG h' tk (lift hk)) (GaD _ rfl) (λhn=> ⟨_,d,[],rfl,λh' tk hk=>hE hn h' tk (lift hk)⟩) λhn v h' tk hP hk=>hQ hn v h' tk hP (lift hk)⟩
end
section
variable{X:Cx}{e a b c:Expr}{f g h:DE}{pos:Pos}
noncomputable def Jq(K:aD)(dv:V)(t:TA):TE:=λσ H Q=>t σ H λvs H1=>∃(p:Addr) (ns:List Int),vs=[.ref p]∧(SqL K H1 p (ns.map V.int)∨SqT K H1 p (ns.map V.int))∧Q (match ns with|[]=>dv|n::ns=> .int (A8 n ns)) H1
theorem GO{p pos kp:Pos}{dx:Expr}{dv:V}{t:TA}(hc:X.calm=true)(hg:Gl X "max")(hm:X.mg "max"=none)(ha:PA X [e] t)(hd:PE X dx (tC dv))(hs:starEach [e] X.env=[(false,eval e X.env)]:=by rfl):PE X (.Call (.Name "max" p) [e] [⟨some "default",dx,kp⟩] pos) (Jq X.K dv t):=by
 intro pins z σ H Q I h
 refine GcQ (mX I hg hm DZ ?_)
 refine PyProof.Rows.callWith_kw (thn (ha pos pins z σ H _ I h) λus s1 ⟨vs,H1,I1,r1,q1⟩=> ?_) (by rw[hs];rfl) (by rw[hs];rfl) rfl rfl
 obtain⟨l,ns,e1,hq,q⟩:=q1
 subst e1
 cases r1 with
 |cons r rr=>
  cases rr
  cases r
  refine PyProof.Rows.kws_cons (thn (hd pins s1 σ H1 (λv H2=>v=dv∧H2=H1) I1 ⟨rfl,rfl⟩) λdu s2 ⟨v,H2,I2,r2,e2,e3⟩=>PyProof.Rows.kws_nil ?_)
  subst e2 e3
  show wpAny _ _ (call (.builtin "max") [.ref l] [(Str.ofString "default",du)]) _ _ _
  refine Al (vC hc I2 hq λIt fp wr P St s₃ W st lt hP kept=> ⟨It,fp,wr,_,P,St,_,λ_=>True,rfl,W,st,lt,λi j vi vj zz Q' E' _ hi hj hq' =>CmpOf.ints_gt (uh ns) (vF hP) i j vi vj zz Q' E' hi hj hq',λ_ _ _=>trivial,λhn h' tk hk=> ?_,λhn u h' tk hu hk=> ?_⟩)
  ·cases ns with
   |nil=>exact⟨v,H2,kept h' tk hk,r2,q⟩
   |cons n ns=>simp at hn
  ·cases ns with
   |nil=>simp at hn
   |cons n ns=>
    obtain⟨t,rfl⟩:=vF hP _ _ hu
    rw[show((n::ns).map V.int).length -1=ns.length by simp,Ec _ (Gaq _),List.take_length]
    exact⟨.int (A8 n ns),H2,kept h' tk hk,⟨t,rfl⟩,q⟩
theorem GP{p pos kp:Pos}{dx:Expr}{dd:D}{dv:V}(hc:X.calm=true)(hg:Gl X "max")(hm:X.mg "max"=none)(he:PEd X e f)(hd:PE X dx (tC dv))(hdv:∀K F H,Inn K F H dd dv)(ht:dd.top=false)(hs:starEach [e] X.env=[(false,eval e X.env)]:=by rfl):PEd X (.Call (.Name "max" p) [e] [⟨some "default",dx,kp⟩] pos) (mmE A8 dd f):=by
 refine(GO hc hg hm (a4 he aa hs) hd hs).aU ?_
 rintro σ H Q ⟨H₀,Bad,env,rv,E,e,k⟩
 obtain⟨r,hr,e⟩:=bind_some e
 refine⟨H₀,Bad,env,[r],E,by unfold a5 aq;rw[hr];rfl,λvs H1 s1 Rs=> ?_⟩
 cases Rs with
 |cons R1 tl=>
  cases tl
  unfold mmD at e
  obtain⟨ds,h1,e⟩:=bind_some e
  obtain⟨ns,h2,e⟩:=Gal.mp e
  obtain⟨p,vs,rfl,hq,rr⟩:=Ae R1.inn h1
  rw[Bg rr h2] at hq
  refine⟨p,ns,rfl,hq, ?_⟩
  subst e
  cases ns with
  |nil=>exact k _ _ s1 ((hdv _ _ _).rep λa _ w=>by rw[ht] at w;cases w)
  |cons n ns=>exact k _ _ s1 (.int _)
end
noncomputable def uk(h:Heap)(d:Addr)(es:Array DictEntry)(ep:Nat):Prop:=∃o,h.get? d=some o∧o.ExactDict∧o.data= .dict es ep
theorem uk.at{h h' :Heap}{d:Addr}{es:Array DictEntry}{ep:Nat}(x:uk h d es ep)(e:∀o,h.get? d=some o→h'.get? d=some o):uk h' d es ep:=let⟨o,ho,r⟩:=x;⟨o,e _ ho,r⟩
section
variable{prog:Program}{w:World}{A:Around}{E:Value→Shared→Prop}{z:Shared}
theorem uk.ty{d:Addr}{es:Array DictEntry}{ep:Nat}(x:uk z.heap d es ep):z.TypeIs (.ref d) "dict":=let⟨o,ho,hc,_⟩:=x;⟨o,ho,hc.1⟩
end
section
variable{X:Cx}{e a b c:Expr}{f g h:DE}{pos:Pos}
theorem GQ{K:aD}{F:Addr→Prop}{H:Hp}(k:Key):Rep K F H (Jb k) (kV k):=by
 cases k with
 |inl i=>exact .int i
 |inr x=>exact .str x
end
section
variable{X:Cx}{e a b c:Expr}{f g h:DE}{pos:Pos}
theorem Jr{K:aD}{F:Addr→Prop}{H:Hp}{d:D}{v:V}{k:D}{o:Option D}(i:Inn K F H d v)(e:Cd d k=some o):∃p,v= .ref p∧IsD H p:=by
 unfold Cd at e
 split at e
 ·cases i with
  |dK h r=>exact⟨_,rfl,.inl ⟨_,.inl h⟩⟩
 ·cases i with
  |dT h r=>exact⟨_,rfl,.inr ⟨_,.inl h⟩⟩
 ·cases e
theorem Ep{K:aD}{F:Addr→Prop}{H:Hp}{dx dy rd:D}{y vz:V}{p:Addr}{o' :Option D}(ix:Inn K F H dx (.ref p))(iy:Inn K F H dy y)(e:Cd dx dy=some o')(rz:Rep K F H rd vz):∃o,pU H p y o∧Rep K F H (o'.getD rd) (o.getD vz):=by
 obtain⟨g1,g2⟩:=ue ix iy
 have fin:∀{κ:Type} [DecidableEq κ] {kvs:List (κ×D)} {ws:List (κ×V)} {k:κ},b8 K F H kvs ws→Rep K F H ((look kvs k).getD rd) ((gO ws k).getD vz):=λ{κ _ kvs ws k} rp=>by
  cases z:look kvs k with
  |none=>rw[sX rp z];exact rz
  |some d=>obtain⟨v,h1,h2⟩:=nH rp z;rw[h1];exact h2
 unfold Cd at e
 split at e
 ·obtain⟨k',hk,rfl⟩:=Gal.mp e
  obtain⟨q,ws,eq,rp,gg⟩:=g1 _ k' rfl hk
  cases eq
  exact⟨_,gg,fin rp⟩
 ·obtain⟨k',hk,rfl⟩:=Gal.mp e
  obtain⟨q,ws,eq,rp,gg⟩:=g2 _ _ k' rfl rfl hk
  cases eq
  exact⟨_,gg,fin rp⟩
 ·cases e
theorem Bm{apos cpos:Pos}{o:Expr}(hu:X.A.units+1<cLine)(ho:PEd X o f)(he:PEd X a g)(hd:PEd X b h)(m:M2 X o "get" apos a b cpos):PEd X (.Call (.Attribute o "get" apos) [a,b] [] cpos) (Gf f g h):=by
 refine(Du hu ho he hd m).aU ?_
 rintro σ H Q ⟨H₀,Bad,env,rv,E,e,k⟩
 obtain⟨x,hx,e⟩:=bind_some e
 obtain⟨y,hy,e⟩:=bind_some e
 obtain⟨r,hr,e⟩:=bind_some e
 split at e
 ·rename_i hc
  obtain⟨o',e',rfl⟩:=Gal.mp e
  refine⟨H₀,Bad,env,x,E,hx,λvx H1 s1 R1=> ?_⟩
  obtain⟨p,rfl,hD⟩:=Jr R1.inn e'
  refine⟨p,rfl,hD,H₀,Bad,env,y,E.mono s1,hy,λvy H2 s2 R2=> ⟨H₀,Bad,env,r,(E.mono s1).mono s2,hr,λvz H3 s3 R3=> ?_⟩⟩
  have rz:Rep X.K (Cln Bad env σ) H3 r.d vz:=R3.rep ((E.mono s1).mono s2) (by unfold RV.free;rw[hc])
  obtain⟨ov,gg,rp⟩:=Ep ((R1.inn.same s2).same s3) (R2.inn.same s3) e' rz
  exact⟨ov,gg,k _ H3 (s1.trans (s2.trans s3)) rp⟩
 ·cases e
end
section
variable{prog:Program}{w:World}{A:Around}{E:Value→Shared→Prop}{s:Shared}
theorem pW(d:Addr)(hd:(d==sysModules)=false):MeetsIn prog w (Builtin.«dict.items» ⟨[.ref d],[]⟩) (λ_ R s=>s.TypeIs (.ref d) "dict"∧R (.ok (.ret (.ref s.heap.objs.size))) {s with heap:=s.heap.push {cls:= .type "dict_items",data:= .fields #[.ref d]}}):=
 .of_wp λA R s ⟨hm,h⟩=>by
  refine Gaa ?_
  unfold Builtin.Dict.noArgs
  refine Gaa (wpAny_notOrdered_dict hm ?_)
  show wpAny _ _ (pure d) _ _ s
  refine Gaf ?_
  show wpAny _ _ (Builtin.Dict.showsAll d>>=_) _ _ s
  unfold Builtin.Dict.showsAll
  rw[Gag (by rw[hd];exact Gau)]
  refine Gaa (Gaf ?_)
  exact Gaa (Gbf (Gaf ⟨_,rfl,h⟩))
theorem qL{v d:Addr}{es:Array DictEntry}{ep:Nat}{Q:Value→Shared→Prop}(hv:s.heap.IsItemsView v d)(hm:uk s.heap d es ep)
  (hQ:Q (.ref s.heap.objs.size) {s with heap:=s.heap.push {cls:= .type "dict_itemiterator",data:= .fields #[.none,.bool false,.ref d,.int 0 0,.int es.size 0,.int ep 0,.none,.none]}}):wpAny (model prog w) A (pyIter (.ref v)) Q E s:=by
 obtain⟨ov,hov,hcv,hdv⟩:=id hv
 obtain⟨o,ho,hc,hdat⟩:=id hm
 refine wpAny_pyIter_slot hv.typeIs F.slot_dict_items_iter (GbA F.slot_dict_items_iter hv.typeIs F.entry_dict_items_iter ?_ (F.args_dict_items_iter_1 _))
 unfold Builtin.«dict_items.__iter__»
 refine Gaa (Gaf ?_)
 refine Gaa ?_
 unfold Builtin.Dict_items.dictOf
 refine Gaa (Gbu hov hdv (x:= .ref d) rfl (Gaf ?_))
 refine Gaa ?_
 unfold Builtin.Dict_items.newIterator
 refine Gaa (Gde ho hdat ?_)
 refine Gaa (wpAny_dictEpoch ho hdat ?_)
 have hown:Builtin.Dict_items.ownsTuple "dict_itemiterator"=true:=by decide
 simp only[hown,Gbj]
 refine Gbf (Gaf ⟨_,rfl,"dict_itemiterator",_,⟨_,GaD _ rfl,rfl⟩,Gbz.lookup, ?_⟩)
  (by simp only[sizeOk,Builtin.Dict_items.ownedTupleFields,Gam,Gav,GaH,GbW,GbG];omega)
 simpa[rawInt,Builtin.Dict_items.ownedTupleFields] using hQ
noncomputable abbrev ItI (h:Heap) (it d:Addr) (i n ep:Nat) (f0 f1 ok ov:Value):Prop:=h.get? it=some {cls:= .type "dict_itemiterator",dict:=none,data:= .fields #[f0,f1,.ref d,.int i 0,.int n 0,.int ep 0,ok,ov],slots:=#[]}
theorem qM{it d:Addr}{i ep:Nat}{es:Array DictEntry}{f0 f1 ok ov:Value}(hi:i<es.size){Q:Option Value→Shared→Prop}(hit:ItI s.heap it d i es.size ep f0 f1 ok ov)(hm:uk s.heap d es ep)
  (hf:f0= .none∨∃(a:Addr) (oa:Obj) (f:Bool),f0=rawInt a∧f1= .bool f∧s.heap.get? a=some oa∧a≠it)
  (hQ:∀h' g0 g1 ok' ov',ItI h' it d (i+1) es.size ep g0 g1 ok' ov' →((f0= .none∧g0=rawInt s.heap.objs.size∧g1= .bool false)∨(f0≠ .none∧g0=f0∧g1= .bool true))→
   h'.get? s.heap.objs.size=some {cls:= .type "tuple",data:= .seq #[es[i].key,es[i].val]}→h'.objs.size=s.heap.objs.size+1→
   (∀b o,b≠it→s.heap.get? b=some o→h'.get? b=some o)→Q (some (.ref s.heap.objs.size)) {s with heap:=h' }):wpAny (model prog w) A (pyNext (.ref it)) Q E s:=by
 obtain⟨hp,g,dr,tk,os⟩:=s
 obtain⟨od,hod,hcd,hdd⟩:=id hm
 have hT:Shared.TypeIs ⟨hp,g,dr,tk,os⟩ (.ref it) "dict_itemiterator":=⟨_,hit,rfl⟩
 unfold pyNext
 refine Gaa (wpAny_attempt (GbE (name:=Str.ofString "__next__") hT Gbz
  (GbA Gbz hT F.entry_dict_itemiterator_next ?_ (F.args_dict_itemiterator_next_1 _))))
 refine Gaa (Gaf ?_)
 refine Gaa (Gaa ?_)
 first|refine Gaa (GbY hT (Gaf ?_))|refine Gaa (Gcu hT (Gaf ?_))
 refine Gaa (wpAny_fieldsOf hit rfl ?_)
 have hown:Builtin.Dict_items.ownsTuple "dict_itemiterator"=true:=by decide
 simp only[hown,Gbj]
 show wpAny _ _ (if(Value.ref d==Value.none)=true then _ else _) _ _ _
 rw[Gag (show¬((Value.ref d==Value.none)=true) from Gau)]
 refine Gaa (Gaf ?_)
 refine Gaa (Gde hod hdd ?_)
 rw[Gag (by simp)]
 refine Gaa (Gaf ?_)
 refine Gaa (wpAny_dictEpoch hod hdd ?_)
 rw[Gag (by simp)]
 refine Gaf ?_
 simp only[show¬((i:Int)<0) from by omega,GaV,GaQ,Gby hi]
 refine Gaa ?_
 first|refine Gaa (GbY hT (Gaf ?_))|refine Gaa (Gcu hT (Gaf ?_))
 refine Gaa (Gdj hT ?_)
 show wpAny _ _ (setField (.ref it) 3 (rawInt ((i:Int)+1))>>=_) _ _ ⟨hp,g,dr,tk,os⟩
 refine Gaa (GbP hit (by simp) λh₁ he₁ hs₁=> ?_)
 replace hs₁:Heap.SameBut it hp h₁:=hs₁
 replace he₁:ItI h₁ it d (i+1) es.size ep f0 f1 ok ov:=by
  have e:((i+1:Nat):Int)=(i:Int)+1:=by omega
  unfold ItI;rw[e];simpa[rawInt] using he₁
 have hT₁:Shared.TypeIs ⟨h₁,g,dr,tk,os⟩ (.ref it) "dict_itemiterator":=⟨_,he₁,rfl⟩
 refine Gaa (Gcr ?_)
 refine Gaa (Gdj hT₁ ?_)
 refine Gaa (Gdj hT₁ ?_)
 show wpAny _ _ (Builtin.Dict_items.pairFromOwner (.ref it) 6 es[i].key es[i].val) _ _ ⟨h₁,g,dr,tk,os⟩
 unfold Builtin.Dict_items.pairFromOwner
 refine Gaa (wpAny_newTuple ?_)
 have he₂:ItI (h₁.push {cls:= .type "tuple",data:= .seq #[es[i].key,es[i].val]}) it d (i+1) es.size ep f0 f1 ok ov:=Gak _ he₁
 generalize hh₂:h₁.push {cls:= .type "tuple",data:= .seq #[es[i].key,es[i].val]}=h₂ at he₂
 have hz₁:h₁.objs.size=hp.objs.size:=hs₁.1
 have hil:it<hp.objs.size:=Gaz hit
 have ht₂:h₂.get? hp.objs.size=some {cls:= .type "tuple",data:= .seq #[es[i].key,es[i].val]}:=by rw[←hh₂,←hz₁];exact GaD _ rfl
 have hz₂:h₂.objs.size=hp.objs.size+1:=by rw[←hh₂,Gdz,hz₁]
 have hk₂:∀b o,b≠it→hp.get? b=some o→h₂.get? b=some o:=λb o hb e=>by rw[←hh₂];exact Gak _ (hs₁.extBut b o hb e)
 show wpAny _ _ (Builtin.Dict_items.ownedTupleIsFree (.ref it)>>=_) _ _ ⟨h₂,g,dr,tk,os⟩
 rw[hz₁]
 clear hh₂ he₁ hs₁ hT₁ hz₁ h₁
 refine Gaa ?_
 unfold Builtin.Dict_items.ownedTupleIsFree
 rcases hf with rfl| ⟨a,oa,f,rfl,rfl,ha,hai⟩
 ·refine Gaa (Gbu he₂ rfl (x:= .none) rfl (Gaf ?_))
  simp only[Gbj]
  refine Gaa (Gbu he₂ rfl (x:=ok) rfl ?_)
  refine Gaa (Gbu he₂ rfl (x:=ov) rfl ?_)
  refine Gaa (GbP he₂ (by simp) λh₃ he₃ hs₃=> ?_)
  replace hs₃:Heap.SameBut it h₂ h₃:=hs₃
  replace he₃:ItI h₃ it d (i+1) es.size ep .none f1 es[i].key ov:=he₃
  refine Gaa (GbP he₃ (by simp) λh₄ he₄ hs₄=> ?_)
  replace hs₄:Heap.SameBut it h₃ h₄:=hs₄
  replace he₄:ItI h₄ it d (i+1) es.size ep .none f1 es[i].key es[i].val:=he₄
  refine Gaa (GbP he₄ (by simp) λh₅ he₅ hs₅=> ?_)
  replace hs₅:Heap.SameBut it h₄ h₅:=hs₅
  replace he₅:ItI h₅ it d (i+1) es.size ep (rawInt hp.objs.size) f1 es[i].key es[i].val:=he₅
  refine Gaa (GbP he₅ (by simp) λh₆ he₆ hs₆=> ?_)
  replace hs₆:Heap.SameBut it h₅ h₆:=hs₆
  replace he₆:ItI h₆ it d (i+1) es.size ep (rawInt hp.objs.size) (.bool false) es[i].key es[i].val:=he₆
  refine Gaa (wpAny_letGo (Gaf (Gaf ⟨_,rfl,Gaf (hQ h₆ _ _ _ _ he₆ (.inl ⟨rfl,rfl,rfl⟩) ?_ ?_ ?_)⟩)))
  ·exact hs₆.extBut _ _ (GbV hil) (hs₅.extBut _ _ (GbV hil) (hs₄.extBut _ _ (GbV hil) (hs₃.extBut _ _ (GbV hil) ht₂)))
  ·show h₆.objs.size=hp.objs.size+1
   rw[hs₆.1,hs₅.1,hs₄.1,hs₃.1,hz₂]
  ·exactλb o hb e=>hs₆.extBut b o hb (hs₅.extBut b o hb (hs₄.extBut b o hb (hs₃.extBut b o hb (hk₂ b o hb e))))
 ·have ha₂:h₂.get? a=some oa:=hk₂ a oa hai ha
  refine Gaa (Gbu he₂ rfl (x:=rawInt a) rfl ?_)
  show wpAny _ _ (loadIfAlive ((a:Int).toNat)>>=_) _ _ _
  rw[GaQ]
  refine Gaa (PySem.W.kdx_alive ha₂ ?_)
  simp only[Option.isNone_some,GaB,GaV]
  refine Gaa (Gbu he₂ rfl (x:= .bool f) rfl ?_)
  have fin:∀h₃:Heap,ItI h₃ it d (i+1) es.size ep (rawInt a) (.bool true) ok ov→Heap.SameBut it h₂ h₃→Q (some (.ref hp.objs.size)) ⟨h₃,g,dr,tk,os⟩:=λh₃ he₃ hs₃=>
   hQ h₃ _ _ _ _ he₃ (.inr ⟨by simp[rawInt],rfl,rfl⟩) (hs₃.extBut _ _ (GbV hil) ht₂) (by show h₃.objs.size=hp.objs.size+1;rw[hs₃.1,hz₂]) λb o hb e=>hs₃.extBut b o hb (hk₂ b o hb e)
  cases f with
  |true=>
   rw[Gag (show¬((Value.bool true !=Value.bool true)=true) from Gau)]
   refine Gaf ?_
   simp only[GaB,GaV]
   exact Gaf (Gaf ⟨_,rfl,Gaf (fin h₂ he₂ (Heap.SameBut.refl _ _))⟩)
  |false=>
   rw[Gah (show(Value.bool false !=Value.bool true)=true from rfl)]
   refine Gaa (GbP he₂ (by simp) λh₃ he₃ hs₃=> ?_)
   replace hs₃:Heap.SameBut it h₂ h₃:=hs₃
   replace he₃:ItI h₃ it d (i+1) es.size ep (rawInt a) (.bool true) ok ov:=he₃
   refine Gaf ?_
   simp only[GaB,GaV]
   exact Gaf (Gaf ⟨_,rfl,Gaf (fin h₃ he₃ hs₃)⟩)
theorem rW{it d:Addr}{i ep:Nat}{es:Array DictEntry}{f0 f1 ok ov:Value}(hi:es.size≤i){Q:Option Value→Shared→Prop}(hh:A.handled=none)(hit:ItI s.heap it d i es.size ep f0 f1 ok ov)(hm:uk s.heap d es ep)
  (hQ:∀h',Heap.ExtBut it s.heap h' →Q none {s with heap:=h' }):wpAny (model prog w) A (pyNext (.ref it)) Q E s:=by
 obtain⟨od,hod,hcd,hdd⟩:=id hm
 have hT:s.TypeIs (.ref it) "dict_itemiterator":=⟨_,hit,rfl⟩
 unfold pyNext
 refine Gaa (wpAny_attempt (GbE (name:=Str.ofString "__next__") hT Gbz
  (GbA Gbz hT F.entry_dict_itemiterator_next ?_ (F.args_dict_itemiterator_next_1 _))))
 refine Gaa (Gaf ?_)
 refine Gaa (Gaa ?_)
 first|refine Gaa (GbY hT (Gaf ?_))|refine Gaa (Gcu hT (Gaf ?_))
 refine Gaa (wpAny_fieldsOf hit rfl ?_)
 have hown:Builtin.Dict_items.ownsTuple "dict_itemiterator"=true:=by decide
 simp only[hown,Gbj]
 show wpAny _ _ (if(Value.ref d==Value.none)=true then _ else _) _ _ s
 rw[Gag (show¬((Value.ref d==Value.none)=true) from Gau)]
 refine Gaa (Gaf ?_)
 refine Gaa (Gde hod hdd ?_)
 rw[Gag (by simp)]
 refine Gaa (Gaf ?_)
 refine Gaa (wpAny_dictEpoch hod hdd ?_)
 rw[Gag (by simp)]
 refine Gaf ?_
 simp only[show¬((i:Int)<0) from by omega,GaV,GaQ,Array.getElem?_eq_none hi]
 refine Gaa ?_
 first|refine Gaa (GbY hT (Gaf ?_))|refine Gaa (Gcu hT (Gaf ?_))
 show wpAny _ _ (setField (.ref it) 2 .none>>=_) _ _ s
 refine Gaa (wpAny_setField hit rfl (by simp) ?_)
 show wpAny _ _ (newExc (.type "StopIteration") []>>=_) _ _ _
 refine Gaa ?_
 simp only[newExc,newTuple]
 refine Gaa (Gbf ?_ (by size_fits))
 refine Gaa (m:=firstArgMember _ _) (wpAny_of_eq (a:=Value.none) (by first|rfl|(simp only[firstArgMember];rfl)) ?_)
 refine Gbf ?_ (by size_fits)
 simp only[raiseNew]
 refine Gaa (wpAny_handled ?_)
 rw[show A.in1.handled=none from hh]
 refine Gaa (Gaf (wpAny_throw ?_))
 refine Gaa (wpAny_isInstance (T:="StopIteration") (b:=true) ⟨_,GaD _ rfl,rfl⟩ isSubtype_stop ?_)
 exact Gaf (hQ _ (((Gcc ..).extBut.push _).push _))
theorem Er{elts:List Expr}{x1}{pos:Pos}{it d a:Addr}{i n ep:Nat}{f1 ok ov:Value}{Q:Unit→Shared→Prop}(he:ItI s.heap it d i n ep (rawInt a) f1 ok ov)
  (hQ:∀h',ItI h' it d i n ep .none f1 ok ov→Heap.SameBut it s.heap h' →Q () {s with heap:=h' }):
  wpAny (model prog w) A (letOwnedTupleGo (.Tuple elts x1 pos) (.ref it) (.ref a)) Q E s:=by
 unfold letOwnedTupleGo
 refine Gaa (wpAny_load he ?_)
 show wpAny _ _ (if(["enumerate","zip","dict_itemiterator","dict_reverseitemiterator","odict_iterator","itertools.zip_longest","itertools.pairwise"].contains "dict_itemiterator"&&
   (#[rawInt a,f1,.ref d,.int i 0,.int n 0,.int ep 0,ok,ov]:Array Value)[0]? ==some (rawInt a))=true then _ else _) Q E s
 rw[Gah (by simp)]
 refine Gaa (GbX ?_)
 show wpAny _ _ (setField (.ref it) 0 .none) Q E s
 exact GbP he (by simp) λh' he' hs' =>hQ h' he' hs'
end
section
variable{X:Cx}{e a b c:Expr}{f g h:DE}{pos:Pos}{pins:List (Addr×Obj)}{σ:St}{H:Hp}{s:Shared}
theorem _root_.L2.Inv.freeze{d:Addr}{kvs:List (List Key×V)}{o:Obj}(I:Inv X pins σ H s)(e:H d=some (.dT kvs))(ho:s.heap.get? d=some o):Inv X pins σ (upd H d (.frz o (.dT kvs))) s:=by
 have:=q9 (t' :=s.toks) (h' :=s.heap) (ob:= .frz o (.dT kvs)) I (by rw[e];trivial) (Heap.SameBut.refl _ _) ⟨o,ho⟩
  ⟨ho,(I.hok d _ e).dP (λb u _ q=>q) (λb q=>by rw[ax (AQ q e (by simp))];exact q) λb xs q=>by rw[ax (AQ q e (by simp))];exact q⟩
 exact this
theorem _root_.L2.Inv.Js{d:Addr}{kvs:List (List Key×V)}{o:Obj}(I:Inv X pins σ H s)(e:H d=some (.frz o (.dT kvs)))(hn:∀o u,X.H₀ d≠some (.frz o u)):Inv X pins σ (upd H d (.dT kvs)) s:=by
 have ne:∀{b:Addr},H b=none→b≠d:=λq z=>by rw[z,e] at q;cases q
 have nt:∀{b:Addr} {u:HO},H b=some u→u≠ .frz o (.dT kvs)→b≠d:=λq hu z=>by rw[z,e] at q;cases q;exact hu rfl
 refine⟨I.ok,I.os,I.bare,⟨I.base.keep,I.base.slot,λb ob q n hx=> ?_,I.base.there,λb xs q=> ?_,λb ob u q=> ?_,λb ps q=> ?_⟩,I.loc,I.cell, ?_,λx c q=> ?_,λp hp=> ?_,λb u q=> ?_,I.len⟩
 ·have:=I.base.free b ob q n hx
  rw[ax (ne this)];exact this
 ·have:=I.base.p9 b xs q
  rw[ax (nt this (by simp))];exact this
 ·have:=I.base.nz b ob u q
  rw[ax (λz=>hn ob u (by rw[←z];exact q))];exact this
 ·obtain⟨more,q'⟩:=I.base.pb b ps q
  exact⟨more,by rw[ax (nt q' (by simp))];exact q'⟩
 ·rw[ax (ne I.free)];exact I.free
 ·rw[ax (ne (I.jZ x c q))];exact I.jZ x c q
 ·obtain⟨h1,h2,h3⟩:=I.pin p hp
  exact⟨h1,by rw[ax (ne h2)];exact h2,h3⟩
 ·have st:∀{b:Addr} {u:HO},cz X.prog X.w H s.heap b u→cz X.prog X.w (upd H d (.dT kvs)) s.heap b u:=λx=>
   x.dP (λ_ _ _ q=>q) (λc q=>by rw[ax (nt q (by simp))];exact q) λc xs q=>by rw[ax (nt q (by simp))];exact q
  by_cases hb:b=d
  ·subst hb
   rw[aK] at q;cases q
   exact st (I.hok b _ e).2
  ·rw[ax hb] at q
   exact st (I.hok b _ q)
theorem Bn{d:Addr}{kvs:List (List Key×V)}{o:Obj}{es:Array DictEntry}{ep:Nat}(I:Inv X pins σ H s)(e:H d=some (.frz o (.dT kvs)))(hd:o.data= .dict es ep):uk s.heap d es ep∧es.size=kvs.length∧
  ∀(i:Nat) p,kvs[i]? =some p→∃b en,es[i]? =some en∧en.key= .ref b∧H b=some (.tup (p.1.map kV))∧RelV p.2 en.val:=by
 obtain⟨ho,h1,h2,xs,kt,o',es',ep',ho',hx,hd',he,_⟩:=I.hok d _ e
 rw[ho] at ho';cases ho'
 rw[hd] at hd';cases hd'
 have hl:kvs.length=xs.length:=Paired.length kt
 have hs:es.size=xs.length:=by rw[←Gcb,he,Gae]
 refine⟨⟨o,ho,hx,hd⟩,by omega,λi p hp=> ?_⟩
 have hi:i<xs.length:=by rw[←hl];exact(Gad.mp hp).1
 have rel:∀{l:List (List Key×V)} {m:List (List Key×Addr×Value)},Paired (λ(p:List Key×V) (q:List Key×Addr×Value)=>p.1=q.1∧H q.2.1=some (.tup (p.1.map kV))∧RelV p.2 q.2.2) l m→∀(i:Nat) p q,l[i]? =some p→m[i]? =some q→H q.2.1=some (.tup (p.1.map kV))∧RelV p.2 q.2.2:=by
  intro l m q
  induction q with
  |nil=>intro i p q h;simp at h
  |cons hq t ih=>
   intro i p' q' h1 h2
   cases i with
   |zero=>simp at h1 h2;subst h1 h2;exact hq.2
   |succ i=>exact ih i p' q' (by simpa using h1) (by simpa using h2)
 obtain⟨r1,r2⟩:=rel kt i p xs[i] hp (by simp[hi])
 refine⟨xs[i].2.1,entryOfKey (tupleKind (cD X.prog X.w)) xs[i], ?_,rfl,r1,r2⟩
 have:es.toList[i]? =some (entryOfKey (tupleKind (cD X.prog X.w)) xs[i]):=by rw[he,Gan];simp[hi]
 simpa using this
noncomputable def Jt(d:Addr)(o:Obj)(kvs:List (List Key×V)):It:=
 ⟨λi H=>H d=some (.frz o (.dT kvs))∧i<kvs.length,λi H x H' =>∃p b q,kvs[i]? =some p∧H b=some (.tup (p.1.map kV))∧H q=none∧x= .ref q∧H' =upd H q (.tup [.ref b,p.2]),λi H=>H d=some (.frz o (.dT kvs))∧kvs.length≤i⟩
theorem Am{prog:Program}{w:World}{A:Around}{E:Value→Shared→Prop}{s:Shared}{it d:Addr}{i n ep:Nat}{f0 f1 ok ov:Value}{Q:Value→Shared→Prop}(hit:ItI s.heap it d i n ep f0 f1 ok ov)(h:Q (.ref it) s):wpAny (model prog w) A (pyIter (.ref it)) Q E s:=by
 have hT:s.TypeIs (.ref it) "dict_itemiterator":=⟨_,hit,rfl⟩
 refine wpAny_pyIter_slot hT GcX (GbA GcX hT PySem.W.kcp_entry ?_ (PySem.F.args_dict_itemiterator_iter_1 _))
 show wpAny _ _ (ret (.ref it)) _ _ s
 exact Gaf ⟨_,rfl,"dict_itemiterator",_,hT,PySem.F.slot_dict_itemiterator_next.lookup,h⟩
theorem An{P:Program}{w:World}{K:aD}{elts:List Expr}{x1}{tp:Pos}(it d:Addr)(o:Obj)(kvs:List (List Key×V))(es:Array DictEntry)(ep:Nat)(hd:o.data= .dict es ep)(hne:d≠it):
  Turn P w K (.Tuple elts x1 tp) (Jt d o kvs) [it] it (λi h=>∃f1 ok ov,ItI h it d i es.size ep .none f1 ok ov) where
 mem:=by simp
 obj:=λi h st b hb=>by
  have e:b=it:=by simpa using hb
  subst e
  obtain⟨f1,ok,ov,e⟩:=st
  exact⟨_,e,λv z=>by
   have z' :Data.fields _=Data.cell v:=z
   cases z'⟩
 keep:=λi h h' st k=>let⟨f1,ok,ov,e⟩:=st;⟨f1,ok,ov,k it (by simp) _ e⟩
 item:=by
  intro X hP hw hK hc i pins s σ H E I hf st hg
  subst hP hw hK
  obtain⟨he,hi⟩:=hg
  obtain⟨hr,hz,hx⟩:=Bn I he hd
  obtain⟨f1,ok,ov,hit⟩:=st
  obtain⟨b,en,q1,q2,q3,q4⟩:=hx i kvs[i] (by simp[hi])
  have hi' :i<es.size:=by omega
  have:en=es[i]:=by rw[Gby hi'] at q1;cases q1;rfl
  subst this
  refine qM hi' hit hr (.inl rfl) λh' g0 g1 ok' ov' hit' hg hT hsz kk=> ⟨_,rfl, ?_⟩
  have hg0:g0=rawInt s.heap.objs.size:=by
   rcases hg with⟨_,z,_⟩| ⟨z,_⟩
   ·exact z
   ·exact absurd rfl z
  subst hg0
  refine Er (s:={s with heap:=h' }) hit' λh2 he2 sb=> ?_
  have hlt:it<s.heap.objs.size:=Gaz hit
  have kept:∀b o,b∉[it]→s.heap.get? b=some o→h2.get? b=some o:=λb o hb e=>by
   have b1:b≠it:=λz=>hb (by simp[z])
   exact(sb.2 b b1).trans (kk b o b1 e)
  have hT2:h2.get? s.heap.objs.size=some {cls:= .type "tuple",data:= .seq #[es[i].key,es[i].val]}:=(sb.2 _ (GbV hlt)).trans hT
  have I1:Inv X pins σ (upd H s.heap.objs.size (.tup [.ref b,kvs[i].2])) {s with heap:=h2}:=I.qK (ch:=[it]) hf rfl rfl kept (Gaq _) (by
   refine⟨by simp[GbG],[es[i].key,es[i].val],.cons q2 (.cons q4 .nil),_,hT2,rfl,0,rfl⟩)
  refine⟨.ref s.heap.objs.size,_,I1,rfl,⟨kvs[i],b,_,by simp[hi],q3,I.fresh,rfl,rfl⟩,⟨_,_,_,he2⟩,λb' hb=> ?_⟩
  have z:b' =it:=by simpa using hb
  subst z
  rw[ax (GaP hlt)]
  exact(hf b' hb).1
 done:=by
  intro X hP hw hK hc i pins s σ H E I hf st hg
  subst hP hw hK
  obtain⟨he,hi⟩:=hg
  obtain⟨hr,hz,hx⟩:=Bn I he hd
  obtain⟨f0,f1,f2,f3,f4,f5⟩:=hf it (by simp)
  obtain⟨f1',ok,ov,hit⟩:=st
  exact rW (by omega) (I.ok.hd hc) hit hr λh' eb=> ⟨rfl,I.turned (t' :=s.toks) (λb o hb e=>eb b o hb e) f0 f1 f3 f4 f5⟩
 self:=λ_ _ _ _ _ st h=>let⟨_,_,_,e⟩:=st;Am e h
noncomputable def Es(X:Cx)(J:Addr→Obj→List (List Key×V)→It)(to:TE):TI:=λσ H R=>to σ H λx H1=>∃d kvs,x= .ref d∧H1 d=some (.dT kvs)∧∀o,(∀o u,X.H₀ d≠some (.frz o u))→R (J d o kvs) (upd H1 d (.frz o (.dT kvs)))
theorem vL{o:Expr}{elts:List Expr}{x1}{tp:Pos}{to:TE}{apos cpos:Pos}(ho:PE X o to)(hbase:attributeBase o "items" X.env (eval o X.env)=eval o X.env:=by rfl)(hline:(apos.endLine==cpos.line)=true:=by rfl):PI X (.Tuple elts x1 tp) (.Call (.Attribute o "items" apos) [] [] cpos) (Es X Jt to):=by
 intro pins s σ H R I h
 refine wpAny_Call_method0_late hbase hline (thn (ho pins s σ H _ I h) λv s1 ⟨x,H1,I1,r1,d,kvs,ex,hd,q1⟩=> ?_)
 subst ex
 cases r1
 obtain⟨_,hds,xs,kt,ob,es,ep,hob,hx,hdt,he,_⟩:=Ds I1.hok hd
 obtain⟨t1,t2,_⟩:=A7 I1 (.inr ⟨kvs,.inl hd⟩)
 refine⟨"dict","dict.items",GcZ,PySem.F.slot_dict_items,PySem.F.type_dict_items,t1,t2,GcF rfl (PySem.evalArgs_none ?_)⟩
 refine call_meetsIn PySem.F.slot_dict_items t1 PySem.F.entry_dict_items (PySem.F.args_dict_items_1 _) (pW d hds) ⟨t1, ?_⟩
 generalize hh1:s1.heap.push {cls:= .type "dict_items",data:= .fields #[.ref d]}=h1
 have hv:h1.IsItemsView s1.heap.objs.size d:=by rw[←hh1];exact⟨_,GaD _ rfl,rfl,rfl⟩
 have k1:∀b u,s1.heap.get? b=some u→h1.get? b=some u:=λb u q=>by rw[←hh1];exact Gak _ q
 have I2:Inv X pins σ H1 {s1 with heap:=h1}:=I1.kept (t' :=s1.toks) k1
 refine qL (s:={s1 with heap:=h1}) hv ⟨ob,k1 _ _ hob,hx,hdt⟩ ?_
 have I3:Inv X pins σ H1 {s1 with heap:=h1.push {cls:= .type "dict_itemiterator",data:= .fields #[.none,.bool false,.ref d,.int 0 0,.int es.size 0,.int ep 0,.none,.none]}}:=I2.kept (t' :=s1.toks) λb u q=>Gak _ q
 have I4:=I3.freeze hd (o:=ob) (Gak _ (k1 _ _ hob))
 have hlt:d<h1.objs.size:=Gaz (k1 _ _ hob)
 have fresh:(upd H1 d (.frz ob (.dT kvs))) h1.objs.size=none:=by
  rw[ax (GbV hlt)];exact I2.fresh
 refine⟨h1.objs.size,[h1.objs.size],_,_,_,rfl,I4,An _ d ob kvs es ep hdt (GaP hlt),⟨_,_,_,GaD _ rfl⟩,λb hb=> ?_,q1 ob λo u z=> ?_⟩
 ·have z:b=h1.objs.size:=by simpa using hb
  subst z
  exact I2.BS (Gaq _) fresh
 ·have:=I1.base.nz d o u z
  rw[hd] at this;cases this
end
section
variable{X:Cx}{e a b c:Expr}{f g h:DE}{pos:Pos}
noncomputable def Ao(J:Addr→Obj→List (List Key×V)→It)(vw:List (List Key×D)→List D):Prop:=
 ∀{K:aD} {Hf:Hp} {a:Addr} {o:Obj} {ws:List (List Key×V)} {kvs:List (List Key×D)} {F F' Nn:Addr→Prop},Hf a=some (.frz o (.dT ws))→b8 K F Hf kvs ws→
  (∀b u,Hf b=some u→(F b∨isT u)→Nn b)→(∀b,F b→Hf b≠none→F' b)→Ac K F' Nn (J a o ws) (vw kvs) Hf
theorem tf{κ:Type}{K:aD}{F:Addr→Prop}{H:Hp}{kvs:List (κ×D)}{ws:List (κ×V)}(r:b8 K F H kvs ws):kvs.length=ws.length:=by
 have:=congrArg List.length r.1
 simpa using this
theorem Ct{κ:Type}{K:aD}{F:Addr→Prop}{H:Hp}{kvs:List (κ×D)}{ws:List (κ×V)}(r:b8 K F H kvs ws){i:Nat}{p:κ×D}(e:kvs[i]? =some p):∃q,ws[i]? =some q∧p.1=q.1∧Rep K F H p.2 q.2:=by
 have hi:i<ws.length:=by rw[←tf r];exact(Gad.mp e).1
 have hq:ws[i]? =some ws[i]:=Gab hi
 refine⟨ws[i],hq, ?_,r.2 i p _ e hq⟩
 have:=congrArg (λl=>l[i]?) r.1
 simp only[Gan,e,hq,GcO,GcG] at this
 exact this
theorem qN:Ao Jt bL:=by
 intro K Hf a o ws kvs F F' Nn hA r hN hF Hi keep
 have hAi:Hi a=some (.frz o (.dT ws)):=keep a _ hA (hN a _ hA (.inr trivial))
 have r' :b8 K F' Hi kvs ws:=r.gen (λb u hb q=>keep b u hb (hN b u hb q)) hF
 refine⟨λi d hd=> ?_,hAi,by unfold bL;rw[Gae,tf r];exact Gaq _⟩
 unfold bL at hd
 rw[Gan] at hd
 obtain⟨p,hp,rfl⟩:=Gal.mp hd
 obtain⟨q,h1,h2,h3⟩:=Ct r' hp
 refine⟨⟨hAi,(Gad.mp h1).1⟩,λx H2 ⟨q',b,t,e2,e3,e4,e5,e6⟩=> ?_⟩
 subst e5 e6
 rw[h1] at e2;cases e2
 refine⟨bJ e4,fL e4 (.cons ?_ (.cons h3 .nil))⟩
 have rs:aX K F' Hi (p.1.map Jb) (q.1.map kV):=by rw[h2];exact vK λk=>GQ k
 exact .tup e3 rs.1 rs.2
theorem GR{tg iter:Expr}{J:Addr→Obj→List (List Key×V)→It}{vw:List (List Key×D)→List D}(hi:PI X tg iter (Es X J (tE X f)))(hv:Ao J vw):PId X tg iter (Dz vw f):=by
 refine hi.aU ?_
 rintro σ H R ⟨H₀,Bad,env,ds,E,hf,k⟩
 obtain⟨⟨kd,d⟩,hr,hf⟩:=bind_some hf
 split at hf
 ·rename_i hk
  have hk' :kd= .tn:=hk
  subst hk'
  split at hf
  ·rename_i kvs hd
   have hd' :d= .dT kvs:=hd
   subst hd'
   cases hf
   refine⟨H₀,Bad,env,⟨.tn,.dT kvs⟩,E,hr,λv H1 s1 Rv=> ?_⟩
   obtain⟨a,ev,hn,wr,_,ii⟩:=Rv
   subst ev
   cases ii with
   | @dT _ ws _ h r=>
    refine⟨a,ws,rfl,h,λo hnf=> ?_⟩
    have sm:c9 H (upd H1 a (.frz o (.dT ws))):=λb u q=>by
     rw[ax (dR q hn)];exact s1 b u q
    have E1:=E.mono sm
    refine k _ _ sm (hv aK (r.gen (λb u hb q=> ?_) λb q _=>q) (λb u hb q=> ?_) λb q hb=> ⟨q.1,hb⟩)
    ·have:b≠a:=by
      rcases q with q|q
      ·exact q.2
      ·intro z;subst z;rw[h] at hb;cases hb;exact q
     rw[ax this];exact hb
    ·rcases q with q|q
     ·exactλ⟨i,h1,h2⟩=>q.1.2 i h1.ol.top h2
     ·exactλw=>E1.fM w hb q
  ·cases hf
 ·cases hf
theorem Et{o:Expr}{elts:List Expr}{x1}{tp:Pos}{apos cpos:Pos}(ho:PEd X o f)(hbase:attributeBase o "items" X.env (eval o X.env)=eval o X.env:=by rfl)(hline:(apos.endLine==cpos.line)=true:=by rfl):PId X (.Tuple elts x1 tp) (.Call (.Attribute o "items" apos) [] [] cpos) (Dz bL f):=GR (vL ho hbase hline) qN
theorem jQ{env:Env}{i j:Nat}{sl:Slot}(h:(env.set i none)[j]? =some (some sl)):j≠i∧env[j]? =some (some sl):=by
 by_cases z:i=j
 ·subst z
  rw[GdF] at h
  simp at h
 ·rw[Gac z] at h
  exact⟨GaY z,h⟩
theorem nO{env:Env}{i j:Nat}(h:bw (env.set i none)[j]?):j≠i∧bw env[j]? :=by
 by_cases z:i=j
 ·subst z
  rw[GdF] at h
  split at h
  ·split at h<;>exact h.elim
  ·exact absurd rfl (by assumption)
 ·rw[Gac z] at h
  exact⟨GaY z,h⟩
theorem vM{env:Env}{i j:Nat}(h:vf (env.set i none)[j]?):j≠i∧vf env[j]? :=by
 by_cases z:i=j
 ·subst z
  rw[GdF] at h
  split at h
  ·split at h<;>exact h.elim
  ·exact absurd rfl (by assumption)
 ·rw[Gac z] at h
  exact⟨GaY z,h⟩
theorem aF.M6{K:aD}{H₀:Hp}{Bad:Addr→Prop}{env:Env}{σ:St}{H:Hp}{i:Nat}{a:Addr}{o:Obj}{ws:List (List Key×V)}(E:aF K H₀ Bad env σ H)(ti:bw env[i]?)(ea:σ[i]? =some (some (.ref a)))
  (sole:∀j:Nat,j≠i→bw env[j]? →σ[j]? ≠some (some (.ref a)))(hH:H a=some (.dT ws)):
  aF K (λb=>if b=a then none else H₀ b) (λb=>Bad b∨b=a) (env.set i none) σ (upd H a (.frz o (.dT ws)))∧∀b,Cln (λb=>Bad b∨b=a) (env.set i none) σ b↔Cln Bad env σ b:=by
 have cl:∀b,Cln (λb=>Bad b∨b=a) (env.set i none) σ b↔Cln Bad env σ b:=λb=>by
  constructor
  ·intro q
   refine⟨λz=>q.1 (.inl z),λj tj ej=> ?_⟩
   by_cases z:j=i
   ·subst z;rw[ea] at ej;cases ej;exact q.1 (.inr rfl)
   ·exact q.2 j (by rw[Gac (GaY z)];exact tj) ej
  ·intro q
   refine⟨λz=> ?_,λj tj ej=>q.2 j (nO tj).2 ej⟩
   rcases z with z|z
   ·exact q.1 z
   ·subst z;exact q.2 i ti ea
 have na:¬Cln Bad env σ a:=λq=>q.2 i ti ea
 have dP:iU (Cln Bad env σ) H (upd H a (.frz o (.dT ws))):=λb u hb q=>by
  have:b≠a:=by
   rcases q with q|q
   ·intro z;subst z;exact na q
   ·intro z;subst z;rw[hH] at hb;cases hb;exact q
  rw[ax this];exact hb
 have hF:∀b,Cln Bad env σ b→H b≠none→Cln (λb=>Bad b∨b=a) (env.set i none) σ b:=λb q _=>(cl b).mpr q
 refine⟨⟨λb u q=> ?_,by rw[GcN];exact E.len,λb q=> ?_,λj d q=> ?_,λj d q=> ?_,λj d q=> ?_,λj k b tj tk ej ek=> ?_⟩,cl⟩
 ·by_cases z:b=a
  ·subst z;rw[Gah rfl] at q;cases q
  ·rw[Gag z] at q
   rw[ax z];exact E.same b u q
 ·rcases q with q|q
  ·by_cases z:b=a
   ·subst z;rw[aK];simp
   ·rw[ax z];exact E.bad b q
  ·subst q;rw[aK];simp
 ·obtain⟨v,h1,h2⟩:=E.sh j d (jQ q).2
  exact⟨v,h1,h2.gen dP hF⟩
 ·have q' :j≠i∧(env[j]? =some (some (.own d))∨env[j]? =some (some (.lok d))):=by
   rcases q with q|q
   ·exact⟨(jQ q).1,.inl (jQ q).2⟩
   ·exact⟨(jQ q).1,.inr (jQ q).2⟩
  have tj:bw env[j]? :=by rcases q'.2 with z|z<;>rw[z]<;>trivial
  obtain⟨a',h1,h2,h3,h4,h5,h6⟩:=E.ow j d q'.2
  have ne:a' ≠a:=λz=>sole j q'.1 tj (by rw[h1,z])
  refine⟨a',h1,by rw[Gag ne];exact h2,λz=>z.elim h3 ne, ?_,h5,h6.gen dP hF λb eb _ u hu=> ?_⟩
  ·obtain⟨u,hu,wu⟩:=h4
   exact⟨u,by rw[ax ne];exact hu,wu⟩
  ·cases eb;rw[ax ne];exact hu
 ·have q' :=jQ q
  have tj:bw env[j]? :=by rw[q'.2];trivial
  obtain⟨a',h1,h4,h5,h6⟩:=E.bo j d q'.2
  have ne:a' ≠a:=λz=>sole j q'.1 tj (by rw[h1,z])
  refine⟨a',h1, ?_,h5,h6.gen dP hF λb eb _ u hu=> ?_⟩
  ·obtain⟨u,hu,wu⟩:=h4
   exact⟨u,by rw[ax ne];exact hu,wu⟩
  ·cases eb;rw[ax ne];exact hu
 ·exact E.dj j k b (vM tj).2 (nO tk).2 ej ek
theorem Rep.Js{K:aD}{F:Addr→Prop}{H:Hp}{a:Addr}{o:Obj}{ws:List (List Key×V)}{d:D}{v:V}(hH:H a=some (.frz o (.dT ws)))(nf:¬F a)(r:Rep K F H d v):Rep K F (upd H a (.dT ws)) d v:=by
 induction r with
 |non=>exact .non
 |bl b=>exact .bl b
 |int i=>exact .int i
 |str x=>exact .str x
 | @tup b vs ds h l r ih=>
  refine .tup ?_ l ih
  rw[ax λz=>by subst z;rw[hH] at h;cases h];exact h
 | @lst b vs ds f h l r ih=>
  have ne:b≠a:=λz=>by subst z;exact nf f
  refine .lst f ?_ l ih
  rcases h with h| ⟨o',h⟩
  ·exact .inl (by rw[ax ne];exact h)
  ·exact .inr ⟨o',by rw[ax ne];exact h⟩
 | @scr b ns h=>
  refine .scr ?_
  rcases h with⟨o',h⟩|h
  ·exact .inl ⟨o',by rw[ax λz=>by subst z;rw[hH] at h;cases h];exact h⟩
  ·exact .inr h
 | @dK b ws' kvs f h l r ih=>exact .dK f (by rw[ax λz=>by subst z;exact nf f];exact h) l ih
 | @dT b ws' kvs f h l r ih=>exact .dT f (by rw[ax λz=>by subst z;exact nf f];exact h) l ih
theorem Ib{H:Hp}{a:Addr}{K:aD}{F:Addr→Prop}{kvs:List (List Key×D)}(ii:Inn K F H (.dT kvs) (.ref a)):∃ws,H a=some (.dT ws)∧b8 K F H kvs ws:=by
 cases ii with
 |dT h r=>exact⟨_,h,r⟩
theorem Cu{K:aD}{H₀:Hp}{Bad:Addr→Prop}{env:Env}{σ:St}{H:Hp}{i:Nat}{kvs:List (List Key×D)}(E:aF K H₀ Bad env σ H)(e:dictAt i env=some kvs):
  ∃a ws,bw env[i]? ∧σ[i]? =some (some (.ref a))∧(∀j:Nat,j≠i→bw env[j]? →σ[j]? ≠some (some (.ref a)))∧H a=some (.dT ws)∧b8 K (Cln Bad env σ) H kvs ws:=by
 unfold dictAt at e
 have own:∀{d:D},(env[i]? =some (some (.own d))∨env[i]? =some (some (.lok d)))→d= .dT kvs→∃a ws,bw env[i]? ∧σ[i]? =some (some (.ref a))∧(∀j:Nat,j≠i→bw env[j]? →σ[j]? ≠some (some (.ref a)))∧H a=some (.dT ws)∧b8 K (Cln Bad env σ) H kvs ws:=by
  intro d q hd
  subst hd
  obtain⟨a,h1,h2,h3,h4,h5,h6⟩:=E.ow i _ q
  obtain⟨ws,g1,g2⟩:=Ib h6
  refine⟨a,ws,by rcases q with z|z<;>rw[z]<;>trivial,h1,λj hj tj ej=>hj (E.dj i j a (by rcases q with z|z<;>rw[z]<;>trivial) tj h1 ej).symm,g1,g2⟩
 split at e
 ·rename_i q;cases e;exact own (.inl q) rfl
 ·rename_i q;cases e;exact own (.inr q) rfl
 ·rename_i q
  split at e
  ·rename_i hs
   cases e
   obtain⟨a,h1,h4,h5,h6⟩:=E.bo i _ q
   obtain⟨ws,g1,g2⟩:=Ib h6
   refine⟨a,ws,by rw[q];trivial,h1,λj hj tj ej=> ?_,g1,g2⟩
   have hlt:j<env.length:=by
    rcases Nat.lt_or_ge j env.length with z|z
    ·exact z
    ·rw[Gbn z] at tj;exact tj.elim
   have hsj:=Gat.mp hs j (Gbi.mpr hlt)
   cases hq:env[j]? with
   |none=>rw[hq] at tj;exact tj.elim
   |some sl=>
    cases sl with
    |none=>rw[hq] at tj;exact tj.elim
    |some sl=>
     cases sl with
     |sh d=>rw[hq] at tj;exact tj.elim
     |own d=>exact hj (E.dj j i a (by rw[hq];trivial) (by rw[q];trivial) ej h1)
     |lok d=>exact hj (E.dj j i a (by rw[hq];trivial) (by rw[q];trivial) ej h1)
     |bor d=>rw[hq] at hsj;simp[hj] at hsj
  ·cases e
 ·cases e
theorem Eu{tg iter elt:Expr}{ifs:List Expr}{scope:Scope}{N:List Str}{n i:Nat}{aR:List Nat}{gd:DG}{t:DT}{f:DE}{J:Addr→Obj→List (List Key×V)→It}{vw:List (List Key×D)→List D}(hc:X.calm=true)(S:jH X scope N n aR)
  (hi:PI X tg iter (Es X J (KA i)))(hv:Ao J vw)(hgo:qG gd)(B:Blk X scope N tg elt ifs gd t f)
  (hs:∀x,foldedSetIterable iter X.env x=pure x:=by intro _;rfl):PEd X (.ListComp elt [⟨tg,iter,ifs,0⟩] scope pos) (oF vw i n aR gd t f):=by
 intro pins s σ H Q I hw
 obtain⟨H₀,Bad,env,r,E,e,k⟩:=hw
 unfold oF at e
 obtain⟨kvs,hk,e⟩:=bind_some e
 split at e
 ·rename_i hz
  obtain⟨rs,hrs,rfl⟩:=Gal.mp e
  obtain⟨a,ws,ti,ea,sole,hH,rp⟩:=Cu E hk
  obtain⟨cl,h1,h2,h3⟩:=jG (S.cells I)
  rw[eval_ListComp]
  refine GcU (use:=none) rfl hs h1 S.kind S.Ad ?_
  refine thn (hi pins s σ H (λJ' H' =>∃o,(∀o u,X.H₀ a≠some (.frz o u))∧J' =J a o ws∧H' =upd H a (.frz o (.dT ws))) I ⟨.ref a,ea,a,ws,rfl,hH,λo hnf=> ⟨o,hnf,rfl,rfl⟩⟩) λv s1 q1=>thn q1 λitv s2 q2=> ?_
  obtain⟨it,fp,tn,J2,H2,e,I2,T,st2,f2,o,hnf,eJ,eH⟩:=q2
  subst e eJ eH
  obtain⟨E2,cl2⟩:=E.M6 (o:=o) ti ea sole hH
  have na:¬Cln Bad env σ a:=λq=>q.2 i ti ea
  have dP:iU (Cln Bad env σ) H (upd H a (.frz o (.dT ws))):=λb u hb q=>by
   have:b≠a:=by
    rcases q with q|q
    ·intro z;subst z;exact na q
    ·intro z;subst z;rw[hH] at hb;cases hb;exact q
   rw[ax this];exact hb
  have io:Ac X.K (λb=>Cln (λb=>Bad b∨b=a) (env.set i none) σ b∧(upd H a (.frz o (.dT ws))) b≠none) (λb=>¬Ow (env.set i none) σ b) (J a o ws) (vw kvs) (upd H a (.frz o (.dT ws))):=
   hv (F:=Cln (λb=>Bad b∨b=a) (env.set i none) σ) aK (rp.gen dP λb q _=>(cl2 b).mpr q) (λb u hb q=>by
    rcases q with q|q
    ·exactλ⟨j,h1,h2⟩=>q.2 j h1.ol.top h2
    ·exactλw=>E2.fM w hb q) λb q hb=> ⟨q,hb⟩
  refine oJ (RR:=λacc C=>compPost (model X.prog X.w) X.A X.xe none (EP X pins σ Q) acc C) hc S I2 h2 h3 f2 T st2 (λC s' H' =>B.g cl C s' H' fp) (λC s' H' =>B.t cl C s' H' fp) (λC s' H' =>B.e cl C s' H' fp) E2 io hgo hz hrs ?_
  intro p C s' H' m IX hm hC hF G
  obtain⟨g1,g2,vs,g3,g4⟩:=G
  have hA:H' a=some (.frz o (.dT ws)):=g1 a _ aK
  have hpa:p≠a:=λz=>by subst z;rw[aK] at g2;cases g2
  refine⟨m,hm,λh' hs' => ⟨.ref p,upd H' a (.dT ws),(IX.Eb hF hs').Js hA hnf,rfl, ?_⟩⟩
  have sm:c9 H (upd H' a (.dT ws)):=λb u q=>by
   by_cases z:b=a
   ·subst z;rw[aK,←q,hH]
   ·rw[ax z];exact g1 b u (by rw[ax z];exact q)
  have g3' :(upd H' a (.dT ws)) p=some (.lst vs):=by rw[ax hpa];exact g3
  refine k _ _ sm ⟨p,rfl,by rw[ax hpa] at g2;exact g2,⟨_,g3',trivial⟩,rfl,.lst (.inl g3') ⟨g4.1,λj d v e1 e2=> ?_⟩⟩
  have r1:=Rep.Js hA (λq=>na ((cl2 a).mp q.1)) (g4.2 j d v e1 e2)
  exact r1.imp λb q=> ⟨(cl2 b).mp q.1,q.2⟩
 ·cases e
theorem k9{elts:List Expr}{x1}{tp:Pos}{elt:Expr}{ifs:List Expr}{scope:Scope}{N:List Str}{n i:Nat}{aR:List Nat}{gd:DG}{t:DT}{f:DE}{x:Str}{px apos cpos:Pos}(hN:X.N[i]? =some x)(hv:Vis X.env.scope x)(hc:X.calm=true)(S:jH X scope N n aR)
  (hgo:qG gd)(B:Blk X scope N (.Tuple elts x1 tp) elt ifs gd t f)(hd:(x==("__debug__":Str))=false:=by decide)(hcd:(x==("__classdict__":Str))=false:=by decide)
  (hbase:attributeBase (.Name x px) "items" X.env (eval (.Name x px) X.env)=eval (.Name x px) X.env:=by rfl)(hline:(apos.endLine==cpos.line)=true:=by rfl)
  (hs:∀y,foldedSetIterable (.Call (.Attribute (.Name x px) "items" apos) [] [] cpos) X.env y=pure y:=by intro _;rfl):
  PEd X (.ListComp elt [⟨.Tuple elts x1 tp,.Call (.Attribute (.Name x px) "items" apos) [] [] cpos,ifs,0⟩] scope pos) (oF bL i n aR gd t f):=Eu hc S (vL (kK hN hv hd hcd) hbase hline) qN hgo B hs
end
open PySem.W (KatLex KatTups kas_sort kas_ask kat_kind kat_lt kat_one kat_run kat_snds BoolBack kat_lt_int)
section
variable{prog:Program}{w:World}{A:Around}{E:Value→Shared→Prop}{s:Shared}
noncomputable def um(prog:Program)(w:World)(A:Around)(E:Value→Shared→Prop)(s:Shared)(cs:List (List (List Int)))(vs:List Value):Prop:=
 2≤vs.length→∀Q:SortKind→Shared→Prop,(∀κ,(∀i j C,i<vs.length→j<vs.length→C (decide (rank cs i<rank cs j)) s→kas_ask prog w A κ vs i j C s)→Q κ s)→wpAny (model prog w) A (keyKind' vs.toArray) Q E s
end
structure qO(K:aD)(Bad:Addr→Prop)(env:Env)(σ:St)(H:Hp)(i:Nat)(p:Addr)(as:List Addr)(rows:List (List D)):Prop where
 at_:σ[i]? =some (some (.ref p))
 hid:env[i]? =some none
 top:H p=some (.lst (as.map V.ref))
 nd:(p::as).Nodup
 len:as.length=rows.length
 row:∀(k:Nat) a ds,as[k]? =some a→rows[k]? =some ds→∃vs,H a=some (.lst vs)∧aX K (Cln Bad env σ) H ds vs
 bad:∀b∈p::as,Bad b
structure GS(as:List Addr)(env:Env)(σ:St)(H:Hp)(env' :Env)(σ' :St)(H' :Hp):Prop where
 keep:∀b o,H b=some o→¬Ow env σ b→b∉as→H' b=some o
 ow:∀b,Ow env' σ' b→Ow env σ b∨H b=none
 lk:∀i:Nat,rV env'[i]? →env'[i]? =env[i]? ∧σ'[i]? =σ[i]?
 th:∀b∈as,H' b≠none
section
variable{K:aD}{H₀ H H' H1:Hp}{Bad Bad' :Addr→Prop}{env env' :Env}{σ σ' :St}{d:D}{v:V}{a p:Addr}{i j:Nat}{as:List Addr}{rows:List (List D)}
theorem qO.mono(N:qO K Bad env σ H i p as rows)(s:c9 H H'):qO K Bad env σ H' i p as rows where
 at_:=N.at_
 hid:=N.hid
 top:=s _ _ N.top
 nd:=N.nd
 len:=N.len
 row:=λk a ds h1 h2=>let⟨vs,h3,h4⟩:=N.row k a ds h1 h2;⟨vs,s _ _ h3,h4.gen (.of_same s) λ_ f _=>f⟩
 bad:=N.bad
theorem Cv{b:Addr}(h:Cln Bad env σ b):Cln Bad (env.set j (some (.sh d))) (σ.set j (some v)) b:=⟨h.1,λk t e=>by
 obtain⟨q,t⟩:=gq t
 rw[Gac q] at e
 exact h.2 k t e⟩
theorem qO.kX(N:qO K Bad env σ H i p as rows)(hij:i≠j):qO K Bad (env.set j (some (.sh d))) (σ.set j (some v)) H i p as rows where
 at_:=by rw[Gac (GaY hij)];exact N.at_
 hid:=by rw[Gac (GaY hij)];exact N.hid
 top:=N.top
 nd:=N.nd
 len:=N.len
 row:=λk a ds h1 h2=>let⟨vs,h3,h4⟩:=N.row k a ds h1 h2;⟨vs,h3,h4.gen (.of_same λ_ _ e=>e) λ_ f _=>Cv f⟩
 bad:=N.bad
theorem qO.there(N:qO K Bad env σ H i p as rows):∀b∈as,H b≠none:=λb hb=>by
 obtain⟨k,hk⟩:=GbQ.mp hb
 have hk' :k<rows.length:=by rw[←N.len];exact(Gad.mp hk).1
 obtain⟨vs,h,_⟩:=N.row k b rows[k] hk (Gab hk')
 rw[h];simp
theorem GS.trans{e1 e2 e3:Env}{s1 s2 s3:St}{H1 H2 H3:Hp}(a:GS as e1 s1 H1 e2 s2 H2)(b:GS as e2 s2 H2 e3 s3 H3):GS as e1 s1 H1 e3 s3 H3:=by
 refine⟨λc o e n na=>b.keep c o (a.keep c o e n na) (λh=> ?_) na,λc h=> ?_,λi h=> ?_,b.th⟩
 ·rcases a.ow c h with q|q
  ·exact n q
  ·rw[e] at q;cases q
 ·rcases b.ow c h with q|q
  ·exact a.ow c q
  ·by_cases z:Ow e1 s1 c
   ·exact .inl z
   ·right
    cases e:H1 c with
    |none=>rfl
    |some o=>
     by_cases m:c∈as
     ·exact absurd q (a.th c m)
     ·rw[a.keep c o e z m] at q;cases q
 ·obtain⟨h1,h2⟩:=b.lk i h
  rw[h1] at h
  obtain⟨h3,h4⟩:=a.lk i h
  exact⟨h1.trans h3,h2.trans h4⟩
theorem Ew(nb:B6 env=true){k:Nat}(e:env[k]? =some (some (.bor d))):False:=by
 have:=Gat.mp nb _ (GaL e)
 cases this
theorem aF.Ex{o o' :HO}(E:aF K H₀ Bad env σ H)(hb:Bad a)(h0:H₀ a=none)(h:H a=some o)(ho:¬isT o)(nb:B6 env=true):aF K H₀ Bad env σ (upd H a o'):=by
 have dP:iU (Cln Bad env σ) H (upd H a o'):=λb x hx q=>by
  have:b≠a:=by
   rintro rfl
   rcases q with q|q
   ·exact q.1 hb
   ·rw[h] at hx;cases hx;exact ho q
  rw[ax this];exact hx
 refine⟨λb x hx=> ?_,E.len,λb q z=> ?_,λk dk e=> ?_,λk dk e=> ?_,λk dk e=>(Ew nb e).elim,E.dj⟩
 ·have:b≠a:=by rintro rfl;rw[h0] at hx;cases hx
  rw[ax this];exact E.same b x hx
 ·by_cases m:b=a
  ·subst m;rw[aK] at z;cases z
  ·rw[ax m] at z;exact E.bad b q z
 ·obtain⟨u,h1,h2⟩:=E.sh k dk e
  exact⟨u,h1,h2.gen dP λ_ f _=>f⟩
 ·obtain⟨b,h1,h2,h3,h4,h5,h6⟩:=E.ow k dk e
  have m:b≠a:=λz=>h3 (z▸hb)
  refine⟨b,h1,h2,h3, ?_,h5,h6.gen dP (λ_ f _=>f) λc ec _ x hx=> ?_⟩
  ·unfold Wr;rw[ax m];exact h4
  ·cases ec;rw[ax m];exact hx
theorem qO.app{vs:List V}{ds:List D}{k:Nat}(N:qO K Bad env σ H i p as rows)(ha:as[k]? =some a)(hd:rows[k]? =some ds)(hv:H a=some (.lst vs))(rp:aX K (Cln Bad env σ) H (ds++[d]) (vs++[v])):qO K Bad env σ (upd H a (.lst (vs++[v]))) i p as (rows.set k (ds++[d])):=by
 have ba:Bad a:=N.bad a (Gaj _ (GaL ha))
 have dP:iU (Cln Bad env σ) H (upd H a (.lst (vs++[v]))):=λb x hx q=>by
  have:b≠a:=by
   rintro rfl
   rcases q with q|q
   ·exact q.1 ba
   ·rw[hv] at hx;cases hx;exact q
  rw[ax this];exact hx
 have hpa:p≠a:=by
  rintro rfl
  exact(Gcn.mp N.nd).1 (GaL ha)
 refine⟨N.at_,N.hid,by rw[ax hpa];exact N.top,N.nd,by rw[GcN];exact N.len,λk' a' ds' h1 h2=> ?_,N.bad⟩
 by_cases q:k=k'
 ·subst q
  rw[ha] at h1;cases h1
  rw[GaN (Gad.mp hd).1] at h2
  cases h2
  exact⟨_,aK,rp.gen dP λ_ f _=>f⟩
 ·rw[Gac q] at h2
  obtain⟨us,h3,h4⟩:=N.row k' a' ds' h1 h2
  have na:a' ≠a:=by
   rintro rfl
   have l1:=(Gad.mp ha)
   have l2:=(Gad.mp h1)
   exact q ((List.getElem_inj (Gcn.mp N.nd).2).mp (l1.2.trans l2.2.symm))
  exact⟨us,by rw[ax na];exact h3,h4.gen dP λ_ f _=>f⟩
theorem aF.hide(E:aF K H₀ Bad env σ H)(i:Nat)(v:V):aF K H₀ Bad (env.set i none) (σ.set i (some v)) H:=by
 have tops:∀{k:Nat},bw (env.set i none)[k]? →i≠k∧bw env[k]? :=λ{k} t=>by
  by_cases q:i=k
  ·subst q
   by_cases z:i<env.length
   ·rw[cE z] at t;exact t.elim
   ·rw[Gbn (by simpa using Nat.le_of_not_lt z)] at t;exact t.elim
  ·rw[Gac q] at t
   exact⟨q,t⟩
 have cln:∀b,Cln Bad env σ b→Cln Bad (env.set i none) (σ.set i (some v)) b:=λb h=> ⟨h.1,λk t e=>by
  obtain⟨q,t⟩:=tops t
  rw[Gac q] at e
  exact h.2 k t e⟩
 refine⟨E.same,by simp[E.len],E.bad,λk dk e=> ?_,λk dk e=> ?_,λk dk e=> ?_,λk l b t1 t2 e1 e2=> ?_⟩
 ·rcases get_set e with⟨q,e⟩| ⟨q,e⟩
  ·cases e
  ·obtain⟨u,h1,h2⟩:=E.sh k dk e
   exact⟨u,by rw[Gac q];exact h1,h2.imp cln⟩
 ·have e' :i≠k∧(env[k]? =some (some (.own dk))∨env[k]? =some (some (.lok dk))):=by
   rcases e with e|e
   ·rcases get_set e with⟨q,e⟩| ⟨q,e⟩
    ·cases e
    ·exact⟨q,.inl e⟩
   ·rcases get_set e with⟨q,e⟩| ⟨q,e⟩
    ·cases e
    ·exact⟨q,.inr e⟩
  obtain⟨b,h1,h2,h3,h4,h5,h6⟩:=E.ow k dk e'.2
  exact⟨b,by rw[Gac e'.1];exact h1,h2,h3,h4,h5,h6.imp cln⟩
 ·rcases get_set e with⟨q,e⟩| ⟨q,e⟩
  ·cases e
  ·obtain⟨b,h1,hw,h2,h3⟩:=E.bo k dk e
   exact⟨b,by rw[Gac q];exact h1,hw,h2,h3.imp cln⟩
 ·obtain⟨q1,t1'⟩:=tops t1.top
  obtain⟨q2,t2⟩:=tops t2
  rw[Gac q1] at e1 t1
  rw[Gac q2] at e2
  exact E.dj k l b t1 t2 e1 e2
theorem aF.Bo{New:Addr→Prop}(E:aF K H₀ Bad env σ H)(s:c9 H H')(h1:∀b,New b→H b=none)(h2:∀b,New b→H' b≠none):aF K H₀ (λb=>Bad b∨New b) env σ H' :=by
 have cln:∀b,Cln Bad env σ b→H b≠none→Cln (λb=>Bad b∨New b) env σ b:=λb h n=> ⟨λq=>q.elim h.1 λz=>n (h1 b z),h.2⟩
 refine⟨E.same.trans s,E.len,λb q z=>q.elim (λq=>E.bad b q (s.free z)) λq=>h2 b q z,λk dk e=> ?_,λk dk e=> ?_,λk dk e=> ?_,E.dj⟩
 ·obtain⟨u,q1,q2⟩:=E.sh k dk e
  exact⟨u,q1,q2.gen (.of_same s) cln⟩
 ·obtain⟨b,q1,q2,q3,q4,q5,q6⟩:=E.ow k dk e
  exact⟨b,q1,q2,λz=>z.elim q3 λz=>q4.there (h1 b z),q4.same s,q5,q6.gen (.of_same s) cln λc ec _ x hx=>s c x hx⟩
 ·obtain⟨b,q1,qw,q2,q3⟩:=E.bo k dk e
  exact⟨b,q1,qw.same s,q2,q3.gen (.of_same s) cln λc ec _ x hx=>s c x hx⟩
end
open PySem PyProof.Rows
noncomputable abbrev SM:=StateT SortSt Sem
noncomputable def kB:Bool→Keyed→Array Keyed→Nat→Nat→Nat→SM (Option Nat):=sortPriv%PySem.Builtin.gallop
noncomputable def GU(far:Nat→SM (Option Bool))(n l0 r0:Nat):SM (Option Nat):=do
 let mut lo:=l0
 let mut hi:=r0
 for _ in [0:n] do
  if lo≥hi then break
  let md:=lo+(hi -lo)/2
  let some mo←far md|return none
  if mo then lo:=md+1 else hi:=md
 return some hi
noncomputable def Ju(far:Nat→SM (Option Bool))(n h0:Nat):SM (Option Nat):=do
 let some rt←far h0|return none
 if rt then
  let mut lst:=0
  let mut nxt:=1
  for _ in [0:n] do
   if nxt≥n -h0 then break
   let some mo←far (h0+nxt)|return none
   if !mo then break
   lst:=nxt
   nxt:=2*nxt+1
  GU far n (h0+lst+1) (h0+min nxt (n -h0))
 else
  let mut lst:=0
  let mut nxt:=1
  for _ in [0:n] do
   if nxt≥h0+1 then break
   let some fd←far (h0 -nxt)|return none
   if fd then break
   lst:=nxt
   nxt:=2*nxt+1
  GU far n (h0+1 -min nxt (h0+1)) (h0 -lst)
noncomputable def Ic(lf:Bool)(kx:Keyed)(xs:Array Keyed)(b0 u:Nat):SM (Option Bool):=do
 let y←elem' xs (b0+u)
 if lf then lt' y kx else return(←lt' kx y).map (!·)
theorem Ey(lf:Bool)(kx:Keyed)(xs:Array Keyed)(b0 n h0:Nat):kB lf kx xs b0 n h0=Ju (Ic lf kx xs b0) n h0:=rfl
theorem dH{M:Model}{A:Around}{E:Value→Shared→Prop}{s:Shared}{σ α:Type}{c:Prop}{_:Decidable c}{x y:StateT σ Sem α}{Q:α→σ→Prop}{st:σ}(h1:c→wpS M A E s x Q st)(h2:¬c→wpS M A E s y Q st):wpS M A E s (if c then x else y) Q st:=by
 by_cases h:c
 ·rw[Gah h];exact h1 h
 ·rw[Gag h];exact h2 h
section
variable{M:Model}{A:Around}{E:Value→Shared→Prop}{s:Shared}{st:SortSt}{far:Nat→SM (Option Bool)}{n:Nat}{B:Nat→Bool}{Q:Option Nat→SortSt→Prop}
noncomputable def Cut(B:Nat→Bool)(n k:Nat):Prop:=k≤n∧(∀u,u<k→B u=true)∧∀u,k≤u→u<n→B u=false
theorem Bp{lo hi:Nat}(hf:∀u,u<n→∀R:Option Bool→SortSt→Prop,R (some (B u)) st→wpS M A E s (far u) R st)(mB:∀u v,u≤v→v<n→B v=true→B u=true)(h1:lo≤hi)(h2:hi≤n)
  (hlo:∀u,u<lo→B u=true)(hhi:∀u,hi≤u→u<n→B u=false)(h:∀k,Cut B n k→Q (some k) st):wpS M A E s (GU far n lo hi) Q st:=by
 unfold GU
 refine Gai (Gbr (Gbg (I:=λi c z=>z=st∧∃lo hi,c=(none,lo,hi)∧lo≤hi∧hi≤n∧hi -lo≤n -i∧(∀u,u<lo→B u=true)∧(∀u,hi≤u→u<n→B u=false))
  (Q:=λc z=>z=st∧∃lo hi,c=(none,lo,hi)∧Cut B n hi) ?step ?fin ⟨rfl,lo,hi,rfl,h1,h2,by omega,hlo,hhi⟩) ?post)
 case fin=>
  rintro c z ⟨rfl,lo,hi,rfl,q1,q2,q3,q4,q5⟩
  have:lo=hi:=by
   have:max 0 n=n:=by omega
   omega
  subst this
  exact⟨rfl,_,_,rfl,q2,q4,q5⟩
 case step=>
  rintro i c z _ hi' ⟨rfl,lo,hi,rfl,q1,q2,q3,q4,q5⟩
  dsimp only
  by_cases g:lo≥hi
  ·rw[Gah g]
   have:lo=hi:=by omega
   subst this
   exact Gao ⟨rfl,_,_,rfl,q2,q4,q5⟩
  ·rw[Gag g]
   refine Gai (hf _ (by omega) _ ?_)
   dsimp only
   cases b:B (lo+(hi -lo)/2) with
   |true=>
    simp only[Gbj]
    exact Gao ⟨rfl,_,_,rfl,by omega,q2,by omega,λu hu=>mB u _ (by omega) (by omega) b,q5⟩
   |false=>
    simp only[GaB,GaV]
    refine Gao ⟨rfl,_,_,rfl,by omega,by omega,by omega,q4,λu hu hn=> ?_⟩
    cases b' :B u with
    |false=>rfl
    |true=>rw[mB _ u hu hn b'] at b;cases b
 case post=>
  rintro c z ⟨rfl,lo,hi,rfl,q⟩
  exact Gao (h hi q)
theorem GV{h0:Nat}(hf:∀u,u<n→∀R:Option Bool→SortSt→Prop,R (some (B u)) st→wpS M A E s (far u) R st)(mB:∀u v,u≤v→v<n→B v=true→B u=true)(hh:h0<n)
  (h:∀k,Cut B n k→Q (some k) st):wpS M A E s (Ju far n h0) Q st:=by
 unfold Ju
 refine Gai (hf _ hh _ ?_)
 dsimp only
 cases b:B h0 with
 |true=>
  simp only[Gbj]
  refine Gai (Gbr (Gbg (I:=λi c z=>z=st∧∃l o,c=(none,l,o)∧l<o∧l<n -h0∧i+1≤o∧B (h0+l)=true)
   (Q:=λc z=>z=st∧∃l o,c=(none,l,o)∧l<o∧l<n -h0∧B (h0+l)=true∧(o≥n -h0∨B (h0+o)=false)) ?step ?fin ⟨rfl,0,1,rfl,by omega,by omega,by omega,b⟩) ?post)
  case fin=>
   rintro c z ⟨rfl,l,o,rfl,q1,q2,q3,q4⟩
   exact⟨rfl,l,o,rfl,q1,q2,q4,.inl (by omega)⟩
  case step=>
   rintro i c z _ hi' ⟨rfl,l,o,rfl,q1,q2,q3,q4⟩
   dsimp only
   by_cases g:o≥n -h0
   ·rw[Gah g]
    exact Gao ⟨rfl,l,o,rfl,q1,q2,q4,.inl g⟩
   ·rw[Gag g]
    refine Gai (hf _ (by omega) _ ?_)
    dsimp only
    cases b' :B (h0+o) with
    |false=>
     simp only[Bool.not_false,Gbj]
     exact Gao ⟨rfl,l,o,rfl,q1,q2,q4,.inr b'⟩
    |true=>
     simp only[Gdo,GaB,GaV]
     exact Gao ⟨rfl,o,2*o+1,rfl,by omega,by omega,by omega,b'⟩
  case post=>
   rintro c z ⟨rfl,l,o,rfl,q1,q2,q3,q4⟩
   dsimp only
   refine Bp hf mB (by omega) (by omega) (λu hu=>mB u (h0+l) (by omega) (by omega) q3) (λu hu hn=> ?_) h
   rcases q4 with q4|q4
   ·omega
   ·by_cases w:o≥n -h0
    ·omega
    ·cases b' :B u with
     |false=>rfl
     |true=>rw[mB (h0+o) u (by omega) hn b'] at q4;cases q4
 |false=>
  simp only[GaB,GaV]
  refine Gai (Gbr (Gbg (I:=λi c z=>z=st∧∃l o,c=(none,l,o)∧l<o∧l<h0+1∧i+1≤o∧B (h0 -l)=false)
   (Q:=λc z=>z=st∧∃l o,c=(none,l,o)∧l<o∧l<h0+1∧B (h0 -l)=false∧(o≥h0+1∨B (h0 -o)=true)) ?step ?fin ⟨rfl,0,1,rfl,by omega,by omega,by omega,b⟩) ?post)
  case fin=>
   rintro c z ⟨rfl,l,o,rfl,q1,q2,q3,q4⟩
   exact⟨rfl,l,o,rfl,q1,q2,q4,.inl (by omega)⟩
  case step=>
   rintro i c z _ hi' ⟨rfl,l,o,rfl,q1,q2,q3,q4⟩
   dsimp only
   by_cases g:o≥h0+1
   ·rw[Gah g]
    exact Gao ⟨rfl,l,o,rfl,q1,q2,q4,.inl g⟩
   ·rw[Gag g]
    refine Gai (hf _ (by omega) _ ?_)
    dsimp only
    cases b' :B (h0 -o) with
    |true=>
     simp only[Gbj]
     exact Gao ⟨rfl,l,o,rfl,q1,q2,q4,.inr b'⟩
    |false=>
     simp only[GaB,GaV]
     exact Gao ⟨rfl,o,2*o+1,rfl,by omega,by omega,by omega,b'⟩
  case post=>
   rintro c z ⟨rfl,l,o,rfl,q1,q2,q3,q4⟩
   dsimp only
   refine Bp hf mB (by omega) (by omega) (λu hu=> ?_) (λu hu hn=> ?_) h
   ·rcases q4 with q4|q4
    ·omega
    ·by_cases w:o≥h0+1
     ·omega
     ·exact mB u (h0 -o) (by omega) (by omega) q4
   ·cases b' :B u with
    |false=>rfl
    |true=>rw[mB (h0 -l) u (by omega) hn b'] at q3;cases q3
end
open PySem.W (kas_item)
noncomputable def qP:Nat→SM Unit:=sortPriv%PySem.Builtin.setMinGallop
theorem nP(g:Nat):qP g=modify (λz=>SortSt.mk' (kindOf z) (arrOf z) (pendingOf z) g (failedOf z)):=rfl
noncomputable def Srt(rk:Nat→Int)(p:List Nat):Prop:=p.Pairwise λx y=>rk x≤rk y
noncomputable def i7(prog:Program)(w:World)(A:Around)(s:Shared)(κ:SortKind)(it:Array Keyed)(rk:Nat→Int):Prop:=
 ∀i j,i<it.size→j<it.size→∀C:Bool→Shared→Prop,C (decide (rk i<rk j)) s→wpAny (model prog w) A (keyLt' κ (kas_item it i).1 (kas_item it j).1) C (λ_ _=>False) s
noncomputable def bf(it:Array Keyed)(a:Array Keyed)(p:List Nat):Prop:=a=(p.map (kas_item it)).toArray∧∀i∈p,i<it.size
noncomputable def bF(z z' :SortSt):Prop:=kindOf z' =kindOf z∧arrOf z' =arrOf z∧pendingOf z' =pendingOf z∧failedOf z' =failedOf z
theorem bF.refl{z:SortSt}:bF z z:=⟨rfl,rfl,rfl,rfl⟩
theorem bF.trans{x y z:SortSt}(a:bF x y)(b:bF y z):bF x z:=⟨b.1.trans a.1,b.2.1.trans a.2.1,b.2.2.1.trans a.2.2.1,b.2.2.2.trans a.2.2.2⟩
section
variable{it:Array Keyed}{a b:Array Keyed}{p q:List Nat}
theorem bf.size(R:bf it a p):a.size=p.length:=by rw[R.1];simp
theorem bf.get{k i:Nat}(R:bf it a p)(h:p[k]? =some i):a[k]? =some (kas_item it i):=by rw[R.1];simp[h]
theorem bf.lt{k i:Nat}(R:bf it a p)(h:p[k]? =some i):i<it.size:=R.2 i (GaL h)
theorem bf.push{i:Nat}(R:bf it a p)(hi:i<it.size):bf it (a.push (kas_item it i)) (p++[i]):=⟨by rw[R.1];simp,λj hj=>by
 rcases Gay.mp hj with h|h
 ·exact R.2 j h
 ·simp at h;subst h;exact hi⟩
theorem bf.append(R:bf it a p)(S:bf it b q):bf it (a++b) (p++q):=⟨by rw[R.1,S.1];simp,λj hj=>(Gay.mp hj).elim (R.2 j) (S.2 j)⟩
theorem bf.sub(R:bf it a p){l:List Nat}(h:∀x∈l,x∈p){c:Array Keyed}(e:c=(l.map (kas_item it)).toArray):bf it c l:=⟨e,λj hj=>R.2 j (h j hj)⟩
theorem bf.extract(R:bf it a p)(i j:Nat):bf it (a.extract i j) ((p.drop i).take (j -i)):=by
 refine R.sub (λx hx=>Gbs (Gbl hx)) ?_
 apply Gcx.mp
 rw[R.1]
 simp[List.map_take,GdC,List.extract_eq_take_drop]
theorem bf.drop(R:bf it a p)(i:Nat):bf it (a.extract i a.size) (p.drop i):=by
 have:=R.extract i a.size
 rw[R.size,Gbv (by simp)] at this
 rw[R.size];exact this
theorem bf.reverse(R:bf it a p):bf it a.reverse p.reverse:=by
 refine R.sub (λx hx=>GbN.mp hx) ?_
 rw[R.1];simp
end
section
variable{prog:Program}{w:World}{A:Around}{E:Value→Shared→Prop}{s:Shared}{st:SortSt}{κ:SortKind}{it:Array Keyed}{rk:Nat→Int}
theorem vN{i j:Nat}{Q:Option Bool→SortSt→Prop}(hA:i7 prog w A s κ it rk)(hk:kindOf st=κ)(hi:i<it.size)(hj:j<it.size)(h:Q (some (decide (rk i<rk j))) st):wpS (model prog w) A E s (lt' (kas_item it i) (kas_item it j)) Q st:=by
 rw[lt'_eq]
 refine Gai (GcI ?_)
 rw[hk]
 refine Gai (wpS_lift (wpAny_attempt (GbK (hA i j hi hj (λb z=>z=s∧b=decide (rk i<rk j)) ⟨rfl,rfl⟩) (λb z hb=> ⟨hb.1, ?_⟩) λ_ _ f=>f.elim)))
 rw[hb.2]
 exact Gao h
theorem bG{a:Array Keyed}{p:List Nat}{k i:Nat}{Q:Keyed→SortSt→Prop}(R:bf it a p)(hk:p[k]? =some i)(h:Q (kas_item it i) st):wpS (model prog w) A E s (elem' a k) Q st:=by
 rw[elem'_eq,R.get hk]
 exact Gao h
theorem qj{l:List Nat}(h:Srt rk l):∀{u v x y:Nat},u≤v→l[u]? =some x→l[v]? =some y→rk x≤rk y:=by
 intro u v x y huv hx hy
 rcases Nat.lt_or_ge u v with c|c
 ·obtain⟨h1,rfl⟩:=Gad.mp hx
  obtain⟨h2,rfl⟩:=Gad.mp hy
  exact Gct.mp h u v h1 h2 c
 ·have:u=v:=by omega
  subst this
  rw[hx] at hy;cases hy;exact GbI _
theorem oO{lf:Bool}{xs:Array Keyed}{ps:List Nat}{ik b0 n h0:Nat}{Q:Option Nat→SortSt→Prop}(hA:i7 prog w A s κ it rk)(hk:kindOf st=κ)(R:bf it xs ps)(hi:ik<it.size)(hn:b0+n≤ps.length)(hs:Srt rk ((ps.drop b0).take n))(hh:h0<n)
  (h:∀k,k≤n→(∀x∈((ps.drop b0).take n).take k,if lf=true then rk x<rk ik else rk x≤rk ik)→(∀x∈((ps.drop b0).take n).drop k,if lf=true then rk ik≤rk x else rk ik<rk x)→Q (some k) st):
  wpS (model prog w) A E s (kB lf (kas_item it ik) xs b0 n h0) Q st:=by
 rw[Ey]
 have len:((ps.drop b0).take n).length=n:=by simp;omega
 have at_:∀u,u<n→∃x,((ps.drop b0).take n)[u]? =some x∧ps[b0+u]? =some x:=λu hu=>by
  have h1:u<((ps.drop b0).take n).length:=by rw[len];exact hu
  refine⟨((ps.drop b0).take n)[u],Gab h1, ?_⟩
  have:=Gab h1
  rw[GaU hu,Gbh] at this
  exact this
 have fin:∀B:Nat→Bool,(∀u x,((ps.drop b0).take n)[u]? =some x→B u=if lf=true then decide (rk x<rk ik) else !decide (rk ik<rk x))→∀k,Cut B n k→Q (some k) st:=by
  intro B hB k ⟨c1,c2,c3⟩
  refine h k c1 (λx hx=> ?_) (λx hx=> ?_)
  ·obtain⟨u,hu⟩:=GbQ.mp hx
   have hu' :u<k:=by have:=(Gad.mp hu).1;simp at this;omega
   rw[GaU hu'] at hu
   have b:=c2 u hu'
   rw[hB u x hu] at b
   cases lf with
   |true=>simpa using b
   |false=>simpa using b
  ·obtain⟨u,hu⟩:=GbQ.mp hx
   rw[Gbh] at hu
   have hu' :k+u<n:=by have:=(Gad.mp hu).1;rw[len] at this;exact this
   have b:=c3 (k+u) (by omega) hu'
   rw[hB _ x hu] at b
   cases lf with
   |true=>simpa using b
   |false=>simpa using b
 refine GV (B:=λu=>if lf=true then decide (rk (((ps.drop b0).take n).getD u 0)<rk ik) else !decide (rk ik<rk (((ps.drop b0).take n).getD u 0))) (λu hu R' hR=> ?_) (λu v huv hv b=> ?_) hh (fin _ λu x hx=>by simp[List.getD,hx])
 ·obtain⟨x,h1,h2⟩:=at_ u hu
  have e:((ps.drop b0).take n).getD u 0=x:=by simp[List.getD,h1]
  simp only[e] at hR
  unfold Ic
  refine Gai (bG R h2 ?_)
  cases lf with
  |true=>
   simp only[Gbj] at hR⊢
   exact vN hA hk (R.lt h2) hi hR
  |false=>
   simp only[GaB,GaV] at hR⊢
   exact Gai (vN hA hk hi (R.lt h2) (Gao hR))
 ·obtain⟨x,h1,_⟩:=at_ u (by omega)
  obtain⟨y,h2,_⟩:=at_ v hv
  have e1:((ps.drop b0).take n).getD u 0=x:=by simp[List.getD,h1]
  have e2:((ps.drop b0).take n).getD v 0=y:=by simp[List.getD,h2]
  have le:=qj hs huv h1 h2
  simp only[e1,e2] at b⊢
  cases lf with
  |true=>simp at b⊢;omega
  |false=>simp at b⊢;omega
end
noncomputable def Jv:Array Keyed→Array Keyed→SM (Array Keyed):=sortPriv%PySem.Builtin.mergeLo
theorem GW(a b:Array Keyed):Jv a b=(do
 rule "list.sort.merge-lo"
 let tot:=a.size+b.size
 let fin (o:Array Keyed) (u v:Nat):=o++a.extract u a.size++b.extract v b.size
 let las (o:Array Keyed) (u v:Nat):=o++b.extract v b.size++a.extract u a.size
 let mut o:Array Keyed:=#[←elem' b 0]
 let mut u:=0
 let mut v:=1
 if v==b.size then return fin o u v
 if u+1==a.size then return las o u v
 let mut mg:=gallopOf (←get)
 for _ in [0:tot] do
  let mut ca:=0
  let mut cb:=0
  for _ in [0:tot] do
   let some w←lt' (←elem' b v) (←elem' a u)|return fin o u v
   if w then
    o:=o.push (←elem' b v);v:=v+1;cb:=cb+1;ca:=0
    if v==b.size then return fin o u v
    if cb≥mg then break
   else
    o:=o.push (←elem' a u);u:=u+1;ca:=ca+1;cb:=0
    if u+1==a.size then return las o u v
    if ca≥mg then break
  rule "list.sort.gallop"
  mg:=mg+1
  for _ in [0:tot] do
   if mg>1 then mg:=mg -1
   qP mg
   let some k←kB false (←elem' b v) a u (a.size -u) 0|return fin o u v
   ca:=k
   if k>0 then
    o:=o++a.extract u (u+k);u:=u+k
    if u+1==a.size then return las o u v
    if u==a.size then return fin o u v
   o:=o.push (←elem' b v);v:=v+1
   if v==b.size then return fin o u v
   let some k←kB true (←elem' a u) b v (b.size -v) 0|return fin o u v
   cb:=k
   if k>0 then
    o:=o++b.extract v (v+k);v:=v+k
    if v==b.size then return fin o u v
   o:=o.push (←elem' a u);u:=u+1
   if u+1==a.size then return las o u v
   if ca<7&&cb<7 then break
  mg:=mg+1
  qP mg
 unsupported "internal:list.sort.merge-bound"):=rfl
noncomputable abbrev Ap:=Option (Array Keyed)×Array Keyed×Nat×Nat×Nat×Nat×Nat
noncomputable def loC(a b:Array Keyed)(mg ca cb:Nat)(o:Array Keyed)(u v:Nat):SM (ForInStep Ap):=do
 let e←elem' a u
 if(u+1+1==a.size)=true then pure (.done (some (o.push e++b.extract v b.size++a.extract (u+1) a.size),o.push e,u+1,v,mg,ca,cb))
 else if(decide (ca<7)&&decide (cb<7))=true then pure (.done (none,o.push e,u+1,v,mg,ca,cb))
 else pure (.yield (none,o.push e,u+1,v,mg,ca,cb))
noncomputable def loB(a b:Array Keyed)(mg ca cb:Nat)(o:Array Keyed)(u v:Nat):SM (ForInStep Ap):=do
 let e←elem' b v
 if(v+1==b.size)=true then pure (.done (some (o.push e++a.extract u a.size++b.extract (v+1) b.size),o.push e,u,v+1,mg,ca,cb))
 else do
  let e2←elem' a u
  let f←kB true e2 b (v+1) (b.size -(v+1)) 0
  match f with
  |some k=>
   if k>0 then
    if(v+1+k==b.size)=true then pure (.done (some (o.push e++b.extract (v+1) (v+1+k)++a.extract u a.size++b.extract (v+1+k) b.size),o.push e++b.extract (v+1) (v+1+k),u,v+1+k,mg,ca,k))
    else loC a b mg ca k (o.push e++b.extract (v+1) (v+1+k)) u (v+1+k)
   else loC a b mg ca k (o.push e) u (v+1)
  |_=>pure (.done (some (o.push e++a.extract u a.size++b.extract (v+1) b.size),o.push e,u,v+1,mg,ca,cb))
noncomputable def loA(a b:Array Keyed)(mg ca cb:Nat)(o:Array Keyed)(u v:Nat):SM (ForInStep Ap):=do
 qP mg
 let e←elem' b v
 let f←kB false e a u (a.size -u) 0
 match f with
 |some k=>
  if k>0 then
   if(u+k+1==a.size)=true then pure (.done (some (o++a.extract u (u+k)++b.extract v b.size++a.extract (u+k) a.size),o++a.extract u (u+k),u+k,v,mg,k,cb))
   else if(u+k==a.size)=true then pure (.done (some (o++a.extract u (u+k)++a.extract (u+k) a.size++b.extract v b.size),o++a.extract u (u+k),u+k,v,mg,k,cb))
   else loB a b mg k cb (o++a.extract u (u+k)) (u+k) v
  else loB a b mg k cb o u v
 |_=>pure (.done (some (o++a.extract u a.size++b.extract v b.size),o,u,v,mg,ca,cb))
structure LoI(rk:Nat→Int)(p q o:List Nat)(u v:Nat):Prop where
 pm:o.Perm (p.take u++q.take v)
 so:Srt rk o
 oa:∀x∈o,∀y∈p.drop u,rk x≤rk y
 ob:∀x∈o,∀y∈q.drop v,rk x≤rk y
section
variable{rk:Nat→Int}{p q o:List Nat}{u v k:Nat}
theorem dI{l m:List Nat}(h:Srt rk l)(h2:Srt rk m)(h3:∀x∈l,∀y∈m,rk x≤rk y):Srt rk (l++m):=List.pairwise_append.mpr ⟨h,h2,h3⟩
theorem fB{l:List Nat}(h:Srt rk l)(n:Nat):Srt rk (l.drop n):=h.sublist (List.drop_sublist _ _)
theorem fS{l:List Nat}(h:Srt rk l)(n:Nat):Srt rk (l.take n):=h.sublist (List.take_sublist _ _)
theorem qk{l:List Nat}(h:Srt rk l)(n:Nat):∀x∈l.take n,∀y∈l.drop n,rk x≤rk y:=by
 have:=h
 rw[←Gbc n l] at this
 exact(List.pairwise_append.mp this).2.2
theorem Cw{l:List Nat}{n k:Nat}{x:Nat}(h:x∈l.drop (n+k)):x∈l.drop n:=by
 rw[←GbR] at h
 exact Gbs h
theorem LoI.Aq(I:LoI rk p q o u v)(sp:Srt rk p)(h:∀x∈(p.drop u).take k,∀y∈q.drop v,rk x≤rk y):LoI rk p q (o++(p.drop u).take k) (u+k) v:=by
 refine⟨?_,dI I.so (fS (fB sp u) k) λx hx y hy=>I.oa x hx y (Gbl hy),λx hx y hy=> ?_,λx hx y hy=> ?_⟩
 ·rw[List.take_add]
  refine(I.pm.append_right _).trans ?_
  rw[Gax,Gax]
  exact Gbo.append_left _
 ·rcases Gay.mp hx with hx|hx
  ·exact I.oa x hx y (Cw hy)
  ·rw[←GbR] at hy
   exact qk (fB sp u) k x hx y hy
 ·rcases Gay.mp hx with hx|hx
  ·exact I.ob x hx y hy
  ·exact h x hx y hy
theorem LoI.swap(I:LoI rk p q o u v):LoI rk q p o v u:=⟨I.pm.trans Gbo,I.so,I.ob,I.oa⟩
theorem LoI.Jw(I:LoI rk p q o u v)(sq:Srt rk q)(h:∀x∈(q.drop v).take k,∀y∈p.drop u,rk x≤rk y):LoI rk p q (o++(q.drop v).take k) u (v+k):=(I.swap.Aq sq h).swap
theorem take1{l:List Nat}{n x:Nat}(h:l[n]? =some x):(l.drop n).take 1=[x]:=by
 obtain⟨h1,rfl⟩:=Gad.mp h
 rw[Gbx h1]
 rfl
theorem LoI.qQ{x:Nat}(I:LoI rk p q o u v)(sp:Srt rk p)(hx:p[u]? =some x)(h:∀y∈q.drop v,rk x≤rk y):LoI rk p q (o++[x]) (u+1) v:=by
 have:=I.Aq (k:=1) sp (by rw[take1 hx];intro z hz;simp at hz;subst hz;exact h)
 rw[take1 hx] at this
 exact this
theorem LoI.vO{x:Nat}(I:LoI rk p q o u v)(sq:Srt rk q)(hx:q[v]? =some x)(h:∀y∈p.drop u,rk x≤rk y):LoI rk p q (o++[x]) u (v+1):=(I.swap.qQ sq hx h).swap
theorem LoI.done(I:LoI rk p q o u v)(sp:Srt rk p)(sq:Srt rk q)(h:v=q.length∨u=p.length):(o++p.drop u++q.drop v).Perm (p++q)∧Srt rk (o++p.drop u++q.drop v):=by
 constructor
 ·refine(Gbm _ (Gbm _ I.pm)).trans ?_
  have e:p++q=(p.take u++p.drop u)++(q.take v++q.drop v):=by rw[Gbc,Gbc]
  rw[e,Gax,Gax,Gax]
  refine GbS _ ?_
  rw[←Gax,←Gax]
  exact Gbm _ Gbo
 ·rcases h with rfl|rfl
  ·rw[GbM,Gbb]
   exact dI I.so (fB sp u) I.oa
  ·rw[GbM,Gbb]
   exact dI I.so (fB sq v) I.ob
theorem LoI.last(I:LoI rk p q o u v)(sq:Srt rk q)(h:u+1=p.length)(hl:∀x,p[u]? =some x→∀y∈q,rk y≤rk x):(o++q.drop v++p.drop u).Perm (p++q)∧Srt rk (o++q.drop v++p.drop u):=by
 have hu:u<p.length:=by omega
 have e:p.drop u=[p[u]]:=by rw[Gbx hu,h,GbM]
 constructor
 ·have pm:=I.pm
  refine(Gbm _ (Gbm _ pm)).trans ?_
  rw[Gax,Gax,←Gax (List.take v q),Gbc]
  refine(GbS _ Gbo).trans ?_
  rw[←Gax,Gbc]
 ·refine dI (dI I.so (fB sq v) I.ob) (by rw[e];exact Gca _ _) λx hx y hy=> ?_
  rw[e] at hy
  simp at hy
  subst hy
  rcases Gay.mp hx with hx|hx
  ·exact I.oa x hx _ (by rw[e];simp)
  ·exact hl _ (Gab hu) x (Gbs hx)
end
section
variable{prog:Program}{w:World}{A:Around}{E:Value→Shared→Prop}{s:Shared}{st:SortSt}{κ:SortKind}{it:Array Keyed}{rk:Nat→Int}{a b:Array Keyed}{p q:List Nat}
noncomputable def dC(it:Array Keyed)(rk:Nat→Int)(p q:List Nat)(r:Array Keyed):Prop:=∃l,bf it r l∧l.Perm (p++q)∧Srt rk l
theorem m9{l:List Nat}{x y n:Nat}(h:Srt rk l)(hx:l[n]? =some x)(hy:y∈l.drop n):rk x≤rk y:=by
 obtain⟨k,hk⟩:=GbQ.mp hy
 rw[Gbh] at hk
 exact qj h (by omega) hx hk
structure LoP(it:Array Keyed)(rk:Nat→Int)(p q:List Nat)(o:Array Keyed)(u v:Nat):Prop where
 ex:∃l,bf it o l∧LoI rk p q l u v
 bu:u+1<p.length
 bv:v<q.length
noncomputable def Bq(it:Array Keyed)(rk:Nat→Int)(p q:List Nat)(N:Nat):ForInStep Ap→Prop
 | .done c=>(∃r t,c=(some r,t)∧dC it rk p q r)∨∃o u v mg ca cb,c=(none,o,u,v,mg,ca,cb)∧LoP it rk p q o u v∧N≤u+v
 | .yield c=>∃o u v mg ca cb,c=(none,o,u,v,mg,ca,cb)∧LoP it rk p q o u v∧N≤u+v
structure LoX(prog:Program)(w:World)(A:Around)(s:Shared)(κ:SortKind)(it:Array Keyed)(rk:Nat→Int)(a b:Array Keyed)(p q:List Nat):Prop where
 hA:i7 prog w A s κ it rk
 Ra:bf it a p
 Rb:bf it b q
 sp:Srt rk p
 sq:Srt rk q
 hl:∀x,p[p.length -1]? =some x→∀y∈q,rk y≤rk x
theorem LoX.done{o:Array Keyed}{l:List Nat}{u v:Nat}(X:LoX prog w A s κ it rk a b p q)(Ro:bf it o l)(I:LoI rk p q l u v)(hh:v=q.length∨u=p.length):dC it rk p q (o++a.extract u a.size++b.extract v b.size):=
 ⟨_,(Ro.append (X.Ra.drop _)).append (X.Rb.drop _),(I.done X.sp X.sq hh).1,(I.done X.sp X.sq hh).2⟩
theorem LoX.last{o:Array Keyed}{l:List Nat}{u v:Nat}(X:LoX prog w A s κ it rk a b p q)(Ro:bf it o l)(I:LoI rk p q l u v)(hh:u+1=p.length):dC it rk p q (o++b.extract v b.size++a.extract u a.size):=by
 have hl' :∀x,p[u]? =some x→∀y∈q,rk y≤rk x:=by
  have:=X.hl
  rw[show p.length -1=u by omega] at this;exact this
 exact⟨_,(Ro.append (X.Rb.drop _)).append (X.Ra.drop _),(I.last X.sq hh hl').1,(I.last X.sq hh hl').2⟩
theorem Ez{mg ca cb u v N:Nat}{o:Array Keyed}{l:List Nat}{R:ForInStep Ap→SortSt→Prop}(X:LoX prog w A s κ it rk a b p q)(Ro:bf it o l)(I:LoI rk p q l u v)(bu:u+1<p.length)(bv:v<q.length)
  (hx:∀x,p[u]? =some x→∀y∈q.drop v,rk x≤rk y)(hN:N≤u+v+1)(h:∀r,Bq it rk p q N r→R r st):wpS (model prog w) A E s (loC a b mg ca cb o u v) R st:=by
 have sza:=X.Ra.size
 unfold loC
 obtain⟨x,ex⟩:∃x,p[u]? =some x:=⟨_,Gab (by omega)⟩
 refine Gai (bG X.Ra ex ?_)
 have I' :=I.qQ X.sp ex (hx x ex)
 have Ro' :=Ro.push (X.Ra.lt ex)
 by_cases e:(u+1+1==a.size)=true
 ·rw[Gah e]
  have:u+1+1=a.size:=by simpa using e
  exact Gao (h _ (.inl ⟨_,_,rfl,X.last Ro' I' (by omega)⟩))
 ·rw[Gag e]
  have e' :u+1+1≠a.size:=by simpa using e
  by_cases e2:(decide (ca<7)&&decide (cb<7))=true
  ·rw[Gah e2]
   exact Gao (h _ (.inr ⟨_,_,_,_,_,_,rfl,⟨⟨_,Ro',I'⟩,by omega,bv⟩,by omega⟩))
  ·rw[Gag e2]
   exact Gao (h _ ⟨_,_,_,_,_,_,rfl,⟨⟨_,Ro',I'⟩,by omega,bv⟩,by omega⟩)
theorem EA{mg ca cb u v N:Nat}{o:Array Keyed}{l:List Nat}{R:ForInStep Ap→SortSt→Prop}(X:LoX prog w A s κ it rk a b p q)(hk:kindOf st=κ)(Ro:bf it o l)(I:LoI rk p q l u v)(bu:u+1<p.length)(bv:v<q.length)
  (hx:∀x,q[v]? =some x→∀y∈p.drop u,rk x≤rk y)(hN:N≤u+v+2)(h:∀r,Bq it rk p q N r→R r st):wpS (model prog w) A E s (loB a b mg ca cb o u v) R st:=by
 have szb:=X.Rb.size
 unfold loB
 obtain⟨y,ey⟩:∃x,q[v]? =some x:=⟨_,Gab bv⟩
 obtain⟨x,ex⟩:∃x,p[u]? =some x:=⟨_,Gab (by omega)⟩
 refine Gai (bG X.Rb ey ?_)
 have I1:=I.vO X.sq ey (hx y ey)
 have Ro1:=Ro.push (X.Rb.lt ey)
 by_cases e:(v+1==b.size)=true
 ·rw[Gah e]
  have:v+1=b.size:=by simpa using e
  exact Gao (h _ (.inl ⟨_,_,rfl,X.done Ro1 I1 (.inl (by omega))⟩))
 rw[Gag e]
 have e' :v+1≠b.size:=by simpa using e
 refine Gai (bG X.Ra ex ?_)
 have full:(q.drop (v+1)).take (b.size -(v+1))=q.drop (v+1):=Gbv (by simp;omega)
 refine Gai (oO X.hA hk X.Rb (X.Ra.lt ex) (by omega) (by rw[full];exact fB X.sq _) (by omega) λk hk1 t1 t2=> ?_)
 rw[full] at t1 t2
 simp only[Gbj] at t1 t2
 dsimp only
 have I2:=I1.Jw (k:=k) X.sq λz hz t ht=>by have:=t1 z hz;have:=m9 X.sp ex ht;omega
 have Ro2:=Ro1.append (X.Rb.extract (v+1) (v+1+k))
 rw[show v+1+k -(v+1)=k by omega] at Ro2
 have hx2:∀z,p[u]? =some z→∀t∈q.drop (v+1+k),rk z≤rk t:=λz hz t ht=>by
  rw[ex] at hz;cases hz
  rw[←GbR] at ht
  exact t2 t ht
 by_cases g:k>0
 ·rw[Gah g]
  by_cases e2:(v+1+k==b.size)=true
  ·rw[Gah e2]
   have:v+1+k=b.size:=by simpa using e2
   exact Gao (h _ (.inl ⟨_,_,rfl,X.done Ro2 I2 (.inl (by omega))⟩))
  ·rw[Gag e2]
   have e2' :v+1+k≠b.size:=by simpa using e2
   exact Ez X Ro2 I2 bu (by omega) hx2 (by omega) h
 ·rw[Gag g]
  have k0:k=0:=by omega
  subst k0
  exact Ez X Ro1 I1 bu (by omega) hx2 (by omega) h
theorem Jx{mg ca cb u v N:Nat}{o:Array Keyed}{l:List Nat}{R:ForInStep Ap→SortSt→Prop}(X:LoX prog w A s κ it rk a b p q)(hk:kindOf st=κ)(Ro:bf it o l)(I:LoI rk p q l u v)(bu:u+1<p.length)(bv:v<q.length)
  (hN:N≤u+v+2)(h:∀r z,bF st z→Bq it rk p q N r→R r z):wpS (model prog w) A E s (loA a b mg ca cb o u v) R st:=by
 have sza:=X.Ra.size
 unfold loA
 rw[nP]
 refine Gai (GbL ?_)
 generalize hz:SortSt.mk' (kindOf st) (arrOf st) (pendingOf st) mg (failedOf st)=z
 have sz:bF st z:=by rw[←hz];exact⟨rfl,rfl,rfl,rfl⟩
 have hkz:kindOf z=κ:=sz.1.trans hk
 have h' :∀r,Bq it rk p q N r→R r z:=λr hr=>h r z sz hr
 obtain⟨y,ey⟩:∃x,q[v]? =some x:=⟨_,Gab bv⟩
 refine Gai (bG X.Rb ey ?_)
 have full:(p.drop u).take (a.size -u)=p.drop u:=Gbv (by simp;omega)
 refine Gai (oO X.hA hkz X.Ra (X.Rb.lt ey) (by omega) (by rw[full];exact fB X.sp _) (by omega) λk hk1 t1 t2=> ?_)
 rw[full] at t1 t2
 simp only[GaB,GaV] at t1 t2
 dsimp only
 have I1:=I.Aq (k:=k) X.sp λz hz t ht=>by have:=t1 z hz;have:=m9 X.sq ey ht;omega
 have Ro1:=Ro.append (X.Ra.extract u (u+k))
 rw[show u+k -u=k by omega] at Ro1
 have hx:∀z,q[v]? =some z→∀t∈p.drop (u+k),rk z≤rk t:=λz hz t ht=>by
  rw[ey] at hz;cases hz
  rw[←GbR] at ht
  have:=t2 t ht;omega
 by_cases g:k>0
 ·rw[Gah g]
  by_cases e1:(u+k+1==a.size)=true
  ·rw[Gah e1]
   have:u+k+1=a.size:=by simpa using e1
   exact Gao (h' _ (.inl ⟨_,_,rfl,X.last Ro1 I1 (by omega)⟩))
  rw[Gag e1]
  have e1' :u+k+1≠a.size:=by simpa using e1
  by_cases e2:(u+k==a.size)=true
  ·rw[Gah e2]
   have:u+k=a.size:=by simpa using e2
   exact Gao (h' _ (.inl ⟨_,_,rfl,X.done Ro1 I1 (.inr (by omega))⟩))
  rw[Gag e2]
  have e2' :u+k≠a.size:=by simpa using e2
  exact EA X hkz Ro1 I1 (by omega) bv hx (by omega) h'
 ·rw[Gag g]
  have k0:k=0:=by omega
  subst k0
  exact EA X hkz Ro I bu bv hx (by omega) h'
theorem GX{G:Nat→Option (Array Keyed)×Array Keyed×Nat×Nat×Nat→SortSt→Prop}{n m:Nat}(h:∀i z o u v mg l,i<m→bF st z→bf it o l→LoI rk p q l u v→u+1<p.length→v<q.length→i+1≤u+v→G i (none,o,u,v,mg) z):∀i c z,n≤i→i<m→(bF st z∧∃o u v mg l,c=(none,o,u,v,mg)∧bf it o l∧LoI rk p q l u v∧u+1<p.length∧v<q.length∧i+1≤u+v)→G i c z:=by
 rintro i c z _ hi ⟨hz,o,u,v,mg,l,rfl,Ro,I,g1,g2,g3⟩
 exact h i z o u v mg l hi hz Ro I g1 g2 g3
theorem M7{G:Nat→Option (Array Keyed)×Array Keyed×Nat×Nat×Nat×Nat→SortSt→Prop}{n m t:Nat}{z:SortSt}(h:∀j o u v ca cb l,j<m→bf it o l→LoI rk p q l u v→u+1<p.length→v<q.length→t+j≤u+v→G j (none,o,u,v,ca,cb) z):∀j c z',n≤j→j<m→(z' =z∧∃o u v ca cb l,c=(none,o,u,v,ca,cb)∧bf it o l∧LoI rk p q l u v∧u+1<p.length∧v<q.length∧t+j≤u+v)→G j c z' :=by
 rintro j c z' _ hj ⟨rfl,o,u',v',ca,cb,l,rfl,Ro,I,k1,k2,k3⟩
 exact h j o u' v' ca cb l hj Ro I k1 k2 k3
theorem M8{G:Option (Array Keyed)×Array Keyed×Nat×Nat×Nat×Nat→SortSt→Prop}{n:Nat}{z:SortSt}(h1:∀r t,dC it rk p q r→G (some r,t) z)(h2:∀o u v ca cb l,bf it o l→LoI rk p q l u v→u+1<p.length→v<q.length→n≤u+v→G (none,o,u,v,ca,cb) z):∀c z',(z' =z∧((∃r t,c=(some r,t)∧dC it rk p q r)∨∃o u v ca cb l,c=(none,o,u,v,ca,cb)∧bf it o l∧LoI rk p q l u v∧u+1<p.length∧v<q.length∧n≤u+v))→G c z' :=by
 rintro c z' ⟨rfl,⟨r,t,rfl,g⟩| ⟨o1,u1,v1,ca1,cb1,l1,rfl,Ro1,I1,k1,k2,k3⟩⟩
 ·exact h1 r t g
 ·exact h2 o1 u1 v1 ca1 cb1 l1 Ro1 I1 k1 k2 k3
theorem M9{G:Nat→Option (Array Keyed)×Array Keyed×Nat×Nat×Nat×Nat×Nat→SortSt→Prop}{n m t:Nat}(h:∀j y o u v mg ca cb l,j<m→bF st y→bf it o l→LoI rk p q l u v→u+1<p.length→v<q.length→t+j≤u+v→G j (none,o,u,v,mg,ca,cb) y):∀j c y,n≤j→j<m→(bF st y∧∃o u v mg ca cb l,c=(none,o,u,v,mg,ca,cb)∧bf it o l∧LoI rk p q l u v∧u+1<p.length∧v<q.length∧t+j≤u+v)→G j c y:=by
 rintro j c y _ hj ⟨hy,o,u',v',mg',ca,cb,l,rfl,Ro,I,n1,n2,n3⟩
 exact h j y o u' v' mg' ca cb l hj hy Ro I n1 n2 n3
theorem Ma{G:Option (Array Keyed)×Array Keyed×Nat×Nat×Nat×Nat×Nat→SortSt→Prop}{n:Nat}(h1:∀y r t,bF st y→dC it rk p q r→G (some r,t) y)(h2:∀y o u v mg ca cb l,bF st y→bf it o l→LoI rk p q l u v→u+1<p.length→v<q.length→n≤u+v→G (none,o,u,v,mg,ca,cb) y):∀c y,(bF st y∧((∃r t,c=(some r,t)∧dC it rk p q r)∨∃o u v mg ca cb l,c=(none,o,u,v,mg,ca,cb)∧bf it o l∧LoI rk p q l u v∧u+1<p.length∧v<q.length∧n≤u+v))→G c y:=by
 rintro c y ⟨hy,⟨r,t,rfl,g⟩| ⟨o1,u1,v1,mg1,ca1,cb1,l1,rfl,Ro1,I1,k1,k2,k3⟩⟩
 ·exact h1 y r t hy g
 ·exact h2 y o1 u1 v1 mg1 ca1 cb1 l1 hy Ro1 I1 k1 k2 k3
theorem Mb{Q:Array Keyed→SortSt→Prop}(hA:i7 prog w A s κ it rk)(hk:kindOf st=κ)(Ra:bf it a p)(Rb:bf it b q)(sp:Srt rk p)(sq:Srt rk q)(hp:0<p.length)(hq:0<q.length)
  (h0:∀x,q[0]? =some x→∀y∈p,rk x≤rk y)(hl:∀x,p[p.length -1]? =some x→∀y∈q,rk y≤rk x)(h:∀r z,bF st z→dC it rk p q r→Q r z):wpS (model prog w) A E s (Jv a b) Q st:=by
 rw[GW]
 refine Gai (wpS_lift (GbX ⟨rfl, ?_⟩))
 dsimp only
 obtain⟨x0,hx0⟩:∃x,q[0]? =some x:=⟨_,Gab hq⟩
 refine Gai (bG Rb hx0 ?_)
 have I0:LoI rk p q [x0] 0 1:=by
  refine⟨?_,Gca _ _,λx hx y hy=> ?_,λx hx y hy=> ?_⟩
  ·have:=take1 hx0
   rw[GbD] at this
   rw[this];simp
  ·simp at hx;subst hx;exact h0 _ hx0 y (Gbs hy)
  ·simp at hx;subst hx;exact m9 sq hx0 (Gbs hy)
 have R0:bf it #[kas_item it x0] [x0]:=⟨rfl,λj hj=>by simp at hj;subst hj;exact Rb.lt hx0⟩
 have sza:=Ra.size
 have szb:=Rb.size
 have X:LoX prog w A s κ it rk a b p q:=⟨hA,Ra,Rb,sp,sq,hl⟩
 refine dH (λc1=> ?_) λc1=> ?_
 ·have:1=b.size:=by simpa using c1
  exact Gao (h _ _ .refl (X.done R0 I0 (.inl (by omega))))
 have c1' :1≠b.size:=by simpa using c1
 refine dH (λc2=> ?_) λc2=> ?_
 ·have:0+1=a.size:=by simpa using c2
  exact Gao (h _ _ .refl (X.last R0 I0 (by omega)))
 have c2' :0+1≠a.size:=by simpa using c2
 refine Gai (GcI ?_)
 refine Gai (Gbr (Gbg (I:=λi c z=>bF st z∧∃o u v mg l,c=(none,o,u,v,mg)∧bf it o l∧LoI rk p q l u v∧u+1<p.length∧v<q.length∧i+1≤u+v)
  (Q:=λc z=>bF st z∧∃r t,c=(some r,t)∧dC it rk p q r) ?step ?fin ⟨.refl,_,0,1,_,[x0],rfl,R0,I0,by omega,by omega,by omega⟩) ?post)
 case fin=>
  rintro c z ⟨_,o,u,v,mg,l,rfl,_,_,g1,g2,g3⟩
  exfalso
  omega
 case post=>
  rintro c z ⟨hz,r,t,rfl,g⟩
  exact Gao (h r z hz g)
 case step=>
  refine GX λi z o u v mg l hi hz Ro I g1 g2 g3=> ?_
  dsimp only
  have hkz:kindOf z=κ:=hz.1.trans hk
  refine Gai (Gbr (Gbg (I:=λj c z' =>z' =z∧∃o u' v' ca cb l,c=(none,o,u',v',ca,cb)∧bf it o l∧LoI rk p q l u' v' ∧u' +1<p.length∧v' <q.length∧u+v+j≤u' +v')
   (Q:=λc z' =>z' =z∧((∃r t,c=(some r,t)∧dC it rk p q r)∨∃o u' v' ca cb l,c=(none,o,u',v',ca,cb)∧bf it o l∧LoI rk p q l u' v' ∧u' +1<p.length∧v' <q.length∧u+v+1≤u' +v')) ?s1 ?f1 ⟨rfl,o,u,v,0,0,l,rfl,Ro,I,g1,g2,by omega⟩) ?p1)
  case f1=>
   rintro c z' ⟨_,o,u',v',ca,cb,l,rfl,_,_,k1,k2,k3⟩
   exfalso
   omega
  case s1=>
   refine M7 λj o u' v' ca cb l hj Ro I k1 k2 k3=> ?_
   dsimp only
   obtain⟨y,hy⟩:∃x,q[v']? =some x:=⟨_,Gab k2⟩
   obtain⟨x,hx⟩:∃x,p[u']? =some x:=⟨_,Gab (by omega)⟩
   refine Gai (bG Rb hy (Gai (bG Ra hx (Gai (vN hA hkz (Rb.lt hy) (Ra.lt hx) ?_)))))
   dsimp only
   refine dH (λlt=> ?_) λlt=> ?_
   ·replace lt:=Gaw lt
    refine Gai (bG Rb hy ?_)
    have I' :=I.vO sq hy λt ht=>by have:=m9 sp hx ht;omega
    have Ro' :=Ro.push (Rb.lt hy)
    refine dH (λe=> ?_) λe=> ?_
    ·have:v' +1=b.size:=by simpa using e
     exact Gao ⟨rfl,.inl ⟨_,_,rfl,X.done Ro' I' (.inl (by omega))⟩⟩
    ·have e' :v' +1≠b.size:=by simpa using e
     refine dH (λe2=> ?_) λe2=> ?_
     ·exact Gao ⟨rfl,.inr ⟨_,_,_,_,_,_,rfl,Ro',I',k1,by omega,by omega⟩⟩
     ·exact Gao ⟨rfl,_,_,_,_,_,_,rfl,Ro',I',k1,by omega,by omega⟩
   ·replace lt:=of_decide_eq_false (Bool.eq_false_iff.mpr lt)
    refine Gai (bG Ra hx ?_)
    have I' :=I.qQ sp hx λt ht=>by have:=m9 sq hy ht;omega
    have Ro' :=Ro.push (Ra.lt hx)
    refine dH (λe=> ?_) λe=> ?_
    ·have:u' +1+1=a.size:=by simpa using e
     exact Gao ⟨rfl,.inl ⟨_,_,rfl,X.last Ro' I' (by omega)⟩⟩
    ·have e' :u' +1+1≠a.size:=by simpa using e
     refine dH (λe2=> ?_) λe2=> ?_
     ·exact Gao ⟨rfl,.inr ⟨_,_,_,_,_,_,rfl,Ro',I',by omega,k2,by omega⟩⟩
     ·exact Gao ⟨rfl,_,_,_,_,_,_,rfl,Ro',I',by omega,k2,by omega⟩
  case p1=>
   refine M8 (λr t g=>Gao ⟨hz,r,_,rfl,g⟩) λo1 u1 v1 ca1 cb1 l1 Ro1 I1 k1 k2 k3=> ?_
   dsimp only
   refine Gai (wpS_lift (GbX ⟨rfl, ?_⟩))
   refine Gai (Gbr (Gbg (I:=λj c y=>bF st y∧∃o u' v' mg ca cb l,c=(none,o,u',v',mg,ca,cb)∧bf it o l∧LoI rk p q l u' v' ∧u' +1<p.length∧v' <q.length∧u1+v1+j≤u' +v')
    (Q:=λc y=>bF st y∧((∃r t,c=(some r,t)∧dC it rk p q r)∨∃o u' v' mg ca cb l,c=(none,o,u',v',mg,ca,cb)∧bf it o l∧LoI rk p q l u' v' ∧u' +1<p.length∧v' <q.length∧u1+v1≤u' +v')) ?s2 ?f2 ⟨hz,o1,u1,v1,_,ca1,cb1,l1,rfl,Ro1,I1,k1,k2,by omega⟩) ?p2)
   case f2=>
    rintro c y ⟨_,o,u',v',mg,ca,cb,l,rfl,_,_,n1,n2,n3⟩
    exfalso
    omega
   case p2=>
    refine Ma (λy r t hy g=>Gao ⟨hy,r,_,rfl,g⟩) λy o2 u2 v2 mg2 ca2 cb2 l2 hy Ro2 I2 n1 n2 n3=> ?_
    dsimp only
    rw[nP]
    refine Gai (GbL (Gao ⟨hy.trans ⟨rfl,rfl,rfl,rfl⟩,o2,u2,v2,_,l2,rfl,Ro2,I2,n1,n2,by omega⟩))
   case s2=>
    refine M9 λj y o u' v' mg' ca cb l hj hy Ro I n1 n2 n3=> ?_
    dsimp only
    have fin:∀g,wpS (model prog w) A E s (loA a b g ca cb o u' v') (λr y' =>match r with
      | .done c=>bF st y' ∧((∃r t,c=(some r,t)∧dC it rk p q r)∨∃o u' v' mg ca cb l,c=(none,o,u',v',mg,ca,cb)∧bf it o l∧LoI rk p q l u' v' ∧u' +1<p.length∧v' <q.length∧u1+v1≤u' +v')
      | .yield c=>bF st y' ∧∃o u' v' mg ca cb l,c=(none,o,u',v',mg,ca,cb)∧bf it o l∧LoI rk p q l u' v' ∧u' +1<p.length∧v' <q.length∧u1+v1+(j+1)≤u' +v') y:=λg=>by
     refine Jx X (hy.1.trans hk) Ro I n1 n2 (N:=u' +v' +2) (Gaq _) λr z' sz hr=> ?_
     cases r with
     |done c=>
      rcases hr with hr| ⟨o,u,v,mg,ca,cb,e,P,hn⟩
      ·exact⟨hy.trans sz,.inl hr⟩
      ·obtain⟨l,h1,h2⟩:=P.ex
       exact⟨hy.trans sz,.inr ⟨o,u,v,mg,ca,cb,l,e,h1,h2,P.bu,P.bv,by omega⟩⟩
     |yield c=>
      obtain⟨o,u,v,mg,ca,cb,e,P,hn⟩:=hr
      obtain⟨l,h1,h2⟩:=P.ex
      exact⟨hy.trans sz,o,u,v,mg,ca,cb,l,e,h1,h2,P.bu,P.bv,by omega⟩
    show wpS (model prog w) A E s (if mg' >1 then loA a b (mg' -1) ca cb o u' v' else loA a b mg' ca cb o u' v') _ y
    split
    ·exact Gbr (fin _) λr y' hr=>by cases r<;>exact hr
    ·exact Gbr (fin _) λr y' hr=>by cases r<;>exact hr
end
noncomputable def Jy:Array Keyed→Array Keyed→SM (Array Keyed):=sortPriv%PySem.Builtin.mergeHi
theorem GY(a b:Array Keyed):Jy a b=(do
 rule "list.sort.merge-hi"
 let tot:=a.size+b.size
 let fin (o:Array Keyed) (u v:Nat):=a.extract 0 u++b.extract 0 v++o.reverse
 let fst (o:Array Keyed) (u v:Nat):=b.extract 0 v++a.extract 0 u++o.reverse
 let mut u:=a.size -1
 let mut v:=b.size
 let mut o:Array Keyed:=#[←elem' a u]
 if u==0 then return fin o u v
 if v==1 then return fst o u v
 let mut mg:=gallopOf (←get)
 for _ in [0:tot] do
  let mut ca:=0
  let mut cb:=0
  for _ in [0:tot] do
   let some w←lt' (←elem' b (v -1)) (←elem' a (u -1))|return fin o u v
   if w then
    u:=u -1;o:=o.push (←elem' a u);ca:=ca+1;cb:=0
    if u==0 then return fin o u v
    if ca≥mg then break
   else
    v:=v -1;o:=o.push (←elem' b v);cb:=cb+1;ca:=0
    if v==1 then return fst o u v
    if cb≥mg then break
  rule "list.sort.gallop"
  mg:=mg+1
  for _ in [0:tot] do
   if mg>1 then mg:=mg -1
   qP mg
   let some c←kB false (←elem' b (v -1)) a 0 u (u -1)|return fin o u v
   let k:=u -c
   ca:=k
   if k>0 then
    o:=o++(a.extract c u).reverse;u:=c
    if u==0 then return fin o u v
   v:=v -1;o:=o.push (←elem' b v)
   if v==1 then return fst o u v
   let some c←kB true (←elem' a (u -1)) b 0 v (v -1)|return fin o u v
   let k:=v -c
   cb:=k
   if k>0 then
    o:=o++(b.extract c v).reverse;v:=c
    if v==1 then return fst o u v
    if v==0 then return fin o u v
   u:=u -1;o:=o.push (←elem' a u)
   if u==0 then return fin o u v
   if ca<7&&cb<7 then break
  mg:=mg+1
  qP mg
 unsupported "internal:list.sort.merge-bound"):=rfl
noncomputable abbrev Ar:=Option (Array Keyed)×Nat×Nat×Array Keyed×Nat×Nat×Nat
noncomputable def hiC(a b:Array Keyed)(mg ca cb:Nat)(o:Array Keyed)(u v:Nat):SM (ForInStep Ar):=do
 let e←elem' a (u -1)
 if(u -1==0)=true then pure (.done (some (a.extract 0 (u -1)++b.extract 0 v++(o.push e).reverse),u -1,v,o.push e,mg,ca,cb))
 else if(decide (ca<7)&&decide (cb<7))=true then pure (.done (none,u -1,v,o.push e,mg,ca,cb))
 else pure (.yield (none,u -1,v,o.push e,mg,ca,cb))
noncomputable def hiB(a b:Array Keyed)(mg ca cb:Nat)(o:Array Keyed)(u v:Nat):SM (ForInStep Ar):=do
 let e←elem' b (v -1)
 if(v -1==1)=true then pure (.done (some (b.extract 0 (v -1)++a.extract 0 u++(o.push e).reverse),u,v -1,o.push e,mg,ca,cb))
 else do
  let e2←elem' a (u -1)
  let f←kB true e2 b 0 (v -1) (v -1 -1)
  match f with
  |some c=>
   if v -1 -c>0 then
    if(c==1)=true then pure (.done (some (b.extract 0 c++a.extract 0 u++(o.push e++(b.extract c (v -1)).reverse).reverse),u,c,o.push e++(b.extract c (v -1)).reverse,mg,ca,v -1 -c))
    else if(c==0)=true then pure (.done (some (a.extract 0 u++b.extract 0 c++(o.push e++(b.extract c (v -1)).reverse).reverse),u,c,o.push e++(b.extract c (v -1)).reverse,mg,ca,v -1 -c))
    else hiC a b mg ca (v -1 -c) (o.push e++(b.extract c (v -1)).reverse) u c
   else hiC a b mg ca (v -1 -c) (o.push e) u (v -1)
  |_=>pure (.done (some (a.extract 0 u++b.extract 0 (v -1)++(o.push e).reverse),u,v -1,o.push e,mg,ca,cb))
noncomputable def hiA(a b:Array Keyed)(mg ca cb:Nat)(o:Array Keyed)(u v:Nat):SM (ForInStep Ar):=do
 qP mg
 let e←elem' b (v -1)
 let f←kB false e a 0 u (u -1)
 match f with
 |some c=>
  if u -c>0 then
   if(c==0)=true then pure (.done (some (a.extract 0 c++b.extract 0 v++(o++(a.extract c u).reverse).reverse),c,v,o++(a.extract c u).reverse,mg,u -c,cb))
   else hiB a b mg (u -c) cb (o++(a.extract c u).reverse) c v
  else hiB a b mg (u -c) cb o u v
 |_=>pure (.done (some (a.extract 0 u++b.extract 0 v++o.reverse),u,v,o,mg,ca,cb))
structure HiI(rk:Nat→Int)(p q o:List Nat)(u v:Nat):Prop where
 pm:o.Perm (p.drop u++q.drop v)
 so:Srt rk o.reverse
 oa:∀x∈o,∀y∈p.take u,rk y≤rk x
 ob:∀x∈o,∀y∈q.take v,rk y≤rk x
section
variable{rk:Nat→Int}{p q o:List Nat}{u v c:Nat}
theorem Cy{l:List Nat}{m n:Nat}{x:Nat}(h:m≤n)(hx:x∈l.take m):x∈l.take n:=by
 have:l.take m=(l.take n).take m:=by rw[Gcw,GcE h]
 rw[this] at hx
 exact Gbl hx
theorem EB{l:List Nat}{m n:Nat}{x:Nat}(h:m≤n)(hx:x∈(l.drop m).take (n -m)):x∈l.take n:=by
 rw[←GcJ] at hx
 exact Gbs hx
theorem EC{l:List Nat}{m n:Nat}(h:m≤n):l.drop m=(l.drop m).take (n -m)++l.drop n:=by
 conv=>lhs;rw[←Gbc (n -m) (l.drop m)]
 rw[GbR,show m+(n -m)=n by omega]
theorem HiI.Aq(I:HiI rk p q o u v)(sp:Srt rk p)(hc:c≤u)(h:∀x∈(p.drop c).take (u -c),∀y∈q.take v,rk y≤rk x):HiI rk p q (o++((p.drop c).take (u -c)).reverse) c v:=by
 refine⟨?_, ?_,λx hx y hy=> ?_,λx hx y hy=> ?_⟩
 ·have e:p.drop c++q.drop v=((p.drop c).take (u -c)++p.drop u)++q.drop v:=by rw[←EC hc]
  rw[e]
  refine(Gbo.trans ?_)
  rw[Gax]
  exact(List.reverse_perm _).append I.pm
 ·rw[List.reverse_append,List.reverse_reverse]
  exact dI (fS (fB sp c) _) I.so λx hx y hy=>I.oa y (GbN.mp hy) x (EB hc hx)
 ·rcases Gay.mp hx with hx|hx
  ·exact I.oa x hx y (Cy hc hy)
  ·exact qk sp c y hy x (Gbl (GbN.mp hx))
 ·rcases Gay.mp hx with hx|hx
  ·exact I.ob x hx y hy
  ·exact h x (GbN.mp hx) y hy
theorem HiI.swap(I:HiI rk p q o u v):HiI rk q p o v u:=⟨I.pm.trans Gbo,I.so,I.ob,I.oa⟩
theorem HiI.Jw(I:HiI rk p q o u v)(sq:Srt rk q)(hc:c≤v)(h:∀x∈(q.drop c).take (v -c),∀y∈p.take u,rk y≤rk x):HiI rk p q (o++((q.drop c).take (v -c)).reverse) u c:=(I.swap.Aq sq hc h).swap
theorem HiI.qQ{x:Nat}(I:HiI rk p q o u v)(sp:Srt rk p)(hu:0<u)(hx:p[u -1]? =some x)(h:∀y∈q.take v,rk y≤rk x):HiI rk p q (o++[x]) (u -1) v:=by
 have e:(p.drop (u -1)).take (u -(u -1))=[x]:=by rw[show u -(u -1)=1 by omega];exact take1 hx
 have:=I.Aq (c:=u -1) sp (by omega) (by rw[e];intro z hz;simp at hz;subst hz;exact h)
 rw[e] at this
 exact this
theorem HiI.vO{x:Nat}(I:HiI rk p q o u v)(sq:Srt rk q)(hv:0<v)(hx:q[v -1]? =some x)(h:∀y∈p.take u,rk y≤rk x):HiI rk p q (o++[x]) u (v -1):=(I.swap.qQ sq hv hx h).swap
theorem HiI.perm(I:HiI rk p q o u v):(p.take u++q.take v++o.reverse).Perm (p++q):=by
 refine(GbS _ ((List.reverse_perm _).trans I.pm)).trans ?_
 have e:p++q=(p.take u++p.drop u)++(q.take v++q.drop v):=by rw[Gbc,Gbc]
 rw[e,Gax,Gax]
 refine GbS _ ?_
 rw[←Gax,←Gax]
 exact Gbm _ Gbo
theorem HiI.done(I:HiI rk p q o u v)(sp:Srt rk p)(sq:Srt rk q)(h:u=0∨v=0):(p.take u++q.take v++o.reverse).Perm (p++q)∧Srt rk (p.take u++q.take v++o.reverse):=by
 refine⟨I.perm, ?_⟩
 rcases h with rfl|rfl
 ·rw[List.take_zero,List.nil_append]
  exact dI (fS sq v) I.so λx hx y hy=>I.ob y (GbN.mp hy) x hx
 ·rw[List.take_zero,Gbb]
  exact dI (fS sp u) I.so λx hx y hy=>I.oa y (GbN.mp hy) x hx
theorem HiI.first(I:HiI rk p q o u v)(sp:Srt rk p)(h:v=1)(h0:∀x,q[0]? =some x→∀y∈p,rk x≤rk y):(q.take v++p.take u++o.reverse).Perm (p++q)∧Srt rk (q.take v++p.take u++o.reverse):=by
 refine⟨(Gbm _ Gbo).trans I.perm, ?_⟩
 subst h
 refine dI (dI ?_ (fS sp u) λx hx y hy=> ?_) I.so λx hx y hy=> ?_
 ·cases q with
  |nil=>exact List.Pairwise.nil
  |cons z t=>exact Gca _ _
 ·cases q with
  |nil=>cases hx
  |cons z t=>
   have:x=z:=by simpa using hx
   subst this
   exact h0 x rfl y (Gbl hy)
 ·rcases Gay.mp hx with hx|hx
  ·exact I.ob y (GbN.mp hy) x hx
  ·exact I.oa y (GbN.mp hy) x hx
end
section
variable{prog:Program}{w:World}{A:Around}{E:Value→Shared→Prop}{s:Shared}{st:SortSt}{κ:SortKind}{it:Array Keyed}{rk:Nat→Int}{a b:Array Keyed}{p q:List Nat}
theorem bf.take{a:Array Keyed}{p:List Nat}(R:bf it a p)(n:Nat):bf it (a.extract 0 n) (p.take n):=by
 have:=R.extract 0 n
 rw[GbD,Nat.sub_zero] at this
 exact this
theorem ma{l:List Nat}{x y n:Nat}(h:Srt rk l)(hx:l[n -1]? =some x)(hy:y∈l.take n):rk y≤rk x:=by
 obtain⟨k,hk⟩:=GbQ.mp hy
 have hkn:k<n:=by have:=(Gad.mp hk).1;simp at this;omega
 rw[GaU hkn] at hk
 exact qj h (by omega) hk hx
structure HiP(it:Array Keyed)(rk:Nat→Int)(p q:List Nat)(o:Array Keyed)(u v:Nat):Prop where
 ex:∃l,bf it o l∧HiI rk p q l u v
 bu:0<u
 bv:1<v
 cu:u≤p.length
 cv:v≤q.length
noncomputable def Br(it:Array Keyed)(rk:Nat→Int)(p q:List Nat)(N:Nat):ForInStep Ar→Prop
 | .done c=>(∃r t,c=(some r,t)∧dC it rk p q r)∨∃o u v mg ca cb,c=(none,u,v,o,mg,ca,cb)∧HiP it rk p q o u v∧u+v≤N
 | .yield c=>∃o u v mg ca cb,c=(none,u,v,o,mg,ca,cb)∧HiP it rk p q o u v∧u+v≤N
structure HiX(prog:Program)(w:World)(A:Around)(s:Shared)(κ:SortKind)(it:Array Keyed)(rk:Nat→Int)(a b:Array Keyed)(p q:List Nat):Prop where
 hA:i7 prog w A s κ it rk
 Ra:bf it a p
 Rb:bf it b q
 sp:Srt rk p
 sq:Srt rk q
 h0:∀x,q[0]? =some x→∀y∈p,rk x≤rk y
theorem HiX.done{o:Array Keyed}{l:List Nat}{u v:Nat}(X:HiX prog w A s κ it rk a b p q)(Ro:bf it o l)(I:HiI rk p q l u v)(hh:u=0∨v=0):dC it rk p q (a.extract 0 u++b.extract 0 v++o.reverse):=
 ⟨_,((X.Ra.take _).append (X.Rb.take _)).append Ro.reverse,(I.done X.sp X.sq hh).1,(I.done X.sp X.sq hh).2⟩
theorem HiX.first{o:Array Keyed}{l:List Nat}{u v:Nat}(X:HiX prog w A s κ it rk a b p q)(Ro:bf it o l)(I:HiI rk p q l u v)(hh:v=1):dC it rk p q (b.extract 0 v++a.extract 0 u++o.reverse):=
 ⟨_,((X.Rb.take _).append (X.Ra.take _)).append Ro.reverse,(I.first X.sp hh X.h0).1,(I.first X.sp hh X.h0).2⟩
theorem ED{mg ca cb u v N:Nat}{o:Array Keyed}{l:List Nat}{R:ForInStep Ar→SortSt→Prop}(X:HiX prog w A s κ it rk a b p q)(Ro:bf it o l)(I:HiI rk p q l u v)(bu:0<u)(bv:1<v)(cu:u≤p.length)(cv:v≤q.length)
  (hx:∀x,p[u -1]? =some x→∀y∈q.take v,rk y≤rk x)(hN:u+v≤N+1)(h:∀r,Br it rk p q N r→R r st):wpS (model prog w) A E s (hiC a b mg ca cb o u v) R st:=by
 unfold hiC
 obtain⟨x,ex⟩:∃x,p[u -1]? =some x:=⟨_,Gab (by omega)⟩
 refine Gai (bG X.Ra ex ?_)
 have I' :=I.qQ X.sp bu ex (hx x ex)
 have Ro' :=Ro.push (X.Ra.lt ex)
 by_cases e:(u -1==0)=true
 ·rw[Gah e]
  have:u -1=0:=by simpa using e
  exact Gao (h _ (.inl ⟨_,_,rfl,X.done Ro' I' (.inl this)⟩))
 ·rw[Gag e]
  have e' :u -1≠0:=by simpa using e
  by_cases e2:(decide (ca<7)&&decide (cb<7))=true
  ·rw[Gah e2]
   exact Gao (h _ (.inr ⟨_,_,_,_,_,_,rfl,⟨⟨_,Ro',I'⟩,by omega,bv,by omega,cv⟩,by omega⟩))
  ·rw[Gag e2]
   exact Gao (h _ ⟨_,_,_,_,_,_,rfl,⟨⟨_,Ro',I'⟩,by omega,bv,by omega,cv⟩,by omega⟩)
theorem EF{mg ca cb u v N:Nat}{o:Array Keyed}{l:List Nat}{R:ForInStep Ar→SortSt→Prop}(X:HiX prog w A s κ it rk a b p q)(hk:kindOf st=κ)(Ro:bf it o l)(I:HiI rk p q l u v)(bu:0<u)(bv:1<v)(cu:u≤p.length)(cv:v≤q.length)
  (hx:∀x,q[v -1]? =some x→∀y∈p.take u,rk y≤rk x)(hN:u+v≤N+2)(h:∀r,Br it rk p q N r→R r st):wpS (model prog w) A E s (hiB a b mg ca cb o u v) R st:=by
 unfold hiB
 obtain⟨y,ey⟩:∃x,q[v -1]? =some x:=⟨_,Gab (by omega)⟩
 obtain⟨x,ex⟩:∃x,p[u -1]? =some x:=⟨_,Gab (by omega)⟩
 refine Gai (bG X.Rb ey ?_)
 have I1:=I.vO X.sq (by omega) ey (hx y ey)
 have Ro1:=Ro.push (X.Rb.lt ey)
 by_cases e:(v -1==1)=true
 ·rw[Gah e]
  have:v -1=1:=by simpa using e
  exact Gao (h _ (.inl ⟨_,_,rfl,X.first Ro1 I1 this⟩))
 rw[Gag e]
 have e' :v -1≠1:=by simpa using e
 refine Gai (bG X.Ra ex ?_)
 refine Gai (oO X.hA hk X.Rb (X.Ra.lt ex) (by omega) (by rw[GbD];exact fS X.sq _) (by omega) λc hc1 t1 t2=> ?_)
 rw[GbD] at t1 t2
 simp only[Gbj] at t1 t2
 dsimp only
 have t2' :∀z∈(q.drop c).take (v -1 -c),rk x≤rk z:=λz hz=>t2 z (by rw[GcJ];exact hz)
 have t1' :∀z∈q.take c,rk z<rk x:=λz hz=>t1 z (by rw[Gcw,GcE hc1];exact hz)
 have I2:=I1.Jw (c:=c) X.sq hc1 λz hz t ht=>by have:=t2' z hz;have:=ma X.sp ex ht;omega
 have Ro2:=Ro1.append (X.Rb.extract c (v -1)).reverse
 have hx2:∀z,p[u -1]? =some z→∀t∈q.take c,rk t≤rk z:=λz hz t ht=>by
  rw[ex] at hz;cases hz
  have:=t1' t ht;omega
 by_cases g:v -1 -c>0
 ·rw[Gah g]
  by_cases e2:(c==1)=true
  ·rw[Gah e2]
   have:c=1:=by simpa using e2
   exact Gao (h _ (.inl ⟨_,_,rfl,X.first Ro2 I2 this⟩))
  rw[Gag e2]
  have e2' :c≠1:=by simpa using e2
  by_cases e3:(c==0)=true
  ·rw[Gah e3]
   have:c=0:=by simpa using e3
   exact Gao (h _ (.inl ⟨_,_,rfl,X.done Ro2 I2 (.inr this)⟩))
  rw[Gag e3]
  have e3' :c≠0:=by simpa using e3
  exact ED X Ro2 I2 bu (by omega) cu (by omega) hx2 (by omega) h
 ·rw[Gag g]
  have k0:c=v -1:=by omega
  rw[k0] at hx2
  exact ED X Ro1 I1 bu (by omega) cu (by omega) hx2 (by omega) h
theorem Jz{mg ca cb u v N:Nat}{o:Array Keyed}{l:List Nat}{R:ForInStep Ar→SortSt→Prop}(X:HiX prog w A s κ it rk a b p q)(hk:kindOf st=κ)(Ro:bf it o l)(I:HiI rk p q l u v)(bu:0<u)(bv:1<v)(cu:u≤p.length)(cv:v≤q.length)
  (hN:u+v≤N+2)(h:∀r z,bF st z→Br it rk p q N r→R r z):wpS (model prog w) A E s (hiA a b mg ca cb o u v) R st:=by
 unfold hiA
 rw[nP]
 refine Gai (GbL ?_)
 generalize hz:SortSt.mk' (kindOf st) (arrOf st) (pendingOf st) mg (failedOf st)=z
 have sz:bF st z:=by rw[←hz];exact⟨rfl,rfl,rfl,rfl⟩
 have hkz:kindOf z=κ:=sz.1.trans hk
 have h' :∀r,Br it rk p q N r→R r z:=λr hr=>h r z sz hr
 obtain⟨y,ey⟩:∃x,q[v -1]? =some x:=⟨_,Gab (by omega)⟩
 refine Gai (bG X.Rb ey ?_)
 refine Gai (oO X.hA hkz X.Ra (X.Rb.lt ey) (by omega) (by rw[GbD];exact fS X.sp _) (by omega) λc hc1 t1 t2=> ?_)
 rw[GbD] at t1 t2
 simp only[GaB,GaV] at t1 t2
 dsimp only
 have t2' :∀z∈(p.drop c).take (u -c),rk y<rk z:=λz hz=>t2 z (by rw[GcJ];exact hz)
 have t1' :∀z∈p.take c,rk z≤rk y:=λz hz=>t1 z (by rw[Gcw,GcE hc1];exact hz)
 have I1:=I.Aq (c:=c) X.sp hc1 λz hz t ht=>by have:=t2' z hz;have:=ma X.sq ey ht;omega
 have Ro1:=Ro.append (X.Ra.extract c u).reverse
 have hx:∀z,q[v -1]? =some z→∀t∈p.take c,rk t≤rk z:=λz hz t ht=>by
  rw[ey] at hz;cases hz
  exact t1' t ht
 by_cases g:u -c>0
 ·rw[Gah g]
  by_cases e1:(c==0)=true
  ·rw[Gah e1]
   have:c=0:=by simpa using e1
   exact Gao (h' _ (.inl ⟨_,_,rfl,X.done Ro1 I1 (.inl this)⟩))
  rw[Gag e1]
  have e1' :c≠0:=by simpa using e1
  exact EF X hkz Ro1 I1 (by omega) bv (by omega) cv hx (by omega) h'
 ·rw[Gag g]
  have k0:c=u:=by omega
  rw[k0] at hx
  exact EF X hkz Ro I bu bv cu cv hx (by omega) h'
theorem GZ{G:Nat→Option (Array Keyed)×Nat×Nat×Array Keyed×Nat→SortSt→Prop}{n m:Nat}(h:∀i z o u v mg,i<m→bF st z→HiP it rk p q o u v→u+v+i+1≤p.length+q.length→G i (none,u,v,o,mg) z):∀i c z,n≤i→i<m→(bF st z∧∃o u v mg,c=(none,u,v,o,mg)∧HiP it rk p q o u v∧u+v+i+1≤p.length+q.length)→G i c z:=by
 rintro i c z _ hi ⟨hz,o,u,v,mg,rfl,P,g3⟩
 exact h i z o u v mg hi hz P g3
theorem Mc{G:Nat→Option (Array Keyed)×Nat×Nat×Array Keyed×Nat×Nat→SortSt→Prop}{n m t:Nat}{z:SortSt}(h:∀j o u v ca cb,j<m→HiP it rk p q o u v→u+v+j≤t→G j (none,u,v,o,ca,cb) z):∀j c z',n≤j→j<m→(z' =z∧∃o u v ca cb,c=(none,u,v,o,ca,cb)∧HiP it rk p q o u v∧u+v+j≤t)→G j c z' :=by
 rintro j c z' _ hj ⟨rfl,o,u',v',ca,cb,rfl,P,k3⟩
 exact h j o u' v' ca cb hj P k3
theorem Md{G:Option (Array Keyed)×Nat×Nat×Array Keyed×Nat×Nat→SortSt→Prop}{n:Nat}{z:SortSt}(h1:∀r t,dC it rk p q r→G (some r,t) z)(h2:∀o u v ca cb,HiP it rk p q o u v→u+v+1≤n→G (none,u,v,o,ca,cb) z):∀c z',(z' =z∧((∃r t,c=(some r,t)∧dC it rk p q r)∨∃o u v ca cb,c=(none,u,v,o,ca,cb)∧HiP it rk p q o u v∧u+v+1≤n))→G c z' :=by
 rintro c z' ⟨rfl,⟨r,t,rfl,g⟩| ⟨o1,u1,v1,ca1,cb1,rfl,P1,k3⟩⟩
 ·exact h1 r t g
 ·exact h2 o1 u1 v1 ca1 cb1 P1 k3
theorem Me{G:Nat→Option (Array Keyed)×Nat×Nat×Array Keyed×Nat×Nat×Nat→SortSt→Prop}{n m t:Nat}(h:∀j y o u v mg ca cb,j<m→bF st y→HiP it rk p q o u v→u+v+j≤t→G j (none,u,v,o,mg,ca,cb) y):∀j c y,n≤j→j<m→(bF st y∧∃o u v mg ca cb,c=(none,u,v,o,mg,ca,cb)∧HiP it rk p q o u v∧u+v+j≤t)→G j c y:=by
 rintro j c y _ hj ⟨hy,o,u',v',mg',ca,cb,rfl,P,n3⟩
 exact h j y o u' v' mg' ca cb hj hy P n3
theorem Mf{G:Option (Array Keyed)×Nat×Nat×Array Keyed×Nat×Nat×Nat→SortSt→Prop}{n:Nat}(h1:∀y r t,bF st y→dC it rk p q r→G (some r,t) y)(h2:∀y o u v mg ca cb,bF st y→HiP it rk p q o u v→u+v≤n→G (none,u,v,o,mg,ca,cb) y):∀c y,(bF st y∧((∃r t,c=(some r,t)∧dC it rk p q r)∨∃o u v mg ca cb,c=(none,u,v,o,mg,ca,cb)∧HiP it rk p q o u v∧u+v≤n))→G c y:=by
 rintro c y ⟨hy,⟨r,t,rfl,g⟩| ⟨o1,u1,v1,mg1,ca1,cb1,rfl,P1,k3⟩⟩
 ·exact h1 y r t hy g
 ·exact h2 y o1 u1 v1 mg1 ca1 cb1 hy P1 k3
theorem Mg{Q:Array Keyed→SortSt→Prop}(hA:i7 prog w A s κ it rk)(hk:kindOf st=κ)(Ra:bf it a p)(Rb:bf it b q)(sp:Srt rk p)(sq:Srt rk q)(hp:0<p.length)(hq:0<q.length)
  (h0:∀x,q[0]? =some x→∀y∈p,rk x≤rk y)(hl:∀x,p[p.length -1]? =some x→∀y∈q,rk y≤rk x)(h:∀r z,bF st z→dC it rk p q r→Q r z):wpS (model prog w) A E s (Jy a b) Q st:=by
 rw[GY]
 refine Gai (wpS_lift (GbX ⟨rfl, ?_⟩))
 dsimp only
 have sza:=Ra.size
 have szb:=Rb.size
 obtain⟨x0,hx0⟩:∃x,p[p.length -1]? =some x:=⟨_,Gab (by omega)⟩
 rw[sza,szb]
 refine Gai (bG Ra hx0 ?_)
 have I0:HiI rk p q [x0] (p.length -1) q.length:=by
  refine⟨?_,Gca _ _,λx hx y hy=> ?_,λx hx y hy=> ?_⟩
  ·have:=take1 hx0
   rw[GbM,Gbb]
   have e:p.drop (p.length -1)=[x0]:=by
    rw[←this,Gbv (by simp;omega)]
   rw[e]
  ·simp at hx;subst hx;exact ma sp hx0 (by rw[List.take_length];exact Gbl hy)
  ·simp at hx;subst hx;exact hl _ hx0 y (Gbl hy)
 have R0:bf it #[kas_item it x0] [x0]:=⟨rfl,λj hj=>by simp at hj;subst hj;exact Ra.lt hx0⟩
 have X:HiX prog w A s κ it rk a b p q:=⟨hA,Ra,Rb,sp,sq,h0⟩
 refine dH (λc1=> ?_) λc1=> ?_
 ·have:p.length -1=0:=by simpa using c1
  exact Gao (h _ _ .refl (X.done R0 I0 (.inl this)))
 have c1' :p.length -1≠0:=by simpa using c1
 refine dH (λc2=> ?_) λc2=> ?_
 ·have:q.length=1:=by simpa using c2
  exact Gao (h _ _ .refl (X.first R0 I0 this))
 have c2' :q.length≠1:=by simpa using c2
 refine Gai (GcI ?_)
 refine Gai (Gbr (Gbg (I:=λi c z=>bF st z∧∃o u v mg,c=(none,u,v,o,mg)∧HiP it rk p q o u v∧u+v+i+1≤p.length+q.length)
  (Q:=λc z=>bF st z∧∃r t,c=(some r,t)∧dC it rk p q r) ?step ?fin ⟨.refl,_,_,_,_,rfl,⟨⟨_,R0,I0⟩,by omega,by omega,by omega,by omega⟩,by omega⟩) ?post)
 case fin=>
  rintro c z ⟨_,o,u,v,mg,rfl,P,g3⟩
  have:=P.bu
  exfalso
  omega
 case post=>
  rintro c z ⟨hz,r,t,rfl,g⟩
  exact Gao (h r z hz g)
 case step=>
  refine GZ λi z o u v mg hi hz P g3=> ?_
  dsimp only
  have hkz:kindOf z=κ:=hz.1.trans hk
  refine Gai (Gbr (Gbg (I:=λj c z' =>z' =z∧∃o u' v' ca cb,c=(none,u',v',o,ca,cb)∧HiP it rk p q o u' v' ∧u' +v' +j≤u+v)
   (Q:=λc z' =>z' =z∧((∃r t,c=(some r,t)∧dC it rk p q r)∨∃o u' v' ca cb,c=(none,u',v',o,ca,cb)∧HiP it rk p q o u' v' ∧u' +v' +1≤u+v)) ?s1 ?f1 ⟨rfl,o,u,v,0,0,rfl,P,by omega⟩) ?p1)
  case f1=>
   rintro c z' ⟨_,o,u',v',ca,cb,rfl,P',k3⟩
   have:=P'.bu
   have:=P.cu
   have:=P.cv
   exfalso
   omega
  case s1=>
   refine Mc λj o u' v' ca cb hj P' k3=> ?_
   have⟨⟨l,Ro,I⟩,bu,bv,cu,cv⟩:=P'
   dsimp only
   obtain⟨y,hy⟩:∃x,q[v' -1]? =some x:=⟨_,Gab (by omega)⟩
   obtain⟨x,hx⟩:∃x,p[u' -1]? =some x:=⟨_,Gab (by omega)⟩
   refine Gai (bG Rb hy (Gai (bG Ra hx (Gai (vN hA hkz (Rb.lt hy) (Ra.lt hx) ?_)))))
   dsimp only
   refine dH (λlt=> ?_) λlt=> ?_
   ·replace lt:=Gaw lt
    refine Gai (bG Ra hx ?_)
    have I' :=I.qQ sp bu hx λt ht=>by have:=ma sq hy ht;omega
    have Ro' :=Ro.push (Ra.lt hx)
    refine dH (λe=> ?_) λe=> ?_
    ·have:u' -1=0:=by simpa using e
     exact Gao ⟨rfl,.inl ⟨_,_,rfl,X.done Ro' I' (.inl this)⟩⟩
    ·have e' :u' -1≠0:=by simpa using e
     refine dH (λe2=> ?_) λe2=> ?_
     ·exact Gao ⟨rfl,.inr ⟨_,_,_,_,_,rfl,⟨⟨_,Ro',I'⟩,by omega,bv,by omega,cv⟩,by omega⟩⟩
     ·exact Gao ⟨rfl,_,_,_,_,_,rfl,⟨⟨_,Ro',I'⟩,by omega,bv,by omega,cv⟩,by omega⟩
   ·replace lt:=of_decide_eq_false (Bool.eq_false_iff.mpr lt)
    refine Gai (bG Rb hy ?_)
    have I' :=I.vO sq (by omega) hy λt ht=>by have:=ma sp hx ht;omega
    have Ro' :=Ro.push (Rb.lt hy)
    refine dH (λe=> ?_) λe=> ?_
    ·have:v' -1=1:=by simpa using e
     exact Gao ⟨rfl,.inl ⟨_,_,rfl,X.first Ro' I' this⟩⟩
    ·have e' :v' -1≠1:=by simpa using e
     refine dH (λe2=> ?_) λe2=> ?_
     ·exact Gao ⟨rfl,.inr ⟨_,_,_,_,_,rfl,⟨⟨_,Ro',I'⟩,bu,by omega,cu,by omega⟩,by omega⟩⟩
     ·exact Gao ⟨rfl,_,_,_,_,_,rfl,⟨⟨_,Ro',I'⟩,bu,by omega,cu,by omega⟩,by omega⟩
  case p1=>
   refine Md (λr t g=>Gao ⟨hz,r,_,rfl,g⟩) λo1 u1 v1 ca1 cb1 P1 k3=> ?_
   dsimp only
   refine Gai (wpS_lift (GbX ⟨rfl, ?_⟩))
   refine Gai (Gbr (Gbg (I:=λj c y=>bF st y∧∃o u' v' mg ca cb,c=(none,u',v',o,mg,ca,cb)∧HiP it rk p q o u' v' ∧u' +v' +j≤u1+v1)
    (Q:=λc y=>bF st y∧((∃r t,c=(some r,t)∧dC it rk p q r)∨∃o u' v' mg ca cb,c=(none,u',v',o,mg,ca,cb)∧HiP it rk p q o u' v' ∧u' +v' ≤u1+v1)) ?s2 ?f2 ⟨hz,o1,u1,v1,_,ca1,cb1,rfl,P1,by omega⟩) ?p2)
   case f2=>
    rintro c y ⟨_,o,u',v',mg,ca,cb,rfl,P',n3⟩
    have:=P'.bu
    have:=P1.cu
    have:=P1.cv
    exfalso
    omega
   case p2=>
    refine Mf (λy r t hy g=>Gao ⟨hy,r,_,rfl,g⟩) λy o2 u2 v2 mg2 ca2 cb2 hy P2 n3=> ?_
    dsimp only
    rw[nP]
    exact Gai (GbL (Gao ⟨hy.trans ⟨rfl,rfl,rfl,rfl⟩,o2,u2,v2,_,rfl,P2,by omega⟩))
   case s2=>
    refine Me λj y o u' v' mg' ca cb hj hy P' n3=> ?_
    have⟨⟨l,Ro,I⟩,bu,bv,cu,cv⟩:=P'
    dsimp only
    have fin:∀g,wpS (model prog w) A E s (hiA a b g ca cb o u' v') (λr y' =>match r with
      | .done c=>bF st y' ∧((∃r t,c=(some r,t)∧dC it rk p q r)∨∃o u' v' mg ca cb,c=(none,u',v',o,mg,ca,cb)∧HiP it rk p q o u' v' ∧u' +v' ≤u1+v1)
      | .yield c=>bF st y' ∧∃o u' v' mg ca cb,c=(none,u',v',o,mg,ca,cb)∧HiP it rk p q o u' v' ∧u' +v' +(j+1)≤u1+v1) y:=λg=>by
     refine Jz X (hy.1.trans hk) Ro I bu bv cu cv (N:=u' +v' -2) (by omega) λr z' sz hr=> ?_
     cases r with
     |done c=>
      rcases hr with hr| ⟨o,u,v,mg,ca,cb,e,P,hn⟩
      ·exact⟨hy.trans sz,.inl hr⟩
      ·exact⟨hy.trans sz,.inr ⟨o,u,v,mg,ca,cb,e,P,by omega⟩⟩
     |yield c=>
      obtain⟨o,u,v,mg,ca,cb,e,P,hn⟩:=hr
      exact⟨hy.trans sz,o,u,v,mg,ca,cb,e,P,by omega⟩
    show wpS (model prog w) A E s (if mg' >1 then hiA a b (mg' -1) ca cb o u' v' else hiA a b mg' ca cb o u' v') _ y
    split
    ·exact Gbr (fin _) λr y' hr=>by cases r<;>exact hr
    ·exact Gbr (fin _) λr y' hr=>by cases r<;>exact hr
end
open PySem.W (kas_item kas_swaps_map)
noncomputable abbrev JA:=Option (Option Nat)×Nat
noncomputable abbrev JB:=Option (Option Nat)×Nat×Nat
noncomputable def EG(lo a nrem:Nat):SM JA:=forIn [a:nrem] ((none,a):JA) λ_ z=>do
 let x←ltAt' (lo+z.2) (lo+z.2 -1)
 match x with
 |some c=>if c=true then pure (.done (none,z.2)) else pure (.yield (none,z.2+1))
 |_=>pure (.done (some none,z.2))
noncomputable def vP(lo n nrem:Nat):SM (Option Nat):=do
 reverseSlice' lo (lo+n)
 let z←EG lo n nrem
 match z.1 with
 |some r=>pure r
 |none=>pure (some z.2)
noncomputable def Bs(lo n nrem:Nat):SM JB:=forIn [n:nrem] ((none,n,0):JB) λ_ z=>do
 let x←ltAt' (lo+z.2.1) (lo+z.2.1 -1)
 match x with
 |some c=>
  if c=true then
   if z.2.2>0 then do
    reverseSlice' (lo+z.2.1 -(z.2.2+1)) (lo+z.2.1)
    pure (.yield (none,z.2.1+1,0))
   else pure (.yield (none,z.2.1+1,0))
  else do
   let y←ltAt' (lo+z.2.1 -1) (lo+z.2.1)
   match y with
   |some d=>if d=true then pure (.done (none,z.2.1,z.2.2)) else pure (.yield (none,z.2.1+1,z.2.2+1))
   |_=>pure (.done (some none,z.2.1,z.2.2))
 |_=>pure (.done (some none,z.2.1,z.2.2))
noncomputable def qR(lo n nrem:Nat):SM (Option Nat):=do
 rule "list.sort.descending-run"
 let z←Bs lo (n+1) nrem
 match z.1 with
 |some r=>pure r
 |none=>
  if z.2.2>0 then
   reverseSlice' (lo+z.2.1 -(z.2.2+1)) (lo+z.2.1)
   vP lo z.2.1 nrem
  else vP lo z.2.1 nrem
noncomputable def JC(lo nrem:Nat):SM (Option Nat):=do
 let z←EG lo 1 nrem
 match z.1 with
 |some r=>pure r
 |none=>
  if(z.2==nrem)=true then pure (some z.2)
  else if z.2>1 then
   let x←ltAt' lo (lo+z.2 -1)
   match x with
   |some c=>
    if c=true then pure (some z.2)
    else
     reverseSlice' lo (lo+z.2)
     qR lo z.2 nrem
   |_=>pure none
  else qR lo z.2 nrem
theorem uo(lo nrem:Nat):countRun' lo nrem=JC lo nrem:=by
 rw[countRun'_eq]
 dsimp only
 unfold JC qR vP Bs EG
 refine congrArg (bind _) (funext λz=> ?_)
 obtain⟨r,n⟩:=z
 cases r with
 |some r=>rfl
 |none=>
  dsimp only
  split
  ·rfl
  ·split
   ·congr 1
    funext x
    cases x with
    |none=>rfl
    |some c=>
     dsimp only
     split
     ·rfl
     ·congr 1
      funext _r
      congr 1
      funext _u
      congr 1
      congr 1
      funext z2
      obtain⟨r2,n2,q2⟩:=z2
      cases r2 with
      |some r2=>rfl
      |none=>
       dsimp only
       split
       ·congr 1
        funext _v
        congr 1
        funext _w
        congr 1
        funext z3
        obtain⟨r3,n3⟩:=z3
        cases r3<;>rfl
       ·congr 1
        funext _w
        congr 1
        funext z3
        obtain⟨r3,n3⟩:=z3
        cases r3<;>rfl
   ·congr 1
    funext _u
    congr 1
    congr 1
    funext z2
    obtain⟨r2,n2,q2⟩:=z2
    cases r2 with
    |some r2=>rfl
    |none=>
     dsimp only
     split
     ·congr 1
      funext _v
      congr 1
      funext _w
      congr 1
      funext z3
      obtain⟨r3,n3⟩:=z3
      cases r3<;>rfl
     ·congr 1
      funext _w
      congr 1
      funext z3
      obtain⟨r3,n3⟩:=z3
      cases r3<;>rfl
structure SS(κ:SortKind)(it:Array Keyed)(z:SortSt)(p:Array Nat):Prop where
 kind:kindOf z=κ
 arr:arrOf z=p.map (kas_item it)
 fail:failedOf z=none
 ok:∀i∈p.toList,i<it.size
noncomputable def ll(z z' :SortSt):Prop:=pendingOf z' =pendingOf z
noncomputable def Rk(rk:Nat→Int)(p:Array Nat)(i:Nat):Int:=rk (p.getD i 0)
noncomputable def Up'(rk:Nat→Int)(p:Array Nat)(lo hi:Nat):Prop:=∀u v,lo≤u→u≤v→v<hi→Rk rk p u≤Rk rk p v
noncomputable def Dn'(rk:Nat→Int)(p:Array Nat)(lo hi:Nat):Prop:=∀u v,lo≤u→u≤v→v<hi→Rk rk p v≤Rk rk p u
structure Ag(lo hi:Nat)(p p' :Array Nat):Prop where
 perm:p'.Perm p
 out:∀k,k<lo∨hi≤k→p'[k]? =p[k]?
theorem Ag.refl{lo hi:Nat}{p:Array Nat}:Ag lo hi p p:=⟨Array.Perm.refl _,λ_ _=>rfl⟩
theorem Ag.trans{lo hi:Nat}{p q r:Array Nat}(a:Ag lo hi p q)(b:Ag lo hi q r):Ag lo hi p r:=⟨b.perm.trans a.perm,λk h=>(b.out k h).trans (a.out k h)⟩
theorem Ag.size{lo hi:Nat}{p q:Array Nat}(a:Ag lo hi p q):q.size=p.size:=by
 have:=a.perm.toList.length_eq
 simpa using this
theorem Ag.mono{lo hi hi' :Nat}{p q:Array Nat}(a:Ag lo hi p q)(h:hi≤hi'):Ag lo hi' p q:=⟨a.perm,λk z=>a.out k (by omega)⟩
theorem Ag.rk{rk:Nat→Int}{lo hi k:Nat}{p q:Array Nat}(a:Ag lo hi p q)(h:k<lo∨hi≤k):Rk rk q k=Rk rk p k:=by
 unfold Rk
 have:=a.out k h
 simp only[Gck,this]
theorem mf{lo hi:Nat}{p:Array Nat}(h:hi≤p.size):Ag lo hi p (mirror p lo hi ((hi -lo)/2)):=⟨mirror_perm _ _ _ _,λk z=>by
 rw[getElem?_mirror_all h,Gag (by omega)]⟩
theorem oP{rk:Nat→Int}{i j k:Nat}{p:Array Nat}(h:j≤p.size):Rk rk (mirror p i j ((j -i)/2)) k=if i≤k∧k<j then Rk rk p (i+j -1 -k) else Rk rk p k:=by
 unfold Rk
 simp only[Gck,getElem?_mirror_all h]
 split<;>rfl
theorem fT{rk:Nat→Int}{i j k:Nat}{p:Array Nat}(h:j≤p.size)(e:∀u,i≤u→u<j→Rk rk p u=Rk rk p (j -1)):Rk rk (mirror p i j ((j -i)/2)) k=Rk rk p k:=by
 rw[oP h]
 split
 ·rename_i z
  rw[e _ (by omega) (by omega),e k z.1 z.2]
 ·rfl
section
variable{prog:Program}{w:World}{A:Around}{E:Value→Shared→Prop}{s:Shared}{st:SortSt}{κ:SortKind}{it:Array Keyed}{rk:Nat→Int}{p:Array Nat}
theorem SS.rep(S:SS κ it st p):bf it (arrOf st) p.toList:=⟨by rw[S.arr];apply Gcx.mp;simp,S.ok⟩
theorem SS.move{p' :Array Nat}{xs:Array Keyed}(S:SS κ it st p)(pm:p'.Perm p)(e:xs=p'.map (kas_item it)):SS κ it (setArr st xs) p' :=⟨S.kind,e,S.fail,λi hi=>S.ok i (by
 have:=pm.toList.mem_iff (a:=i)
 exact this.mp hi)⟩
theorem wp_at{i j:Nat}{Q:Option Bool→SortSt→Prop}(hA:i7 prog w A s κ it rk)(S:SS κ it st p)(hi:i<p.size)(hj:j<p.size)(h:Q (some (decide (Rk rk p i<Rk rk p j))) st):wpS (model prog w) A E s (ltAt' i j) Q st:=by
 rw[ltAt'_eq]
 refine Gai (GcI ?_)
 have gi:p.toList[i]? =some (p.getD i 0):=by simp[Array.getD,hi]
 have gj:p.toList[j]? =some (p.getD j 0):=by simp[Array.getD,hj]
 exact Gai (bG S.rep gi (Gai (bG S.rep gj (vN hA S.kind (S.rep.lt gi) (S.rep.lt gj) h))))
theorem uq{i j:Nat}{Q:Unit→SortSt→Prop}(S:SS κ it st p)(h:∀z,SS κ it z (mirror p i j ((j -i)/2))→ll st z→Q () z):wpS (model prog w) A E s (reverseSlice' i j) Q st:=by
 rw[reverseSlice'_eq]
 refine GbL (h _ (S.move (mirror_perm _ _ _ _) ?_) rfl)
 rw[S.arr]
 exact kas_swaps_map (kas_item it) (λk=>i+k) (λk=>j -1 -k) _ p
theorem Bt{lo a nrem:Nat}{Q:JA→SortSt→Prop}(hA:i7 prog w A s κ it rk)(S:SS κ it st p)(h1:1≤a)(ha:a≤nrem)(hz:lo+nrem≤p.size)(hu:Up' rk p lo (lo+a))
  (h:∀m,a≤m→m≤nrem→Up' rk p lo (lo+m)→(m=nrem∨Rk rk p (lo+m)<Rk rk p (lo+m -1))→Q (none,m) st):wpS (model prog w) A E s (EG lo a nrem) Q st:=by
 unfold EG
 refine Gbg (I:=λx c z=>z=st∧c=(none,x)∧Up' rk p lo (lo+x)) ?step ?fin ⟨rfl,rfl,hu⟩
 case fin=>
  rintro c z ⟨rfl,rfl,q⟩
  rw[show max a nrem=nrem by omega] at q⊢
  exact h nrem ha (Gaq _) q (.inl rfl)
 case step=>
  rintro x c z h2 h3 ⟨rfl,rfl,q⟩
  dsimp only
  refine Gai (wp_at hA S (by omega) (by omega) ?_)
  dsimp only
  by_cases lt:Rk rk p (lo+x)<Rk rk p (lo+x -1)
  ·rw[GaF lt]
   simp only[Gbj]
   exact Gao (h x h2 (by omega) q (.inr lt))
  ·rw[GaE lt]
   simp only[GaB,GaV]
   refine Gao ⟨rfl,rfl,λu v a1 a2 a3=> ?_⟩
   by_cases hv:v<lo+x
   ·exact q u v a1 a2 hv
   ·have e:v=lo+x:=by omega
    subst e
    by_cases hu:u=lo+x
    ·subst hu;exact GbI _
    ·have:=q u (lo+x -1) a1 (by omega) (by omega)
     omega
theorem vQ{lo n nrem:Nat}{Q:Option Nat→SortSt→Prop}(hA:i7 prog w A s κ it rk)(S:SS κ it st p)(h1:1≤n)(hn:n≤nrem)(hz:lo+nrem≤p.size)(hd:Dn' rk p lo (lo+n))
  (h:∀m z p',SS κ it z p' →ll st z→Ag lo (lo+nrem) p p' →1≤m→m≤nrem→Up' rk p' lo (lo+m)→Q (some m) z):wpS (model prog w) A E s (vP lo n nrem) Q st:=by
 unfold vP
 refine Gai (uq S λz S' hp=> ?_)
 have ag:Ag lo (lo+n) p (mirror p lo (lo+n) ((lo+n -lo)/2)):=mf (by omega)
 refine Gai (Bt hA S' h1 hn (by rw[ag.size];exact hz) (λu v a1 a2 a3=> ?_) λm m1 m2 m3 _=> ?_)
 ·rw[oP (by omega),oP (by omega),Gah (by omega),Gah (by omega)]
  exact hd _ _ (by omega) (by omega) (by omega)
 ·exact Gao (h m z _ S' hp (ag.mono (by omega)) (by omega) m2 m3)
theorem EH{lo n nrem:Nat}{Q:JB→SortSt→Prop}(hA:i7 prog w A s κ it rk)(S:SS κ it st p)(h1:1≤n)(hn:n≤nrem)(hz:lo+nrem≤p.size)(hd:Dn' rk p lo (lo+n))
  (h:∀m e z p',SS κ it z p' →ll st z→Ag lo (lo+nrem) p p' →n≤m→m≤nrem→Dn' rk p' lo (lo+m)→e+1≤m→(∀u,lo+m -(e+1)≤u→u<lo+m→Rk rk p' u=Rk rk p' (lo+m -1))→Q (none,m,e) z):wpS (model prog w) A E s (Bs lo n nrem) Q st:=by
 unfold Bs
 refine Gbg (I:=λx c z=>∃e p',c=(none,x,e)∧SS κ it z p' ∧ll st z∧Ag lo (lo+nrem) p p' ∧Dn' rk p' lo (lo+x)∧e+1≤x∧(∀u,lo+x -(e+1)≤u→u<lo+x→Rk rk p' u=Rk rk p' (lo+x -1))) ?step ?fin
  ⟨0,p,rfl,S,rfl,.refl,hd,by omega,λu a1 a2=>by rw[show u=lo+n -1 by omega]⟩
 case fin=>
  rintro c z ⟨e,p',rfl,S',hp,ag,d,e1,e2⟩
  rw[show max n nrem=nrem by omega] at d e1 e2⊢
  exact h nrem e z p' S' hp ag hn (Gaq _) d e1 e2
 case step=>
  rintro x c z h2 h3 ⟨e,p',rfl,S',hp,ag,d,e1,e2⟩
  have sz:=ag.size
  dsimp only
  refine Gai (wp_at hA S' (by omega) (by omega) ?_)
  dsimp only
  by_cases lt:Rk rk p' (lo+x)<Rk rk p' (lo+x -1)
  ·rw[GaF lt]
   simp only[Gbj]
   have dn:∀r:Array Nat,(∀k,Rk rk r k=Rk rk p' k)→Dn' rk r lo (lo+(x+1)):=λr hr u v a1 a2 a3=>by
    rw[hr,hr]
    by_cases hv:v<lo+x
    ·exact d u v a1 a2 hv
    ·have ev:v=lo+x:=by omega
     subst ev
     by_cases hu:u=lo+x
     ·subst hu;exact GbI _
     ·have:=d u (lo+x -1) a1 (by omega) (by omega)
      omega
   by_cases g:e>0
   ·rw[Gah g]
    refine Gai (uq S' λz' S2 hp2=>Gao ⟨0,_,rfl,S2,hp2.trans hp,ag.trans ?_,dn _ λk=>fT (by omega) e2,by omega,λu a1 a2=>by rw[show u=lo+(x+1)-1 by omega]⟩)
    have am:Ag (lo+x -(e+1)) (lo+x) p' (mirror p' (lo+x -(e+1)) (lo+x) ((lo+x -(lo+x -(e+1)))/2)):=mf (by omega)
    exact⟨am.perm,λk hk=>am.out k (by omega)⟩
   ·rw[Gag g]
    exact Gao ⟨0,p',rfl,S',hp,ag,dn p' λ_=>rfl,by omega,λu a1 a2=>by rw[show u=lo+(x+1)-1 by omega]⟩
  ·rw[GaE lt]
   simp only[GaB,GaV]
   refine Gai (wp_at hA S' (by omega) (by omega) ?_)
   dsimp only
   by_cases gt:Rk rk p' (lo+x -1)<Rk rk p' (lo+x)
   ·rw[GaF gt]
    simp only[Gbj]
    exact Gao (h x e z p' S' hp ag h2 (by omega) d e1 e2)
   ·rw[GaE gt]
    simp only[GaB,GaV]
    have eq:Rk rk p' (lo+x)=Rk rk p' (lo+x -1):=by omega
    refine Gao ⟨e+1,p',rfl,S',hp,ag,λu v a1 a2 a3=> ?_,by omega,λu a1 a2=> ?_⟩
    ·by_cases hv:v<lo+x
     ·exact d u v a1 a2 hv
     ·have ev:v=lo+x:=by omega
      subst ev
      by_cases hu:u=lo+x
      ·subst hu;exact GbI _
      ·have:=d u (lo+x -1) a1 (by omega) (by omega)
       omega
    ·rw[show lo+(x+1)-1=lo+x by omega,eq]
     by_cases hu:u=lo+x
     ·subst hu;exact eq
     ·exact e2 u (by omega) (by omega)
theorem tm{lo n nrem:Nat}{Q:Option Nat→SortSt→Prop}(hA:i7 prog w A s κ it rk)(S:SS κ it st p)(h1:1≤n)(hn:n+1≤nrem)(hz:lo+nrem≤p.size)(hd:Dn' rk p lo (lo+(n+1)))
  (h:∀m z p',SS κ it z p' →ll st z→Ag lo (lo+nrem) p p' →1≤m→m≤nrem→Up' rk p' lo (lo+m)→Q (some m) z):wpS (model prog w) A E s (qR lo n nrem) Q st:=by
 unfold qR
 refine Gai (wpS_lift (GbX ⟨rfl, ?_⟩))
 refine Gai (EH hA S (by omega) hn hz hd λm e z p' S' hp ag m1 m2 d e1 e2=> ?_)
 have sz:=ag.size
 dsimp only
 by_cases g:e>0
 ·rw[Gah g]
  refine Gai (uq S' λz2 S2 hp2=> ?_)
  have am:Ag (lo+m -(e+1)) (lo+m) p' (mirror p' (lo+m -(e+1)) (lo+m) ((lo+m -(lo+m -(e+1)))/2)):=mf (by omega)
  have am' :Ag lo (lo+nrem) p' (mirror p' (lo+m -(e+1)) (lo+m) ((lo+m -(lo+m -(e+1)))/2)):=⟨am.perm,λk hk=>am.out k (by omega)⟩
  refine vQ hA S2 (by omega) m2 (by rw[am.size];omega) (λu v a1 a2 a3=> ?_) λm' z3 p3 S3 hp3 ag3=>h m' z3 p3 S3 ((hp3.trans hp2).trans hp) ((ag.trans am').trans ag3)
  rw[fT (by omega) e2,fT (by omega) e2]
  exact d u v a1 a2 a3
 ·rw[Gag g]
  exact vQ hA S' (by omega) m2 (by omega) d λm' z3 p3 S3 hp3 ag3=>h m' z3 p3 S3 (hp3.trans hp) (ag.trans ag3)
theorem EI{lo nrem:Nat}{Q:Option Nat→SortSt→Prop}(hA:i7 prog w A s κ it rk)(S:SS κ it st p)(h1:1≤nrem)(hz:lo+nrem≤p.size)
  (h:∀m z p',SS κ it z p' →ll st z→Ag lo (lo+nrem) p p' →1≤m→m≤nrem→Up' rk p' lo (lo+m)→Q (some m) z):wpS (model prog w) A E s (countRun' lo nrem) Q st:=by
 rw[uo]
 unfold JC
 refine Gai (Bt hA S (Gaq _) h1 hz (λu v a1 a2 a3=>by rw[show u=v by omega];exact GbI _) λn n1 n2 up stop=> ?_)
 dsimp only
 by_cases c1:(n==nrem)=true
 ·rw[Gah c1]
  exact Gao (h n st p S rfl .refl n1 n2 up)
 rw[Gag c1]
 have c1' :n≠nrem:=by simpa using c1
 have lt:Rk rk p (lo+n)<Rk rk p (lo+n -1):=stop.resolve_left c1'
 by_cases c2:n>1
 ·rw[Gah c2]
  refine Gai (wp_at hA S (by omega) (by omega) ?_)
  dsimp only
  by_cases ro:Rk rk p lo<Rk rk p (lo+n -1)
  ·rw[GaF ro]
   simp only[Gbj]
   exact Gao (h n st p S rfl .refl n1 n2 up)
  ·rw[GaE ro]
   simp only[GaB,GaV]
   have eq:∀u,lo≤u→u<lo+n→Rk rk p u=Rk rk p (lo+n -1):=λu a1 a2=>by
    have b1:=up lo u (Gaq _) a1 a2
    have b2:=up u (lo+n -1) a1 (by omega) (by omega)
    omega
   refine Gai (uq S λz S' hp=> ?_)
   have am:Ag lo (lo+n) p (mirror p lo (lo+n) ((lo+n -lo)/2)):=mf (by omega)
   refine tm hA S' n1 (by omega) (by rw[am.size];exact hz) (λu v a1 a2 a3=> ?_) λm' z3 p3 S3 hp3 ag3=>h m' z3 p3 S3 (hp3.trans hp) ((am.mono (by omega)).trans ag3)
   rw[fT (by omega) eq,fT (by omega) eq]
   by_cases hv:v<lo+n
   ·rw[eq u a1 (by omega),eq v (by omega) hv];exact GbI _
   ·rw[show v=lo+n by omega]
    by_cases hu:u=lo+n
    ·subst hu;exact GbI _
    ·rw[eq u a1 (by omega)];omega
 ·rw[Gag c2]
  have n1' :n=1:=by omega
  subst n1'
  refine tm hA S (Gaq _) (by omega) hz (λu v a1 a2 a3=> ?_) h
  by_cases e1:u=v
  ·subst e1;exact GbI _
  ·rw[show v=lo+1 by omega,show u=lo+1 -1 by omega];omega
end
theorem tq{rk:Nat→Int}{src d k:Nat}{p:Array Nat}(h:src<p.size)(hd:d≤src):Rk rk (bubble p src d) k=if k=src -d then Rk rk p src else if src -d<k∧k≤src then Rk rk p (k -1) else Rk rk p k:=by
 unfold Rk
 simp only[Gck,getElem?_bubble h d hd]
 split
 ·rfl
 ·split<;>rfl
section
variable{prog:Program}{w:World}{A:Around}{E:Value→Shared→Prop}{s:Shared}{st:SortSt}{κ:SortKind}{it:Array Keyed}{rk:Nat→Int}{p:Array Nat}
theorem H0{src dst:Nat}{Q:Unit→SortSt→Prop}(S:SS κ it st p)(h:∀z,SS κ it z (bubble p src (src -dst))→ll st z→Q () z):wpS (model prog w) A E s (moveDown' src dst) Q st:=by
 rw[moveDown'_eq]
 refine GbL (h _ (S.move (bubble_perm _ _ _) ?_) rfl)
 rw[S.arr]
 exact kas_swaps_map (kas_item it) (λk=>src -k) (λk=>src -k -1) _ p
theorem JD{lo n ok:Nat}{Q:Bool→SortSt→Prop}(hA:i7 prog w A s κ it rk)(S:SS κ it st p)(hz:lo+n≤p.size)(h1:1≤ok)(hok:ok≤n)(hu:Up' rk p lo (lo+ok))
  (h:∀z p',SS κ it z p' →ll st z→Ag lo (lo+n) p p' →Up' rk p' lo (lo+n)→Q true z):wpS (model prog w) A E s (binarySort' lo n ok) Q st:=by
 rw[binarySort'_eq]
 refine Gai (Gbr (Gbg (I:=λk c z=>∃p',c=(none,())∧SS κ it z p' ∧ll st z∧Ag lo (lo+n) p p' ∧Up' rk p' lo (lo+k))
  (Q:=λc z=>∃p',c=(none,())∧SS κ it z p' ∧ll st z∧Ag lo (lo+n) p p' ∧Up' rk p' lo (lo+n)) ?step ?fin ⟨p,rfl,S,rfl,.refl,by rw[show max ok 1=ok by omega];exact hu⟩) ?post)
 case post=>
  rintro c z ⟨p',rfl,S',hp,ag,up⟩
  exact Gao (h z p' S' hp ag up)
 case fin=>
  rintro c z ⟨p',rfl,S',hp,ag,up⟩
  rw[show max (max ok 1) n=n by omega] at up
  exact⟨p',rfl,S',hp,ag,up⟩
 case step=>
  rintro k c z k1 k2 ⟨p',rfl,S',hp,ag,up⟩
  have sz:=ag.size
  dsimp only
  refine Gai (Gbr (Gbg (I:=λi c z' =>z' =z∧∃l r,c=(none,l,r)∧l≤r∧r≤k∧r -l≤k -i∧(∀u,u<l→Rk rk p' (lo+u)≤Rk rk p' (lo+k))∧(∀u,r≤u→u<k→Rk rk p' (lo+k)≤Rk rk p' (lo+u)))
   (Q:=λc z' =>z' =z∧∃l,c=(none,l,l)∧l≤k∧(∀u,u<l→Rk rk p' (lo+u)≤Rk rk p' (lo+k))∧(∀u,l≤u→u<k→Rk rk p' (lo+k)≤Rk rk p' (lo+u))) ?s1 ?f1 ⟨rfl,0,k,rfl,by omega,by omega,by omega,λu hu=>by omega,λu a1 a2=>by omega⟩) ?p1)
  case f1=>
   rintro c z' ⟨rfl,l,r,rfl,q1,q2,q3,q4,q5⟩
   have:l=r:=by omega
   subst this
   exact⟨rfl,l,rfl,q2,q4,q5⟩
  case s1=>
   rintro i c z' _ hi ⟨rfl,l,r,rfl,q1,q2,q3,q4,q5⟩
   dsimp only
   by_cases g:l≥r
   ·rw[Gah g]
    have:l=r:=by omega
    subst this
    exact Gao ⟨rfl,l,rfl,q2,q4,q5⟩
   rw[Gag g]
   refine Gai (wp_at hA S' (by omega) (by omega) ?_)
   dsimp only
   by_cases lt:Rk rk p' (lo+k)<Rk rk p' (lo+(l+r)/2)
   ·rw[GaF lt]
    simp only[Gbj]
    refine Gao ⟨rfl,l,(l+r)/2,rfl,by omega,by omega,by omega,q4,λu a1 a2=> ?_⟩
    have:=up (lo+(l+r)/2) (lo+u) (by omega) (by omega) (by omega)
    omega
   ·rw[GaE lt]
    simp only[GaB,GaV]
    refine Gao ⟨rfl,(l+r)/2+1,r,rfl,by omega,by omega,by omega,λu a1=> ?_,q5⟩
    have:=up (lo+u) (lo+(l+r)/2) (by omega) (by omega) (by omega)
    omega
  case p1=>
   rintro c z' ⟨rfl,l,rfl,l1,l2,l3⟩
   dsimp only
   refine Gai (H0 S' λz2 S2 hp2=>Gao ⟨_,rfl,S2,hp2.trans hp,ag.trans ⟨bubble_perm _ _ _,λj hj=> ?_⟩,λu v a1 a2 a3=> ?_⟩)
   ·rw[getElem?_bubble (by omega) _ (by omega),Gag (by omega),Gag (by omega)]
   ·rw[tq (by omega) (by omega),tq (by omega) (by omega)]
    have e:lo+k -(lo+k -(lo+l))=lo+l:=by omega
    rw[e]
    by_cases u1:u=lo+l
    ·rw[Gah u1]
     by_cases v1:v=lo+l
     ·rw[Gah v1];exact GbI _
     ·rw[Gag v1,Gah (by omega)]
      have:=l3 (v -1 -lo) (by omega) (by omega)
      rw[show lo+(v -1 -lo)=v -1 by omega] at this
      exact this
    ·rw[Gag u1]
     by_cases u2:lo+l<u∧u≤lo+k
     ·rw[Gah u2,Gag (by omega),Gah (by omega)]
      exact up _ _ (by omega) (by omega) (by omega)
     ·rw[Gag u2]
      have hu' :u<lo+l:=by omega
      by_cases v1:v=lo+l
      ·rw[Gah v1]
       have:=l2 (u -lo) (by omega)
       rw[show lo+(u -lo)=u by omega] at this
       exact this
      ·rw[Gag v1]
       by_cases v2:lo+l<v∧v≤lo+k
       ·rw[Gah v2]
        exact up _ _ (by omega) (by omega) (by omega)
       ·rw[Gag v2]
        exact up _ _ a1 a2 (by omega)
end
theorem JE{rk:Nat→Int}{p:Array Nat}{k x:Nat}(h:p.toList[k]? =some x):Rk rk p k=rk x:=by
 unfold Rk
 have h' :p[k]? =some x:=by simpa using h
 simp[Gck,h']
theorem ur{rk:Nat→Int}{p:Array Nat}{lo n:Nat}(hz:lo+n≤p.size):Up' rk p lo (lo+n)↔Srt rk ((p.toList.drop lo).take n):=by
 have len:((p.toList.drop lo).take n).length=n:=by simp;omega
 have at_:∀u,u<n→∃x,((p.toList.drop lo).take n)[u]? =some x∧Rk rk p (lo+u)=rk x:=λu hu=>by
  have h1:u<((p.toList.drop lo).take n).length:=by rw[len];exact hu
  refine⟨((p.toList.drop lo).take n)[u],Gab h1, ?_⟩
  have:=Gab h1
  rw[GaU hu,Gbh] at this
  exact JE this
 constructor
 ·intro h
  unfold Srt
  rw[Gct]
  intro i j hi hj hij
  rw[len] at hi hj
  obtain⟨x,e1,e2⟩:=at_ i hi
  obtain⟨y,e3,e4⟩:=at_ j hj
  obtain⟨_,e5⟩:=Gad.mp e1
  obtain⟨_,e6⟩:=Gad.mp e3
  rw[e5,e6,←e2,←e4]
  exact h _ _ (by omega) (by omega) (by omega)
 ·intro h u v a1 a2 a3
  obtain⟨x,e1,e2⟩:=at_ (u -lo) (by omega)
  obtain⟨y,e3,e4⟩:=at_ (v -lo) (by omega)
  rw[show lo+(u -lo)=u by omega] at e2
  rw[show lo+(v -lo)=v by omega] at e4
  rw[e2,e4]
  exact qj h (by omega) e1 e3
theorem vR{α:Type}(c:Nat):∀(m:List α) (n:Nat) (a:Array α),c+n+m.length≤a.size→((m.zipIdx n).foldl (λa (x:α×Nat)=>a.setIfInBounds (c+x.2) x.1) a).toList=a.toList.take (c+n)++m++a.toList.drop (c+n+m.length)
 |[],n,a,_=>by simp
 |x::m,n,a,h=>by
  rw[List.zipIdx_cons,Gcp]
  simp only[GaH] at h
  rw[vR c m (n+1) _ (by rw[Array.size_setIfInBounds];omega),Array.toList_setIfInBounds]
  have hc:c+n<a.toList.length:=by simp;omega
  have e1:(a.toList.set (c+n) x).take (c+(n+1))=a.toList.take (c+n)++[x]:=by
   rw[show c+(n+1)=c+n+1 by omega,List.take_succ,List.take_set_of_le (Gaq _),GaN hc]
   rfl
  have e2:(a.toList.set (c+n) x).drop (c+(n+1)+m.length)=a.toList.drop (c+n+(x::m).length):=by
   rw[List.drop_set_of_lt (by omega)]
   congr 1
   simp only[GaH];omega
  rw[e1,e2]
  simp
theorem Ha{M:Model}{A:Around}{E:Value→Shared→Prop}{s:Shared}{σ:Type}{x st:σ}{Q:PUnit→σ→Prop}(h:Q ⟨⟩ x):wpS M A E s (set x:StateT σ Sem PUnit) Q st:=by
 unfold wpS;rw[StateT.run_set];exact Gaf ⟨rfl,h⟩
theorem Hb(i:Nat):mergeAt' i=(do
 let z←get
 let(some (sa,na,w0),some (sb,nb,_)):=((pendingOf z)[i]?,(pendingOf z)[i+1]?)|unsupported "internal:list.sort.pending"
 set (setPending z (((pendingOf z).setIfInBounds i (sa,na+nb,w0)).eraseIdxIfInBounds (i+1)))
 let some k←kB false (←elem' (arrOf z) sb) (arrOf z) sa na 0|return false
 let(sc,nc):=(sa+k,na -k)
 if nc==0 then return true
 let some nd←kB true (←elem' (arrOf z) (sc+nc -1)) (arrOf z) sb nb (nb -1)|return false
 if nd==0 then return true
 let x:=(arrOf z).extract sc sb
 let y:=(arrOf z).extract sb (sb+nd)
 let mm←if nc≤nd then Jv x y else Jy x y
 modify λz=>setArr z (mm.toList.zipIdx.foldl (λa (q,j)=>a.setIfInBounds (sc+j) q) (arrOf z))
 return(failedOf (←get)).isNone):=rfl
section
variable{prog:Program}{w:World}{A:Around}{E:Value→Shared→Prop}{s:Shared}{st:SortSt}{κ:SortKind}{it:Array Keyed}{rk:Nat→Int}{p:Array Nat}
theorem Hc{l:List Nat}{a b:Nat}(h:a≤b):l=l.take a++(l.drop a).take (b -a)++l.drop b:=by
 rw[Gax,←EC h,Gbc]
theorem As{i sa na sb nb w0 w1:Nat}{Q:Bool→SortSt→Prop}(hA:i7 prog w A s κ it rk)(S:SS κ it st p)(e1:(pendingOf st)[i]? =some (sa,na,w0))(e2:(pendingOf st)[i+1]? =some (sb,nb,w1))(hb:sb=sa+na)(ha0:0<na)(hb0:0<nb)(hz:sb+nb≤p.size)
  (ua:Up' rk p sa sb)(ub:Up' rk p sb (sb+nb))
  (h:∀z p',SS κ it z p' →pendingOf z=((pendingOf st).setIfInBounds i (sa,na+nb,w0)).eraseIdxIfInBounds (i+1)→Ag sa (sb+nb) p p' →Up' rk p' sa (sb+nb)→Q true z):wpS (model prog w) A E s (mergeAt' i) Q st:=by
 rw[Hb]
 refine Gai (GcI ?_)
 rw[e1,e2]
 dsimp only
 refine Gai (Ha ?_)
 generalize hz1:setPending st (((pendingOf st).setIfInBounds i (sa,na+nb,w0)).eraseIdxIfInBounds (i+1))=z1
 have S1:SS κ it z1 p:=by rw[←hz1];exact⟨S.kind,S.arr,S.fail,S.ok⟩
 have pe:pendingOf z1=((pendingOf st).setIfInBounds i (sa,na+nb,w0)).eraseIdxIfInBounds (i+1):=by rw[←hz1]
 have R:=S.rep
 have szl:p.toList.length=p.size:=by simp
 subst hb
 have sA:Srt rk ((p.toList.drop sa).take na):=(ur (by omega)).mp ua
 have sB:Srt rk ((p.toList.drop (sa+na)).take nb):=(ur (by omega)).mp ub
 have whole:∀l:List Nat,(p.toList.drop sa).take (na+nb)=l→Srt rk l→Up' rk p sa (sa+na+nb):=λl hl hs=>by
  rw[GdD]
  exact(ur (by omega)).mpr (by rw[hl];exact hs)
 have split:(p.toList.drop sa).take (na+nb)=(p.toList.drop sa).take na++(p.toList.drop (sa+na)).take nb:=by
  rw[List.take_add,GbR]
 obtain⟨y0,ey0⟩:∃x,p.toList[sa+na]? =some x:=⟨_,Gab (by omega)⟩
 refine Gai (bG R ey0 ?_)
 refine Gai (oO hA S1.kind R (R.lt ey0) (by omega) sA ha0 λk k1 t1 t2=> ?_)
 simp only[GaB,GaV] at t1 t2
 dsimp only
 have hB0:((p.toList.drop (sa+na)).take nb)[0]? =some y0:=by
  rw[GaU hb0,Gbh];exact ey0
 have leB:∀y∈(p.toList.drop (sa+na)).take nb,rk y0≤rk y:=λy hy=>m9 sB hB0 (by rw[GbD];exact hy)
 by_cases c1:(na -k==0)=true
 ·rw[Gah c1]
  have:na -k=0:=by simpa using c1
  have kk:k=na:=by omega
  subst kk
  refine Gao (h z1 p S1 pe .refl (whole _ split (dI sA sB λx hx y hy=> ?_)))
  have q1:=t1 x (by rw[Gcw,GdI];exact hx)
  have q2:=leB y hy
  omega
 rw[Gag c1]
 have c1' :na -k≠0:=by simpa using c1
 obtain⟨x1,ex1⟩:∃x,p.toList[sa+k+(na -k)-1]? =some x:=⟨_,Gab (by omega)⟩
 refine Gai (bG R ex1 ?_)
 refine Gai (oO hA S1.kind R (R.lt ex1) (by omega) sB (by omega) λnd d1 t3 t4=> ?_)
 simp only[Gbj] at t3 t4
 dsimp only
 have hAl:((p.toList.drop sa).take na)[na -1]? =some x1:=by
  rw[GaU (by omega),Gbh,show sa+(na -1)=sa+k+(na -k)-1 by omega]
  exact ex1
 have leA:∀x∈(p.toList.drop sa).take na,rk x≤rk x1:=λx hx=>by
  refine ma (n:=na) sA hAl ?_
  rw[Gcw,GdI];exact hx
 by_cases c2:(nd==0)=true
 ·rw[Gah c2]
  have nd0:nd=0:=by simpa using c2
  subst nd0
  refine Gao (h z1 p S1 pe .refl (whole _ split (dI sA sB λx hx y hy=> ?_)))
  have q1:=leA x hx
  have q2:=t4 y (by rw[GbD];exact hy)
  omega
 rw[Gag c2]
 have c2' :nd≠0:=by simpa using c2
 have Rx:bf it ((arrOf st).extract (sa+k) (sa+na)) ((p.toList.drop (sa+k)).take (na -k)):=by
  have:=R.extract (sa+k) (sa+na)
  rw[show sa+na -(sa+k)=na -k by omega] at this
  exact this
 have Ry:bf it ((arrOf st).extract (sa+na) (sa+na+nd)) ((p.toList.drop (sa+na)).take nd):=by
  have:=R.extract (sa+na) (sa+na+nd)
  rw[show sa+na+nd -(sa+na)=nd by omega] at this
  exact this
 have ePx:(p.toList.drop (sa+k)).take (na -k)=((p.toList.drop sa).take na).drop k:=by rw[GcJ,GbR]
 have ePy:(p.toList.drop (sa+na)).take nd=((p.toList.drop (sa+na)).take nb).take nd:=by rw[Gcw,GcE d1]
 have sx:Srt rk ((p.toList.drop (sa+k)).take (na -k)):=by rw[ePx];exact fB sA k
 have sy:Srt rk ((p.toList.drop (sa+na)).take nd):=by rw[ePy];exact fS sB nd
 have lx:((p.toList.drop (sa+k)).take (na -k)).length=na -k:=by simp;omega
 have ly:((p.toList.drop (sa+na)).take nd).length=nd:=by simp;omega
 have f0:∀x,((p.toList.drop (sa+na)).take nd)[0]? =some x→∀y∈(p.toList.drop (sa+k)).take (na -k),rk x≤rk y:=λx hx y hy=>by
  rw[GaU (by omega),Gbh] at hx
  have:p.toList[sa+na]? =some x:=hx
  rw[ey0] at this;cases this
  rw[ePx] at hy
  have:=t2 y hy
  omega
 have fl:∀x,((p.toList.drop (sa+k)).take (na -k))[((p.toList.drop (sa+k)).take (na -k)).length -1]? =some x→∀y∈(p.toList.drop (sa+na)).take nd,rk y≤rk x:=λx hx y hy=>by
  rw[lx,GaU (by omega),Gbh,show sa+k+(na -k -1)=sa+k+(na -k)-1 by omega,ex1] at hx
  cases hx
  rw[ePy] at hy
  have:=t3 y hy
  omega
 have fin:∀mm z,bF z1 z→dC it rk ((p.toList.drop (sa+k)).take (na -k)) ((p.toList.drop (sa+na)).take nd) mm→
   wpS (model prog w) A E s (do
    modify λz=>setArr z (mm.toList.zipIdx.foldl (λa (x:Keyed×Nat)=>a.setIfInBounds (sa+k+x.2) x.1) (arrOf z))
    let z' ←get
    pure (failedOf z').isNone) Q z:=by
  rintro mm z sg ⟨m,Rm,pm,sm⟩
  have lm:m.length=na -k+nd:=by have:=pm.length_eq;rw[Gav,lx,ly] at this;exact this
  refine Gai (GbL (Gai (GcI (Gao ?_))))
  have ea:arrOf z=arrOf st:=sg.2.1.trans (by rw[S1.arr,S.arr])
  have hmm:mm.toList=m.map (kas_item it):=by rw[Rm.1]
  have hw:((mm.toList.zipIdx.foldl (λa (x:Keyed×Nat)=>a.setIfInBounds (sa+k+x.2) x.1) (arrOf z))).toList=(p.toList.take (sa+k)++m++p.toList.drop (sa+na+nd)).map (kas_item it):=by
   rw[hmm,ea]
   have:=vR (sa+k) (m.map (kas_item it)) 0 (arrOf st) (by rw[Gae,lm,R.size,szl];omega)
   rw[this,R.1]
   simp only[GaJ,List.map_take,GdC,Gae,lm,Nat.add_zero]
   rw[show sa+k+(na -k+nd)=sa+na+nd by omega]
  have fz:failedOf (setArr z (mm.toList.zipIdx.foldl (λa (x:Keyed×Nat)=>a.setIfInBounds (sa+k+x.2) x.1) (arrOf z)))=none:=sg.2.2.2.trans S1.fail
  have pieces:p.toList=p.toList.take (sa+k)++((p.toList.drop (sa+k)).take (na -k)++(p.toList.drop (sa+na)).take nd)++p.toList.drop (sa+na+nd):=by
   conv=>lhs;rw[Hc (l:=p.toList) (show sa+k≤sa+na+nd by omega)]
   congr 2
   rw[show sa+na+nd -(sa+k)=(na -k)+nd by omega,List.take_add,GbR,show sa+k+(na -k)=sa+na by omega]
  generalize hl' :p.toList.take (sa+k)++m++p.toList.drop (sa+na+nd)=l' at hw
  have pl:l'.Perm p.toList:=by
   rw[←hl']
   conv=>rhs;rw[pieces]
   exact Gbm _ (GbS _ pm)
  have S2:SS κ it (setArr z (mm.toList.zipIdx.foldl (λa (x:Keyed×Nat)=>a.setIfInBounds (sa+k+x.2) x.1) (arrOf z))) l'.toArray:=by
   refine⟨sg.1.trans S1.kind, ?_,fz,λj hj=>S.ok j (pl.mem_iff.mp hj)⟩
   apply Gcx.mp
   show(mm.toList.zipIdx.foldl (λa (x:Keyed×Nat)=>a.setIfInBounds (sa+k+x.2) x.1) (arrOf z)).toList=_
   rw[hw];simp
  have lt1:(p.toList.take (sa+k)).length=sa+k:=by simp;omega
  have ag:Ag sa (sa+na+nb) p l'.toArray:=by
   refine⟨⟨pl⟩,λj hj=> ?_⟩
   show l'.toArray[j]? =p[j]?
   have g1:l'.toArray[j]? =l'[j]? :=by simp
   have g2:p[j]? =p.toList[j]? :=by simp
   rw[g1,g2,←hl']
   rcases hj with hj|hj
   ·rw[Gax,GaT (by rw[lt1];omega),GaU (by omega)]
   ·rw[GaM (by rw[Gav,lt1,lm];omega),Gav,lt1,lm,Gbh]
    congr 1;omega
  have nn:failedOf (setArr z (mm.toList.zipIdx.foldl (λa (x:Keyed×Nat)=>a.setIfInBounds (sa+k+x.2) x.1) (arrOf z)))=none:=fz
  have goal:=h _ l'.toArray S2 (sg.2.2.1.trans pe) ag ?_
  ·rw[nn];exact goal
  ·rw[GdD]
   refine(ur (by rw[Gam,pl.length_eq,szl];omega)).mpr ?_
   have seg:(l'.drop sa).take (na+nb)=((p.toList.drop sa).take na).take k++m++((p.toList.drop (sa+na)).take nb).drop nd:=by
    rw[←hl',Gax,List.drop_append_of_le_length (by rw[lt1];omega)]
    have q1:(p.toList.take (sa+k)).drop sa=((p.toList.drop sa).take na).take k:=by rw[GcJ,Gcw,show sa+k -sa=k by omega,GcE k1]
    rw[q1]
    have lk:(((p.toList.drop sa).take na).take k).length=k:=by simp;omega
    rw[←Gax,List.take_append,Gav,lk,lm,Gbv (by rw[Gav,lk,lm];omega)]
    congr 1
    rw[GcJ,GbR]
    congr 1
    omega
   show Srt rk ((l'.toArray.toList.drop sa).take (na+nb))
   show Srt rk ((l'.drop sa).take (na+nb))
   rw[seg]
   refine dI (dI (fS sA k) sm λx hx y hy=> ?_) (fB sB nd) λx hx y hy=> ?_
   ·rcases Gay.mp (pm.mem_iff.mp hy) with hy|hy
    ·rw[ePx] at hy
     exact qk sA k x hx y hy
    ·rw[ePy] at hy
     have b1:=t1 x hx
     have b2:=leB y (Gbl hy)
     omega
   ·rcases Gay.mp hx with hx|hx
    ·have b1:=leA x (Gbl hx)
     have b2:=t4 y hy
     omega
    ·rcases Gay.mp (pm.mem_iff.mp hx) with hx|hx
     ·rw[ePx] at hx
      have b1:=leA x (Gbs hx)
      have b2:=t4 y hy
      omega
     ·rw[ePy] at hx
      exact qk sB nd x hx y hy
 by_cases c3:na -k≤nd
 ·rw[Gah c3]
  exact Gai (Mb hA S1.kind Rx Ry sx sy (by omega) (by omega) f0 fl fin)
 ·rw[Gag c3]
  exact Gai (Mg hA S1.kind Rx Ry sx sy (by omega) (by omega) f0 fl fin)
end
noncomputable abbrev Run:=Nat×Nat×Nat
noncomputable def chain:Nat→List Run→Nat→Prop
 |a,[],b=>a=b
 |a,r::t,b=>r.1=a∧0<r.2.1∧chain (a+r.2.1) t b
theorem nQ:∀{l:List Run} {a b:Nat},chain a l b→a+l.length≤b
 |[],a,b,h=>by have:a=b:=h;simp;omega
 |r::t,a,b,h=>by
  have:=nQ h.2.2
  have:=h.2.1
  simp only[GaH];omega
theorem oQ:∀{l:List Run} {a b:Nat} {r:Run},chain a l b→r∈l→a≤r.1∧r.1+r.2.1≤b∧0<r.2.1
 |q::t,a,b,r,h,hr=>by
  rcases GaA.mp hr with e|e
  ·subst e
   have:=nQ h.2.2
   have:=h.1
   exact⟨by omega,by omega,h.2.1⟩
  ·have:=oQ h.2.2 e
   exact⟨by omega,this.2.1,this.2.2⟩
theorem qS:∀{l:List Run} {a b:Nat} {n w0:Nat},chain a l b→0<n→chain a (l++[(b,n,w0)]) (b+n)
 |[],a,b,n,w0,h,hn=>by have:a=b:=h;subst this;exact⟨rfl,hn,rfl⟩
 |r::t,a,b,n,w0,h,hn=> ⟨h.1,h.2.1,qS h.2.2 hn⟩
theorem nR{f:Run→Run}(hf:∀r,(f r).1=r.1∧(f r).2.1=r.2.1):∀{l:List Run} {a b:Nat} (i:Nat),chain a l b→chain a (l.modify i f) b
 |[],a,b,i,h=>by simpa using h
 |r::t,a,b,0,h=>by
  rw[List.modify_zero_cons]
  exact⟨(hf r).1.trans h.1,by rw[(hf r).2];exact h.2.1,by rw[(hf r).2];exact h.2.2⟩
 |r::t,a,b,i+1,h=>by
  rw[List.modify_succ_cons]
  exact⟨h.1,h.2.1,nR hf i h.2.2⟩
theorem mem_modify{f:Run→Run}(hf:∀r,(f r).1=r.1∧(f r).2.1=r.2.1):∀{l:List Run} {i:Nat} {r:Run},r∈l.modify i f→∃r' ∈l,r'.1=r.1∧r'.2.1=r.2.1
 |[],i,r,h=>by simp at h
 |q::t,0,r,h=>by
  rw[List.modify_zero_cons] at h
  rcases GaA.mp h with e|e
  ·subst e;exact⟨q,Gap,(hf q).1.symm,(hf q).2.symm⟩
  ·exact⟨r,Gaj _ e,rfl,rfl⟩
 |q::t,i+1,r,h=>by
  rw[List.modify_succ_cons] at h
  rcases GaA.mp h with e|e
  ·subst e;exact⟨r,Gap,rfl,rfl⟩
  ·obtain⟨r',h1,h2⟩:=mem_modify hf e
   exact⟨r',Gaj _ h1,h2⟩
theorem pw:∀{l:List Run} {a b:Nat} {i sa na w0 sb nb w1:Nat},chain a l b→l[i]? =some (sa,na,w0)→l[i+1]? =some (sb,nb,w1)→
  sb=sa+na∧0<na∧0<nb∧a≤sa∧sb+nb≤b∧chain a ((l.set i (sa,na+nb,w0)).eraseIdx (i+1)) b∧∀r∈(l.set i (sa,na+nb,w0)).eraseIdx (i+1),r=(sa,na+nb,w0)∨(r∈l∧(r.1+r.2.1≤sa∨sb+nb≤r.1))
 |r::r2::t,a,b,0,sa,na,w0,sb,nb,w1,h,e1,e2=>by
  simp at e1 e2
  subst e1 e2
  obtain⟨h1,h2,h3,h4,h5⟩:=h
  have h1' :sa=a:=h1
  have h3' :sb=a+na:=h3
  have h2' :0<na:=h2
  have h4' :0<nb:=h4
  have le:=nQ h5
  refine⟨by omega,h2',h4',by omega, ?_, ?_,λq hq=> ?_⟩
  ·have:a+na+nb≤b:=by
    have:a+(sa,na,w0).2.1+(sb,nb,w1).2.1+t.length≤b:=le
    have:a+na+nb+t.length≤b:=this
    omega
   omega
  ·show chain a ((sa,na+nb,w0)::t) b
   refine⟨h1,by show 0<na+nb;omega, ?_⟩
   show chain (a+(na+nb)) t b
   rw[←GdD]
   exact h5
  ·have hq' :q=(sa,na+nb,w0)∨q∈t:=by simpa using hq
   rcases hq' with e|e
   ·exact .inl e
   ·refine .inr ⟨Gaj _ (Gaj _ e),.inr ?_⟩
    have:=(oQ h5 e).1
    have:a+na+nb≤q.1:=this
    omega
 |r::t,a,b,i+1,sa,na,w0,sb,nb,w1,h,e1,e2=>by
  rw[Gda] at e1 e2
  obtain⟨g1,g2,g3,g4,g5,g6,g7⟩:=pw h.2.2 e1 e2
  have:=h.2.1
  refine⟨g1,g2,g3,by omega,g5,⟨h.1,h.2.1, ?_⟩,λq hq=> ?_⟩
  ·exact g6
  ·have hq' :q=r∨q∈(t.set i (sa,na+nb,w0)).eraseIdx (i+1):=by simpa using hq
   rcases hq' with e|e
   ·subst e
    refine .inr ⟨Gap,.inl ?_⟩
    have:=h.1
    omega
   ·rcases g7 q e with z| ⟨z1,z2⟩
    ·exact .inl z
    ·exact .inr ⟨Gaj _ z1,z2⟩
section
variable{prog:Program}{w:World}{A:Around}{E:Value→Shared→Prop}{s:Shared}{st:SortSt}{κ:SortKind}{it:Array Keyed}{rk:Nat→Int}{p0 p:Array Nat}
structure Pd(κ:SortKind)(it:Array Keyed)(rk:Nat→Int)(p0:Array Nat)(lo:Nat)(z:SortSt)(p:Array Nat):Prop where
 ss:SS κ it z p
 perm:p.Perm p0
 ch:chain 0 (pendingOf z).toList lo
 up:∀r∈(pendingOf z).toList,Up' rk p r.1 (r.1+r.2.1)
 le:lo≤p0.size
theorem Pd.size{lo:Nat}{z:SortSt}(P:Pd κ it rk p0 lo z p):p.size=p0.size:=by
 have:=P.perm.toList.length_eq
 simpa using this
theorem qT{lo i:Nat}{Q:Bool→SortSt→Prop}(hA:i7 prog w A s κ it rk)(P:Pd κ it rk p0 lo st p)(hi:i+1<(pendingOf st).size)
  (h:∀z p',Pd κ it rk p0 lo z p' →Ag 0 lo p p' →(pendingOf z).size+1=(pendingOf st).size→Q true z):wpS (model prog w) A E s (mergeAt' i) Q st:=by
 obtain⟨⟨sa,na,w0⟩,e1⟩:∃x,(pendingOf st)[i]? =some x:=⟨_,Gby (by omega)⟩
 obtain⟨⟨sb,nb,w1⟩,e2⟩:∃x,(pendingOf st)[i+1]? =some x:=⟨_,Gby hi⟩
 have e1' :(pendingOf st).toList[i]? =some (sa,na,w0):=by simpa using e1
 have e2' :(pendingOf st).toList[i+1]? =some (sb,nb,w1):=by simpa using e2
 obtain⟨g1,g2,g3,g4,g5,g6,g7⟩:=pw P.ch e1' e2'
 have le:=P.le
 have sz:=P.size
 have u1:=P.up _ (GaL e1')
 have u2:=P.up _ (GaL e2')
 refine As hA P.ss e1 e2 g1 g2 g3 (by omega) (by rw[g1];exact u1) u2 λz p' S' pe ag up' => ?_
 have tl:(pendingOf z).toList=((pendingOf st).toList.set i (sa,na+nb,w0)).eraseIdx (i+1):=by
  rw[pe]
  simp[Array.toList_eraseIdxIfInBounds,Array.toList_setIfInBounds]
 have aL:Ag 0 lo p p' :=⟨ag.perm,λk hk=>ag.out k (by omega)⟩
 refine h z p' ⟨S',ag.perm.trans P.perm,by rw[tl];exact g6,λr hr=> ?_,P.le⟩ aL ?_
 ·rw[tl] at hr
  rcases g7 r hr with e| ⟨hr1,hr2⟩
  ·subst e
   show Up' rk p' sa (sa+(na+nb))
   rw[←GdD,←g1];exact up'
  ·intro u v a1 a2 a3
   rw[ag.rk (by omega),ag.rk (by omega)]
   exact P.up r hr1 u v a1 a2 a3
 ·have l1:(pendingOf z).size=(pendingOf z).toList.length:=by simp
  have l2:(pendingOf st).size=(pendingOf st).toList.length:=by simp
  rw[l1,l2,tl,List.length_eraseIdx_of_lt (by rw[GcN,←l2];exact hi),GcN]
  omega
end
section
variable{prog:Program}{w:World}{A:Around}{E:Value→Shared→Prop}{s:Shared}{st:SortSt}{κ:SortKind}{it:Array Keyed}{rk:Nat→Int}{p0 p:Array Nat}
theorem Pd.push{lo n:Nat}{z:SortSt}(P:Pd κ it rk p0 lo z p)(hn:0<n)(hz:lo+n≤p0.size)(hu:Up' rk p lo (lo+n)):Pd κ it rk p0 (lo+n) (setPending z ((pendingOf z).push (lo,n,0))) p:=by
 refine⟨⟨P.ss.kind,P.ss.arr,P.ss.fail,P.ss.ok⟩,P.perm, ?_,λr hr=> ?_,hz⟩
 ·show chain 0 ((pendingOf z).push (lo,n,0)).toList (lo+n)
  rw[GdG]
  exact qS P.ch hn
 ·have hr' :r∈((pendingOf z).push (lo,n,0)).toList:=hr
  rw[GdG] at hr'
  rcases Gay.mp hr' with e|e
  ·exact P.up r e
  ·simp at e;subst e;exact hu
theorem Pd.modify{lo i:Nat}{z:SortSt}{f:Run→Run}(P:Pd κ it rk p0 lo z p)(hf:∀r,(f r).1=r.1∧(f r).2.1=r.2.1):Pd κ it rk p0 lo (setPending z ((pendingOf z).modify i f)) p:=by
 refine⟨⟨P.ss.kind,P.ss.arr,P.ss.fail,P.ss.ok⟩,P.perm, ?_,λr hr=> ?_,P.le⟩
 ·show chain 0 ((pendingOf z).modify i f).toList lo
  rw[Array.toList_modify]
  exact nR hf i P.ch
 ·have hr' :r∈((pendingOf z).modify i f).toList:=hr
  rw[Array.toList_modify] at hr'
  obtain⟨r',h1,h2,h3⟩:=mem_modify hf hr'
  rw[←h2,←h3]
  exact P.up r' h1
theorem He{Q:Unit→SortSt→Prop}(hA:i7 prog w A s κ it rk)(S:SS κ it st p0)(hp:pendingOf st=#[])(h1:1≤p0.size)
  (h:∀z p,SS κ it z p→p.Perm p0→Up' rk p 0 p0.size→Q () z):wpS (model prog w) A E s sortRuns' Q st:=by
 rw[sortRuns'_eq]
 refine Gai (GcI ?_)
 dsimp only
 have sz:(arrOf st).size=p0.size:=by rw[S.arr];simp
 rw[sz]
 generalize minRun' p0.size p0.size 0=mr
 have P0:Pd κ it rk p0 0 st p0:=⟨S,Array.Perm.refl _,by rw[hp];rfl,λr hr=>(by rw[hp] at hr;cases hr),by omega⟩
 refine Gai (Gbr (Gbg (I:=λx c z=>∃lo p,c=(none,lo)∧Pd κ it rk p0 lo z p∧(x≤lo))
  (Q:=λc z=>∃p,c=(none,p0.size)∧Pd κ it rk p0 p0.size z p) ?step ?fin ⟨0,p0,rfl,P0,Gaq _⟩) ?post)
 case fin=>
  rintro c z ⟨lo,p,rfl,P,hx⟩
  have:=P.le
  have e:lo=p0.size:=by
   have:max 0 p0.size=p0.size:=by omega
   omega
  subst e
  exact⟨p,rfl,P⟩
 case step=>
  rintro x c z _ hx ⟨lo,p,rfl,P,hlo⟩
  dsimp only
  have le:=P.le
  have szp:=P.size
  by_cases c1:lo≥p0.size
  ·rw[Gah c1]
   have e:lo=p0.size:=by omega
   subst e
   exact Gao ⟨p,rfl,P⟩
  rw[Gag c1]
  refine Gai (EI hA P.ss (by omega) (by omega) λm z1 p1 S1 hp1 ag1 m1 m2 up1=> ?_)
  dsimp only
  have carry:∀{n:Nat} {z2:SortSt} {p2:Array Nat},SS κ it z2 p2→ll z z2→Ag lo (lo+n) p p2→lo+n≤p0.size→Pd κ it rk p0 lo z2 p2:=λ{n z2 p2} S2 hp2 ag2 hn=>by
   have hp2' :pendingOf z2=pendingOf z:=hp2
   refine⟨S2,ag2.perm.trans P.perm,by rw[hp2'];exact P.ch,λr hr=> ?_,le⟩
   rw[hp2'] at hr
   have:=(oQ P.ch hr).2.1
   intro u v a1 a2 a3
   rw[ag2.rk (by omega),ag2.rk (by omega)]
   exact P.up r hr u v a1 a2 a3
  by_cases c2:m<mr
  ·rw[Gah c2]
   refine Gai (wpS_lift (GbX ⟨rfl, ?_⟩))
   have sz1:=ag1.size
   refine Gai (JD hA S1 (by omega) m1 (by omega) up1 λz2 p2 S2 hp2 ag2 up2=> ?_)
   simp only[Gdo,GaB,GaV]
   obtain⟨n,hnn⟩:∃n,n=min (p0.size -lo) mr:=⟨_,rfl⟩
   have P2:Pd κ it rk p0 lo z2 p2:=carry S2 (hp2.trans hp1) (ag1.trans (ag2.mono (by omega))|>.mono (hi' :=lo+(p0.size -lo)) (by omega)) (by omega)
   rw[←hnn] at up2⊢
   have n0:0<n:=by omega
   have hn:lo+n≤p0.size:=by omega
   refine Gai (GcI ?_)
   cases hb:(pendingOf z2).back? with
   |none=>
    dsimp only
    exact Gai (GbL (Gao ⟨lo+n,p2,rfl,P2.push n0 hn up2,by omega⟩))
   |some r=>
    obtain⟨s1,n1,w1⟩:=r
    dsimp only
    refine Gai (Gbr (Gbg (I:=λ_ c y=>c=(none,⟨⟩)∧∃p3,Pd κ it rk p0 lo y p3∧Up' rk p3 lo (lo+n)) (Q:=λc y=>c=(none,⟨⟩)∧∃p3,Pd κ it rk p0 lo y p3∧Up' rk p3 lo (lo+n)) ?s1 (λ_ _ z=>z) ⟨rfl,p2,P2,up2⟩) ?p1)
    case p1=>
     rintro c y ⟨rfl,p3,P3,up3⟩
     dsimp only
     refine Gai (GbL (Gai (GbL (Gao ⟨lo+n,p3,rfl, ?_,by omega⟩))))
     exact(P3.modify (f:=λx=>(x.1,x.2.1,power' p0.size (2*s1+n1) (2*s1+n1+n1+n) p0.size)) (λr=> ⟨rfl,rfl⟩)).push n0 hn up3
    case s1=>
     rintro i c y _ _ ⟨rfl,p3,P3,up3⟩
     refine Gai (GcI ?_)
     by_cases g:(pendingOf y).size>1
     ·rw[Gah g]
      obtain⟨⟨t1,t2,t3⟩,ht⟩:∃x,(pendingOf y)[(pendingOf y).size -2]? =some x:=⟨_,Gby (by omega)⟩
      rw[ht]
      dsimp only
      split
      ·exact Gao ⟨rfl,p3,P3,up3⟩
      ·refine Gai (qT hA P3 (by omega) λy2 p4 P4 ag4 _=> ?_)
       simp only[Gdo,GaB,GaV]
       refine Gao ⟨rfl,p4,P4,λu v a1 a2 a3=> ?_⟩
       rw[ag4.rk (by omega),ag4.rk (by omega)]
       exact up3 u v a1 a2 a3
     ·rw[Gag g]
      exact Gao ⟨rfl,p3,P3,up3⟩
  ·rw[Gag c2]
   obtain⟨n,hnn⟩:∃n,n=m:=⟨_,rfl⟩
   rw[←hnn] at up1⊢
   have P2:Pd κ it rk p0 lo z1 p1:=carry S1 hp1 (ag1.mono (hi' :=lo+(p0.size -lo)) (by omega)) (by omega)
   have n0:0<n:=by omega
   have hn:lo+n≤p0.size:=by omega
   refine Gai (GcI ?_)
   cases hb:(pendingOf z1).back? with
   |none=>
    dsimp only
    exact Gai (GbL (Gao ⟨lo+n,p1,rfl,P2.push n0 hn up1,by omega⟩))
   |some r=>
    obtain⟨s1,n1,w1⟩:=r
    dsimp only
    refine Gai (Gbr (Gbg (I:=λ_ c y=>c=(none,⟨⟩)∧∃p3,Pd κ it rk p0 lo y p3∧Up' rk p3 lo (lo+n)) (Q:=λc y=>c=(none,⟨⟩)∧∃p3,Pd κ it rk p0 lo y p3∧Up' rk p3 lo (lo+n)) ?s1 (λ_ _ z=>z) ⟨rfl,p1,P2,up1⟩) ?pp)
    case pp=>
     rintro c y ⟨rfl,p3,P3,up3⟩
     dsimp only
     refine Gai (GbL (Gai (GbL (Gao ⟨lo+n,p3,rfl, ?_,by omega⟩))))
     exact(P3.modify (f:=λx=>(x.1,x.2.1,power' p0.size (2*s1+n1) (2*s1+n1+n1+n) p0.size)) (λr=> ⟨rfl,rfl⟩)).push n0 hn up3
    case s1=>
     rintro i c y _ _ ⟨rfl,p3,P3,up3⟩
     refine Gai (GcI ?_)
     by_cases g:(pendingOf y).size>1
     ·rw[Gah g]
      obtain⟨⟨t1,t2,t3⟩,ht⟩:∃x,(pendingOf y)[(pendingOf y).size -2]? =some x:=⟨_,Gby (by omega)⟩
      rw[ht]
      dsimp only
      split
      ·exact Gao ⟨rfl,p3,P3,up3⟩
      ·refine Gai (qT hA P3 (by omega) λy2 p4 P4 ag4 _=> ?_)
       simp only[Gdo,GaB,GaV]
       refine Gao ⟨rfl,p4,P4,λu v a1 a2 a3=> ?_⟩
       rw[ag4.rk (by omega),ag4.rk (by omega)]
       exact up3 u v a1 a2 a3
     ·rw[Gag g]
      exact Gao ⟨rfl,p3,P3,up3⟩
 case post=>
  rintro c z ⟨p,rfl,P⟩
  dsimp only
  refine Gai (Gbr (Gbg (I:=λx c y=>c=(none,())∧∃p,Pd κ it rk p0 p0.size y p∧(pendingOf y).size+x≤p0.size) (Q:=λc y=>c=(none,())∧∃p,Pd κ it rk p0 p0.size y p∧(pendingOf y).size≤1) ?s2 ?f2 ⟨rfl,p,P, ?i2⟩) ?p2)
  case i2=>
   have:=nQ P.ch
   simp at this
   omega
  case f2=>
   rintro c y ⟨rfl,p,P,hs⟩
   refine⟨rfl,p,P, ?_⟩
   have:max 0 p0.size=p0.size:=by omega
   omega
  case p2=>
   rintro c y ⟨rfl,p,P,hs⟩
   refine Gao (h y p P.ss P.perm ?_)
   have ch:=P.ch
   have up:=P.up
   have l1:(pendingOf y).toList.length≤1:=by simpa using hs
   generalize (pendingOf y).toList=l at ch up l1
   match l,l1 with
   |[],_=>
    have:0=p0.size:=ch
    omega
   |[r],_=>
    obtain⟨c1,c2,c3⟩:=ch
    have c3' :0+r.2.1=p0.size:=c3
    have:=up r (by simp)
    rw[c1,c3'] at this
    exact this
  case s2=>
   rintro x c y _ hx ⟨rfl,p,P,hs⟩
   refine Gai (GcI ?_)
   by_cases g:(pendingOf y).size≤1
   ·rw[Gah g]
    exact Gao ⟨rfl,p,P,g⟩
   rw[Gag g]
   have go:∀i,i+1<(pendingOf y).size→wpS (model prog w) A E s (do
     let b←mergeAt' i
     if(!b)=true then pure (ForInStep.done ((some ⟨⟩,()):Option PUnit×PUnit)) else pure (ForInStep.yield (none,()))) (λr z' =>match r with
     | .done c=>c=(none,())∧∃p,Pd κ it rk p0 p0.size z' p∧(pendingOf z').size≤1
     | .yield c=>c=(none,())∧∃p,Pd κ it rk p0 p0.size z' p∧(pendingOf z').size+(x+1)≤p0.size) y:=λi hi=>by
    refine Gai (qT hA P hi λy2 p4 P4 ag4 hs4=> ?_)
    simp only[Gdo,GaB,GaV]
    exact Gao ⟨rfl,p4,P4,by omega⟩
   refine Gbr (go _ ?_) λr z' hr=>by cases r<;>exact hr
   by_cases i0:(pendingOf y).size -2>0
   ·rw[Gah i0]
    split<;>omega
   ·rw[Gag i0]
    simp only[Option.any_none,GaB,GaV]
    omega
end
section
variable{prog:Program}{w:World}{A:Around}{E:Value→Shared→Prop}{s:Shared}
theorem rX{a:Addr}{vs:List Value}{cs:List (List (List Int))}{n:Nat}{P:PySem.Fin→Shared→Prop}(ho:s.heap.get? a=some (seqObj "list" vs.toArray n))(h64:vs.length<1000000)
  (hK:∀G:Heap,(∀b o,b≠a→s.heap.get? b=some o→G.get? b=some o)→um prog w A E {s with heap:=G} cs vs)
  (h:∀p:Array Nat,Ord vs.length p→Up (rank cs) p vs.length→P (.done (.ret .none)) {s with heap:=sortedHeap s.heap a vs (List.toArray (p.toList.map λi=>vs.getD i Value.none))}):wpAny (model prog w) A (Builtin.«list.sort» ⟨[.ref a],[]⟩) P E s:=by
 have ha:a<s.heap.objs.size:=Gaz ho
 have szl:vs.length≤sizeLine:=by rw[GbG];omega
 rw[list_sort_plain]
 refine Gaa (listItems_at ho rfl (Gaa (listUpdate_at ho rfl ?_ (by rw[Gam];exact szl) (GbH _))))
 obtain⟨ep,ho1⟩:∃ep,(s.heap.update a (Obj.mapSeq λ_=>(#[]:Array Value))).get? a=some (seqObj "list" #[] ep):=⟨_,get?_update_seq ho λ_=>#[]⟩
 refine Gaa (seqEpoch_at ho1 rfl (Gaa (wpAny_newTuple ?_ szl)))
 refine Gaa (wpAny_newList ?_ (GbH _))
 refine Gcr ?_
 generalize hG:((s.heap.update a (Obj.mapSeq λ_=>(#[]:Array Value))).push {cls:= .type "tuple",data:= .seq vs.toArray}).push {cls:= .type "list",data:= .seq ([]:List Value).toArray}=G
 have hGs:G=((s.heap.update a (Obj.mapSeq λ_=>(#[]:Array Value))).push (seqObj "tuple" vs.toArray 0)).push (seqObj "list" #[] 0):=hG.symm
 have hoG:G.get? a=some (seqObj "list" #[] ep):=by rw[←hG];exact Gak _ (Gak _ ho1)
 have keepG:∀b o,b≠a→s.heap.get? b=some o→G.get? b=some o:=λb o hb e=>by
  rw[←hG]
  exact Gak _ (Gak _ ((GaZ _ _ (GaY hb)).trans e))
 show wpAny (model prog w) A _ P E {s with heap:=G}
 have fin:∀(p:Array Nat),Ord vs.length p→Up (rank cs) p vs.length→P (.done (.ret .none)) {s with heap:=G.update a (Obj.mapSeq λ_=>List.toArray (p.toList.map λi=>vs.getD i Value.none))}:=λp h1 h2=>by
  have:=h p h1 h2
  unfold sortedHeap at this
  rw[←hGs] at this
  exact this
 have endOk:∀(p:Array Nat),Ord vs.length p→Up (rank cs) p vs.length→∀(st:SortSt),(arrOf st).map (·.2)=List.toArray (p.toList.map λi=>vs.getD i Value.none)→failedOf st=none→
   wpAny (model prog w) A (do
    let touched:=(←seqEpoch a) !=ep
    Builtin.List.listUpdate (.ref a) λ_=>(arrOf st).map (·.2)
    if let some e:=failedOf st then rule "list.sort.comparison-raised";throw e
    if touched then rule "list.sort.modified";raiseError "ValueError" "list modified during sort"
    ret .none) P E {s with heap:=G}:=λp h1 h2 st e1 e2=>by
  refine Gaa (seqEpoch_at hoG rfl ?_)
  rw[e1]
  refine Gaa (listUpdate_at hoG rfl ?_ (GbH _) (by rw[Gam,Gae,Gcb,h1.size];omega))
  rw[e2]
  simp only[bne_self_eq_false,GaB,GaV]
  exact Gaf (fin p h1 h2)
 have hsz:vs.toArray.size=vs.length:=by simp
 dsimp only
 by_cases h2:vs.toArray.size<2
 ·rw[Gah h2,Gah h2]
  refine Gaa (Gaf ?_)
  rw[StateT.run_pure]
  refine Gaa (Gaf ?_)
  refine endOk (List.toArray (List.range vs.length)) (List.Perm.refl _) (λu v huv hv=>by rw[show u=v by omega];exact GbI _) (SortSt.mk' general' (vs.toArray.zip vs.toArray) #[] 7 none) ?_ rfl
  show((vs.toArray.zip vs.toArray).map (·.2))=_
  apply Gcx.mp
  simp only[Array.toList_map,Array.toList_zip]
  have hv:vs.length<2:=by rw[←hsz];exact h2
  clear hK h fin endOk ho hG hGs hoG keepG h64 szl hsz h2
  match vs,hv with
  |[],_=>rfl
  |[x],_=>rfl
  |x::y::r,q=>exact absurd q (by simp)
 ·rw[Gag h2,Gag h2]
  refine Gaa (hK G keepG (by omega) _ λκ hκ=> ?_)
  have run:=He (prog:=prog) (w:=w) (A:=A) (κ:=κ) (E:=E) (s:={s with heap:=G}) (st:=SortSt.mk' κ (vs.toArray.zip vs.toArray) #[] 7 none) (it:=vs.toArray.zip vs.toArray) (rk:=rank cs) (p0:=List.toArray (List.range vs.length))
   (Q:=λ_ st' =>∃p:Array Nat,Ord vs.length p∧Up (rank cs) p vs.length∧(arrOf st').map (·.2)=List.toArray (p.toList.map λi=>vs.getD i Value.none)∧failedOf st' =none) ?_ ?_ rfl (by simp;omega) λz p S pm up=> ?_
  ·refine Gaa (GbK run ?_ λ_ _ e=>e)
   rintro⟨⟨⟩,st'⟩ s' ⟨rfl,p,c1,c2,c3,c4⟩
   exact endOk p c1 c2 st' c3 c4
  ·intro i j hi hj C hc
   have hz:(vs.toArray.zip vs.toArray).size=vs.length:=by simp
   have:=hκ i j C (by omega) (by omega) hc
   rw[PySem.W.kat_ask_eq (ks:=vs) (vs:=vs) rfl] at this
   exact this
  ·refine⟨rfl, ?_,rfl,λi hi=> ?_⟩
   ·have e:=PySem.W.kas_range (vs.toArray.zip vs.toArray)
    rw[show(vs.toArray.zip vs.toArray).size=vs.length by simp] at e
    exact e.symm
   ·have hi' :i<vs.length:=by simpa using hi
    simpa using hi'
  ·have od:Ord vs.length p:=pm.toList
   refine⟨p,od,λu v huv hv=> ?_,kat_snds rfl S.arr,S.fail⟩
   have hsz' :(List.toArray (List.range vs.length)).size=vs.length:=by simp
   rw[hsz'] at up
   exact up u v (GbH _) huv hv
theorem Au{l:Addr}{o:Obj}{vs:List Value}{cs:List (List (List Int))}{n:Nat}{T:String}{Q:Value→Shared→Prop}(ho:s.heap.get? l=some o)(hc:o.cls= .type T)(hT:T="list"∨T="tuple")(hd:o.data= .seq vs.toArray n)(h64:vs.length<1000000)
  (hK:∀G:Heap,(∀b o,s.heap.get? b=some o→G.get? b=some o)→∀A' :Around,A'.units=A.units+2→um prog w A' E {s with heap:=G} cs vs)
  (h:∀p:Array Nat,Ord vs.length p→Up (rank cs) p vs.length→Q (.ref (s.heap.objs.size+1)) {s with heap:=sortedAll s.heap vs (List.toArray (p.toList.map λi=>vs.getD i Value.none))}):wpAny (model prog w) A (call (.builtin "sorted") [.ref l]) Q E s:=by
 have szl:vs.length≤sizeLine:=by rw[GbG];omega
 refine Calls.call_function_entry kind_sorted plain_sorted entry_sorted (args_sorted1 _) ?_
 unfold Builtin.«sorted»
 refine Gaa (m:=checkCount "sorted" 1 1 _) (Gaf (Gaa (vH ho hc hT hd ?_ szl)))
 refine Gaa (wpAny_newList ?_ szl)
 generalize hG:(s.heap.push (seqObj "list" #[] 0)).update s.heap.objs.size (Obj.mapSeq (· ++vs.toArray))=G
 have hsz:G.objs.size=s.heap.objs.size+1:=by rw[←hG,Heap.size_update,size_push']
 have hoL:(G.push (seqObj "list" vs.toArray 0)).get? (s.heap.objs.size+1)=some (seqObj "list" vs.toArray 0):=by rw[←hsz];exact GaD _ rfl
 have keep:∀b o,s.heap.get? b=some o→(G.push (seqObj "list" vs.toArray 0)).get? b=some o:=λb o e=>by
  have hlt:=Gaz e
  refine Gak _ ?_
  rw[←hG,Heap.get?_update_ne _ _ _ _ (GaP hlt)]
  exact Gak _ e
 show wpAny _ _ _ _ _ {s with heap:=G.push (seqObj "list" vs.toArray 0)}
 rw[hsz]
 refine Gaa (Gcr (GbA slot_list_sort ⟨_,hoL,rfl⟩ entry_list_sort (rX (cs:=cs) (s:={s with heap:=G.push (seqObj "list" vs.toArray 0)}) hoL h64 (λG' kG=> ?_) λp h1 h2=> ⟨_,rfl, ?_⟩) (args_list_sort _)))
 ·exact hK G' (λb o e=>kG b o (GaP (Gdc (Gaz e))) (keep b o e)) _ rfl
 ·have:=h p h1 h2
  unfold sortedAll at this
  rw[hG] at this
  exact Gaf ⟨_,rfl,this⟩
theorem uu{ds:List D}{vs:List Value}(hK:Paired (nN s.heap) ds vs)(hok:keysOk ds=true):um prog w A E s (ds.map code) vs:=λh2 Q hQ=>by
 have hl:=hK.length
 exact Cm hK hok (by omega) λκ hκ=>hQ κ λi j C hi hj hc=>Ef hK hok hκ i j C (by omega) (by omega) hc
theorem Cz{h G:Heap}(kG:∀b o,h.get? b=some o→G.get? b=some o){d:D}{v:Value}(k:nN h d v):nN G d v:=by
 cases d with
 |int i=>exact k
 |tup fs=>
  obtain⟨b,o,m,us,h1,h2,h3,h4⟩:=k
  exact⟨b,o,m,us,h1,kG b o h2,h3,h4⟩
 |_=>exact k
end
section
variable{X:Cx}{e a b c:Expr}{f g h:DE}{pos:Pos}
noncomputable def qU(K:aD):List V→Hp→VK→Prop:=λxs H Q=>∃(p:Addr) (ds:List D) (vs:List V) (F:Addr→Prop),xs=[.ref p]∧(SqL K H p vs∨SqT K H p vs)∧aX K F H ds vs∧ds.length<1000000∧keysOk ds=true∧
 ∀l out,H l=none→(∀F',aX K F' H ds vs→aX K F' H (cR ds) out)→Q (.ref l) (upd H l (.lst out))
theorem fU:i5 X (.builtin "sorted") (qU X.K):=by
 intro pins s σ H xs us Q I rv h
 obtain⟨p,ds,vs,F,rfl,hq,hr,h64,hok,q⟩:=h
 obtain⟨u,rfl,ru⟩:=rv.one
 cases ru
 obtain⟨o,T,n,its,ho,hc,hT,hd,rvs⟩:∃(o:Obj) (T:String) (n:Nat) (its:List Value),s.heap.get? p=some o∧o.cls= .type T∧(T="list"∨T="tuple")∧o.data= .seq its.toArray n∧Vals vs its:=by
  rcases hq with hq|hq
  ·obtain⟨its,rvs,pl,_⟩:=I.list hq
   obtain⟨o,h1,h2,n,h3⟩:=pl.isList
   exact⟨o,"list",n,its,h1,h2,.inl rfl,h3,rvs⟩
  ·obtain⟨its,rvs,⟨o,h1,h2,n,h3⟩,_⟩:=I.tuple hq
   exact⟨o,"tuple",n,its,h1,h2,.inr rfl,h3,rvs⟩
 have e1:its.length=ds.length:=by rw[←rvs.length,hr.1]
 have hK:=Bk I hr (Eh hok) rvs
 refine Au (cs:=ds.map code) ho hc hT hd (by omega) (λG kG A' _=>uu (pv (λd v kv=>Cz kG kv) hK) hok) λod h1 h2=> ?_
 have h1' :Ord ds.length od:=by rw[←e1];exact h1
 have h2' :Up (rank (ds.map code)) od ds.length:=by rw[←e1];exact h2
 have uniq:(od.toList.map λi=>ds.getD i .non)=cR ds:=jE ((qJ h1').trans (fK ds).symm) (Ah h1' h2') (fR ds) λa ha b hb=>Ed hok a ((qJ h1').mem_iff.mp ha) b ((qJ h1').mem_iff.mp hb)
 obtain⟨c,hat⟩:=sortedAll_at s.heap its (List.toArray (od.toList.map λi=>its.getD i Value.none))
 have fresh:H (s.heap.objs.size+1)=none:=I.hok.fresh (Gdi _)
 have h1v:Ord vs.length od:=by rw[←hr.1];exact h1'
 refine⟨.ref (s.heap.objs.size+1),_,I.laid (a:=s.heap.objs.size+1) (o:= .lst (od.toList.map λi=>vs.getD i .non)) (t' :=s.toks) (λb ob e=>sortedAll_old e) (Gdi _) ?_,rfl,q _ _ fresh λF' r=> ?_⟩
 ·refine⟨?_,_,c,El h1v rvs,hat⟩
  rw[Gae,Gcb,h1v.size,←hr.1,GbG]
  omega
 ·rw[←uniq]
  exact Ek h1' r
theorem mE:CallD X iR (qU X.K):=by
 intro F H ds vs rv Q ps e k
 obtain⟨d,xs,rfl,h1,h2⟩:=Af e
 split at h2
 ·rename_i c
  rw[Gas] at c
  cases h2
  obtain⟨v,rfl,i⟩:=ie ps
  obtain⟨p,vs,rfl,hs,r⟩:=Ae i h1
  exact⟨p,xs,vs,F,rfl,hs,r,Gaw c.1,c.2,λl out hl hr=>k _ _ (bJ hl) ⟨l,rfl,hl,qA,rfl,iW hl (hr F r)⟩⟩
 ·cases h2
end
open PySem
noncomputable def Ris(xs:Array Nat):Prop:=∀i j:Nat,i<j→∀x y,xs[i]? =some x→xs[j]? =some y→x<y
noncomputable def Tb(bt:Bool)(t:SetTable):Prop:=t.led= !bt∧(t.plain=true→Ris t.place)
open PySem PySem.Spec PyProof.Rows
noncomputable def kOf(e:Int×Value):Int:=match e.2 with
 | .int k _=>k
 |_=>0
section
variable{prog:Program}{w:World}{A:Around}{E:Value→Shared→Prop}{z:Shared}
noncomputable def CA(prog:Program)(w:World)(es:Array (Int×Value))(ks:List Int):Prop:=(∀e∈es.toList,∃k t,e=((intKind prog w).hash k,Value.int k t))∧(es.toList.map kOf).Perm ks
noncomputable def SetT(prog:Program)(w:World)(bt:Bool)(g:Heap)(a:Addr)(ks:List Int):Prop:=
 ∃o es ep t,g.get? a=some o∧o.ExactSet∧o.data= .set es ep t∧CA prog w es ks∧es.size<scanBound∧t.fits es.size=true∧Tb bt t
theorem CA.size{es:Array (Int×Value)}{ks:List Int}(h:CA prog w es ks):es.size=ks.length:=by
 have:=h.2.length_eq
 simpa using this
theorem CA.perm{es fs:Array (Int×Value)}{ks:List Int}(h:CA prog w es ks)(p:fs.toList.Perm es.toList):CA prog w fs ks:=⟨λe he=>h.1 e (p.mem_iff.mp he),(p.map kOf).trans h.2⟩
end
section
variable{prog:Program}{w:World}{A:Around}{R:Result→Shared→Prop}{I:Addr}{fp wr:List Addr}{G:Array GenState→Array GenState→Prop}{n:Nat}{P:Nat→Value→Prop}{St:Nat→Shared→Prop}
theorem SetT.at{bt:Bool}{g g' :Heap}{a:Addr}{ks:List Int}(h:SetT prog w bt g a ks)(e:∀o,g.get? a=some o→g'.get? a=some o):SetT prog w bt g' a ks:=let⟨o,es,ep,t,ho,r⟩:=h;⟨o,es,ep,t,e o ho,r⟩
end
noncomputable def Mh(w:World):Bool:=w.params.followText "set-order"
namespace Fr
end Fr
theorem qV{α:Type}:∀(xs:List α) (i:Nat) (h:i<xs.length),(xs[i]::xs.eraseIdx i).Perm xs
 |x::xs,0,h=>by simp
 |x::xs,i+1,h=>by
  have h' :i<xs.length:=by simpa using h
  simp only[List.getElem_cons_succ,List.eraseIdx_cons_succ]
  exact(List.Perm.swap _ _ _).trans ((qV xs i h').cons x)
theorem Bu{α:Type}{next:Nat→Nat}:∀(f k:Nat) (left:List α) (out:Array α),left.length=f→(pickOrder.go next f k left out).toList.Perm (out.toList++left)
 |0,k,left,out,e=>by
  have:left=[]:=List.length_eq_zero_iff.mp e
  subst this
  simp[pickOrder.go]
 |f+1,k,left,out,e=>by
  have hl:next k%left.length<left.length:=Nat.mod_lt _ (by omega)
  unfold pickOrder.go
  rw[Gab hl]
  dsimp only
  refine(Bu f (k+1) _ _ (by rw[List.length_eraseIdx_of_lt hl];omega)).trans ?_
  rw[GdG,Gax]
  refine GbS _ ?_
  exact(qV _ _ hl)
theorem CB{α:Type}(next:Nat→Nat)(xs:Array α):(pickOrder next xs).toList.Perm xs.toList:=by
 have:=Bu (next:=next) xs.size 0 xs.toList #[] (by simp)
 simpa[pickOrder] using this
section
variable{prog:Program}{w:World}{A:Around}{E:Value→Shared→Prop}{z:Shared}
noncomputable def EJ(h:Heap)(a:Addr)(es:Array (Int×Value))(ep:Nat)(t:SetTable):Prop:=∃o,h.get? a=some o∧o.ExactSet∧o.data= .set es ep t
theorem EJ.at{h h' :Heap}{a:Addr}{es:Array (Int×Value)}{ep:Nat}{t:SetTable}(x:EJ h a es ep t)(e:∀o,h.get? a=some o→h'.get? a=some o):EJ h' a es ep t:=let⟨o,ho,r⟩:=x;⟨o,e _ ho,r⟩
theorem EJ.ty{a:Addr}{es:Array (Int×Value)}{ep:Nat}{t:SetTable}(x:EJ z.heap a es ep t):z.TypeIs (.ref a) "set":=let⟨o,ho,hc,_⟩:=x;⟨o,ho,hc.1⟩
inductive Way (w:World) (a:Addr) (es:Array (Int×Value)) (ep:Nat) (t:SetTable) (h:Heap) (tp:Addr):Value→Nat→List (Int×Value)→Prop
 |text {i:Nat}:Mh w=true→Way w a es ep t h tp (rawInt 0) i (pickOrder (w.params.setOrder a ep) es).toList
 |drawn {i:Nat} {ps:List Nat}:IsTup h tp (ps.map λ(j:Nat)=>rawInt j).toArray→ps.Perm (List.range es.size)→Way w a es ep t h tp (.ref tp) i (ps.map λj=>es.getD j (0,.none))
 |plain {i:Nat} {s:Nat}:Mh w=false→¬(t.plain=false∧es.size>1)→Ris t.place→t.led=true→(s=if i=0 then 0 else t.place.getD (i -1) 0+1)→Way w a es ep t h tp (rawInt s) i es.toList
noncomputable def Bv(w:World)(h:Heap)(it a tp:Addr)(es:Array (Int×Value))(ep:Nat)(t:SetTable)(xs:List (Int×Value))(i:Nat):Prop:=
 ∃o first,h.get? it=some o∧o.cls= .type "set_iterator"∧o.data= .fields #[first,rawInt i,.ref a,rawInt es.size,rawInt ep]∧Way w a es ep t h tp first i xs
theorem Way.perm{a tp:Addr}{es:Array (Int×Value)}{ep i:Nat}{t:SetTable}{h:Heap}{f:Value}{xs:List (Int×Value)}(x:Way w a es ep t h tp f i xs):xs.Perm es.toList:=by
 cases x with
 |text _=>exact CB _ _
 |drawn _ hp=>
  refine(hp.map _).trans ?_
  have:(List.range es.size).map (λj=>es.getD j (0,Value.none))=es.toList:=by
   apply List.ext_getElem
   ·simp
   ·intro i h1 h2
    simp at h1 h2⊢
    simp[Array.getD,h2]
  rw[this]
 |plain _ _ _ _ _=>exact List.Perm.refl _
theorem Bv.ty{it a tp:Addr}{es:Array (Int×Value)}{ep i:Nat}{t:SetTable}{xs:List (Int×Value)}(x:Bv w z.heap it a tp es ep t xs i):z.TypeIs (.ref it) "set_iterator":=let⟨o,f,ho,hc,_⟩:=x;⟨o,ho,hc⟩
end
open PySem PySem.Spec PyProof.Rows
section
variable{prog:Program}{w:World}{A:Around}{E:Value→Shared→Prop}{z:Shared}
theorem Way.at{a tp:Addr}{es:Array (Int×Value)}{ep i:Nat}{t:SetTable}{h h' :Heap}{f:Value}{xs:List (Int×Value)}(x:Way w a es ep t h tp f i xs)(k:∀o,h.get? tp=some o→h'.get? tp=some o):Way w a es ep t h' tp f i xs:=by
 cases x with
 |text q=>exact .text q
 |drawn q1 q2=>
  obtain⟨o,ho,r⟩:=q1
  exact .drawn ⟨o,k o ho,r⟩ q2
 |plain q1 q2 q3 q4 q5=>exact .plain q1 q2 q3 q4 q5
end
open PySem PySem.Spec PyProof.Rows L2
section
variable{X:Cx}{pins:List (Addr×Obj)}{σ:St}{H:Hp}{s:Shared}
theorem _root_.L2.Inv.draw(I:Inv X pins σ H s)(d:Drawn):Inv X pins σ H {s with drawn:=d}:=⟨I.ok,I.os,I.bare,I.base,I.loc,I.cell,I.free,I.jZ,I.pin,I.hok,I.len⟩
end
section
variable{X:Cx}{e a b c:Expr}{f g h:DE}{pos:Pos}{pins:List (Addr×Obj)}{σ:St}{H:Hp}{s:Shared}
theorem lV:∀{ns:List Int} {us:List Value},Vals (ns.map V.int) us→IntsAre us ns
 |[],_,.nil=> .nil
 |n::ns,_,.cons h t=>by
  obtain⟨k,rfl⟩:=h
  exact .cons n k (lV t)
end
namespace Fr
end Fr
section
variable{X:Cx}{e a b c:Expr}{f g h:DE}{pos:Pos}{pins:List (Addr×Obj)}{σ:St}{H:Hp}{s:Shared}
noncomputable def gone(H:Hp)(it l:Addr)(o:HO):Hp:=λb=>if b=it then none else upd H l o b
end
open PySem PySem.Spec PyProof.Rows L2
section
variable{prog:Program}{w:World}{K:Type} [DecidableEq K]{knd:HeapKind prog w K}{A:Around}{E:Value→Shared→Prop}{s:Shared}
theorem pX{d a:Addr}{xs:List (K×Addr×Value)}{k:K}{v:Value}{Q:Value→Shared→Prop}(hu:knd.room A)(hkey:knd.is s.heap k a)(hm:s.heap.DictOfH knd d xs)
  (hthere:∀p,atKey xs k=some p→Q p.2 {s with toks:=s.toks+knd.draws k})
  (hnew:atKey xs k=none→∀h',h'.DictOfH knd d (storedH xs k a v)→Heap.SameBut d s.heap h' →Q v {s with heap:=h',toks:=s.toks+knd.draws k})
  (hsz:xs.length≤sizeLine):
  wpAny (model prog w) A (dictSetDefault d (.ref a) v) Q E s:=by
 obtain⟨o,es,ep,ho,hc,hd,he,his,hn⟩:=hm
 unfold dictSetDefault
 try with_reducible refine Gcr ?_
 refine Gaa (knd.pyHash hu hkey ?_)
 refine Gaa (wpAny_dictFind_heap (s:={s with toks:=s.toks+knd.draws k}) hu hkey ho hd he his hn ?_ ?_)
 ·intro hno
  have hnot:k∉xs.map (·.1):=not_mem_keys_of_get hno
  refine Gaa (GbX (Gaa (wpAny_updateDictKeys (hz:=by have e:=size_of_entries he;omega) (s:={s with toks:=s.toks+knd.draws k}) ho hd (Gaf (hnew (Gdf hno) _ ⟨_,_,ep+1,Gco _ ho (Obj.isFreed_of_dict (Obj.data_mapDictKeys hd _)),
   hc.mapDictKeys _,Obj.data_mapDictKeys hd _, ?_, ?_, ?_⟩ (Gcc ..))))))
  ·rw[storedH_new (Gdf hno)]
   simp[he,entryOfKey]
  ·rw[storedH_new (Gdf hno)]
   intro x hx
   rcases Gay.mp hx with hx|hx
   ·exact knd.keeps (his x hx) ho hd (Gcc ..)
   ·simp only[Gcj] at hx
    subst hx
    exact knd.keeps hkey ho hd (Gcc ..)
  ·rw[storedH_new (Gdf hno)]
   rw[GaJ,Gdg]
   refine⟨hn,by simp, ?_⟩
   intro x hx y hy
   simp only[Gar,Gdv,Gcj] at hy
   subst hy
   exactλe=>hnot (e▸hx)
 ·intro j p hj
  refine Gaa (Gde (s:={s with toks:=s.toks+knd.draws k}) ho hd ?_)
  rw[entry_at he j,hj]
  refine Gaa (GbX ?_)
  exact Gaf (hthere p (atKey_of_get hn hj))
theorem nS(d a:Addr)(hd:(d==sysModules)=false)(dflt:Value):
  MeetsIn prog w (Builtin.«dict.setdefault» ⟨[.ref d,.ref a,dflt],[]⟩) (λA R s=>knd.room A.in1∧∃k xs,knd.is s.heap k a∧s.heap.DictOfH knd d xs∧xs.length≤sizeLine∧
   (∀p,atKey xs k=some p→R (.ok (.ret p.2)) {s with toks:=s.toks+knd.draws k})∧
   (atKey xs k=none→∀h',h'.DictOfH knd d (storedH xs k a dflt)→Heap.SameBut d s.heap h' →R (.ok (.ret dflt)) {s with heap:=h',toks:=s.toks+knd.draws k})):=
 .of_wp λA R s ⟨hu,k,xs,hkey,hm,hsz,h1,h2⟩=>by
  unfold Builtin.«dict.setdefault»
  refine Gaa ?_
  unfold Builtin.Dict.keyAndDefault
  refine Gaa (wpAny_notOrdered_dict hm.typeIs ?_)
  show wpAny _ _ (pure (d,Value.ref a,some dflt)) _ _ s
  refine Gaf ?_
  show wpAny _ _ (if(d==sysModules)=true then _ else(dictSetDefault d (.ref a) dflt>>=_)) _ _ s
  rw[Gag (by rw[hd];exact Gau)]
  exact Gaa (pX hu hkey hm (λp hp=>Gaf ⟨_,rfl,h1 p hp⟩) (λhn h' hm' hs' =>Gaf ⟨dflt,rfl,h2 hn h' hm' hs'⟩) hsz)
end
section
variable{X:Cx}{pins:List (Addr×Obj)}{σ:St}{H:Hp}{s:Shared}{a b:Addr}{d:V}{u r:Value}{o:Option V}{A:Around}{E:Value→Shared→Prop}
theorem uw{kvs:List (List Key×V)}{k:List Key}{Q:Value→Shared→Prop}(hu:A.units+1<cLine)(I:Inv X pins σ H s)(e:H a=some (.dT kvs))(eb:H b=some (.tup (k.map kV)))(hl:kvs.length<sizeLine)(rd:RelV d r)
  (h1:∀v w' s',gO kvs k=some v→Inv X pins σ H s' →RelV v w' →Q w' s')(h2:∀s',gO kvs k=none→Inv X pins σ (upd H a (.dT (putK kvs k d))) s' →Q r s'):
  wpAny (model X.prog X.w) A (call (.builtin "dict.setdefault") [.ref a,.ref b,r]) Q E s:=by
 obtain⟨z,hd,xs,rel,dd⟩:=Ds I.hok e
 have hz:xs.length≤sizeLine:=by rw[←Paired.length rel];exact z
 refine call_meetsIn PySem.F.slot_dict_setdefault dd.typeIs PySem.F.entry_dict_setdefault (PySem.F.args_dict_setdefault_3 _ _ _) (nS (knd:=tupleKind (cD X.prog X.w)) a b hd r) ⟨GcR hu,k,xs,L2.n4 I.hok eb,dd,hz,λp hp=> ?_,λhn h' dd' hs=> ?_⟩
 ·have rv:=rel.val k
  rw[hp] at rv
  cases hv:gO kvs k with
  |none=>rw[hv] at rv;exact rv.elim
  |some v=>rw[hv] at rv;exact h1 v _ _ hv (I.tok _) rv
 ·have rv:=rel.val k
  rw[hn] at rv
  cases hv:gO kvs k with
  |some v=>rw[hv] at rv;exact rv.elim
  |none=>
   refine h2 _ hv ?_
   have hl' :(putK kvs k d).length≤sizeLine:=by have:=kN kvs k d;omega
   obtain⟨q,es,ep,hq,g2,g3,g4,_,g5⟩:=dd'
   refine q9 I (by rw[e];exact True.intro) hs ⟨q,hq⟩ ⟨hl',hd,_,(rel.put k eb rd).keeps λc ys ec=> ?_,q,es,ep,hq,g2,g3,g4,g5⟩
   rw[ax (AQ ec e (λz=>nomatch z))]
   exact ec
end
noncomputable def JF(td ty tx:TE):TE:=λσ H Q=>td σ H λx H1=>∃a,x= .ref a∧IsD H1 a∧ty σ H1 λy H2=>tx σ H2 λz H3=>∃kvs k b,H3 a=some (.dT kvs)∧y= .ref b∧H3 b=some (.tup (k.map kV))∧kvs.length<sizeLine∧
 (∀v,gO kvs k=some v→Q v H3)∧(gO kvs k=none→Q z (upd H3 a (.dT (putK kvs k z))))
section
variable{X:Cx}{o e f:Expr}{apos cpos:Pos}{td ty tx:TE}
theorem EK(hu:X.A.units+1<cLine)(ho:PE X o td)(he:PE X e ty)(hf:PE X f tx)(m:M2 X o "setdefault" apos e f cpos):PE X (.Call (.Attribute o "setdefault" apos) [e,f] [] cpos) (JF td ty tx):=by
 intro pins s σ H Q I h
 refine wpAny_Call_method m.base m.few m.line GcZ PySem.F.slot_dict_setdefault PySem.F.type_dict_setdefault (thn (ho pins s σ H _ I h) λu s1 ⟨x,H1,I1,rx,a,ex,d,q1⟩=> ?_)
 subst ex
 obtain rfl:u=Value.ref a:=rx
 obtain⟨t1,t2,_⟩:=A7 I1 d
 refine⟨t1,t2, ?_⟩
 rw[m.trees]
 refine GcF rfl (Gdu (GcC (thn (he pins s1 σ H1 _ I1 q1) λiv s2 ⟨y,H2,I2,ry,q2⟩=>
  GcC (thn (hf pins s2 σ H2 _ I2 q2) λfv s3 ⟨z,H3,I3,rz,kvs,k,b,e1,e2,e3,e4,e5,e6⟩=>Calls.spliced_nil ?_))))
 subst e2
 cases(show iv=Value.ref b from ry)
 exact uw hu I3 e1 e3 e4 rz (λv w' s4 hv I4 rv=> ⟨_,H3,I4,rv,e5 v hv⟩) λs4 hv I4=> ⟨_,_,I4,rz,e6 hv⟩
end
noncomputable def gR(Bad:Addr→Prop)(p:Addr)(ws:List (List Key×V))(b:Addr):Prop:=Bad b∨b=p∨V.ref b∈ws.map (·.2)
structure ft(K:aD)(Bad:Addr→Prop)(env:Env)(σ:St)(H:Hp)(i:Nat)(p:Addr)(ws:List (List Key×V))(kvs:Rws):Prop where
 at_:σ[i]? =some (some (.ref p))
 hid:env[i]? =some none
 top:H p=some (.dT ws)
 keys:kvs.map (·.1)=ws.map (·.1)
 row:∀(j:Nat) k v d,ws[j]? =some (k,v)→kvs[j]? =some (k,d)→∃a ds vs,v= .ref a∧d= .lst ds∧a≠p∧H a=some (.lst vs)∧aX K (λ_=>False) H ds vs
 inj:∀(j j' :Nat) k k' a,ws[j]? =some (k,V.ref a)→ws[j']? =some (k',V.ref a)→j=j'
noncomputable def nq(H H' :Hp):Prop:=∀b o,H b=some o→isT o→H' b=some o
theorem nq.trans{H H1 H2:Hp}(a:nq H H1)(b:nq H1 H2):nq H H2:=λc o e t=>b c o (a c o e t) t
theorem nq.same{H H1:Hp}(s:c9 H H1):nq H H1:=λc o e _=>s c o e
theorem nq.upd{H:Hp}{a:Addr}{o o' :HO}(h:H a=some o)(n:¬isT o):nq H (upd H a o'):=λc x e t=>by
 have:c≠a:=by rintro rfl;rw[h] at e;cases e;exact n t
 rw[ax this];exact e
section
variable{K:aD}{H₀ H H' H1:Hp}{Bad Bad' :Addr→Prop}{env env' :Env}{σ σ' :St}{d:D}{v:V}{a p:Addr}{i j:Nat}{ws:List (List Key×V)}{kvs:Rws}
theorem ft.mono(N:ft K Bad env σ H i p ws kvs)(s:c9 H H'):ft K Bad env σ H' i p ws kvs where
 at_:=N.at_
 hid:=N.hid
 top:=s _ _ N.top
 keys:=N.keys
 row:=λj k v d h1 h2=>let⟨a,ds,vs,e1,e2,e3,e4,e5⟩:=N.row j k v d h1 h2;⟨a,ds,vs,e1,e2,e3,s _ _ e4,e5.gen (.of_same s) λ_ f _=>f⟩
 inj:=N.inj
theorem ft.kX(N:ft K Bad env σ H i p ws kvs)(hij:i≠j):ft K Bad (env.set j (some (.sh d))) (σ.set j (some v)) H i p ws kvs where
 at_:=by rw[Gac (GaY hij)];exact N.at_
 hid:=by rw[Gac (GaY hij)];exact N.hid
 top:=N.top
 keys:=N.keys
 row:=λj k v d h1 h2=>let⟨a,ds,vs,e1,e2,e3,e4,e5⟩:=N.row j k v d h1 h2;⟨a,ds,vs,e1,e2,e3,e4,e5⟩
 inj:=N.inj
theorem ft.JG(N:ft K Bad env σ H i p ws kvs):ft K Bad' env σ H i p ws kvs:=⟨N.at_,N.hid,N.top,N.keys,N.row,N.inj⟩
theorem ft.app{vs:List V}{ds:List D}{k:List Key}(N:ft K Bad env σ H i p ws kvs)(ba:Bad a)(ha:ws[j]? =some (k,.ref a))(hd:kvs[j]? =some (k,.lst ds))(hv:H a=some (.lst vs))(rp:aX K (λ_=>False) H (ds++[d]) (vs++[v])):
  ft K Bad env σ (upd H a (.lst (vs++[v]))) i p ws (kvs.set j (k,.lst (ds++[d]))):=by
 have dP:iU (λ_=>False) H (upd H a (.lst (vs++[v]))):=λb x hx q=>by
  have:b≠a:=by
   rintro rfl
   rcases q with q|q
   ·exact q
   ·rw[hv] at hx;cases hx;exact q
  rw[ax this];exact hx
 have hpa:p≠a:=by
  obtain⟨a',_,_,e1,_,e3,_⟩:=N.row j k _ _ ha hd
  cases e1
  exact GaY e3
 have hjl:=(Gad.mp hd).1
 refine⟨N.at_,N.hid,by rw[ax hpa];exact N.top, ?_,λj' k' v' d' h1 h2=> ?_,N.inj⟩
 ·rw[List.map_set,←N.keys]
  apply Gdb
  intro m
  by_cases q:j=m
  ·subst q
   rw[GaN (by simpa using hjl),Gan,hd];rfl
  ·rw[Gac q]
 ·by_cases q:j=j'
  ·subst q
   rw[ha] at h1;cases h1
   rw[GaN hjl] at h2
   cases h2
   exact⟨a,_,_,rfl,rfl,GaY hpa,aK,rp.gen dP λ_ f _=>f⟩
  ·rw[Gac q] at h2
   obtain⟨a',ds',us,e1,e2,e3,e4,e5⟩:=N.row j' k' v' d' h1 h2
   subst e1
   have na:a' ≠a:=by
    rintro rfl
    exact q (N.inj j j' _ _ _ ha h1)
   exact⟨a',ds',us,rfl,e2,e3,by rw[ax na];exact e4,e5.gen dP λ_ f _=>f⟩
theorem ft.make{k:List Key}(N:ft K Bad env σ H i p ws kvs)(bp:Bad p)(ba:Bad a)(hn:V.ref a∉ws.map (·.2))(hpa:a≠p)(hv:H a=some (.lst [])):ft K Bad env σ (upd H p (.dT (ws++[(k,.ref a)]))) i p (ws++[(k,.ref a)]) (kvs++[(k,.lst [])]):=by
 have dP:iU (λ_=>False) H (upd H p (.dT (ws++[(k,.ref a)]))):=λb x hx q=>by
  have:b≠p:=by
   rintro rfl
   rcases q with q|q
   ·exact q
   ·rw[N.top] at hx;cases hx;exact q
  rw[ax this];exact hx
 have hlen:kvs.length=ws.length:=by have:=congrArg List.length N.keys;simpa using this
 refine⟨N.at_,N.hid,aK,by rw[GaJ,GaJ,N.keys];rfl,λj' k' v' d' h1 h2=> ?_,λj1 j2 k1 k2 b h1 h2=> ?_⟩
 ·by_cases q:j' <ws.length
  ·rw[GaT q] at h1
   rw[GaT (by omega)] at h2
   obtain⟨a',ds',us,e1,e2,e3,e4,e5⟩:=N.row j' k' v' d' h1 h2
   exact⟨a',ds',us,e1,e2,e3,by rw[ax e3];exact e4,e5.gen dP λ_ f _=>f⟩
  ·rw[GaM (by omega)] at h1
   rw[GaM (by omega)] at h2
   rw[hlen] at h2
   cases hz:j' -ws.length with
   |zero=>
    rw[hz] at h1 h2
    cases h1;cases h2
    exact⟨a,[],[],rfl,rfl,hpa,by rw[ax hpa];exact hv,.nil⟩
   |succ n=>rw[hz] at h1;simp at h1
 ·by_cases q1:j1<ws.length
  ·rw[GaT q1] at h1
   by_cases q2:j2<ws.length
   ·rw[GaT q2] at h2
    exact N.inj j1 j2 _ _ _ h1 h2
   ·rw[GaM (by omega)] at h2
    cases hz:j2 -ws.length with
    |zero=>
     rw[hz] at h2;cases h2
     exact absurd (GaG.mpr ⟨_,GaL h1,rfl⟩) hn
    |succ n=>rw[hz] at h2;simp at h2
  ·rw[GaM (by omega)] at h1
   cases hz:j1 -ws.length with
   |succ n=>rw[hz] at h1;simp at h1
   |zero=>
    rw[hz] at h1;cases h1
    by_cases q2:j2<ws.length
    ·rw[GaT q2] at h2
     exact absurd (GaG.mpr ⟨_,GaL h2,rfl⟩) hn
    ·rw[GaM (by omega)] at h2
     cases hz2:j2 -ws.length with
     |succ n=>rw[hz2] at h2;simp at h2
     |zero=>omega
end
noncomputable def FrW(H₀:Hp)(Bad:Addr→Prop)(p:Addr)(ws:List (List Key×V)):Prop:=∀b,(b=p∨V.ref b∈ws.map (·.2))→H₀ b=none∧¬Bad b
theorem ux{kvs:Rws}{ws:List (List Key×V)}{k:List Key}(h:kvs.map (·.1)=ws.map (·.1)):kvs.findIdx? (λp=>decide (p.1=k))=ws.findIdx? (λp=>decide (p.1=k)):=by
 have h1:(kvs.map (·.1)).findIdx? (λq=>decide (q=k))=kvs.findIdx? (λp=>decide (p.1=k)):=by rw[GdH];rfl
 have h2:(ws.map (·.1)).findIdx? (λq=>decide (q=k))=ws.findIdx? (λp=>decide (p.1=k)):=by rw[GdH];rfl
 rw[←h1,←h2,h]
theorem find_some:∀{ws:List (List Key×V)} {k:List Key} {j:Nat},ws.findIdx? (λp=>decide (p.1=k))=some j→∃v,ws[j]? =some (k,v)∧gO ws k=some v
 |[],k,j,h=>by simp at h
 |p::ws,k,j,h=>by
  rw[List.findIdx?_cons] at h
  by_cases c:p.1=k
  ·rw[GaF c] at h
   cases h
   exact⟨p.2,by rw[←c];rfl,kM c⟩
  ·rw[GaE c] at h
   simp only[GaB,GaV] at h
   obtain⟨j',hj,rfl⟩:=Gal.mp h
   obtain⟨v,h1,h2⟩:=find_some hj
   exact⟨v,by rw[Gda];exact h1,by rw[iM c];exact h2⟩
theorem find_none:∀{ws:List (List Key×V)} {k:List Key},ws.findIdx? (λp=>decide (p.1=k))=none→gO ws k=none
 |[],k,h=>rfl
 |p::ws,k,h=>by
  rw[List.findIdx?_cons] at h
  by_cases c:p.1=k
  ·rw[GaF c] at h;cases h
  ·rw[GaE c] at h
   simp only[GaB,GaV] at h
   rw[iM c]
   exact find_none (Option.map_eq_none_iff.mp h)
theorem Av{kvs:Rws}{ws:List (List Key×V)}{j:Nat}{k:List Key}{v:V}{q:List Key×D}(h:kvs.map (·.1)=ws.map (·.1))(h1:kvs[j]? =some q)(h2:ws[j]? =some (k,v)):q.1=k:=by
 have e1:(kvs.map (·.1))[j]? =some q.1:=by rw[Gan,h1];rfl
 have e2:(ws.map (·.1))[j]? =some k:=by rw[Gan,h2];rfl
 rw[h,e2] at e1
 cases e1;rfl
noncomputable def tM(X:Cx)(i:Nat)(f:DM):TS:=λD σ H=>∃H₀ Bad env p ws kvs q,aF X.K H₀ (gR Bad p ws) env σ H∧ft X.K (gR Bad p ws) env σ H i p ws kvs∧FrW H₀ Bad p ws∧f env kvs=some q∧
 ∀σ' H' ws',aF X.K H₀ (gR Bad p ws') q.1 σ' H' →ft X.K (gR Bad p ws') q.1 σ' H' i p ws' q.2→FrW H₀ Bad p ws' →nq H H' →D.nx σ' H'
section
variable{X:Cx}{e a b c:Expr}{f g h:DE}{t u:DT}{pos:Pos}{st:Stmt}{rest body:List Stmt}{i j:Nat}{x:Str}{n1 n2:DM}
theorem Hg(h1:PS X st (tM X i n1)):PSs X [st] (tM X i n1):=tW h1
theorem EM(h1:PS X st (tM X i n1))(h2:PSs X rest (tM X i n2)):PSs X (st::rest) (tM X i (LP n1 n2)):=by
 refine(nA h1 h2).aU ?_
 rintro D σ H ⟨H₀,Bad,env,p,ws,kvs,q,E,N,h0,e,k⟩
 obtain⟨q1,hq,e⟩:=bind_some e
 exact⟨H₀,Bad,env,p,ws,kvs,q1,E,N,h0,hq,λσ' H' ws' E' N' f' t' => ⟨H₀,Bad,q1.1,p,ws',q1.2,q,E',N',f',e,λσ2 H2 ws2 E2 N2 f2 t2=>k σ2 H2 ws2 E2 N2 f2 (t'.trans t2)⟩⟩
theorem JH{pos' :Pos}(hN:X.N.Nodup)(hj:X.N[j]? =some x)(hx:Loc X.env.scope x)(hij:i≠j)(he:PEd X e f)(hs:swapsWith e (some (.Name x pos')) pos.line X.env=pure false:=by rfl)
  (hf:X.fn x=true∨X.env.scope.names.lookup x=some .local:=by first|exact .inl rfl|exact .inr rfl|assumption):PS X (.Assign [.Name x pos'] e pos) (tM X i (setM j f)):=by
 refine(wU hN hj hx he hs hf).aU ?_
 rintro D σ H ⟨H₀,Bad,env,p,ws,kvs,q,E,N,h0,e,k⟩
 obtain⟨⟨kr,d⟩,hr,e⟩:=bind_some e
 cases kr with
 |c=>
  cases e
  refine⟨H₀,_,env,_,E,hr,λv H1 s1 R=> ?_⟩
  exact k _ _ ws ((E.mono s1).kX R) ((N.mono s1).kX hij) h0 (.same s1)
 |tn=>cases e
 |to=>cases e
 |tb=>cases e
theorem bindM{α β:Type}{o:Option α}{f:α→Option β}{b:β}(h:o.bind f=some b):∃a,o=some a∧f a=some b:=bind_some h
theorem JI{px ap cp apos cpos lp:Pos}{ke:Expr}(hu:X.A.units+1<cLine)(hN:X.N[i]? =some x)(hv:Vis X.env.scope x)(hk:PEd X ke g)(he:PEd X e f)(hd:(x==("__debug__":Str))=false:=by decide)(hcd:(x==("__classdict__":Str))=false:=by decide)
  (m:M2 X (.Name x px) "setdefault" ap ke (.List [] lp) cp:=by exact⟨rfl,rfl,rfl,rfl⟩)
  (hs1:starEach [e] X.env=[(false,eval e X.env)]:=by rfl)
  (hbase:attributeBase (.Call (.Attribute (.Name x px) "setdefault" ap) [ke,.List [] lp] [] cp) "append" X.env (eval (.Call (.Attribute (.Name x px) "setdefault" ap) [ke,.List [] lp] [] cp) X.env)=eval (.Call (.Attribute (.Name x px) "setdefault" ap) [ke,.List [] lp] [] cp) X.env:=by rfl)
  (hfew:((backTo cpos (starEach [e] X.env)).all (λx=> !x.1)&&(backToKw cpos (keywordEach [] X.env)).all (λx=>x.1.isSome)
   &&decide (([e]:List Expr).length+([]:List Keyword).length+(if([]:List Keyword).isEmpty then 0 else 1)<30))=true:=by rfl)
  (hline:(apos.endLine==cpos.line)=true:=by rfl)(hs:swapsWith (.Call (.Attribute (.Call (.Attribute (.Name x px) "setdefault" ap) [ke,.List [] lp] [] cp) "append" apos) [e] [] cpos) none pos.line X.env=pure false:=by rfl):
  PS X (.Expr (.Call (.Attribute (.Call (.Attribute (.Name x px) "setdefault" ap) [ke,.List [] lp] [] cp) "append" apos) [e] [] cpos) pos) (tM X i (LQ g f)):=by
 refine(pZ (AY GcB PySem.F.slot_list_append PySem.F.type_list_append oC (EK hu (kK hN hv hd hcd) hk (Dm A1) m) (a4 he aa hs1) hbase hfew hline hs1 rfl) hs).aU ?_
 rintro D σ H ⟨H₀,Bad,env,p,ws,kvs,q,E,N,h0,e,kk⟩
 obtain⟨⟨ky,dy⟩,hy,e⟩:=bindM e
 obtain⟨r,hr,e⟩:=bindM e
 cases dy with
 |tup ks=>
  dsimp only at e
  split at e
  ·rename_i z
   rw[Gas] at z
   obtain⟨key,hkey,e⟩:=bindM e
   obtain⟨kvs',hsd,e⟩:=Gal.mp e
   cases e
   have bp:gR Bad p ws p:= .inr (.inl rfl)
   refine⟨_,N.at_,p,rfl,.inr ⟨ws,.inl N.top⟩,H₀,_,env,_,E,hy,λvy H1 s1 Ry=> ?_⟩
   have iy:Inn X.K (Cln (gR Bad p ws) env σ) H1 (.tup ks) vy:=Ry.inn
   cases iy with
   | @tup bk kv _ hb rb=>
    have ekv:=jm rb hkey
    subst ekv
    have E1:=E.mono s1
    have N1:=N.mono s1
    refine⟨GbH _,λa1 n1' => ?_⟩
    have sA:c9 H1 (upd H1 a1 (.lst [])):=bJ n1'
    have hbA:upd H1 a1 (.lst []) bk=some (.tup (key.map kV)):=sA _ _ hb
    have N2:=N1.mono sA
    have E2:=E1.mono sA
    have hlen:kvs.length=ws.length:=by have:=congrArg List.length N.keys;simpa using this
    have szk:kvs.length<ah∧((∃jj ds k0,kvs.findIdx? (λp=>decide (p.1=key))=some jj∧kvs[jj]? =some (k0,.lst ds)∧ds.length<ah∧kvs' =kvs.set jj (key,.lst (ds++[r.d])))∨(kvs.findIdx? (λp=>decide (p.1=key))=none∧kvs' =kvs++[(key,.lst [r.d])])):=by
     unfold DB at hsd
     split at hsd
     ·rename_i hz
      refine⟨hz, ?_⟩
      split at hsd
      ·rename_i jj hjj
       split at hsd
       ·rename_i k0 ds hds
        split at hsd
        ·rename_i hl
         cases hsd
         exact .inl ⟨jj,ds,k0,hjj,hds,hl,rfl⟩
        ·cases hsd
       ·cases hsd
      ·rename_i hjj
       cases hsd
       exact .inr ⟨hjj,rfl⟩
     ·cases hsd
    have fin:∀(H2:Hp) (ws2:List (List Key×V)) (kvs2:Rws) (jj:Nat) (a:Addr) (ds:List DL.D),aF X.K H₀ (gR Bad p ws2) env σ H2→ft X.K (gR Bad p ws2) env σ H2 i p ws2 kvs2→FrW H₀ Bad p ws2→nq H H2→ws2[jj]? =some (key,.ref a)→kvs2[jj]? =some (key,.lst ds)→ds.length<ah→kvs' =kvs2.set jj (key,.lst (ds++[r.d]))→
      tyV X.K "list" (.ref a) H2∧tA X (a5 f aq) σ H2 λvs H3=>AZ (.ref a) vs H3 λ_ H4=>D.nx σ H4:=by
     intro H2 ws2 kvs2 jj a ds E2 N2 F2 T2 hw hkv hl ek
     obtain⟨a',ds',vs,e1,e2,e3,hvs,rp⟩:=N2.row jj _ _ _ hw hkv
     cases e1;cases e2
     have ba:gR Bad p ws2 a:= .inr (.inr (GaG.mpr ⟨_,GaL hw,rfl⟩))
     refine⟨.inl ⟨rfl,vs,.inl (.inl hvs)⟩,H₀,_,env,[r],E2,by unfold a5 aq;rw[hr];rfl,λus H3 s3 Rs=> ?_⟩
     cases Rs with
     | @cons _ v _ _ R1 tl=>
      cases tl
      have hvs3:=s3 _ _ hvs
      have N3:=N2.mono s3
      have E3:=E2.mono s3
      refine⟨_,vs,v,rfl,rfl,hvs3,by rw[←rp.1,←size_eq];exact hl, ?_⟩
      have rep1:Rep X.K (λ_=>False) H3 r.d v:=R1.inn.imm z.1
      have rp3:aX X.K (λ_=>False) H3 (ds++[r.d]) (vs++[v]):=(rp.gen (.of_same s3) λ_ f _=>f).append (.cons rep1 .nil)
      have N4:=N3.app ba hw hkv hvs3 rp3
      rw[←ek] at N4
      exact kk σ _ ws2 (E3.Ex ba (F2 a (.inr (GaG.mpr ⟨_,GaL hw,rfl⟩))).1 hvs3 (λz=>z) z.2) N4 F2 ((T2.trans (.same s3)).trans (.upd hvs3 λz=>z))
    refine⟨ws,key,bk,N2.top,rfl,hbA,by rw[←hlen,←size_eq];exact szk.1,λv hv=> ?_,λhv=> ?_⟩
    ·rcases szk.2 with⟨jj,ds,k0,hjj,hds,hl,ek⟩| ⟨hjj,_⟩
     ·rw[ux N.keys] at hjj
      obtain⟨v',hw,hv'⟩:=find_some hjj
      rw[hv] at hv';cases hv'
      have hk0:k0=key:=Av N.keys hds hw
      subst hk0
      obtain⟨a',_,_,e1,_⟩:=N.row jj _ _ _ hw hds
      subst e1
      exact fin _ ws kvs jj a' ds E2 N2 h0 ((nq.same s1).trans (.same sA)) hw hds hl ek
     ·rw[ux N.keys] at hjj
      rw[find_none hjj] at hv;cases hv
    ·rcases szk.2 with⟨jj,ds,k0,hjj,hds,hl,ek⟩| ⟨hjj,ek⟩
     ·rw[ux N.keys] at hjj
      obtain⟨v',hw,hv'⟩:=find_some hjj
      rw[hv] at hv';cases hv'
     ·have hn:V.ref a1∉ws.map (·.2):=λhm=>by
       obtain⟨⟨k1,v1⟩,hm1,hm2⟩:=GaG.mp hm
       have hm2' :v1=V.ref a1:=hm2
       subst hm2'
       obtain⟨j1,hj1⟩:=GbQ.mp hm1
       have hj1' :j1<kvs.length:=by rw[hlen];exact(Gad.mp hj1).1
       have hk1:kvs[j1]? =some kvs[j1]:=Gab hj1'
       have hk2:kvs[j1].1=k1:=Av N.keys hk1 hj1
       obtain⟨a',_,us,e1,_,_,e4,_⟩:=N1.row j1 k1 _ kvs[j1].2 hj1 (by rw[hk1,←hk2])
       cases e1
       rw[n1'] at e4;cases e4
      have hpa:a1≠p:=λq=>by subst q;rw[N1.top] at n1';cases n1'
      rw[Dr _ hv]
      have eB:(λb=>gR Bad p ws b∨b=a1)=gR Bad p (ws++[(key,V.ref a1)]):=by
       funext b
       apply propext
       unfold gR
       rw[GaJ,Gay]
       simp only[Gar,Gdv,Gcj,V.ref.injEq]
       constructor
       ·rintro((h|h|h)|h)
        ·exact .inl h
        ·exact .inr (.inl h)
        ·exact .inr (.inr (.inl h))
        ·exact .inr (.inr (.inr h))
       ·rintro(h|h|h|h)
        ·exact .inl (.inl h)
        ·exact .inl (.inr (.inl h))
        ·exact .inl (.inr (.inr h))
        ·exact .inr h
      have E3:aF X.K H₀ (gR Bad p (ws++[(key,V.ref a1)])) env σ (upd H1 a1 (.lst [])):=by
       rw[←eB]
       exact E1.Bo (New:=λb=>b=a1) sA (λb hb=>by rw[hb];exact n1') λb hb=>by rw[hb,aK];simp
      have N3:ft X.K (gR Bad p (ws++[(key,V.ref a1)])) env σ (upd H1 a1 (.lst [])) i p ws kvs:=by
       exact N1.JG.mono sA
      have F3:FrW H₀ Bad p (ws++[(key,V.ref a1)]):=λb hb=>by
       rw[GaJ,Gay] at hb
       simp only[Gar,Gdv,Gcj,V.ref.injEq] at hb
       rcases hb with h|h|h
       ·exact h0 b (.inl h)
       ·exact h0 b (.inr h)
       ·subst h
        exact⟨E1.same.free n1',λq=>E1.bad b (.inl q) n1'⟩
      have bp' :gR Bad p (ws++[(key,V.ref a1)]) p:= .inr (.inl rfl)
      have ba' :gR Bad p (ws++[(key,V.ref a1)]) a1:= .inr (.inr (by rw[GaJ,Gay];exact .inr Gap))
      have N4:=N3.make (k:=key) bp' ba' hn hpa aK
      have E4:=E3.Ex (o' := .dT (ws++[(key,V.ref a1)])) bp' (F3 p (.inl rfl)).1 N3.top (λz=>z) z.2
      have lw:(ws++[(key,V.ref a1)])[ws.length]? =some (key,V.ref a1):=by rw[GaM (Gaq _),Nat.sub_self];rfl
      have lk:(kvs++[(key,DL.D.lst [])])[ws.length]? =some (key,DL.D.lst []):=by rw[←hlen,GaM (Gaq _),Nat.sub_self];rfl
      refine fin _ _ (kvs++[(key,DL.D.lst [])]) ws.length a1 [] E4 N4 F3 (((nq.same s1).trans (.same sA)).trans (.upd N3.top λz=>z)) lw lk (by rw[size_eq,GbG];exact(by decide:(0:Nat)<16777216)) ?_
      rw[ek,←hlen,List.set_append_right _ _ (Gaq _),Nat.sub_self]
      rfl
  ·cases e
 |_=>cases e
theorem JJ{px:Pos}(hp:PassesOwn (model X.prog X.w) X.A X.env X.xe)(hc:X.calm=true)(he:PEd X e f)(hN:X.N.Nodup)(hj:X.N[j]? =some x)(hx:Loc X.env.scope x)(hij:i≠j)(hb:PSs X body (tM X i n1))
  (hs:∀x,foldedSetIterable e X.env x=pure x:=by intro _;rfl)
  (hf:X.fn x=true∨X.env.scope.names.lookup x=some .local:=by first|exact .inl rfl|exact .inr rfl|assumption):
  PS X (.For (.Name x px) e body [] pos) (tM X i (HW j f n1)):=by
 refine(Dj hp hc (DU he) (AU hN hj hx hf) hb hs).aU ?_
 rintro D σ H ⟨H₀,Bad,env,p,ws,kvs,q,E,N,h0,e,k⟩
 obtain⟨⟨kr,d⟩,hr,e⟩:=bindM e
 split at e
 ·rename_i xs hd
  have hd' :d= .tup xs:=hd
  subst hd'
  split at e
  ·rename_i him
   refine⟨H₀,_,env,_,E,hr,λv H1 s1 R=> ?_⟩
   have i1:Inn X.K (Cln (gR Bad p ws) env σ) H1 (.tup xs) v:=R.inn
   cases i1 with
   | @tup la lv _ hla rr=>
    have hll:xs.length=lv.length:=rr.1
    refine⟨_,rfl,.inr ⟨⟨_,SqT.of hla⟩, ?_⟩⟩
    refine⟨λc n σ' H' =>n=xs.length -c∧c≤xs.length∧nq H1 H' ∧∃envi wsi kvi,aF X.K H₀ (gR Bad p wsi) envi σ' H' ∧ft X.K (gR Bad p wsi) envi σ' H' i p wsi kvi∧FrW H₀ Bad p wsi∧nF j n1 (xs.drop c) envi kvi=some q,
     ⟨xs.length,by simp,GbH _,λ_ _ e _=>e,env,ws,kvs,E.mono s1,N.mono s1,h0,by simpa using e⟩, ?_⟩
    rintro c n σ' H' ⟨rfl,hle,tS,envi,wsi,kvi,Ei,Ni,Fi,ei⟩
    have hla' :H' la=some (.tup lv):=tS _ _ hla trivial
    by_cases hlt:c<xs.length
    ·have hd:xs.drop c=xs[c]::xs.drop (c+1):=Gbx hlt
     rw[hd] at ei
     unfold nF at ei
     obtain⟨q1,hq,ei⟩:=bindM ei
     have hlv:lv[c]? =some (lv[c]'(by omega)):=Gab _
     refine .inr ⟨⟨lv,_,SqT.of hla',hlv⟩,λσ2 H2=>nq H1 H2∧∃envi wsi kvi,aF X.K H₀ (gR Bad p wsi) envi σ2 H2∧ft X.K (gR Bad p wsi) envi σ2 H2 i p wsi kvi∧FrW H₀ Bad p wsi∧nF j n1 (xs.drop (c+1)) envi kvi=some q,λσ2 H2 z=> ⟨xs.length -(c+1),by omega,rfl,hlt,z⟩,λy H2 ⟨e2,e3⟩=> ?_⟩
     subst e2
     have ey:=e3 _ (SqT.of hla')
     rw[hlv] at ey
     cases ey
     have rep0:=rr.2 c _ _ (Gab hlt) hlv
     have rep1:Rep X.K (λ_=>False) H1 xs[c] lv[c]:=rep0.imm (qf him c _ (Gab hlt))
     have rep2:Rep X.K (Cln (gR Bad p wsi) envi σ') H2 xs[c] lv[c]:=rep1.gen (λb o hb w=>w.elim (λz=>z.elim) λw=>tS b o hb w) λ_ z _=>z.elim
     refine⟨H₀,Bad,envi.set j (some (.sh xs[c])),p,wsi,kvi,q1,Ei.kX rep2,Ni.kX hij,Fi,hq,λσ3 H3 ws3 E3 N3 F3 t3=> ?_⟩
     exact⟨tS.trans t3,q1.1,ws3,q1.2,E3,N3,F3,ei⟩
    ·have hc' :c=xs.length:=by omega
     subst hc'
     rw[GbM] at ei
     cases ei
     exact .inl ⟨⟨lv,SqT.of hla',by omega⟩,k σ' H' wsi Ei Ni Fi ((nq.same s1).trans tS)⟩
  ·cases e
 ·cases e
theorem CC{pos' dp px rp:Pos}(hN:X.N.Nodup)(hi:X.N[i]? =some x)(hx:Loc X.env.scope x)(hv:Vis X.env.scope x)(h1:PS X st (tM X i n1))(hd:(x==("__debug__":Str))=false:=by decide)(hcd:(x==("__classdict__":Str))=false:=by decide)
  (hs:swapsWith (.Dict [] [] dp) (some (.Name x pos')) pos.line X.env=pure false:=by rfl)
  (hf:X.fn x=true∨X.env.scope.names.lookup x=some .local:=by first|exact .inl rfl|exact .inr rfl|assumption):
  kJ X [.Assign [.Name x pos'] (.Dict [] [] dp) pos,st,.Return (some (.Name x px)) rp] (DC i n1):=by
 intro pins z σ H D I hw
 have hl:=I.len
 refine(nA (wU hN hi hx uY hs hf) (nA h1 (tW (Df (kK hi hv hd hcd))))) pins z σ H D I ?_
 obtain⟨H₀,Bad,env,o,E,e,k⟩:=hw
 obtain⟨q,hq,e⟩:=bindM e
 cases e
 have hie:i<env.length:=Ab E hl hi
 have hie' :i<σ.length:=by rw[←E.len];exact hie
 intro p np
 have eB:(λb=>Bad b∨b=p)=gR Bad p []:=by
  funext b
  apply propext
  unfold gR
  simp
 have E1:aF X.K H₀ (gR Bad p []) (env.set i none) (σ.set i (some (.ref p))) (upd H p (.dT [])):=by
  rw[←eB]
  exact(E.hide i (.ref p)).Bo (New:=λb=>b=p) (bJ np) (λb hb=>by rw[hb];exact np) λb hb=>by rw[hb,aK];simp
 have N1:ft X.K (gR Bad p []) (env.set i none) (σ.set i (some (.ref p))) (upd H p (.dT [])) i p [] []:=
  ⟨cE hie',cE hie,aK,rfl,λj k v d h=>by simp at h,λj j' k k' a h=>by simp at h⟩
 have F1:FrW H₀ Bad p []:=λb hb=>by
  rcases hb with rfl|hb
  ·exact⟨E.same.free np,λq=>E.bad b q np⟩
  ·simp at hb
 refine⟨H₀,Bad,env.set i none,p,[],[],q,E1,N1,F1,hq,λσ' H' ws' E' N' F' _=> ?_⟩
 refine⟨.ref p,N'.at_,k (.ref p) H' E'.same ⟨λ_=> ⟨p,rfl,(F' p (.inl rfl)).1,⟨_,N'.top,trivial⟩⟩,.dT N'.top ⟨N'.keys,λj pd wd e1 e2=> ?_⟩⟩⟩
 obtain⟨kd,dd⟩:=pd
 obtain⟨kw,vw⟩:=wd
 have ek:kd=kw:=Av N'.keys e1 e2
 subst ek
 obtain⟨a,ds,vs,r1,r2,r3,r4,r5⟩:=N'.row j kd vw dd e2 e1
 subst r1 r2
 have fa:=F' a (.inr (GaG.mpr ⟨_,GaL e2,rfl⟩))
 exact .lst ⟨fa.1,λz=>r3 (by cases z;rfl)⟩ (.inl r4) r5.1 λj' d v h1 h2=>(r5.2 j' d v h1 h2).imp λ_ z=>z.elim
end
section
variable{X:Cx}
theorem CD{ds:List D}{r:RV}(h:sortedS ds=some r):iR ds=some r:=by
 obtain⟨d,xs,rfl,h1,h2⟩:=Af h
 split at h2
 ·rename_i c
  rw[Gas] at c
  have c1:=Gaw c.1
  unfold iR one
  simp only[h1,Option.bind_some]
  rw[GaF (by omega:xs.length<1000000),c.2]
  exact h2
 ·cases h2
theorem gA:CallD X sortedS (qU X.K):=λF H ds vs rv Q ps e k=>mE F H ds vs rv Q ps (CD e) k
end
theorem gm{N P:List Str}{sc:Scope}(a:sc.kind= .function:=by rfl)(b:sc.isCoroutine=false:=by rfl)(c:sc.isGenerator=false:=by rfl)(d:N.Nodup:=by decide+kernel)(e:N.take P.length=P:=by rfl)(f:∀x∈P,sc.names.lookup x=some .local∨sc.names.lookup x=some .cell:=by decide+kernel)(g:∀y∈sc.names,y.2≠ .free:=by decide+kernel):aW N P sc:=⟨a,b,c,d,e,f,g⟩
end DL
namespace Den
open DL PySem
noncomputable def ka:DS:=
 (aE (ifS (b9 eqB (ixE (vE 0) (kE (.int 0))) (kE (.str "ever")))
  (retS (ixE (vE 0) (kE (.int 1))))
  bg)
 (aE (ifS (b9 eqB (ixE (vE 0) (kE (.int 0))) (kE (.str "flat")))
  (retS (ixE (vE 0) (kE (.int 2))))
  bg)
 (aE (ifS (b9 qx (vE 1) (kE .non))
  (retS (kE .non))
  bg)
 (retS (opE mw (opE dA (vE 1) (ixE (vE 0) (kE (.int 2)))) (ixE (vE 0) (kE (.int 3))))))))
noncomputable def jo:List D→Option D:=fw 2 2 ka
noncomputable def jR:DS:=
 (aE (aQ 2 (ixE (vE 0) (kE (.int 4))))
 (aE (ifS (b9 eqB (ixE (vE 2) (kE (.int 0))) (kE (.str "asked")))
  (retS (kE .non))
  bg)
 (aE (aQ 3 (opE kI (vE 1) (opE kI (ixE (vE 2) (kE (.int 1))) (ixE (vE 2) (kE (.int 4))))))
 (aE (aQ 4 (opE mw (vE 3) (ixE (vE 2) (kE (.int 2)))))
 (aE (ifS (orT (u3 (Dw leB ltB (kE (.int 0)) (vE 4) (ixE (vE 2) (kE (.int 3))))) (b9 gtB (opE kI (vE 3) (opE dA (vE 4) (ixE (vE 2) (kE (.int 2))))) (opE aP (ixE (vE 2) (kE (.int 4))) (ixE (vE 2) (kE (.int 5))))))
  (retS (kE .non))
  bg)
 (retS (vE 4)))))))
noncomputable def j4:List D→Option D:=fw 5 2 jR
noncomputable def lq:DS:=
 (aE (aQ 2 (ixE (vE 0) (kE (.int 4))))
 (aE (ifS (b9 eqB (ixE (vE 2) (kE (.int 0))) (kE (.str "asked")))
  (retS (bE (b9 ltB (vE 1) (ixE (vE 2) (kE (.int 1))))))
  bg)
 (retS (bE (b9 qx (aG j4 (a5 (vE 0) (a5 (vE 1) aq))) (kE .non))))))
noncomputable def lu:List D→Option D:=fw 3 2 lq
noncomputable def j5:DS:=
 (ifS (kP (b9 eqB (ixE (vE 4) (kE (.int 0))) (vE 1)) (b9 leB (ixE (vE 4) (kE (.int 1))) (vE 2)))
  (aQ 3 (ixE (vE 4) (kE (.int 2))))
  bg)
noncomputable def gS:DS:=
 (aE (aQ 3 (kE .non))
 (aE (i8 (some 0) (kR (vE 0)) (gN 4)
  j5)
 (retS (vE 3))))
noncomputable def gU:List D→Option D:=fw 5 3 gS
noncomputable def fQ:DT:=
 (kP (b9 kA (vE 1) (kE .non)) (b9 leB (ixE (ixE (vE 2) (vE 5)) (kE (.int 0))) (opE kI (ixE (vE 7) (kE (.int 0))) (vE 1))))
noncomputable def iK:DS:=
 (aE (aQ 4 (opE kI (vE 4) (ixE (ixE (vE 2) (vE 5)) (kE (.int 1)))))
 (aQ 5 (opE aP (vE 5) (kE (.int 1)))))
noncomputable def cW:DS:=
 (aE (aQ 4 (opE aP (vE 4) (ixE (vE 7) (kE (.int 1)))))
 (aE (u5 fQ
  iK)
 (ifS (orT (b9 eqB (opE aP (vE 6) (kE (.int 1))) (dS cB (a5 (vE 2) aq))) (b9 gtB (ixE (ixE (vE 2) (opE aP (vE 6) (kE (.int 1)))) (kE (.int 0))) (ixE (vE 7) (kE (.int 0)))))
  (kS 3 (bQ (a5 (ixE (vE 7) (kE (.int 0))) (a5 (vE 4) aq))))
  bg)))
noncomputable def qW:DS:=
 (aE (aQ 2 (dS sortedS (a5 (vE 0) aq)))
 (aE (aQ 3 (gk aq))
 (aE (aQ 4 (kE (.int 0)))
 (aE (aQ 5 (kE (.int 0)))
 (aE (i8 (some 2) (B5 (vE 2)) (gT [6,7])
  cW)
 (retS (vE 3)))))))
noncomputable def jI:List D→Option D:=fw 8 2 qW
noncomputable def fb:DS:=
 (retS (dS anyS (a5 (kT none 1 [] (kR (ixE (vE 0) (kE (.int 2)))) (gN 0) iQ (bE (b9 eqB (ixE (vE 0) (kE (.int 0))) (kE (.str "kilo"))))) aq)))
noncomputable def fc:List D→Option D:=fw 1 1 fb
noncomputable def gB:DS:=
 (aE (aQ 3 (ixE (vE 2) (kE (.int 0))))
 (aE (aQ 4 (ixE (vE 2) (kE (.int 1))))
 (aE (aQ 5 (ixE (vE 2) (kE (.int 2))))
 (aE (aQ 6 (ixE (ixE (vE 0) (kE (.int 3))) (vE 3)))
 (aE (aQ 7 (ixE (ixE (vE 0) (kE (.int 1))) (ixE (vE 6) (kE (.int 2)))))
 (aE (aQ 8 (gk aq))
 (aE (ifS (va (aG lu (a5 (vE 6) (a5 (vE 4) aq))))
  (kS 8 (kE (.str "astray")))
  bg)
 (aE (ifS (b9 gtB (vE 5) (ixE (ixE (vE 6) (kE (.int 3))) (kE (.int 3))))
  (kS 8 (kE (.str "most")))
  bg)
 (aE (ifS (orT (b9 ltB (vE 5) (kE (.int 1))) (b9 neB (opE qv (vE 5) (ixE (ixE (vE 7) (kE (.int 1))) (kE (.int 0)))) (kE (.int 0))))
  (kS 8 (kE (.str "part")))
  bg)
 (aE (ifS (kP (va (aG fc (a5 (vE 7) aq))) (b9 qx (aG gU (a5 (vE 1) (a5 (ixE (vE 6) (kE (.int 1))) (a5 (vE 4) aq)))) (kE .non)))
  (kS 8 (kE (.str "weight")))
  bg)
 (aE (ifS (b9 ltB (vE 4) (opE aP (ixE (ixE (ixE (vE 0) (kE (.int 0))) (ixE (vE 6) (kE (.int 1)))) (kE (.int 1))) (ixE (vE 7) (kE (.int 3)))))
  (kS 8 (kE (.str "young")))
  bg)
 (retS (kT (some 8) 1 [3,4] (kR (vE 8)) (gN 0) iQ (bQ (a5 (vE 0) (a5 (vE 1) (a5 (vE 2) aq)))))))))))))))))
noncomputable def fC:List D→Option D:=fw 9 3 gB
noncomputable def bT:DM:=
 (LP (setM 4 (ixE (ixE (vE 0) (kE (.int 3))) (ixE (vE 3) (kE (.int 0)))))
 (LQ (bQ (a5 (ixE (vE 4) (kE (.int 1))) (a5 (ixE (vE 4) (kE (.int 2))) aq))) (bQ (a5 (ixE (vE 3) (kE (.int 1))) (a5 (ixE (vE 3) (kE (.int 2))) aq)))))
noncomputable def dJ:DS:=
 (DC 2 (HW 3 (vE 1) bT))
noncomputable def cO:List D→Option D:=fw 5 2 dJ
noncomputable def cH:DS:=
 (aE (aQ 11 (aG jo (a5 (vE 8) (a5 (aG gU (a5 (vE 1) (a5 (vE 6) (a5 (ixE (vE 10) (kE (.int 0))) aq)))) aq))))
 (ifS (kP (b9 kA (vE 11) (kE .non)) (b9 gtB (ixE (vE 10) (kE (.int 1))) (vE 11)))
  (kS 3 (bQ (a5 (kE (.str "cap")) (a5 (vE 6) (a5 (ixE (vE 4) (kE (.int 1))) (a5 (vE 7) (a5 (ixE (vE 10) (kE (.int 0))) (a5 (ixE (vE 10) (kE (.int 1))) (a5 (vE 11) aq)))))))))
  bg))
noncomputable def cI:DS:=
 (aE (aQ 9 (ifE (b9 eqB (ixE (vE 8) (kE (.int 0))) (kE (.str "ever"))) (kE .non) (ixE (vE 8) (kE (.int 1)))))
 (i8 none (kR (aG jI (a5 (vE 5) (a5 (vE 9) aq)))) (gN 10)
  cH))
noncomputable def dD:DS:=
 (aE (aQ 6 (ixE (vE 4) (kE (.int 0))))
 (i8 none (B5 (ixE (ixE (ixE (vE 0) (kE (.int 1))) (ixE (vE 4) (kE (.int 1)))) (kE (.int 2)))) (gT [7,8])
  cI))
noncomputable def il:DS:=
 (aE (aQ 3 (gk aq))
 (aE (i8 none (Dz bL (aG cO (a5 (vE 0) (a5 (vE 2) aq)))) (gT [4,5])
  dD)
 (retS (vE 3))))
noncomputable def fV:List D→Option D:=fw 12 3 il
noncomputable def cV:DS:=
 (aE (vc 1 (bQ (a5 (ixE (vE 2) (kE (.int 0))) (a5 (ixE (vE 2) (kE (.int 1))) aq))) (ixE (vE 2) (kE (.int 2))))
 (vc 1 (bQ (a5 (ixE (vE 2) (kE (.int 1))) (a5 (ixE (vE 2) (kE (.int 0))) aq))) (ixE (vE 2) (kE (.int 2)))))
noncomputable def ff:DS:=
 (aE (aQ 1 (qz))
 (aE (i8 (some 0) (kR (vE 0)) (gN 2)
  cV)
 (retS (vE 1))))
noncomputable def fg:List D→Option D:=fw 3 1 ff
noncomputable def gC:DS:=
 (aE (ifS (b9 neB (ixE (vE 1) (kE (.int 1))) (ixE (vE 2) (kE (.int 1))))
  (retS (kE (.int 0)))
  bg)
 (retS (Gf (vE 0) (bQ (a5 (ixE (vE 1) (kE (.int 2))) (a5 (ixE (vE 2) (kE (.int 2))) aq))) (kE (.int 0)))))
noncomputable def gD:List D→Option D:=fw 3 3 gC
noncomputable def bI:DS:=
 (aE (aQ 9 (opE kI (ixE (vE 8) (kE (.int 0))) (ixE (vE 7) (kE (.int 0)))))
 (aE (ifS (b9 geB (vE 9) (vE 3))
  bkS
  bg)
 (ifS (b9 ltB (vE 9) (aG gD (a5 (vE 2) (a5 (ixE (ixE (vE 0) (kE (.int 3))) (ixE (vE 7) (kE (.int 1)))) (a5 (ixE (ixE (vE 0) (kE (.int 3))) (ixE (vE 8) (kE (.int 1)))) aq)))))
  (kS 5 (bQ (a5 (kE (.str "gap")) (a5 (ixE (vE 7) (kE (.int 1))) (a5 (ixE (vE 7) (kE (.int 0))) (a5 (ixE (vE 8) (kE (.int 1))) (a5 (ixE (vE 8) (kE (.int 0))) aq)))))))
  bg)))
noncomputable def cJ:DS:=
 (i8 none (kR (slE (vE 4) (Dx (opE aP (vE 6) (kE (.int 1)))) noO)) (gN 8)
  bI)
noncomputable def ip:DS:=
 (aE (aQ 2 (aG fg (a5 (ixE (vE 0) (kE (.int 2))) aq)))
 (aE (aQ 3 (mmE A8 (.int 0) (kT none 1 [] (kR (ixE (vE 0) (kE (.int 2)))) (gN 0) iQ (ixE (vE 0) (kE (.int 2))))))
 (aE (aQ 4 (dS sortedS (a5 (kT (some 1) 1 [] (kR (vE 1)) (gN 0) iQ (bQ (a5 (ixE (vE 0) (kE (.int 1))) (a5 (ixE (vE 0) (kE (.int 0))) aq)))) aq)))
 (aE (aQ 5 (gk aq))
 (aE (i8 (some 4) (B5 (vE 4)) (gT [6,7])
  cJ)
 (retS (vE 5)))))))
noncomputable def fW:List D→Option D:=fw 10 2 ip
noncomputable def bW:DS:=
 (aE (aQ 4 (aG j4 (a5 (ixE (ixE (vE 0) (kE (.int 3))) (ixE (vE 3) (kE (.int 0)))) (a5 (ixE (vE 3) (kE (.int 1))) aq))))
 (ifS (b9 kA (vE 4) (kE .non))
  (vc 2 (bQ (a5 (ixE (vE 3) (kE (.int 0))) (a5 (vE 4) aq))) (opE aP (Gf (vE 2) (bQ (a5 (ixE (vE 3) (kE (.int 0))) (a5 (vE 4) aq))) (kE (.int 0))) (kE (.int 1))))
  bg))
noncomputable def fX:DS:=
 (aE (aQ 2 (qz))
 (aE (i8 (some 1) (kR (vE 1)) (gN 3)
  bW)
 (retS (oF bL 2 2 [] (gT [0,1]) (b9 gtB (vE 1) (kE (.int 1))) (bQ (a5 (kE (.str "twice")) (a5 (ixE (vE 0) (kE (.int 0))) (a5 (ixE (vE 0) (kE (.int 1))) aq))))))))
noncomputable def dW:List D→Option D:=fw 5 2 fX
noncomputable def gV:DS:=
 (Le 4 (aG fC (a5 (vE 0) (a5 (vE 2) (a5 (vE 5) aq)))))
noncomputable def nT:DS:=
 (aE (aQ 2 (ixE (vE 1) (kE (.int 0))))
 (aE (aQ 3 (ixE (vE 1) (kE (.int 1))))
 (aE (aQ 4 (opE aP (opE aP (aG fV (a5 (vE 0) (a5 (vE 2) (a5 (vE 3) aq)))) (aG fW (a5 (vE 0) (a5 (vE 3) aq)))) (aG dW (a5 (vE 0) (a5 (vE 3) aq)))))
 (aE (i8 (some 3) (kR (vE 3)) (gN 5)
  gV)
 (retS (dS iR (a5 (vE 4) aq)))))))
noncomputable def lA:List D→Option D:=fw 6 2 nT
noncomputable def ao:DS:=
 (aE (aQ 3 (kE (.int 0)))
 (aE (ifS (b9 gtB (dS cB (a5 (vE 0) aq)) (kE (.int 0)))
  (aQ 3 (opE qv (ixE (vE 0) (opE qv (vE 1) (dS cB (a5 (vE 0) aq)))) (kE (.int 1000003))))
  bg)
 (retS (opE qv (opE mw (opE qv (opE dA (opE qv (opE dA (opE aP (vE 3) (kE (.int 1))) (opE aP (opE aP (opE dA (vE 1) (vE 1)) (vE 1)) (kE (.int 41)))) (kE (.int 999983))) (kE (.int 48271))) (kE (.int 2147483647))) (kE (.int 11))) (vE 2)))))
noncomputable def a9:List D→Option D:=fw 4 3 ao
noncomputable def fD:DS:=
 (aE (aQ 6 (opE aP (opE aP (vE 1) (kE (.int 1))) (opE dA (kE (.int 4)) (vE 5))))
 (aE (aQ 7 (opE dA (vE 3) (opE aP (kE (.int 1)) (aG a9 (a5 (vE 0) (a5 (vE 6) (a5 (kE (.int 30)) aq)))))))
 (aE (aQ 8 (aG a9 (a5 (vE 0) (a5 (opE aP (vE 6) (kE (.int 2))) (a5 (kE (.int 3)) aq)))))
 (aE (ifS (b9 eqB (vE 8) (kE (.int 0)))
  (kS 4 (bQ (a5 (kE (.str "flat")) (a5 (vE 7) (a5 (opE dA (vE 2) (opE aP (kE (.int 1)) (aG a9 (a5 (vE 0) (a5 (opE aP (vE 6) (kE (.int 1))) (a5 (kE (.int 30)) aq)))))) aq)))))
  bg)
 (aE (ifS (b9 eqB (vE 8) (kE (.int 1)))
  (aE (aQ 9 (opE dA (vE 2) (opE aP (kE (.int 1)) (aG a9 (a5 (vE 0) (a5 (opE aP (vE 6) (kE (.int 1))) (a5 (kE (.int 9)) aq)))))))
 (kS 4 (bQ (a5 (kE (.str "kilo")) (a5 (vE 7) (a5 (vE 9) (a5 (opE aP (kE (.int 1)) (aG a9 (a5 (vE 0) (a5 (opE aP (vE 6) (kE (.int 3))) (a5 (kE (.int 40)) aq))))) aq)))))))
  bg)
 (ifS (b9 eqB (vE 8) (kE (.int 2)))
  (kS 4 (bQ (a5 (kE (.str "ever")) (a5 (opE dA (vE 2) (opE aP (kE (.int 2)) (aG a9 (a5 (vE 0) (a5 (opE aP (vE 6) (kE (.int 1))) (a5 (kE (.int 60)) aq)))))) aq))))
  bg))))))
noncomputable def kb:DS:=
 (aE (aQ 4 (gk aq))
 (aE (i8 none (gz (ixE (gk (a5 (kE (.int 0)) (a5 (kE (.int 1)) (a5 (kE (.int 1)) (a5 (kE (.int 2)) (a5 (kE (.int 3)) (a5 (kE (.int 4)) aq))))))) (aG a9 (a5 (vE 0) (a5 (vE 1) (a5 (kE (.int 6)) aq)))))) (gN 5)
  fD)
 (retS (dS iN (a5 (vE 4) aq)))))
noncomputable def j6:List D→Option D:=fw 10 4 kb
noncomputable def cK:DS:=
 (aE (aQ 4 (opE aP (kE (.int 100)) (opE dA (kE (.int 30)) (vE 3))))
 (aE (aQ 5 (ixE (gk (a5 (kE (.int 1)) (a5 (kE (.int 2)) (a5 (kE (.int 5)) (a5 (kE (.int 12)) (a5 (opE oD (kE (.int 10)) (kE (.int 5))) aq)))))) (aG a9 (a5 (vE 0) (a5 (vE 4) (a5 (kE (.int 5)) aq))))))
 (aE (aQ 6 (ixE (gk (a5 (bQ (a5 (vE 5) aq)) (a5 (bQ (a5 (vE 5) (a5 (opE dA (kE (.int 2)) (vE 5)) aq))) (a5 (bQ (a5 (vE 5) (a5 (opE dA (kE (.int 3)) (vE 5)) (a5 (opE dA (kE (.int 7)) (vE 5)) aq)))) aq)))) (aG a9 (a5 (vE 0) (a5 (opE aP (vE 4) (kE (.int 1))) (a5 (kE (.int 3)) aq))))))
 (aE (aQ 7 (opE dA (ixE (gk (a5 (kE (.int 0)) (a5 (vE 1) aq))) (aG a9 (a5 (vE 0) (a5 (opE aP (vE 4) (kE (.int 2))) (a5 (kE (.int 2)) aq))))) (aG a9 (a5 (vE 0) (a5 (opE aP (vE 4) (kE (.int 3))) (a5 (kE (.int 20)) aq))))))
 (kS 2 (bQ (a5 (opE aP (kE (.str "stuff")) (ixE (kE (.str "abcdef")) (vE 3))) (a5 (vE 6) (a5 (aG j6 (a5 (vE 0) (a5 (opE aP (vE 4) (kE (.int 5))) (a5 (vE 5) (a5 (vE 1) aq))))) (a5 (vE 7) aq))))))))))
noncomputable def iq:DS:=
 (aE (aQ 2 (gk aq))
 (aE (i8 none (gz (ixE (gk (a5 (kE (.int 1)) (a5 (kE (.int 2)) (a5 (kE (.int 3)) (a5 (kE (.int 3)) (a5 (kE (.int 2)) (a5 (kE (.int 6)) aq))))))) (aG a9 (a5 (vE 0) (a5 (kE (.int 21)) (a5 (kE (.int 6)) aq)))))) (gN 3)
  cK)
 (retS (dS iN (a5 (vE 2) aq)))))
noncomputable def fY:List D→Option D:=fw 8 2 iq
noncomputable def fE:DS:=
 (aE (aQ 6 (opE aP (opE aP (kE (.int 3000)) (opE dA (kE (.int 18)) (vE 4))) (opE dA (kE (.int 3)) (vE 5))))
 (ifS (kP (b9 ltB (dS cB (a5 (vE 3) aq)) (kE (.int 12))) (b9 eqB (aG a9 (a5 (vE 0) (a5 (vE 6) (a5 (kE (.int 3)) aq)))) (kE (.int 0))))
  (aE (aQ 7 (bQ (a5 (vE 4) (a5 (vE 5) (a5 (opE dA (vE 2) (opE aP (kE (.int 1)) (aG a9 (a5 (vE 0) (a5 (opE aP (vE 6) (kE (.int 1))) (a5 (kE (.int 10)) aq)))))) aq)))))
 (LM 3 (aG a9 (a5 (vE 0) (a5 (opE aP (vE 6) (kE (.int 2))) (a5 (opE aP (dS cB (a5 (vE 3) aq)) (kE (.int 1))) aq)))) (vE 7)))
  bg))
noncomputable def fF:DS:=
 (i8 none (B3 (vE 4) (vE 1)) (gN 5)
  fE)
noncomputable def kc:DS:=
 (aE (aQ 3 (gk aq))
 (aE (i8 none (gz (vE 1)) (gN 4)
  fF)
 (retS (dS iN (a5 (vE 3) aq)))))
noncomputable def j7:List D→Option D:=fw 8 3 kc
noncomputable def j8:DS:=
 (aE (ifS (b9 eqB (aG a9 (a5 (vE 0) (a5 (vE 1) (a5 (kE (.int 3)) aq)))) (kE (.int 0)))
  (retS (bQ (a5 (kE (.str "asked")) (a5 (opE dA (vE 2) (aG a9 (a5 (vE 0) (a5 (opE aP (vE 1) (kE (.int 1))) (a5 (kE (.int 20)) aq))))) aq))))
  bg)
 (aE (aQ 3 (opE dA (vE 2) (opE aP (kE (.int 1)) (aG a9 (a5 (vE 0) (a5 (opE aP (vE 1) (kE (.int 2))) (a5 (kE (.int 12)) aq)))))))
 (aE (aQ 4 (opE dA (vE 2) (aG a9 (a5 (vE 0) (a5 (opE aP (vE 1) (kE (.int 3))) (a5 (opE mw (vE 3) (vE 2)) aq))))))
 (aE (aQ 5 (opE dA (vE 2) (aG a9 (a5 (vE 0) (a5 (opE aP (vE 1) (kE (.int 4))) (a5 (opE mw (opE kI (vE 3) (vE 4)) (vE 2)) aq))))))
 (aE (aQ 6 (opE aP (vE 4) (opE dA (vE 2) (aG a9 (a5 (vE 0) (a5 (opE aP (vE 1) (kE (.int 5))) (a5 (kE (.int 10)) aq)))))))
 (retS (bQ (a5 (kE (.str "due")) (a5 (vE 6) (a5 (vE 3) (a5 (ixE (gk (a5 (kE (.int 1)) (a5 (kE (.int 2)) (a5 (kE (.int 4)) (a5 (kE (.int 6)) (a5 (kE (.int 60)) aq)))))) (aG a9 (a5 (vE 0) (a5 (opE aP (vE 1) (kE (.int 6))) (a5 (kE (.int 5)) aq))))) (a5 (vE 4) (a5 (vE 5) aq)))))))))))))
noncomputable def j9:List D→Option D:=fw 7 3 j8
noncomputable def dX:DS:=
 (kS 2 (bQ (a5 (opE aP (kE (.str "guest")) (ixE (kE (.str "abcdef")) (vE 3))) (a5 (opE dA (vE 1) (aG a9 (a5 (vE 0) (a5 (opE aP (kE (.int 30)) (vE 3)) (a5 (kE (.int 15)) aq))))) aq))))
noncomputable def cX:DS:=
 (aE (aQ 7 (opE aP (kE (.int 300)) (opE dA (kE (.int 20)) (vE 6))))
 (aE (aQ 8 (aG a9 (a5 (vE 0) (a5 (vE 7) (a5 (dS cB (a5 (vE 4) aq)) aq)))))
 (aE (aQ 9 (opE dA (ixE (ixE (ixE (vE 4) (vE 8)) (kE (.int 1))) (kE (.int 0))) (ixE (gk (a5 (kE (.int 4)) (a5 (kE (.int 15)) (a5 (kE (.int 2000)) aq)))) (aG a9 (a5 (vE 0) (a5 (opE aP (vE 7) (kE (.int 1))) (a5 (kE (.int 3)) aq)))))))
 (aE (aQ 10 (bQ (a5 (ixE (gk (a5 (kE (.str "down")) (a5 (kE (.str "up")) (a5 (kE (.str "near")) aq)))) (opE qv (vE 6) (kE (.int 3)))) (a5 (opE aP (kE (.int 1)) (aG a9 (a5 (vE 0) (a5 (opE aP (vE 7) (kE (.int 2))) (a5 (kE (.int 90)) aq))))) (a5 (aG a9 (a5 (vE 0) (a5 (opE aP (vE 7) (kE (.int 3))) (a5 (kE (.int 9)) aq)))) (a5 (vE 9) aq))))))
 (aE (aQ 11 (aG j9 (a5 (vE 0) (a5 (opE aP (vE 7) (kE (.int 4))) (a5 (vE 1) aq)))))
 (aE (aQ 12 (bQ aq))
 (aE (ifS (kP (b9 eqB (ixE (vE 11) (kE (.int 0))) (kE (.str "due"))) (b9 gtB (ixE (vE 11) (kE (.int 3))) (kE (.int 2))))
  (aQ 12 (bQ (a5 (bQ (a5 (kE (.int 1)) (a5 (kE (.int 1)) (a5 (kE (.int 2)) aq)))) (a5 (bQ (a5 (kE (.int 2)) (a5 (kE (.int 1)) (a5 (kE (.int 3)) aq)))) aq))))
  bg)
 (kS 5 (bQ (a5 (opE aP (kE (.str "order")) (ixE (kE (.str "abcdefghijkl")) (vE 6))) (a5 (aG a9 (a5 (vE 0) (a5 (opE aP (vE 7) (kE (.int 12))) (a5 (dS cB (a5 (vE 2) aq)) aq)))) (a5 (vE 8) (a5 (vE 10) (a5 (vE 11) (a5 (vE 12) aq)))))))))))))))
noncomputable def jq:DS:=
 (aE (aQ 1 (ixE (gk (a5 (kE (.int 1)) (a5 (kE (.int 1)) (a5 (kE (.int 1)) (a5 (kE (.int 1)) (a5 (kE (.int 1)) (a5 (opE oD (kE (.int 10)) (kE (.int 6))) aq))))))) (aG a9 (a5 (vE 0) (a5 (kE (.int 1)) (a5 (kE (.int 6)) aq))))))
 (aE (aQ 2 (gk aq))
 (aE (i8 none (gz (ixE (gk (a5 (kE (.int 1)) (a5 (kE (.int 2)) (a5 (kE (.int 3)) (a5 (kE (.int 2)) (a5 (kE (.int 3)) (a5 (kE (.int 6)) aq))))))) (aG a9 (a5 (vE 0) (a5 (kE (.int 20)) (a5 (kE (.int 6)) aq)))))) (gN 3)
  dX)
 (aE (aQ 4 (aG fY (a5 (vE 0) (a5 (vE 1) aq))))
 (aE (aQ 5 (gk aq))
 (aE (i8 none (gz (ixE (gk (a5 (kE (.int 1)) (a5 (kE (.int 2)) (a5 (kE (.int 3)) (a5 (kE (.int 4)) (a5 (kE (.int 4)) (a5 (kE (.int 12)) aq))))))) (aG a9 (a5 (vE 0) (a5 (kE (.int 22)) (a5 (kE (.int 6)) aq)))))) (gN 6)
  cX)
 (retS (bQ (a5 (dS iN (a5 (vE 2) aq)) (a5 (vE 4) (a5 (aG j7 (a5 (vE 0) (a5 (dS cB (a5 (vE 4) aq)) (a5 (vE 1) aq)))) (a5 (dS iN (a5 (vE 5) aq)) aq))))))))))))
noncomputable def gW:List D→Option D:=fw 13 1 jq
noncomputable def kf:DS:=
 (aE (aQ 4 (ixE (gk (a5 (kE (.int 1)) (a5 (kE (.int 1)) (a5 (kE (.int 1)) (a5 (kE (.int 1)) (a5 (kE (.int 1)) (a5 (opE oD (kE (.int 10)) (kE (.int 6))) aq))))))) (aG a9 (a5 (vE 0) (a5 (kE (.int 1)) (a5 (kE (.int 6)) aq))))))
 (aE (aQ 5 (ixE (ixE (ixE (vE 1) (kE (.int 3))) (vE 2)) (kE (.int 4))))
 (aE (aQ 6 (opE dA (vE 4) (aG a9 (a5 (vE 0) (a5 (vE 3) (a5 (kE (.int 70)) aq))))))
 (aE (ifS (kP (b9 eqB (ixE (vE 5) (kE (.int 0))) (kE (.str "due"))) (b9 gtB (aG a9 (a5 (vE 0) (a5 (opE aP (vE 3) (kE (.int 3000))) (a5 (kE (.int 4)) aq)))) (kE (.int 0))))
  (aE (aQ 7 (opE aP (ixE (vE 5) (kE (.int 1))) (opE dA (aG a9 (a5 (vE 0) (a5 (vE 3) (a5 (dS nE (a5 (ixE (vE 5) (kE (.int 3))) (a5 (kE (.int 6)) aq))) aq)))) (ixE (vE 5) (kE (.int 2))))))
 (aE (aQ 8 (gk (a5 (vE 7) (a5 (opE kI (vE 7) (ixE (vE 5) (kE (.int 4)))) (a5 (opE aP (vE 7) (ixE (vE 5) (kE (.int 5)))) (a5 (opE kI (opE kI (vE 7) (ixE (vE 5) (kE (.int 4)))) (kE (.int 1))) (a5 (opE aP (opE aP (vE 7) (ixE (vE 5) (kE (.int 5)))) (kE (.int 1))) (a5 (vE 7) aq))))))))
 (aQ 6 (dS sR (a5 (kE (.int 0)) (a5 (ixE (vE 8) (aG a9 (a5 (vE 0) (a5 (opE aP (vE 3) (kE (.int 4000))) (a5 (kE (.int 6)) aq))))) aq))))))
  bg)
 (aE (ifS (b9 eqB (aG a9 (a5 (vE 0) (a5 (opE aP (vE 3) (kE (.int 5000))) (a5 (kE (.int 12)) aq)))) (kE (.int 0)))
  (aQ 6 (opE aP (vE 6) (kE (.int 1))))
  bg)
 (aE (ifS (b9 eqB (aG a9 (a5 (vE 0) (a5 (opE aP (vE 3) (kE (.int 5500))) (a5 (kE (.int 25)) aq)))) (kE (.int 0)))
  (aQ 6 (opE oD (kE (.int 10)) (kE (.int 9))))
  bg)
 (retS (vE 6))))))))
noncomputable def ja:List D→Option D:=fw 9 4 kf
noncomputable def iz:DS:=
 (aE (aQ 4 (ixE (ixE (ixE (ixE (vE 1) (kE (.int 1))) (ixE (ixE (ixE (vE 1) (kE (.int 3))) (vE 2)) (kE (.int 2)))) (kE (.int 1))) (kE (.int 0))))
 (aE (aQ 5 (opE dA (vE 4) (opE aP (kE (.int 1)) (aG a9 (a5 (vE 0) (a5 (opE aP (vE 3) (kE (.int 6000))) (a5 (kE (.int 8)) aq)))))))
 (aE (aQ 6 (gk (a5 (kE (.int 0)) (a5 (unE C9 (vE 5)) (a5 (opE aP (vE 5) (kE (.int 1))) (a5 (opE oD (kE (.int 10)) (kE (.int 9))) (a5 (opE dA (vE 4) (kE (.int 2001))) (a5 (unE C9 (kE (.int 1))) aq))))))))
 (aE (ifS (b9 eqB (aG a9 (a5 (vE 0) (a5 (opE aP (vE 3) (kE (.int 7000))) (a5 (kE (.int 14)) aq)))) (kE (.int 0)))
  (retS (ixE (vE 6) (aG a9 (a5 (vE 0) (a5 (opE aP (vE 3) (kE (.int 8000))) (a5 (kE (.int 6)) aq))))))
  bg)
 (retS (vE 5))))))
noncomputable def fh:List D→Option D:=fw 7 4 iz
noncomputable def cw:DS:=
 (aE (aQ 6 (bQ (a5 (aG a9 (a5 (vE 0) (a5 (opE aP (kE (.int 900)) (vE 5)) (a5 (dS cB (a5 (ixE (vE 1) (kE (.int 0))) aq)) aq)))) (a5 (opE dA (vE 3) (aG a9 (a5 (vE 0) (a5 (opE aP (kE (.int 920)) (vE 5)) (a5 (kE (.int 50)) aq))))) aq))))
 (aE (ifS (kP (b9 ltB (vE 5) (dS cB (a5 (ixE (vE 1) (kE (.int 0))) aq))) (b9 eqB (aG a9 (a5 (vE 0) (a5 (kE (.int 980)) (a5 (kE (.int 2)) aq)))) (kE (.int 0))))
  (aQ 6 (bQ (a5 (vE 5) (a5 (kE (.int 0)) aq))))
  bg)
 (vc 4 (vE 6) (ixE (gk (a5 (opE aP (kE (.int 1)) (aG a9 (a5 (vE 0) (a5 (opE aP (kE (.int 940)) (vE 5)) (a5 (kE (.int 200)) aq))))) (a5 (opE oD (kE (.int 10)) (kE (.int 6))) aq))) (opE mw (aG a9 (a5 (vE 0) (a5 (opE aP (kE (.int 960)) (vE 5)) (a5 (kE (.int 8)) aq)))) (kE (.int 7)))))))
noncomputable def gE:DS:=
 (aE (aQ 3 (ixE (gk (a5 (kE (.int 1)) (a5 (kE (.int 1)) (a5 (kE (.int 1)) (a5 (kE (.int 1)) (a5 (kE (.int 1)) (a5 (opE oD (kE (.int 10)) (kE (.int 6))) aq))))))) (aG a9 (a5 (vE 0) (a5 (kE (.int 1)) (a5 (kE (.int 6)) aq))))))
 (aE (aQ 4 (qz))
 (aE (i8 none (gz (vE 2)) (gN 5)
  cw)
 (retS (dS iN (a5 (dS sortedS (a5 (oF bL 4 2 [] (gT [0,1]) iQ (bQ (a5 (ixE (vE 0) (kE (.int 0))) (a5 (ixE (vE 0) (kE (.int 1))) (a5 (vE 1) aq))))) aq)) aq))))))
noncomputable def fG:List D→Option D:=fw 7 3 gE
noncomputable def cx:DS:=
 (aE (aQ 5 (aG a9 (a5 (vE 0) (a5 (opE aP (kE (.int 1000)) (vE 4)) (a5 (dS cB (a5 (ixE (vE 1) (kE (.int 3))) aq)) aq)))))
 (aE (aQ 6 (bQ (a5 (vE 5) (a5 (aG ja (a5 (vE 0) (a5 (vE 1) (a5 (vE 5) (a5 (opE aP (kE (.int 1100)) (vE 4)) aq))))) aq))))
 (aE (vc 3 (vE 6) (aG fh (a5 (vE 0) (a5 (vE 1) (a5 (vE 5) (a5 (opE aP (kE (.int 1100)) (vE 4)) aq))))))
 (ifS (b9 eqB (aG a9 (a5 (vE 0) (a5 (opE aP (kE (.int 1050)) (vE 4)) (a5 (kE (.int 40)) aq)))) (kE (.int 0)))
  (vc 3 (vE 6) (opE aP (opE oD (kE (.int 10)) (kE (.int 40))) (vE 4)))
  bg))))
noncomputable def gF:DS:=
 (aE (aQ 3 (qz))
 (aE (i8 none (gz (vE 2)) (gN 4)
  cx)
 (retS (dS iN (a5 (dS sortedS (a5 (oF bL 3 2 [] (gT [0,1]) iQ (bQ (a5 (ixE (vE 0) (kE (.int 0))) (a5 (ixE (vE 0) (kE (.int 1))) (a5 (vE 1) aq))))) aq)) aq)))))
noncomputable def fH:List D→Option D:=fw 7 3 gF
noncomputable def cy:DS:=
 (aE (aQ 7 (opE kI (opE aP (ixE (vE 4) (kE (.int 1))) (opE dA (vE 6) (ixE (vE 4) (kE (.int 2))))) (ixE (vE 4) (kE (.int 4)))))
 (aE (aQ 8 (opE aP (opE aP (ixE (vE 4) (kE (.int 1))) (opE dA (vE 6) (ixE (vE 4) (kE (.int 2))))) (ixE (vE 4) (kE (.int 5)))))
 (ifS (b9 gtB (dS cB (a5 (kT (some 5) 1 [7,8] (kR (vE 5)) (gN 0) (kP (b9 leB (vE 1) (vE 0)) (b9 leB (vE 0) (vE 2))) (vE 0)) aq)) (kE (.int 1)))
  (kS 2 (bQ (a5 (kE (.str "twice")) (a5 (vE 3) (a5 (vE 6) aq)))))
  bg)))
noncomputable def bA:DS:=
 (aE (aQ 4 (ixE (ixE (ixE (vE 0) (kE (.int 3))) (vE 3)) (kE (.int 4))))
 (ifS (b9 eqB (ixE (vE 4) (kE (.int 0))) (kE (.str "due")))
  (aE (aQ 5 (kT none 1 [3] (kR (ixE (vE 1) (kE (.int 1)))) (gN 0) (b9 eqB (ixE (vE 0) (kE (.int 0))) (vE 1)) (ixE (vE 0) (kE (.int 1)))))
 (i8 none (gz (ixE (vE 4) (kE (.int 3)))) (gN 6)
  cy))
  bg))
noncomputable def gG:DS:=
 (aE (aQ 2 (gk aq))
 (aE (i8 none (gz (dS cB (a5 (ixE (vE 0) (kE (.int 3))) aq))) (gN 3)
  bA)
 (retS (vE 2))))
noncomputable def fI:List D→Option D:=fw 9 2 gG
noncomputable def jr:DS:=
 (retS (bE (kP (Ca "int" (vE 0)) (u3 (Ca "bool" (vE 0))))))
noncomputable def js:List D→Option D:=fw 1 1 jr
noncomputable def dE:DS:=
 (ifS (u3 (va (aG js (a5 (vE 2) aq))))
  (retS (kE (.bl false)))
  bg)
noncomputable def fJ:DS:=
 (aE (ifS (orT (u3 (va (bE (Ca "tuple" (vE 1))))) (orT (b9 ltB (dS cB (a5 (vE 1) aq)) (kE (.int 3))) (u3 (va (bE (Ca "str" (ixE (vE 1) (kE (.int 0)))))))))
  (retS (kE (.bl false)))
  bg)
 (i8 none (kR (slE (vE 1) (Dx (kE (.int 1))) noO)) (gN 2)
  dE))
noncomputable def iA:DS:=
 (aE (ifS (u3 (va (bE (Ca "list" (vE 0)))))
  (retS (kE (.bl false)))
  bg)
 (aE (i8 (some 0) (kR (vE 0)) (gN 1)
  fJ)
 (retS (kE (.bl true)))))
noncomputable def fZ:List D→Option D:=fw 3 1 iA
noncomputable def EO:DS:=
 (aE (aQ 1 (aG gW (a5 (vE 0) aq)))
 (aE (aQ 2 (aG fG (a5 (vE 0) (a5 (vE 1) (a5 (aG a9 (a5 (vE 0) (a5 (kE (.int 11)) (a5 (kE (.int 9)) aq)))) aq)))))
 (aE (aQ 3 (bQ (a5 (vE 2) (a5 (aG fH (a5 (vE 0) (a5 (vE 1) (a5 (opE aP (dS nE (a5 (dS cB (a5 (vE 0) aq)) (a5 (kE (.int 30)) aq))) (aG a9 (a5 (vE 0) (a5 (kE (.int 12)) (a5 (kE (.int 4)) aq))))) aq)))) aq))))
 (aE (aQ 4 (aG lA (a5 (vE 1) (a5 (vE 3) aq))))
 (aE (ifS (u3 (va (aG fZ (a5 (vE 4) aq))))
  (retS (kE (.bl false)))
  bg)
 (retS (bE (b9 eqB (kT (some 4) 1 [] (kR (vE 4)) (gN 0) (b9 eqB (ixE (vE 0) (kE (.int 0))) (kE (.str "twice"))) (vE 0)) (aG fI (a5 (vE 1) (a5 (vE 3) aq)))))))))))
noncomputable def qX:List D→Option D:=fw 5 1 EO
end Den
namespace Maths
open DL Den PySem
noncomputable def cell(ns:List Int)(k:Int):Int:=if ns.length=0 then 0 else ns[(k%ns.length).toNat]?.getD 0%1000003
noncomputable def draw(ns:List Int)(k m:Int):Int:=(cell ns k+1)*(k*k+k+41)%999983*48271%2147483647/11%m
theorem Hh(ns:List Int)(k:Int):0≤cell ns k∧cell ns k<1000003:=by
 unfold cell
 split
 ·omega
 ·exact⟨Int.emod_nonneg _ (by omega),GdB _ (by omega)⟩
theorem aV(ns:List Int)(k m:Int)(hm:0<m):0≤draw ns k m∧draw ns k m<m:=⟨Int.emod_nonneg _ (by omega),GdB _ hm⟩
theorem Hj{ns:List Int}{k:Int}(h:0<ns.length):atD ns (k%ns.length)=some (ns[(k%ns.length).toNat]?.getD 0):=by
 unfold atD
 have h1:0≤k%(ns.length:Int):=Int.emod_nonneg _ (by omega)
 have h2:k%(ns.length:Int)<ns.length:=GdB _ (by omega)
 rw[Gah h1]
 have h3:(k%(ns.length:Int)).toNat<ns.length:=by omega
 simp[h3]
theorem bR{i j:Int}(h: -18446744073709551616<i)(h2:i<18446744073709551616):cf i j=true:=by
 unfold cf
 rw[Gbd]
 exact .inl (GaF (by omega))
theorem nU{i j:Int}(h: -18446744073709551616<j)(h2:j<18446744073709551616):cf i j=true:=by
 unfold cf
 rw[Gbd]
 exact .inr (GaF (by omega))
theorem aO{ns:List Int}{k m:Int}(hk:0≤k)(hk2:k<1000000)(hm:0<m):a9 [.scr ns,.int k,.int m]=some (.int (draw ns k m)):=by
 have c:=Hh ns k
 have e1:cf k k=true:=bR (by omega) (by omega)
 have e2:∀j,cf (cell ns k+1) j=true:=λj=>bR (by omega) (by omega)
 have e3:∀i,cf i 48271=true:=λi=>nU (by omega) (by omega)
 unfold a9 ao
 by_cases h:0<ns.length
 ·have hc:cell ns k=ns[(k%ns.length).toNat]?.getD 0%1000003:=by unfold cell;rw[Gag (by omega)]
  have h' :(0:Int)<ns.length:=by omega
  simp[h,h',Hj h,e1,e3,hm,←hc]
  simp[e2,e3,hm,draw]
 ·have hc:cell ns k=0:=by unfold cell;rw[Gah (by omega)]
  have h' :¬(0:Int)<ns.length:=by omega
  simp[h,h',e1,e3,hm]
  have:=e2 (k*k+k+41)
  rw[hc] at this
  simp at this
  simp[this,e3,hm,draw,hc]
theorem bZ{i:Int}(h1: -4611686018427387904≤i)(h2:i<4611686018427387904):bU i=true:=by
 unfold bU
 rw[Gas]
 exact⟨GaF h1,GaF h2⟩
theorem fj{g:DG}{body:DS}(I:Nat→DL.Env→Prop):∀(ds:List D) (k:Nat) (env:DL.Env),I k env→(∀(i:Nat) d e,ds[i]? =some d→I (k+i) e→∃e1 e2,g d e=some e1∧body e1=some (.nx e2)∧I (k+i+1) e2)→∃e,forL g body ds env=some (.nx e)∧I (k+ds.length) e
 |[],k,env,h,_=> ⟨env,rfl,h⟩
 |d::ds,k,env,h,st=>by
  obtain⟨e1,e2,h1,h2,h3⟩:=st 0 d env rfl h
  obtain⟨e,h4,h5⟩:=fj I ds (k+1) e2 h3 λi d' e' hd hI=>by
   have:=st (i+1) d' e' (by simpa using hd) (by rw[show k+(i+1)=k+1+i by omega];exact hI)
   rw[show k+(i+1)+1=k+1+i+1 by omega] at this
   exact this
  refine⟨e,by simp[forL,h1,h2,h4], ?_⟩
  rw[show k+(d::ds).length=k+1+ds.length by simp;omega]
  exact h5
theorem cQ{lo:Int}{n i:Nat}{d:D}(h:(bx lo n)[i]? =some d):i<n∧d= .int (lo+i):=by
 unfold bx at h
 rw[Gan] at h
 by_cases hi:i<n
 ·rw[List.getElem?_range hi] at h;cases h;exact⟨hi,rfl⟩
 ·rw[Gbn (by simp;omega)] at h;cases h
theorem dY{lo:Int}{n:Nat}:(bx lo n).length=n:=by simp[bx]
theorem iL{α:Type}{g:DG}{t:DT}{f:DE}(emb:α→D)(C:DL.Env→Prop)(p:α→Bool)(r:α→D):∀(xs:List α) (e:DL.Env),C e→
  (∀x∈xs,∀e,C e→∃e',g (emb x) e=some e' ∧C e' ∧t e' =some (p x)∧(p x=true→∃k,f e' =some ⟨k,r x⟩∧RV.free ⟨k,r x⟩=true))→bH g t f (xs.map emb) e=some ((xs.filter p).map r)
 |[],e,_,_=>rfl
 |d::ds,e,h,st=>by
  obtain⟨e',h1,h2,h3,h4⟩:=st d Gap e h
  have ih:=iL emb C p r ds e' h2 λd' hd=>st d' (Gaj _ hd)
  cases q:p d with
  |false=>simp[bH,h1,h3,q,ih]
  |true=>
   obtain⟨k,h5,h6⟩:=h4 q
   simp[bH,h1,h3,q,h5,h6,ih]
theorem jS{α:Type}{g:DG}{f:DE}(emb:α→D)(C:DL.Env→Prop)(r:α→D)(xs:List α)(e:DL.Env)(h:C e)
  (st:∀x∈xs,∀e,C e→∃e',g (emb x) e=some e' ∧C e' ∧∃k,f e' =some ⟨k,r x⟩∧RV.free ⟨k,r x⟩=true):bH g iQ f (xs.map emb) e=some (xs.map r):=by
 have:=iL (g:=g) (t:=iQ) (f:=f) emb C (λ_=>true) r xs e h (λx hx e he=>by
  obtain⟨e',h1,h2,h3⟩:=st x hx e he
  exact⟨e',h1,h2,rfl,λ_=>h3⟩)
 rw[List.filter_eq_self.mpr λ_ _=>rfl] at this
 exact this
theorem CF(bs:List Bool):u4 (bs.map D.bl)=some bs:=by
 induction bs with
 |nil=>rfl
 |cons b bs ih=>simp[ih]
theorem CG(bs:List Int):B1 (bs.map D.int)=some bs:=by
 induction bs with
 |nil=>rfl
 |cons b bs ih=>simp[ih]
@[simp] theorem Mi(bs:List Bool):anyS [.lst (bs.map D.bl)]=some ⟨.c,.bl (bs.any id)⟩:=by
 simp[anyS,one,mz,CF]
theorem ER(hs:List Int):kO (hs.map D.int) (hs.map D.int)=true:=by
 induction hs with
 |nil=>rfl
 |cons b bs ih=>simp[ih]
theorem Aw(n:Nat)(hs:List Int):(hs.map D.int).all (ay n)=true:=by
 induction hs with
 |nil=>rfl
 |cons b bs ih=>simp[ih]
theorem nV(hs:List Int):aN (hs.map D.int)=true:=by
 induction hs with
 |nil=>rfl
 |cons b bs ih=>simp[ih]
theorem av{f g:DS}{env e:DL.Env}(h:f env=some (.nx e)):aE f g env=g e:=by simp[aE,h]
theorem Bw{f g:DS}{env:DL.Env}{d:D}(h:f env=some (.ret d)):aE f g env=some (.ret d):=by simp[aE,h]
theorem bh{n np:Nat}{body:DS}{ds:List D}{d:D}(hl:ds.length=np)(h:body (bz n ds)=some (.ret d)):fw n np body ds=some d:=by
 unfold fw;rw[Gah hl,h];rfl
theorem JK{t:DT}{f g:DS}{env:DL.Env}(h:t env=some true):ifS t f g env=f env:=by simp[ifS,h]
theorem ND{t:DT}{f g:DS}{env:DL.Env}(h:t env=some false):ifS t f g env=g env:=by simp[ifS,h]
inductive Cap where
 |flat (h t:Int)
 |kilo (h t p:Int)
 |ever (t:Int)
noncomputable def cY:Cap→D
 | .flat h t=> .tup [.str "flat",.int h,.int t]
 | .kilo h t p=> .tup [.str "kilo",.int h,.int t,.int p]
 | .ever t=> .tup [.str "ever",.int t]
noncomputable def pz:Cap→Prop
 | .flat h t=>1≤h∧1≤t∧t≤3100000
 | .kilo h t p=>1≤h∧1≤t∧t≤3100000∧1≤p∧p≤40
 | .ever t=>1≤t∧t≤6200000
theorem ES(c:Cap):(cY c).imm=true:=by cases c<;>simp[cY]
theorem qY(cs:List Cap):aN (cs.map cY)=true:=by
 induction cs with
 |nil=>rfl
 |cons c cs ih=>
  have:=ES c
  simp[this] at ih⊢
  exact ih
theorem oR{a b A B:Int}(h0:0≤a)(h1:a≤A)(h2:0≤b)(h3:b≤B):a*b≤A*B:=
 Int.le_trans (Int.mul_le_mul_of_nonneg_right h1 h2) (Int.mul_le_mul_of_nonneg_left h3 (by omega))
theorem gx{a b:Int}(h0:1≤a)(h1:1≤b):1≤a*b:=by
 have:=Int.mul_le_mul h0 h1 (by omega) (by omega)
 omega
theorem CH{ns:List Int}{k part scale c:Int}{cs:List Cap}{x6 x7 x8 x9:Option Slot}(hk:0≤k)(hk2:k<10000)(hp:1≤part)(hp2:part≤100000)(hs:1≤scale)(hs2:scale≤1000000)(hc:0≤c)(hc2:c≤10)(hl:cs.length≤100):
  ∃cap y6 y7 y8 y9,pz cap∧fD [some (.sh (.scr ns)),some (.sh (.int k)),some (.sh (.int part)),some (.sh (.int scale)),some (.own (.lst (cs.map cY))),some (.sh (.int c)),x6,x7,x8,x9]=
   some (.nx [some (.sh (.scr ns)),some (.sh (.int k)),some (.sh (.int part)),some (.sh (.int scale)),some (.own (.lst ((cs++[cap]).map cY))),some (.sh (.int c)),y6,y7,y8,y9]):=by
 have m4:cf 4 c=true:=bR (by omega) (by omega)
 generalize hat:k+1+4*c=t
 have ht:0≤t:=by omega
 have ht2:t<20000:=by omega
 have d0:=aO (ns:=ns) (k:=t) (m:=30) (by omega) (by omega) (by omega)
 have d2:=aO (ns:=ns) (k:=t+2) (m:=3) (by omega) (by omega) (by omega)
 have d1:=aO (ns:=ns) (k:=t+1) (m:=30) (by omega) (by omega) (by omega)
 have d1b:=aO (ns:=ns) (k:=t+1) (m:=9) (by omega) (by omega) (by omega)
 have d1c:=aO (ns:=ns) (k:=t+1) (m:=60) (by omega) (by omega) (by omega)
 have d3:=aO (ns:=ns) (k:=t+3) (m:=40) (by omega) (by omega) (by omega)
 have l0:=aV ns t 30 (by omega)
 have l2:=aV ns (t+2) 3 (by omega)
 have l1:=aV ns (t+1) 30 (by omega)
 have l1b:=aV ns (t+1) 9 (by omega)
 have l1c:=aV ns (t+1) 60 (by omega)
 have l3:=aV ns (t+3) 40 (by omega)
 have ms:∀j,cf scale j=true:=λj=>bR (by omega) (by omega)
 have mp:∀j,cf part j=true:=λj=>bR (by omega) (by omega)
 generalize draw ns t 30=q0 at*
 generalize draw ns (t+2) 3=q2 at*
 generalize draw ns (t+1) 30=q1 at*
 generalize draw ns (t+1) 9=q1b at*
 generalize draw ns (t+1) 60=q1c at*
 generalize draw ns (t+3) 40=q3 at*
 have hz:(cs.map cY).length<16777216:=by rw[Gae];omega
 have ih:=gx (a:=scale) (b:=1+q0) hs (by omega)
 have e1:∀cap,(cs++[cap]).map cY=cs.map cY++[cY cap]:=λcap=>by simp
 generalize cs.map cY=C at*
 have q:q2=0∨q2=1∨q2=2:=by omega
 unfold fD
 rcases q with rfl|rfl|rfl
 ·refine⟨.flat (scale*(1+q0)) (part*(1+q1)),some (.sh (.int t)),some (.sh (.int (scale*(1+q0)))),some (.sh (.int 0)),x9,⟨ih,gx hp (by omega), ?_⟩, ?_⟩
  ·have:=oR (a:=part) (b:=1+q1) (A:=100000) (B:=30) (by omega) hp2 (by omega) (by omega)
   omega
  ·rw[e1]
   simp[m4,hat,d0,d2,d1,ms,mp,ah,hz,cY]
 ·refine⟨.kilo (scale*(1+q0)) (part*(1+q1b)) (1+q3),some (.sh (.int t)),some (.sh (.int (scale*(1+q0)))),some (.sh (.int 1)),some (.sh (.int (part*(1+q1b)))),⟨ih,gx hp (by omega), ?_,by omega,by omega⟩, ?_⟩
  ·have:=oR (a:=part) (b:=1+q1b) (A:=100000) (B:=9) (by omega) hp2 (by omega) (by omega)
   omega
  ·rw[e1]
   simp[m4,hat,d0,d2,d1b,d3,ms,mp,ah,hz,cY]
 ·refine⟨.ever (part*(2+q1c)),some (.sh (.int t)),some (.sh (.int (scale*(1+q0)))),some (.sh (.int 2)),x9,⟨gx hp (by omega), ?_⟩, ?_⟩
  ·have:=oR (a:=part) (b:=2+q1c) (A:=100000) (B:=61) (by omega) hp2 (by omega) (by omega)
   omega
  ·rw[e1]
   simp[m4,hat,d0,d2,d1c,ms,mp,ah,hz,cY]
theorem at6{a b c d e f:Int}{q:Int}(h:0≤q)(h2:q<6):∃v,(v=a∨v=b∨v=c∨v=d∨v=e∨v=f)∧atD [D.int a,.int b,.int c,.int d,.int e,.int f] q=some (.int v):=by
 have:q=0∨q=1∨q=2∨q=3∨q=4∨q=5:=by omega
 rcases this with rfl|rfl|rfl|rfl|rfl|rfl
 ·exact⟨a,.inl rfl,rfl⟩
 ·exact⟨b,.inr (.inl rfl),rfl⟩
 ·exact⟨c,.inr (.inr (.inl rfl)),rfl⟩
 ·exact⟨d,.inr (.inr (.inr (.inl rfl))),rfl⟩
 ·exact⟨e,.inr (.inr (.inr (.inr (.inl rfl)))),rfl⟩
 ·exact⟨f,.inr (.inr (.inr (.inr (.inr rfl)))),rfl⟩
theorem ET{ns:List Int}{k part scale q n:Int}{C:List D}{y5 y6 y7 y8 y9:Option Slot}(d:a9 [.scr ns,.int k,.int 6]=some (.int q))(ea:atD [D.int 0,.int 1,.int 1,.int 2,.int 3,.int 4] q=some (.int n))(sm:bU n=true)
  (h1:forL (gN 5) fD (bx 0 n.toNat) [some (.sh (.scr ns)),some (.sh (.int k)),some (.sh (.int part)),some (.sh (.int scale)),some (.own (.lst [])),none,none,none,none,none]=some (.nx [some (.sh (.scr ns)),some (.sh (.int k)),some (.sh (.int part)),some (.sh (.int scale)),some (.own (.lst C)),y5,y6,y7,y8,y9]))(im:aN C=true):
  j6 [.scr ns,.int k,.int part,.int scale]=some (.tup C):=by
 refine bh rfl ?_
 unfold kb
 refine(av (e:=[some (.sh (.scr ns)),some (.sh (.int k)),some (.sh (.int part)),some (.sh (.int scale)),some (.own (.lst [])),none,none,none,none,none]) (by simp[bz,ah])).trans ?_
 refine(av (e:=[some (.sh (.scr ns)),some (.sh (.int k)),some (.sh (.int part)),some (.sh (.int scale)),some (.own (.lst C)),y5,y6,y7,y8,y9]) (by simp[-forL,d,ea,sm,h1,ah])).trans ?_
 simp[im]
theorem JL{ns:List Int}{k part scale:Int}(hk:0≤k)(hk2:k<10000)(hp:1≤part)(hp2:part≤100000)(hs:1≤scale)(hs2:scale≤1000000):∃cs:List Cap,cs.length≤4∧(∀c∈cs,pz c)∧j6 [.scr ns,.int k,.int part,.int scale]=some (.tup (cs.map cY)):=by
 have d:=aO (ns:=ns) (k:=k) (m:=6) (by omega) (by omega) (by omega)
 have l:=aV ns k 6 (by omega)
 generalize draw ns k 6=q at*
 obtain⟨n,hn,ea⟩:=at6 (a:=0) (b:=1) (c:=1) (d:=2) (e:=3) (f:=4) l.1 l.2
 obtain⟨e,h1,cs,y5,y6,y7,y8,y9,h2,h3,rfl⟩:=fj (g:=gN 5) (body:=fD) (λm env=>∃(cs:List Cap) (y5 y6 y7 y8 y9:Option Slot),cs.length=m∧(∀c∈cs,pz c)∧env=[some (.sh (.scr ns)),some (.sh (.int k)),some (.sh (.int part)),some (.sh (.int scale)),some (.own (.lst (cs.map cY))),y5,y6,y7,y8,y9]) (bx 0 n.toNat) 0
  [some (.sh (.scr ns)),some (.sh (.int k)),some (.sh (.int part)),some (.sh (.int scale)),some (.own (.lst [])),none,none,none,none,none] ⟨[],none,none,none,none,none,rfl,by simp,rfl⟩ (by
   rintro i d e hd ⟨cs,y5,y6,y7,y8,y9,h2,h3,rfl⟩
   obtain⟨hi,rfl⟩:=cQ hd
   obtain⟨cap,z6,z7,z8,z9,hc,h⟩:=CH (ns:=ns) (k:=k) (part:=part) (scale:=scale) (c:=0+(i:Int)) (cs:=cs) (x6:=y6) (x7:=y7) (x8:=y8) (x9:=y9) hk hk2 hp hp2 hs hs2 (by omega) (by omega) (by omega)
   refine⟨_,_,rfl,h,cs++[cap],some (.sh (.int (0+(i:Int)))),z6,z7,z8,z9,by simp[h2],λx hx=> ?_,rfl⟩
   rcases Gay.mp hx with hx|hx
   ·exact h3 x hx
   ·simp at hx;rw[hx];exact hc)
 rw[dY] at h2
 exact⟨cs,by omega,h3,ET d ea (bZ (by omega) (by omega)) h1 (qY cs)⟩
theorem cL{d:D}(h:d.imm=true):k5 d=⟨.c,d⟩:=by
 unfold k5
 have:d.top=false:=by cases d<;>simp[D.imm] at h<;>rfl
 rw[this];rfl
structure jt where
 name:Str
 part:Int
 more:List Int
 aR:List Cap
 young:Int
noncomputable def b4(s:jt):D:= .tup [.str s.name,.tup ((s.part::s.more).map .int),.tup (s.aR.map cY),.int s.young]
structure mh(s:jt):Prop where
 p1:1≤s.part
 p2:s.part≤100000
 cl:s.aR.length≤4
 ok:∀c∈s.aR,pz c
 y0:0≤s.young
theorem kg(s:jt):(b4 s).imm=true:=by
 have h1:=qY s.aR
 have h2:=nV (s.part::s.more)
 simp[b4] at h2⊢
 exact⟨h2,h1⟩
theorem g8{α:Type}{f:α→D}(h:∀a,(f a).imm=true):∀l:List α,aN (l.map f)=true
 |[]=>rfl
 |a::l=>by
  have h1:=h a
  have h2:=g8 h l
  rw[Gar]
  simp[h1,h2]
theorem EU{i:Nat}(h:i<6):∃c,atD (Str.ofString "abcdef").cps.toList (i:Int)=some c:=by
 match i,h with
 |0,_=>exact⟨_,rfl⟩
 |1,_=>exact⟨_,rfl⟩
 |2,_=>exact⟨_,rfl⟩
 |3,_=>exact⟨_,rfl⟩
 |4,_=>exact⟨_,rfl⟩
 |5,_=>exact⟨_,rfl⟩
theorem CI{i:Nat}(h:i<12):∃c,atD (Str.ofString "abcdefghijkl").cps.toList (i:Int)=some c:=by
 match i,h with
 |0,_=>exact⟨_,rfl⟩
 |1,_=>exact⟨_,rfl⟩
 |2,_=>exact⟨_,rfl⟩
 |3,_=>exact⟨_,rfl⟩
 |4,_=>exact⟨_,rfl⟩
 |5,_=>exact⟨_,rfl⟩
 |6,_=>exact⟨_,rfl⟩
 |7,_=>exact⟨_,rfl⟩
 |8,_=>exact⟨_,rfl⟩
 |9,_=>exact⟨_,rfl⟩
 |10,_=>exact⟨_,rfl⟩
 |11,_=>exact⟨_,rfl⟩
theorem at5{a b c d e:Int}{q:Int}(h:0≤q)(h2:q<5):∃v,(v=a∨v=b∨v=c∨v=d∨v=e)∧atD [D.int a,.int b,.int c,.int d,.int e] q=some (.int v):=by
 have:q=0∨q=1∨q=2∨q=3∨q=4:=by omega
 rcases this with rfl|rfl|rfl|rfl|rfl
 ·exact⟨a,.inl rfl,rfl⟩
 ·exact⟨b,.inr (.inl rfl),rfl⟩
 ·exact⟨c,.inr (.inr (.inl rfl)),rfl⟩
 ·exact⟨d,.inr (.inr (.inr (.inl rfl))),rfl⟩
 ·exact⟨e,.inr (.inr (.inr (.inr rfl))),rfl⟩
theorem at2{a b q:Int}(h:0≤q)(h2:q<2):∃v,(v=a∨v=b)∧atD [D.int a,.int b] q=some (.int v):=by
 have:q=0∨q=1:=by omega
 rcases this with rfl|rfl
 ·exact⟨a,.inl rfl,rfl⟩
 ·exact⟨b,.inr rfl,rfl⟩
theorem EV{p q:Int}(h:0≤q)(h2:q<3):∃ms:List Int,atD [D.tup [.int p],.tup [.int p,.int (2*p)],.tup [.int p,.int (3*p),.int (7*p)]] q=some (.tup ((p::ms).map .int)):=by
 have:q=0∨q=1∨q=2:=by omega
 rcases this with rfl|rfl|rfl
 ·exact⟨[],rfl⟩
 ·exact⟨[2*p],rfl⟩
 ·exact⟨[3*p,7*p],rfl⟩
theorem EW{ns:List Int}{scale j k part qa qb qc qd young y0:Int}{S C:List D}{sz:D}{ch:Nat}{x4 x5 x6 x7:Option Slot}(mk:cf 30 j=true)(hk:100+30*j=k)(da:a9 [.scr ns,.int k,.int 5]=some (.int qa))(pa:atD [D.int 1,.int 2,.int 5,.int 12,.int 100000] qa=some (.int part))(m2:cf 2 part=true)(m3:cf 3 part=true)(m7:cf 7 part=true)
  (db:a9 [.scr ns,.int (k+1),.int 3]=some (.int qb))(sb:atD [D.tup [.int part],.tup [.int part,.int (2*part)],.tup [.int part,.int (3*part),.int (7*part)]] qb=some sz)(isz:sz.imm=true)(dc:a9 [.scr ns,.int (k+2),.int 2]=some (.int qc))(yc:atD [D.int 0,.int scale] qc=some (.int y0))(dd:a9 [.scr ns,.int (k+3),.int 20]=some (.int qd))(my:cf y0 qd=true)(hy:y0*qd=young)
  (hch:atD (Str.ofString "abcdef").cps.toList j=some ch)(ec:j6 [.scr ns,.int (k+5),.int part,.int scale]=some (.tup C))(ic:aN C=true)(hz:S.length<1000):
  cK [some (.sh (.scr ns)),some (.sh (.int scale)),some (.own (.lst S)),some (.sh (.int j)),x4,x5,x6,x7]=some (.nx [some (.sh (.scr ns)),some (.sh (.int scale)),some (.own (.lst (S++[.tup [.str ("stuff"++ ⟨#[ch]⟩),sz,.tup C,.int young]]))),some (.sh (.int j)),some (.sh (.int k)),some (.sh (.int part)),some (.sh sz),some (.sh (.int young))]):=by
 have z:S.length<16777216:=by omega
 unfold cK
 refine(av (e:=[some (.sh (.scr ns)),some (.sh (.int scale)),some (.own (.lst S)),some (.sh (.int j)),some (.sh (.int k)),x5,x6,x7]) (by simp[mk,hk])).trans ?_
 refine(av (e:=[some (.sh (.scr ns)),some (.sh (.int scale)),some (.own (.lst S)),some (.sh (.int j)),some (.sh (.int k)),some (.sh (.int part)),x6,x7]) (by simp[da,pa,ah])).trans ?_
 refine(av (e:=[some (.sh (.scr ns)),some (.sh (.int scale)),some (.own (.lst S)),some (.sh (.int j)),some (.sh (.int k)),some (.sh (.int part)),some (.sh sz),x7]) (by simp[m2,m3,m7,db,sb,isz,ah])).trans ?_
 refine(av (e:=[some (.sh (.scr ns)),some (.sh (.int scale)),some (.own (.lst S)),some (.sh (.int j)),some (.sh (.int k)),some (.sh (.int part)),some (.sh sz),some (.sh (.int young))]) (by simp[dc,yc,dd,my,hy,ah])).trans ?_
 have rc:=cL (d:= .tup C) (by simp[ic])
 have w1:(Str.ofString "abcdef").length≤16777216:=by decide
 have w2:(Str.ofString "stuff").length+(⟨#[ch]⟩:Str).length≤16777216:=by
  have:(⟨#[ch]⟩:Str).length=1:=rfl
  rw[this];decide
 simp[hch,w1,w2,ec,rc,isz,ic,ah,z]
theorem Ax{ns:List Int}{scale q n:Int}{S:List D}{y3 y4 y5 y6 y7:Option Slot}(d:a9 [.scr ns,.int 21,.int 6]=some (.int q))(ea:atD [D.int 1,.int 2,.int 3,.int 3,.int 2,.int 6] q=some (.int n))(sm:bU n=true)
  (h1:forL (gN 3) cK (bx 0 n.toNat) [some (.sh (.scr ns)),some (.sh (.int scale)),some (.own (.lst [])),none,none,none,none,none]=some (.nx [some (.sh (.scr ns)),some (.sh (.int scale)),some (.own (.lst S)),y3,y4,y5,y6,y7]))(im:aN S=true):
  fY [.scr ns,.int scale]=some (.tup S):=by
 refine bh rfl ?_
 unfold iq
 refine(av (e:=[some (.sh (.scr ns)),some (.sh (.int scale)),some (.own (.lst [])),none,none,none,none,none]) (by simp[bz,ah])).trans ?_
 refine(av (e:=[some (.sh (.scr ns)),some (.sh (.int scale)),some (.own (.lst S)),y3,y4,y5,y6,y7]) (by simp[-forL,d,ea,sm,h1,ah])).trans ?_
 simp[im]
theorem Ay{ns:List Int}{scale:Int}{i:Nat}{ss:List jt}{x4 x5 x6 x7:Option Slot}(hs:1≤scale)(hs2:scale≤1000000)(hi:i<6)(hl:ss.length≤100):
  ∃s y4 y5 y6 y7,mh s∧cK [some (.sh (.scr ns)),some (.sh (.int scale)),some (.own (.lst (ss.map b4))),some (.sh (.int (i:Int))),x4,x5,x6,x7]=some (.nx [some (.sh (.scr ns)),some (.sh (.int scale)),some (.own (.lst ((ss++[s]).map b4))),some (.sh (.int (i:Int))),y4,y5,y6,y7]):=by
 obtain⟨ch,hch⟩:=EU hi
 have hj:(0:Int)≤(i:Int)∧(i:Int)≤5:=by omega
 have hz:(ss.map b4).length<1000:=by rw[Gae];omega
 have e1:∀s,(ss++[s]).map b4=ss.map b4++[b4 s]:=λs=>by simp
 generalize (i:Int)=j at*
 generalize ss.map b4=S at*
 generalize hk:100+30*j=k
 have da:=aO (ns:=ns) (k:=k) (m:=5) (by omega) (by omega) (by omega)
 have la:=aV ns k 5 (by omega)
 have db:=aO (ns:=ns) (k:=k+1) (m:=3) (by omega) (by omega) (by omega)
 have lb:=aV ns (k+1) 3 (by omega)
 have dc:=aO (ns:=ns) (k:=k+2) (m:=2) (by omega) (by omega) (by omega)
 have lc:=aV ns (k+2) 2 (by omega)
 have dd:=aO (ns:=ns) (k:=k+3) (m:=20) (by omega) (by omega) (by omega)
 have ld:=aV ns (k+3) 20 (by omega)
 obtain⟨part,hp,pa⟩:=at5 (a:=1) (b:=2) (c:=5) (d:=12) (e:=100000) la.1 la.2
 obtain⟨ms,sb⟩:=EV (p:=part) lb.1 lb.2
 obtain⟨y0,hy0,yc⟩:=at2 (a:=0) (b:=scale) lc.1 lc.2
 obtain⟨cs,c1,c2,ec⟩:=JL (ns:=ns) (k:=k+5) (part:=part) (scale:=scale) (by omega) (by omega) (by omega) (by omega) hs hs2
 have ii:=nV (part::ms)
 refine⟨⟨"stuff"++ ⟨#[ch]⟩,part,ms,cs,y0*draw ns (k+3) 20⟩,some (.sh (.int k)),some (.sh (.int part)),some (.sh (.tup ((part::ms).map .int))),some (.sh (.int (y0*draw ns (k+3) 20))),⟨by simp;omega,by simp;omega,c1,c2,GcY (by omega) ld.1⟩, ?_⟩
 rw[e1]
 exact EW (bR (by omega) (by omega)) hk da pa (bR (by omega) (by omega)) (bR (by omega) (by omega)) (bR (by omega) (by omega)) db sb (by simpa using ii) dc yc dd (bR (by omega) (by omega)) rfl hch ec (qY cs) hz
theorem EX{ns:List Int}{scale:Int}(hs:1≤scale)(hs2:scale≤1000000):∃ss:List jt,1≤ss.length∧ss.length≤6∧(∀s∈ss,mh s)∧fY [.scr ns,.int scale]=some (.tup (ss.map b4)):=by
 have d:=aO (ns:=ns) (k:=21) (m:=6) (by omega) (by omega) (by omega)
 have l:=aV ns 21 6 (by omega)
 generalize draw ns 21 6=q at*
 obtain⟨n,hn,ea⟩:=at6 (a:=1) (b:=2) (c:=3) (d:=3) (e:=2) (f:=6) l.1 l.2
 obtain⟨e,h1,ss,y3,y4,y5,y6,y7,h2,h3,rfl⟩:=fj (g:=gN 3) (body:=cK) (λm env=>∃(ss:List jt) (y3 y4 y5 y6 y7:Option Slot),ss.length=m∧(∀s∈ss,mh s)∧env=[some (.sh (.scr ns)),some (.sh (.int scale)),some (.own (.lst (ss.map b4))),y3,y4,y5,y6,y7]) (bx 0 n.toNat) 0
  [some (.sh (.scr ns)),some (.sh (.int scale)),some (.own (.lst [])),none,none,none,none,none] ⟨[],none,none,none,none,none,rfl,by simp,rfl⟩ (by
   rintro i d e hd ⟨ss,y3,y4,y5,y6,y7,h2,h3,rfl⟩
   obtain⟨hi,rfl⟩:=cQ hd
   obtain⟨s,z4,z5,z6,z7,hc,h⟩:=Ay (ns:=ns) (scale:=scale) (i:=i) (ss:=ss) (x4:=y4) (x5:=y5) (x6:=y6) (x7:=y7) hs hs2 (by omega) (by omega)
   rw[show(0:Int)+(i:Int)=(i:Int) by omega]
   refine⟨_,_,rfl,h,ss++[s],some (.sh (.int (i:Int))),z4,z5,z6,z7,by simp[h2],λx hx=> ?_,rfl⟩
   rcases Gay.mp hx with hx|hx
   ·exact h3 x hx
   ·simp at hx;rw[hx];exact hc)
 rw[dY] at h2
 exact⟨ss,by omega,by omega,h3,Ax d ea (bZ (by omega) (by omega)) h1 (g8 kg ss)⟩
noncomputable def trD(t:Int×Int×Int):D:= .tup [.int t.1,.int t.2.1,.int t.2.2]
theorem uy(t:Int×Int×Int):(trD t).imm=true:=by simp[trD]
noncomputable def lB(n:Int)(bs:List (Int×Int×Int)):Prop:=∀b∈bs,0≤b.1∧b.1<n∧0≤b.2.1∧b.2.1<n∧1≤b.2.2
theorem CJ{α β:Type}(f:α→β)(xs:List α)(i:Int)(y:α):(gn xs i y).map f=gn (xs.map f) i (f y):=by
 unfold gn
 simp[GaJ,List.map_take,GdC]
theorem JM{ns:List Int}{many scale i j k q0 q1 q2 L g:Int}{B:List D}{x6 x7:Option Slot}(m18:cf 18 i=true)(m3:cf 3 j=true)(hk:3000+18*i+3*j=k)(hL:cB [.lst B]=some ⟨.c,.int L⟩)(d0:a9 [.scr ns,.int k,.int 3]=some (.int q0))(d1:a9 [.scr ns,.int (k+1),.int 10]=some (.int q1))(d2:a9 [.scr ns,.int (k+2),.int (L+1)]=some (.int q2))(sm:bU q2=true)(mg:cf scale (1+q1)=true)(hg:scale*(1+q1)=g)(hz:B.length<1000):
  fE [some (.sh (.scr ns)),some (.sh (.int many)),some (.sh (.int scale)),some (.own (.lst B)),some (.sh (.int i)),some (.sh (.int j)),x6,x7]=
   some (.nx (if L<12∧q0=0 then[some (.sh (.scr ns)),some (.sh (.int many)),some (.sh (.int scale)),some (.own (.lst (gn B q2 (.tup [.int i,.int j,.int g])))),some (.sh (.int i)),some (.sh (.int j)),some (.sh (.int k)),some (.sh (.tup [.int i,.int j,.int g]))]
    else[some (.sh (.scr ns)),some (.sh (.int many)),some (.sh (.int scale)),some (.own (.lst B)),some (.sh (.int i)),some (.sh (.int j)),some (.sh (.int k)),x7])):=by
 have z:B.length<16777216:=by omega
 unfold fE
 refine(av (e:=[some (.sh (.scr ns)),some (.sh (.int many)),some (.sh (.int scale)),some (.own (.lst B)),some (.sh (.int i)),some (.sh (.int j)),some (.sh (.int k)),x7]) (by simp[m18,m3,hk])).trans ?_
 by_cases c1:L<12
 ·by_cases c2:q0=0
  ·rw[Gah ⟨c1,c2⟩]
   simp[-jL,hL,c1,c2,d0,d1,d2,mg,hg,sm,z,ah]
  ·rw[Gag (λh=>c2 h.2)]
   simp[-jL,hL,c1,c2,d0]
 ·rw[Gag (λh=>c1 h.1)]
  simp[-jL,hL,c1]
theorem EY{ns:List Int}{n:Nat}{scale i j:Int}{bs:List (Int×Int×Int)}{x6 x7:Option Slot}(hs:1≤scale)(hs2:scale≤1000000)(hn:n≤6)(hi:0≤i)(hi2:i<n)(hj:0≤j)(hj2:j<n)(hb:lB n bs)(hl:bs.length≤12):
  ∃bs' y6 y7,lB n bs' ∧bs'.length≤12∧fE [some (.sh (.scr ns)),some (.sh (.int (n:Int))),some (.sh (.int scale)),some (.own (.lst (bs.map trD))),some (.sh (.int i)),some (.sh (.int j)),x6,x7]=
   some (.nx [some (.sh (.scr ns)),some (.sh (.int (n:Int))),some (.sh (.int scale)),some (.own (.lst (bs'.map trD))),some (.sh (.int i)),some (.sh (.int j)),y6,y7]):=by
 generalize hk:3000+18*i+3*j=k
 have d0:=aO (ns:=ns) (k:=k) (m:=3) (by omega) (by omega) (by omega)
 have d1:=aO (ns:=ns) (k:=k+1) (m:=10) (by omega) (by omega) (by omega)
 have l1:=aV ns (k+1) 10 (by omega)
 have d2:=aO (ns:=ns) (k:=k+2) (m:=(bs.length:Int)+1) (by omega) (by omega) (by omega)
 have l2:=aV ns (k+2) ((bs.length:Int)+1) (by omega)
 have hL:cB [.lst (bs.map trD)]=some ⟨.c,.int (bs.length:Int)⟩:=by simp[cB]
 have ev:=JM (many:=(n:Int)) (x6:=x6) (x7:=x7) (bR (by omega) (by omega)) (bR (by omega) (by omega)) hk hL d0 d1 d2 (bZ (by omega) (by omega)) (bR (i:=scale) (j:=1+draw ns (k+1) 10) (by omega) (by omega)) rfl (by rw[Gae];omega)
 rw[ev]
 by_cases c:(bs.length:Int)<12∧draw ns k 3=0
 ·rw[Gah c]
  refine⟨gn bs (draw ns (k+2) ((bs.length:Int)+1)) (i,j,scale*(1+draw ns (k+1) 10)),some (.sh (.int k)),some (.sh (.tup [.int i,.int j,.int (scale*(1+draw ns (k+1) 10))])),λb hb' => ?_,by rw[sS];omega,by rw[CJ];rfl⟩
  rcases GaA.mp ((A9 _ _ _).mem_iff.mp hb') with h|h
  ·subst h
   exact⟨hi,hi2,hj,hj2,gx hs (by omega)⟩
  ·exact hb b h
 ·rw[Gag c]
  exact⟨bs,some (.sh (.int k)),x7,hb,hl,rfl⟩
theorem Hk{ns:List Int}{n:Nat}{scale i:Int}{bs:List (Int×Int×Int)}{x5 x6 x7:Option Slot}(hs:1≤scale)(hs2:scale≤1000000)(hn:n≤6)(hi:0≤i)(hi2:i<n)(hb:lB n bs)(hl:bs.length≤12):
  ∃bs' y5 y6 y7,lB n bs' ∧bs'.length≤12∧fF [some (.sh (.scr ns)),some (.sh (.int (n:Int))),some (.sh (.int scale)),some (.own (.lst (bs.map trD))),some (.sh (.int i)),x5,x6,x7]=
   some (.nx [some (.sh (.scr ns)),some (.sh (.int (n:Int))),some (.sh (.int scale)),some (.own (.lst (bs'.map trD))),some (.sh (.int i)),y5,y6,y7]):=by
 obtain⟨e,h1,bs',y5,y6,y7,h2,h3,rfl⟩:=fj (g:=gN 5) (body:=fE) (λm env=>∃(bs' :List (Int×Int×Int)) (y5 y6 y7:Option Slot),lB n bs' ∧bs'.length≤12∧env=[some (.sh (.scr ns)),some (.sh (.int (n:Int))),some (.sh (.int scale)),some (.own (.lst (bs'.map trD))),some (.sh (.int i)),y5,y6,y7]) (bx i ((n:Int)-i).toNat) 0 _ ⟨bs,x5,x6,x7,hb,hl,rfl⟩ (by
  rintro j d e hd ⟨bs',y5,y6,y7,h2,h3,rfl⟩
  obtain⟨hj,rfl⟩:=cQ hd
  obtain⟨bs2,z6,z7,q1,q2,q3⟩:=EY (ns:=ns) (n:=n) (scale:=scale) (i:=i) (j:=i+(j:Int)) (bs:=bs') (x6:=y6) (x7:=y7) hs hs2 hn hi hi2 (by omega) (by omega) h2 h3
  exact⟨_,_,rfl,q3,bs2,some (.sh (.int (i+(j:Int)))),z6,z7,q1,q2,rfl⟩)
 refine⟨bs',y5,y6,y7,h2,h3, ?_⟩
 have sa:bU i=true:=bZ (by omega) (by omega)
 have sb:bU (n:Int)=true:=bZ (by omega) (by omega)
 unfold fF
 generalize (n:Int)=nn at*
 simp[-forL,sa,sb,h1]
theorem EZ{ns:List Int}{n scale:Int}{B:List D}{y4 y5 y6 y7:Option Slot}(sm:bU n=true)(h1:forL (gN 4) fF (bx 0 n.toNat) [some (.sh (.scr ns)),some (.sh (.int n)),some (.sh (.int scale)),some (.own (.lst [])),none,none,none,none]=some (.nx [some (.sh (.scr ns)),some (.sh (.int n)),some (.sh (.int scale)),some (.own (.lst B)),y4,y5,y6,y7]))(im:aN B=true):j7 [.scr ns,.int n,.int scale]=some (.tup B):=by
 refine bh rfl ?_
 unfold kc
 refine(av (e:=[some (.sh (.scr ns)),some (.sh (.int n)),some (.sh (.int scale)),some (.own (.lst [])),none,none,none,none]) (by simp[bz,ah])).trans ?_
 refine(av (e:=[some (.sh (.scr ns)),some (.sh (.int n)),some (.sh (.int scale)),some (.own (.lst B)),y4,y5,y6,y7]) (by simp[-forL,sm,h1])).trans ?_
 simp[im]
theorem JN{ns:List Int}{n:Nat}{scale:Int}(hs:1≤scale)(hs2:scale≤1000000)(hn:n≤6):∃bs:List (Int×Int×Int),lB n bs∧bs.length≤12∧j7 [.scr ns,.int (n:Int),.int scale]=some (.tup (bs.map trD)):=by
 obtain⟨e,h1,bs',y4,y5,y6,y7,h2,h3,rfl⟩:=fj (g:=gN 4) (body:=fF) (λm env=>∃(bs' :List (Int×Int×Int)) (y4 y5 y6 y7:Option Slot),lB n bs' ∧bs'.length≤12∧env=[some (.sh (.scr ns)),some (.sh (.int (n:Int))),some (.sh (.int scale)),some (.own (.lst (bs'.map trD))),y4,y5,y6,y7]) (bx 0 (n:Int).toNat) 0 [some (.sh (.scr ns)),some (.sh (.int (n:Int))),some (.sh (.int scale)),some (.own (.lst [])),none,none,none,none] ⟨[],none,none,none,none,λb hb=>by simp at hb,by simp,rfl⟩ (by
  rintro j d e hd ⟨bs',y4,y5,y6,y7,h2,h3,rfl⟩
  obtain⟨hj,rfl⟩:=cQ hd
  obtain⟨bs2,z5,z6,z7,q1,q2,q3⟩:=Hk (ns:=ns) (n:=n) (scale:=scale) (i:=0+(j:Int)) (bs:=bs') (x5:=y5) (x6:=y6) (x7:=y7) hs hs2 hn (by omega) (by omega) h2 h3
  exact⟨_,_,rfl,q3,bs2,some (.sh (.int (0+(j:Int)))),z5,z6,z7,q1,q2,rfl⟩)
 exact⟨bs',h2,h3,EZ (bZ (by omega) (by omega)) h1 (g8 uy bs')⟩
inductive rY where
 |asked (b:Int)
 |due (b e m ea la:Int)
noncomputable def cZ:rY→D
 | .asked b=> .tup [.str "asked",.int b]
 | .due b e m ea la=> .tup [.str "due",.int b,.int e,.int m,.int ea,.int la]
noncomputable def jJ:rY→Prop
 | .asked b=>0≤b
 | .due b e m ea la=>1≤e∧e≤12000000∧(m=1∨m=2∨m=4∨m=6∨m=60)∧0≤ea∧0≤la∧ea+la<e∧ea≤b∧b≤30000000
theorem oS(u:rY):(cZ u).imm=true:=by cases u<;>simp[cZ]
theorem JO{ns:List Int}{k scale q0 w u v t b e ea la m qm:Int}(hs:1≤scale)(hs2:scale≤1000000)(d0:a9 [.scr ns,.int k,.int 3]=some (.int q0))(c:¬q0=0)(d2:a9 [.scr ns,.int (k+2),.int 12]=some (.int (w -1)))(ms:∀j,cf scale j=true)(he:scale*w=e)(hq:e/scale=w)(d3:a9 [.scr ns,.int (k+3),.int w]=some (.int u))(hea:scale*u=ea)(hq2:(e -ea)/scale=w -u)(d4:a9 [.scr ns,.int (k+4),.int (w -u)]=some (.int v))(hla:scale*v=la)(d5:a9 [.scr ns,.int (k+5),.int 10]=some (.int t))(hb:ea+scale*t=b)(d6:a9 [.scr ns,.int (k+6),.int 5]=some (.int qm))(am:atD [D.int 1,.int 2,.int 4,.int 6,.int 60] qm=some (.int m)):
  j9 [.scr ns,.int k,.int scale]=some (.tup [.str "due",.int b,.int e,.int m,.int ea,.int la]):=by
 have sp:0<scale:=by omega
 have sp2:scale<1073741824:=by omega
 have w1:1+(w -1)=w:=by omega
 refine bh rfl ?_
 unfold j8
 refine(av (e:=[some (.sh (.scr ns)),some (.sh (.int k)),some (.sh (.int scale)),none,none,none,none]) (by simp[bz,d0,c])).trans ?_
 refine(av (e:=[some (.sh (.scr ns)),some (.sh (.int k)),some (.sh (.int scale)),some (.sh (.int e)),none,none,none]) (by simp[d2,ms,w1,he])).trans ?_
 refine(av (e:=[some (.sh (.scr ns)),some (.sh (.int k)),some (.sh (.int scale)),some (.sh (.int e)),some (.sh (.int ea)),none,none]) (by simp[sp,sp2,hq,d3,ms,hea])).trans ?_
 refine(av (e:=[some (.sh (.scr ns)),some (.sh (.int k)),some (.sh (.int scale)),some (.sh (.int e)),some (.sh (.int ea)),some (.sh (.int la)),none]) (by simp[sp,sp2,hq2,d4,ms,hla])).trans ?_
 refine(av (e:=[some (.sh (.scr ns)),some (.sh (.int k)),some (.sh (.int scale)),some (.sh (.int e)),some (.sh (.int ea)),some (.sh (.int la)),some (.sh (.int b))]) (by simp[d5,ms,hb])).trans ?_
 simp[d6,am,ah]
theorem JP{ns:List Int}{k scale:Int}(hk:0≤k)(hk2:k<10000)(hs:1≤scale)(hs2:scale≤1000000):∃u:rY,jJ u∧j9 [.scr ns,.int k,.int scale]=some (cZ u):=by
 have d0:=aO (ns:=ns) (k:=k) (m:=3) (by omega) (by omega) (by omega)
 have ms:∀j,cf scale j=true:=λj=>bR (by omega) (by omega)
 by_cases c:draw ns k 3=0
 ·have d1:=aO (ns:=ns) (k:=k+1) (m:=20) (by omega) (by omega) (by omega)
  have l1:=aV ns (k+1) 20 (by omega)
  refine⟨.asked (scale*draw ns (k+1) 20),GcY (by omega) l1.1, ?_⟩
  refine bh rfl ?_
  unfold j8
  refine Bw ?_
  simp[bz,d0,c,d1,ms,ah,cZ]
 ·have d2:=aO (ns:=ns) (k:=k+2) (m:=12) (by omega) (by omega) (by omega)
  have l2:=aV ns (k+2) 12 (by omega)
  generalize hw:1+draw ns (k+2) 12=w
  have hw' :draw ns (k+2) 12=w -1:=by omega
  rw[hw'] at d2
  have d3:=aO (ns:=ns) (k:=k+3) (m:=w) (by omega) (by omega) (by omega)
  have l3:=aV ns (k+3) w (by omega)
  generalize draw ns (k+3) w=u at*
  have d4:=aO (ns:=ns) (k:=k+4) (m:=w -u) (by omega) (by omega) (by omega)
  have l4:=aV ns (k+4) (w -u) (by omega)
  generalize draw ns (k+4) (w -u)=v at*
  have d5:=aO (ns:=ns) (k:=k+5) (m:=10) (by omega) (by omega) (by omega)
  have l5:=aV ns (k+5) 10 (by omega)
  generalize draw ns (k+5) 10=t at*
  have d6:=aO (ns:=ns) (k:=k+6) (m:=5) (by omega) (by omega) (by omega)
  have l6:=aV ns (k+6) 5 (by omega)
  obtain⟨m,hm,am⟩:=at5 (a:=1) (b:=2) (c:=4) (d:=6) (e:=60) l6.1 l6.2
  have hq:scale*w/scale=w:=Int.mul_ediv_cancel_left w (by omega)
  have hq2:(scale*w -scale*u)/scale=w -u:=by rw[←Int.mul_sub];exact Int.mul_ediv_cancel_left _ (by omega)
  refine⟨.due (scale*u+scale*t) (scale*w) m (scale*u) (scale*v),⟨gx hs (by omega), ?_,hm,GcY (by omega) l3.1,GcY (by omega) l4.1, ?_, ?_, ?_⟩,JO hs hs2 d0 c d2 ms rfl hq d3 rfl hq2 d4 rfl d5 rfl d6 am⟩
  ·have:=oR (a:=scale) (b:=w) (A:=1000000) (B:=12) (by omega) hs2 (by omega) (by omega)
   omega
  ·have h1:scale*u+scale*v=scale*(u+v):=by rw[Int.mul_add]
   have h2:scale*(u+v)<scale*w:=Int.mul_lt_mul_of_pos_left (by omega) (by omega)
   omega
  ·have:=GcY (a:=scale) (b:=t) (by omega) l5.1
   omega
  ·have h1:=oR (a:=scale) (b:=u) (A:=1000000) (B:=12) (by omega) hs2 (by omega) (by omega)
   have h2:=oR (a:=scale) (b:=t) (A:=1000000) (B:=10) (by omega) hs2 (by omega) (by omega)
   omega
structure Order where
 name:Str
 cT:Int
 gh:Int
 way:Str
 top:Int
 per:Int
 most:Int
 dQ:rY
 AK:List D
noncomputable def aI(o:Order):D:= .tup [.str o.name,.int o.cT,.int o.gh,.tup [.str o.way,.int o.top,.int o.per,.int o.most],cZ o.dQ,.tup o.AK]
structure nW(ng nst:Nat)(o:Order):Prop where
 g0:0≤o.cT
 g1:o.cT<ng
 s0:0≤o.gh
 s1:o.gh<nst
 du:jJ o.dQ
 ti:aN o.AK=true
theorem JQ{u:rY}{env:DL.Env}(h:env[11]? =some (some (.sh (cZ u))))(hl:env.length=13):∃T:List D,aN T=true∧∀(he:env[12]? =some (some (.sh (.tup [])))),ifS (kP (b9 eqB (ixE (vE 11) (kE (.int 0))) (kE (.str "due"))) (b9 gtB (ixE (vE 11) (kE (.int 3))) (kE (.int 2))))
  (aQ 12 (bQ (a5 (bQ (a5 (kE (.int 1)) (a5 (kE (.int 1)) (a5 (kE (.int 2)) aq)))) (a5 (bQ (a5 (kE (.int 2)) (a5 (kE (.int 1)) (a5 (kE (.int 3)) aq)))) aq))))
  bg env=some (.nx (env.set 12 (some (.sh (.tup T))))):=by
 have e0:∀(he:env[12]? =some (some (.sh (.tup [])))),env.set 12 (some (.sh (.tup [])))=env:=λhe=>by
  apply Gdb
  intro i
  by_cases q:12=i
  ·subst q;rw[GaN (by omega),he]
  ·rw[Gac q]
 cases u with
 |asked b=>
  refine⟨[],rfl,λhe=> ?_⟩
  rw[e0 he]
  unfold cZ at h
  simp[h,eqB]
 |due b e m ea la=>
  unfold cZ at h
  by_cases c:m>2
  ·refine⟨[.tup [.int 1,.int 1,.int 2],.tup [.int 2,.int 1,.int 3]],rfl,λhe=> ?_⟩
   simp[h,eqB,c,ah,DL.stored]
  ·refine⟨[],rfl,λhe=> ?_⟩
   rw[e0 he]
   simp[h,eqB,c]
theorem JR{r:Int}(h:0≤r):∃w:Str,atD [D.str "down",.str "up",.str "near"] (r%3)=some (.str w):=by
 have:r%3=0∨r%3=1∨r%3=2:=by omega
 rcases this with q|q|q<;>rw[q]
 ·exact⟨"down",rfl⟩
 ·exact⟨"up",rfl⟩
 ·exact⟨"near",rfl⟩
theorem at3{a b c q:Int}(h:0≤q)(h2:q<3):∃v,(v=a∨v=b∨v=c)∧atD [D.int a,.int b,.int c] q=some (.int v):=by
 have:q=0∨q=1∨q=2:=by omega
 rcases this with rfl|rfl|rfl
 ·exact⟨a,.inl rfl,rfl⟩
 ·exact⟨b,.inr (.inl rfl),rfl⟩
 ·exact⟨c,.inr (.inr rfl),rfl⟩
theorem F4{ns:List Int}{scale r k st part f q1 most q2 q3 LS LG g:Int}{G S O M T:List D}{nm C Y:D}{u:rY}{w:Str}{ch:Nat}{x3 x7 x8 x9 x10 x11 x12:Option Slot}(m20:cf 20 r=true)(hk:300+20*r=k)(hLS:cB [.tup S]=some ⟨.c,.int LS⟩)(d0:a9 [.scr ns,.int k,.int LS]=some (.int st))(hS:atD S st=some (.tup [nm,.tup (.int part::M),C,Y]))(d1:a9 [.scr ns,.int (k+1),.int 3]=some (.int q1))(hf:atD [D.int 4,.int 15,.int 2000] q1=some (.int f))(mm:cf part f=true)(hm:part*f=most)
  (hw:atD [D.str "down",.str "up",.str "near"] (r%3)=some (.str w))(d2:a9 [.scr ns,.int (k+2),.int 90]=some (.int q2))(d3:a9 [.scr ns,.int (k+3),.int 9]=some (.int q3))(du:j9 [.scr ns,.int (k+4),.int scale]=some (cZ u))(hLG:cB [.lst G]=some ⟨.c,.int LG⟩)(dg:a9 [.scr ns,.int (k+12),.int LG]=some (.int g))(hch:atD (Str.ofString "abcdefghijkl").cps.toList r=some ch)(hz:O.length<1000)
  (iT:aN T=true)(ht:∀env:DL.Env,env=[some (.sh (.scr ns)),some (.sh (.int scale)),some (.own (.lst G)),x3,some (.sh (.tup S)),some (.own (.lst O)),some (.sh (.int r)),some (.sh (.int k)),some (.sh (.int st)),some (.sh (.int most)),some (.sh (.tup [.str w,.int (1+q2),.int q3,.int most])),some (.sh (cZ u)),some (.sh (.tup []))]→
   ifS (kP (b9 eqB (ixE (vE 11) (kE (.int 0))) (kE (.str "due"))) (b9 gtB (ixE (vE 11) (kE (.int 3))) (kE (.int 2)))) (aQ 12 (bQ (a5 (bQ (a5 (kE (.int 1)) (a5 (kE (.int 1)) (a5 (kE (.int 2)) aq)))) (a5 (bQ (a5 (kE (.int 2)) (a5 (kE (.int 1)) (a5 (kE (.int 3)) aq)))) aq)))) bg env=some (.nx (env.set 12 (some (.sh (.tup T)))))):
  cX [some (.sh (.scr ns)),some (.sh (.int scale)),some (.own (.lst G)),x3,some (.sh (.tup S)),some (.own (.lst O)),some (.sh (.int r)),x7,x8,x9,x10,x11,x12]=
   some (.nx [some (.sh (.scr ns)),some (.sh (.int scale)),some (.own (.lst G)),x3,some (.sh (.tup S)),some (.own (.lst (O++[.tup [.str ("order"++ ⟨#[ch]⟩),.int g,.int st,.tup [.str w,.int (1+q2),.int q3,.int most],cZ u,.tup T]]))),some (.sh (.int r)),some (.sh (.int k)),some (.sh (.int st)),some (.sh (.int most)),some (.sh (.tup [.str w,.int (1+q2),.int q3,.int most])),some (.sh (cZ u)),some (.sh (.tup T))]):=by
 have z:O.length<16777216:=by omega
 have iu:=oS u
 have ru:=cL iu
 generalize cZ u=U at*
 have w1:(Str.ofString "abcdefghijkl").length≤16777216:=by decide
 have w2:(Str.ofString "order").length+(⟨#[ch]⟩:Str).length≤16777216:=by
  have:(⟨#[ch]⟩:Str).length=1:=rfl
  rw[this];decide
 unfold cX
 refine(av (e:=[some (.sh (.scr ns)),some (.sh (.int scale)),some (.own (.lst G)),x3,some (.sh (.tup S)),some (.own (.lst O)),some (.sh (.int r)),some (.sh (.int k)),x8,x9,x10,x11,x12]) (by simp[m20,hk])).trans ?_
 refine(av (e:=[some (.sh (.scr ns)),some (.sh (.int scale)),some (.own (.lst G)),x3,some (.sh (.tup S)),some (.own (.lst O)),some (.sh (.int r)),some (.sh (.int k)),some (.sh (.int st)),x9,x10,x11,x12]) (by simp[-gP,hLS,d0])).trans ?_
 refine(av (e:=[some (.sh (.scr ns)),some (.sh (.int scale)),some (.own (.lst G)),x3,some (.sh (.tup S)),some (.own (.lst O)),some (.sh (.int r)),some (.sh (.int k)),some (.sh (.int st)),some (.sh (.int most)),x10,x11,x12]) (by simp[hS,d1,hf,mm,hm,ah])).trans ?_
 refine(av (e:=[some (.sh (.scr ns)),some (.sh (.int scale)),some (.own (.lst G)),x3,some (.sh (.tup S)),some (.own (.lst O)),some (.sh (.int r)),some (.sh (.int k)),some (.sh (.int st)),some (.sh (.int most)),some (.sh (.tup [.str w,.int (1+q2),.int q3,.int most])),x11,x12]) (by simp[hw,d2,d3,ah])).trans ?_
 refine(av (e:=[some (.sh (.scr ns)),some (.sh (.int scale)),some (.own (.lst G)),x3,some (.sh (.tup S)),some (.own (.lst O)),some (.sh (.int r)),some (.sh (.int k)),some (.sh (.int st)),some (.sh (.int most)),some (.sh (.tup [.str w,.int (1+q2),.int q3,.int most])),some (.sh U),x12]) (by simp[du,ru])).trans ?_
 refine(av (e:=[some (.sh (.scr ns)),some (.sh (.int scale)),some (.own (.lst G)),x3,some (.sh (.tup S)),some (.own (.lst O)),some (.sh (.int r)),some (.sh (.int k)),some (.sh (.int st)),some (.sh (.int most)),some (.sh (.tup [.str w,.int (1+q2),.int q3,.int most])),some (.sh U),some (.sh (.tup []))]) (by simp[ah])).trans ?_
 refine(av (ht _ rfl)).trans ?_
 simp[-jL,hLG,dg,hch,w1,w2,iu,iT,ah,z]
theorem gX(o:Order)(h:aN o.AK=true):(aI o).imm=true:=by
 have:=oS o.dQ
 simp[aI,this,h]
theorem Az{ns:List Int}{scale:Int}{i:Nat}{G:List D}{ss:List jt}{os:List Order}{x3 x7 x8 x9 x10 x11 x12:Option Slot}(hs:1≤scale)(hs2:scale≤1000000)(hi:i<12)(hG:1≤G.length)(hG2:G.length≤100)(hS:1≤ss.length)(hS2:ss.length≤100)(hok:∀s∈ss,mh s)(hl:os.length≤100):
  ∃o y7 y8 y9 y10 y11 y12,nW G.length ss.length o∧cX [some (.sh (.scr ns)),some (.sh (.int scale)),some (.own (.lst G)),x3,some (.sh (.tup (ss.map b4))),some (.own (.lst (os.map aI))),some (.sh (.int (i:Int))),x7,x8,x9,x10,x11,x12]=
   some (.nx [some (.sh (.scr ns)),some (.sh (.int scale)),some (.own (.lst G)),x3,some (.sh (.tup (ss.map b4))),some (.own (.lst ((os++[o]).map aI))),some (.sh (.int (i:Int))),y7,y8,y9,y10,y11,y12]):=by
 obtain⟨ch,hch⟩:=CI hi
 have hj:(0:Int)≤(i:Int)∧(i:Int)≤11:=by omega
 have hz:(os.map aI).length<1000:=by rw[Gae];omega
 have e1:∀s,(os++[s]).map aI=os.map aI++[aI s]:=λs=>by simp
 generalize (i:Int)=r at*
 generalize os.map aI=O at*
 generalize hk:300+20*r=k
 have hLS:cB [.tup (ss.map b4)]=some ⟨.c,.int (ss.length:Int)⟩:=by simp[cB]
 have hLG:cB [.lst G]=some ⟨.c,.int (G.length:Int)⟩:=rfl
 have d0:=aO (ns:=ns) (k:=k) (m:=(ss.length:Int)) (by omega) (by omega) (by omega)
 have l0:=aV ns k (ss.length:Int) (by omega)
 generalize draw ns k (ss.length:Int)=st at*
 obtain⟨n,rfl⟩:=GaK l0.1
 have hn:n<ss.length:=by omega
 have hSat:atD (ss.map b4) (n:Int)=some (.tup [.str ss[n].name,.tup (.int ss[n].part::ss[n].more.map .int),.tup (ss[n].aR.map cY),.int ss[n].young]):=by
  rw[f6,Gan,Gab hn];rfl
 have ok:=hok ss[n] (GaC hn)
 have okp1:=ok.p1
 have okp2:=ok.p2
 have d1:=aO (ns:=ns) (k:=k+1) (m:=3) (by omega) (by omega) (by omega)
 have l1:=aV ns (k+1) 3 (by omega)
 obtain⟨f,hf0,hf⟩:=at3 (a:=4) (b:=15) (c:=2000) l1.1 l1.2
 obtain⟨w,hw⟩:=JR (r:=r) hj.1
 have d2:=aO (ns:=ns) (k:=k+2) (m:=90) (by omega) (by omega) (by omega)
 have d3:=aO (ns:=ns) (k:=k+3) (m:=9) (by omega) (by omega) (by omega)
 obtain⟨u,u1,du⟩:=JP (ns:=ns) (k:=k+4) (scale:=scale) (by omega) (by omega) hs hs2
 have dg:=aO (ns:=ns) (k:=k+12) (m:=(G.length:Int)) (by omega) (by omega) (by omega)
 have lg:=aV ns (k+12) (G.length:Int) (by omega)
 obtain⟨T,iT,ht⟩:=JQ (u:=u) (env:=[some (.sh (.scr ns)),some (.sh (.int scale)),some (.own (.lst G)),x3,some (.sh (.tup (ss.map b4))),some (.own (.lst O)),some (.sh (.int r)),some (.sh (.int k)),some (.sh (.int (n:Int))),some (.sh (.int (ss[n].part*f))),some (.sh (.tup [.str w,.int (1+draw ns (k+2) 90),.int (draw ns (k+3) 9),.int (ss[n].part*f)])),some (.sh (cZ u)),some (.sh (.tup []))]) rfl rfl
 refine⟨⟨"order"++ ⟨#[ch]⟩,draw ns (k+12) (G.length:Int),(n:Int),w,1+draw ns (k+2) 90,draw ns (k+3) 9,ss[n].part*f,u,T⟩,some (.sh (.int k)),some (.sh (.int (n:Int))),some (.sh (.int (ss[n].part*f))),some (.sh (.tup [.str w,.int (1+draw ns (k+2) 90),.int (draw ns (k+3) 9),.int (ss[n].part*f)])),some (.sh (cZ u)),some (.sh (.tup T)),⟨lg.1,lg.2,by simp,by simp;omega,u1,iT⟩, ?_⟩
 rw[e1]
 exact F4 (bR (by omega) (by omega)) hk hLS d0 hSat d1 hf (bR (by omega) (by omega)) rfl hw d2 d3 du hLG dg hch hz iT λenv he=>by subst he;exact ht rfl
theorem AA{ns:List Int}{scale:Int}{i:Nat}{gs:List (Str×Int)}{x4 x5 x6 x7 x8 x9 x10 x11 x12:Option Slot}(hs:1≤scale)(hs2:scale≤1000000)(hi:i<6)(hl:gs.length≤100):
  ∃g:Str×Int,dX [some (.sh (.scr ns)),some (.sh (.int scale)),some (.own (.lst (gs.map λg=> .tup [.str g.1,.int g.2]))),some (.sh (.int (i:Int))),x4,x5,x6,x7,x8,x9,x10,x11,x12]=
   some (.nx [some (.sh (.scr ns)),some (.sh (.int scale)),some (.own (.lst ((gs++[g]).map λg=> .tup [.str g.1,.int g.2]))),some (.sh (.int (i:Int))),x4,x5,x6,x7,x8,x9,x10,x11,x12]):=by
 obtain⟨ch,hch⟩:=EU hi
 have hj:(0:Int)≤(i:Int)∧(i:Int)≤5:=by omega
 have hz:(gs.map λg=>D.tup [.str g.1,.int g.2]).length<16777216:=by rw[Gae];omega
 have e1:∀s:Str×Int,((gs++[s]).map λg=>D.tup [.str g.1,.int g.2])=(gs.map λg=>D.tup [.str g.1,.int g.2])++[.tup [.str s.1,.int s.2]]:=λs=>by simp
 generalize (i:Int)=j at*
 generalize (gs.map λg=>D.tup [.str g.1,.int g.2])=G at*
 have d:=aO (ns:=ns) (k:=30+j) (m:=15) (by omega) (by omega) (by omega)
 have ms:∀j,cf scale j=true:=λj=>bR (by omega) (by omega)
 have w1:(Str.ofString "abcdef").length≤16777216:=by decide
 have w2:(Str.ofString "guest").length+(⟨#[ch]⟩:Str).length≤16777216:=by
  have:(⟨#[ch]⟩:Str).length=1:=rfl
  rw[this];decide
 refine⟨("guest"++ ⟨#[ch]⟩,scale*draw ns (30+j) 15), ?_⟩
 rw[e1]
 unfold dX
 simp[hch,w1,w2,d,ms,ah,hz]
structure World where
 cC:List (Str×Int)
 aH:List jt
 dz:List (Int×Int×Int)
 orders:List Order
noncomputable def d9(g:Str×Int):D:= .tup [.str g.1,.int g.2]
noncomputable def bB(w:World):D:= .tup [.tup (w.cC.map d9),.tup (w.aH.map b4),.tup (w.dz.map trD),.tup (w.orders.map aI)]
structure bX(w:World):Prop where
 g1:1≤w.cC.length
 g6:w.cC.length≤6
 s1:1≤w.aH.length
 s6:w.aH.length≤6
 so:∀s∈w.aH,mh s
 b12:w.dz.length≤12
 bo:lB w.aH.length w.dz
 o1:1≤w.orders.length
 o12:w.orders.length≤12
 oo:∀o∈w.orders,nW w.cC.length w.aH.length o
theorem qZ(g:Str×Int):(d9 g).imm=true:=by simp[d9]
theorem CK{ns:List Int}{q1 scale qg ng qo no LS:Int}{G S B O:List D}{y3 y6 y7 y8 y9 y10 y11 y12:Option Slot}(d1:a9 [.scr ns,.int 1,.int 6]=some (.int q1))(h1:atD [D.int 1,.int 1,.int 1,.int 1,.int 1,.int 1000000] q1=some (.int scale))(dg:a9 [.scr ns,.int 20,.int 6]=some (.int qg))(hg:atD [D.int 1,.int 2,.int 3,.int 2,.int 3,.int 6] qg=some (.int ng))(sg:bU ng=true)
  (lg:forL (gN 3) dX (bx 0 ng.toNat) [some (.sh (.scr ns)),some (.sh (.int scale)),some (.own (.lst [])),none,none,none,none,none,none,none,none,none,none]=some (.nx [some (.sh (.scr ns)),some (.sh (.int scale)),some (.own (.lst G)),y3,none,none,none,none,none,none,none,none,none]))
  (es:fY [.scr ns,.int scale]=some (.tup S))(iS:aN S=true)(do' :a9 [.scr ns,.int 22,.int 6]=some (.int qo))(ho:atD [D.int 1,.int 2,.int 3,.int 4,.int 4,.int 12] qo=some (.int no))(so:bU no=true)
  (lo:forL (gN 6) cX (bx 0 no.toNat) [some (.sh (.scr ns)),some (.sh (.int scale)),some (.own (.lst G)),y3,some (.sh (.tup S)),some (.own (.lst [])),none,none,none,none,none,none,none]=some (.nx [some (.sh (.scr ns)),some (.sh (.int scale)),some (.own (.lst G)),y3,some (.sh (.tup S)),some (.own (.lst O)),y6,y7,y8,y9,y10,y11,y12]))
  (hLS:cB [.tup S]=some ⟨.c,.int LS⟩)(eb:j7 [.scr ns,.int LS,.int scale]=some (.tup B))(iB:aN B=true)(iG:aN G=true)(iO:aN O=true):gW [.scr ns]=some (.tup [.tup G,.tup S,.tup B,.tup O]):=by
 have rS:=cL (d:= .tup S) (by simp[iS])
 have rB:=cL (d:= .tup B) (by simp[iB])
 refine bh rfl ?_
 unfold jq
 refine(av (e:=[some (.sh (.scr ns)),some (.sh (.int scale)),none,none,none,none,none,none,none,none,none,none,none]) (by simp[bz,d1,h1,ah])).trans ?_
 refine(av (e:=[some (.sh (.scr ns)),some (.sh (.int scale)),some (.own (.lst [])),none,none,none,none,none,none,none,none,none,none]) (by simp[ah])).trans ?_
 refine(av (e:=[some (.sh (.scr ns)),some (.sh (.int scale)),some (.own (.lst G)),y3,none,none,none,none,none,none,none,none,none]) (by simp[-forL,dg,hg,sg,lg,ah])).trans ?_
 refine(av (e:=[some (.sh (.scr ns)),some (.sh (.int scale)),some (.own (.lst G)),y3,some (.sh (.tup S)),none,none,none,none,none,none,none,none]) (by simp[es,rS])).trans ?_
 refine(av (e:=[some (.sh (.scr ns)),some (.sh (.int scale)),some (.own (.lst G)),y3,some (.sh (.tup S)),some (.own (.lst [])),none,none,none,none,none,none,none]) (by simp[ah])).trans ?_
 refine(av (e:=[some (.sh (.scr ns)),some (.sh (.int scale)),some (.own (.lst G)),y3,some (.sh (.tup S)),some (.own (.lst O)),y6,y7,y8,y9,y10,y11,y12]) (by simp[-forL,do',ho,so,lo,ah])).trans ?_
 simp[-gP,hLS,eb,rB,iS,iB,iG,iO,ah]
theorem uz(ns:List Int):∃scale:Int,1≤scale∧scale≤1000000∧atD [D.int 1,.int 1,.int 1,.int 1,.int 1,.int 1000000] (draw ns 1 6)=some (.int scale):=by
 have l:=aV ns 1 6 (by omega)
 obtain⟨v,hv,e⟩:=at6 (a:=1) (b:=1) (c:=1) (d:=1) (e:=1) (f:=1000000) l.1 l.2
 exact⟨v,by omega,by omega,e⟩
theorem Hl(ns:List Int):∃w:World,bX w∧gW [.scr ns]=some (bB w):=by
 have d1:=aO (ns:=ns) (k:=1) (m:=6) (by omega) (by omega) (by omega)
 obtain⟨scale,c1,c2,h1⟩:=uz ns
 have dg:=aO (ns:=ns) (k:=20) (m:=6) (by omega) (by omega) (by omega)
 have lg:=aV ns 20 6 (by omega)
 obtain⟨ng,hng,hg⟩:=at6 (a:=1) (b:=2) (c:=3) (d:=2) (e:=3) (f:=6) lg.1 lg.2
 have dO:=aO (ns:=ns) (k:=22) (m:=6) (by omega) (by omega) (by omega)
 have lO:=aV ns 22 6 (by omega)
 obtain⟨no,hno,hO⟩:=at6 (a:=1) (b:=2) (c:=3) (d:=4) (e:=4) (f:=12) lO.1 lO.2
 obtain⟨e,l1,gs,y3,g2,rfl⟩:=fj (g:=gN 3) (body:=dX) (λm env=>∃(gs:List (Str×Int)) (y3:Option Slot),gs.length=m∧env=[some (.sh (.scr ns)),some (.sh (.int scale)),some (.own (.lst (gs.map λg=> .tup [.str g.1,.int g.2]))),y3,none,none,none,none,none,none,none,none,none]) (bx 0 ng.toNat) 0 [some (.sh (.scr ns)),some (.sh (.int scale)),some (.own (.lst [])),none,none,none,none,none,none,none,none,none,none] ⟨[],none,rfl,rfl⟩ (by
  rintro i d e hd ⟨gs,y3,h2,rfl⟩
  obtain⟨hi,rfl⟩:=cQ hd
  obtain⟨g,h⟩:=AA (ns:=ns) (scale:=scale) (i:=i) (gs:=gs) (x4:=none) (x5:=none) (x6:=none) (x7:=none) (x8:=none) (x9:=none) (x10:=none) (x11:=none) (x12:=none) c1 c2 (by omega) (by omega)
  rw[show(0:Int)+(i:Int)=(i:Int) by omega]
  exact⟨_,_,rfl,h,gs++[g],some (.sh (.int (i:Int))),by simp[h2],rfl⟩)
 rw[dY] at g2
 obtain⟨ss,t1,t2,t3,t4⟩:=EX (ns:=ns) c1 c2
 obtain⟨bs,b1,b2,b3⟩:=JN (ns:=ns) (n:=ss.length) c1 c2 t2
 have hLG:(gs.map d9).length=gs.length:=by simp
 have eG:(gs.map λg=>D.tup [.str g.1,.int g.2])=gs.map d9:=rfl
 rw[eG] at l1
 obtain⟨e,l2,os,y6,y7,y8,y9,y10,y11,y12,o2,o3,rfl⟩:=fj (g:=gN 6) (body:=cX) (λm env=>∃(os:List Order) (y6 y7 y8 y9 y10 y11 y12:Option Slot),os.length=m∧(∀o∈os,nW gs.length ss.length o)∧env=[some (.sh (.scr ns)),some (.sh (.int scale)),some (.own (.lst (gs.map d9))),y3,some (.sh (.tup (ss.map b4))),some (.own (.lst (os.map aI))),y6,y7,y8,y9,y10,y11,y12]) (bx 0 no.toNat) 0 [some (.sh (.scr ns)),some (.sh (.int scale)),some (.own (.lst (gs.map d9))),y3,some (.sh (.tup (ss.map b4))),some (.own (.lst [])),none,none,none,none,none,none,none] ⟨[],none,none,none,none,none,none,none,rfl,by simp,rfl⟩ (by
  rintro i d e hd ⟨os,y6,y7,y8,y9,y10,y11,y12,h2,h3,rfl⟩
  obtain⟨hi,rfl⟩:=cQ hd
  obtain⟨o,z7,z8,z9,z10,z11,z12,k1,k2⟩:=Az (ns:=ns) (scale:=scale) (i:=i) (G:=gs.map d9) (ss:=ss) (os:=os) (x3:=y3) (x7:=y7) (x8:=y8) (x9:=y9) (x10:=y10) (x11:=y11) (x12:=y12) c1 c2 (by omega) (by omega) (by omega) t1 (by omega) t3 (by omega)
  rw[hLG] at k1
  rw[show(0:Int)+(i:Int)=(i:Int) by omega]
  refine⟨_,_,rfl,k2,os++[o],some (.sh (.int (i:Int))),z7,z8,z9,z10,z11,z12,by simp[h2],λx hx=> ?_,rfl⟩
  rcases Gay.mp hx with hx|hx
  ·exact h3 x hx
  ·simp at hx;rw[hx];exact k1)
 rw[dY] at o2
 have iO:aN (os.map aI)=true:=by
  have:∀l:List Order,(∀o∈l,nW gs.length ss.length o)→aN (l.map aI)=true:=by
   intro l
   induction l with
   |nil=>intro _;rfl
   |cons o l ih=>
    intro h
    have h1:=gX o (h o Gap).ti
    have h2:=ih λx hx=>h x (Gaj _ hx)
    rw[Gar]
    simp[h1,h2]
  exact this os o3
 refine⟨⟨gs,ss,bs,os⟩,⟨by simp;omega,by simp;omega,t1,t2,t3,b2,b1,by simp;omega,by simp;omega,o3⟩, ?_⟩
 exact CK d1 h1 dg hg (bZ (by omega) (by omega)) l1 t4 (g8 kg ss) dO hO (bZ (by omega) (by omega)) l2 (by simp[cB]) b3 (g8 uy bs) (g8 qZ gs) iO
theorem vS{w:World}{o:Int}(h0:0≤o)(h1:o<w.orders.length):∃x∈w.orders,atD (w.orders.map aI) o=some (aI x):=by
 obtain⟨n,rfl⟩:=GaK h0
 have hn:n<w.orders.length:=by omega
 exact⟨w.orders[n],GaC hn,by rw[f6,Gan,Gab hn];rfl⟩
theorem F5{w:World}{o:Int}(h0:0≤o)(h1:o<w.aH.length):∃x∈w.aH,atD (w.aH.map b4) o=some (b4 x):=by
 obtain⟨n,rfl⟩:=GaK h0
 have hn:n<w.aH.length:=by omega
 exact⟨w.aH[n],GaC hn,by rw[f6,Gan,Gab hn];rfl⟩
theorem CL{ns:List Int}{k q5 q6 h:Int}{x1 x2 x4 x5 x7 x8:Option Slot}(d5:a9 [.scr ns,.int (k+5000),.int 12]=some (.int q5))(d6:a9 [.scr ns,.int (k+5500),.int 25]=some (.int q6)):∃h' :Int,
  aE (ifS (b9 eqB (aG a9 (a5 (vE 0) (a5 (opE aP (vE 3) (kE (.int 5000))) (a5 (kE (.int 12)) aq)))) (kE (.int 0))) (aQ 6 (opE aP (vE 6) (kE (.int 1)))) bg)
   (aE (ifS (b9 eqB (aG a9 (a5 (vE 0) (a5 (opE aP (vE 3) (kE (.int 5500))) (a5 (kE (.int 25)) aq)))) (kE (.int 0))) (aQ 6 (opE oD (kE (.int 10)) (kE (.int 9)))) bg) (retS (vE 6)))
   [some (.sh (.scr ns)),x1,x2,some (.sh (.int k)),x4,x5,some (.sh (.int h)),x7,x8]=some (.ret (.int h')):=by
 by_cases c5:q5=0
 ·by_cases c6:q6=0
  ·exact⟨1000000000,by simp[d5,d6,c5,c6]⟩
  ·exact⟨h+1,by simp[d5,d6,c5,c6]⟩
 ·by_cases c6:q6=0
  ·exact⟨1000000000,by simp[d5,d6,c5,c6]⟩
  ·exact⟨h,by simp[d5,d6,c5,c6]⟩
theorem Hm{ns:List Int}{k o q1 scale q0 q3 q4:Int}{A B C O:List D}{nm g st ru tp:D}{u:rY}(d1:a9 [.scr ns,.int 1,.int 6]=some (.int q1))(h1:atD [D.int 1,.int 1,.int 1,.int 1,.int 1,.int 1000000] q1=some (.int scale))(hs:1≤scale)(hs2:scale≤1000000)(hO:atD O o=some (.tup [nm,g,st,ru,cZ u,tp]))(du:jJ u)(d0:a9 [.scr ns,.int k,.int 70]=some (.int q0))(d3:a9 [.scr ns,.int (k+3000),.int 4]=some (.int q3))(d4:a9 [.scr ns,.int (k+4000),.int 6]=some (.int q4))(l4:0≤q4)(l4' :q4<6)(hk:0≤k)(hk2:k<10000):
  ∃h:Int,ja [.scr ns,.tup [.tup A,.tup B,.tup C,.tup O],.int o,.int k]=some (.int h):=by
 have d5:=aO (ns:=ns) (k:=k+5000) (m:=12) (by omega) (by omega) (by omega)
 have d6:=aO (ns:=ns) (k:=k+5500) (m:=25) (by omega) (by omega) (by omega)
 have ms:∀j,cf scale j=true:=λj=>bR (by omega) (by omega)
 have iu:=oS u
 suffices hmid:∃(x7 x8:Option Slot) (h0:Int),ifS (kP (b9 eqB (ixE (vE 5) (kE (.int 0))) (kE (.str "due"))) (b9 gtB (aG a9 (a5 (vE 0) (a5 (opE aP (vE 3) (kE (.int 3000))) (a5 (kE (.int 4)) aq)))) (kE (.int 0))))
  (aE (aQ 7 (opE aP (ixE (vE 5) (kE (.int 1))) (opE dA (aG a9 (a5 (vE 0) (a5 (vE 3) (a5 (dS nE (a5 (ixE (vE 5) (kE (.int 3))) (a5 (kE (.int 6)) aq))) aq)))) (ixE (vE 5) (kE (.int 2))))))
 (aE (aQ 8 (gk (a5 (vE 7) (a5 (opE kI (vE 7) (ixE (vE 5) (kE (.int 4)))) (a5 (opE aP (vE 7) (ixE (vE 5) (kE (.int 5)))) (a5 (opE kI (opE kI (vE 7) (ixE (vE 5) (kE (.int 4)))) (kE (.int 1))) (a5 (opE aP (opE aP (vE 7) (ixE (vE 5) (kE (.int 5)))) (kE (.int 1))) (a5 (vE 7) aq))))))))
 (aQ 6 (dS sR (a5 (kE (.int 0)) (a5 (ixE (vE 8) (aG a9 (a5 (vE 0) (a5 (opE aP (vE 3) (kE (.int 4000))) (a5 (kE (.int 6)) aq))))) aq))))))
  bg [some (.sh (.scr ns)),some (.sh (.tup [.tup A,.tup B,.tup C,.tup O])),some (.sh (.int o)),some (.sh (.int k)),some (.sh (.int scale)),some (.sh (cZ u)),some (.sh (.int (scale*q0))),none,none]=some (.nx [some (.sh (.scr ns)),some (.sh (.tup [.tup A,.tup B,.tup C,.tup O])),some (.sh (.int o)),some (.sh (.int k)),some (.sh (.int scale)),some (.sh (cZ u)),some (.sh (.int h0)),x7,x8]) by
  obtain⟨x7,x8,h0,hm⟩:=hmid
  obtain⟨h',ht⟩:=CL (ns:=ns) (k:=k) (h:=h0) (x1:=some (.sh (.tup [.tup A,.tup B,.tup C,.tup O]))) (x2:=some (.sh (.int o))) (x4:=some (.sh (.int scale))) (x5:=some (.sh (cZ u))) (x7:=x7) (x8:=x8) d5 d6
  refine⟨h',bh rfl ?_⟩
  unfold kf
  generalize cZ u=U at*
  refine(av (e:=[some (.sh (.scr ns)),some (.sh (.tup [.tup A,.tup B,.tup C,.tup O])),some (.sh (.int o)),some (.sh (.int k)),some (.sh (.int scale)),none,none,none,none]) (by simp[bz,d1,h1,ah])).trans ?_
  refine(av (e:=[some (.sh (.scr ns)),some (.sh (.tup [.tup A,.tup B,.tup C,.tup O])),some (.sh (.int o)),some (.sh (.int k)),some (.sh (.int scale)),some (.sh U),none,none,none]) (by simp[hO,iu])).trans ?_
  refine(av (e:=[some (.sh (.scr ns)),some (.sh (.tup [.tup A,.tup B,.tup C,.tup O])),some (.sh (.int o)),some (.sh (.int k)),some (.sh (.int scale)),some (.sh U),some (.sh (.int (scale*q0))),none,none]) (by simp[d0,ms])).trans ?_
  exact(av hm).trans ht
 cases u with
 |asked b=>
  refine⟨none,none,scale*q0, ?_⟩
  simp[cZ,eqB]
 |due b e m ea la=>
  obtain⟨e1,e2,hm,_⟩:=du
  by_cases c:q3>0
  ·have mm:∃mn:Int,0<mn∧(if(6:Int)<m then 6 else m)=mn:=⟨_,by split<;>omega,rfl⟩
   obtain⟨mn,mn0,emn⟩:=mm
   have dn:=aO (ns:=ns) (k:=k) (m:=mn) (by omega) (by omega) mn0
   have me:∀j,cf j e=true:=λj=>nU (by omega) (by omega)
   generalize hnear:b+draw ns k mn*e=near
   obtain⟨v,hv,ev⟩:=at6 (a:=near) (b:=near -ea) (c:=near+la) (d:=near -ea -1) (e:=near+la+1) (f:=near) l4 l4'
   refine⟨some (.sh (.int near)),some (.own (.lst [.int near,.int (near -ea),.int (near+la),.int (near -ea -1),.int (near+la+1),.int near])),(if v>0 then v else 0), ?_⟩
   have mi:nE [.int m,.int 6]=some ⟨.c,.int mn⟩:=by rw[←emn];rfl
   have mx:sR [.int 0,.int v]=some ⟨.c,.int (if v>0 then v else 0)⟩:=rfl
   have cc:q3>0:=c
   generalize (if v>0 then v else 0:Int)=vm at*
   unfold cZ
   refine(JK (by simp[eqB,d3,cc])).trans ?_
   refine(av (e:=[some (.sh (.scr ns)),some (.sh (.tup [.tup A,.tup B,.tup C,.tup O])),some (.sh (.int o)),some (.sh (.int k)),some (.sh (.int scale)),some (.sh (.tup [.str "due",.int b,.int e,.int m,.int ea,.int la])),some (.sh (.int (scale*q0))),some (.sh (.int near)),none]) (by simp[mi,dn,me,hnear])).trans ?_
   refine(av (e:=[some (.sh (.scr ns)),some (.sh (.tup [.tup A,.tup B,.tup C,.tup O])),some (.sh (.int o)),some (.sh (.int k)),some (.sh (.int scale)),some (.sh (.tup [.str "due",.int b,.int e,.int m,.int ea,.int la])),some (.sh (.int (scale*q0))),some (.sh (.int near)),some (.own (.lst [.int near,.int (near -ea),.int (near+la),.int (near -ea -1),.int (near+la+1),.int near]))]) (by simp[ah])).trans ?_
   simp[d4,ev,mx]
  ·refine⟨none,none,scale*q0, ?_⟩
   simp[cZ,eqB,d3,c]
theorem JS{ns:List Int}{w:World}{k o:Int}(W:bX w)(h0:0≤o)(h1:o<w.orders.length)(hk:0≤k)(hk2:k<10000):∃h:Int,ja [.scr ns,bB w,.int o,.int k]=some (.int h):=by
 obtain⟨x,hx,hO⟩:=vS h0 h1
 have d1:=aO (ns:=ns) (k:=1) (m:=6) (by omega) (by omega) (by omega)
 obtain⟨scale,c1,c2,e1⟩:=uz ns
 exact Hm d1 e1 c1 c2 hO (W.oo x hx).du (aO (by omega) (by omega) (by omega)) (aO (by omega) (by omega) (by omega)) (aO (by omega) (by omega) (by omega)) (aV ns (k+4000) 6 (by omega)).1 (aV ns (k+4000) 6 (by omega)).2 hk hk2
theorem CM{ns:List Int}{k o st part q6 q7 q8:Int}{A B C O M:List D}{nm g ru dd tp n2 cp yg:D}(hO:atD O o=some (.tup [nm,g,.int st,ru,dd,tp]))(hS:atD B st=some (.tup [n2,.tup (.int part::M),cp,yg]))(hp:1≤part)(hp2:part≤100000)(d6:a9 [.scr ns,.int (k+6000),.int 8]=some (.int q6))(d7:a9 [.scr ns,.int (k+7000),.int 14]=some (.int q7))(d8:a9 [.scr ns,.int (k+8000),.int 6]=some (.int q8))(l8:0≤q8)(l8' :q8<6):
  ∃a:Int,fh [.scr ns,.tup [.tup A,.tup B,.tup C,.tup O],.int o,.int k]=some (.int a):=by
 have mp:∀j,cf part j=true:=λj=>bR (by omega) (by omega)
 generalize hmany:part*(1+q6)=many
 obtain⟨v,hv,ev⟩:=at6 (a:=0) (b:= -many) (c:=many+1) (d:=1000000000) (e:=part*2001) (f:= -1) l8 l8'
 have pre:∀r,(∃a,r=some (Out.ret (.int a)))→aE (ifS (b9 eqB (aG a9 (a5 (vE 0) (a5 (opE aP (vE 3) (kE (.int 7000))) (a5 (kE (.int 14)) aq)))) (kE (.int 0))) (retS (ixE (vE 6) (aG a9 (a5 (vE 0) (a5 (opE aP (vE 3) (kE (.int 8000))) (a5 (kE (.int 6)) aq)))))) bg) (retS (vE 5)) [some (.sh (.scr ns)),some (.sh (.tup [.tup A,.tup B,.tup C,.tup O])),some (.sh (.int o)),some (.sh (.int k)),some (.sh (.int part)),some (.sh (.int many)),some (.own (.lst [.int 0,.int (-many),.int (many+1),.int 1000000000,.int (part*2001),.int (-1)]))]=r→∃a:Int,fh [.scr ns,.tup [.tup A,.tup B,.tup C,.tup O],.int o,.int k]=some (.int a):=by
  rintro r ⟨a,rfl⟩ h
  refine⟨a,bh rfl ?_⟩
  unfold iz
  refine(av (e:=[some (.sh (.scr ns)),some (.sh (.tup [.tup A,.tup B,.tup C,.tup O])),some (.sh (.int o)),some (.sh (.int k)),some (.sh (.int part)),none,none]) (by simp[bz,hO,hS])).trans ?_
  refine(av (e:=[some (.sh (.scr ns)),some (.sh (.tup [.tup A,.tup B,.tup C,.tup O])),some (.sh (.int o)),some (.sh (.int k)),some (.sh (.int part)),some (.sh (.int many)),none]) (by simp[d6,mp,hmany])).trans ?_
  exact(av (e:=[some (.sh (.scr ns)),some (.sh (.tup [.tup A,.tup B,.tup C,.tup O])),some (.sh (.int o)),some (.sh (.int k)),some (.sh (.int part)),some (.sh (.int many)),some (.own (.lst [.int 0,.int (-many),.int (many+1),.int 1000000000,.int (part*2001),.int (-1)]))]) (by simp[mp,ah])).trans h
 by_cases c:q7=0
 ·exact pre _ ⟨v,rfl⟩ (by simp[d7,c,d8,ev])
 ·exact pre _ ⟨many,rfl⟩ (by simp[d7,c])
theorem F6{ns:List Int}{w:World}{k o:Int}(W:bX w)(h0:0≤o)(h1:o<w.orders.length)(hk:0≤k)(hk2:k<10000):∃a:Int,fh [.scr ns,bB w,.int o,.int k]=some (.int a):=by
 obtain⟨x,hx,hO⟩:=vS h0 h1
 have ok:=W.oo x hx
 obtain⟨s,hs,hS⟩:=F5 (w:=w) ok.s0 ok.s1
 have so:=W.so s hs
 exact CM hO hS so.p1 so.p2 (aO (by omega) (by omega) (by omega)) (aO (by omega) (by omega) (by omega)) (aO (by omega) (by omega) (by omega)) (aV ns (k+8000) 6 (by omega)).1 (aV ns (k+8000) 6 (by omega)).2
noncomputable abbrev Tr:=Int×Int×Int
noncomputable def kvT(ts:List Tr):List (List Key×D):=ts.map λt=>([Sum.inl t.1,Sum.inl t.2.1],D.int t.2.2)
theorem Bx(ts:List Tr)(o h:Int):((kvT ts).any λkv=>decide (kv.1=[Sum.inl o,Sum.inl h]))=true↔∃v,(o,h,v)∈ts:=by
 rw[List.any_eq_true]
 constructor
 ·rintro⟨kv,hk,e⟩
  obtain⟨t,ht,rfl⟩:=GaG.mp hk
  have e' :=Gaw e
  simp at e'
  exact⟨t.2.2,by rw[←e'.1,←e'.2];exact ht⟩
 ·rintro⟨v,hv⟩
  exact⟨_,GaG.mpr ⟨_,hv,rfl⟩,by simp⟩
theorem ql(ts:List Tr)(o h v:Int):∃ts' :List Tr,DL.put (kvT ts) [Sum.inl o,Sum.inl h] (.int v)=kvT ts' ∧ts'.length≤ts.length+1∧(∀t∈ts',t∈ts∨t=(o,h,v))∧((∃v,(o,h,v)∈ts)→ts'.length=ts.length)∧∃v,(o,h,v)∈ts' :=by
 unfold DL.put
 by_cases c:((kvT ts).any λkv=>decide (kv.1=[Sum.inl o,Sum.inl h]))=true
 ·rw[Gah c]
  refine⟨ts.map λt=>if t.1=o∧t.2.1=h then(o,h,v) else t, ?_,by simp,λt ht=> ?_,λ_=>by simp,v, ?_⟩
  ·unfold kvT
   rw[GaS,GaS]
   refine GaO λt _=> ?_
   simp only[Function.comp]
   by_cases c:t.1=o∧t.2.1=h
   ·have e:([Sum.inl t.1,Sum.inl t.2.1]:List Key)=[Sum.inl o,Sum.inl h]:=by rw[c.1,c.2]
    rw[Gah e,Gah c,c.1,c.2]
   ·have e:¬([Sum.inl t.1,Sum.inl t.2.1]:List Key)=[Sum.inl o,Sum.inl h]:=λz=>by
     simp at z
     exact c z
    rw[Gag e,Gag c]
  ·obtain⟨s,hs,rfl⟩:=GaG.mp ht
   split
   ·exact .inr rfl
   ·exact .inl hs
  ·obtain⟨v',hv'⟩:=(Bx ts o h).mp c
   exact GaG.mpr ⟨_,hv',by simp⟩
 ·rw[Gag c]
  refine⟨ts++[(o,h,v)],by simp[kvT],by simp,λt ht=> ?_,λq=>absurd ((Bx ts o h).mpr q) c,v,by simp⟩
  rcases Gay.mp ht with h|h
  ·exact .inl h
  ·exact .inr (by simpa using h)
theorem jT(ts:List Tr):bL (kvT ts)=ts.map λt=>D.tup [.tup [.int t.1,.int t.2.1],.int t.2.2]:=by
 unfold bL kvT
 rw[GaS]
 rfl
theorem vT(ts:List Tr):bH (gT [0,1]) iQ (bQ (a5 (ixE (vE 0) (kE (.int 0))) (a5 (ixE (vE 0) (kE (.int 1))) (a5 (vE 1) aq)))) (bL (kvT ts)) [none,none]=some (ts.map trD):=by
 rw[jT]
 refine jS (g:=gT [0,1]) (λt:Tr=>D.tup [.tup [.int t.1,.int t.2.1],.int t.2.2]) (λenv=>∃y z,env=[y,z]) trD ts _ ⟨none,none,rfl⟩ ?_
 rintro t ht env ⟨y,z,rfl⟩
 refine⟨[some (.sh (.tup [.int t.1,.int t.2.1])),some (.sh (.int t.2.2))],by simp,⟨_,_,rfl⟩,.c, ?_,rfl⟩
 simp[ah,trD]
theorem Hn(ts:List Tr):keysOk (ts.map trD)=true:=by
 have h1:(ts.map trD).all (mq 1)=true:=by
  rw[GbB,Gat]
  intro p _
  simp[trD,mq,tyD,mj]
 have h2:((ts.map trD).all λx=>(ts.map trD).all λy=>vd x y)=true:=by
  rw[GbB,Gat]
  intro p _
  simp only[Gce]
  rw[GbB,Gat]
  intro q _
  simp[trD,vd,mC,tyD,aY]
 unfold keysOk
 rw[h1,h2];simp
noncomputable def Ho:D→Tr
 | .tup [.int a,.int b,.int c]=>(a,b,c)
 |_=>(0,0,0)
theorem By(ts:List Tr)(hl:ts.length<64):∃rs:List Tr,sortedS [.lst (ts.map trD)]=some ⟨.tn,.lst (rs.map trD)⟩∧rs.Perm ts:=by
 have hp:=fK (ts.map trD)
 have all:∀x∈cR (ts.map trD),∃p,x=trD p:=λx hx=>by
  obtain⟨p,_,e⟩:=GaG.mp (hp.mem_iff.mp hx)
  exact⟨p,e.symm⟩
 have e:cR (ts.map trD)=((cR (ts.map trD)).map Ho).map trD:=by
  rw[GaS]
  conv=>lhs;rw[←Gcv (cR (ts.map trD))]
  apply GaO
  intro x hx
  obtain⟨p,rfl⟩:=all x hx
  rfl
 refine⟨(cR (ts.map trD)).map Ho, ?_, ?_⟩
 ·rw[←e]
  have h1:((ts.map trD).length<64):=by simpa using hl
  unfold sortedS one mz
  simp only[Option.bind_some]
  rw[Hn,GaF h1];rfl
 ·have:=Gdn Ho hp
  rw[GaS] at this
  have e2:ts.map (Ho∘trD)=ts:=by
   conv=>rhs;rw[←Gcv ts]
   exact GaO λp _=>rfl
  rw[e2] at this
  exact this
theorem tu{ns:List Int}{scale many n LG qa qb qc qd qe g h v:Int}{A B C O:List D}{ts ts' :List Tr}{x6:Option Slot}(hLG:cB [.tup A]=some ⟨.c,.int LG⟩)(da:a9 [.scr ns,.int (900+n),.int LG]=some (.int qa))(db:a9 [.scr ns,.int (920+n),.int 50]=some (.int qb))(ms:∀j,cf scale j=true)(dc:a9 [.scr ns,.int 980,.int 2]=some (.int qc))(hgh:(n<LG∧qc=0∧g=n∧h=0)∨(¬(n<LG∧qc=0)∧g=qa∧h=scale*qb))(dd:a9 [.scr ns,.int (940+n),.int 200]=some (.int qd))(de:a9 [.scr ns,.int (960+n),.int 8]=some (.int qe))(hv:atD [D.int (1+qd),.int 1000000] (qe/7)=some (.int v))
  (hp:DL.put (kvT ts) [Sum.inl g,Sum.inl h] (.int v)=kvT ts')(hz:(kvT ts).length<1000):
  ∃y6,cw [some (.sh (.scr ns)),some (.sh (.tup [.tup A,B',C',O'])),some (.sh (.int many)),some (.sh (.int scale)),some (.own (.dT (kvT ts))),some (.sh (.int n)),x6]=
   some (.nx [some (.sh (.scr ns)),some (.sh (.tup [.tup A,B',C',O'])),some (.sh (.int many)),some (.sh (.int scale)),some (.own (.dT (kvT ts'))),some (.sh (.int n)),y6]):=by
 have z:(kvT ts).length<16777216:=by omega
 generalize hkv:kvT ts=kv at*
 refine⟨some (.sh (.tup [.int g,.int h])), ?_⟩
 unfold cw
 refine(av (e:=[some (.sh (.scr ns)),some (.sh (.tup [.tup A,B',C',O'])),some (.sh (.int many)),some (.sh (.int scale)),some (.own (.dT kv)),some (.sh (.int n)),some (.sh (.tup [.int qa,.int (scale*qb)]))]) (by simp[-gP,hLG,da,db,ms,ah])).trans ?_
 refine(av (e:=[some (.sh (.scr ns)),some (.sh (.tup [.tup A,B',C',O'])),some (.sh (.int many)),some (.sh (.int scale)),some (.own (.dT kv)),some (.sh (.int n)),some (.sh (.tup [.int g,.int h]))]) ?_).trans ?_
 ·rcases hgh with⟨c1,c2,rfl,rfl⟩| ⟨c,rfl,rfl⟩
  ·simp[-gP,hLG,c1,c2,dc,ah]
  ·by_cases c1:n<LG
   ·have c2:¬qc=0:=λz=>c ⟨c1,z⟩
    simp[-gP,hLG,c1,c2,dc]
   ·simp[-gP,hLG,c1]
 ·simp[dd,de,hv,putD,keyOf,z,ah,hp]
theorem vU{ns:List Int}{w:World}{scale many n:Int}{ts:List Tr}{x6:Option Slot}(W:bX w)(hs:1≤scale)(hs2:scale≤1000000)(hn:0≤n)(hn2:n<100)(hl:ts.length≤100):
  ∃(ts' :List Tr) (y6:Option Slot),ts'.length≤ts.length+1∧cw [some (.sh (.scr ns)),some (.sh (bB w)),some (.sh (.int many)),some (.sh (.int scale)),some (.own (.dT (kvT ts))),some (.sh (.int n)),x6]=
   some (.nx [some (.sh (.scr ns)),some (.sh (bB w)),some (.sh (.int many)),some (.sh (.int scale)),some (.own (.dT (kvT ts'))),some (.sh (.int n)),y6]):=by
 have g1:=W.g1
 have g6:=W.g6
 have hLG:cB [.tup (w.cC.map d9)]=some ⟨.c,.int (w.cC.length:Int)⟩:=by simp[cB]
 have da:=aO (ns:=ns) (k:=900+n) (m:=(w.cC.length:Int)) (by omega) (by omega) (by omega)
 have db:=aO (ns:=ns) (k:=920+n) (m:=50) (by omega) (by omega) (by omega)
 have dc:=aO (ns:=ns) (k:=980) (m:=2) (by omega) (by omega) (by omega)
 have dd:=aO (ns:=ns) (k:=940+n) (m:=200) (by omega) (by omega) (by omega)
 have de:=aO (ns:=ns) (k:=960+n) (m:=8) (by omega) (by omega) (by omega)
 have le:=aV ns (960+n) 8 (by omega)
 obtain⟨v,_,hv⟩:=at2 (a:=1+draw ns (940+n) 200) (b:=1000000) (q:=draw ns (960+n) 8/7) (by omega) (by omega)
 have hz:(kvT ts).length<1000:=by unfold kvT;rw[Gae];omega
 by_cases c:n<(w.cC.length:Int)∧draw ns 980 2=0
 ·obtain⟨ts',p1,p2,_⟩:=ql ts n 0 v
  obtain⟨y6,e⟩:=tu (scale:=scale) (many:=many) (x6:=x6) (B:=[]) (C:=[]) (O:=[]) hLG da db (λj=>bR (by omega) (by omega)) dc (.inl ⟨c.1,c.2,rfl,rfl⟩) dd de hv p1 hz
  exact⟨ts',y6,p2,e⟩
 ·obtain⟨ts',p1,p2,_⟩:=ql ts (draw ns (900+n) (w.cC.length:Int)) (scale*draw ns (920+n) 50) v
  obtain⟨y6,e⟩:=tu (many:=many) (x6:=x6) (B:=[]) (C:=[]) (O:=[]) hLG da db (λj=>bR (by omega) (by omega)) dc (.inr ⟨c,rfl,rfl⟩) dd de hv p1 hz
  exact⟨ts',y6,p2,e⟩
theorem ju(ts:List Tr):aN (ts.map trD)=true:=g8 uy ts
theorem vV{ns:List Int}{q1 scale many:Int}{wd:D}{kv:List (List Key×D)}{R Rs:List D}{y5 y6:Option Slot}(d1:a9 [.scr ns,.int 1,.int 6]=some (.int q1))(h1:atD [D.int 1,.int 1,.int 1,.int 1,.int 1,.int 1000000] q1=some (.int scale))(sm:bU many=true)
  (l1:forL (gN 5) cw (bx 0 many.toNat) [some (.sh (.scr ns)),some (.sh wd),some (.sh (.int many)),some (.sh (.int scale)),some (.own (.dT [])),none,none]=some (.nx [some (.sh (.scr ns)),some (.sh wd),some (.sh (.int many)),some (.sh (.int scale)),some (.own (.dT kv)),y5,y6]))
  (hz:(bL kv).length≤16777216)(hc:bH (gT [0,1]) iQ (bQ (a5 (ixE (vE 0) (kE (.int 0))) (a5 (ixE (vE 0) (kE (.int 1))) (a5 (vE 1) aq)))) (bL kv) [none,none]=some R)(hs:sortedS [.lst R]=some ⟨.tn,.lst Rs⟩)(im:aN Rs=true):fG [.scr ns,wd,.int many]=some (.tup Rs):=by
 refine bh rfl ?_
 unfold gE
 refine(av (e:=[some (.sh (.scr ns)),some (.sh wd),some (.sh (.int many)),some (.sh (.int scale)),none,none,none]) (by simp[bz,d1,h1,ah])).trans ?_
 refine(av (e:=[some (.sh (.scr ns)),some (.sh wd),some (.sh (.int many)),some (.sh (.int scale)),some (.own (.dT [])),none,none]) (by simp)).trans ?_
 refine(av (e:=[some (.sh (.scr ns)),some (.sh wd),some (.sh (.int many)),some (.sh (.int scale)),some (.own (.dT kv)),y5,y6]) (by simp[-forL,sm,l1])).trans ?_
 simp[-bH,ah,DL.compEnv,dF,hz,hc,hs,im]
theorem CN{ns:List Int}{w:World}{n:Nat}(W:bX w)(hn:n≤60):∃ws:List Tr,ws.length≤60∧fG [.scr ns,bB w,.int (n:Int)]=some (.tup (ws.map trD)):=by
 have d1:=aO (ns:=ns) (k:=1) (m:=6) (by omega) (by omega) (by omega)
 obtain⟨scale,c1,c2,h1⟩:=uz ns
 obtain⟨e,l1,ts,y5,y6,t1,rfl⟩:=fj (g:=gN 5) (body:=cw) (λm env=>∃(ts:List Tr) (y5 y6:Option Slot),ts.length≤m∧env=[some (.sh (.scr ns)),some (.sh (bB w)),some (.sh (.int (n:Int))),some (.sh (.int scale)),some (.own (.dT (kvT ts))),y5,y6]) (bx 0 (n:Int).toNat) 0 [some (.sh (.scr ns)),some (.sh (bB w)),some (.sh (.int (n:Int))),some (.sh (.int scale)),some (.own (.dT [])),none,none] ⟨[],none,none,by simp,rfl⟩ (by
  rintro i d e hd ⟨ts,y5,y6,t1,rfl⟩
  obtain⟨hi,rfl⟩:=cQ hd
  obtain⟨ts',z6,p1,p2⟩:=vU (ns:=ns) (w:=w) (scale:=scale) (many:=(n:Int)) (n:=0+(i:Int)) (ts:=ts) (x6:=y6) W c1 c2 (by omega) (by omega) (by omega)
  exact⟨_,_,rfl,p2,ts',some (.sh (.int (0+(i:Int)))),z6,by omega,rfl⟩)
 rw[dY] at t1
 obtain⟨rs,r1,r2⟩:=By ts (by omega)
 have hz:(bL (kvT ts)).length≤16777216:=by rw[jT,Gae];omega
 exact⟨rs,by rw[r2.length_eq];omega,vV d1 h1 (bZ (by omega) (by omega)) l1 hz (vT ts) r1 (ju rs)⟩
theorem CO{ns:List Int}{many n LO o h a q:Int}{A B C O:List D}{ts t1 t2:List Tr}{x5 x6:Option Slot}(hLO:cB [.tup O]=some ⟨.c,.int LO⟩)(d0:a9 [.scr ns,.int (1000+n),.int LO]=some (.int o))(eh:ja [.scr ns,.tup [.tup A,.tup B,.tup C,.tup O],.int o,.int (1100+n)]=some (.int h))(ea:fh [.scr ns,.tup [.tup A,.tup B,.tup C,.tup O],.int o,.int (1100+n)]=some (.int a))(dq:a9 [.scr ns,.int (1050+n),.int 40]=some (.int q))(p1:DL.put (kvT ts) [Sum.inl o,Sum.inl h] (.int a)=kvT t1)(p2:DL.put (kvT t1) [Sum.inl o,Sum.inl h] (.int (10000000000000000000000000000000000000000+n))=kvT t2)(hz:(kvT ts).length<1000)(hz2:(kvT t1).length<1000):
  cx [some (.sh (.scr ns)),some (.sh (.tup [.tup A,.tup B,.tup C,.tup O])),some (.sh (.int many)),some (.own (.dT (kvT ts))),some (.sh (.int n)),x5,x6]=
   some (.nx [some (.sh (.scr ns)),some (.sh (.tup [.tup A,.tup B,.tup C,.tup O])),some (.sh (.int many)),some (.own (.dT (if q=0 then kvT t2 else kvT t1))),some (.sh (.int n)),some (.sh (.int o)),some (.sh (.tup [.int o,.int h]))]):=by
 have z:(kvT ts).length<16777216:=by omega
 have z2:(kvT t1).length<16777216:=by omega
 generalize kvT ts=k0 at*
 generalize kvT t1=k1 at*
 generalize kvT t2=k2 at*
 unfold cx
 refine(av (e:=[some (.sh (.scr ns)),some (.sh (.tup [.tup A,.tup B,.tup C,.tup O])),some (.sh (.int many)),some (.own (.dT k0)),some (.sh (.int n)),some (.sh (.int o)),x6]) (by simp[-gP,hLO,d0])).trans ?_
 refine(av (e:=[some (.sh (.scr ns)),some (.sh (.tup [.tup A,.tup B,.tup C,.tup O])),some (.sh (.int many)),some (.own (.dT k0)),some (.sh (.int n)),some (.sh (.int o)),some (.sh (.tup [.int o,.int h]))]) (by simp[eh,ah])).trans ?_
 refine(av (e:=[some (.sh (.scr ns)),some (.sh (.tup [.tup A,.tup B,.tup C,.tup O])),some (.sh (.int many)),some (.own (.dT k1)),some (.sh (.int n)),some (.sh (.int o)),some (.sh (.tup [.int o,.int h]))]) (by simp[ea,putD,keyOf,z,ah,p1])).trans ?_
 by_cases c:q=0
 ·rw[Gah c]
  simp[dq,c,putD,keyOf,z2,ah,p2]
 ·rw[Gag c]
  simp[dq,c]
noncomputable def gY(n:Nat)(gv:List Tr):Prop:=∀t∈gv,0≤t.1∧t.1<n
theorem vW{ns:List Int}{w:World}{many n:Int}{ts:List Tr}{x5 x6:Option Slot}(W:bX w)(hn:0≤n)(hn2:n<100)(hl:ts.length≤100)(hg:gY w.orders.length ts):
  ∃(ts' :List Tr) (y5 y6:Option Slot),ts'.length≤ts.length+1∧gY w.orders.length ts' ∧cx [some (.sh (.scr ns)),some (.sh (bB w)),some (.sh (.int many)),some (.own (.dT (kvT ts))),some (.sh (.int n)),x5,x6]=
   some (.nx [some (.sh (.scr ns)),some (.sh (bB w)),some (.sh (.int many)),some (.own (.dT (kvT ts'))),some (.sh (.int n)),y5,y6]):=by
 have o1:=W.o1
 have o12:=W.o12
 have hLO:cB [.tup (w.orders.map aI)]=some ⟨.c,.int (w.orders.length:Int)⟩:=by simp[cB]
 have d0:=aO (ns:=ns) (k:=1000+n) (m:=(w.orders.length:Int)) (by omega) (by omega) (by omega)
 have l0:=aV ns (1000+n) (w.orders.length:Int) (by omega)
 generalize draw ns (1000+n) (w.orders.length:Int)=o at*
 obtain⟨h,eh⟩:=JS (ns:=ns) (w:=w) (k:=1100+n) (o:=o) W l0.1 l0.2 (by omega) (by omega)
 obtain⟨a,ea⟩:=F6 (ns:=ns) (w:=w) (k:=1100+n) (o:=o) W l0.1 l0.2 (by omega) (by omega)
 have dq:=aO (ns:=ns) (k:=1050+n) (m:=40) (by omega) (by omega) (by omega)
 obtain⟨t1,p1,p2,p3,_,p4⟩:=ql ts o h a
 obtain⟨t2,r1,r2,r3,r4,_⟩:=ql t1 o h (10000000000000000000000000000000000000000+n)
 have hz:(kvT ts).length<1000:=by unfold kvT;rw[Gae];omega
 have hz2:(kvT t1).length<1000:=by unfold kvT;rw[Gae];omega
 have ev:=CO (many:=many) (x5:=x5) (x6:=x6) hLO d0 eh ea dq p1 r1 hz hz2
 have g1:gY w.orders.length t1:=λt ht=>by
  rcases p3 t ht with q|q
  ·exact hg t q
  ·rw[q];exact l0
 have g2:gY w.orders.length t2:=λt ht=>by
  rcases r3 t ht with q|q
  ·exact g1 t q
  ·rw[q];exact l0
 by_cases c:draw ns (1050+n) 40=0
 ·rw[Gah c] at ev
  exact⟨t2,_,_,by have:=r4 p4;omega,g2,ev⟩
 ·rw[Gag c] at ev
  exact⟨t1,_,_,by omega,g1,ev⟩
theorem vX{ns:List Int}{many:Int}{wd:D}{kv:List (List Key×D)}{R Rs:List D}{y4 y5 y6:Option Slot}(sm:bU many=true)
  (l1:forL (gN 4) cx (bx 0 many.toNat) [some (.sh (.scr ns)),some (.sh wd),some (.sh (.int many)),some (.own (.dT [])),none,none,none]=some (.nx [some (.sh (.scr ns)),some (.sh wd),some (.sh (.int many)),some (.own (.dT kv)),y4,y5,y6]))
  (hz:(bL kv).length≤16777216)(hc:bH (gT [0,1]) iQ (bQ (a5 (ixE (vE 0) (kE (.int 0))) (a5 (ixE (vE 0) (kE (.int 1))) (a5 (vE 1) aq)))) (bL kv) [none,none]=some R)(hs:sortedS [.lst R]=some ⟨.tn,.lst Rs⟩)(im:aN Rs=true):fH [.scr ns,wd,.int many]=some (.tup Rs):=by
 refine bh rfl ?_
 unfold gF
 refine(av (e:=[some (.sh (.scr ns)),some (.sh wd),some (.sh (.int many)),some (.own (.dT [])),none,none,none]) (by simp[bz])).trans ?_
 refine(av (e:=[some (.sh (.scr ns)),some (.sh wd),some (.sh (.int many)),some (.own (.dT kv)),y4,y5,y6]) (by simp[-forL,sm,l1])).trans ?_
 simp[-bH,ah,DL.compEnv,dF,hz,hc,hs,im]
theorem CP{ns:List Int}{w:World}{n:Nat}(W:bX w)(hn:n<64):∃gv:List Tr,gv.length<64∧gY w.orders.length gv∧fH [.scr ns,bB w,.int (n:Int)]=some (.tup (gv.map trD)):=by
 obtain⟨e,l1,ts,y4,y5,y6,t1,t2,rfl⟩:=fj (g:=gN 4) (body:=cx) (λm env=>∃(ts:List Tr) (y4 y5 y6:Option Slot),ts.length≤m∧gY w.orders.length ts∧env=[some (.sh (.scr ns)),some (.sh (bB w)),some (.sh (.int (n:Int))),some (.own (.dT (kvT ts))),y4,y5,y6]) (bx 0 (n:Int).toNat) 0 [some (.sh (.scr ns)),some (.sh (bB w)),some (.sh (.int (n:Int))),some (.own (.dT [])),none,none,none] ⟨[],none,none,none,by simp,λt ht=>by simp at ht,rfl⟩ (by
  rintro i d e hd ⟨ts,y4,y5,y6,t1,t2,rfl⟩
  obtain⟨hi,rfl⟩:=cQ hd
  obtain⟨ts',z5,z6,p1,p2,p3⟩:=vW (ns:=ns) (w:=w) (many:=(n:Int)) (n:=0+(i:Int)) (ts:=ts) (x5:=y5) (x6:=y6) W (by omega) (by omega) (by omega) t2
  exact⟨_,_,rfl,p3,ts',some (.sh (.int (0+(i:Int)))),z5,z6,by omega,p2,rfl⟩)
 rw[dY] at t1
 obtain⟨rs,r1,r2⟩:=By ts (by omega)
 have hz:(bL (kvT ts)).length≤16777216:=by rw[jT,Gae];omega
 exact⟨rs,by rw[r2.length_eq];omega,λt ht=>t2 t (r2.mem_iff.mp ht),vX (bZ (by omega) (by omega)) l1 hz (vT ts) r1 (ju rs)⟩
noncomputable def jh:Option Int→D
 |some k=> .int k
 |none=> .non
@[simp] theorem CQ{k:Int}:jh (some k)= .int k:=rfl
@[simp] theorem CS:jh none= .non:=rfl
theorem jU(o:Option Int):(jh o).imm=true:=by cases o<;>rfl
noncomputable def vY(b e m ea la h:Int):Option Int:=
 if(0≤(h -(b -ea))/e∧(h -(b -ea))/e<m)∧h -(b -ea)-(h -(b -ea))/e*e≤ea+la then some ((h -(b -ea))/e) else none
noncomputable def mF:rY→Int→Option Int
 | .asked _,_=>none
 | .due b e m ea la,h=>vY b e m ea la h
theorem pA{o:Order}{h:Int}(ok:jJ o.dQ):j4 [aI o,.int h]=some (jh (mF o.dQ h)):=by
 obtain⟨name,g,st,way,top,per,most,u,ts⟩:=o
 unfold aI
 cases u with
 |asked b=>
  unfold j4 jR cZ mF
  simp
 |due b e m ea la=>
  obtain⟨e1,e2,hm,a0,l0,al,ab,b3⟩:=ok
  have p1:∀i,cf i e=true:=λi=>nU (by omega) (by omega)
  have p2:0<e∧e<1073741824:=by omega
  unfold j4 jR cZ mF vY
  simp[p1,p2]
  generalize hk:(h -(b -ea))/e=k
  by_cases c1:0≤k
  ·by_cases c2:k<m
   ·by_cases c3:h -(b -ea)-k*e≤ea+la
    ·have c4:¬ea+la<h -(b -ea)-k*e:=by omega
     simp[c1,c2,c3,c4]
    ·have c4:ea+la<h -(b -ea)-k*e:=by omega
     simp[c1,c2,c3,c4]
   ·simp[c1,c2]
  ·simp[c1]
noncomputable def dM:rY→Int→Bool
 | .asked b,h=>decide (h<b)
 | .due b e m ea la,h=>(vY b e m ea la h).isNone
theorem vZ{o:Order}{h:Int}(ok:jJ o.dQ):lu [aI o,.int h]=some (.bl (dM o.dQ h)):=by
 have d:=pA (h:=h) ok
 obtain⟨name,g,st,way,top,per,most,u,ts⟩:=o
 unfold aI at d⊢
 cases u with
 |asked b=>
  unfold lu lq cZ dM
  simp
 |due b e m ea la=>
  unfold mF at d
  unfold lu lq dM
  unfold cZ at d⊢
  have rv:=cL (jU (vY b e m ea la h))
  simp[d,rv]
  cases vY b e m ea la h<;>simp[qx,dB]
noncomputable def wgt(g h:Int):List Tr→Option Int→Option Int
 |[],f=>f
 |t::ts,f=>wgt g h ts (if t.1=g∧t.2.1≤h then some t.2.2 else f)
theorem pB{body:DS}{wd:D}{g h:Int}(st:∀(t:Tr) (f:Option Int),body [some (.sh wd),some (.sh (.int g)),some (.sh (.int h)),some (.sh (jh f)),some (.sh (trD t))]=some (.nx [some (.sh wd),some (.sh (.int g)),some (.sh (.int h)),some (.sh (jh (if t.1=g∧t.2.1≤h then some t.2.2 else f))),some (.sh (trD t))])):
  ∀(ts:List Tr) (f:Option Int) (x4:Option Slot),∃y4,forL (gN 4) body (ts.map trD) [some (.sh wd),some (.sh (.int g)),some (.sh (.int h)),some (.sh (jh f)),x4]=some (.nx [some (.sh wd),some (.sh (.int g)),some (.sh (.int h)),some (.sh (jh (wgt g h ts f))),y4])
 |[],f,x4=> ⟨x4,by simp[wgt]⟩
 |t::ts,f,x4=>by
  obtain⟨y4,e⟩:=pB st ts (if t.1=g∧t.2.1≤h then some t.2.2 else f) (some (.sh (trD t)))
  refine⟨y4, ?_⟩
  have e1:=st t f
  rw[Gar]
  show forL (gN 4) body (trD t::ts.map trD) _=_
  generalize trD t=td at*
  simp only[forL,gN,GaW,GaX,Option.bind_some,e1]
  exact e
theorem lC{ws:List Tr}{g h:Int}:gU [.tup (ws.map trD),.int g,.int h]=some (jh (wgt g h ws none)):=by
 obtain⟨y4,e⟩:=pB (body:=j5) (wd:= .tup (ws.map trD)) (g:=g) (h:=h) (λt f=>by
  unfold j5 trD
  by_cases c1:t.1=g
  ·by_cases c2:t.2.1≤h
   ·simp[c1,c2,eqB]
   ·simp[c1,c2,eqB]
  ·simp[c1,eqB]) ws none none
 rw[CS] at e
 have im:=jU (wgt g h ws none)
 refine bh rfl ?_
 unfold gS
 generalize jh (wgt g h ws none)=r at*
 generalize ws.map trD=W at*
 refine(av (e:=[some (.sh (.tup W)),some (.sh (.int g)),some (.sh (.int h)),some (.sh .non),none]) (by simp[bz])).trans ?_
 refine(av (e:=[some (.sh (.tup W)),some (.sh (.int g)),some (.sh (.int h)),some (.sh r),y4]) (by simp[-forL,e])).trans ?_
 simp[im]
noncomputable def iC:Cap→Option Int→Option Int
 | .ever t,_=>some t
 | .flat _ t,_=>some t
 | .kilo _ t p,w=>w.map λw=>w*t/p
theorem AB{c:Cap}{w:Option Int}(ok:pz c):jo [cY c,jh w]=some (jh (iC c w)):=by
 cases c with
 |ever t=>unfold jo ka cY iC;simp
 |flat h t=>unfold jo ka cY iC;simp
 |kilo h t p=>
  obtain⟨h1,t1,t2,p1,p2⟩:=ok
  cases w with
  |none=>unfold jo ka cY iC;simp[qx,dB]
  |some w=>
   have mm:cf w t=true:=nU (by omega) (by omega)
   have pp:0<p∧p<1073741824:=by omega
   unfold jo ka cY iC
   simp[qx,dB,mm,pp]
noncomputable def dZ:Cap→Bool
 | .kilo _ _ _=>true
 |_=>false
theorem CT{s:jt}(hc:s.aR.length≤4):fc [b4 s]=some (.bl (s.aR.any dZ)):=by
 have c:=jS (g:=gN 0) (f:=bE (b9 eqB (ixE (vE 0) (kE (.int 0))) (kE (.str "kilo")))) cY (λenv=>∃y,env=[y]) (λc=> .bl (dZ c)) s.aR [none] ⟨none,rfl⟩ (by
  rintro c hc env ⟨y,rfl⟩
  refine⟨_,rfl,⟨_,rfl⟩,.c, ?_,rfl⟩
  cases c<;>simp[cY,dZ,eqB])
 have z:(s.aR.map cY).length≤16777216:=by rw[Gae];omega
 have e2:s.aR.map (λc=>D.bl (dZ c))=(s.aR.map dZ).map D.bl:=by rw[GaS];rfl
 rw[e2] at c
 have an:((s.aR.map dZ).any id)=s.aR.any dZ:=by rw[List.any_map];rfl
 unfold fc fb b4
 generalize s.aR.map cY=C at*
 rw[←an]
 generalize s.aR.map dZ=bs at*
 simp[-bH,ah,DL.compEnv,dF,c,z]
noncomputable abbrev Flt:=Str×List Int
noncomputable def aw(f:Flt):D:= .tup (.str f.1::f.2.map .int)
noncomputable def kk(b:Bool)(x:Str):List Str:=if b then[x] else[]
theorem nX{L:List Str}{b:Bool}{x:Str}{t:DT}{e0 e1 e2 e3 e4 e5 e6 e7:Option Slot}(ht:t [e0,e1,e2,e3,e4,e5,e6,e7,some (.own (.lst (L.map .str)))]=some b)(hl:L.length<1000):
  ifS t (kS 8 (kE (.str x))) bg [e0,e1,e2,e3,e4,e5,e6,e7,some (.own (.lst (L.map .str)))]=some (.nx [e0,e1,e2,e3,e4,e5,e6,e7,some (.own (.lst ((L++kk b x).map .str)))]):=by
 have z:(L.map D.str).length<16777216:=by rw[Gae];omega
 have e:(L++kk b x).map D.str=L.map D.str++(kk b x).map D.str:=by rw[GaJ]
 rw[e]
 cases b with
 |true=>
  generalize L.map D.str=M at*
  simp[ht,kk,ah,z]
 |false=>
  generalize L.map D.str=M at*
  simp[ht,kk]
noncomputable def lD(o:Order)(s:jt)(born:Int)(ws:List Tr)(t:Tr):List Str:=
 kk (dM o.dQ t.2.1) "astray"++kk (decide (o.most<t.2.2)) "most"++kk (decide (t.2.2<1)||decide (¬t.2.2%s.part=0)) "part"++kk (s.aR.any dZ&&(wgt o.cT t.2.1 ws none).isNone) "weight"++kk (decide (t.2.1<born+s.young)) "young"
theorem df(b:Bool)(x:Str):(kk b x).length≤1:=by cases b<;>simp[kk]
theorem CU{K:List Str}{n h:Int}:bH (gN 0) iQ (bQ (a5 (vE 0) (a5 (vE 1) (a5 (vE 2) aq)))) (K.map .str) [none,some (.sh (.int n)),some (.sh (.int h))]=some (K.map λk=>aw (k,[n,h])):=by
 refine jS (g:=gN 0) D.str (λenv=>∃y,env=[y,some (.sh (.int n)),some (.sh (.int h))]) (λk=>aw (k,[n,h])) K _ ⟨none,rfl⟩ ?_
 rintro k hk env ⟨y,rfl⟩
 refine⟨_,rfl,⟨_,rfl⟩,.c, ?_,rfl⟩
 simp[ah,aw]
theorem gy(fs:List Flt):aN (fs.map aw)=true:=g8 (λf=>by
 have:=nV f.2
 simp[aw,this]) fs
theorem JT{A B C O:List D}{o:Order}{s:jt}{gu:Str×Int}{ws:List Tr}{t:Tr}(hO:atD O t.1=some (aI o))(du:jJ o.dQ)(hS:atD B o.gh=some (b4 s))(so:mh s)(hG:atD A o.cT=some (d9 gu))(im:(aI o).imm=true):
  fC [.tup [.tup A,.tup B,.tup C,.tup O],.tup (ws.map trD),trD t]=some (.lst ((lD o s gu.2 ws t).map λk=>aw (k,[t.1,t.2.1]))):=by
 have ea:=vZ (h:=t.2.1) du
 have eg:=CT (s:=s) so.cl
 have ew:=lC (ws:=ws) (g:=o.cT) (h:=t.2.1)
 have sp:=so.p1
 have is:=kg s
 obtain⟨n,h,a⟩:=t
 dsimp only at*
 have rw' :=cL (jU (wgt o.cT h ws none))
 generalize hW:ws.map trD=W at*
 have p1:ixD (aI o) (.int 3)=some (.tup [.str o.way,.int o.top,.int o.per,.int o.most]):=rfl
 have p2:ixD (aI o) (.int 1)=some (.int o.cT):=rfl
 have p3:ixD (aI o) (.int 2)=some (.int o.gh):=rfl
 have p4:ixD (b4 s) (.int 1)=some (.tup (.int s.part::s.more.map .int)):=rfl
 have p5:ixD (b4 s) (.int 3)=some (.int s.young):=rfl
 have p6:ixD (d9 gu) (.int 1)=some (.int gu.2):=rfl
 generalize aI o=OD at*
 generalize b4 s=SD at*
 generalize d9 gu=GD at*
 have sp' :0<s.part:=by omega
 refine bh rfl ?_
 unfold gB trD
 refine(av (e:=[some (.sh (.tup [.tup A,.tup B,.tup C,.tup O])),some (.sh (.tup W)),some (.sh (.tup [.int n,.int h,.int a])),some (.sh (.int n)),none,none,none,none,none]) (by simp[bz])).trans ?_
 refine(av (e:=[some (.sh (.tup [.tup A,.tup B,.tup C,.tup O])),some (.sh (.tup W)),some (.sh (.tup [.int n,.int h,.int a])),some (.sh (.int n)),some (.sh (.int h)),none,none,none,none]) (by simp)).trans ?_
 refine(av (e:=[some (.sh (.tup [.tup A,.tup B,.tup C,.tup O])),some (.sh (.tup W)),some (.sh (.tup [.int n,.int h,.int a])),some (.sh (.int n)),some (.sh (.int h)),some (.sh (.int a)),none,none,none]) (by simp)).trans ?_
 refine(av (e:=[some (.sh (.tup [.tup A,.tup B,.tup C,.tup O])),some (.sh (.tup W)),some (.sh (.tup [.int n,.int h,.int a])),some (.sh (.int n)),some (.sh (.int h)),some (.sh (.int a)),some (.sh OD),none,none]) (by simp[hO,im])).trans ?_
 refine(av (e:=[some (.sh (.tup [.tup A,.tup B,.tup C,.tup O])),some (.sh (.tup W)),some (.sh (.tup [.int n,.int h,.int a])),some (.sh (.int n)),some (.sh (.int h)),some (.sh (.int a)),some (.sh OD),some (.sh SD),none]) (by simp[p3,hS,is])).trans ?_
 refine(av (e:=[some (.sh (.tup [.tup A,.tup B,.tup C,.tup O])),some (.sh (.tup W)),some (.sh (.tup [.int n,.int h,.int a])),some (.sh (.int n)),some (.sh (.int h)),some (.sh (.int a)),some (.sh OD),some (.sh SD),some (.own (.lst (([]:List Str).map .str)))]) (by simp[ah])).trans ?_
 refine(av (nX (b:=dM o.dQ h) (by simp[ea]) (by simp))).trans ?_
 refine(av (nX (b:=decide (o.most<a)) (by simp[p1]) (by have:=df (dM o.dQ h) "astray";simp;omega))).trans ?_
 refine(av (nX (b:=decide (a<1)||decide (¬a%s.part=0)) ?_ (by have:=df (dM o.dQ h) "astray";have:=df (decide (o.most<a)) "most";simp;omega))).trans ?_
 ·by_cases c:a<1
  ·simp[c]
  ·by_cases c2:a%s.part=0
   ·simp[c,p4,sp',neB,c2]
   ·simp[c,p4,sp',neB,c2]
 refine(av (nX (b:=s.aR.any dZ&&(wgt o.cT h ws none).isNone) ?_ (by have:=df (dM o.dQ h) "astray";have:=df (decide (o.most<a)) "most";have:=df (decide (a<1)||decide (¬a%s.part=0)) "part";simp only[Gav,GbW];omega))).trans ?_
 ·generalize s.aR.any dZ=bk at*
  cases bk with
  |false=>simp[eg]
  |true=>
   simp[eg,p2,ew,rw']
   cases wgt o.cT h ws none<;>simp[qx,dB]
 refine(av (nX (b:=decide (h<gu.2+s.young)) (by simp[p2,hG,p6,p5]) (by have:=df (dM o.dQ h) "astray";have:=df (decide (o.most<a)) "most";have:=df (decide (a<1)||decide (¬a%s.part=0)) "part";have:=df (s.aR.any dZ&&(wgt o.cT h ws none).isNone) "weight";simp only[Gav,GbW];omega))).trans ?_
 have cm:=CU (K:=[]++kk (dM o.dQ h) "astray"++kk (decide (o.most<a)) "most"++kk (decide (a<1)||decide (¬a%s.part=0)) "part"++kk (s.aR.any dZ&&(wgt o.cT h ws none).isNone) "weight"++kk (decide (h<gu.2+s.young)) "young") (n:=n) (h:=h)
 have hK:[]++kk (dM o.dQ h) "astray"++kk (decide (o.most<a)) "most"++kk (decide (a<1)||decide (¬a%s.part=0)) "part"++kk (s.aR.any dZ&&(wgt o.cT h ws none).isNone) "weight"++kk (decide (h<gu.2+s.young)) "young"=lD o s gu.2 ws (n,h,a):=by
  unfold lD
  rw[List.nil_append]
 have hlen:([]++kk (dM o.dQ h) "astray"++kk (decide (o.most<a)) "most"++kk (decide (a<1)||decide (¬a%s.part=0)) "part"++kk (s.aR.any dZ&&(wgt o.cT h ws none).isNone) "weight"++kk (decide (h<gu.2+s.young)) "young").length≤5:=by
  have:=df (dM o.dQ h) "astray";have:=df (decide (o.most<a)) "most";have:=df (decide (a<1)||decide (¬a%s.part=0)) "part";have:=df (s.aR.any dZ&&(wgt o.cT h ws none).isNone) "weight";have:=df (decide (h<gu.2+s.young)) "young"
  simp only[Gav,GbW];omega
 rw[hK] at cm hlen⊢
 have fi:=gy ((lD o s gu.2 ws (n,h,a)).map λk=>(k,[n,h]))
 rw[GaS] at fi
 have fi' :aN ((lD o s gu.2 ws (n,h,a)).map λk=>aw (k,[n,h]))=true:=fi
 generalize lD o s gu.2 ws (n,h,a)=KL at*
 have z:(KL.map D.str).length≤16777216:=by rw[Gae];omega
 generalize KL.map D.str=M at*
 generalize (KL.map λk=>aw (k,[n,h]))=R at*
 simp[-bH,ah,DL.compEnv,dF,cm,z,fi']
noncomputable def atT(o h:Int)(t:Tr):Bool:=decide (t.1=o∧t.2.1=h)
noncomputable def oT(ts:List Tr)(o h v:Int):List Tr:=if ts.any (atT o h) then ts.map (λt=>if atT o h t then(o,h,v) else t) else ts++[(o,h,v)]
noncomputable def mv(ts:List Tr)(o h:Int):Int:=((ts.find? (atT o h)).map (·.2.2)).getD 0
theorem uA(o h:Int)(t:Tr):decide (([Sum.inl t.1,Sum.inl t.2.1]:List Key)=[Sum.inl o,Sum.inl h])=atT o h t:=by
 unfold atT
 rw[decide_eq_decide]
 simp
theorem nr(ts:List Tr)(o h v:Int):DL.put (kvT ts) [Sum.inl o,Sum.inl h] (.int v)=kvT (oT ts o h v):=by
 unfold DL.put oT kvT
 have e:((ts.map λt=>(([Sum.inl t.1,Sum.inl t.2.1]:List Key),D.int t.2.2)).any λkv=>decide (kv.1=[Sum.inl o,Sum.inl h]))=ts.any (atT o h):=by
  rw[List.any_map]
  congr 1
  funext t
  exact uA o h t
 rw[e]
 cases ts.any (atT o h) with
 |true=>
  simp only[Gbj]
  rw[GaS,GaS]
  refine GaO λt _=> ?_
  simp only[Function.comp]
  have k:=uA o h t
  by_cases c:t.1=o∧t.2.1=h
  ·have e1:([Sum.inl t.1,Sum.inl t.2.1]:List Key)=[Sum.inl o,Sum.inl h]:=by rw[c.1,c.2]
   have e2:atT o h t=true:=GaF c
   rw[Gah e1,Gah e2,c.1,c.2]
  ·have e1:¬([Sum.inl t.1,Sum.inl t.2.1]:List Key)=[Sum.inl o,Sum.inl h]:=λz=>by simp at z;exact c z
   have e2:¬atT o h t=true:=λz=>c (Gaw z)
   rw[Gag e1,Gag e2]
 |false=>simp
theorem w6(ts:List Tr)(o h:Int):look (kvT ts) [Sum.inl o,Sum.inl h]=(ts.find? (atT o h)).map λt=>D.int t.2.2:=by
 unfold look kvT
 rw[List.find?_map]
 have e:((λkv:List Key×D=>decide (kv.1=[Sum.inl o,Sum.inl h]))∘λt:Tr=>(([Sum.inl t.1,Sum.inl t.2.1]:List Key),D.int t.2.2))=atT o h:=by
  funext t
  exact uA o h t
 rw[e]
 cases ts.find? (atT o h)<;>rfl
theorem nY(ts:List Tr)(o h v:Int):(oT ts o h v).length≤ts.length+1:=by
 unfold oT
 split<;>simp
noncomputable def twU(ts:List Tr)(n:Int):Option Int→List Tr
 |some k=>oT ts n k (mv ts n k+1)
 |none=>ts
noncomputable def bC(os:List Order)(ts:List Tr)(g:Tr):List Tr:=twU ts g.1 ((os[g.1.toNat]?).bind λo=>mF o.dQ g.2.1)
theorem Bz(ts:List Tr)(n:Int)(u:Option Int):(twU ts n u).length≤ts.length+1:=by
 cases u with
 |none=>exact Gdi _
 |some k=>exact nY _ _ _ _
theorem JU{ts:List Tr}{o k:Int}{e0 e1 e3:Option Slot}{n h a:Int}:Gf (vE 2) (bQ (a5 (ixE (vE 3) (kE (.int 0))) (a5 (vE 4) aq))) (kE (.int 0)) [e0,e1,some (.own (.dT (kvT ts))),some (.sh (.tup [.int o,.int h,.int a])),some (.sh (.int k))]=some ⟨.c,.int (mv ts o k)⟩:=by
 have l:=w6 ts o k
 unfold mv
 generalize kvT ts=kv at*
 cases hf:ts.find? (atT o k) with
 |none=>
  rw[hf] at l
  simp at l
  simp[l,keyOf,ah]
 |some t=>
  rw[hf] at l
  simp at l
  simp[l,keyOf,ah]
theorem Mj{ts:List Tr}{n h a k:Int}{OD:D}{u:Option Int}{A B C O G:List D}{x4:Option Slot}(hO:atD O n=some OD)(im:OD.imm=true)(ed:j4 [OD,.int h]=some (jh u))(hz:(kvT ts).length<1000):
  bW [some (.sh (.tup [.tup A,.tup B,.tup C,.tup O])),some (.sh (.tup G)),some (.own (.dT (kvT ts))),some (.sh (.tup [.int n,.int h,.int a])),x4]=
   some (.nx [some (.sh (.tup [.tup A,.tup B,.tup C,.tup O])),some (.sh (.tup G)),some (.own (.dT (kvT (twU ts n u)))),some (.sh (.tup [.int n,.int h,.int a])),some (.sh (jh u))]):=by
 have z:(kvT ts).length<16777216:=by omega
 have ru:=cL (jU u)
 unfold bW
 refine(av (e:=[some (.sh (.tup [.tup A,.tup B,.tup C,.tup O])),some (.sh (.tup G)),some (.own (.dT (kvT ts))),some (.sh (.tup [.int n,.int h,.int a])),some (.sh (jh u))]) (by simp[hO,ed,ru])).trans ?_
 cases u with
 |none=>simp[kA,dB,twU]
 |some k=>
  have g:=JU (ts:=ts) (o:=n) (k:=k) (e0:=some (.sh (.tup [.tup A,.tup B,.tup C,.tup O]))) (e1:=some (.sh (.tup G))) (e3:=none) (n:=0) (h:=h) (a:=a)
  have p:=nr ts n k (mv ts n k+1)
  rw[CQ]
  refine(JK (by simp[kA,dB])).trans ?_
  unfold twU
  rw[←p]
  generalize mv ts n k=gv at*
  generalize kvT ts=kv at*
  unfold vc opE
  rw[g]
  simp[putD,keyOf,z,ah]
theorem BA{w:World}(W:bX w){A B C G:List D}:∀(gv:List Tr) (ts:List Tr) (x3 x4:Option Slot),gY w.orders.length gv→ts.length+gv.length<1000→∃y3 y4,forL (gN 3) bW (gv.map trD) [some (.sh (.tup [.tup A,.tup B,.tup C,.tup (w.orders.map aI)])),some (.sh (.tup G)),some (.own (.dT (kvT ts))),x3,x4]=
  some (.nx [some (.sh (.tup [.tup A,.tup B,.tup C,.tup (w.orders.map aI)])),some (.sh (.tup G)),some (.own (.dT (kvT (gv.foldl (bC w.orders) ts)))),y3,y4])
 |[],ts,x3,x4,_,_=> ⟨x3,x4,by simp⟩
 |g::gv,ts,x3,x4,hg,hl=>by
  have g0:=hg g Gap
  obtain⟨n,hn⟩:=GaK g0.1
  have hn' :n<w.orders.length:=by omega
  have hO:atD (w.orders.map aI) g.1=some (aI w.orders[n]):=by
   rw[hn,f6,Gan,Gab hn'];rfl
  have ok:=W.oo w.orders[n] (GaC hn')
  have ed:=pA (h:=g.2.1) ok.du
  have hz:(kvT ts).length<1000:=by unfold kvT;rw[Gae];simp at hl;omega
  have ev:=Mj (A:=A) (B:=B) (C:=C) (G:=G) (ts:=ts) (n:=g.1) (h:=g.2.1) (a:=g.2.2) (k:=0) (x4:=x4) hO (gX _ ok.ti) ed hz
  have es:twU ts g.1 (mF w.orders[n].dQ g.2.1)=bC w.orders ts g:=by
   unfold bC
   rw[hn,GaQ,Gab hn']
   rfl
  rw[es] at ev
  have ln:(bC w.orders ts g).length≤ts.length+1:=by
   rw[←es]
   exact Bz _ _ _
  obtain⟨y3,y4,e⟩:=BA W (A:=A) (B:=B) (C:=C) (G:=G) gv (bC w.orders ts g) (some (.sh (trD g))) (some (.sh (jh (mF w.orders[n].dQ g.2.1)))) (λt ht=>hg t (Gaj _ ht)) (by simp at hl;omega)
  refine⟨y3,y4, ?_⟩
  rw[Gar,Gcp]
  have ev' :bW [some (.sh (.tup [.tup A,.tup B,.tup C,.tup (w.orders.map aI)])),some (.sh (.tup G)),some (.own (.dT (kvT ts))),some (.sh (trD g)),x4]=_:=ev
  have td:D.tup [.int g.1,.int g.2.1,.int g.2.2]=trD g:=rfl
  rw[td] at ev'
  generalize trD g=d at*
  simp only[forL,gN,GaW,GaX,Option.bind_some,ev']
  exact e
noncomputable def twF(ts:List Tr):List Flt:=(ts.filter λt=>decide (1<t.2.2)).map λt=>("twice",[t.1,t.2.1])
theorem Hq(ts:List Tr):bH (gT [0,1]) (b9 gtB (vE 1) (kE (.int 1))) (bQ (a5 (kE (.str "twice")) (a5 (ixE (vE 0) (kE (.int 0))) (a5 (ixE (vE 0) (kE (.int 1))) aq)))) (bL (kvT ts)) [none,none]=some ((twF ts).map aw):=by
 rw[jT]
 unfold twF
 rw[GaS]
 refine iL (g:=gT [0,1]) (λt:Tr=>D.tup [.tup [.int t.1,.int t.2.1],.int t.2.2]) (λenv=>∃y z,env=[y,z]) (λt=>decide (1<t.2.2)) (aw∘λt:Tr=>("twice",[t.1,t.2.1])) ts _ ⟨none,none,rfl⟩ ?_
 rintro t ht env ⟨y,z,rfl⟩
 refine⟨[some (.sh (.tup [.int t.1,.int t.2.1])),some (.sh (.int t.2.2))],by simp,⟨_,_,rfl⟩,by simp,λ_=> ⟨.c, ?_,rfl⟩⟩
 simp[ah,aw]
theorem JV{wd:D}{G R:List D}{kv:List (List Key×D)}{y3 y4:Option Slot}(h1:forL (gN 3) bW G [some (.sh wd),some (.sh (.tup G)),some (.own (.dT [])),none,none]=some (.nx [some (.sh wd),some (.sh (.tup G)),some (.own (.dT kv)),y3,y4]))(hz:(bL kv).length≤16777216)
  (hc:bH (gT [0,1]) (b9 gtB (vE 1) (kE (.int 1))) (bQ (a5 (kE (.str "twice")) (a5 (ixE (vE 0) (kE (.int 0))) (a5 (ixE (vE 0) (kE (.int 1))) aq)))) (bL kv) [none,none]=some R)(im:aN R=true):dW [wd,.tup G]=some (.lst R):=by
 refine bh rfl ?_
 unfold fX
 refine(av (e:=[some (.sh wd),some (.sh (.tup G)),some (.own (.dT [])),none,none]) (by simp[bz])).trans ?_
 refine(av (e:=[some (.sh wd),some (.sh (.tup G)),some (.own (.dT kv)),y3,y4]) (by simp[-forL,h1])).trans ?_
 simp[-bH,ah,DL.compEnv,dF,hz,hc,im]
theorem Hr{w:World}{gv:List Tr}(W:bX w)(hg:gY w.orders.length gv)(hl:gv.length<64):dW [bB w,.tup (gv.map trD)]=some (.lst ((twF (gv.foldl (bC w.orders) [])).map aw))∧(gv.foldl (bC w.orders) []).length<64:=by
 have ln:∀(gv ts:List Tr),(gv.foldl (bC w.orders) ts).length≤ts.length+gv.length:=by
  intro gv
  induction gv with
  |nil=>intro ts;simp
  |cons g gv ih=>
   intro ts
   rw[Gcp]
   have h1:=ih (bC w.orders ts g)
   have h2:(bC w.orders ts g).length≤ts.length+1:=by
    exact Bz _ _ _
   rw[GaH]
   omega
 have l2:=ln gv []
 simp only[GbW,Gcl] at l2
 obtain⟨y3,y4,e⟩:=BA W (A:=w.cC.map d9) (B:=w.aH.map b4) (C:=w.dz.map trD) (G:=gv.map trD) gv [] none none hg (by simp;omega)
 have hz:(bL (kvT (gv.foldl (bC w.orders) []))).length≤16777216:=by rw[jT,Gae];omega
 exact⟨JV e hz (Hq _) (gy _),by omega⟩
noncomputable def bY(ts:List Tr)(b:Tr):List Tr:=oT (oT ts b.1 b.2.1 b.2.2) b.2.1 b.1 b.2.2
theorem JW{ts:List Tr}{b:Tr}{B:List D}(hz:ts.length<1000):cV [some (.sh (.tup B)),some (.own (.dT (kvT ts))),some (.sh (trD b))]=some (.nx [some (.sh (.tup B)),some (.own (.dT (kvT (bY ts b)))),some (.sh (trD b))]):=by
 obtain⟨x,y,v⟩:=b
 have p1:=nr ts x y v
 have p2:=nr (oT ts x y v) y x v
 have l1:=nY ts x y v
 have z1:(kvT ts).length<16777216:=by unfold kvT;rw[Gae];omega
 have z2:(kvT (oT ts x y v)).length<16777216:=by unfold kvT;rw[Gae];omega
 unfold cV bY trD
 dsimp only
 rw[←p2]
 generalize hk:kvT (oT ts x y v)=k1 at*
 generalize kvT ts=k0 at*
 refine(av (e:=[some (.sh (.tup B)),some (.own (.dT k1)),some (.sh (.tup [.int x,.int y,.int v]))]) (by simp[putD,keyOf,z1,ah,p1])).trans ?_
 simp[putD,keyOf,z2,ah]
theorem w9{B:List D}:∀(bs ts:List Tr) (x2:Option Slot),ts.length+2*bs.length<1000→∃y2,forL (gN 2) cV (bs.map trD) [some (.sh (.tup B)),some (.own (.dT (kvT ts))),x2]=some (.nx [some (.sh (.tup B)),some (.own (.dT (kvT (bs.foldl bY ts)))),y2])
 |[],ts,x2,_=> ⟨x2,by simp⟩
 |b::bs,ts,x2,hl=>by
  rw[GaH] at hl
  have ev:=JW (ts:=ts) (b:=b) (B:=B) (by omega)
  have l1:(bY ts b).length≤ts.length+2:=by
   unfold bY
   have:=nY ts b.1 b.2.1 b.2.2
   have:=nY (oT ts b.1 b.2.1 b.2.2) b.2.1 b.1 b.2.2
   omega
  obtain⟨y2,e⟩:=w9 (B:=B) bs (bY ts b) (some (.sh (trD b))) (by omega)
  refine⟨y2, ?_⟩
  rw[Gar,Gcp]
  generalize trD b=d at*
  simp only[forL,gN,GaW,GaX,Option.bind_some,ev]
  exact e
theorem Ht(ts:List Tr):aN ((kvT ts).map λx=>x.snd)=true:=by
 unfold kvT
 rw[GaS]
 exact g8 (λ_=>rfl) ts
theorem JX{bs:List Tr}(hl:bs.length≤12):fg [.tup (bs.map trD)]=some (.dT (kvT (bs.foldl bY []))):=by
 obtain⟨y2,e⟩:=w9 (B:=bs.map trD) bs [] none (by simp;omega)
 refine bh rfl ?_
 unfold ff
 refine(av (e:=[some (.sh (.tup (bs.map trD))),some (.own (.dT (kvT []))),none]) (by simp[bz,kvT])).trans ?_
 have im:=Ht (bs.foldl bY [])
 generalize bs.map trD=B at*
 generalize kvT (bs.foldl bY [])=kv at*
 refine(av (e:=[some (.sh (.tup B)),some (.own (.dT kv)),y2]) (by simp[-forL,e])).trans ?_
 simp[im]
noncomputable def Hu(gs:List Tr)(a b:Order):Int:=if a.cT=b.cT then mv gs a.gh b.gh else 0
theorem oU{gs:List Tr}{a b:Order}:gD [.dT (kvT gs),aI a,aI b]=some (.int (Hu gs a b)):=by
 have l:=w6 gs a.gh b.gh
 refine bh rfl ?_
 unfold gC Hu mv
 have a1:ixD (aI a) (.int 1)=some (.int a.cT):=rfl
 have a2:ixD (aI a) (.int 2)=some (.int a.gh):=rfl
 have b1:ixD (aI b) (.int 1)=some (.int b.cT):=rfl
 have b2:ixD (aI b) (.int 2)=some (.int b.gh):=rfl
 generalize aI a=A at*
 generalize aI b=B at*
 generalize kvT gs=kv at*
 by_cases c:a.cT=b.cT
 ·rw[Gah c]
  refine(av (e:=[some (.sh (.dT kv)),some (.sh A),some (.sh B)]) (by simp[bz,a1,b1,c,neB])).trans ?_
  cases hf:gs.find? (atT a.gh b.gh) with
  |none=>rw[hf] at l;simp at l;simp[a2,b2,l,keyOf,ah]
  |some t=>rw[hf] at l;simp at l;simp[a2,b2,l,keyOf,ah]
 ·rw[Gag c]
  refine Bw ?_
  simp[bz,a1,b1,c,neB]
noncomputable def mk2(p:Int×Int):D:= .tup [.int p.1,.int p.2]
noncomputable def un2:D→Int×Int
 | .tup [.int a,.int b]=>(a,b)
 |_=>(0,0)
theorem Mk(p:Int×Int):un2 (mk2 p)=p:=rfl
theorem BB(l:List (Int×Int)):aN (l.map mk2)=true:=by
 induction l with
 |nil=>rfl
 |cons a l ih=>simp[mk2] at ih⊢;exact ih
theorem F7(l:List (Int×Int)):keysOk (l.map mk2)=true:=by
 have h1:(l.map mk2).all (mq 1)=true:=by
  rw[GbB,Gat]
  intro p _
  simp[mk2,mq,tyD,mj]
 have h2:((l.map mk2).all λx=>(l.map mk2).all λy=>vd x y)=true:=by
  rw[GbB,Gat]
  intro p _
  simp only[Gce]
  rw[GbB,Gat]
  intro q _
  simp[mk2,vd,mC,tyD,aY]
 unfold keysOk
 rw[h1,h2];simp
theorem JY{p q:Int×Int}(h:p.1<q.1):ltC (DL.code (mk2 p)) (DL.code (mk2 q))=true:=by
 have e:¬p.1=q.1:=by omega
 simp[mk2,DL.code,aY,ltC,fu,ltI,e,h]
theorem wa(ms:List (Int×Int)):∃rows:List (Int×Int),cR (ms.map mk2)=rows.map mk2∧rows.Perm ms∧rows.Pairwise λa b=>a.1≤b.1:=by
 have hp:=fK (ms.map mk2)
 have hs:=fR (ms.map mk2)
 have all:∀x∈cR (ms.map mk2),∃p,x=mk2 p:=λx hx=>by
  obtain⟨p,_,e⟩:=GaG.mp (hp.mem_iff.mp hx)
  exact⟨p,e.symm⟩
 have e:cR (ms.map mk2)=((cR (ms.map mk2)).map un2).map mk2:=by
  rw[GaS]
  conv=>lhs;rw[←Gcv (cR (ms.map mk2))]
  apply GaO
  intro x hx
  obtain⟨p,rfl⟩:=all x hx
  rfl
 refine⟨(cR (ms.map mk2)).map un2,e, ?_, ?_⟩
 ·have:=Gdn un2 hp
  rw[GaS] at this
  have e2:ms.map (un2∘mk2)=ms:=by
   conv=>rhs;rw[←Gcv ms]
   exact GaO λp _=>Mk p
  rw[e2] at this
  exact this
 ·rw[e] at hs
  unfold f7 at hs
  rw[GbZ] at hs
  refine hs.imp λ{a b} h=> ?_
  by_cases c:b.1<a.1
  ·rw[JY c] at h;cases h
  ·omega
noncomputable def sm(f:Nat→Int):Nat→Int
 |0=>0
 |n+1=>sm f n+f n
theorem BC{α:Type}(w:α→Int)(d:α)(l:List α):∀k,k≤l.length→sm (λi=>w (l[i]?.getD d)) k=((l.take k).map w).sum
 |0,_=>by simp[sm]
 |k+1,h=>by
  rw[sm,BC w d l k (by omega),Gdp (by omega),GaJ,List.sum_append]
  simp[show k<l.length by omega]
theorem F8{f a:Nat→Int}{g k:Nat}(hgk:g≤k+1)(h1:∀i,i<g→f i=0)(h2:∀i,g≤i→i≤k→f i=a i)(h3:∀i,k<i→f i=0):∀n,sm f n=if n≤g then 0 else if n≤k+1 then sm a n -sm a g else sm a (k+1)-sm a g
 |0=>by simp[sm]
 |n+1=>by
  rw[sm,F8 hgk h1 h2 h3 n]
  by_cases c1:n+1≤g
  ·rw[Gah (by omega),Gah c1,h1 n (by omega)];rfl
  ·rw[Gag c1]
   by_cases c2:n+1≤k+1
   ·rw[Gah c2,h2 n (by omega) (by omega)]
    by_cases c3:n≤g
    ·have e:n=g:=by omega
     subst e
     rw[Gah c3,sm];omega
    ·rw[Gag c3,Gah (by omega),sm];omega
   ·rw[Gag c2,h3 n (by omega)]
    by_cases c3:n≤g
    ·have e:n=k+1:=by omega
     have e2:g=k+1:=by omega
     rw[Gah c3,e2];omega
    ·rw[Gag c3]
     by_cases c4:n≤k+1
     ·have e:n=k+1:=by omega
      rw[Gah c4,e];omega
     ·rw[Gag c4];omega
section
variable(rows:List (Int×Int))(H:Int)
noncomputable def hr(i:Nat):Int:=(rows[i]?.getD (0,0)).1
noncomputable def am(i:Nat):Int:=(rows[i]?.getD (0,0)).2
noncomputable def wt(H h:Int)(p:Int×Int):Int:=if h -H<p.1∧p.1≤h then p.2 else 0
noncomputable def W(h:Int):Int:=(rows.map (wt H h)).sum
end
variable{rows:List (Int×Int)}{H:Int}
theorem tw(hs:rows.Pairwise λa b=>a.1≤b.1){i j:Nat}(h:i≤j)(hj:j<rows.length):hr rows i≤hr rows j:=by
 unfold hr
 have hi:i<rows.length:=by omega
 simp only[Gab hi,Gab hj,Option.getD_some]
 rcases GdA h with e|e
 ·subst e;exact GbI _
 ·exact Gct.mp hs i j hi hj e
theorem Ml(hs:rows.Pairwise λa b=>a.1≤b.1){g k:Nat}(hk:k<rows.length)(hgk:g≤k)(h1:∀i,i<g→hr rows i≤hr rows k -H)(h2:hr rows k -H<hr rows g)(h3:k+1=rows.length∨hr rows k<hr rows (k+1)):
  W rows H (hr rows k)=sm (am rows) (k+1)-sm (am rows) g:=by
 have e:=BC (wt H (hr rows k)) (0,0) rows rows.length (Gaq _)
 rw[List.take_length] at e
 unfold W
 rw[←e]
 have cut:=F8 (f:=λi=>if i<rows.length then wt H (hr rows k) (rows[i]?.getD (0,0)) else 0) (a:=am rows) (g:=g) (k:=k) (by omega)
  (λi hi=>by
   show(if i<rows.length then wt H (hr rows k) (rows[i]?.getD (0,0)) else 0)=_
   rw[Gah (by omega)]
   unfold wt
   have:=h1 i hi
   unfold hr at this⊢
   rw[Gag (by omega)])
  (λi i1 i2=>by
   show(if i<rows.length then wt H (hr rows k) (rows[i]?.getD (0,0)) else 0)=_
   rw[Gah (by omega)]
   unfold wt
   have a1:=tw hs i1 (by omega)
   have a2:=tw hs i2 hk
   unfold hr at a1 a2 h2⊢
   rw[Gah ⟨by omega,a2⟩];rfl)
  (λi hi=>by
   show(if i<rows.length then wt H (hr rows k) (rows[i]?.getD (0,0)) else 0)=_
   split
   ·rename_i hl
    have a1:hr rows (k+1)≤hr rows i:=tw hs (by omega) hl
    rcases h3 with h3|h3
    ·omega
    ·unfold wt
     unfold hr at a1 h3⊢
     rw[Gag (by omega)]
   ·rfl) rows.length
 rw[Gag (by omega)] at cut
 have same:∀n,n≤rows.length→sm (λi=>if i<rows.length then wt H (hr rows k) (rows[i]?.getD (0,0)) else 0) n=sm (λi=>wt H (hr rows k) (rows[i]?.getD (0,0))) n:=by
  intro n
  induction n with
  |zero=>intro _;rfl
  |succ n ih=>intro hn;rw[sm,sm,ih (by omega),Gah (by omega)]
 rw[←same _ (Gaq _),cut]
 split
 ·have e2:rows.length=k+1:=by omega
  rw[e2]
 ·rfl
noncomputable def oV(ms:D)(H:Int)(R:List D)(F:List D)(total gone k:Int)(row:D):DL.Env:=[some (.sh ms),some (.sh (.int H)),some (.lok (.lst R)),some (.own (.lst F)),some (.sh (.int total)),some (.sh (.int gone)),some (.sh (.int k)),some (.sh row)]
theorem r6{g:Nat}(hg:g<rows.length):atD (rows.map mk2) (g:Int)=some (.tup [.int (hr rows g),.int (am rows g)]):=by
 rw[f6,Gan,Gab hg]
 unfold hr am
 simp[mk2,hg]
theorem BD{ms:D}{R F:List D}{total gone k h a h' a' :Int}(e:atD R gone=some (.tup [.int h',.int a'])):fQ (oV ms H R F total gone k (.tup [.int h,.int a]))=some (decide (h' ≤h -H)):=by
 unfold fQ oV
 simp[e]
theorem Hv{ms:D}{R F:List D}{total gone k h a h' a' :Int}(e:atD R gone=some (.tup [.int h',.int a'])):iK (oV ms H R F total gone k (.tup [.int h,.int a]))=some (.nx (oV ms H R F (total -a') (gone+1) k (.tup [.int h,.int a]))):=by
 unfold iK oV
 simp[e]
theorem F9{ms:D}{F:List D}{k:Nat}{kk a:Int}(hH:1≤H)(hk:k<rows.length):∀(m gone fuel:Nat) (total:Int),k -gone=m→gone≤k→m<fuel→∃g,gone≤g∧g≤k∧(∀i,gone≤i→i<g→hr rows i≤hr rows k -H)∧hr rows k -H<hr rows g∧
  i4 fQ iK fuel (oV ms H (rows.map mk2) F total gone kk (.tup [.int (hr rows k),.int a]))=some (.nx (oV ms H (rows.map mk2) F (total -(sm (am rows) g -sm (am rows) gone)) g kk (.tup [.int (hr rows k),.int a]))):=by
 intro m
 induction m with
 |zero=>
  intro gone fuel total hm hg hf
  have e:gone=k:=by omega
  subst e
  obtain⟨f,rfl⟩:∃f,fuel=f+1:=⟨fuel -1,by omega⟩
  refine⟨gone,Gaq _,Gaq _,λi h1 h2=>by omega,by omega, ?_⟩
  unfold i4
  rw[BD (r6 hk)]
  have c:¬hr rows gone≤hr rows gone -H:=by omega
  simp[c]
 |succ m ih=>
  intro gone fuel total hm hg hf
  obtain⟨f,rfl⟩:∃f,fuel=f+1:=⟨fuel -1,by omega⟩
  have hgl:gone<rows.length:=by omega
  unfold i4
  rw[BD (r6 hgl)]
  by_cases c:hr rows gone≤hr rows k -H
  ·obtain⟨g,q1,q2,q3,q4,q5⟩:=ih (gone+1) f (total -am rows gone) (by omega) (by omega) (by omega)
   refine⟨g,by omega,q2,λi h1 h2=> ?_,q4, ?_⟩
   ·rcases GdA h1 with e|e
    ·subst e;exact c
    ·exact q3 i e h2
   ·simp only[c,decide_true,Option.bind_some,Gbj]
    rw[Hv (r6 hgl)]
    simp only[Option.bind_some]
    have e1:((gone:Int)+1)=((gone+1:Nat):Int):=by omega
    rw[e1,q5,sm]
    have e2:total -am rows gone -(sm (am rows) g -(sm (am rows) gone+am rows gone))=total -(sm (am rows) g -sm (am rows) gone):=by omega
    rw[e2]
  ·refine⟨gone,Gaq _,hg,λi h1 h2=>by omega,by omega, ?_⟩
   simp[c]
noncomputable def g9(rows:List (Int×Int))(j:Nat):Bool:=decide (j+1=rows.length)||decide (hr rows j<hr rows (j+1))
noncomputable def fnd(rows:List (Int×Int))(H:Int)(m:Nat):List (Int×Int):=((List.range m).filter (g9 rows)).map λj=>(hr rows j,W rows H (hr rows j))
theorem wc{m:Nat}:fnd rows H (m+1)=fnd rows H m++(if g9 rows m then[(hr rows m,W rows H (hr rows m))] else[]):=by
 unfold fnd
 rw[List.range_succ,GbT,GaJ]
 congr 1
 cases h:g9 rows m<;>simp[h]
theorem BE{m:Nat}:(fnd rows H m).length≤m:=by
 unfold fnd
 rw[Gae]
 exact Gbt (Gcq _ _) (by simp)
theorem Hw{ms:D}{R F:List D}{total gone kk h a total' g' n:Int}{last:Bool}(hw:i4 fQ iK 100000 (oV ms H R F (total+a) gone kk (.tup [.int h,.int a]))=some (.nx (oV ms H R F total' g' kk (.tup [.int h,.int a]))))(hz:F.length<1000)(hn:(R.length:Int)=n)
  (hc:(kk+1=n∧last=true)∨(kk+1≠n∧∃h2 a2,atD R (kk+1)=some (.tup [.int h2,.int a2])∧last=decide (h<h2))):
  cW (oV ms H R F total gone kk (.tup [.int h,.int a]))=some (.nx (oV ms H R (if last then F++[.tup [.int h,.int total']] else F) total' g' kk (.tup [.int h,.int a]))):=by
 have z:F.length<16777216:=by omega
 unfold oV at*
 unfold cW u5
 rcases hc with⟨c,rfl⟩| ⟨c,h2,a2,e,rfl⟩
 ·simp[hw,hn,c,ah,z]
 ·by_cases c2:h<h2
  ·simp[hw,hn,c,e,c2,ah,z]
  ·simp[hw,hn,c,e,c2]
theorem Fb{ms:D}(hH:1≤H)(hs:rows.Pairwise λa b=>a.1≤b.1)(hl:rows.length<64):∃(y4 y5 y6 y7:Option Slot),forL (gT [6,7]) cW (fA 0 (rows.map mk2)) [some (.sh ms),some (.sh (.int H)),some (.lok (.lst (rows.map mk2))),some (.own (.lst [])),some (.sh (.int 0)),some (.sh (.int 0)),none,none]=
  some (.nx [some (.sh ms),some (.sh (.int H)),some (.lok (.lst (rows.map mk2))),some (.own (.lst ((fnd rows H rows.length).map mk2))),y4,y5,y6,y7]):=by
 obtain⟨e,h1,gone,total,y6,y7,h2,h3,h4,rfl⟩:=fj (g:=gT [6,7]) (body:=cW) (λm env=>∃(gone:Nat) (total:Int) (y6 y7:Option Slot),gone≤m∧total=sm (am rows) m -sm (am rows) gone∧(∀i,i<gone→∀j,m≤j+1→j<rows.length→hr rows i≤hr rows j -H)∧
   env=[some (.sh ms),some (.sh (.int H)),some (.lok (.lst (rows.map mk2))),some (.own (.lst ((fnd rows H m).map mk2))),some (.sh (.int total)),some (.sh (.int gone)),y6,y7]) (fA 0 (rows.map mk2)) 0
  [some (.sh ms),some (.sh (.int H)),some (.lok (.lst (rows.map mk2))),some (.own (.lst [])),some (.sh (.int 0)),some (.sh (.int 0)),none,none] ⟨0,0,none,none,Gaq _,by simp[sm],λi hi=>by omega,rfl⟩ (by
   rintro k d e hd ⟨gone,total,y6,y7,h2,h3,h4,rfl⟩
   rw[jN,Gan] at hd
   cases hk:rows[k]? with
   |none=>rw[hk] at hd;cases hd
   |some p=>
    rw[hk] at hd
    have hkl:k<rows.length:=(Gad.mp hk).1
    simp only[GcO,GcG] at hd
    subst hd
    rw[Gcl] at h2 h3 h4⊢
    have ep:mk2 p= .tup [.int (hr rows k),.int (am rows k)]:=by
     unfold mk2 hr am;rw[hk];rfl
    obtain⟨g,q1,q2,q3,q4,q5⟩:=F9 (rows:=rows) (ms:=ms) (F:=(fnd rows H k).map mk2) (kk:=(k:Int)) (a:=am rows k) hH hkl (k -gone) gone 100000 (total+am rows k) rfl h2 (by omega)
    have allg:∀i,i<g→hr rows i≤hr rows k -H:=λi hi=>by
     by_cases c:i<gone
     ·exact h4 i c k (by omega) hkl
     ·exact q3 i (by omega) hi
    have tot:total+am rows k -(sm (am rows) g -sm (am rows) gone)=sm (am rows) (k+1)-sm (am rows) g:=by
     rw[h3,sm];omega
    rw[tot] at q5
    have hlen:((rows.map mk2).length:Int)=(rows.length:Int):=by simp
    have ev:=Hw (last:=g9 rows k) q5 (GcS (by rw[Gae];exact BE) (by omega)) hlen (by
     by_cases c:k+1=rows.length
     ·exact .inl ⟨by omega,by unfold g9;simp[c]⟩
     ·refine .inr ⟨by omega,hr rows (k+1),am rows (k+1), ?_,by unfold g9;simp[c]⟩
      have:=r6 (rows:=rows) (g:=k+1) (by omega)
      rw[show((k:Int)+1)=((k+1:Nat):Int) by omega]
      exact this)
    refine⟨_,_, ?_,ev,g,_,some (.sh (.int (k:Int))),some (.sh (.tup [.int (hr rows k),.int (am rows k)])),by omega,rfl,λi hi j hj hjl=> ?_, ?_⟩
    ·rw[ep];rfl
    ·have:=allg i hi
     have:=tw hs (i:=k) (j:=j) (by omega) hjl
     omega
    ·rw[wc]
     unfold oV
     cases hL:g9 rows k with
     |false=>simp
     |true=>
      have hw:=Ml (H:=H) hs hkl q2 allg q4 (by
       unfold g9 at hL
       rw[Gbd] at hL
       exact hL.imp Gaw Gaw)
      simp[mk2,hw])
 rw[jM,Gae,Gcl] at h1
 exact⟨_,_,_,_,h1⟩
theorem r9{ms:List (Int×Int)}(hl:ms.length<64):sortedS [.lst (ms.map mk2)]=some ⟨.tn,.lst (cR (ms.map mk2))⟩:=by
 have h1:((ms.map mk2).length<64):=by simpa using hl
 unfold sortedS one mz
 simp only[Option.bind_some]
 rw[F7,GaF h1];rfl
theorem Fc{M R F:List D}{y4 y5 y6 y7:Option Slot}(es:sortedS [.lst M]=some ⟨.tn,.lst R⟩)(h1:forL (gT [6,7]) cW (fA 0 R) [some (.sh (.lst M)),some (.sh (.int H)),some (.lok (.lst R)),some (.own (.lst [])),some (.sh (.int 0)),some (.sh (.int 0)),none,none]=
  some (.nx [some (.sh (.lst M)),some (.sh (.int H)),some (.lok (.lst R)),some (.own (.lst F)),y4,y5,y6,y7]))(im:aN F=true):jI [.lst M,.int H]=some (.lst F):=by
 unfold jI qW
 simp[-forL,-fA,es,h1,ah,im]
theorem mG:∀(a b:List Int),a.Pairwise (λx y=>x<y)→b.Pairwise (λx y=>x<y)→(∀x,x∈a↔x∈b)→a=b
 |[],[],_,_,_=>rfl
 |[],y::b,_,_,h=>absurd ((h y).mpr Gap) (by simp)
 |x::a,[],_,_,h=>absurd ((h x).mp Gap) (by simp)
 |x::a,y::b,ha,hb,h=>by
  have ha' :=GbO.mp ha
  have hb' :=GbO.mp hb
  have exy:x=y:=by
   rcases GaA.mp ((h x).mp Gap) with e|e
   ·exact e
   ·rcases GaA.mp ((h y).mpr Gap) with e2|e2
    ·exact e2.symm
    ·have h3:=hb'.1 x e
     have h4:=ha'.1 y e2
     omega
  subst exy
  congr 1
  refine mG a b ha'.2 hb'.2 λz=> ⟨λhz=> ?_,λhz=> ?_⟩
  ·rcases GaA.mp ((h z).mp (Gaj _ hz)) with e|e
   ·have:=ha'.1 z hz;omega
   ·exact e
  ·rcases GaA.mp ((h z).mpr (Gaj _ hz)) with e|e
   ·have:=hb'.1 z hz;omega
   ·exact e
theorem Fd:∀(ns ks:List Int) (x:Int),x∈ns.foldl dd1 ks↔x∈ks∨x∈ns
 |[],ks,x=>by simp
 |n::ns,ks,x=>by
  rw[Gcp,Fd ns (dd1 ks n) x]
  unfold dd1
  split
  ·rename_i c
   constructor
   ·rintro(h|h)
    ·exact .inl h
    ·exact .inr (Gaj _ h)
   ·rintro(h|h)
    ·exact .inl h
    ·rcases GaA.mp h with rfl|h
     ·exact .inl c
     ·exact .inr h
  ·simp only[Gay,GaA,Gcy,or_false]
   constructor
   ·rintro((h|h)|h)
    ·exact .inl h
    ·exact .inr (.inl h)
    ·exact .inr (.inr h)
   ·rintro(h|h|h)
    ·exact .inl (.inl h)
    ·exact .inl (.inr h)
    ·exact .inr h
theorem we:∀(ns ks:List Int),ks.Nodup→(ns.foldl dd1 ks).Nodup
 |[],ks,h=>h
 |n::ns,ks,h=>by
  rw[Gcp]
  refine we ns _ ?_
  unfold dd1
  split
  ·exact h
  ·rename_i c
   rw[Gdg]
   refine⟨h,by simp,λa ha b hb=> ?_⟩
   rw[Gcj] at hb
   subst hb
   exactλe=>c (e▸ha)
theorem Fe:∀(ns ks:List Int),(ns.foldl dd1 ks).length≤ks.length+ns.length
 |[],ks=>by simp
 |n::ns,ks=>by
  rw[Gcp]
  have h:=Fe ns (dd1 ks n)
  have h2:(dd1 ks n).length≤ks.length+1:=by unfold dd1;split<;>simp
  rw[GaH]
  omega
theorem wg{a b:Int}(h:a<b):ltC (DL.code (.int a)) (DL.code (.int b))=true:=by
 have e:¬a=b:=by omega
 simp[DL.code,aY,ltC,fu,ltI,e,h]
theorem CV(l:List Int):∃s:List Int,s.Perm l∧s.Pairwise (λa b=>a≤b)∧cR (l.map D.int)=s.map D.int:=by
 have hp:=fK (l.map D.int)
 have hs:=fR (l.map D.int)
 have all:∀{ds:List D},(∀d∈ds,∃i:Int,d= .int i)→∃s:List Int,ds=s.map D.int:=by
  intro ds
  induction ds with
  |nil=>exactλ_=> ⟨[],rfl⟩
  |cons d ds ih=>
   intro h
   obtain⟨i,rfl⟩:=h d Gap
   obtain⟨s,rfl⟩:=ih λx hx=>h x (Gaj _ hx)
   exact⟨i::s,rfl⟩
 obtain⟨s,e⟩:=all (ds:=cR (l.map D.int)) λd hd=>by
  obtain⟨i,_,rfl⟩:=GaG.mp (hp.mem_iff.mp hd)
  exact⟨i,rfl⟩
 rw[e] at hp hs
 refine⟨s, ?_, ?_,e⟩
 ·have un:∀x:List Int,(x.map D.int).map (λd=>match d with| .int i=>i|_=>0)=x:=by
   intro x
   rw[GaS]
   exact(GaO λ_ _=>rfl).trans (Gcv x)
  have:=Gdn (λd=>match d with|D.int i=>i|_=>0) hp
  rw[un,un] at this
  exact this
 ·unfold f7 at hs
  rw[GbZ] at hs
  refine hs.imp λ{a b} h=> ?_
  by_cases c:b<a
  ·rw[wg c] at h;cases h
  ·omega
theorem Ff(ns:List Int):∃S:List Int,cR ((ddF ns).map D.int)=S.map D.int∧S.Pairwise (λa b=>a<b)∧(∀x,x∈S↔x∈ns)∧S.length≤ns.length:=by
 obtain⟨s,h1,h2,h3⟩:=CV (ddF ns)
 have nd:s.Nodup:=h1.nodup_iff.mpr (we ns [] List.nodup_nil)
 have mem:∀x,x∈s↔x∈ns:=λx=>by rw[h1.mem_iff];unfold ddF;rw[Fd];simp
 refine⟨s,h3, ?_,mem, ?_⟩
 ·have:=h2.and nd
  exact this.imp λ{a b} h=>by
   have h1:=h.1
   have h2:a≠b:=h.2
   omega
 ·rw[h1.length_eq]
  have:=Fe ns []
  simpa[ddF] using this
noncomputable def Fg(ms:List (Int×Int))(H:Int)(S:List Int):List (Int×Int):=S.map λh=>(h,W ms H h)
theorem Fh{l l' :List Int}(h:l.Perm l'):l.sum=l'.sum:=by
 induction h with
 |nil=>rfl
 |cons x _ ih=>simp[ih]
 |swap x y l=>simp;omega
 |trans _ _ h1 h2=>exact h1.trans h2
theorem JZ{ms:List (Int×Int)}(hp:rows.Perm ms)(h:Int):W rows H h=W ms H h:=by
 unfold W
 exact Fh (Gdn _ hp)
theorem rf(hs:rows.Pairwise λa b=>a.1≤b.1):∀(m i:Nat),rows.length -i=m→i<rows.length→∃j,j<rows.length∧hr rows j=hr rows i∧g9 rows j=true
 |0,i,hm,hi=>by omega
 |m+1,i,hm,hi=>by
  by_cases c:i+1=rows.length
  ·exact⟨i,hi,rfl,by unfold g9;simp[c]⟩
  ·by_cases c2:hr rows i<hr rows (i+1)
   ·exact⟨i,hi,rfl,by unfold g9;simp[c2]⟩
   ·obtain⟨j,h1,h2,h3⟩:=rf hs m (i+1) (by omega) (by omega)
    have:=tw hs (i:=i) (j:=i+1) (by omega) (by omega)
    exact⟨j,h1,by rw[h2];omega,h3⟩
theorem Hx{ms:List (Int×Int)}{S:List Int}(hs:rows.Pairwise λa b=>a.1≤b.1)(hp:rows.Perm ms)(hS:S.Pairwise λa b=>a<b)(hm:∀x,x∈S↔x∈ms.map (·.1)):fnd rows H rows.length=Fg ms H S:=by
 have eT:((List.range rows.length).filter (g9 rows)).map (hr rows)=S:=by
  refine mG _ _ ?_ hS λx=> ?_
  ·rw[GbZ]
   have pr:((List.range rows.length).filter (g9 rows)).Pairwise λi j=>i<j:=List.Pairwise.filter _ Gdk
   refine(List.Pairwise.and_mem.mp pr).imp λ{i j} h=> ?_
   obtain⟨hi,hj,hij⟩:=h
   obtain⟨i1,i2⟩:=Gbp.mp hi
   obtain⟨j1,_⟩:=Gbp.mp hj
   have jl:=Gbi.mp j1
   unfold g9 at i2
   rw[Gbd] at i2
   rcases i2 with i2|i2
   ·have:=Gaw i2;omega
   ·have a1:=Gaw i2
    have a2:=tw hs (i:=i+1) (j:=j) (by omega) jl
    omega
  ·rw[hm,GaG,GaG]
   constructor
   ·rintro⟨j,hj,rfl⟩
    have jl:=Gbi.mp (Gbp.mp hj).1
    exact⟨rows[j],hp.mem_iff.mp (GaC _),by unfold hr;simp[jl]⟩
   ·rintro⟨p,hp',rfl⟩
    obtain⟨i,hi,rfl⟩:=Gdy (hp.mem_iff.mpr hp')
    obtain⟨j,h1,h2,h3⟩:=rf hs (rows.length -i) i rfl hi
    refine⟨j,Gbp.mpr ⟨Gbi.mpr h1,h3⟩, ?_⟩
    rw[h2]
    unfold hr
    simp[hi]
 unfold fnd Fg
 rw[←eT,GaS]
 exact GaO λj _=>by simp only[Function.comp];rw[JZ hp]
theorem Fj{ms:D}{R F:List D}{total kk h a n:Int}{last:Bool}(hz:F.length<1000)(hn:(R.length:Int)=n)
  (hc:(kk+1=n∧last=true)∨(kk+1≠n∧∃h2 a2,atD R (kk+1)=some (.tup [.int h2,.int a2])∧last=decide (h<h2))):
  cW [some (.sh ms),some (.sh .non),some (.lok (.lst R)),some (.own (.lst F)),some (.sh (.int total)),some (.sh (.int 0)),some (.sh (.int kk)),some (.sh (.tup [.int h,.int a]))]=
   some (.nx [some (.sh ms),some (.sh .non),some (.lok (.lst R)),some (.own (.lst (if last then F++[.tup [.int h,.int (total+a)]] else F))),some (.sh (.int (total+a))),some (.sh (.int 0)),some (.sh (.int kk)),some (.sh (.tup [.int h,.int a]))]):=by
 have z:F.length<16777216:=by omega
 have hw:i4 fQ iK 100000 [some (.sh ms),some (.sh .non),some (.lok (.lst R)),some (.own (.lst F)),some (.sh (.int (total+a))),some (.sh (.int 0)),some (.sh (.int kk)),some (.sh (.tup [.int h,.int a]))]=some (.nx [some (.sh ms),some (.sh .non),some (.lok (.lst R)),some (.own (.lst F)),some (.sh (.int (total+a))),some (.sh (.int 0)),some (.sh (.int kk)),some (.sh (.tup [.int h,.int a]))]):=by
  have t:fQ [some (.sh ms),some (.sh .non),some (.lok (.lst R)),some (.own (.lst F)),some (.sh (.int (total+a))),some (.sh (.int 0)),some (.sh (.int kk)),some (.sh (.tup [.int h,.int a]))]=some false:=by
   unfold fQ
   simp
  unfold i4
  rw[t]
  simp
 unfold cW u5
 rcases hc with⟨c,rfl⟩| ⟨c,h2,a2,e,rfl⟩
 ·simp[hw,hn,c,ah,z]
 ·by_cases c2:h<h2
  ·simp[hw,hn,c,e,c2,ah,z]
  ·simp[hw,hn,c,e,c2]
theorem CW{ms:D}(hH:∀p∈rows,∀q∈rows,q.1 -H<p.1)(hs:rows.Pairwise λa b=>a.1≤b.1)(hl:rows.length<64):∃(y4 y5 y6 y7:Option Slot),forL (gT [6,7]) cW (fA 0 (rows.map mk2)) [some (.sh ms),some (.sh .non),some (.lok (.lst (rows.map mk2))),some (.own (.lst [])),some (.sh (.int 0)),some (.sh (.int 0)),none,none]=
  some (.nx [some (.sh ms),some (.sh .non),some (.lok (.lst (rows.map mk2))),some (.own (.lst ((fnd rows H rows.length).map mk2))),y4,y5,y6,y7]):=by
 obtain⟨e,h1,total,y6,y7,h3,rfl⟩:=fj (g:=gT [6,7]) (body:=cW) (λm env=>∃(total:Int) (y6 y7:Option Slot),total=sm (am rows) m∧
   env=[some (.sh ms),some (.sh .non),some (.lok (.lst (rows.map mk2))),some (.own (.lst ((fnd rows H m).map mk2))),some (.sh (.int total)),some (.sh (.int 0)),y6,y7]) (fA 0 (rows.map mk2)) 0
  [some (.sh ms),some (.sh .non),some (.lok (.lst (rows.map mk2))),some (.own (.lst [])),some (.sh (.int 0)),some (.sh (.int 0)),none,none] ⟨0,none,none,by simp[sm],rfl⟩ (by
   rintro k d e hd ⟨total,y6,y7,h3,rfl⟩
   rw[jN,Gan] at hd
   cases hk:rows[k]? with
   |none=>rw[hk] at hd;cases hd
   |some p=>
    rw[hk] at hd
    have hkl:k<rows.length:=(Gad.mp hk).1
    simp only[GcO,GcG] at hd
    subst hd
    rw[Gcl] at h3⊢
    have ep:mk2 p= .tup [.int (hr rows k),.int (am rows k)]:=by
     unfold mk2 hr am;rw[hk];rfl
    have hlen:((rows.map mk2).length:Int)=(rows.length:Int):=by simp
    have ev:=Fj (ms:=ms) (R:=rows.map mk2) (F:=(fnd rows H k).map mk2) (total:=total) (kk:=(k:Int)) (h:=hr rows k) (a:=am rows k) (last:=g9 rows k) (GcS (by rw[Gae];exact BE) (by omega)) hlen (by
     by_cases c:k+1=rows.length
     ·exact .inl ⟨by omega,by unfold g9;simp[c]⟩
     ·refine .inr ⟨by omega,hr rows (k+1),am rows (k+1), ?_,by unfold g9;simp[c]⟩
      have:=r6 (rows:=rows) (g:=k+1) (by omega)
      rw[show((k:Int)+1)=((k+1:Nat):Int) by omega]
      exact this)
    refine⟨_,_, ?_,ev,total+am rows k,some (.sh (.int (k:Int))),some (.sh (.tup [.int (hr rows k),.int (am rows k)])),by rw[h3];rfl, ?_⟩
    ·rw[ep];rfl
    ·rw[wc]
     cases hL:g9 rows k with
     |false=>simp
     |true=>
      have hr_in:∀i,i<rows.length→∃p∈rows,p.1=hr rows i:=λi hi=> ⟨rows[i],GaC _,by unfold hr;simp[hi]⟩
      have hw:=Ml (H:=H) hs hkl (GbH k) (λi hi=>by omega) (by
       obtain⟨p,hp,e1⟩:=hr_in 0 (by omega)
       obtain⟨q,hq,e2⟩:=hr_in k hkl
       have:=hH p hp q hq
       omega) (by
       unfold g9 at hL
       rw[Gbd] at hL
       exact hL.imp Gaw Gaw)
      have tot:total+am rows k=W rows H (hr rows k):=by
       rw[hw,h3]
       show sm (am rows) k+am rows k=sm (am rows) (k+1)-sm (am rows) 0
       simp[sm]
      simp[mk2,tot])
 rw[jM,Gae,Gcl] at h1
 exact⟨_,_,_,_,h1⟩
theorem CY{M R F:List D}{y4 y5 y6 y7:Option Slot}(es:sortedS [.lst M]=some ⟨.tn,.lst R⟩)(h1:forL (gT [6,7]) cW (fA 0 R) [some (.sh (.lst M)),some (.sh .non),some (.lok (.lst R)),some (.own (.lst [])),some (.sh (.int 0)),some (.sh (.int 0)),none,none]=
  some (.nx [some (.sh (.lst M)),some (.sh .non),some (.lok (.lst R)),some (.own (.lst F)),y4,y5,y6,y7]))(im:aN F=true):jI [.lst M,.non]=some (.lst F):=by
 unfold jI qW
 simp[-forL,-fA,es,h1,ah,im]
noncomputable def HD(hd:D)(H:Int)(ms:List (Int×Int)):Prop:=(hd= .int H∧1≤H)∨(hd= .non∧∀p∈ms,∀q∈ms,q.1 -H<p.1)
theorem HD.perm{hd:D}{ms ms' :List (Int×Int)}(h:HD hd H ms)(hp:ms.Perm ms'):HD hd H ms' :=by
 rcases h with h| ⟨h1,h2⟩
 ·exact .inl h
 ·exact .inr ⟨h1,λp hp' q hq=>h2 p (hp.mem_iff.mpr hp') q (hp.mem_iff.mpr hq)⟩
theorem rh{hd:D}{ms ms' :List (Int×Int)}{S:List Int}(h:HD hd H ms)(hp:ms'.Perm ms)(hl:ms.length<64)(hS:S.Pairwise λa b=>a<b)(hm:∀x,x∈S↔x∈ms.map (·.1)):jI [.lst (ms'.map mk2),hd]=some (.lst ((Fg ms H S).map mk2)):=by
 obtain⟨rows,e,hp2,hs⟩:=wa ms'
 have hp3:rows.Perm ms:=hp2.trans hp
 have hl2:rows.length<64:=by rw[hp3.length_eq];exact hl
 have es:=r9 (ms:=ms') (by rw[hp.length_eq];exact hl)
 rw[e] at es
 rw[←Hx hs hp3 hS hm]
 rcases h.perm hp3.symm with⟨rfl,hH⟩| ⟨rfl,hH⟩
 ·obtain⟨y4,y5,y6,y7,h⟩:=Fb (rows:=rows) (ms:= .lst (ms'.map mk2)) hH hs hl2
  exact Fc es h (BB _)
 ·obtain⟨y4,y5,y6,y7,h⟩:=CW (rows:=rows) (ms:= .lst (ms'.map mk2)) hH hs hl2
  exact CY es h (BB _)
noncomputable def gpF(os:List Order)(gs:List Tr)(r l:Int×Int):List Flt:=match os[r.2.toNat]?,os[l.2.toNat]? with
 |some a,some b=>if l.1 -r.1<Hu gs a b then[("gap",[r.2,r.1,l.2,l.1])] else[]
 |_,_=>[]
noncomputable def jV(os:List Order)(gs:List Tr)(w:Int)(r:Int×Int):List (Int×Int)→List Flt
 |[]=>[]
 |l::ls=>if l.1 -r.1≥w then[] else gpF os gs r l++jV os gs w r ls
noncomputable def dh(os:List Order)(gs:List Tr)(w:Int):List (Int×Int)→List Flt
 |[]=>[]
 |r::rs=>jV os gs w r rs++dh os gs w rs
theorem BF(os:List Order)(gs:List Tr)(r l:Int×Int):(gpF os gs r l).length≤1:=by
 unfold gpF
 split
 ·split<;>simp
 ·simp
theorem oW(os:List Order)(gs:List Tr)(w:Int)(r:Int×Int):∀ls,(jV os gs w r ls).length≤ls.length
 |[]=>by simp[jV]
 |l::ls=>by
  unfold jV
  have h1:=oW os gs w r ls
  have h2:=BF os gs r l
  split
  ·simp
  ·simp;omega
theorem K0{wd:D}{G R F:List D}{kv:List (List Key×D)}{w k r1 r2 l1 l2:Int}{x9:Option Slot}(c:l1 -r1≥w):
  bI [some (.sh wd),some (.sh (.tup G)),some (.own (.dT kv)),some (.sh (.int w)),some (.lok (.lst R)),some (.own (.lst F)),some (.sh (.int k)),some (.sh (.tup [.int r1,.int r2])),some (.sh (.tup [.int l1,.int l2])),x9]=
   some (.bk [some (.sh wd),some (.sh (.tup G)),some (.own (.dT kv)),some (.sh (.int w)),some (.lok (.lst R)),some (.own (.lst F)),some (.sh (.int k)),some (.sh (.tup [.int r1,.int r2])),some (.sh (.tup [.int l1,.int l2])),some (.sh (.int (l1 -r1)))]):=by
 unfold bI
 simp[c]
theorem K1{A B C O G R F:List D}{kv:List (List Key×D)}{w k r1 r2 l1 l2 gb:Int}{o1 o2:D}{x9:Option Slot}(c:¬l1 -r1≥w)(h1:atD O r2=some o1)(h2:atD O l2=some o2)(eb:gD [.dT kv,o1,o2]=some (.int gb))(hz:F.length<100000):
  bI [some (.sh (.tup [.tup A,.tup B,.tup C,.tup O])),some (.sh (.tup G)),some (.own (.dT kv)),some (.sh (.int w)),some (.lok (.lst R)),some (.own (.lst F)),some (.sh (.int k)),some (.sh (.tup [.int r1,.int r2])),some (.sh (.tup [.int l1,.int l2])),x9]=
   some (.nx [some (.sh (.tup [.tup A,.tup B,.tup C,.tup O])),some (.sh (.tup G)),some (.own (.dT kv)),some (.sh (.int w)),some (.lok (.lst R)),some (.own (.lst (F++(if l1 -r1<gb then[D.tup [.str "gap",.int r2,.int r1,.int l2,.int l1]] else[])))),some (.sh (.int k)),some (.sh (.tup [.int r1,.int r2])),some (.sh (.tup [.int l1,.int l2])),some (.sh (.int (l1 -r1)))]):=by
 have z:F.length<16777216:=by omega
 unfold bI
 refine(av (e:=[some (.sh (.tup [.tup A,.tup B,.tup C,.tup O])),some (.sh (.tup G)),some (.own (.dT kv)),some (.sh (.int w)),some (.lok (.lst R)),some (.own (.lst F)),some (.sh (.int k)),some (.sh (.tup [.int r1,.int r2])),some (.sh (.tup [.int l1,.int l2])),some (.sh (.int (l1 -r1)))]) (by simp)).trans ?_
 have c' :l1 -r1<w:=by omega
 refine(av (e:=[some (.sh (.tup [.tup A,.tup B,.tup C,.tup O])),some (.sh (.tup G)),some (.own (.dT kv)),some (.sh (.int w)),some (.lok (.lst R)),some (.own (.lst F)),some (.sh (.int k)),some (.sh (.tup [.int r1,.int r2])),some (.sh (.tup [.int l1,.int l2])),some (.sh (.int (l1 -r1)))]) (by simp[c'])).trans ?_
 by_cases q:l1 -r1<gb
 ·simp[q,h1,h2,eb,z,ah]
 ·simp[q,h1,h2,eb]
theorem rm{w:World}{gs:List Tr}{wid k:Int}{A B C G R:List D}{r:Int×Int}(hr0:0≤r.2)(hr1:r.2<w.orders.length):∀(ls:List (Int×Int)) (fs:List Flt) (x8 x9:Option Slot),(∀l∈ls,0≤l.2∧l.2<w.orders.length)→fs.length+ls.length<100000→∃y8 y9,
  forL (gN 8) bI (ls.map mk2) [some (.sh (.tup [.tup A,.tup B,.tup C,.tup (w.orders.map aI)])),some (.sh (.tup G)),some (.own (.dT (kvT gs))),some (.sh (.int wid)),some (.lok (.lst R)),some (.own (.lst (fs.map aw))),some (.sh (.int k)),some (.sh (mk2 r)),x8,x9]=
   some (.nx [some (.sh (.tup [.tup A,.tup B,.tup C,.tup (w.orders.map aI)])),some (.sh (.tup G)),some (.own (.dT (kvT gs))),some (.sh (.int wid)),some (.lok (.lst R)),some (.own (.lst ((fs++jV w.orders gs wid r ls).map aw))),some (.sh (.int k)),some (.sh (mk2 r)),y8,y9])
 |[],fs,x8,x9,_,_=> ⟨x8,x9,by simp[jV]⟩
 |l::ls,fs,x8,x9,hl,hz=>by
  rw[GaH] at hz
  by_cases c:l.1 -r.1≥wid
  ·have ev:=K0 (wd:= .tup [.tup A,.tup B,.tup C,.tup (w.orders.map aI)]) (G:=G) (R:=R) (F:=fs.map aw) (kv:=kvT gs) (w:=wid) (k:=k) (r1:=r.1) (r2:=r.2) (l1:=l.1) (l2:=l.2) (x9:=x9) c
   refine⟨some (.sh (mk2 l)),some (.sh (.int (l.1 -r.1))), ?_⟩
   unfold jV
   rw[Gah c,Gbb,Gar]
   have e1:D.tup [.int r.1,.int r.2]=mk2 r:=rfl
   have e2:D.tup [.int l.1,.int l.2]=mk2 l:=rfl
   rw[e1,e2] at ev
   generalize mk2 l=ld at*
   simp only[forL,gN,GaW,GaX,Option.bind_some,ev]
  ·have l0:=hl l Gap
   obtain⟨n,hn⟩:=GaK hr0
   obtain⟨m,hm⟩:=GaK l0.1
   have hn' :n<w.orders.length:=by omega
   have hm' :m<w.orders.length:=by omega
   have h1:atD (w.orders.map aI) r.2=some (aI w.orders[n]):=by rw[hn,f6,Gan,Gab hn'];rfl
   have h2:atD (w.orders.map aI) l.2=some (aI w.orders[m]):=by rw[hm,f6,Gan,Gab hm'];rfl
   have eb:=oU (gs:=gs) (a:=w.orders[n]) (b:=w.orders[m])
   have ev:=K1 (A:=A) (B:=B) (C:=C) (G:=G) (R:=R) (F:=fs.map aw) (k:=k) (x9:=x9) c h1 h2 eb (by rw[Gae];omega)
   have eg:(if l.1 -r.1<Hu gs w.orders[n] w.orders[m] then[D.tup [.str "gap",.int r.2,.int r.1,.int l.2,.int l.1]] else[])=(gpF w.orders gs r l).map aw:=by
    unfold gpF
    rw[hn,hm,GaQ,GaQ,Gab hn',Gab hm']
    dsimp only
    split<;>rfl
   rw[eg,←GaJ] at ev
   have g1:=BF w.orders gs r l
   obtain⟨y8,y9,e⟩:=rm (A:=A) (B:=B) (C:=C) (G:=G) (R:=R) (gs:=gs) (wid:=wid) (k:=k) hr0 hr1 ls (fs++gpF w.orders gs r l) (some (.sh (mk2 l))) (some (.sh (.int (l.1 -r.1)))) (λx hx=>hl x (Gaj _ hx)) (by rw[Gav];omega)
   refine⟨y8,y9, ?_⟩
   conv=>rhs;unfold jV
   rw[Gag c,Gar,←Gax]
   have e1:D.tup [.int r.1,.int r.2]=mk2 r:=rfl
   have e2:D.tup [.int l.1,.int l.2]=mk2 l:=rfl
   rw[e1,e2] at ev
   generalize mk2 l=ld at*
   simp only[forL,gN,GaW,GaX,Option.bind_some,ev]
   exact e
theorem Hy{e0 e1 e2 e3 e5 e7 x8 x9:Option Slot}{R L:List D}{k:Int}{e' :DL.Env}(hs:slD (some (k+1)) none (.lst R)=some ⟨.tn,.lst L⟩)(h:forL (gN 8) bI L [e0,e1,e2,e3,some (.lok (.lst R)),e5,some (.sh (.int k)),e7,x8,x9]=some (.nx e')):
  cJ [e0,e1,e2,e3,some (.lok (.lst R)),e5,some (.sh (.int k)),e7,x8,x9]=some (.nx e'):=by
 unfold cJ
 simp[-forL,hs,h,freed]
theorem Fl(R:List D)(j:Nat):slD (some ((j:Int)+1)) none (.lst R)=some ⟨.tn,.lst (R.drop (j+1))⟩:=by
 show some (⟨.tn,.lst (cutD R (some ((j:Int)+1)) none)⟩:RV)=_
 have e:sIx R.length 0 (some ((j:Int)+1))=min (j+1) R.length:=by
  show(if(j:Int)+1<0 then((j:Int)+1+(R.length:Int)).toNat else min ((j:Int)+1).toNat R.length)=_
  rw[Gag (by omega)]
  congr 1
 unfold cutD
 have e2:sIx R.length R.length none=R.length:=rfl
 rw[e,e2]
 congr 3
 rw[Gbv (by rw[Gcf];omega)]
 by_cases c:j+1≤R.length
 ·rw[GcE c]
 ·rw[Nat.min_eq_right (by omega),GbM,List.drop_of_length_le (by omega)]
theorem pC{w:World}{gs:List Tr}{wid:Int}{A B C G:List D}{rows:List (Int×Int)}(hr:∀l∈rows,0≤l.2∧l.2<w.orders.length)(hn:rows.length<64):∀(m j:Nat) (fs:List Flt) (x6 x7 x8 x9:Option Slot),rows.length -j=m→fs.length≤64*j→∃y6 y7 y8 y9,
  forL (gT [6,7]) cJ (fA j ((rows.drop j).map mk2)) [some (.sh (.tup [.tup A,.tup B,.tup C,.tup (w.orders.map aI)])),some (.sh (.tup G)),some (.own (.dT (kvT gs))),some (.sh (.int wid)),some (.lok (.lst (rows.map mk2))),some (.own (.lst (fs.map aw))),x6,x7,x8,x9]=
   some (.nx [some (.sh (.tup [.tup A,.tup B,.tup C,.tup (w.orders.map aI)])),some (.sh (.tup G)),some (.own (.dT (kvT gs))),some (.sh (.int wid)),some (.lok (.lst (rows.map mk2))),some (.own (.lst ((fs++dh w.orders gs wid (rows.drop j)).map aw))),y6,y7,y8,y9])
 |0,j,fs,x6,x7,x8,x9,hm,hf=>by
  rw[List.drop_of_length_le (by omega)]
  exact⟨x6,x7,x8,x9,by simp[dh]⟩
 |m+1,j,fs,x6,x7,x8,x9,hm,hf=>by
  have hj:j<rows.length:=by omega
  have ed:rows.drop j=rows[j]::rows.drop (j+1):=Gbx hj
  have r0:=hr rows[j] (GaC hj)
  obtain⟨y8,y9,e⟩:=rm (w:=w) (gs:=gs) (wid:=wid) (k:=(j:Int)) (A:=A) (B:=B) (C:=C) (G:=G) (R:=rows.map mk2) (r:=rows[j]) r0.1 r0.2 (rows.drop (j+1)) fs x8 x9 (λl hl=>hr l (Gbs hl)) (by rw[Gcf];omega)
  have lz:=oW w.orders gs wid rows[j] (rows.drop (j+1))
  rw[Gcf] at lz
  obtain⟨z6,z7,z8,z9,e2⟩:=pC (w:=w) (gs:=gs) (wid:=wid) (A:=A) (B:=B) (C:=C) (G:=G) (rows:=rows) hr hn m (j+1) (fs++jV w.orders gs wid rows[j] (rows.drop (j+1))) (some (.sh (.int (j:Int)))) (some (.sh (mk2 rows[j]))) y8 y9 (by omega) (by rw[Gav];omega)
  refine⟨z6,z7,z8,z9, ?_⟩
  have ev:=Hy (Fl (rows.map mk2) j) ((by rw[←GdC];exact e):forL (gN 8) bI ((rows.map mk2).drop (j+1)) _=_)
  rw[ed,Gar]
  conv=>rhs;unfold dh
  rw[←Gax]
  show forL (gT [6,7]) cJ (D.tup [.int (j:Int),mk2 rows[j]]::fA (j+1) ((rows.drop (j+1)).map mk2)) _=_
  generalize rows[j]=rj at*
  generalize (j:Int)=ji at*
  generalize mk2 rj=rd at*
  simp only[forL,gT,gNs,GaW,GaX,Option.bind_some,ev]
  exact e2
noncomputable def wide(bs:List Tr):Int:=match bs.map (·.2.2) with
 |[]=>0
 |n::ns=>A8 n ns
theorem Hz{A B C O G B' R R' F:List D}{kv:List (List Key×D)}{wid:Int}{y6 y7 y8 y9:Option Slot}(hg:fg [.tup C]=some (.dT kv))(zc:C.length<1000)(hw:bH (gN 0) iQ (ixE (vE 0) (kE (.int 2))) C [none]=some B')(hm:mmD A8 (.int 0) (.lst B')=some ⟨.c,.int wid⟩)(zg:G.length<1000)(hc:bH (gN 0) iQ (bQ (a5 (ixE (vE 0) (kE (.int 1))) (a5 (ixE (vE 0) (kE (.int 0))) aq))) G [none]=some R)(hs:sortedS [.lst R]=some ⟨.tn,.lst R'⟩)
  (hl:forL (gT [6,7]) cJ (fA 0 R') [some (.sh (.tup [.tup A,.tup B,.tup C,.tup O])),some (.sh (.tup G)),some (.own (.dT kv)),some (.sh (.int wid)),some (.lok (.lst R')),some (.own (.lst [])),none,none,none,none]=some (.nx [some (.sh (.tup [.tup A,.tup B,.tup C,.tup O])),some (.sh (.tup G)),some (.own (.dT kv)),some (.sh (.int wid)),some (.lok (.lst R')),some (.own (.lst F)),y6,y7,y8,y9]))(im:aN F=true):
  fW [.tup [.tup A,.tup B,.tup C,.tup O],.tup G]=some (.lst F):=by
 have z1:C.length≤16777216:=by omega
 have z2:G.length≤16777216:=by omega
 have rk:k5 (.dT kv)=⟨.tn,.dT kv⟩:=rfl
 refine bh rfl ?_
 unfold ip
 refine(av (e:=[some (.sh (.tup [.tup A,.tup B,.tup C,.tup O])),some (.sh (.tup G)),some (.own (.dT kv)),none,none,none,none,none,none,none]) (by simp[bz,hg,rk])).trans ?_
 refine(av (e:=[some (.sh (.tup [.tup A,.tup B,.tup C,.tup O])),some (.sh (.tup G)),some (.own (.dT kv)),some (.sh (.int wid)),none,none,none,none,none,none]) (by simp[-bH,ah,DL.compEnv,dF,hw,hm,z1])).trans ?_
 refine(av (e:=[some (.sh (.tup [.tup A,.tup B,.tup C,.tup O])),some (.sh (.tup G)),some (.own (.dT kv)),some (.sh (.int wid)),some (.own (.lst R')),none,none,none,none,none]) (by simp[-bH,ah,DL.compEnv,dF,hc,hs,z2])).trans ?_
 refine(av (e:=[some (.sh (.tup [.tup A,.tup B,.tup C,.tup O])),some (.sh (.tup G)),some (.own (.dT kv)),some (.sh (.int wid)),some (.own (.lst R')),some (.own (.lst [])),none,none,none,none]) (by simp[ah])).trans ?_
 refine(av (e:=[some (.sh (.tup [.tup A,.tup B,.tup C,.tup O])),some (.sh (.tup G)),some (.own (.dT kv)),some (.sh (.int wid)),some (.own (.lst R')),some (.own (.lst F)),y6,y7,y8,y9]) (by simp[-forL,hl,freed])).trans ?_
 simp[im]
noncomputable def gvR(gv:List Tr):List (Int×Int):=gv.map λt=>(t.2.1,t.1)
theorem Mm{w:World}{gv:List Tr}(W:bX w)(hg:gY w.orders.length gv)(hl:gv.length<64):∃rows:List (Int×Int),cR ((gvR gv).map mk2)=rows.map mk2∧rows.Perm (gvR gv)∧(rows.Pairwise λa b=>a.1≤b.1)∧fW [bB w,.tup (gv.map trD)]=some (.lst ((dh w.orders (w.dz.foldl bY []) (wide w.dz) rows).map aw)):=by
 obtain⟨rows,r1,r2,r3⟩:=wa (gvR gv)
 refine⟨rows,r1,r2,r3, ?_⟩
 have lr:rows.length=gv.length:=by rw[r2.length_eq];simp[gvR]
 have hr:∀l∈rows,0≤l.2∧l.2<w.orders.length:=λl hl=>by
  obtain⟨t,ht,rfl⟩:=GaG.mp (r2.mem_iff.mp hl)
  exact hg t ht
 have b12:=W.b12
 have hw:=jS (g:=gN 0) (f:=ixE (vE 0) (kE (.int 2))) trD (λenv=>∃y,env=[y]) (λt=>D.int t.2.2) w.dz [none] ⟨none,rfl⟩ (by
  rintro t ht env ⟨y,rfl⟩
  exact⟨_,rfl,⟨_,rfl⟩,.c,by simp[trD],rfl⟩)
 have hc:=jS (g:=gN 0) (f:=bQ (a5 (ixE (vE 0) (kE (.int 1))) (a5 (ixE (vE 0) (kE (.int 0))) aq))) trD (λenv=>∃y,env=[y]) (λt=>mk2 (t.2.1,t.1)) gv [none] ⟨none,rfl⟩ (by
  rintro t ht env ⟨y,rfl⟩
  exact⟨_,rfl,⟨_,rfl⟩,.c,by simp[trD,mk2,ah],rfl⟩)
 have e1:gv.map (λt=>mk2 (t.2.1,t.1))=(gvR gv).map mk2:=by unfold gvR;rw[GaS];rfl
 have e2:w.dz.map (λt=>D.int t.2.2)=(w.dz.map (·.2.2)).map D.int:=by rw[GaS];rfl
 rw[e1] at hc
 rw[e2] at hw
 have hm:mmD A8 (.int 0) (.lst ((w.dz.map (·.2.2)).map D.int))=some ⟨.c,.int (wide w.dz)⟩:=by
  unfold mmD mz wide
  simp only[Option.bind_some,CG]
  cases w.dz.map (·.2.2)<;>rfl
 have hs:=r9 (ms:=gvR gv) (by simp[gvR];exact hl)
 rw[r1] at hs
 obtain⟨y6,y7,y8,y9,e⟩:=pC (w:=w) (gs:=w.dz.foldl bY []) (wid:=wide w.dz) (A:=w.cC.map d9) (B:=w.aH.map b4) (C:=w.dz.map trD) (G:=gv.map trD) (rows:=rows) hr (by omega) _ 0 [] none none none none rfl (by simp)
 rw[GbD,List.nil_append] at e
 exact Hz (JX b12) (by rw[Gae];omega) hw hm (by rw[Gae];omega) hc hs e (gy _)
noncomputable abbrev Tg:=(Int×Int)×List (Int×Int)
noncomputable def lE(st:List Tg):Rws:=st.map λe=>([Sum.inl e.1.1,Sum.inl e.1.2],D.lst (e.2.map mk2))
noncomputable def tk(os:List Order)(t:Tr):Int×Int:=match os[t.1.toNat]? with
 |some o=>(o.cT,o.gh)
 |none=>(0,0)
noncomputable def BG(st:List Tg)(k m:Int×Int):List Tg:=match st.findIdx? (λe=>decide (e.1=k)) with
 |some j=>st.set j (k,((st[j]?.map (·.2)).getD [])++[m])
 |none=>st++[(k,[m])]
theorem Fm(k:Int×Int)(e:Tg):decide (([Sum.inl e.1.1,Sum.inl e.1.2]:List Key)=[Sum.inl k.1,Sum.inl k.2])=decide (e.1=k):=by
 rw[decide_eq_decide]
 obtain⟨⟨a,b⟩,l⟩:=e
 obtain⟨c,d⟩:=k
 simp
theorem Fn{st:List Tg}{k m:Int×Int}(hz:st.length<1000)(hm:∀e∈st,e.2.length<1000):DB (lE st) [Sum.inl k.1,Sum.inl k.2] (mk2 m)=some (lE (BG st k m)):=by
 unfold DB BG
 have z:(lE st).length<ah:=by unfold lE ah;rw[Gae];omega
 rw[Gah z]
 have ef:(lE st).findIdx? (λp=>decide (p.1=[Sum.inl k.1,Sum.inl k.2]))=st.findIdx? (λe=>decide (e.1=k)):=by
  unfold lE
  rw[GdH]
  congr 1
  funext e
  exact Fm k e
 rw[ef]
 cases h:st.findIdx? (λe=>decide (e.1=k)) with
 |none=>
  dsimp only
  unfold lE
  rw[GaJ]
  rfl
 |some j=>
  obtain⟨hj,_⟩:=Gdl.mp h
  have e1:(lE st)[j]? =some ([Sum.inl st[j].1.1,Sum.inl st[j].1.2],D.lst (st[j].2.map mk2)):=by
   unfold lE
   rw[Gan,Gab hj]
   rfl
  have z2:(st[j].2.map mk2).length<ah:=by
   have:=hm st[j] (GaC hj)
   rw[Gae]
   unfold ah
   omega
  simp only[e1]
  rw[Gah z2]
  rw[Gab hj]
  unfold lE
  rw[List.map_set]
  simp
structure rZ(os:List Order)(pre:List Tr)(st:List Tg):Prop where
 nd:(st.map (·.1)).Nodup
 ms:∀e∈st,e.2=(pre.filter λt=>decide (tk os t=e.1)).map λt=>(t.2.1,t.2.2)
 cov:∀t∈pre,tk os t∈st.map (·.1)
 back:∀e∈st,∃t∈pre,tk os t=e.1
 ln:st.length≤pre.length
theorem rZ.step{os:List Order}{pre:List Tr}{st:List Tg}(I:rZ os pre st)(t:Tr):rZ os (pre++[t]) (BG st (tk os t) (t.2.1,t.2.2)):=by
 obtain⟨nd,ms,cov,back,ln⟩:=I
 generalize hk:tk os t=k
 have flt:∀q:Int×Int,((pre++[t]).filter λt=>decide (tk os t=q))=(pre.filter λt=>decide (tk os t=q))++(if k=q then[t] else[]):=λq=>by
  rw[GbT]
  congr 1
  by_cases c:k=q
  ·rw[Gah c]
   simp[hk,c]
  ·rw[Gag c]
   simp[hk,c]
 unfold BG
 cases h:st.findIdx? (λe=>decide (e.1=k)) with
 |none=>
  have no:=List.findIdx?_eq_none_iff.mp h
  have nk:k∉st.map (·.1):=λhm=>by
   obtain⟨e,he,ek⟩:=GaG.mp hm
   have:=no e he
   simp[ek] at this
  have pre0:(pre.filter λt=>decide (tk os t=k))=[]:=by
   rw[List.filter_eq_nil_iff]
   intro x hx
   have:=cov x hx
   simp
   intro q
   rw[q] at this
   exact nk this
  dsimp only
  refine⟨?_, ?_, ?_, ?_,by simp;omega⟩
  ·rw[GaJ,Gdg]
   refine⟨nd,by simp, ?_⟩
   intro a ha b hb
   simp at hb
   rw[hb]
   exactλq=>nk (q▸ha)
  ·intro e he
   rcases Gay.mp he with he|he
   ·rw[flt,Gag (λq=>nk (GaG.mpr ⟨e,he,q.symm⟩)),Gbb]
    exact ms e he
   ·simp at he
    rw[he,flt,pre0]
    simp
  ·intro x hx
   rw[GaJ]
   rcases Gay.mp hx with hx|hx
   ·exact GbU _ (cov x hx)
   ·simp at hx
    rw[hx,hk]
    simp
  ·intro e he
   rcases Gay.mp he with he|he
   ·obtain⟨x,hx,q⟩:=back e he
    exact⟨x,GbU _ hx,q⟩
   ·simp at he
    rw[he]
    exact⟨t,by simp,hk⟩
 |some j=>
  obtain⟨hj,hp,_⟩:=Gdl.mp h
  have ek:st[j].1=k:=Gaw hp
  dsimp only
  rw[Gab hj]
  have keys:(st.set j (k,(((some st[j]).map (·.2)).getD [])++[(t.2.1,t.2.2)])).map (·.1)=st.map (·.1):=by
   rw[List.map_set]
   have:k=(st.map (·.1))[j]'(by simpa using hj):=by rw[Gcg,ek]
   simp only
   conv=>lhs;arg 3;rw[this]
   exact List.set_getElem_self _
  have mem:∀e∈st.set j (k,(((some st[j]).map (·.2)).getD [])++[(t.2.1,t.2.2)]),e=(k,st[j].2++[(t.2.1,t.2.2)])∨(e∈st∧e.1≠k):=by
   intro e he
   obtain⟨i,hi,rfl⟩:=Gdy he
   have hi' :i<st.length:=by simpa using hi
   by_cases c:j=i
   ·subst c
    left
    simp
   ·right
    rw[List.getElem_set_ne c]
    refine⟨GaC hi',λq=>c ?_⟩
    have e1:(st.map (·.1))[j]'(by simpa using hj)=(st.map (·.1))[i]'(by simpa using hi'):=by rw[Gcg,Gcg,ek,q]
    exact(List.getElem_inj nd).mp e1
  refine⟨by rw[keys];exact nd, ?_, ?_, ?_,by simp;omega⟩
  ·intro e he
   rcases mem e he with q| ⟨q1,q2⟩
   ·rw[q]
    have:=ms st[j] (GaC hj)
    rw[ek] at this
    rw[flt,Gah rfl,GaJ,←this]
    rfl
   ·rw[flt,Gag (λz=>q2 z.symm),Gbb]
    exact ms e q1
  ·intro x hx
   rw[keys]
   rcases Gay.mp hx with hx|hx
   ·exact cov x hx
   ·simp at hx
    rw[hx,hk,←ek]
    exact GaG.mpr ⟨_,GaC hj,rfl⟩
  ·intro e he
   rcases mem e he with q| ⟨q1,q2⟩
   ·rw[q]
    exact⟨t,by simp,hk⟩
   ·obtain⟨x,hx,q⟩:=back e q1
    exact⟨x,GbU _ hx,q⟩
theorem rZ.Mn{os:List Order}{pre:List Tr}{st:List Tg}(I:rZ os pre st){e:Tg}(he:e∈st):e.2.length≤pre.length:=by
 rw[I.ms e he,Gae]
 exact Gcq _ _
theorem HA{A B C O G:List D}{rows rows' :Rws}{OD:D}{n h a g s:Int}{x4:Option Slot}(hO:atD O n=some OD)(im:OD.imm=true)(h1:ixD OD (.int 1)=some (.int g))(h2:ixD OD (.int 2)=some (.int s))(hs:DB rows [Sum.inl g,Sum.inl s] (.tup [.int h,.int a])=some rows'):
  bT [some (.sh (.tup [.tup A,.tup B,.tup C,.tup O])),some (.sh (.tup G)),none,some (.sh (.tup [.int n,.int h,.int a])),x4] rows=some ([some (.sh (.tup [.tup A,.tup B,.tup C,.tup O])),some (.sh (.tup G)),none,some (.sh (.tup [.int n,.int h,.int a])),some (.sh OD)],rows'):=by
 unfold bT
 simp[hO,im,h1,h2,hs,ah,keysOf,keyOf,B6]
theorem tD{w:World}(W:bX w){A B C G:List D}:∀(gv pre:List Tr) (st:List Tg) (x3 x4:Option Slot),gY w.orders.length gv→rZ w.orders pre st→pre.length+gv.length<64→∃y3 y4 st',rZ w.orders (pre++gv) st' ∧
  nF 3 bT (gv.map trD) [some (.sh (.tup [.tup A,.tup B,.tup C,.tup (w.orders.map aI)])),some (.sh (.tup G)),none,x3,x4] (lE st)=some ([some (.sh (.tup [.tup A,.tup B,.tup C,.tup (w.orders.map aI)])),some (.sh (.tup G)),none,y3,y4],lE st')
 |[],pre,st,x3,x4,_,I,_=> ⟨x3,x4,st,by rw[Gbb];exact I,by simp⟩
 |t::gv,pre,st,x3,x4,hg,I,hl=>by
  rw[GaH] at hl
  have g0:=hg t Gap
  obtain⟨n,hn⟩:=GaK g0.1
  have hn' :n<w.orders.length:=by omega
  have hO:atD (w.orders.map aI) t.1=some (aI w.orders[n]):=by
   rw[hn,f6,Gan,Gab hn'];rfl
  have ok:=W.oo w.orders[n] (GaC hn')
  have ek:tk w.orders t=(w.orders[n].cT,w.orders[n].gh):=by
   unfold tk
   rw[hn,GaQ,Gab hn']
  have ln:=I.ln
  have sd:=Fn (st:=st) (k:=tk w.orders t) (m:=(t.2.1,t.2.2)) (by omega) (λe he=>by have:=I.Mn he;omega)
  have ev:=HA (A:=A) (B:=B) (C:=C) (G:=G) (n:=t.1) (h:=t.2.1) (a:=t.2.2) (g:=w.orders[n].cT) (s:=w.orders[n].gh) (x4:=x4) hO (gX _ ok.ti) rfl rfl (by rw[ek] at sd;exact sd)
  obtain⟨y3,y4,st',I',e⟩:=tD W (A:=A) (B:=B) (C:=C) (G:=G) gv (pre++[t]) _ (some (.sh (trD t))) (some (.sh (aI w.orders[n]))) (λx hx=>hg x (Gaj _ hx)) (I.step t) (by simp;omega)
  refine⟨y3,y4,st',by rw[Gax] at I';exact I', ?_⟩
  rw[Gar]
  have td:D.tup [.int t.1,.int t.2.1,.int t.2.2]=trD t:=rfl
  rw[td] at ev
  rw[ek] at e
  generalize trD t=d at*
  simp only[nF,GaW,GaX,ev,Option.bind_some]
  exact e
theorem CZ{A B C O G:List D}{kv:Rws}{y3 y4:Option Slot}(ig:aN G=true)(h:nF 3 bT G [some (.sh (.tup [.tup A,.tup B,.tup C,.tup O])),some (.sh (.tup G)),none,none,none] []=some ([some (.sh (.tup [.tup A,.tup B,.tup C,.tup O])),some (.sh (.tup G)),none,y3,y4],kv)):cO [.tup [.tup A,.tup B,.tup C,.tup O],.tup G]=some (.dT kv):=by
 refine bh rfl ?_
 unfold dJ
 simp[-nF,bz,ig,h]
theorem HB{w:World}{gv:List Tr}(W:bX w)(hg:gY w.orders.length gv)(hl:gv.length<64):∃st,rZ w.orders gv st∧cO [bB w,.tup (gv.map trD)]=some (.dT (lE st)):=by
 obtain⟨y3,y4,st,I,e⟩:=tD W (A:=w.cC.map d9) (B:=w.aH.map b4) (C:=w.dz.map trD) (G:=gv.map trD) gv [] [] none none hg ⟨by simp,by simp,by simp,by simp,by simp⟩ (by simpa using hl)
 exact⟨st,by simpa using I,CZ (ju gv) e⟩
noncomputable def lF(ns:List Int):List Int:=(cR ((ddF ns).map D.int)).map unI
theorem rn(ns:List Int):(lF ns).Pairwise (λa b=>a<b)∧(∀x,x∈lF ns↔x∈ns)∧(lF ns).length≤ns.length:=by
 obtain⟨S,h1,h2,h3,h4⟩:=Ff ns
 have e:lF ns=S:=by
  unfold lF
  rw[h1,GaS]
  conv=>rhs;rw[←Gcv S]
  exact GaO λ_ _=>rfl
 rw[e]
 exact⟨h2,h3,h4⟩
noncomputable def Fo:Cap→Int→Int→Bool
 | .flat H _,h,a=>decide (h -H<a)&&decide (a≤h)
 | .kilo H _ _,h,a=>decide (h -H<a)&&decide (a≤h)
 | .ever _,h,a=>decide (a≤h)
noncomputable def oX(c:Cap)(ms:List (Int×Int))(h:Int):Int:=(ms.map λp=>if Fo c h p.1 then p.2 else 0).sum
noncomputable def lG:Cap→D
 | .flat H _=> .int H
 | .kilo H _ _=> .int H
 | .ever _=> .non
theorem Mo(ms:List (Int×Int)):∃H:Int,∀p∈ms,∀q∈ms,q.1 -H<p.1:=by
 have:∃B:Int,∀p∈ms,-B<p.1∧p.1<B:=by
  induction ms with
  |nil=>exact⟨0,by simp⟩
  |cons p ms ih=>
   obtain⟨B,hB⟩:=ih
   refine⟨(if B<0 then -B else B)+(if p.1<0 then -p.1 else p.1)+1, ?_⟩
   intro q hq
   rcases GaA.mp hq with rfl|hq
   ·split<;>split<;>omega
   ·have:=hB q hq
    split<;>split<;>omega
 obtain⟨B,hB⟩:=this
 refine⟨2*B,λp hp q hq=> ?_⟩
 have:=hB p hp
 have:=hB q hq
 omega
theorem Fp{c:Cap}{ms:List (Int×Int)}(ok:pz c)(hl:ms.length<64):jI [.lst (ms.map mk2),lG c]=some (.lst (((lF (ms.map (·.1))).map λh=>(h,oX c ms h)).map mk2)):=by
 obtain⟨h1,h2,h3⟩:=rn (ms.map (·.1))
 have fin:∀(H:Int),(∀h,h∈ms.map (·.1)→∀p∈ms,wt H h p=if Fo c h p.1 then p.2 else 0)→Fg ms H (lF (ms.map (·.1)))=(lF (ms.map (·.1))).map λh=>(h,oX c ms h):=λH e=>by
  unfold Fg
  refine GaO λh hh=> ?_
  unfold W oX
  rw[GaO λp hp=>e h ((h2 h).mp hh) p hp]
 have lim:∀(H h:Int) (p:Int×Int),wt H h p=if(decide (h -H<p.1)&&decide (p.1≤h)) then p.2 else 0:=λH h p=>by
  unfold wt
  by_cases c1:h -H<p.1<;>by_cases c2:p.1≤h<;>simp[c1,c2]
 cases c with
 |flat H t=>
  rw[←fin H (λh _ p _=>lim H h p)]
  exact rh (.inl ⟨rfl,ok.1⟩) (List.Perm.refl _) hl h1 h2
 |kilo H t p=>
  rw[←fin H (λh _ p _=>lim H h p)]
  exact rh (.inl ⟨rfl,ok.1⟩) (List.Perm.refl _) hl h1 h2
 |ever t=>
  obtain⟨H,hH⟩:=Mo ms
  rw[←fin H (λh hh p hp=>by
   obtain⟨q,hq,rfl⟩:=GaG.mp hh
   rw[lim]
   have:=hH p hp q hq
   simp[Fo,this])]
  exact rh (.inr ⟨rfl,hH⟩) (List.Perm.refl _) hl h1 h2
noncomputable def kh(ws:List Tr)(c:Cap)(g s k:Int)(r:Int×Int):List Flt:=match iC c (wgt g r.1 ws none) with
 |some top=>if r.2>top then[("cap",[g,s,k,r.1,r.2,top])] else[]
 |none=>[]
noncomputable def oY(ws:List Tr)(g s k:Int)(c:Cap)(ms:List (Int×Int)):List Flt:=((lF (ms.map (·.1))).map λh=>(h,oX c ms h)).flatMap (kh ws c g s k)
noncomputable def kC(ws:List Tr)(g s:Int)(ms:List (Int×Int)):Nat→List Cap→List Flt
 |_,[]=>[]
 |k,c::cs=>oY ws g s (k:Int) c ms++kC ws g s ms (k+1) cs
theorem rq(ws:List Tr)(c:Cap)(g s k:Int)(r:Int×Int):(kh ws c g s k r).length≤1:=by
 unfold kh
 split
 ·split<;>simp
 ·simp
theorem wj{α β:Type}(f:α→List β)(h:∀a,(f a).length≤1):∀l:List α,(l.flatMap f).length≤l.length
 |[]=>by simp
 |a::l=>by
  have h1:=h a
  have h2:=wj f h l
  simp
  simp at h2
  omega
theorem rA(ws:List Tr)(g s k:Int)(c:Cap)(ms:List (Int×Int)):(oY ws g s k c ms).length≤ms.length:=by
 unfold oY
 have h1:=wj _ (rq ws c g s k) ((lF (ms.map (·.1))).map λh=>(h,oX c ms h))
 have h2:=(rn (ms.map (·.1))).2.2
 rw[Gae] at h1 h2
 omega
theorem oZ(ws:List Tr)(g s:Int)(ms:List (Int×Int)):∀(k:Nat) (cs:List Cap),(kC ws g s ms k cs).length≤cs.length*ms.length
 |_,[]=>by simp[kC]
 |k,c::cs=>by
  have h1:=rA ws g s (k:Int) c ms
  have h2:=oZ ws g s ms (k+1) cs
  unfold kC
  rw[Gav,GaH,GdJ]
  omega
noncomputable def D0(to:Option Int)(g s k r1 r2:Int):List D:=match to with
 |some top=>if r2>top then[D.tup [.str "cap",.int g,.int s,.int k,.int r1,.int r2,.int top]] else[]
 |none=>[]
theorem K2{e0 e2 e5 e9 x11:Option Slot}{W F:List D}{T0:D}{g s k r1 r2:Int}{cd:D}{wo to:Option Int}(ew:gU [.tup W,.int g,.int r1]=some (jh wo))(eb:jo [cd,jh wo]=some (jh to))(hz:F.length<100000):
  cH [e0,some (.sh (.tup W)),e2,some (.own (.lst F)),some (.sh (.tup [.int g,.int s])),e5,some (.sh (.int g)),some (.sh (.int k)),some (.sh cd),e9,some (.sh (.tup [.int r1,.int r2])),x11]=
   some (.nx [e0,some (.sh (.tup W)),e2,some (.own (.lst (F++D0 to g s k r1 r2))),some (.sh (.tup [.int g,.int s])),e5,some (.sh (.int g)),some (.sh (.int k)),some (.sh cd),e9,some (.sh (.tup [.int r1,.int r2])),some (.sh (jh to))]):=by
 have z:F.length<16777216:=by omega
 have rw' :=cL (jU wo)
 have rt:=cL (jU to)
 unfold cH
 refine(av (e:=[e0,some (.sh (.tup W)),e2,some (.own (.lst F)),some (.sh (.tup [.int g,.int s])),e5,some (.sh (.int g)),some (.sh (.int k)),some (.sh cd),e9,some (.sh (.tup [.int r1,.int r2])),some (.sh (jh to))]) (by simp[ew,rw',eb,rt])).trans ?_
 cases to with
 |none=>simp[kA,dB,D0]
 |some top=>
  by_cases c:r2>top
  ·have c' :top<r2:=c
   simp[kA,dB,c',z,ah,D0]
  ·have c' :¬top<r2:=c
   simp[kA,dB,c',D0]
theorem wk{ws:List Tr}{c:Cap}{g s k:Int}{e0 e2 e5 e9:Option Slot}(ok:pz c):∀(rs:List (Int×Int)) (fs:List Flt) (x10 x11:Option Slot),fs.length+rs.length<100000→∃y10 y11,
  forL (gN 10) cH (rs.map mk2) [e0,some (.sh (.tup (ws.map trD))),e2,some (.own (.lst (fs.map aw))),some (.sh (.tup [.int g,.int s])),e5,some (.sh (.int g)),some (.sh (.int k)),some (.sh (cY c)),e9,x10,x11]=
   some (.nx [e0,some (.sh (.tup (ws.map trD))),e2,some (.own (.lst ((fs++rs.flatMap (kh ws c g s k)).map aw))),some (.sh (.tup [.int g,.int s])),e5,some (.sh (.int g)),some (.sh (.int k)),some (.sh (cY c)),e9,y10,y11])
 |[],fs,x10,x11,_=> ⟨x10,x11,by simp⟩
 |r::rs,fs,x10,x11,hz=>by
  rw[GaH] at hz
  have ew:=lC (ws:=ws) (g:=g) (h:=r.1)
  have eb:=AB (c:=c) (w:=wgt g r.1 ws none) ok
  have ev:=K2 (e0:=e0) (e2:=e2) (e5:=e5) (e9:=e9) (x11:=x11) (F:=fs.map aw) (T0:= .non) (s:=s) (k:=k) (r2:=r.2) ew eb (by rw[Gae];omega)
  have eg:D0 (iC c (wgt g r.1 ws none)) g s k r.1 r.2=(kh ws c g s k r).map aw:=by
   unfold kh D0
   cases iC c (wgt g r.1 ws none) with
   |none=>rfl
   |some top=>
    dsimp only
    split<;>rfl
  rw[eg,←GaJ] at ev
  have l1:=rq ws c g s k r
  obtain⟨y10,y11,e⟩:=wk (ws:=ws) (c:=c) (g:=g) (s:=s) (k:=k) (e0:=e0) (e2:=e2) (e5:=e5) (e9:=e9) ok rs (fs++kh ws c g s k r) (some (.sh (mk2 r))) (some (.sh (jh (iC c (wgt g r.1 ws none))))) (by rw[Gav];omega)
  refine⟨y10,y11, ?_⟩
  rw[Gar,Gdh,←Gax]
  have e2:D.tup [.int r.1,.int r.2]=mk2 r:=rfl
  rw[e2] at ev
  generalize mk2 r=rd at*
  generalize cY c=cd at*
  simp only[forL,gN,GaW,GaX,Option.bind_some,ev]
  exact e
theorem K3{e0 e1 e2 e3 e4 e6 e7 x9 x10 x11:Option Slot}{M R:List D}{c:Cap}{e' :DL.Env}(hs:jI [.lst M,lG c]=some (.lst R))(h:forL (gN 10) cH R [e0,e1,e2,e3,e4,some (.sh (.lst M)),e6,e7,some (.sh (cY c)),some (.sh (lG c)),x10,x11]=some (.nx e')):
  cI [e0,e1,e2,e3,e4,some (.sh (.lst M)),e6,e7,some (.sh (cY c)),x9,x10,x11]=some (.nx e'):=by
 have rl:k5 (.lst R)=⟨.tn,.lst R⟩:=rfl
 unfold cI
 refine(av (e:=[e0,e1,e2,e3,e4,some (.sh (.lst M)),e6,e7,some (.sh (cY c)),some (.sh (lG c)),x10,x11]) ?_).trans ?_
 ·cases c<;>simp[cY,lG,eqB]
 ·have e1' :∀d:D,d=lG c→i8 none (kR (aG jI (a5 (vE 5) (a5 (vE 9) aq)))) (gN 10) cH [e0,e1,e2,e3,e4,some (.sh (.lst M)),e6,e7,some (.sh (cY c)),some (.sh d),x10,x11]=some (.nx e'):=λd hd=>by
   rw[←hd] at hs h
   generalize cY c=cd at*
   simp[-forL,hs,h,freed]
  exact e1' _ rfl
theorem tF{ws:List Tr}{g s:Int}{ms:List (Int×Int)}{e0 e2:Option Slot}(hm:ms.length<64):∀(cs:List Cap) (k:Nat) (fs:List Flt) (x7 x8 x9 x10 x11:Option Slot),(∀c∈cs,pz c)→fs.length+cs.length*ms.length<50000→∃y7 y8 y9 y10 y11,
  forL (gT [7,8]) cI (fA k (cs.map cY)) [e0,some (.sh (.tup (ws.map trD))),e2,some (.own (.lst (fs.map aw))),some (.sh (.tup [.int g,.int s])),some (.sh (.lst (ms.map mk2))),some (.sh (.int g)),x7,x8,x9,x10,x11]=
   some (.nx [e0,some (.sh (.tup (ws.map trD))),e2,some (.own (.lst ((fs++kC ws g s ms k cs).map aw))),some (.sh (.tup [.int g,.int s])),some (.sh (.lst (ms.map mk2))),some (.sh (.int g)),y7,y8,y9,y10,y11])
 |[],k,fs,x7,x8,x9,x10,x11,_,_=> ⟨x7,x8,x9,x10,x11,by simp[kC]⟩
 |c::cs,k,fs,x7,x8,x9,x10,x11,ok,hz=>by
  have ok0:=ok c Gap
  rw[GaH,GdJ] at hz
  have es:=Fp (ms:=ms) ok0 hm
  have hl:=(rn (ms.map (·.1))).2.2
  rw[Gae] at hl
  obtain⟨y10,y11,e⟩:=wk (ws:=ws) (c:=c) (g:=g) (s:=s) (k:=(k:Int)) (e0:=e0) (e2:=e2) (e5:=some (.sh (.lst (ms.map mk2)))) (e9:=some (.sh (lG c))) ok0 ((lF (ms.map (·.1))).map λh=>(h,oX c ms h)) fs x10 x11 (by rw[Gae];omega)
  have ev:=K3 (x9:=x9) es e
  have lz:=rA ws g s (k:Int) c ms
  obtain⟨z7,z8,z9,z10,z11,e'⟩:=tF (ws:=ws) (g:=g) (s:=s) (ms:=ms) (e0:=e0) (e2:=e2) hm cs (k+1) (fs++oY ws g s (k:Int) c ms) (some (.sh (.int (k:Int)))) (some (.sh (cY c))) (some (.sh (lG c))) y10 y11 (λx hx=>ok x (Gaj _ hx)) (by rw[Gav];omega)
  refine⟨z7,z8,z9,z10,z11, ?_⟩
  rw[Gar]
  conv=>rhs;unfold kC
  rw[←Gax]
  show forL (gT [7,8]) cI (D.tup [.int (k:Int),cY c]::fA (k+1) (cs.map cY)) _=_
  unfold oY at e' ⊢
  generalize (k:Int)=ki at*
  generalize cY c=cd at*
  simp only[forL,gT,gNs,GaW,GaX,Option.bind_some,ev]
  exact e'
noncomputable def tgF(ss:List jt)(ws:List Tr)(e:Tg):List Flt:=kC ws e.1.1 e.1.2 e.2 0 ((ss[e.1.2.toNat]?.map (·.aR)).getD [])
theorem Mp{A B C O W M Cs F F' :List D}{e2 x6 x7 x8 x9 x10 x11 y7 y8 y9 y10 y11:Option Slot}{g s:Int}{nm sz yg:D}(hS:atD B s=some (.tup [nm,sz,.tup Cs,yg]))
  (h:forL (gT [7,8]) cI (fA 0 Cs) [some (.sh (.tup [.tup A,.tup B,.tup C,.tup O])),some (.sh (.tup W)),e2,some (.own (.lst F)),some (.sh (.tup [.int g,.int s])),some (.sh (.lst M)),some (.sh (.int g)),x7,x8,x9,x10,x11]=some (.nx [some (.sh (.tup [.tup A,.tup B,.tup C,.tup O])),some (.sh (.tup W)),e2,some (.own (.lst F')),some (.sh (.tup [.int g,.int s])),some (.sh (.lst M)),some (.sh (.int g)),y7,y8,y9,y10,y11])):
  dD [some (.sh (.tup [.tup A,.tup B,.tup C,.tup O])),some (.sh (.tup W)),e2,some (.own (.lst F)),some (.sh (.tup [.int g,.int s])),some (.sh (.lst M)),x6,x7,x8,x9,x10,x11]=some (.nx [some (.sh (.tup [.tup A,.tup B,.tup C,.tup O])),some (.sh (.tup W)),e2,some (.own (.lst F')),some (.sh (.tup [.int g,.int s])),some (.sh (.lst M)),some (.sh (.int g)),y7,y8,y9,y10,y11]):=by
 unfold dD
 refine(av (e:=[some (.sh (.tup [.tup A,.tup B,.tup C,.tup O])),some (.sh (.tup W)),e2,some (.own (.lst F)),some (.sh (.tup [.int g,.int s])),some (.sh (.lst M)),some (.sh (.int g)),x7,x8,x9,x10,x11]) (by simp)).trans ?_
 simp[-forL,-fA,hS,h,freed]
theorem BH{w:World}(W:bX w){ws:List Tr}{A C O:List D}{e2:Option Slot}:∀(st:List Tg) (fs:List Flt) (x4 x5 x6 x7 x8 x9 x10 x11:Option Slot),(∀e∈st,0≤e.1.2∧e.1.2<w.aH.length∧e.2.length<64)→fs.length+st.length*256<40000→∃y4 y5 y6 y7 y8 y9 y10 y11,
  forL (gT [4,5]) dD (bL (lE st)) [some (.sh (.tup [.tup A,.tup (w.aH.map b4),.tup C,.tup O])),some (.sh (.tup (ws.map trD))),e2,some (.own (.lst (fs.map aw))),x4,x5,x6,x7,x8,x9,x10,x11]=
   some (.nx [some (.sh (.tup [.tup A,.tup (w.aH.map b4),.tup C,.tup O])),some (.sh (.tup (ws.map trD))),e2,some (.own (.lst ((fs++st.flatMap (tgF w.aH ws)).map aw))),y4,y5,y6,y7,y8,y9,y10,y11])
 |[],fs,x4,x5,x6,x7,x8,x9,x10,x11,_,_=> ⟨x4,x5,x6,x7,x8,x9,x10,x11,by simp[lE,bL]⟩
 |e::st,fs,x4,x5,x6,x7,x8,x9,x10,x11,he,hz=>by
  rw[GaH,GdJ] at hz
  obtain⟨s0,s1,ml⟩:=he e Gap
  obtain⟨n,hn⟩:=GaK s0
  have hn' :n<w.aH.length:=by omega
  have hS:atD (w.aH.map b4) e.1.2=some (.tup [.str w.aH[n].name,.tup ((w.aH[n].part::w.aH[n].more).map .int),.tup (w.aH[n].aR.map cY),.int w.aH[n].young]):=by
   rw[hn,f6,Gan,Gab hn'];rfl
  have so:=W.so w.aH[n] (GaC hn')
  have et:tgF w.aH ws e=kC ws e.1.1 e.1.2 e.2 0 w.aH[n].aR:=by
   unfold tgF
   rw[hn,GaQ,Gab hn']
   rfl
  have cl:=so.cl
  have lz:=oZ ws e.1.1 e.1.2 e.2 0 w.aH[n].aR
  have lz2:w.aH[n].aR.length*e.2.length≤4*64:=Nat.mul_le_mul cl (by omega)
  obtain⟨y7,y8,y9,y10,y11,ec⟩:=tF (ws:=ws) (g:=e.1.1) (s:=e.1.2) (ms:=e.2) (e0:=some (.sh (.tup [.tup A,.tup (w.aH.map b4),.tup C,.tup O]))) (e2:=e2) ml w.aH[n].aR 0 fs x7 x8 x9 x10 x11 so.ok (by omega)
  have ev:=Mp (x6:=x6) hS ec
  rw[←et] at ev lz
  obtain⟨z4,z5,z6,z7,z8,z9,z10,z11,e'⟩:=BH W (ws:=ws) (A:=A) (C:=C) (O:=O) (e2:=e2) st (fs++tgF w.aH ws e) (some (.sh (.tup [.int e.1.1,.int e.1.2]))) (some (.sh (.lst (e.2.map mk2)))) (some (.sh (.int e.1.1))) y7 y8 y9 y10 y11 (λx hx=>he x (Gaj _ hx)) (by rw[Gav];omega)
  refine⟨z4,z5,z6,z7,z8,z9,z10,z11, ?_⟩
  rw[Gdh,←Gax]
  have ei:bL (lE (e::st))=D.tup [.tup [.int e.1.1,.int e.1.2],.lst (e.2.map mk2)]::bL (lE st):=rfl
  rw[ei]
  generalize e.2.map mk2=M at*
  generalize w.aH.map b4=SS at*
  simp only[forL,gT,gNs,GaW,GaX,Option.bind_some,ev]
  exact e'
theorem HC{A B C O W G F:List D}{kv:Rws}{y4 y5 y6 y7 y8 y9 y10 y11:Option Slot}(hm:cO [.tup [.tup A,.tup B,.tup C,.tup O],.tup G]=some (.dT kv))
  (h:forL (gT [4,5]) dD (bL kv) [some (.sh (.tup [.tup A,.tup B,.tup C,.tup O])),some (.sh (.tup W)),some (.sh (.tup G)),some (.own (.lst [])),none,none,none,none,none,none,none,none]=some (.nx [some (.sh (.tup [.tup A,.tup B,.tup C,.tup O])),some (.sh (.tup W)),some (.sh (.tup G)),some (.own (.lst F)),y4,y5,y6,y7,y8,y9,y10,y11]))(im:aN F=true):
  fV [.tup [.tup A,.tup B,.tup C,.tup O],.tup W,.tup G]=some (.lst F):=by
 have rk:k5 (.dT kv)=⟨.tn,.dT kv⟩:=rfl
 refine bh rfl ?_
 unfold il
 refine(av (e:=[some (.sh (.tup [.tup A,.tup B,.tup C,.tup O])),some (.sh (.tup W)),some (.sh (.tup G)),some (.own (.lst [])),none,none,none,none,none,none,none,none]) (by simp[bz,ah])).trans ?_
 refine(av (e:=[some (.sh (.tup [.tup A,.tup B,.tup C,.tup O])),some (.sh (.tup W)),some (.sh (.tup G)),some (.own (.lst F)),y4,y5,y6,y7,y8,y9,y10,y11]) (by simp[-forL,hm,rk,h,freed])).trans ?_
 simp[im]
theorem p7{α β:Type}(f:α→List β)(N:Nat):∀l:List α,(∀a∈l,(f a).length≤N)→(l.flatMap f).length≤l.length*N
 |[],_=>by simp
 |a::l,h=>by
  have h1:=h a Gap
  have h2:=p7 f N l λx hx=>h x (Gaj _ hx)
  rw[Gdh,Gav,GaH,GdJ]
  omega
theorem Mq{w:World}{ws gv:List Tr}(W:bX w)(hg:gY w.orders.length gv)(hl:gv.length<64):∃st,rZ w.orders gv st∧fV [bB w,.tup (ws.map trD),.tup (gv.map trD)]=some (.lst ((st.flatMap (tgF w.aH ws)).map aw))∧(st.flatMap (tgF w.aH ws)).length≤20000:=by
 obtain⟨st,I,em⟩:=HB W hg hl
 have ln:=I.ln
 have he:∀e∈st,0≤e.1.2∧e.1.2<w.aH.length∧e.2.length<64:=λe hes=>by
  obtain⟨t,ht,ek⟩:=I.back e hes
  have g0:=hg t ht
  obtain⟨n,hn⟩:=GaK g0.1
  have hn' :n<w.orders.length:=by omega
  have ok:=W.oo w.orders[n] (GaC hn')
  have:tk w.orders t=(w.orders[n].cT,w.orders[n].gh):=by
   unfold tk
   rw[hn,GaQ,Gab hn']
  rw[this] at ek
  rw[←ek]
  have:=I.Mn hes
  exact⟨ok.s0,ok.s1,by omega⟩
 obtain⟨y4,y5,y6,y7,y8,y9,y10,y11,e⟩:=BH W (ws:=ws) (A:=w.cC.map d9) (C:=w.dz.map trD) (O:=w.orders.map aI) (e2:=some (.sh (.tup (gv.map trD)))) st [] none none none none none none none none he (by simp;omega)
 refine⟨st,I,HC em e (gy _), ?_⟩
 have h1:=p7 (tgF w.aH ws) 256 st (λe hes=>by
  have h2:=oZ ws e.1.1 e.1.2 e.2 0 ((w.aH[e.1.2.toNat]?.map (·.aR)).getD [])
  have h3:((w.aH[e.1.2.toNat]?.map (·.aR)).getD []).length≤4:=by
   cases h:w.aH[e.1.2.toNat]? with
   |none=>simp
   |some s=>exact(W.so s (GaL h)).cl
  have h4:=(he e hes).2.2
  have h5:=Nat.mul_le_mul h3 (Gds h4)
  unfold tgF
  omega)
 omega
noncomputable def jb(w:World)(ws:List Tr)(t:Tr):List Flt:=match w.orders[t.1.toNat]? with
 |some o=>match w.aH[o.gh.toNat]?,w.cC[o.cT.toNat]? with
  |some s,some g=>(lD o s g.2 ws t).map λk=>(k,[t.1,t.2.1])
  |_,_=>[]
 |none=>[]
theorem wm{w:World}(W:bX w){ws:List Tr}{t:Tr}(h0:0≤t.1)(h1:t.1<w.orders.length):fC [bB w,.tup (ws.map trD),trD t]=some (.lst ((jb w ws t).map aw))∧(jb w ws t).length≤5:=by
 obtain⟨n,hn⟩:=GaK h0
 have hn' :n<w.orders.length:=by omega
 have ok:=W.oo w.orders[n] (GaC hn')
 obtain⟨m,hm⟩:=GaK ok.s0
 have sl:=ok.s1
 have hm' :m<w.aH.length:=by omega
 obtain⟨g,hg⟩:=GaK ok.g0
 have gl:=ok.g1
 have hg' :g<w.cC.length:=by omega
 have hO:atD (w.orders.map aI) t.1=some (aI w.orders[n]):=by rw[hn,f6,Gan,Gab hn'];rfl
 have hS:atD (w.aH.map b4) w.orders[n].gh=some (b4 w.aH[m]):=by rw[hm,f6,Gan,Gab hm'];rfl
 have hG:atD (w.cC.map d9) w.orders[n].cT=some (d9 w.cC[g]):=by rw[hg,f6,Gan,Gab hg'];rfl
 have e:=JT (C:=w.dz.map trD) (ws:=ws) (t:=t) hO ok.du hS (W.so _ (GaC hm')) hG (gX _ ok.ti)
 have el:jb w ws t=(lD w.orders[n] w.aH[m] w.cC[g].2 ws t).map λk=>(k,[t.1,t.2.1]):=by
  unfold jb
  rw[hn,GaQ,Gab hn']
  dsimp only
  rw[hm,hg,GaQ,GaQ,Gab hm',Gab hg']
 constructor
 ·rw[el,GaS]
  exact e
 ·rw[el,Gae]
  unfold lD
  have h1:=df (dM w.orders[n].dQ t.2.1) "astray"
  have h2:=df (decide (w.orders[n].most<t.2.2)) "most"
  have h3:=df (decide (t.2.2<1)||decide (¬t.2.2%w.aH[m].part=0)) "part"
  have h4:=df (w.aH[m].aR.any dZ&&(wgt w.orders[n].cT t.2.1 ws none).isNone) "weight"
  have h5:=df (decide (t.2.1<w.cC[g].2+w.aH[m].young)) "young"
  simp only[Gav]
  omega
theorem K4{e0 e1 e2 e3:Option Slot}{wd wsd gd:D}{F R:List D}(h:fC [wd,wsd,gd]=some (.lst R))(hz:F.length+R.length<100000):
  gV [some (.sh wd),e1,some (.sh wsd),e3,some (.own (.lst F)),some (.sh gd)]=some (.nx [some (.sh wd),e1,some (.sh wsd),e3,some (.own (.lst (F++R))),some (.sh gd)]):=by
 have z:F.length+R.length≤16777216:=by omega
 have rl:k5 (.lst R)=⟨.tn,.lst R⟩:=rfl
 unfold gV
 simp[h,rl,z,ah]
theorem tH{w:World}(W:bX w){ws:List Tr}{e1 e3:Option Slot}:∀(gv:List Tr) (fs:List Flt) (x5:Option Slot),gY w.orders.length gv→fs.length+5*gv.length<100000→∃y5,
  forL (gN 5) gV (gv.map trD) [some (.sh (bB w)),e1,some (.sh (.tup (ws.map trD))),e3,some (.own (.lst (fs.map aw))),x5]=some (.nx [some (.sh (bB w)),e1,some (.sh (.tup (ws.map trD))),e3,some (.own (.lst ((fs++gv.flatMap (jb w ws)).map aw))),y5])
 |[],fs,x5,_,_=> ⟨x5,by simp⟩
 |t::gv,fs,x5,hg,hz=>by
  rw[GaH] at hz
  have g0:=hg t Gap
  obtain⟨e,l5⟩:=wm W (ws:=ws) g0.1 g0.2
  have ev:=K4 (e0:=none) (e1:=e1) (e2:=none) (e3:=e3) (F:=fs.map aw) e (by rw[Gae,Gae];omega)
  rw[←GaJ] at ev
  obtain⟨y5,e'⟩:=tH W (ws:=ws) (e1:=e1) (e3:=e3) gv (fs++jb w ws t) (some (.sh (trD t))) (λx hx=>hg x (Gaj _ hx)) (by rw[Gav];omega)
  refine⟨y5, ?_⟩
  rw[Gar,Gdh,←Gax]
  generalize trD t=td at*
  generalize bB w=wd at*
  simp only[forL,gN,GaW,GaX,Option.bind_some,ev]
  exact e'
theorem wq:∀(a b:List Int),mC (a.map D.int) (b.map D.int)=true
 |[],b=>by cases b<;>rfl
 |x::a,[]=>rfl
 |x::a,y::b=>by
  rw[Gar,Gar]
  unfold mC
  split
  ·exact wq a b
  ·rfl
theorem Fq(fs:List Flt):keysOk (fs.map aw)=true:=by
 have h1:(fs.map aw).all (mq 2)=true:=by
  rw[GbB,Gat]
  intro p _
  show((tyD (.str p.1)==2)&&(p.2.map D.int).all mj)=true
  rw[GbB,Gas]
  exact⟨rfl,Gat.mpr λ_ _=>rfl⟩
 have h2:((fs.map aw).all λx=>(fs.map aw).all λy=>vd x y)=true:=by
  rw[GbB,Gat]
  intro p _
  simp only[Gce]
  rw[GbB,Gat]
  intro q _
  show mC (.str p.1::p.2.map .int) (.str q.1::q.2.map .int)=true
  unfold mC
  split
  ·exact wq _ _
  ·rfl
 unfold keysOk
 rw[h1,h2];simp
theorem mH:∀(a b:List Int),(a.map D.int).map aY=(b.map D.int).map aY→a=b
 |[],[],_=>rfl
 |[],_::_,h=>by simp at h
 |_::_,[],h=>by simp at h
 |x::a,y::b,h=>by
  rw[Gar,Gar,Gar,Gar] at h
  injection h with h1 h2
  have h3:[1,x]=[1,y]:=h1
  simp at h3
  rw[h3,mH a b h2]
theorem BI:∀(a b:List Nat),a.map Int.ofNat=b.map Int.ofNat→a=b
 |[],[],_=>rfl
 |[],_::_,h=>by simp at h
 |_::_,[],h=>by simp at h
 |x::a,y::b,h=>by
  rw[Gar,Gar] at h
  injection h with h1 h2
  rw[Int.ofNat.inj h1,BI a b h2]
theorem str_inj{a b:Str}(h:a.cps.toList.map Int.ofNat=b.cps.toList.map Int.ofNat):a=b:=by
 have h2:a.cps.toList=b.cps.toList:=BI _ _ h
 obtain⟨a⟩:=a
 obtain⟨b⟩:=b
 congr 1
 exact Array.ext' h2
theorem uB{f g:Flt}(h:DL.code (aw f)=DL.code (aw g)):f=g:=by
 have h' :aY (.str f.1)::(f.2.map D.int).map aY=aY (.str g.1)::(g.2.map D.int).map aY:=h
 injection h' with h1 h2
 have h3:(2:Int)::f.1.cps.toList.map Int.ofNat=2::g.1.cps.toList.map Int.ofNat:=h1
 injection h3 with _ h4
 exact Prod.ext (str_inj h4) (mH _ _ h2)
noncomputable def unF:D→Flt
 | .tup (.str k::ds)=>(k,ds.map unI)
 |_=>("",[])
theorem Fs(f:Flt):unF (aw f)=f:=by
 show(f.1,(f.2.map D.int).map unI)=f
 rw[GaS]
 have:f.2.map (unI∘D.int)=f.2:=by
  conv=>rhs;rw[←Gcv f.2]
  exact GaO λ_ _=>rfl
 rw[this]
noncomputable def kD(fs:List Flt):List Flt:=(cR (fs.map aw)).map unF
theorem nu(fs:List Flt):(fs.map aw).map unF=fs:=by
 rw[GaS]
 conv=>rhs;rw[←Gcv fs]
 exact GaO λf _=>Fs f
theorem wx(fs:List Flt):cR (fs.map aw)=(kD fs).map aw:=by
 unfold kD
 rw[GaS]
 conv=>lhs;rw[←Gcv (cR (fs.map aw))]
 refine GaO λx hx=> ?_
 obtain⟨f,_,rfl⟩:=GaG.mp ((fK _).mem_iff.mp hx)
 simp only[Gce,Fs,id]
theorem jc(fs:List Flt):(kD fs).Perm fs:=by
 have:=(fK (fs.map aw)).map unF
 rw[nu] at this
 exact this
theorem kl(fs:List Flt):f7 ((kD fs).map aw):=by
 rw[←wx]
 exact fR _
theorem rC{a b:List Flt}(hp:a.Perm b)(h1:f7 (a.map aw))(h2:f7 (b.map aw)):a=b:=by
 have e:=jE (hp.map aw) h1 h2 (λx hx y hy hc=>by
  obtain⟨f,_,rfl⟩:=GaG.mp hx
  obtain⟨g,_,rfl⟩:=GaG.mp hy
  rw[uB hc])
 have:=congrArg (List.map unF) e
 rw[nu,nu] at this
 exact this
theorem uC{fs gs:List Flt}(p:Flt→Bool)(hp:(fs.filter p).Perm gs):(kD fs).filter p=kD gs:=by
 refine rC (((jc fs).filter p).trans (hp.trans (jc gs).symm)) ?_ (kl gs)
 have h:=kl fs
 unfold f7 at h⊢
 rw[GbZ] at h⊢
 exact h.filter p
theorem AD(fs:List Flt)(hz:fs.length<1000000):iR [.lst (fs.map aw)]=some ⟨.tn,.lst ((kD fs).map aw)⟩:=by
 have z:(fs.map aw).length<1000000:=by rw[Gae];exact hz
 unfold iR one mz
 simp only[Option.bind_some]
 rw[Fq,GaF z,wx]
 rfl
theorem AE{wd:D}{W G F0 F1 F2 F3 F R:List D}{y5:Option Slot}(h0:F1++F2++F3=F0)(h1:fV [wd,.tup W,.tup G]=some (.lst F1))(h2:fW [wd,.tup G]=some (.lst F2))(h3:dW [wd,.tup G]=some (.lst F3))(z:F1.length+F2.length+F3.length<100000)
  (hl:forL (gN 5) gV G [some (.sh wd),some (.sh (.tup [.tup W,.tup G])),some (.sh (.tup W)),some (.sh (.tup G)),some (.own (.lst F0)),none]=some (.nx [some (.sh wd),some (.sh (.tup [.tup W,.tup G])),some (.sh (.tup W)),some (.sh (.tup G)),some (.own (.lst F)),y5]))(hs:iR [.lst F]=some ⟨.tn,.lst R⟩)(iw:aN W=true)(ig:aN G=true)(ir:aN R=true):
  lA [wd,.tup [.tup W,.tup G]]=some (.lst R):=by
 have r1:∀L:List D,k5 (.lst L)=⟨.tn,.lst L⟩:=λ_=>rfl
 have z1:F1.length+F2.length≤16777216:=by omega
 have z2:F1.length+F2.length+F3.length≤16777216:=by omega
 refine bh rfl ?_
 unfold nT
 refine(av (e:=[some (.sh wd),some (.sh (.tup [.tup W,.tup G])),some (.sh (.tup W)),none,none,none]) (by simp[bz,iw])).trans ?_
 refine(av (e:=[some (.sh wd),some (.sh (.tup [.tup W,.tup G])),some (.sh (.tup W)),some (.sh (.tup G)),none,none]) (by simp[ig])).trans ?_
 refine(av (e:=[some (.sh wd),some (.sh (.tup [.tup W,.tup G])),some (.sh (.tup W)),some (.sh (.tup G)),some (.own (.lst F0)),none]) (by rw[←h0];simp[h1,h2,h3,r1,z1,z2,ah])).trans ?_
 refine(av (e:=[some (.sh wd),some (.sh (.tup [.tup W,.tup G])),some (.sh (.tup W)),some (.sh (.tup G)),some (.own (.lst F)),y5]) (by simp[-forL,hl,freed])).trans ?_
 simp[hs,ir]
theorem rD(os:List Order)(gs:List Tr)(w:Int):∀rows:List (Int×Int),rows.length<64→(dh os gs w rows).length≤64*rows.length
 |[],_=>by simp[dh]
 |r::rs,h=>by
  rw[GaH] at h
  have h1:=oW os gs w r rs
  have h2:=rD os gs w rs (by omega)
  unfold dh
  rw[Gav,GaH]
  omega
theorem wz{w:World}{ws gv:List Tr}(W:bX w)(hg:gY w.orders.length gv)(hl:gv.length<64):∃(st:List Tg) (rows:List (Int×Int)),rZ w.orders gv st∧rows.Perm (gvR gv)∧cR ((gvR gv).map mk2)=rows.map mk2∧(rows.Pairwise λa b=>a.1≤b.1)∧
  lA [bB w,.tup [.tup (ws.map trD),.tup (gv.map trD)]]=some (.lst ((kD (st.flatMap (tgF w.aH ws)++dh w.orders (w.dz.foldl bY []) (wide w.dz) rows++twF (gv.foldl (bC w.orders) [])++gv.flatMap (jb w ws))).map aw))∧
  (st.flatMap (tgF w.aH ws)++dh w.orders (w.dz.foldl bY []) (wide w.dz) rows++twF (gv.foldl (bC w.orders) [])++gv.flatMap (jb w ws)).length<100000:=by
 obtain⟨st,I,h1,z1⟩:=Mq (ws:=ws) W hg hl
 obtain⟨rows,r1,r2,r3,h2⟩:=Mm W hg hl
 obtain⟨h3,z3⟩:=Hr W hg hl
 have lr:rows.length=gv.length:=by rw[r2.length_eq];simp[gvR]
 have z2:=rD w.orders (w.dz.foldl bY []) (wide w.dz) rows (by omega)
 have z3' :(twF (gv.foldl (bC w.orders) [])).length≤64:=by
  unfold twF
  rw[Gae]
  have:=Gcq (λt:Tr=>decide (1<t.2.2)) (gv.foldl (bC w.orders) [])
  omega
 have z4:(gv.flatMap (jb w ws)).length≤gv.length*5:=p7 _ 5 gv λt ht=>(wm W (ws:=ws) (hg t ht).1 (hg t ht).2).2
 obtain⟨y5,e⟩:=tH W (ws:=ws) (e1:=some (.sh (.tup [.tup (ws.map trD),.tup (gv.map trD)]))) (e3:=some (.sh (.tup (gv.map trD)))) gv (st.flatMap (tgF w.aH ws)++dh w.orders (w.dz.foldl bY []) (wide w.dz) rows++twF (gv.foldl (bC w.orders) [])) none hg (by simp only[Gav];omega)
 have zz:(st.flatMap (tgF w.aH ws)++dh w.orders (w.dz.foldl bY []) (wide w.dz) rows++twF (gv.foldl (bC w.orders) [])++gv.flatMap (jb w ws)).length<100000:=by
  simp only[Gav]
  omega
 refine⟨st,rows,I,r2,r1,r3, ?_,zz⟩
 generalize st.flatMap (tgF w.aH ws)=F1 at*
 generalize dh w.orders (w.dz.foldl bY []) (wide w.dz) rows=F2 at*
 generalize twF (gv.foldl (bC w.orders) [])=F3 at*
 rw[GaJ,GaJ] at e
 exact AE rfl h1 h2 h3 (by simp only[Gae];omega) e (AD _ (by omega)) (ju ws) (ju gv) (gy _)
theorem Ft(i:Int):js [.int i]=some (.bl true):=by
 unfold js jr
 simp[jK]
theorem tJ{fd:D}{e0:Option Slot}:∀(ns:List Int) (x2:Option Slot),∃y2,forL (gN 2) dE (ns.map D.int) [e0,some (.sh fd),x2]=some (.nx [e0,some (.sh fd),y2])
 |[],x2=> ⟨x2,by simp⟩
 |n::ns,x2=>by
  have ev:dE [e0,some (.sh fd),some (.sh (.int n))]=some (.nx [e0,some (.sh fd),some (.sh (.int n))]):=by
   unfold dE
   simp[Ft]
  obtain⟨y2,e⟩:=tJ ns (some (.sh (.int n)))
  refine⟨y2, ?_⟩
  rw[Gar]
  simp only[forL,gN,GaW,GaX,Option.bind_some,ev]
  exact e
theorem D1{k:Str}{L:List D}{n:Int}{e0 x2 y2:Option Slot}(hn:cB [.tup (.str k::L)]=some ⟨.c,.int n⟩)(hn3:¬n<3)(hs:slD (some 1) none (.tup (.str k::L))=some ⟨.c,.tup L⟩)(h:forL (gN 2) dE L [e0,some (.sh (.tup (.str k::L))),x2]=some (.nx [e0,some (.sh (.tup (.str k::L))),y2])):
  fJ [e0,some (.sh (.tup (.str k::L))),x2]=some (.nx [e0,some (.sh (.tup (.str k::L))),y2]):=by
 have hx:ixD (.tup (.str k::L)) (.int 0)=some (.str k):=rfl
 have hi:jK "tuple" (.tup (.str k::L))=true:=rfl
 have hc:kQ (.tup (.str k::L))=false:=rfl
 have hi2:jK "str" (.str k)=true:=rfl
 have hc2:kQ (.str k)=false:=rfl
 generalize D.tup (.str k::L)=fd at*
 unfold fJ
 refine(av (e:=[e0,some (.sh fd),x2]) (by simp[hi,hc,hn,hn3,hx,hi2,hc2])).trans ?_
 simp[-forL,hs,h,freed]
theorem pD{e0:Option Slot}:∀(fs:List Flt) (x1 x2:Option Slot),(∀f∈fs,2≤f.2.length)→∃y1 y2,forL (gN 1) fJ (fs.map aw) [e0,x1,x2]=some (.nx [e0,y1,y2])
 |[],x1,x2,_=> ⟨x1,x2,by simp⟩
 |f::fs,x1,x2,h=>by
  have h0:=h f Gap
  obtain⟨y2,e⟩:=tJ (fd:=aw f) (e0:=e0) f.2 x2
  have hs:slD (some 1) none (.tup (.str f.1::f.2.map .int))=some ⟨.c,.tup (f.2.map .int)⟩:=by
   have e1:sIx (D.str f.1::f.2.map .int).length 0 (some 1)=1:=by
    show min 1 (D.str f.1::f.2.map .int).length=1
    simp
   have e2:sIx (D.str f.1::f.2.map .int).length (D.str f.1::f.2.map .int).length none=(D.str f.1::f.2.map .int).length:=rfl
   unfold slD
   dsimp only
   rw[e1,e2,Gag (by simp)]
   unfold cutD
   rw[e1,e2]
   simp only[List.drop_succ_cons,GbD]
   rw[Gbv (by simp)]
  have ev:=D1 (k:=f.1) (L:=f.2.map .int) (n:=((f.2.length+1:Nat):Int)) (by simp[cB]) (by omega) hs e
  obtain⟨z1,z2,e'⟩:=pD (e0:=e0) fs (some (.sh (aw f))) y2 λx hx=>h x (Gaj _ hx)
  refine⟨z1,z2, ?_⟩
  rw[Gar]
  have fe:D.tup (.str f.1::f.2.map .int)=aw f:=rfl
  rw[fe] at ev
  generalize aw f=fd at*
  simp only[forL,gN,GaW,GaX,Option.bind_some,ev]
  exact e'
theorem Fu{fs:List Flt}(h:∀f∈fs,2≤f.2.length):fZ [.lst (fs.map aw)]=some (.bl true):=by
 obtain⟨y1,y2,e⟩:=pD (e0:=some (.sh (.lst (fs.map aw)))) fs none none h
 refine bh rfl ?_
 unfold iA
 generalize fs.map aw=F at*
 refine(av (e:=[some (.sh (.lst F)),none,none]) (by simp[bz,jK,kQ])).trans ?_
 refine(av (e:=[some (.sh (.lst F)),y1,y2]) (by simp[-forL,e,freed])).trans ?_
 simp
theorem K5(f:Flt):eqD (aw f) (aw f)=true:=by
 have h:=ER f.2
 unfold aw
 simp[h]
theorem HE(fs:List Flt):eqB (.lst (fs.map aw)) (.lst (fs.map aw))=some true:=by
 have h1:D.plain (.lst (fs.map aw))=true:=by
  show(fs.map aw).all (ay 19)=true
  rw[GbB,Gat]
  intro f _
  show((D.str f.1::f.2.map .int).all (ay 18))=true
  have:=Aw 18 f.2
  simp only[GbC,this,Bool.and_true]
  rfl
 have h2:eqD (.lst (fs.map aw)) (.lst (fs.map aw))=true:=by
  show kO _ _=true
  induction fs with
  |nil=>rfl
  |cons f fs ih=>
   have h1:D.plain (.lst (fs.map aw))=true:=by
    rename D.plain _=true=>hp
    have hp' :((f::fs).map aw).all (ay 19)=true:=hp
    simp only[Gar,GbC,Gas] at hp'
    exact hp'.2
   have:=ih h1
   rw[Gar]
   show(eqD (aw f) (aw f)&&kO _ _)=true
   rw[K5,this];rfl
 unfold eqB
 rw[h1,h2];rfl
theorem D2{ws:List Tr}{c:Cap}{g s k:Int}{r:Int×Int}{f:Flt}(h:f∈kh ws c g s k r):f.1="cap"∧2≤f.2.length:=by
 unfold kh at h
 split at h
 ·split at h
  ·simp at h;rw[h];exact⟨rfl,by simp⟩
  ·simp at h
 ·simp at h
theorem rE{ws:List Tr}{g s:Int}{ms:List (Int×Int)}{f:Flt}:∀(cs:List Cap) (k:Nat),f∈kC ws g s ms k cs→f.1="cap"∧2≤f.2.length
 |[],k,h=>by simp[kC] at h
 |c::cs,k,h=>by
  unfold kC at h
  rcases Gay.mp h with h|h
  ·unfold oY at h
   obtain⟨r,_,hr⟩:=GcM.mp h
   exact D2 hr
  ·exact rE cs (k+1) h
theorem wA{ss:List jt}{ws:List Tr}{st:List Tg}{f:Flt}(h:f∈st.flatMap (tgF ss ws)):f.1="cap"∧2≤f.2.length:=by
 obtain⟨e,_,h⟩:=GcM.mp h
 exact rE _ _ h
theorem Fv{os:List Order}{gs:List Tr}{r l:Int×Int}{f:Flt}(h:f∈gpF os gs r l):f.1="gap"∧2≤f.2.length:=by
 unfold gpF at h
 split at h
 ·split at h
  ·simp at h;rw[h];exact⟨rfl,by simp⟩
  ·simp at h
 ·simp at h
theorem pE{os:List Order}{gs:List Tr}{w:Int}{r:Int×Int}{f:Flt}:∀ls:List (Int×Int),f∈jV os gs w r ls→f.1="gap"∧2≤f.2.length
 |[],h=>by simp[jV] at h
 |l::ls,h=>by
  unfold jV at h
  split at h
  ·simp at h
  ·rcases Gay.mp h with h|h
   ·exact Fv h
   ·exact pE ls h
theorem km{os:List Order}{gs:List Tr}{w:Int}{f:Flt}:∀ls:List (Int×Int),f∈dh os gs w ls→f.1="gap"∧2≤f.2.length
 |[],h=>by simp[dh] at h
 |l::ls,h=>by
  unfold dh at h
  rcases Gay.mp h with h|h
  ·exact pE _ h
  ·exact km ls h
theorem wB{ts:List Tr}{f:Flt}(h:f∈twF ts):f.1="twice"∧2≤f.2.length:=by
 unfold twF at h
 obtain⟨t,_,rfl⟩:=GaG.mp h
 exact⟨rfl,by simp⟩
noncomputable def wC:List Str:=["astray","most","part","weight","young"]
theorem K6{b:Bool}{x k:Str}(h:k∈kk b x):k=x:=by
 cases b<;>simp[kk] at h
 exact h
theorem wD{o:Order}{s:jt}{b:Int}{ws:List Tr}{t:Tr}{k:Str}(h:k∈lD o s b ws t):k∈wC:=by
 unfold lD at h
 unfold wC
 simp only[Gay] at h
 rcases h with(((h|h)|h)|h)|h<;>rw[K6 h]<;>simp
theorem rF{w:World}{ws:List Tr}{t:Tr}{f:Flt}(h:f∈jb w ws t):f.1∈wC∧2≤f.2.length:=by
 unfold jb at h
 split at h
 ·split at h
  ·obtain⟨k,hk,rfl⟩:=GaG.mp h
   exact⟨wD hk,by simp⟩
  ·simp at h
 ·simp at h
theorem filter_all{α:Type}{p:α→Bool}{l:List α}(h:∀x∈l,p x=true):l.filter p=l:=List.filter_eq_self.mpr h
theorem p8{α:Type}{p:α→Bool}{l:List α}(h:∀x∈l,p x=false):l.filter p=[]:=List.filter_eq_nil_iff.mpr λx hx=>by rw[h x hx];simp
noncomputable def AF(os:List Order)(g:Tr):Option Int:=(os[g.1.toNat]?).bind λo=>mF o.dQ g.2.1
noncomputable def uD(os:List Order)(o k:Int)(g:Tr):Bool:=decide (g.1=o)&&decide (AF os g=some k)
noncomputable def nZ(os:List Order)(pre:List Tr)(o k:Int):Nat:=(pre.filter (uD os o k)).length
structure se(os:List Order)(pre ts:List Tr):Prop where
 nd:(ts.map λt=>(t.1,t.2.1)).Nodup
 ct:∀t∈ts,t.2.2=(nZ os pre t.1 t.2.1:Int)
 cv:∀o k,0<nZ os pre o k→∃t∈ts,t.1=o∧t.2.1=k
theorem jW(os:List Order)(pre:List Tr)(g:Tr)(o k:Int):nZ os (pre++[g]) o k=nZ os pre o k+(if uD os o k g then 1 else 0):=by
 unfold nZ
 rw[GbT,Gav]
 congr 1
 cases h:uD os o k g<;>simp[h]
theorem HF{ts:List Tr}(nd:(ts.map λt=>(t.1,t.2.1)).Nodup){t:Tr}(ht:t∈ts):mv ts t.1 t.2.1=t.2.2:=by
 unfold mv
 induction ts with
 |nil=>cases ht
 |cons s ts ih=>
  rw[Gar,Gcn] at nd
  by_cases c:atT t.1 t.2.1 s=true
  ·rw[List.find?_cons_of_pos c]
   rcases GaA.mp ht with rfl|ht
   ·rfl
   ·exfalso
    have c' :=Gaw c
    exact nd.1 (GaG.mpr ⟨t,ht,by rw[c'.1,c'.2]⟩)
  ·rw[List.find?_cons_of_neg c]
   rcases GaA.mp ht with rfl|ht
   ·exact absurd (GaF ⟨rfl,rfl⟩) c
   ·exact ih nd.2 ht
theorem HG{ts:List Tr}{o k:Int}(h:ts.any (atT o k)=false):mv ts o k=0:=by
 unfold mv
 have:ts.find? (atT o k)=none:=by
  rw[List.find?_eq_none]
  intro x hx q
  rw[GdE] at h
  exact h x hx q
 rw[this]
 rfl
theorem se.step{os:List Order}{pre ts:List Tr}(I:se os pre ts)(g:Tr):se os (pre++[g]) (bC os ts g):=by
 obtain⟨nd,ct,cv⟩:=I
 have e:bC os ts g=twU ts g.1 (AF os g):=rfl
 rw[e]
 cases hu:AF os g with
 |none=>
  have no:∀o k,uD os o k g=false:=λo k=>by unfold uD;rw[hu];simp
  refine⟨nd,λt ht=> ?_,λo k h=> ?_⟩
  ·rw[jW,no]
   simpa using ct t ht
  ·rw[jW,no] at h
   exact cv o k (by simpa using h)
 |some k=>
  have has:∀o q,uD os o q g=decide (g.1=o∧k=q):=λo q=>by
   unfold uD;rw[hu]
   by_cases c1:g.1=o<;>by_cases c2:k=q<;>simp[c1,c2]
  show se os (pre++[g]) (oT ts g.1 k (mv ts g.1 k+1))
  unfold oT
  cases ha:ts.any (atT g.1 k) with
  |true=>
   rw[Gah rfl]
   obtain⟨s,hs,hsa⟩:=List.any_eq_true.mp ha
   have hsa' :=Gaw hsa
   have gv:mv ts g.1 k=s.2.2:=by rw[←hsa'.1,←hsa'.2];exact HF nd hs
   have keys:(ts.map λt=>if atT g.1 k t=true then(g.1,k,mv ts g.1 k+1) else t).map (λt=>(t.1,t.2.1))=ts.map λt=>(t.1,t.2.1):=by
    rw[GaS]
    refine GaO λt _=> ?_
    simp only[Gce]
    split
    ·rename_i c
     have c' :=Gaw c
     rw[c'.1,c'.2]
    ·rfl
   refine⟨by rw[keys];exact nd,λt ht=> ?_,λo q h=> ?_⟩
   ·obtain⟨x,hx,rfl⟩:=GaG.mp ht
    rw[jW]
    by_cases c:atT g.1 k x=true
    ·rw[Gah c]
     dsimp only
     have h1:=ct s hs
     rw[hsa'.1,hsa'.2] at h1
     rw[has,gv,h1]
     simp
    ·rw[Gag c]
     have nc:¬(g.1=x.1∧k=x.2.1):=λz=>c (GaF ⟨z.1.symm,z.2.symm⟩)
     rw[has,GaE nc]
     simpa using ct x hx
   ·by_cases c:g.1=o∧k=q
    ·refine⟨(g.1,k,mv ts g.1 k+1),GaG.mpr ⟨s,hs,by rw[Gah hsa]⟩,c.1,c.2⟩
    ·rw[jW,has,GaE c] at h
     obtain⟨t,ht,t1,t2⟩:=cv o q (by simpa using h)
     refine⟨t,GaG.mpr ⟨t,ht, ?_⟩,t1,t2⟩
     rw[Gag]
     intro z
     have z' :=Gaw z
     exact c ⟨by rw[←z'.1,t1],by rw[←z'.2,t2]⟩
  |false=>
   rw[Gag (by simp)]
   have g0:=HG ha
   have noK:∀t∈ts,¬(t.1=g.1∧t.2.1=k):=λt ht z=>by
    rw[GdE] at ha
    exact ha t ht (GaF z)
   have c0:nZ os pre g.1 k=0:=by
    rcases Nat.eq_zero_or_pos (nZ os pre g.1 k) with z|z
    ·exact z
    ·obtain⟨t,ht,z⟩:=cv g.1 k z
     exact absurd z (noK t ht)
   refine⟨?_,λt ht=> ?_,λo q h=> ?_⟩
   ·rw[GaJ,Gdg]
    refine⟨nd,by simp, ?_⟩
    intro a ha' b hb
    simp at hb
    obtain⟨t,ht,rfl⟩:=GaG.mp ha'
    rw[hb]
    intro z
    simp at z
    exact noK t ht z
   ·rw[jW]
    rcases Gay.mp ht with ht|ht
    ·have nc:¬(g.1=t.1∧k=t.2.1):=λz=>noK t ht ⟨z.1.symm,z.2.symm⟩
     rw[has,GaE nc]
     simpa using ct t ht
    ·simp at ht
     rw[ht]
     dsimp only
     rw[has,c0,g0]
     simp
   ·by_cases c:g.1=o∧k=q
    ·exact⟨(g.1,k,mv ts g.1 k+1),by simp,c.1,c.2⟩
    ·rw[jW,has,GaE c] at h
     obtain⟨t,ht,z⟩:=cv o q (by simpa using h)
     exact⟨t,GbU _ ht,z⟩
theorem se.all{os:List Order}:∀(gv pre ts:List Tr),se os pre ts→se os (pre++gv) (gv.foldl (bC os) ts)
 |[],pre,ts,I=>by rw[Gbb];exact I
 |g::gv,pre,ts,I=>by
  have:=se.all gv (pre++[g]) _ (I.step g)
  rw[Gax] at this
  exact this
theorem Fw(os:List Order)(gv:List Tr):se os gv (gv.foldl (bC os) []):=by
 have:=se.all (os:=os) gv [] [] ⟨by simp,by simp,λo k h=>by simp[nZ] at h⟩
 exact this
theorem K7{os:List Order}{gv:List Tr}{f:Flt}:f∈twF (gv.foldl (bC os) [])↔∃o k,f=(("twice",[o,k]):Flt)∧1<nZ os gv o k:=by
 have I:=Fw os gv
 unfold twF
 rw[GaG]
 constructor
 ·rintro⟨t,ht,rfl⟩
  have h:=Gbp.mp ht
  have h2:=Gaw h.2
  rw[I.ct t h.1] at h2
  exact⟨t.1,t.2.1,rfl,by omega⟩
 ·rintro⟨o,k,rfl,h⟩
  obtain⟨t,ht,rfl,rfl⟩:=I.cv o k (by omega)
  refine⟨t,Gbp.mpr ⟨ht,GaF ?_⟩,rfl⟩
  rw[I.ct t ht]
  omega
theorem Fx(os:List Order)(gv:List Tr):(twF (gv.foldl (bC os) [])).Nodup:=by
 have I:=Fw os gv
 unfold twF
 generalize gv.foldl (bC os) []=T at*
 have h:=I.nd
 unfold List.Nodup at h⊢
 rw[GbZ] at h⊢
 refine(h.filter _).imp ?_
 intro a b hab hc
 apply hab
 simp at hc
 rw[hc.1,hc.2]
noncomputable def wIn(f l h:Int):Bool:=decide (f≤h)&&decide (h≤l)
theorem Fy(hs:List Int)(f l:Int):bH (gN 0) (kP (b9 leB (vE 1) (vE 0)) (b9 leB (vE 0) (vE 2))) (vE 0) (hs.map D.int) [none,some (.sh (.int f)),some (.sh (.int l))]=some ((hs.filter (wIn f l)).map D.int):=by
 refine iL (g:=gN 0) D.int (λenv=>∃y,env=[y,some (.sh (.int f)),some (.sh (.int l))]) (wIn f l) D.int hs _ ⟨none,rfl⟩ ?_
 rintro h hh env ⟨y,rfl⟩
 refine⟨[some (.sh (.int h)),some (.sh (.int f)),some (.sh (.int l))],rfl,⟨_,rfl⟩, ?_,λ_=> ⟨.c,by simp,rfl⟩⟩
 unfold wIn
 by_cases c1:f≤h<;>by_cases c2:h≤l<;>simp[c1,c2]
theorem Mr{e0 e1 x7 x8:Option Slot}{F Hs R:List D}{o k b e m ea la n:Int}(me:cf k e=true)(zh:Hs.length<100000)(hc:bH (gN 0) (kP (b9 leB (vE 1) (vE 0)) (b9 leB (vE 0) (vE 2))) (vE 0) Hs [none,some (.sh (.int (b+k*e -ea))),some (.sh (.int (b+k*e+la)))]=some R)(hn:cB [.lst R]=some ⟨.c,.int n⟩)(hz:F.length<100000):
  cy [e0,e1,some (.own (.lst F)),some (.sh (.int o)),some (.sh (.tup [.str "due",.int b,.int e,.int m,.int ea,.int la])),some (.own (.lst Hs)),some (.sh (.int k)),x7,x8]=
   some (.nx [e0,e1,some (.own (.lst (F++if n>1 then[D.tup [.str "twice",.int o,.int k]] else[]))),some (.sh (.int o)),some (.sh (.tup [.str "due",.int b,.int e,.int m,.int ea,.int la])),some (.own (.lst Hs)),some (.sh (.int k)),some (.sh (.int (b+k*e -ea))),some (.sh (.int (b+k*e+la)))]):=by
 have z:F.length<16777216:=by omega
 have z2:Hs.length≤16777216:=by omega
 unfold cy
 refine(av (e:=[e0,e1,some (.own (.lst F)),some (.sh (.int o)),some (.sh (.tup [.str "due",.int b,.int e,.int m,.int ea,.int la])),some (.own (.lst Hs)),some (.sh (.int k)),some (.sh (.int (b+k*e -ea))),x8]) (by simp[me])).trans ?_
 refine(av (e:=[e0,e1,some (.own (.lst F)),some (.sh (.int o)),some (.sh (.tup [.str "due",.int b,.int e,.int m,.int ea,.int la])),some (.own (.lst Hs)),some (.sh (.int k)),some (.sh (.int (b+k*e -ea))),some (.sh (.int (b+k*e+la)))]) (by simp[me])).trans ?_
 by_cases c:n>1
 ·have c' :1<n:=c
  simp[-bH,-jL,ah,DL.compEnv,dF,z2,hc,hn,c',z]
 ·have c' :¬1<n:=c
  simp[-bH,-jL,ah,DL.compEnv,dF,z2,hc,hn,c']
noncomputable def dw(gv:List Tr)(o:Int):List Int:=(gv.filter λt=>decide (t.1=o)).map (·.2.1)
noncomputable def dbW(gv:List Tr)(o b e ea la:Int)(k:Nat):Bool:=decide (1<((dw gv o).filter (wIn (b+(k:Int)*e -ea) (b+(k:Int)*e+la))).length)
noncomputable def dbD(gv:List Tr)(o:Int)(b e ea la:Int)(m:Nat):List Flt:=((List.range m).filter (dbW gv o b e ea la)).map λ(k:Nat)=>(("twice",[o,(k:Int)]):Flt)
theorem Fz(gv:List Tr)(o:Int)(b e ea la:Int)(m:Nat):dbD gv o b e ea la (m+1)=dbD gv o b e ea la m++(if dbW gv o b e ea la m then([("twice",[o,(m:Int)])]:List Flt) else[]):=by
 unfold dbD
 rw[List.range_succ,GbT,GaJ]
 congr 1
 cases h:dbW gv o b e ea la m<;>simp[h]
theorem BJ(gv:List Tr)(o:Int)(b e ea la:Int)(m:Nat):(dbD gv o b e ea la m).length≤m:=by
 unfold dbD
 rw[Gae]
 have:=Gcq (dbW gv o b e ea la) (List.range m)
 rw[List.length_range] at this
 exact this
theorem Ms{e0 e1 x6 x7 x8:Option Slot}{gv:List Tr}{fs:List Flt}{o b e m ea la:Int}(he:1≤e)(he2:e≤12000000)(hm0:0≤m)(hm:m≤60)(hg:gv.length<64)(hf:fs.length≤10000):∃y6 y7 y8,
  forL (gN 6) cy (bx 0 m.toNat) [e0,e1,some (.own (.lst (fs.map aw))),some (.sh (.int o)),some (.sh (.tup [.str "due",.int b,.int e,.int m,.int ea,.int la])),some (.own (.lst ((dw gv o).map D.int))),x6,x7,x8]=
   some (.nx [e0,e1,some (.own (.lst ((fs++dbD gv o b e ea la m.toNat).map aw))),some (.sh (.int o)),some (.sh (.tup [.str "due",.int b,.int e,.int m,.int ea,.int la])),some (.own (.lst ((dw gv o).map D.int))),y6,y7,y8]):=by
 have hh:(dw gv o).length<64:=by
  unfold dw
  rw[Gae]
  have:=Gcq (λt:Tr=>decide (t.1=o)) gv
  omega
 obtain⟨en,h1,y6,y7,y8,rfl⟩:=fj (g:=gN 6) (body:=cy) (λj env=>∃y6 y7 y8,env=[e0,e1,some (.own (.lst ((fs++dbD gv o b e ea la j).map aw))),some (.sh (.int o)),some (.sh (.tup [.str "due",.int b,.int e,.int m,.int ea,.int la])),some (.own (.lst ((dw gv o).map D.int))),y6,y7,y8]) (bx 0 m.toNat) 0 [e0,e1,some (.own (.lst (fs.map aw))),some (.sh (.int o)),some (.sh (.tup [.str "due",.int b,.int e,.int m,.int ea,.int la])),some (.own (.lst ((dw gv o).map D.int))),x6,x7,x8] ⟨x6,x7,x8,by simp[dbD]⟩ (by
  rintro i d en hd ⟨y6,y7,y8,rfl⟩
  obtain⟨hi,rfl⟩:=cQ hd
  have dl:=BJ gv o b e ea la i
  rw[Gcl]
  have e0' :(0:Int)+(i:Int)=(i:Int):=by omega
  rw[e0']
  have hc:=Fy (dw gv o) (b+(i:Int)*e -ea) (b+(i:Int)*e+la)
  have ev:=Mr (e0:=e0) (e1:=e1) (x7:=y7) (x8:=y8) (F:=(fs++dbD gv o b e ea la i).map aw) (o:=o) (k:=(i:Int)) (b:=b) (e:=e) (m:=m) (ea:=ea) (la:=la) (n:=(((dw gv o).filter (wIn (b+(i:Int)*e -ea) (b+(i:Int)*e+la))).length:Int)) (nU (by omega) (by omega)) (by rw[Gae];omega) hc (by simp[cB]) (by rw[Gae,Gav];omega)
  have eg:(if((((dw gv o).filter (wIn (b+(i:Int)*e -ea) (b+(i:Int)*e+la))).length:Int))>1 then[D.tup [.str "twice",.int o,.int (i:Int)]] else[])=(if dbW gv o b e ea la i then([("twice",[o,(i:Int)])]:List Flt) else[]).map aw:=by
   unfold dbW
   by_cases c:1<((dw gv o).filter (wIn (b+(i:Int)*e -ea) (b+(i:Int)*e+la))).length
   ·rw[Gah (by omega),GaF c,Gah rfl];rfl
   ·rw[Gag (by omega),GaE c,Gag (by simp)];rfl
  rw[eg,←GaJ,Gax,←Fz] at ev
  exact⟨_,_,rfl,ev,some (.sh (.int (i:Int))),_,_,rfl⟩)
 rw[dY,Gcl] at h1
 exact⟨y6,y7,y8,h1⟩
noncomputable def dbO(os:List Order)(gv:List Tr)(o:Nat):List Flt:=match os[o]? with
 |some x=>match x.dQ with
  | .due b e m ea la=>dbD gv (o:Int) b e ea la m.toNat
  | .asked _=>[]
 |none=>[]
theorem AG(gv:List Tr)(o:Int):bH (gN 0) (b9 eqB (ixE (vE 0) (kE (.int 0))) (vE 1)) (ixE (vE 0) (kE (.int 1))) (gv.map trD) [none,some (.sh (.int o))]=some ((dw gv o).map D.int):=by
 unfold dw
 rw[GaS]
 refine iL (g:=gN 0) trD (λenv=>∃y,env=[y,some (.sh (.int o))]) (λt=>decide (t.1=o)) (D.int∘λt:Tr=>t.2.1) gv _ ⟨none,rfl⟩ ?_
 rintro t ht env ⟨y,rfl⟩
 refine⟨[some (.sh (trD t)),some (.sh (.int o))],rfl,⟨_,rfl⟩, ?_,λ_=> ⟨.c, ?_,rfl⟩⟩
 ·by_cases c:t.1=o<;>simp[trD,eqB,c]
 ·simp[trD]
theorem K8{A B C O W G F F' Hs:List D}{x4 x5 x6 x7 x8 y6 y7 y8:Option Slot}{o b e m ea la:Int}{nm g st ru tp:D}(hO:atD O o=some (.tup [nm,g,st,ru,.tup [.str "due",.int b,.int e,.int m,.int ea,.int la],tp]))(zg:G.length<1000)(hc:bH (gN 0) (b9 eqB (ixE (vE 0) (kE (.int 0))) (vE 1)) (ixE (vE 0) (kE (.int 1))) G [none,some (.sh (.int o))]=some Hs)(sm:bU m=true)
  (h:forL (gN 6) cy (bx 0 m.toNat) [some (.sh (.tup [.tup A,.tup B,.tup C,.tup O])),some (.sh (.tup [.tup W,.tup G])),some (.own (.lst F)),some (.sh (.int o)),some (.sh (.tup [.str "due",.int b,.int e,.int m,.int ea,.int la])),some (.own (.lst Hs)),x6,x7,x8]=some (.nx [some (.sh (.tup [.tup A,.tup B,.tup C,.tup O])),some (.sh (.tup [.tup W,.tup G])),some (.own (.lst F')),some (.sh (.int o)),some (.sh (.tup [.str "due",.int b,.int e,.int m,.int ea,.int la])),some (.own (.lst Hs)),y6,y7,y8])):
  bA [some (.sh (.tup [.tup A,.tup B,.tup C,.tup O])),some (.sh (.tup [.tup W,.tup G])),some (.own (.lst F)),some (.sh (.int o)),x4,x5,x6,x7,x8]=some (.nx [some (.sh (.tup [.tup A,.tup B,.tup C,.tup O])),some (.sh (.tup [.tup W,.tup G])),some (.own (.lst F')),some (.sh (.int o)),some (.sh (.tup [.str "due",.int b,.int e,.int m,.int ea,.int la])),some (.own (.lst Hs)),y6,y7,y8]):=by
 have z:G.length≤16777216:=by omega
 unfold bA
 refine(av (e:=[some (.sh (.tup [.tup A,.tup B,.tup C,.tup O])),some (.sh (.tup [.tup W,.tup G])),some (.own (.lst F)),some (.sh (.int o)),some (.sh (.tup [.str "due",.int b,.int e,.int m,.int ea,.int la])),x5,x6,x7,x8]) (by simp[hO])).trans ?_
 refine(JK (by simp[eqB])).trans ?_
 refine(av (e:=[some (.sh (.tup [.tup A,.tup B,.tup C,.tup O])),some (.sh (.tup [.tup W,.tup G])),some (.own (.lst F)),some (.sh (.int o)),some (.sh (.tup [.str "due",.int b,.int e,.int m,.int ea,.int la])),some (.own (.lst Hs)),x6,x7,x8]) (by simp[-bH,ah,DL.compEnv,dF,z,hc])).trans ?_
 simp[-forL,sm,h,freed]
theorem FA{A B C O W G F:List D}{x4 x5 x6 x7 x8:Option Slot}{o b:Int}{nm g st ru tp:D}(hO:atD O o=some (.tup [nm,g,st,ru,.tup [.str "asked",.int b],tp])):
  bA [some (.sh (.tup [.tup A,.tup B,.tup C,.tup O])),some (.sh (.tup [.tup W,.tup G])),some (.own (.lst F)),some (.sh (.int o)),x4,x5,x6,x7,x8]=some (.nx [some (.sh (.tup [.tup A,.tup B,.tup C,.tup O])),some (.sh (.tup [.tup W,.tup G])),some (.own (.lst F)),some (.sh (.int o)),some (.sh (.tup [.str "asked",.int b])),x5,x6,x7,x8]):=by
 unfold bA
 refine(av (e:=[some (.sh (.tup [.tup A,.tup B,.tup C,.tup O])),some (.sh (.tup [.tup W,.tup G])),some (.own (.lst F)),some (.sh (.int o)),some (.sh (.tup [.str "asked",.int b])),x5,x6,x7,x8]) (by simp[hO])).trans ?_
 refine(ND (by simp[eqB])).trans ?_
 rfl
noncomputable def gp(os:List Order)(gv:List Tr)(n:Nat):List Flt:=(List.range n).flatMap (dbO os gv)
theorem AH(os:List Order)(gv:List Tr)(n:Nat):gp os gv (n+1)=gp os gv n++dbO os gv n:=by
 unfold gp
 rw[List.range_succ,List.flatMap_append]
 simp
theorem HH{w:World}(W:bX w){gv:List Tr}{Ws:List D}(hg:gv.length<64):∃y3 y4 y5 y6 y7 y8,forL (gN 3) bA (bx 0 w.orders.length) [some (.sh (bB w)),some (.sh (.tup [.tup Ws,.tup (gv.map trD)])),some (.own (.lst [])),none,none,none,none,none,none]=
  some (.nx [some (.sh (bB w)),some (.sh (.tup [.tup Ws,.tup (gv.map trD)])),some (.own (.lst ((gp w.orders gv w.orders.length).map aw))),y3,y4,y5,y6,y7,y8]):=by
 have o12:=W.o12
 obtain⟨en,h1,y3,y4,y5,y6,y7,y8,_,rfl⟩:=fj (g:=gN 3) (body:=bA) (λj env=>∃y3 y4 y5 y6 y7 y8,(gp w.orders gv j).length≤60*j∧env=[some (.sh (bB w)),some (.sh (.tup [.tup Ws,.tup (gv.map trD)])),some (.own (.lst ((gp w.orders gv j).map aw))),y3,y4,y5,y6,y7,y8]) (bx 0 w.orders.length) 0 [some (.sh (bB w)),some (.sh (.tup [.tup Ws,.tup (gv.map trD)])),some (.own (.lst [])),none,none,none,none,none,none] ⟨none,none,none,none,none,none,by simp[gp],by simp[gp]⟩ (by
  rintro i d en hd ⟨y3,y4,y5,y6,y7,y8,hl,rfl⟩
  obtain⟨hi,rfl⟩:=cQ hd
  rw[Gcl] at hl⊢
  have e0' :(0:Int)+(i:Int)=(i:Int):=by omega
  rw[e0',AH]
  have ok:=W.oo w.orders[i] (GaC hi)
  have hO:atD (w.orders.map aI) (i:Int)=some (aI w.orders[i]):=by rw[f6,Gan,Gab hi];rfl
  have hdb:∀u,w.orders[i].dQ=u→dbO w.orders gv i=(match u with| .due b e m ea la=>dbD gv (i:Int) b e ea la m.toNat| .asked _=>[]):=λu hu=>by
   unfold dbO
   rw[Gab hi]
   dsimp only
   rw[hu]
  have du:=ok.du
  unfold aI at hO
  cases hu:w.orders[i].dQ with
  |asked b=>
   rw[hu] at hO du
   rw[hdb _ hu]
   dsimp only
   rw[Gbb]
   have ev:=FA (A:=w.cC.map d9) (B:=w.aH.map b4) (C:=w.dz.map trD) (W:=Ws) (G:=gv.map trD) (F:=(gp w.orders gv i).map aw) (x4:=y4) (x5:=y5) (x6:=y6) (x7:=y7) (x8:=y8) hO
   exact⟨_,_,rfl,ev,some (.sh (.int (i:Int))),_,_,_,_,_,by omega,rfl⟩
  |due b e m ea la=>
   rw[hu] at hO du
   rw[hdb _ hu]
   dsimp only
   obtain⟨e1,e2,hm,_⟩:=du
   have dl:=BJ gv (i:Int) b e ea la m.toNat
   obtain⟨z6,z7,z8,h⟩:=Ms (e0:=some (.sh (bB w))) (e1:=some (.sh (.tup [.tup Ws,.tup (gv.map trD)]))) (x6:=y6) (x7:=y7) (x8:=y8) (gv:=gv) (fs:=gp w.orders gv i) (o:=(i:Int)) (b:=b) (e:=e) (m:=m) (ea:=ea) (la:=la) e1 e2 (by omega) (by omega) hg (by omega)
   have ev:=K8 (A:=w.cC.map d9) (B:=w.aH.map b4) (C:=w.dz.map trD) (W:=Ws) (x4:=y4) (x5:=y5) hO (by rw[Gae];omega) (AG gv (i:Int)) (bZ (by omega) (by omega)) h
   exact⟨_,_,rfl,ev,some (.sh (.int (i:Int))),_,_,_,_,_,by rw[Gav];omega,rfl⟩)
 rw[dY,Gcl] at h1
 exact⟨y3,y4,y5,y6,y7,y8,h1⟩
theorem K9{A B C O W G F:List D}{n:Int}{y3 y4 y5 y6 y7 y8:Option Slot}(hn:cB [.tup O]=some ⟨.c,.int n⟩)(sm:bU n=true)(h:forL (gN 3) bA (bx 0 n.toNat) [some (.sh (.tup [.tup A,.tup B,.tup C,.tup O])),some (.sh (.tup [.tup W,.tup G])),some (.own (.lst [])),none,none,none,none,none,none]=some (.nx [some (.sh (.tup [.tup A,.tup B,.tup C,.tup O])),some (.sh (.tup [.tup W,.tup G])),some (.own (.lst F)),y3,y4,y5,y6,y7,y8]))(im:aN F=true):
  fI [.tup [.tup A,.tup B,.tup C,.tup O],.tup [.tup W,.tup G]]=some (.lst F):=by
 refine bh rfl ?_
 unfold gG
 refine(av (e:=[some (.sh (.tup [.tup A,.tup B,.tup C,.tup O])),some (.sh (.tup [.tup W,.tup G])),some (.own (.lst [])),none,none,none,none,none,none]) (by simp[bz,ah])).trans ?_
 refine(av (e:=[some (.sh (.tup [.tup A,.tup B,.tup C,.tup O])),some (.sh (.tup [.tup W,.tup G])),some (.own (.lst F)),y3,y4,y5,y6,y7,y8]) (by simp[-forL,-gP,hn,sm,h,freed])).trans ?_
 simp[im]
theorem D3{w:World}{ws gv:List Tr}(W:bX w)(hl:gv.length<64):fI [bB w,.tup [.tup (ws.map trD),.tup (gv.map trD)]]=some (.lst ((gp w.orders gv w.orders.length).map aw)):=by
 have o12:=W.o12
 obtain⟨y3,y4,y5,y6,y7,y8,e⟩:=HH W (Ws:=ws.map trD) hl
 exact K9 (n:=(w.orders.length:Int)) (by simp[cB]) (bZ (by omega) (by omega)) (by rw[GaQ];exact e) (gy _)
theorem HI{b e ea la h k:Int}(e1:1≤e)(a0:0≤ea)(l0:0≤la)(al:ea+la<e):(b+k*e -ea≤h∧h≤b+k*e+la)↔((h -(b -ea))/e=k∧h -(b -ea)-k*e≤ea+la):=by
 constructor
 ·rintro⟨h1,h2⟩
  refine⟨?_,by omega⟩
  have h3:k≤(h -(b -ea))/e:=(Int.le_ediv_iff_mul_le (by omega)).mpr (by omega)
  have h4:(h -(b -ea))/e<k+1:=(Int.ediv_lt_iff_lt_mul (by omega)).mpr (by rw[Int.add_mul];omega)
  omega
 ·rintro⟨h1,h2⟩
  have h3:(h -(b -ea))/e*e≤h -(b -ea):=Int.ediv_mul_le _ (by omega)
  rw[h1] at h3
  omega
theorem AI{w:World}(W:bX w):(bB w).imm=true:=by
 have h1:=g8 qZ w.cC
 have h2:=g8 kg w.aH
 have h3:=ju w.dz
 have h4:aN (w.orders.map aI)=true:=by
  have:∀l:List Order,(∀o∈l,nW w.cC.length w.aH.length o)→aN (l.map aI)=true:=by
   intro l
   induction l with
   |nil=>intro _;rfl
   |cons o l ih=>
    intro h
    have h1:=gX o (h o Gap).ti
    have h2:=ih λx hx=>h x (Gaj _ hx)
    rw[Gar]
    simp[h1,h2]
  exact this w.orders W.oo
 unfold bB
 simp[h1,h2,h3,h4]
theorem FC{ns:List Int}(hl:ns.length≤63):∃(n:Nat) (len mn:Int),n<64∧cB [.scr ns]=some ⟨.c,.int len⟩∧nE [.int len,.int 30]=some ⟨.c,.int mn⟩∧mn+draw ns 12 4=(n:Int):=by
 have l:=aV ns 12 4 (by omega)
 refine⟨((if(30:Int)<ns.length then 30 else ns.length)+draw ns 12 4).toNat,ns.length,if(30:Int)<ns.length then 30 else ns.length, ?_,by simp[cB],rfl, ?_⟩
 ·split<;>omega
 ·split<;>omega
noncomputable def jd(k:Str)(f:Flt):Bool:=f.1==k
theorem D4(k:Str)(fs:List Flt):bH (gN 0) (b9 eqB (ixE (vE 0) (kE (.int 0))) (kE (.str k))) (vE 0) (fs.map aw) [none]=some ((fs.filter (jd k)).map aw):=by
 refine iL (g:=gN 0) aw (λenv=>∃y,env=[y]) (jd k) aw fs _ ⟨none,rfl⟩ ?_
 rintro f hf env ⟨y,rfl⟩
 have im:(aw f).imm=true:=by
  have:=nV f.2
  simp[aw,this]
 have hx:ixD (aw f) (.int 0)=some (.str f.1):=rfl
 have hw:eqB (.str f.1) (.str k)=some (jd k f):=by unfold eqB jd;rfl
 generalize aw f=fd at*
 refine⟨[some (.sh fd)],rfl,⟨_,rfl⟩, ?_,λ_=> ⟨.c, ?_, ?_⟩⟩
 ·simp[hx,hw]
 ·simp[im]
 ·simp[RV.free]
theorem D5{w:World}{ws gv T:List Tr}{st:List Tg}{gs:List Tr}{wd:Int}{rows:List (Int×Int)}:∀f∈st.flatMap (tgF w.aH ws)++dh w.orders gs wd rows++twF T++gv.flatMap (jb w ws),2≤f.2.length:=by
 intro f hf
 rcases Gay.mp hf with hf|hf
 ·rcases Gay.mp hf with hf|hf
  ·rcases Gay.mp hf with hf|hf
   ·exact(wA hf).2
   ·exact(km _ hf).2
  ·exact(wB hf).2
 ·obtain⟨t,_,h⟩:=GcM.mp hf
  exact(rF h).2
theorem FD{f:Flt}{k:Str}(h:f.1∈wC)(hk:wC.all (λx=> !(x==k))=true):jd k f=false:=by
 have:=Gat.mp hk _ h
 unfold jd
 simpa using this
theorem AJ{w:World}{ws gv T:List Tr}{st:List Tg}{gs:List Tr}{wd:Int}{rows:List (Int×Int)}:(st.flatMap (tgF w.aH ws)++dh w.orders gs wd rows++twF T++gv.flatMap (jb w ws)).filter (jd "twice")=twF T:=by
 rw[GbT,GbT,GbT]
 rw[p8 (l:=st.flatMap (tgF w.aH ws)) λf hf=>by unfold jd;rw[(wA hf).1];rfl]
 rw[p8 (l:=dh w.orders gs wd rows) λf hf=>by unfold jd;rw[(km _ hf).1];rfl]
 rw[filter_all (l:=twF T) λf hf=>by unfold jd;rw[(wB hf).1];rfl]
 rw[p8 λf hf=>by
  obtain⟨t,_,h⟩:=GcM.mp hf
  exact FD (rF h).1 rfl]
 simp
theorem wF{b e m ea la h k:Int}(e1:1≤e)(a0:0≤ea)(l0:0≤la)(al:ea+la<e):vY b e m ea la h=some k↔(0≤k∧k<m)∧(b+k*e -ea≤h∧h≤b+k*e+la):=by
 rw[HI e1 a0 l0 al]
 unfold vY
 constructor
 ·intro q
  split at q
  ·rename_i c
   injection q with q
   rw[q] at c
   exact⟨c.1,q,c.2⟩
  ·cases q
 ·rintro⟨h1,h2,h3⟩
  rw[h2,Gah ⟨h1,h3⟩]
theorem BK{os:List Order}{gv:List Tr}{i:Nat}(hi:i<os.length){b e m ea la:Int}(hd:os[i].dQ= .due b e m ea la)(ok:jJ os[i].dQ){k:Nat}(hk:(k:Int)<m):((dw gv (i:Int)).filter (wIn (b+(k:Int)*e -ea) (b+(k:Int)*e+la))).length=nZ os gv (i:Int) (k:Int):=by
 rw[hd] at ok
 obtain⟨e1,e2,hm,a0,l0,al,ab,b3⟩:=ok
 unfold dw nZ
 rw[List.filter_map,Gae,List.filter_filter]
 congr 1
 apply List.filter_congr
 intro t _
 unfold uD wIn
 simp only[Gce]
 by_cases c:t.1=(i:Int)
 ·have dg:AF os t=vY b e m ea la t.2.1:=by
   unfold AF
   rw[c,GaQ,Gab hi]
   show mF os[i].dQ t.2.1=_
   rw[hd]
   rfl
  rw[dg,GaF c,Bool.and_true,Bool.true_and]
  have iff:=wF (b:=b) (m:=m) (h:=t.2.1) (k:=(k:Int)) e1 a0 l0 al
  by_cases c1:b+(k:Int)*e -ea≤t.2.1
  ·by_cases c2:t.2.1≤b+(k:Int)*e+la
   ·rw[GaF c1,GaF c2,GaF (iff.mpr ⟨⟨by omega,hk⟩,c1,c2⟩)];rfl
   ·rw[GaE c2,GaE (λz=>c2 (iff.mp z).2.2),GcH]
  ·rw[GaE c1,GaE (λz=>c1 (iff.mp z).2.1),Bool.false_and]
 ·rw[GaE c,GcH,Bool.false_and]
theorem HJ{os:List Order}{gv:List Tr}(hg:gY os.length gv)(ok:∀o∈os,jJ o.dQ){o k:Int}(h:0<nZ os gv o k):∃(i:Nat) (hi:i<os.length) (q:Nat) (b e m ea la:Int),o=(i:Int)∧k=(q:Int)∧os[i].dQ= .due b e m ea la∧(q:Int)<m:=by
 obtain⟨t,ht⟩:=List.exists_mem_of_length_pos h
 have h1:=Gbp.mp ht
 have g0:=hg t h1.1
 have h2:=h1.2
 unfold uD at h2
 rw[Gas] at h2
 have e1:=Gaw h2.1
 have e2:=Gaw h2.2
 obtain⟨i,hi⟩:=GaK g0.1
 have hi' :i<os.length:=by omega
 have dg:AF os t=mF os[i].dQ t.2.1:=by
  unfold AF
  rw[hi,GaQ,Gab hi']
  rfl
 have od:=ok os[i] (GaC hi')
 rw[dg] at e2
 cases hd:os[i].dQ with
 |asked b=>rw[hd] at e2;cases e2
 |due b e m ea la=>
  rw[hd] at e2 od
  obtain⟨e1',_,hm,a0,l0,al,_⟩:=od
  have:=(wF e1' a0 l0 al).mp e2
  obtain⟨q,hq⟩:=GaK this.1.1
  exact⟨i,hi',q,b,e,m,ea,la,by omega,hq,hd,by omega⟩
theorem Ka{os:List Order}{gv:List Tr}(hg:gY os.length gv)(ok:∀o∈os,jJ o.dQ){f:Flt}:f∈gp os gv os.length↔∃o k,f=(("twice",[o,k]):Flt)∧1<nZ os gv o k:=by
 unfold gp
 rw[GcM]
 constructor
 ·rintro⟨i,hi,hf⟩
  have hi' :=Gbi.mp hi
  unfold dbO at hf
  rw[Gab hi'] at hf
  dsimp only at hf
  cases hd:os[i].dQ with
  |asked b=>rw[hd] at hf;cases hf
  |due b e m ea la=>
   rw[hd] at hf
   dsimp only at hf
   unfold dbD at hf
   obtain⟨k,hk,rfl⟩:=GaG.mp hf
   have h1:=Gbp.mp hk
   have h2:=Gbi.mp h1.1
   have h3:=Gaw h1.2
   rw[BK hi' hd (ok _ (GaC hi')) (by omega)] at h3
   exact⟨(i:Int),(k:Int),rfl,h3⟩
 ·rintro⟨o,k,rfl,h⟩
  obtain⟨i,hi,q,b,e,m,ea,la,rfl,rfl,hd,hq⟩:=HJ hg ok (by omega:0<nZ os gv o k)
  refine⟨i,Gbi.mpr hi, ?_⟩
  unfold dbO
  rw[Gab hi]
  dsimp only
  rw[hd]
  dsimp only
  unfold dbD
  refine GaG.mpr ⟨q,Gbp.mpr ⟨Gbi.mpr (by omega), ?_⟩,rfl⟩
  unfold dbW
  rw[BK hi hd (ok _ (GaC hi)) hq]
  exact GaF h
noncomputable def ltF(a b:Flt):Prop:=ltC (DL.code (aw a)) (DL.code (aw b))=true
theorem Ie{o k o' k' :Int}(h:o<o' ∨(o=o' ∧k<k')):ltF ("twice",[o,k]) ("twice",[o',k']):=by
 unfold ltF ltC
 have e:∀o k:Int,DL.code (aw ("twice",[o,k]))=[aY (.str "twice"),[1,o],[1,k]]:=λ_ _=>rfl
 rw[e,e]
 unfold fu
 rw[Gah rfl]
 rcases h with h| ⟨rfl,h⟩
 ·have ne:¬([1,o]:List Int)=[1,o']:=λz=>by simp at z;omega
  unfold fu
  rw[Gag ne]
  have n2:¬o=o' :=by omega
  simp[fu,ltI,n2,h]
 ·have ne:¬([1,k]:List Int)=[1,k']:=λz=>by simp at z;omega
  have n2:¬k=k' :=by omega
  simp[fu,ltI,n2,h]
theorem wG{os:List Order}{gv:List Tr}{i:Nat}{f:Flt}(h:f∈dbO os gv i):∃k:Int,f=(("twice",[(i:Int),k]):Flt):=by
 unfold dbO at h
 split at h
 ·split at h
  ·unfold dbD at h
   obtain⟨k,_,rfl⟩:=GaG.mp h
   exact⟨_,rfl⟩
  ·cases h
 ·cases h
theorem D6(os:List Order)(gv:List Tr)(n:Nat):(gp os gv n).Pairwise ltF:=by
 unfold gp
 rw[List.pairwise_flatMap]
 constructor
 ·intro i _
  unfold dbO
  split
  ·split
   ·unfold dbD
    rw[GbZ]
    refine(Gdk.filter _).imp λ{a b} h=>Ie (.inr ⟨rfl,by omega⟩)
   ·exact List.Pairwise.nil
  ·exact List.Pairwise.nil
 ·refine Gdk.imp λ{a b} h x hx y hy=> ?_
  obtain⟨k,rfl⟩:=wG hx
  obtain⟨k',rfl⟩:=wG hy
  exact Ie (.inl (by omega))
theorem Mt{os:List Order}{gv:List Tr}(hg:gY os.length gv)(ok:∀o∈os,jJ o.dQ):kD (twF (gv.foldl (bC os) []))=gp os gv os.length:=by
 have st:=D6 os gv os.length
 have nd:(gp os gv os.length).Nodup:=st.imp λ{a b} h q=>by
  rw[q] at h
  unfold ltF at h
  rw[ve.irr] at h
  cases h
 have pm:(twF (gv.foldl (bC os) [])).Perm (gp os gv os.length):=(List.perm_ext_iff_of_nodup (Fx os gv) nd).mpr λf=>by rw[K7,Ka hg ok]
 refine rC ((jc _).trans pm) (kl _) ?_
 unfold f7
 rw[GbZ]
 exact st.imp λ{a b} h=>ve.LL h
theorem HK{ns:List Int}{wd:D}{q11 q12 len mn nv:Int}{W G F R:List D}(e1:gW [.scr ns]=some wd)(iwd:wd.imm=true)(d11:a9 [.scr ns,.int 11,.int 9]=some (.int q11))(e2:fG [.scr ns,wd,.int q11]=some (.tup W))(iw:aN W=true)(hl:cB [.scr ns]=some ⟨.c,.int len⟩)(hm:nE [.int len,.int 30]=some ⟨.c,.int mn⟩)(d12:a9 [.scr ns,.int 12,.int 4]=some (.int q12))(hn:mn+q12=nv)(e3:fH [.scr ns,wd,.int nv]=some (.tup G))(ig:aN G=true)(e4:lA [wd,.tup [.tup W,.tup G]]=some (.lst F))(e5:fZ [.lst F]=some (.bl true))
  (zf:F.length≤16777216)(hc:bH (gN 0) (b9 eqB (ixE (vE 0) (kE (.int 0))) (kE (.str "twice"))) (vE 0) F [none]=some R)(es:fI [wd,.tup [.tup W,.tup G]]=some (.lst R))(eq:eqB (.lst R) (.lst R)=some true):qX [.scr ns]=some (.bl true):=by
 have rl:∀L:List D,k5 (.lst L)=⟨.tn,.lst L⟩:=λ_=>rfl
 have rt:=cL (d:= .tup W) (by simp[iw])
 have rg:=cL (d:= .tup G) (by simp[ig])
 have rwd:=cL iwd
 refine bh rfl ?_
 unfold EO
 refine(av (e:=[some (.sh (.scr ns)),some (.sh wd),none,none,none]) (by simp[bz,e1,rwd])).trans ?_
 refine(av (e:=[some (.sh (.scr ns)),some (.sh wd),some (.sh (.tup W)),none,none]) (by simp[d11,e2,rt])).trans ?_
 refine(av (e:=[some (.sh (.scr ns)),some (.sh wd),some (.sh (.tup W)),some (.sh (.tup [.tup W,.tup G])),none]) (by simp[-Dy,hl,hm,d12,hn,e3,rg,iw,ig,ah])).trans ?_
 refine(av (e:=[some (.sh (.scr ns)),some (.sh wd),some (.sh (.tup W)),some (.sh (.tup [.tup W,.tup G])),some (.own (.lst F))]) (by simp[e4,rl])).trans ?_
 refine(av (e:=[some (.sh (.scr ns)),some (.sh wd),some (.sh (.tup W)),some (.sh (.tup [.tup W,.tup G])),some (.own (.lst F))]) (by simp[e5])).trans ?_
 simp[-bH,ah,DL.compEnv,dF,zf,hc,es,rl,eq]
theorem FE(ns:List Int)(hl:ns.length≤63):qX [.scr ns]=some (.bl true):=by
 obtain⟨w,W,e1⟩:=Hl ns
 have d11:=aO (ns:=ns) (k:=11) (m:=9) (by omega) (by omega) (by omega)
 have l11:=aV ns 11 9 (by omega)
 generalize draw ns 11 9=q11 at*
 obtain⟨q,rfl⟩:=GaK l11.1
 obtain⟨ws,_,e2⟩:=CN (ns:=ns) (n:=q) W (by omega)
 have d12:=aO (ns:=ns) (k:=12) (m:=4) (by omega) (by omega) (by omega)
 obtain⟨n,len,mn,hn,hlen,hmn,hsum⟩:=FC hl
 obtain⟨gv,g1,g2,e3⟩:=CP (ns:=ns) (n:=n) W hn
 obtain⟨st,rows,I,r2,r1,r3,e4,z⟩:=wz (ws:=ws) W g2 g1
 have words:=D5 (w:=w) (ws:=ws) (gv:=gv) (T:=gv.foldl (bC w.orders) []) (st:=st) (gs:=w.dz.foldl bY []) (wd:=wide w.dz) (rows:=rows)
 have flt:=AJ (w:=w) (ws:=ws) (gv:=gv) (T:=gv.foldl (bC w.orders) []) (st:=st) (gs:=w.dz.foldl bY []) (wd:=wide w.dz) (rows:=rows)
 have ed:=D3 (ws:=ws) (gv:=gv) W g1
 have db:=Mt g2 (λo ho=>(W.oo o ho).du)
 generalize hA:st.flatMap (tgF w.aH ws)++dh w.orders (w.dz.foldl bY []) (wide w.dz) rows++twF (gv.foldl (bC w.orders) [])++gv.flatMap (jb w ws)=A at*
 have lst:fZ [.lst ((kD A).map aw)]=some (.bl true):=Fu λf hf=>words f ((jc _).mem_iff.mp hf)
 have hc:=D4 "twice" (kD A)
 rw[uC (jd "twice") (by rw[flt]),db] at hc
 have zf:((kD A).map aw).length≤16777216:=by
  rw[Gae,(jc _).length_eq]
  omega
 exact HK e1 (AI W) d11 e2 (ju ws) hlen hmn d12 hsum e3 (ju gv) e4 lst zf hc ed (HE _)
end Maths
namespace Hd
open PySem PySem.W PyProof.Rows L2
noncomputable abbrev p0:=PySem.Challenge.pw_dosehouse_k44_dues_given_twice
noncomputable def top(i:Nat):Stmt:=p0.main.body.getD i (.Pass ⟨0,0,0,0⟩)
noncomputable def view:Program:={p0 with main:={p0.main with body:=[1,3,4,6,8,10,11,12,13,14,15,16,17,18,20,21,22,23,24,25,26,27,28,29,30,31,32,33].map top}}
noncomputable abbrev fd (n:Str) (i:Nat) (m:Str) (t c:Nat):FuncData:=fnOf n n (lW (top i)) (jk (top i)) (aJ (top i)) .none .none .none (.str m t) none (.ref c) .none
noncomputable def fo(d:FuncData):Obj:=⟨.type "function",none,.func d,#[]⟩
noncomputable def co(n:Str)(t l k a:Nat)(x y:Value)(b u:Nat):Obj:={cls:= .type "code",data:= .fields #[.str n t,.str n (t+1),.str "/claim/cut.py" (t+2),.int l 0,.int k 0,.int 0 0,.int 0 0,.int 3 0,.ref a,.bool true,.int 181 0,.ref (a+1),.none,x,y,.ref b,.int u 0,.int l 0,.str "/claim/cut.py" (u+1)]}
noncomputable def e(P:Params)(n:Str)(t:Nat)(v:Value):DictEntry:=⟨PyData.keyHash P n,.str n t,v⟩
noncomputable def r(P:Params)(n:Str)(t a:Nat):DictEntry:=e P n t (.ref a)
noncomputable abbrev m0:Str:="dosehouse.bounds"
noncomputable abbrev m1:Str:="dosehouse.dues"
noncomputable abbrev m2:Str:="dosehouse.faults"
noncomputable abbrev m3:Str:="dosehouse.weights"
noncomputable abbrev m4:Str:="dosehouse.windows"
noncomputable abbrev m5:Str:="law_dosehouse_k44_dues_given_twice"
noncomputable abbrev qp:=fd "bound" 1 m0 187 20
noncomputable abbrev o4:=fd "due_of" 3 m1 197 27
noncomputable abbrev o5:=fd "astray" 4 m1 197 34
noncomputable abbrev jv:=fd "weight_at" 6 m3 219 41
noncomputable abbrev uE:=fd "sums" 8 m4 232 48
noncomputable abbrev fm:=fd "goes_by_weight" 10 m2 248 53
noncomputable abbrev gH:=fd "lone_faults" 11 m2 248 58
noncomputable abbrev dN:=fd "marks_by_target" 12 m2 248 65
noncomputable abbrev iD:=fd "cap_faults" 13 m2 248 72
noncomputable abbrev fq:=fd "gaps_by_stuffs" 14 m2 248 79
noncomputable abbrev gI:=fd "gap_between" 15 m2 248 86
noncomputable abbrev iE:=fd "gap_faults" 16 m2 248 91
noncomputable abbrev gc:=fd "twice_faults" 17 m2 248 96
noncomputable abbrev o6:=fd "faults" 18 m2 248 103
noncomputable abbrev kn:=fd "_law_draw" 20 m5 333 110
noncomputable abbrev ko:=fd "_law_caps" 21 m5 333 117
noncomputable abbrev iF:=fd "_law_stuffs" 22 m5 333 124
noncomputable abbrev kq:=fd "_law_bars" 23 m5 333 131
noncomputable abbrev ku:=fd "_law_dues" 24 m5 333 138
noncomputable abbrev jw:=fd "_law_world" 25 m5 333 145
noncomputable abbrev kz:=fd "_law_hour" 26 m5 333 152
noncomputable abbrev iH:=fd "_law_amount" 27 m5 333 159
noncomputable abbrev gJ:=fd "_law_weights" 28 m5 333 164
noncomputable abbrev gK:=fd "_law_givings" 29 m5 333 169
noncomputable abbrev gL:=fd "_law_doubled" 30 m5 333 174
noncomputable abbrev jx:=fd "_law_whole" 31 m5 333 181
noncomputable abbrev iI:=fd "_law_listed" 32 m5 333 188
noncomputable abbrev BL:=fd "law" 33 m5 333 193
noncomputable def K(P:Params):Frag:=[(3,{cls:= .type "dict",data:= .dict #[e P "__name__" 165 (.str "law_dosehouse_k44_dues_given_twice" 333),e P "__doc__" 166 (.none),e P "__package__" 167 (.none),e P "__loader__" 168 (.builtin "__main__.__loader__#opaque"),e P "__spec__" 169 (.none),r P "__annotations__" 170 6,r P "__builtins__" 171 4,e P "__file__" 173 (.str "/claim/cut.py" 172),e P "__cached__" 174 (.none),r P "bound" 196 21,r P "due_of" 209 28,r P "astray" 218 35,r P "weight_at" 231 42,r P "sums" 247 49,r P "goes_by_weight" 255 54,r P "lone_faults" 261 59,r P "marks_by_target" 272 66,r P "cap_faults" 290 73,r P "gaps_by_stuffs" 299 80,r P "gap_between" 308 87,r P "gap_faults" 314 92,r P "twice_faults" 320 97,r P "faults" 332 104,r P "_law_draw" 344 111,r P "_law_caps" 360 118,r P "_law_stuffs" 374 125,r P "_law_bars" 388 132,r P "_law_dues" 401 139,r P "_law_world" 420 146,r P "_law_hour" 435 153,r P "_law_amount" 448 160,r P "_law_weights" 454 165,r P "_law_givings" 460 170,r P "_law_doubled" 466 175,r P "_law_whole" 473 182,r P "_law_listed" 482 189,r P "law" 488 194] 37}),
 (21,fo qp),(20,co "bound" 189 2 2 15 (.ref 17) (.ref 18) 19 194),
 (28,fo o4),(27,co "due_of" 199 11 2 22 (.ref 24) (.ref 25) 26 207),
 (35,fo o5),(34,co "astray" 210 20 2 29 (.ref 31) (.ref 32) 33 216),
 (42,fo jv),(41,co "weight_at" 221 26 3 36 (.ref 38) (.ref 39) 40 229),
 (49,fo uE),(48,co "sums" 234 33 2 43 (.ref 45) (.ref 46) 47 245),
 (54,fo fm),(53,co "goes_by_weight" 250 47 1 50 (.none) (.none) 52 253),
 (59,fo gH),(58,co "lone_faults" 256 49 3 55 (.none) (.none) 57 259),
 (66,fo dN),(65,co "marks_by_target" 262 67 2 60 (.ref 62) (.ref 63) 64 270),
 (73,fo iD),(72,co "cap_faults" 273 73 3 67 (.ref 69) (.ref 70) 71 288),
 (80,fo fq),(79,co "gaps_by_stuffs" 291 84 1 74 (.ref 76) (.ref 77) 78 297),
 (87,fo gI),(86,co "gap_between" 300 90 3 81 (.ref 83) (.ref 84) 85 306),
 (92,fo iE),(91,co "gap_faults" 309 94 2 88 (.none) (.none) 90 312),
 (97,fo gc),(96,co "twice_faults" 315 107 2 93 (.none) (.none) 95 318),
 (104,fo o6),(103,co "faults" 321 114 2 98 (.ref 100) (.ref 101) 102 330),
 (111,fo kn),(110,co "_law_draw" 335 122 3 105 (.ref 107) (.ref 108) 109 342),
 (118,fo ko),(117,co "_law_caps" 345 127 4 112 (.ref 114) (.ref 115) 116 358),
 (125,fo iF),(124,co "_law_stuffs" 361 141 2 119 (.ref 121) (.ref 122) 123 372),
 (132,fo kq),(131,co "_law_bars" 375 150 3 126 (.ref 128) (.ref 129) 130 386),
 (139,fo ku),(138,co "_law_dues" 389 159 3 133 (.ref 135) (.ref 136) 137 399),
 (146,fo jw),(145,co "_law_world" 402 167 1 140 (.ref 142) (.ref 143) 144 418),
 (153,fo kz),(152,co "_law_hour" 421 185 4 147 (.ref 149) (.ref 150) 151 433),
 (160,fo iH),(159,co "_law_amount" 436 198 4 154 (.ref 156) (.ref 157) 158 446),
 (165,fo gJ),(164,co "_law_weights" 449 205 3 161 (.none) (.none) 163 452),
 (170,fo gK),(169,co "_law_givings" 455 214 3 166 (.none) (.none) 168 458),
 (175,fo gL),(174,co "_law_doubled" 461 223 2 171 (.none) (.none) 173 464),
 (182,fo jx),(181,co "_law_whole" 467 235 1 176 (.ref 178) (.ref 179) 180 471),
 (189,fo iI),(188,co "_law_listed" 474 237 1 183 (.ref 185) (.ref 186) 187 480),
 (194,fo BL),(193,co "law" 483 247 1 190 (.none) (.none) 192 486)]
noncomputable def as_:List Addr:=[3,21,20,28,27,35,34,42,41,49,48,54,53,59,58,66,65,73,72,80,79,87,86,92,91,97,96,104,103,111,110,118,117,125,124,132,131,139,138,146,145,153,152,160,159,165,164,170,169,175,174,182,181,189,188,194,193]
noncomputable def hook:Hook:=kHook K as_ (λ_=>rfl)
noncomputable def xt(s:Shared):Bool:=xlAt view [] s&&recOk (RowW.records (OpenRow.toRowW (OpenLaw.row PySem.Challenge.rw_dosehouse_k44_dues_given_twice))) s
theorem left:LeftO p0 view [] xt hook.obs hook.val 2014:=λw=>by kernel_rfl
end Hd
seal L2.PE L2.PT L2.PW L2.PA L2.PS L2.PSs L2.PG L2.PGs L2.PI
namespace Der
open PySem PySem.Spec PyProof.Rows L2 DL Den
noncomputable abbrev top:=Hd.top
noncomputable abbrev wH:Stmt:=top 1
noncomputable abbrev tK:Stmt:=top 3
noncomputable abbrev tL:Stmt:=top 4
noncomputable abbrev o7:Stmt:=top 6
noncomputable abbrev BM:Stmt:=top 8
noncomputable abbrev jy:Stmt:=top 10
noncomputable abbrev lH:Stmt:=top 11
noncomputable abbrev je:Stmt:=top 12
noncomputable abbrev mI:Stmt:=top 13
noncomputable abbrev jz:Stmt:=top 14
noncomputable abbrev lI:Stmt:=top 15
noncomputable abbrev mJ:Stmt:=top 16
noncomputable abbrev kF:Stmt:=top 17
noncomputable abbrev tN:Stmt:=top 18
noncomputable abbrev pF:Stmt:=top 20
noncomputable abbrev pG:Stmt:=top 21
noncomputable abbrev mK:Stmt:=top 22
noncomputable abbrev pH:Stmt:=top 23
noncomputable abbrev pI:Stmt:=top 24
noncomputable abbrev o8:Stmt:=top 25
noncomputable abbrev pJ:Stmt:=top 26
noncomputable abbrev mL:Stmt:=top 27
noncomputable abbrev lJ:Stmt:=top 28
noncomputable abbrev lK:Stmt:=top 29
noncomputable abbrev lL:Stmt:=top 30
noncomputable abbrev o9:Stmt:=top 31
noncomputable abbrev mM:Stmt:=top 32
noncomputable abbrev FF:Stmt:=top 33
theorem all1{K:PySem.W.Frag}{fd:FuncData}{p0:Str}(h:∀v0:Value,bindArgs fd ⟨[v0],[]⟩=pure ([p0].zip [v0])):Binds K fd [p0] []:= .all λus hl=>match us,hl with|[v0],_=>h v0
theorem all2{K:PySem.W.Frag}{fd:FuncData}{p0 p1:Str}(h:∀v0 v1:Value,bindArgs fd ⟨[v0,v1],[]⟩=pure ([p0,p1].zip [v0,v1])):Binds K fd [p0,p1] []:= .all λus hl=>match us,hl with|[v0,v1],_=>h v0 v1
theorem uF{K:PySem.W.Frag}{fd:FuncData}{p0 p1 p2:Str}(h:∀v0 v1 v2:Value,bindArgs fd ⟨[v0,v1,v2],[]⟩=pure ([p0,p1,p2].zip [v0,v1,v2])):Binds K fd [p0,p1,p2] []:= .all λus hl=>match us,hl with|[v0,v1,v2],_=>h v0 v1 v2
theorem Kb{K:PySem.W.Frag}{fd:FuncData}{p0 p1 p2 p3:Str}(h:∀v0 v1 v2 v3:Value,bindArgs fd ⟨[v0,v1,v2,v3],[]⟩=pure ([p0,p1,p2,p3].zip [v0,v1,v2,v3])):Binds K fd [p0,p1,p2,p3] []:= .all λus hl=>match us,hl with|[v0,v1,v2,v3],_=>h v0 v1 v2 v3
section
variable{Pm:Params}{mg:Str→Option Value}
noncomputable def Txt(Pm:Params)(mg:Str→Option Value):Prop:=∃h:Heap,(Hd.K Pm).In h∧h.Ns mainGlobals mg
theorem Txt.at{n:Str}{v:Value}(T:Txt Pm mg)(e:PySem.W.nsIn (Hd.K Pm) mainGlobals n=some (some v):=by kernel_rfl):mg n=some v:=let⟨_,X,G⟩:=T;PySem.W.mg_of X G e
theorem Txt.no{n:Str}(T:Txt Pm mg)(e:PySem.W.nsIn (Hd.K Pm) mainGlobals n=some none:=by kernel_rfl):mg n=none:=let⟨_,X,G⟩:=T;PySem.W.mg_none_of X G e
theorem mkF{x:Str}{st:Stmt}{f:Addr}{pm cd:Value}(l:(Hd.K Pm).lookup f=some (Hd.fo (PySem.W.fnOf x x (lW st) (jk st) (aJ st) .none .none .none pm none cd .none)):=by kernel_rfl)(c:PySem.W.codeIn (Hd.K Pm) cd x=true:=by kernel_rfl)(k:PySem.W.keepIn (Hd.K Pm) (.ref f)=true:=by kernel_rfl):Fun (Hd.K Pm) x x st f (PySem.W.fnOf x x (lW st) (jk st) (aJ st) .none .none .none pm none cd .none):=J8 l c k
theorem BN:Fun (Hd.K Pm) "bound" "bound" wH 21 Hd.qp:=mkF
theorem ka:Binds (Hd.K Pm) Hd.qp ["cap","weight"] []:=all2 λ_ _=>rfl
theorem rG:Fun (Hd.K Pm) "due_of" "due_of" tK 28 Hd.o4:=mkF
theorem jR:Binds (Hd.K Pm) Hd.o4 ["order","hour"] []:=all2 λ_ _=>rfl
theorem wI:Fun (Hd.K Pm) "astray" "astray" tL 35 Hd.o5:=mkF
theorem lq:Binds (Hd.K Pm) Hd.o5 ["order","hour"] []:=all2 λ_ _=>rfl
theorem lM:Fun (Hd.K Pm) "weight_at" "weight_at" o7 42 Hd.jv:=mkF
theorem gS:Binds (Hd.K Pm) Hd.jv ["weights","guest","hour"] []:=uF λ_ _ _=>rfl
theorem FG:Fun (Hd.K Pm) "sums" "sums" BM 49 Hd.uE:=mkF
theorem qW:Binds (Hd.K Pm) Hd.uE ["marks","hours"] []:=all2 λ_ _=>rfl
theorem jX:Fun (Hd.K Pm) "goes_by_weight" "goes_by_weight" jy 54 Hd.fm:=mkF
theorem fb:Binds (Hd.K Pm) Hd.fm ["stuff"] []:=all1 λ_=>rfl
theorem mN:Fun (Hd.K Pm) "lone_faults" "lone_faults" lH 59 Hd.gH:=mkF
theorem gB:Binds (Hd.K Pm) Hd.gH ["world","weights","giving"] []:=uF λ_ _ _=>rfl
theorem jA:Fun (Hd.K Pm) "marks_by_target" "marks_by_target" je 66 Hd.dN:=mkF
theorem dJ:Binds (Hd.K Pm) Hd.dN ["world","givings"] []:=all2 λ_ _=>rfl
theorem oe:Fun (Hd.K Pm) "cap_faults" "cap_faults" mI 73 Hd.iD:=mkF
theorem il:Binds (Hd.K Pm) Hd.iD ["world","weights","givings"] []:=uF λ_ _ _=>rfl
theorem jY:Fun (Hd.K Pm) "gaps_by_stuffs" "gaps_by_stuffs" jz 80 Hd.fq:=mkF
theorem ff:Binds (Hd.K Pm) Hd.fq ["bars"] []:=all1 λ_=>rfl
theorem mO:Fun (Hd.K Pm) "gap_between" "gap_between" lI 87 Hd.gI:=mkF
theorem gC:Binds (Hd.K Pm) Hd.gI ["gaps","order","other"] []:=uF λ_ _ _=>rfl
theorem og:Fun (Hd.K Pm) "gap_faults" "gap_faults" mJ 92 Hd.iE:=mkF
theorem ip:Binds (Hd.K Pm) Hd.iE ["world","givings"] []:=all2 λ_ _=>rfl
theorem lN:Fun (Hd.K Pm) "twice_faults" "twice_faults" kF 97 Hd.gc:=mkF
theorem fX:Binds (Hd.K Pm) Hd.gc ["world","givings"] []:=all2 λ_ _=>rfl
theorem wJ:Fun (Hd.K Pm) "faults" "faults" tN 104 Hd.o6:=mkF
theorem nT:Binds (Hd.K Pm) Hd.o6 ["world","book"] []:=all2 λ_ _=>rfl
theorem ar:Fun (Hd.K Pm) "_law_draw" "_law_draw" pF 111 Hd.kn:=mkF
theorem ao:Binds (Hd.K Pm) Hd.kn ["_law_script","_law_k","_law_many"] []:=uF λ_ _ _=>rfl
theorem rH:Fun (Hd.K Pm) "_law_caps" "_law_caps" pG 118 Hd.ko:=mkF
theorem kb:Binds (Hd.K Pm) Hd.ko ["_law_script","_law_k","_law_part","_law_scale"] []:=Kb λ_ _ _ _=>rfl
theorem oh:Fun (Hd.K Pm) "_law_stuffs" "_law_stuffs" mK 125 Hd.iF:=mkF
theorem iq:Binds (Hd.K Pm) Hd.iF ["_law_script","_law_scale"] []:=all2 λ_ _=>rfl
theorem rJ:Fun (Hd.K Pm) "_law_bars" "_law_bars" pH 132 Hd.kq:=mkF
theorem kc:Binds (Hd.K Pm) Hd.kq ["_law_script","_law_many","_law_scale"] []:=uF λ_ _ _=>rfl
theorem rK:Fun (Hd.K Pm) "_law_dues" "_law_dues" pI 139 Hd.ku:=mkF
theorem j8:Binds (Hd.K Pm) Hd.ku ["_law_script","_law_k","_law_scale"] []:=uF λ_ _ _=>rfl
theorem pK:Fun (Hd.K Pm) "_law_world" "_law_world" o8 146 Hd.jw:=mkF
theorem jq:Binds (Hd.K Pm) Hd.jw ["_law_script"] []:=all1 λ_=>rfl
theorem rL:Fun (Hd.K Pm) "_law_hour" "_law_hour" pJ 153 Hd.kz:=mkF
theorem kf:Binds (Hd.K Pm) Hd.kz ["_law_script","_law_world_here","_law_order","_law_k"] []:=Kb λ_ _ _ _=>rfl
theorem oj:Fun (Hd.K Pm) "_law_amount" "_law_amount" mL 160 Hd.iH:=mkF
theorem iz:Binds (Hd.K Pm) Hd.iH ["_law_script","_law_world_here","_law_order","_law_k"] []:=Kb λ_ _ _ _=>rfl
theorem mP:Fun (Hd.K Pm) "_law_weights" "_law_weights" lJ 165 Hd.gJ:=mkF
theorem gE:Binds (Hd.K Pm) Hd.gJ ["_law_script","_law_world_here","_law_many"] []:=uF λ_ _ _=>rfl
theorem mQ:Fun (Hd.K Pm) "_law_givings" "_law_givings" lK 170 Hd.gK:=mkF
theorem gF:Binds (Hd.K Pm) Hd.gK ["_law_script","_law_world_here","_law_many"] []:=uF λ_ _ _=>rfl
theorem mR:Fun (Hd.K Pm) "_law_doubled" "_law_doubled" lL 175 Hd.gL:=mkF
theorem gG:Binds (Hd.K Pm) Hd.gL ["_law_world_here","_law_book"] []:=all2 λ_ _=>rfl
theorem pL:Fun (Hd.K Pm) "_law_whole" "_law_whole" o9 182 Hd.jx:=mkF
theorem jr:Binds (Hd.K Pm) Hd.jx ["_law_found"] []:=all1 λ_=>rfl
theorem om:Fun (Hd.K Pm) "_law_listed" "_law_listed" mM 189 Hd.iI:=mkF
theorem iA:Binds (Hd.K Pm) Hd.iI ["_law_found"] []:=all1 λ_=>rfl
theorem Mu:Fun (Hd.K Pm) "law" "law" FF 194 Hd.BL:=mkF
theorem Txt.Mv(T:Txt Pm mg):mg "law"=some (.ref 194):=T.at
theorem EO:Binds (Hd.K Pm) Hd.BL ["_law_script"] []:=all1 λ_=>rfl
theorem Txt.Mw(T:Txt Pm mg):mg "any"=none:=T.no
theorem Txt.Kc(T:Txt Pm mg):mg "bool"=none:=T.no
theorem Txt.lP(T:Txt Pm mg):mg "enumerate"=none:=T.no
theorem Txt.Mx(T:Txt Pm mg):mg "int"=none:=T.no
theorem Txt.gf(T:Txt Pm mg):mg "isinstance"=none:=T.no
theorem Txt.jf(T:Txt Pm mg):mg "len"=none:=T.no
theorem Txt.Kd(T:Txt Pm mg):mg "list"=none:=T.no
theorem Txt.Ig(T:Txt Pm mg):mg "max"=none:=T.no
theorem Txt.Ih(T:Txt Pm mg):mg "min"=none:=T.no
theorem Txt.gM(T:Txt Pm mg):mg "range"=none:=T.no
theorem Txt.lQ(T:Txt Pm mg):mg "sorted"=none:=T.no
theorem Txt.My(T:Txt Pm mg):mg "str"=none:=T.no
theorem Txt.jB(T:Txt Pm mg):mg "tuple"=none:=T.no
end
theorem b5{X:Cx}{e:Expr}{pos p:Pos}{k m np:Nat}{fa:Addr}{fd:FuncData}{ps:List Str}{sp:List D→Option D}{x:Str}{st:Stmt}{es:List Expr}{r:DA}(F:cF X.prog X.w X.K X.mg X.base CX0 k fa fd ps (spD X.K np sp))(hr:gZ m X.A)(hg:Gl X x)(hm:X.mg x=some (.ref fa))(hF:Fun X.K x x st fa fd)(hb:Binds X.K fd ps [])(ha:PAd X (e::es) r)(hl:∀env rs,r env=some rs→rs.length=np)(hk:k≤m:=by decide)(hdb:(x==("__debug__":Str))=false:=by decide)(he:starEach (e::es) X.env=(false,eval e X.env)::starEach es X.env:=by rfl)(hpl:(backTo pos (starEach es X.env)).any (·.1)=false:=by rfl):PEd X (.Call (.Name x p) (e::es) [] pos) (aG sp r):=Gs F (hr.mono hk) hg hm hF.kp hb Ld ha hl hdb he hpl
seal Hd.K
section
variable{P:Program}{w:World}{Pm:Params}{mg:Str→Option Value}{base:Heap}
theorem FH:aW ["cap","weight"] ["cap","weight"] (aJ wH):=gm
theorem FI(T:Txt Pm mg):cF P w (Hd.K Pm) mg base CX0 1 21 Hd.qp ["cap","weight"] (spD (Hd.K Pm) 2 jo):=by
 refine cS BN FH rfl λcdv A outer s H E hr=> ?_
 have hu:=dm hr
 have hu20:=cn hr
 refine a8 0 _ λv0=>a8 1 _ λv1=> ?_
 exact(ae (bK (aS (cj hu20) ck (ai hu (v0 _) a6) bq (aM _))
  (aA (aZ (ai hu (v0 _) a6)))
  bc)
 (ae (bK (aS (cj hu20) ck (ai hu (v0 _) a6) bq (aM _))
  (aA (aZ (ai hu (v0 _) a6)))
  bc)
 (ae (bK (aS wX uc (v1 _) iV (aM _))
  (aA (aZ iV))
  bc)
 (aA (aZ (lX (br (v1 _) (ai hu (v0 _) a6)) (ai hu (v0 _) a6)))))))
theorem tP:aW ["order","hour","dues","behind","k"] ["order","hour"] (aJ tK):=gm
theorem tQ(T:Txt Pm mg):cF P w (Hd.K Pm) mg base CX0 1 28 Hd.o4 ["order","hour"] (spD (Hd.K Pm) 2 j4):=by
 refine cS rG tP rfl λcdv A outer s H E hr=> ?_
 have sc:=tP
 have hu:=dm hr
 have hu20:=cn hr
 refine a8 0 _ λv0=>a8 1 _ λv1=>a8 2 _ λv2=>a8 3 _ λv3=>a8 4 _ λv4=>af 2 "dues" λl2=>af 3 "behind" λl3=>af 4 "k" λl4=> ?_
 exact(ae (az (i:=2) sc.nd rfl l2 (ai hu (v0 _) a6))
 (ae (bK (aS (cj hu20) ck (ai hu (v2 _) a6) bq (aM _))
  (aA (aZ iV))
  bc)
 (ae (az (i:=3) sc.nd rfl l3 (iX (v1 _) (iX (ai hu (v2 _) a6) (ai hu (v2 _) a6))))
 (ae (az (i:=4) sc.nd rfl l4 (lX (v3 _) (ai hu (v2 _) a6)))
 (ae (bK (vh (oG (DJ uR qB pf kW a6 (v4 _) (ai hu (v2 _) a6))) (ud (aS nC k6 (iX (v3 _) (br (v4 _) (ai hu (v2 _) a6))) (aB (ai hu (v2 _) a6) (ai hu (v2 _) a6)) (aM _)))).pt
  (aA (aZ iV))
  bc)
 (aA (aZ (v4 _))))))))
theorem tR:aW ["order","hour","dues"] ["order","hour"] (aJ tL):=gm
theorem D7(T:Txt Pm mg):cF P w (Hd.K Pm) mg base CX0 2 35 Hd.o5 ["order","hour"] (spD (Hd.K Pm) 2 lu):=by
 refine cS wI tR rfl λcdv A outer s H E hr=> ?_
 have sc:=tR
 have hu:=dm hr
 have hu20:=cn hr
 refine a8 0 _ λv0=>a8 1 _ λv1=>a8 2 _ λv2=>af 2 "dues" λl2=>aC "due_of" λg_due_of=> ?_
 exact(ae (az (i:=2) sc.nd rfl l2 (ai hu (v0 _) a6))
 (ae (bK (aS (cj hu20) ck (ai hu (v2 _) a6) bq (aM _))
  (aA (aZ (u9 pf kW (v1 _) (ai hu (v2 _) a6) (aM _))))
  bc)
 (aA (aZ (u9 wX uc (b5 (tQ T) hr g_due_of T.at rG jR (a4 (v0 _) (a4 (v1 _) aa)) (a7 (a7 au))) iV (aM _))))))
theorem oq:aW ["weights","guest","hour","found","row"] ["weights","guest","hour"] (aJ o7):=gm
theorem ot(T:Txt Pm mg):cF P w (Hd.K Pm) mg base CX0 1 42 Hd.jv ["weights","guest","hour"] (spD (Hd.K Pm) 3 gU):=by
 refine cS lM oq rfl λcdv A outer s H E hr=> ?_
 have sc:=oq
 have hu:=dm hr
 have hu20:=cn hr
 refine a8 0 _ λv0=>a8 1 _ λv1=>a8 2 _ λv2=>a8 3 _ λv3=>a8 4 _ λv4=>af 3 "found" λl3=>af 4 "row" λl4=> ?_
 exact(ae (az (i:=3) sc.nd rfl l3 iV)
 (ae (cG (l:=(some 0)) GaI rfl (fN (v0 _)) (aT (i:=4) sc.nd rfl l4)
  (aA (bK (k7 (aS (cj hu20) ck (ai hu (v4 _) a6) (v1 _) (aM _)) (i9 (aS uR qB (ai hu (v4 _) a6) (v2 _) (aM _)))).pt
  (aA (az (i:=3) sc.nd rfl l3 (ai hu (v4 _) a6)))
  bc)))
 (aA (aZ (v3 _)))))
theorem BO:aW ["marks","hours","rows","found","total","gone","k","row"] ["marks","hours"] (aJ BM):=gm
theorem HL(T:Txt Pm mg):cF P w (Hd.K Pm) mg base CX0 1 49 Hd.uE ["marks","hours"] (spD (Hd.K Pm) 2 jI):=by
 refine cS FG BO rfl λcdv A outer s H E hr=> ?_
 have sc:=BO
 have hu:=dm hr
 have hu20:=cn hr
 refine a8 0 _ λv0=>a8 1 _ λv1=>a8 2 _ λv2=>a8 3 _ λv3=>a8 4 _ λv4=>a8 5 _ λv5=>a8 6 _ λv6=>a8 7 _ λv7=>af 2 "rows" λl2=>af 3 "found" λl3=>dG 3 "found" λw3=>af 4 "total" λl4=>af 5 "gone" λl5=>af 6 "k" λl6=>af 7 "row" λl7=>aC "enumerate" λg_enumerate=>aC "len" λg_len=>aC "sorted" λg_sorted=> ?_
 exact(ae (az (i:=2) sc.nd rfl l2 (cg fU gA g_sorted T.lQ jO (a4 (v0 _) aa)))
 (ae (az (i:=3) sc.nd rfl l3 (bS aa))
 (ae (az (i:=4) sc.nd rfl l4 a6)
 (ae (az (i:=5) sc.nd rfl l5 a6)
 (ae (cG (l:=(some 2)) GaI rfl (uj g_enumerate T.lP (v2 _)) (nh rfl (cN (aT (i:=6) sc.nd rfl l6) (cN (aT (i:=7) sc.nd rfl l7) k8)))
  (ae (az (i:=4) sc.nd rfl l4 (aB (v4 _) (ai hu (v7 _) a6)))
 (ae (DR GaI (k7 (aS tX qC (v1 _) iV (aM _)) (i9 (aS uR qB (ai hu (ai hu (v2 _) (v5 _)) a6) (iX (ai hu (v7 _) a6) (v1 _)) (aM _)))).pt
  (ae (az (i:=4) sc.nd rfl l4 (iX (v4 _) (ai hu (ai hu (v2 _) (v5 _)) a6)))
 (aA (az (i:=5) sc.nd rfl l5 (aB (v5 _) a6)))))
 (aA (bK (vh (aS (cj hu20) ck (aB (v6 _) a6) (cg (cA.or bN) bO g_len T.jf fP (a4 (v2 _) aa)) (aM _)) (ud (aS nC k6 (ai hu (ai hu (v2 _) (aB (v6 _) a6)) a6) (ai hu (v7 _) a6) (aM _)))).pt
  (aA (bP (i:=3) rfl w3 (b6 (a4 (ai hu (v7 _) a6) (a4 (v4 _) aa)))))
  bc)))))
 (aA (aZ (v3 _))))))))
theorem ou:aW ["stuff"] ["stuff"] (aJ jy):=gm
theorem ox(T:Txt Pm mg):cF P w (Hd.K Pm) mg base CX0 1 54 Hd.fm ["stuff"] (spD (Hd.K Pm) 1 fc):=by
 refine cS jX ou rfl λcdv A outer s H E hr=> ?_
 have hu:=dm hr
 have hu20:=cn hr
 refine a8 0 _ λv0=>aC "any" λg_any=> ?_
 exact(aA (aZ (cg (Ci (by rfl)) Ck g_any T.Mw Ji (a4 (m6 (N:=["cap"]) (l:=none) rfl (by exact⟨rfl,rfl,rfl,rfl,rfl,by decide,rfl,rfl⟩) (fN (ai hu (v0 _) a6)) j3 ⟨λ_ _ _ _ _=>(aT (i:=0) (gr (by decide+kernel)) rfl (cq rfl) (gw rfl)),λ_ _ _ _ _=>iJ,λ_ _ _ _ _=>(u9 (cj (by exact hu20)) ck (ai (by exact hu) (bM (i:=0) (hN:=rfl) (hv:=b7 rfl)) a6) bq (aM _))⟩) aa))))
theorem lR:aW ["world","weights","giving","number","hour","amount","order","stuff","kinds"] ["world","weights","giving"] (aJ lH):=gm
theorem rM(T:Txt Pm mg):cF P w (Hd.K Pm) mg base CX0 3 59 Hd.gH ["world","weights","giving"] (spD (Hd.K Pm) 3 fC):=by
 refine cS mN lR rfl λcdv A outer s H E hr=> ?_
 have sc:=lR
 have hu:=dm hr
 have hu20:=cn hr
 refine a8 0 _ λv0=>a8 1 _ λv1=>a8 2 _ λv2=>a8 3 _ λv3=>a8 4 _ λv4=>a8 5 _ λv5=>a8 6 _ λv6=>a8 7 _ λv7=>a8 8 _ λv8=>af 3 "number" λl3=>af 4 "hour" λl4=>af 5 "amount" λl5=>af 6 "order" λl6=>af 7 "stuff" λl7=>af 8 "kinds" λl8=>dG 8 "kinds" λw8=>aC "astray" λg_astray=>aC "goes_by_weight" λg_goes_by_weight=>aC "weight_at" λg_weight_at=> ?_
 exact(ae (az (i:=3) sc.nd rfl l3 (ai hu (v2 _) a6))
 (ae (az (i:=4) sc.nd rfl l4 (ai hu (v2 _) a6))
 (ae (az (i:=5) sc.nd rfl l5 (ai hu (v2 _) a6))
 (ae (az (i:=6) sc.nd rfl l6 (ai hu (ai hu (v0 _) a6) (v3 _)))
 (ae (az (i:=7) sc.nd rfl l7 (ai hu (ai hu (v0 _) a6) (ai hu (v6 _) a6)))
 (ae (az (i:=8) sc.nd rfl l8 (bS aa))
 (ae (bK (n8 (b5 (D7 T) hr g_astray T.at wI lq (a4 (v6 _) (a4 (v4 _) aa)) (a7 (a7 au))))
  (aA (bP (i:=8) rfl w8 bq))
  bc)
 (ae (bK (aS nC k6 (v5 _) (ai hu (ai hu (v6 _) a6) a6) (aM _))
  (aA (bP (i:=8) rfl w8 bq))
  bc)
 (ae (bK (vh (aS pf kW (v5 _) a6 (aM _)) (ud (aS (DW hu20) DX (n6 (v5 _) (ai hu (ai hu (v7 _) a6) a6)) a6 (aM _)))).pt
  (aA (bP (i:=8) rfl w8 bq))
  bc)
 (ae (bK (k7 (n8 (b5 (ox T) hr g_goes_by_weight T.at jX fb (a4 (v7 _) aa) (a7 au))) (i9 (aS wX uc (b5 (ot T) hr g_weight_at T.at lM gS (a4 (v1 _) (a4 (ai hu (v6 _) a6) (a4 (v4 _) aa))) (a7 (a7 (a7 au)))) iV (aM _)))).pt
  (aA (bP (i:=8) rfl w8 bq))
  bc)
 (ae (bK (aS pf kW (v4 _) (aB (ai hu (ai hu (ai hu (v0 _) a6) (ai hu (v6 _) a6)) a6) (ai hu (v7 _) a6)) (aM _))
  (aA (bP (i:=8) rfl w8 bq))
  bc)
 (aA (aZ (m6 (N:=["kind","number","hour"]) (l:=(some 8)) rfl (by exact⟨rfl,rfl,rfl,rfl,rfl,by decide,rfl,rfl⟩) (fN (v8 _)) j3 ⟨λ_ _ _ _ _=>(aT (i:=0) (gr (by decide+kernel)) rfl (cq rfl) (gw rfl)),λ_ _ _ _ _=>iJ,λ_ _ _ _ _=>(b6 (a4 (bM (i:=0) (hN:=rfl) (hv:=b7 rfl)) (a4 (bM (i:=1) (hN:=rfl) (hv:=lj rfl)) (a4 (bM (i:=2) (hN:=rfl) (hv:=lj rfl)) aa))))⟩))))))))))))))
theorem jg:aW ["world","givings","found","giving","order"] ["world","givings"] (aJ je):=gm
theorem ny(T:Txt Pm mg):cF P w (Hd.K Pm) mg base CX0 1 66 Hd.dN ["world","givings"] (spD (Hd.K Pm) 2 cO):=by
 refine cS jA jg rfl λcdv A outer s H E hr=> ?_
 have sc:=jg
 have hu:=dm hr
 refine a8 0 _ λv0=>a8 1 _ λv1=>a8 3 _ λv3=>a8 4 _ λv4=>af 2 "found" λl2=> ?_
 exact(CC (i:=2) sc.nd rfl l2 (by first|exact Or.inl rfl|exact Or.inr (Or.inl rfl)|exact Or.inr (Or.inr rfl)) (JJ (i:=2) (j:=3) GaI rfl (v1 _) sc.nd rfl (by first|exact Or.inl rfl|exact Or.inr rfl) (by decide) (EM (JH (i:=2) (j:=4) sc.nd rfl (by first|exact Or.inl rfl|exact Or.inr rfl) (by decide) (ai hu (ai hu (v0 _) a6) (ai hu (v3 _) a6)))
 (Hg (JI (i:=2) hu rfl (by first|exact Or.inl rfl|exact Or.inr (Or.inl rfl)|exact Or.inr (Or.inr rfl)) (b6 (a4 (ai hu (v4 _) a6) (a4 (ai hu (v4 _) a6) aa))) (b6 (a4 (ai hu (v3 _) a6) (a4 (ai hu (v3 _) a6) aa))))))))
theorem mS:aW ["world","weights","givings","found","target","marks","guest","k","cap","hours","row","top"] ["world","weights","givings"] (aJ mI):=gm
theorem sf(T:Txt Pm mg):cF P w (Hd.K Pm) mg base CX0 2 73 Hd.iD ["world","weights","givings"] (spD (Hd.K Pm) 3 fV):=by
 refine cS oe mS rfl λcdv A outer s H E hr=> ?_
 have sc:=mS
 have hu:=dm hr
 have hu20:=cn hr
 refine a8 0 _ λv0=>a8 1 _ λv1=>a8 2 _ λv2=>a8 3 _ λv3=>a8 4 _ λv4=>a8 5 _ λv5=>a8 6 _ λv6=>a8 7 _ λv7=>a8 8 _ λv8=>a8 9 _ λv9=>a8 10 _ λv10=>a8 11 _ λv11=>af 3 "found" λl3=>dG 3 "found" λw3=>af 4 "target" λl4=>af 5 "marks" λl5=>af 6 "guest" λl6=>af 7 "k" λl7=>af 8 "cap" λl8=>af 9 "hours" λl9=>af 10 "row" λl10=>af 11 "top" λl11=>aC "bound" λg_bound=>aC "enumerate" λg_enumerate=>aC "marks_by_target" λg_marks_by_target=>aC "sums" λg_sums=>aC "weight_at" λg_weight_at=> ?_
 exact(ae (az (i:=3) sc.nd rfl l3 (bS aa))
 (ae (cG (l:=none) GaI rfl (Et (b5 (ny T) hr g_marks_by_target T.at jA dJ (a4 (v0 _) (a4 (v2 _) aa)) (a7 (a7 au)))) (nh rfl (cN (aT (i:=4) sc.nd rfl l4) (cN (aT (i:=5) sc.nd rfl l5) k8)))
  (ae (az (i:=6) sc.nd rfl l6 (ai hu (v4 _) a6))
 (aA (cG (l:=none) GaI rfl (uj g_enumerate T.lP (ai hu (ai hu (ai hu (v0 _) a6) (ai hu (v4 _) a6)) a6)) (nh rfl (cN (aT (i:=7) sc.nd rfl l7) (cN (aT (i:=8) sc.nd rfl l8) k8)))
  (ae (az (i:=9) sc.nd rfl l9 (DH (aS (cj hu20) ck (ai hu (v8 _) a6) bq (aM _)) iV (ai hu (v8 _) a6)))
 (aA (cG (l:=none) GaI rfl (fN (b5 (HL T) hr g_sums T.at FG qW (a4 (v5 _) (a4 (v9 _) aa)) (a7 (a7 au)))) (aT (i:=10) sc.nd rfl l10)
  (ae (az (i:=11) sc.nd rfl l11 (b5 (FI T) hr g_bound T.at BN ka (a4 (v8 _) (a4 (b5 (ot T) hr g_weight_at T.at lM gS (a4 (v1 _) (a4 (v6 _) (a4 (ai hu (v10 _) a6) aa))) (a7 (a7 (a7 au)))) aa)) (a7 (a7 au))))
 (aA (bK (k7 (aS tX qC (v11 _) iV (aM _)) (i9 (aS nC k6 (ai hu (v10 _) a6) (v11 _) (aM _)))).pt
  (aA (bP (i:=3) rfl w3 (b6 (a4 bq (a4 (v6 _) (a4 (ai hu (v4 _) a6) (a4 (v7 _) (a4 (ai hu (v10 _) a6) (a4 (ai hu (v10 _) a6) (a4 (v11 _) aa))))))))))
  bc))))))))))
 (aA (aZ (v3 _)))))
theorem jC:aW ["bars","gaps","bar"] ["bars"] (aJ jz):=gm
theorem oy(T:Txt Pm mg):cF P w (Hd.K Pm) mg base CX0 1 80 Hd.fq ["bars"] (spD (Hd.K Pm) 1 fg):=by
 refine cS jY jC rfl λcdv A outer s H E hr=> ?_
 have sc:=jC
 have hu:=dm hr
 refine a8 0 _ λv0=>a8 1 _ λv1=>a8 2 _ λv2=>af 1 "gaps" λl1=>af 2 "bar" λl2=> ?_
 exact(ae (az (i:=1) sc.nd rfl l1 nM)
 (ae (cG (l:=(some 0)) GaI rfl (fN (v0 _)) (aT (i:=2) sc.nd rfl l2)
  (ae (oK (i:=1) hu rfl (by first|exact Or.inl rfl|exact Or.inr (Or.inl rfl)|exact Or.inr (Or.inr rfl)) (b6 (a4 (ai hu (v2 _) a6) (a4 (ai hu (v2 _) a6) aa))) (ai hu (v2 _) a6))
 (aA (oK (i:=1) hu rfl (by first|exact Or.inl rfl|exact Or.inr (Or.inl rfl)|exact Or.inr (Or.inr rfl)) (b6 (a4 (ai hu (v2 _) a6) (a4 (ai hu (v2 _) a6) aa))) (ai hu (v2 _) a6)))))
 (aA (aZ (v1 _)))))
theorem rN:aW ["gaps","order","other"] ["gaps","order","other"] (aJ lI):=gm
theorem rO(T:Txt Pm mg):cF P w (Hd.K Pm) mg base CX0 1 87 Hd.gI ["gaps","order","other"] (spD (Hd.K Pm) 3 gD):=by
 refine cS mO rN rfl λcdv A outer s H E hr=> ?_
 have hu:=dm hr
 have hu20:=cn hr
 refine a8 0 _ λv0=>a8 1 _ λv1=>a8 2 _ λv2=> ?_
 exact(ae (bK (aS (DW hu20) DX (ai hu (v1 _) a6) (ai hu (v2 _) a6) (aM _))
  (aA (aZ a6))
  bc)
 (aA (aZ (Bm hu (v0 _) (b6 (a4 (ai hu (v1 _) a6) (a4 (ai hu (v2 _) a6) aa))) a6 ⟨rfl,rfl,rfl,rfl⟩))))
theorem mT:aW ["world","givings","gaps","widest","rows","found","k","row","later","apart"] ["world","givings"] (aJ mJ):=gm
theorem si(T:Txt Pm mg):cF P w (Hd.K Pm) mg base CX0 2 92 Hd.iE ["world","givings"] (spD (Hd.K Pm) 2 fW):=by
 refine cS og mT rfl λcdv A outer s H E hr=> ?_
 have sc:=mT
 have hu:=dm hr
 refine a8 0 _ λv0=>a8 1 _ λv1=>a8 2 _ λv2=>a8 3 _ λv3=>a8 4 _ λv4=>a8 5 _ λv5=>a8 6 _ λv6=>a8 7 _ λv7=>a8 8 _ λv8=>a8 9 _ λv9=>af 2 "gaps" λl2=>af 3 "widest" λl3=>af 4 "rows" λl4=>af 5 "found" λl5=>dG 5 "found" λw5=>af 6 "k" λl6=>af 7 "row" λl7=>af 8 "later" λl8=>af 9 "apart" λl9=>aC "enumerate" λg_enumerate=>aC "gap_between" λg_gap_between=>aC "gaps_by_stuffs" λg_gaps_by_stuffs=>aC "max" λg_max=>aC "sorted" λg_sorted=> ?_
 exact(ae (az (i:=2) sc.nd rfl l2 (b5 (oy T) hr g_gaps_by_stuffs T.at jY ff (a4 (ai hu (v0 _) a6) aa) (a7 au)))
 (ae (az (i:=3) sc.nd rfl l3 (GP rfl g_max T.Ig (m6 (N:=["bar"]) (l:=none) rfl (by exact⟨rfl,rfl,rfl,rfl,rfl,by decide,rfl,rfl⟩) (fN (ai hu (v0 _) a6)) j3 ⟨λ_ _ _ _ _=>(aT (i:=0) (gr (by decide+kernel)) rfl (cq rfl) (gw rfl)),λ_ _ _ _ _=>iJ,λ_ _ _ _ _=>(ai (by exact hu) (bM (i:=0) (hN:=rfl) (hv:=b7 rfl)) a6)⟩) Dc (λ_ _ _=> .int _) rfl))
 (ae (az (i:=4) sc.nd rfl l4 (cg fU gA g_sorted T.lQ jO (a4 (m6 (N:=["giving"]) (l:=(some 1)) rfl (by exact⟨rfl,rfl,rfl,rfl,rfl,by decide,rfl,rfl⟩) (fN (v1 _)) j3 ⟨λ_ _ _ _ _=>(aT (i:=0) (gr (by decide+kernel)) rfl (cq rfl) (gw rfl)),λ_ _ _ _ _=>iJ,λ_ _ _ _ _=>(b6 (a4 (ai (by exact hu) (bM (i:=0) (hN:=rfl) (hv:=b7 rfl)) a6) (a4 (ai (by exact hu) (bM (i:=0) (hN:=rfl) (hv:=b7 rfl)) a6) aa)))⟩) aa)))
 (ae (az (i:=5) sc.nd rfl l5 (bS aa))
 (ae (cG (l:=(some 4)) GaI rfl (uj g_enumerate T.lP (v4 _)) (nh rfl (cN (aT (i:=6) sc.nd rfl l6) (cN (aT (i:=7) sc.nd rfl l7) k8)))
  (aA (cG (l:=none) GaI rfl (fN (vB (v4 _) (t8 (aB (v6 _) a6)) t7)) (aT (i:=8) sc.nd rfl l8)
  (ae (az (i:=9) sc.nd rfl l9 (iX (ai hu (v8 _) a6) (ai hu (v7 _) a6)))
 (ae (bK (aS L0 Jd (v9 _) (v3 _) (aM _))
  (aA DQ)
  bc)
 (aA (bK (aS pf kW (v9 _) (b5 (rO T) hr g_gap_between T.at mO gC (a4 (v2 _) (a4 (ai hu (ai hu (v0 _) a6) (ai hu (v7 _) a6)) (a4 (ai hu (ai hu (v0 _) a6) (ai hu (v8 _) a6)) aa))) (a7 (a7 (a7 au)))) (aM _))
  (aA (bP (i:=5) rfl w5 (b6 (a4 bq (a4 (ai hu (v7 _) a6) (a4 (ai hu (v7 _) a6) (a4 (ai hu (v8 _) a6) (a4 (ai hu (v8 _) a6) aa))))))))
  bc)))))))
 (aA (aZ (v5 _))))))))
theorem kH:aW ["world","givings","counts","giving","k"] ["world","givings"] (aJ kF):=gm
theorem pY(T:Txt Pm mg):cF P w (Hd.K Pm) mg base CX0 2 97 Hd.gc ["world","givings"] (spD (Hd.K Pm) 2 dW):=by
 refine cS lN kH rfl λcdv A outer s H E hr=> ?_
 have sc:=kH
 have hu:=dm hr
 refine a8 0 _ λv0=>a8 1 _ λv1=>a8 2 _ λv2=>a8 3 _ λv3=>a8 4 _ λv4=>af 2 "counts" λl2=>dG 2 "counts" λw2=>af 3 "giving" λl3=>af 4 "k" λl4=>aC "due_of" λg_due_of=> ?_
 exact(ae (az (i:=2) sc.nd rfl l2 nM)
 (ae (cG (l:=(some 1)) GaI rfl (fN (v1 _)) (aT (i:=3) sc.nd rfl l3)
  (ae (az (i:=4) sc.nd rfl l4 (b5 (tQ T) hr g_due_of T.at rG jR (a4 (ai hu (ai hu (v0 _) a6) (ai hu (v3 _) a6)) (a4 (ai hu (v3 _) a6) aa)) (a7 (a7 au))))
 (aA (bK (aS tX qC (v4 _) iV (aM _))
  (aA (oK (i:=2) hu rfl (by first|exact Or.inl rfl|exact Or.inr (Or.inl rfl)|exact Or.inr (Or.inr rfl)) (b6 (a4 (ai hu (v3 _) a6) (a4 (v4 _) aa))) (aB (Bm hu (v2 _) (b6 (a4 (ai hu (v3 _) a6) (a4 (v4 _) aa))) a6 ⟨rfl,rfl,rfl,rfl⟩) a6)))
  bc))))
 (aA (aZ (k9 (N:=["due","many"]) (i:=2) rfl w2 rfl (by exact⟨rfl,rfl,rfl,rfl,rfl,by decide,rfl,rfl⟩) qH ⟨λ_ _ _ _ _=>(nh rfl (cN (aT (i:=0) (gr (by decide+kernel)) rfl (cq rfl) (gw rfl)) (cN (aT (i:=1) (gr (by decide+kernel)) rfl (cq rfl) (gw rfl)) k8))),λ_ _ _ _ _=>(lZ (aS nC k6 (bM (i:=1) (hN:=rfl) (hv:=b7 rfl)) a6 (aM _))),λ_ _ _ _ _=>(b6 (a4 bq (a4 (ai (by exact hu) (bM (i:=0) (hN:=rfl) (hv:=b7 rfl)) a6) (a4 (ai (by exact hu) (bM (i:=0) (hN:=rfl) (hv:=b7 rfl)) a6) aa))))⟩)))))
theorem tU:aW ["world","book","weights","givings","found","giving"] ["world","book"] (aJ tN):=gm
theorem D8(T:Txt Pm mg):cF P w (Hd.K Pm) mg base CX0 4 104 Hd.o6 ["world","book"] (spD (Hd.K Pm) 2 lA):=by
 refine cS wJ tU rfl λcdv A outer s H E hr=> ?_
 have sc:=tU
 have hu:=dm hr
 refine a8 0 _ λv0=>a8 1 _ λv1=>a8 2 _ λv2=>a8 3 _ λv3=>a8 4 _ λv4=>a8 5 _ λv5=>af 2 "weights" λl2=>af 3 "givings" λl3=>af 4 "found" λl4=>dG 4 "found" λw4=>af 5 "giving" λl5=>aC "cap_faults" λg_cap_faults=>aC "gap_faults" λg_gap_faults=>aC "lone_faults" λg_lone_faults=>aC "sorted" λg_sorted=>aC "twice_faults" λg_twice_faults=> ?_
 exact(ae (az (i:=2) sc.nd rfl l2 (ai hu (v1 _) a6))
 (ae (az (i:=3) sc.nd rfl l3 (ai hu (v1 _) a6))
 (ae (az (i:=4) sc.nd rfl l4 (aB (aB (b5 (sf T) hr g_cap_faults T.at oe il (a4 (v0 _) (a4 (v2 _) (a4 (v3 _) aa))) (a7 (a7 (a7 au)))) (b5 (si T) hr g_gap_faults T.at og ip (a4 (v0 _) (a4 (v3 _) aa)) (a7 (a7 au)))) (b5 (pY T) hr g_twice_faults T.at lN fX (a4 (v0 _) (a4 (v3 _) aa)) (a7 (a7 au)))))
 (ae (cG (l:=(some 3)) GaI rfl (fN (v3 _)) (aT (i:=5) sc.nd rfl l5)
  (aA (Cf (i:=4) rfl w4 (b5 (rM T) hr g_lone_faults T.at mN gB (a4 (v0 _) (a4 (v2 _) (a4 (v5 _) aa))) (a7 (a7 (a7 au)))))))
 (aA (aZ (cg fU mE g_sorted T.lQ jO (a4 (v4 _) aa))))))))
theorem pM:aW ["_law_script","_law_k","_law_many","_law_cell"] ["_law_script","_law_k","_law_many"] (aJ pF):=gm
theorem ak(T:Txt Pm mg):cF P w (Hd.K Pm) mg base CX0 1 111 Hd.kn ["_law_script","_law_k","_law_many"] (spD (Hd.K Pm) 3 a9):=by
 refine cS ar pM rfl λcdv A outer s H E hr=> ?_
 have sc:=pM
 have hu:=dm hr
 refine a8 0 _ λv0=>a8 1 _ λv1=>a8 2 _ λv2=>a8 3 _ λv3=>af 3 "_law_cell" λl3=>aC "len" λg_len=> ?_
 exact(ae (az (i:=3) sc.nd rfl l3 a6)
 (ae (bK (aS nC k6 (cg (cA.or bN) bO g_len T.jf fP (a4 (v0 _) aa)) a6 (aM _))
  (aA (az (i:=3) sc.nd rfl l3 (n6 (ai hu (v0 _) (n6 (v1 _) (cg (cA.or bN) bO g_len T.jf fP (a4 (v0 _) aa)))) a6)))
  bc)
 (aA (aZ (n6 (lX (n6 (br (n6 (br (aB (v3 _) a6) (aB (aB (br (v1 _) (v1 _)) (v1 _)) a6)) a6) a6) a6) a6) (v2 _))))))
theorem pO:aW ["_law_script","_law_k","_law_part","_law_scale","_law_caps_here","_law_c","_law_at","_law_hours","_law_kind","_law_top"] ["_law_script","_law_k","_law_part","_law_scale"] (aJ pG):=gm
theorem wK(T:Txt Pm mg):cF P w (Hd.K Pm) mg base CX0 2 118 Hd.ko ["_law_script","_law_k","_law_part","_law_scale"] (spD (Hd.K Pm) 4 j6):=by
 refine cS rH pO rfl λcdv A outer s H E hr=> ?_
 have sc:=pO
 have hu:=dm hr
 have hu20:=cn hr
 refine a8 0 _ λv0=>a8 1 _ λv1=>a8 2 _ λv2=>a8 3 _ λv3=>a8 4 _ λv4=>a8 5 _ λv5=>a8 6 _ λv6=>a8 7 _ λv7=>a8 8 _ λv8=>a8 9 _ λv9=>af 4 "_law_caps_here" λl4=>dG 4 "_law_caps_here" λw4=>af 5 "_law_c" λl5=>af 6 "_law_at" λl6=>af 7 "_law_hours" λl7=>af 8 "_law_kind" λl8=>af 9 "_law_top" λl9=>aC "_law_draw" λaj=>aC "range" λg_range=>aC "tuple" λg_tuple=> ?_
 exact(ae (az (i:=4) sc.nd rfl l4 (bS aa))
 (ae (cG (l:=none) GaI rfl (f9 g_range T.gM (ai hu (bS (a4 a6 (a4 a6 (a4 a6 (a4 a6 (a4 a6 (a4 a6 aa))))))) (b5 (ak T) hr aj T.at ar ao (a4 (v0 _) (a4 (v1 _) (a4 a6 aa))) (a7 (a7 (a7 au)))))) (aT (i:=5) sc.nd rfl l5)
  (ae (az (i:=6) sc.nd rfl l6 (aB (aB (v1 _) a6) (br a6 (v5 _))))
 (ae (az (i:=7) sc.nd rfl l7 (br (v3 _) (aB a6 (b5 (ak T) hr aj T.at ar ao (a4 (v0 _) (a4 (v6 _) (a4 a6 aa))) (a7 (a7 (a7 au)))))))
 (ae (az (i:=8) sc.nd rfl l8 (b5 (ak T) hr aj T.at ar ao (a4 (v0 _) (a4 (aB (v6 _) a6) (a4 a6 aa))) (a7 (a7 (a7 au)))))
 (ae (bK (aS (cj hu20) ck (v8 _) a6 (aM _))
  (aA (bP (i:=4) rfl w4 (b6 (a4 bq (a4 (v7 _) (a4 (br (v2 _) (aB a6 (b5 (ak T) hr aj T.at ar ao (a4 (v0 _) (a4 (aB (v6 _) a6) (a4 a6 aa))) (a7 (a7 (a7 au)))))) aa))))))
  bc)
 (ae (bK (aS (cj hu20) ck (v8 _) a6 (aM _))
  (ae (az (i:=9) sc.nd rfl l9 (br (v2 _) (aB a6 (b5 (ak T) hr aj T.at ar ao (a4 (v0 _) (a4 (aB (v6 _) a6) (a4 a6 aa))) (a7 (a7 (a7 au)))))))
 (aA (bP (i:=4) rfl w4 (b6 (a4 bq (a4 (v7 _) (a4 (v9 _) (a4 (aB a6 (b5 (ak T) hr aj T.at ar ao (a4 (v0 _) (a4 (aB (v6 _) a6) (a4 a6 aa))) (a7 (a7 (a7 au))))) aa))))))))
  bc)
 (aA (bK (aS (cj hu20) ck (v8 _) a6 (aM _))
  (aA (bP (i:=4) rfl w4 (b6 (a4 bq (a4 (br (v2 _) (aB a6 (b5 (ak T) hr aj T.at ar ao (a4 (v0 _) (a4 (aB (v6 _) a6) (a4 a6 aa))) (a7 (a7 (a7 au)))))) aa)))))
  bc))))))))
 (aA (aZ (iY cP dU g_tuple T.jB gQ (a4 (v4 _) aa))))))
theorem mU:aW ["_law_script","_law_scale","_law_stuffs_here","_law_s","_law_k","_law_part","_law_sizes","_law_young"] ["_law_script","_law_scale"] (aJ mK):=gm
theorem sk(T:Txt Pm mg):cF P w (Hd.K Pm) mg base CX0 3 125 Hd.iF ["_law_script","_law_scale"] (spD (Hd.K Pm) 2 fY):=by
 refine cS oh mU rfl λcdv A outer s H E hr=> ?_
 have sc:=mU
 have hu:=dm hr
 refine a8 0 _ λv0=>a8 1 _ λv1=>a8 2 _ λv2=>a8 3 _ λv3=>a8 4 _ λv4=>a8 5 _ λv5=>a8 6 _ λv6=>a8 7 _ λv7=>af 2 "_law_stuffs_here" λl2=>dG 2 "_law_stuffs_here" λw2=>af 3 "_law_s" λl3=>af 4 "_law_k" λl4=>af 5 "_law_part" λl5=>af 6 "_law_sizes" λl6=>af 7 "_law_young" λl7=>aC "_law_caps" λAM=>aC "_law_draw" λaj=>aC "range" λg_range=>aC "tuple" λg_tuple=> ?_
 exact(ae (az (i:=2) sc.nd rfl l2 (bS aa))
 (ae (cG (l:=none) GaI rfl (f9 g_range T.gM (ai hu (bS (a4 a6 (a4 a6 (a4 a6 (a4 a6 (a4 a6 (a4 a6 aa))))))) (b5 (ak T) hr aj T.at ar ao (a4 (v0 _) (a4 a6 (a4 a6 aa))) (a7 (a7 (a7 au)))))) (aT (i:=3) sc.nd rfl l3)
  (ae (az (i:=4) sc.nd rfl l4 (aB a6 (br a6 (v3 _))))
 (ae (az (i:=5) sc.nd rfl l5 (ai hu (bS (a4 a6 (a4 a6 (a4 a6 (a4 a6 (a4 (kU a6 a6) aa)))))) (b5 (ak T) hr aj T.at ar ao (a4 (v0 _) (a4 (v4 _) (a4 a6 aa))) (a7 (a7 (a7 au))))))
 (ae (az (i:=6) sc.nd rfl l6 (ai hu (bS (a4 (b6 (a4 (v5 _) aa)) (a4 (b6 (a4 (v5 _) (a4 (br a6 (v5 _)) aa))) (a4 (b6 (a4 (v5 _) (a4 (br a6 (v5 _)) (a4 (br a6 (v5 _)) aa)))) aa)))) (b5 (ak T) hr aj T.at ar ao (a4 (v0 _) (a4 (aB (v4 _) a6) (a4 a6 aa))) (a7 (a7 (a7 au))))))
 (ae (az (i:=7) sc.nd rfl l7 (br (ai hu (bS (a4 a6 (a4 (v1 _) aa))) (b5 (ak T) hr aj T.at ar ao (a4 (v0 _) (a4 (aB (v4 _) a6) (a4 a6 aa))) (a7 (a7 (a7 au))))) (b5 (ak T) hr aj T.at ar ao (a4 (v0 _) (a4 (aB (v4 _) a6) (a4 a6 aa))) (a7 (a7 (a7 au))))))
 (aA (bP (i:=2) rfl w2 (b6 (a4 (aB bq (ai hu bq (v3 _))) (a4 (v6 _) (a4 (b5 (wK T) hr AM T.at rH kb (a4 (v0 _) (a4 (aB (v4 _) a6) (a4 (v5 _) (a4 (v1 _) aa)))) (a7 (a7 (a7 (a7 au))))) (a4 (v7 _) aa))))))))))))
 (aA (aZ (iY cP dU g_tuple T.jB gQ (a4 (v2 _) aa))))))
theorem pP:aW ["_law_script","_law_many","_law_scale","_law_bars_here","_law_i","_law_j","_law_k","_law_one"] ["_law_script","_law_many","_law_scale"] (aJ pH):=gm
theorem wL(T:Txt Pm mg):cF P w (Hd.K Pm) mg base CX0 2 132 Hd.kq ["_law_script","_law_many","_law_scale"] (spD (Hd.K Pm) 3 j7):=by
 refine cS rJ pP rfl λcdv A outer s H E hr=> ?_
 have sc:=pP
 have hu20:=cn hr
 refine a8 0 _ λv0=>a8 1 _ λv1=>a8 2 _ λv2=>a8 3 _ λv3=>a8 4 _ λv4=>a8 5 _ λv5=>a8 6 _ λv6=>a8 7 _ λv7=>af 3 "_law_bars_here" λl3=>dG 3 "_law_bars_here" λw3=>af 4 "_law_i" λl4=>af 5 "_law_j" λl5=>af 6 "_law_k" λl6=>af 7 "_law_one" λl7=>aC "_law_draw" λaj=>aC "len" λg_len=>aC "range" λg_range=>aC "tuple" λg_tuple=> ?_
 exact(ae (az (i:=3) sc.nd rfl l3 (bS aa))
 (ae (cG (l:=none) GaI rfl (f9 g_range T.gM (v1 _)) (aT (i:=4) sc.nd rfl l4)
  (aA (cG (l:=none) GaI rfl (Ce g_range T.gM (v4 _) (v1 _)) (aT (i:=5) sc.nd rfl l5)
  (ae (az (i:=6) sc.nd rfl l6 (aB (aB a6 (br a6 (v4 _))) (br a6 (v5 _))))
 (aA (bK (k7 (aS pf kW (cg (cA.or bN) bO g_len T.jf fP (a4 (v3 _) aa)) a6 (aM _)) (i9 (aS (cj hu20) ck (b5 (ak T) hr aj T.at ar ao (a4 (v0 _) (a4 (v6 _) (a4 a6 aa))) (a7 (a7 (a7 au)))) a6 (aM _)))).pt
  (ae (az (i:=7) sc.nd rfl l7 (b6 (a4 (v4 _) (a4 (v5 _) (a4 (br (v2 _) (aB a6 (b5 (ak T) hr aj T.at ar ao (a4 (v0 _) (a4 (aB (v6 _) a6) (a4 a6 aa))) (a7 (a7 (a7 au)))))) aa)))))
 (aA (Cq (i:=3) rfl w3 (b5 (ak T) hr aj T.at ar ao (a4 (v0 _) (a4 (aB (v6 _) a6) (a4 (aB (cg (cA.or bN) bO g_len T.jf fP (a4 (v3 _) aa)) a6) aa))) (a7 (a7 (a7 au)))) (v7 _))))
  bc))))))
 (aA (aZ (iY cP dU g_tuple T.jB gQ (a4 (v3 _) aa))))))
theorem pQ:aW ["_law_script","_law_k","_law_scale","_law_every","_law_early","_law_late","_law_begin"] ["_law_script","_law_k","_law_scale"] (aJ pI):=gm
theorem wM(T:Txt Pm mg):cF P w (Hd.K Pm) mg base CX0 2 139 Hd.ku ["_law_script","_law_k","_law_scale"] (spD (Hd.K Pm) 3 j9):=by
 refine cS rK pQ rfl λcdv A outer s H E hr=> ?_
 have sc:=pQ
 have hu:=dm hr
 have hu20:=cn hr
 refine a8 0 _ λv0=>a8 1 _ λv1=>a8 2 _ λv2=>a8 3 _ λv3=>a8 4 _ λv4=>a8 5 _ λv5=>a8 6 _ λv6=>af 3 "_law_every" λl3=>af 4 "_law_early" λl4=>af 5 "_law_late" λl5=>af 6 "_law_begin" λl6=>aC "_law_draw" λaj=> ?_
 exact(ae (bK (aS (cj hu20) ck (b5 (ak T) hr aj T.at ar ao (a4 (v0 _) (a4 (v1 _) (a4 a6 aa))) (a7 (a7 (a7 au)))) a6 (aM _))
  (aA (aZ (b6 (a4 bq (a4 (br (v2 _) (b5 (ak T) hr aj T.at ar ao (a4 (v0 _) (a4 (aB (v1 _) a6) (a4 a6 aa))) (a7 (a7 (a7 au))))) aa)))))
  bc)
 (ae (az (i:=3) sc.nd rfl l3 (br (v2 _) (aB a6 (b5 (ak T) hr aj T.at ar ao (a4 (v0 _) (a4 (aB (v1 _) a6) (a4 a6 aa))) (a7 (a7 (a7 au)))))))
 (ae (az (i:=4) sc.nd rfl l4 (br (v2 _) (b5 (ak T) hr aj T.at ar ao (a4 (v0 _) (a4 (aB (v1 _) a6) (a4 (lX (v3 _) (v2 _)) aa))) (a7 (a7 (a7 au))))))
 (ae (az (i:=5) sc.nd rfl l5 (br (v2 _) (b5 (ak T) hr aj T.at ar ao (a4 (v0 _) (a4 (aB (v1 _) a6) (a4 (lX (iX (v3 _) (v4 _)) (v2 _)) aa))) (a7 (a7 (a7 au))))))
 (ae (az (i:=6) sc.nd rfl l6 (aB (v4 _) (br (v2 _) (b5 (ak T) hr aj T.at ar ao (a4 (v0 _) (a4 (aB (v1 _) a6) (a4 a6 aa))) (a7 (a7 (a7 au)))))))
 (aA (aZ (b6 (a4 bq (a4 (v6 _) (a4 (v3 _) (a4 (ai hu (bS (a4 a6 (a4 a6 (a4 a6 (a4 a6 (a4 a6 aa)))))) (b5 (ak T) hr aj T.at ar ao (a4 (v0 _) (a4 (aB (v1 _) a6) (a4 a6 aa))) (a7 (a7 (a7 au))))) (a4 (v4 _) (a4 (v5 _) aa))))))))))))))
theorem oz:aW ["_law_script","_law_scale","_law_guests","_law_g","_law_stuffs_here","_law_orders","_law_r","_law_k","_law_stuff","_law_most","_law_rule","_law_dues_here","_law_tapers"] ["_law_script"] (aJ o8):=gm
theorem uG(T:Txt Pm mg):cF P w (Hd.K Pm) mg base CX0 4 146 Hd.jw ["_law_script"] (spD (Hd.K Pm) 1 gW):=by
 refine cS pK oz rfl λcdv A outer s H E hr=> ?_
 have sc:=oz
 have hu:=dm hr
 have hu20:=cn hr
 refine a8 0 _ λv0=>a8 1 _ λv1=>a8 2 _ λv2=>a8 3 _ λv3=>a8 4 _ λv4=>a8 5 _ λv5=>a8 6 _ λv6=>a8 7 _ λv7=>a8 8 _ λv8=>a8 9 _ λv9=>a8 10 _ λv10=>a8 11 _ λv11=>a8 12 _ λv12=>af 1 "_law_scale" λl1=>af 2 "_law_guests" λl2=>dG 2 "_law_guests" λw2=>af 3 "_law_g" λl3=>af 4 "_law_stuffs_here" λl4=>af 5 "_law_orders" λl5=>dG 5 "_law_orders" λw5=>af 6 "_law_r" λl6=>af 7 "_law_k" λl7=>af 8 "_law_stuff" λl8=>af 9 "_law_most" λl9=>af 10 "_law_rule" λl10=>af 11 "_law_dues_here" λl11=>af 12 "_law_tapers" λl12=>aC "_law_bars" λAN=>aC "_law_draw" λaj=>aC "_law_dues" λAO=>aC "_law_stuffs" λuK=>aC "len" λg_len=>aC "range" λg_range=>aC "tuple" λg_tuple=> ?_
 exact(ae (az (i:=1) sc.nd rfl l1 (ai hu (bS (a4 a6 (a4 a6 (a4 a6 (a4 a6 (a4 a6 (a4 (kU a6 a6) aa))))))) (b5 (ak T) hr aj T.at ar ao (a4 (v0 _) (a4 a6 (a4 a6 aa))) (a7 (a7 (a7 au))))))
 (ae (az (i:=2) sc.nd rfl l2 (bS aa))
 (ae (cG (l:=none) GaI rfl (f9 g_range T.gM (ai hu (bS (a4 a6 (a4 a6 (a4 a6 (a4 a6 (a4 a6 (a4 a6 aa))))))) (b5 (ak T) hr aj T.at ar ao (a4 (v0 _) (a4 a6 (a4 a6 aa))) (a7 (a7 (a7 au)))))) (aT (i:=3) sc.nd rfl l3)
  (aA (bP (i:=2) rfl w2 (b6 (a4 (aB bq (ai hu bq (v3 _))) (a4 (br (v1 _) (b5 (ak T) hr aj T.at ar ao (a4 (v0 _) (a4 (aB a6 (v3 _)) (a4 a6 aa))) (a7 (a7 (a7 au))))) aa))))))
 (ae (az (i:=4) sc.nd rfl l4 (b5 (sk T) hr uK T.at oh iq (a4 (v0 _) (a4 (v1 _) aa)) (a7 (a7 au))))
 (ae (az (i:=5) sc.nd rfl l5 (bS aa))
 (ae (cG (l:=none) GaI rfl (f9 g_range T.gM (ai hu (bS (a4 a6 (a4 a6 (a4 a6 (a4 a6 (a4 a6 (a4 a6 aa))))))) (b5 (ak T) hr aj T.at ar ao (a4 (v0 _) (a4 a6 (a4 a6 aa))) (a7 (a7 (a7 au)))))) (aT (i:=6) sc.nd rfl l6)
  (ae (az (i:=7) sc.nd rfl l7 (aB a6 (br a6 (v6 _))))
 (ae (az (i:=8) sc.nd rfl l8 (b5 (ak T) hr aj T.at ar ao (a4 (v0 _) (a4 (v7 _) (a4 (cg (cA.or bN) bO g_len T.jf fP (a4 (v4 _) aa)) aa))) (a7 (a7 (a7 au)))))
 (ae (az (i:=9) sc.nd rfl l9 (br (ai hu (ai hu (ai hu (v4 _) (v8 _)) a6) a6) (ai hu (bS (a4 a6 (a4 a6 (a4 a6 aa)))) (b5 (ak T) hr aj T.at ar ao (a4 (v0 _) (a4 (aB (v7 _) a6) (a4 a6 aa))) (a7 (a7 (a7 au)))))))
 (ae (az (i:=10) sc.nd rfl l10 (b6 (a4 (ai hu (bS (a4 bq (a4 bq (a4 bq aa)))) (n6 (v6 _) a6)) (a4 (aB a6 (b5 (ak T) hr aj T.at ar ao (a4 (v0 _) (a4 (aB (v7 _) a6) (a4 a6 aa))) (a7 (a7 (a7 au))))) (a4 (b5 (ak T) hr aj T.at ar ao (a4 (v0 _) (a4 (aB (v7 _) a6) (a4 a6 aa))) (a7 (a7 (a7 au)))) (a4 (v9 _) aa))))))
 (ae (az (i:=11) sc.nd rfl l11 (b5 (wM T) hr AO T.at rK j8 (a4 (v0 _) (a4 (aB (v7 _) a6) (a4 (v1 _) aa))) (a7 (a7 (a7 au)))))
 (ae (az (i:=12) sc.nd rfl l12 (b6 aa))
 (ae (bK (k7 (aS (cj hu20) ck (ai hu (v11 _) a6) bq (aM _)) (i9 (aS nC k6 (ai hu (v11 _) a6) a6 (aM _)))).pt
  (aA (az (i:=12) sc.nd rfl l12 (b6 (a4 (b6 (a4 a6 (a4 a6 (a4 a6 aa)))) (a4 (b6 (a4 a6 (a4 a6 (a4 a6 aa)))) aa)))))
  bc)
 (aA (bP (i:=5) rfl w5 (b6 (a4 (aB bq (ai hu bq (v6 _))) (a4 (b5 (ak T) hr aj T.at ar ao (a4 (v0 _) (a4 (aB (v7 _) a6) (a4 (cg (cA.or bN) bO g_len T.jf fP (a4 (v2 _) aa)) aa))) (a7 (a7 (a7 au)))) (a4 (v8 _) (a4 (v10 _) (a4 (v11 _) (a4 (v12 _) aa)))))))))))))))))
 (aA (aZ (b6 (a4 (iY cP dU g_tuple T.jB gQ (a4 (v2 _) aa)) (a4 (v4 _) (a4 (b5 (wL T) hr AN T.at rJ kc (a4 (v0 _) (a4 (cg (cA.or bN) bO g_len T.jf fP (a4 (v4 _) aa)) (a4 (v1 _) aa))) (a7 (a7 (a7 au)))) (a4 (iY cP dU g_tuple T.jB gQ (a4 (v5 _) aa)) aa)))))))))))))
theorem pR:aW ["_law_script","_law_world_here","_law_order","_law_k","_law_scale","_law_dues_here","_law_hour_here","_law_near","_law_ends"] ["_law_script","_law_world_here","_law_order","_law_k"] (aJ pJ):=gm
theorem wN(T:Txt Pm mg):cF P w (Hd.K Pm) mg base CX0 2 153 Hd.kz ["_law_script","_law_world_here","_law_order","_law_k"] (spD (Hd.K Pm) 4 ja):=by
 refine cS rL pR rfl λcdv A outer s H E hr=> ?_
 have sc:=pR
 have hu:=dm hr
 have hu20:=cn hr
 refine a8 0 _ λv0=>a8 1 _ λv1=>a8 2 _ λv2=>a8 3 _ λv3=>a8 4 _ λv4=>a8 5 _ λv5=>a8 6 _ λv6=>a8 7 _ λv7=>a8 8 _ λv8=>af 4 "_law_scale" λl4=>af 5 "_law_dues_here" λl5=>af 6 "_law_hour_here" λl6=>af 7 "_law_near" λl7=>af 8 "_law_ends" λl8=>aC "_law_draw" λaj=>aC "max" λg_max=>aC "min" λg_min=> ?_
 exact(ae (az (i:=4) sc.nd rfl l4 (ai hu (bS (a4 a6 (a4 a6 (a4 a6 (a4 a6 (a4 a6 (a4 (kU a6 a6) aa))))))) (b5 (ak T) hr aj T.at ar ao (a4 (v0 _) (a4 a6 (a4 a6 aa))) (a7 (a7 (a7 au))))))
 (ae (az (i:=5) sc.nd rfl l5 (ai hu (ai hu (ai hu (v1 _) a6) (v2 _)) a6))
 (ae (az (i:=6) sc.nd rfl l6 (br (v4 _) (b5 (ak T) hr aj T.at ar ao (a4 (v0 _) (a4 (v3 _) (a4 a6 aa))) (a7 (a7 (a7 au))))))
 (ae (bK (k7 (aS (cj hu20) ck (ai hu (v5 _) a6) bq (aM _)) (i9 (aS nC k6 (b5 (ak T) hr aj T.at ar ao (a4 (v0 _) (a4 (aB (v3 _) a6) (a4 a6 aa))) (a7 (a7 (a7 au)))) a6 (aM _)))).pt
  (ae (az (i:=7) sc.nd rfl l7 (aB (ai hu (v5 _) a6) (br (b5 (ak T) hr aj T.at ar ao (a4 (v0 _) (a4 (v3 _) (a4 (cg (sI (by rfl)) qD g_min T.Ih DY (a4 (ai hu (v5 _) a6) (a4 a6 aa))) aa))) (a7 (a7 (a7 au)))) (ai hu (v5 _) a6))))
 (ae (az (i:=8) sc.nd rfl l8 (bS (a4 (v7 _) (a4 (iX (v7 _) (ai hu (v5 _) a6)) (a4 (aB (v7 _) (ai hu (v5 _) a6)) (a4 (iX (iX (v7 _) (ai hu (v5 _) a6)) a6) (a4 (aB (aB (v7 _) (ai hu (v5 _) a6)) a6) (a4 (v7 _) aa))))))))
 (aA (az (i:=6) sc.nd rfl l6 (cg (BY (by rfl)) Aa g_max T.Ig DZ (a4 a6 (a4 (ai hu (v8 _) (b5 (ak T) hr aj T.at ar ao (a4 (v0 _) (a4 (aB (v3 _) a6) (a4 a6 aa))) (a7 (a7 (a7 au))))) aa)))))))
  bc)
 (ae (bK (aS (cj hu20) ck (b5 (ak T) hr aj T.at ar ao (a4 (v0 _) (a4 (aB (v3 _) a6) (a4 a6 aa))) (a7 (a7 (a7 au)))) a6 (aM _))
  (aA (az (i:=6) sc.nd rfl l6 (aB (v6 _) a6)))
  bc)
 (ae (bK (aS (cj hu20) ck (b5 (ak T) hr aj T.at ar ao (a4 (v0 _) (a4 (aB (v3 _) a6) (a4 a6 aa))) (a7 (a7 (a7 au)))) a6 (aM _))
  (aA (az (i:=6) sc.nd rfl l6 (kU a6 a6)))
  bc)
 (aA (aZ (v6 _)))))))))
theorem mV:aW ["_law_script","_law_world_here","_law_order","_law_k","_law_part","_law_many","_law_odd"] ["_law_script","_law_world_here","_law_order","_law_k"] (aJ mL):=gm
theorem sr(T:Txt Pm mg):cF P w (Hd.K Pm) mg base CX0 2 160 Hd.iH ["_law_script","_law_world_here","_law_order","_law_k"] (spD (Hd.K Pm) 4 fh):=by
 refine cS oj mV rfl λcdv A outer s H E hr=> ?_
 have sc:=mV
 have hu:=dm hr
 have hu20:=cn hr
 refine a8 0 _ λv0=>a8 1 _ λv1=>a8 2 _ λv2=>a8 3 _ λv3=>a8 4 _ λv4=>a8 5 _ λv5=>a8 6 _ λv6=>af 4 "_law_part" λl4=>af 5 "_law_many" λl5=>af 6 "_law_odd" λl6=>aC "_law_draw" λaj=> ?_
 exact(ae (az (i:=4) sc.nd rfl l4 (ai hu (ai hu (ai hu (ai hu (v1 _) a6) (ai hu (ai hu (ai hu (v1 _) a6) (v2 _)) a6)) a6) a6))
 (ae (az (i:=5) sc.nd rfl l5 (br (v4 _) (aB a6 (b5 (ak T) hr aj T.at ar ao (a4 (v0 _) (a4 (aB (v3 _) a6) (a4 a6 aa))) (a7 (a7 (a7 au)))))))
 (ae (az (i:=6) sc.nd rfl l6 (bS (a4 a6 (a4 (DF (v5 _)) (a4 (aB (v5 _) a6) (a4 (kU a6 a6) (a4 (br (v4 _) a6) (a4 (DF a6) aa))))))))
 (ae (bK (aS (cj hu20) ck (b5 (ak T) hr aj T.at ar ao (a4 (v0 _) (a4 (aB (v3 _) a6) (a4 a6 aa))) (a7 (a7 (a7 au)))) a6 (aM _))
  (aA (aZ (ai hu (v6 _) (b5 (ak T) hr aj T.at ar ao (a4 (v0 _) (a4 (aB (v3 _) a6) (a4 a6 aa))) (a7 (a7 (a7 au)))))))
  bc)
 (aA (aZ (v5 _)))))))
theorem lS:aW ["_law_script","_law_world_here","_law_many","_law_scale","_law_kept","_law_n","_law_spot"] ["_law_script","_law_world_here","_law_many"] (aJ lJ):=gm
theorem rP(T:Txt Pm mg):cF P w (Hd.K Pm) mg base CX0 2 165 Hd.gJ ["_law_script","_law_world_here","_law_many"] (spD (Hd.K Pm) 3 fG):=by
 refine cS mP lS rfl λcdv A outer s H E hr=> ?_
 have sc:=lS
 have hu:=dm hr
 have hu20:=cn hr
 refine a8 0 _ λv0=>a8 1 _ λv1=>a8 2 _ λv2=>a8 3 _ λv3=>a8 5 _ λv5=>a8 6 _ λv6=>af 3 "_law_scale" λl3=>af 4 "_law_kept" λl4=>dG 4 "_law_kept" λw4=>af 5 "_law_n" λl5=>af 6 "_law_spot" λl6=>aC "_law_draw" λaj=>aC "len" λg_len=>aC "range" λg_range=>aC "sorted" λg_sorted=>aC "tuple" λg_tuple=> ?_
 exact(ae (az (i:=3) sc.nd rfl l3 (ai hu (bS (a4 a6 (a4 a6 (a4 a6 (a4 a6 (a4 a6 (a4 (kU a6 a6) aa))))))) (b5 (ak T) hr aj T.at ar ao (a4 (v0 _) (a4 a6 (a4 a6 aa))) (a7 (a7 (a7 au))))))
 (ae (az (i:=4) sc.nd rfl l4 nM)
 (ae (cG (l:=none) GaI rfl (f9 g_range T.gM (v2 _)) (aT (i:=5) sc.nd rfl l5)
  (ae (az (i:=6) sc.nd rfl l6 (b6 (a4 (b5 (ak T) hr aj T.at ar ao (a4 (v0 _) (a4 (aB a6 (v5 _)) (a4 (cg (cA.or bN) bO g_len T.jf fP (a4 (ai hu (v1 _) a6) aa)) aa))) (a7 (a7 (a7 au)))) (a4 (br (v3 _) (b5 (ak T) hr aj T.at ar ao (a4 (v0 _) (a4 (aB a6 (v5 _)) (a4 a6 aa))) (a7 (a7 (a7 au))))) aa))))
 (ae (bK (k7 (aS pf kW (v5 _) (cg (cA.or bN) bO g_len T.jf fP (a4 (ai hu (v1 _) a6) aa)) (aM _)) (i9 (aS (cj hu20) ck (b5 (ak T) hr aj T.at ar ao (a4 (v0 _) (a4 a6 (a4 a6 aa))) (a7 (a7 (a7 au)))) a6 (aM _)))).pt
  (aA (az (i:=6) sc.nd rfl l6 (b6 (a4 (v5 _) (a4 a6 aa)))))
  bc)
 (aA (oK (i:=4) hu rfl (by first|exact Or.inl rfl|exact Or.inr (Or.inl rfl)|exact Or.inr (Or.inr rfl)) (v6 _) (ai hu (bS (a4 (aB a6 (b5 (ak T) hr aj T.at ar ao (a4 (v0 _) (a4 (aB a6 (v5 _)) (a4 a6 aa))) (a7 (a7 (a7 au))))) (a4 (kU a6 a6) aa))) (lX (b5 (ak T) hr aj T.at ar ao (a4 (v0 _) (a4 (aB a6 (v5 _)) (a4 a6 aa))) (a7 (a7 (a7 au)))) a6)))))))
 (aA (aZ (iY cP dU g_tuple T.jB gQ (a4 (cg fU gA g_sorted T.lQ jO (a4 (k9 (N:=["_law_spot","_law_weight"]) (i:=4) rfl w4 rfl (by exact⟨rfl,rfl,rfl,rfl,rfl,by decide,rfl,rfl⟩) qH ⟨λ_ _ _ _ _=>(nh rfl (cN (aT (i:=0) (gr (by decide+kernel)) rfl (cq rfl) (gw rfl)) (cN (aT (i:=1) (gr (by decide+kernel)) rfl (cq rfl) (gw rfl)) k8))),λ_ _ _ _ _=>iJ,λ_ _ _ _ _=>(b6 (a4 (ai (by exact hu) (bM (i:=0) (hN:=rfl) (hv:=b7 rfl)) a6) (a4 (ai (by exact hu) (bM (i:=0) (hN:=rfl) (hv:=b7 rfl)) a6) (a4 (bM (i:=1) (hN:=rfl) (hv:=b7 rfl)) aa))))⟩) aa)) aa)))))))
theorem lT:aW ["_law_script","_law_world_here","_law_many","_law_kept","_law_n","_law_order","_law_spot"] ["_law_script","_law_world_here","_law_many"] (aJ lK):=gm
theorem rQ(T:Txt Pm mg):cF P w (Hd.K Pm) mg base CX0 3 170 Hd.gK ["_law_script","_law_world_here","_law_many"] (spD (Hd.K Pm) 3 fH):=by
 refine cS mQ lT rfl λcdv A outer s H E hr=> ?_
 have sc:=lT
 have hu:=dm hr
 have hu20:=cn hr
 refine a8 0 _ λv0=>a8 1 _ λv1=>a8 2 _ λv2=>a8 4 _ λv4=>a8 5 _ λv5=>a8 6 _ λv6=>af 3 "_law_kept" λl3=>dG 3 "_law_kept" λw3=>af 4 "_law_n" λl4=>af 5 "_law_order" λl5=>af 6 "_law_spot" λl6=>aC "_law_amount" λuL=>aC "_law_draw" λaj=>aC "_law_hour" λAL=>aC "len" λg_len=>aC "range" λg_range=>aC "sorted" λg_sorted=>aC "tuple" λg_tuple=> ?_
 exact(ae (az (i:=3) sc.nd rfl l3 nM)
 (ae (cG (l:=none) GaI rfl (f9 g_range T.gM (v2 _)) (aT (i:=4) sc.nd rfl l4)
  (ae (az (i:=5) sc.nd rfl l5 (b5 (ak T) hr aj T.at ar ao (a4 (v0 _) (a4 (aB a6 (v4 _)) (a4 (cg (cA.or bN) bO g_len T.jf fP (a4 (ai hu (v1 _) a6) aa)) aa))) (a7 (a7 (a7 au)))))
 (ae (az (i:=6) sc.nd rfl l6 (b6 (a4 (v5 _) (a4 (b5 (wN T) hr AL T.at rL kf (a4 (v0 _) (a4 (v1 _) (a4 (v5 _) (a4 (aB a6 (v4 _)) aa)))) (a7 (a7 (a7 (a7 au))))) aa))))
 (ae (oK (i:=3) hu rfl (by first|exact Or.inl rfl|exact Or.inr (Or.inl rfl)|exact Or.inr (Or.inr rfl)) (v6 _) (b5 (sr T) hr uL T.at oj iz (a4 (v0 _) (a4 (v1 _) (a4 (v5 _) (a4 (aB a6 (v4 _)) aa)))) (a7 (a7 (a7 (a7 au))))))
 (aA (bK (aS (cj hu20) ck (b5 (ak T) hr aj T.at ar ao (a4 (v0 _) (a4 (aB a6 (v4 _)) (a4 a6 aa))) (a7 (a7 (a7 au)))) a6 (aM _))
  (aA (oK (i:=3) hu rfl (by first|exact Or.inl rfl|exact Or.inr (Or.inl rfl)|exact Or.inr (Or.inr rfl)) (v6 _) (aB (kU a6 a6) (v4 _))))
  bc))))))
 (aA (aZ (iY cP dU g_tuple T.jB gQ (a4 (cg fU gA g_sorted T.lQ jO (a4 (k9 (N:=["_law_spot","_law_amount_here"]) (i:=3) rfl w3 rfl (by exact⟨rfl,rfl,rfl,rfl,rfl,by decide,rfl,rfl⟩) qH ⟨λ_ _ _ _ _=>(nh rfl (cN (aT (i:=0) (gr (by decide+kernel)) rfl (cq rfl) (gw rfl)) (cN (aT (i:=1) (gr (by decide+kernel)) rfl (cq rfl) (gw rfl)) k8))),λ_ _ _ _ _=>iJ,λ_ _ _ _ _=>(b6 (a4 (ai (by exact hu) (bM (i:=0) (hN:=rfl) (hv:=b7 rfl)) a6) (a4 (ai (by exact hu) (bM (i:=0) (hN:=rfl) (hv:=b7 rfl)) a6) (a4 (bM (i:=1) (hN:=rfl) (hv:=b7 rfl)) aa))))⟩) aa)) aa))))))
theorem lU:aW ["_law_world_here","_law_book","_law_listed_here","_law_order","_law_dues_here","_law_given_hours","_law_k","_law_first","_law_last"] ["_law_world_here","_law_book"] (aJ lL):=gm
theorem rR(T:Txt Pm mg):cF P w (Hd.K Pm) mg base CX0 1 175 Hd.gL ["_law_world_here","_law_book"] (spD (Hd.K Pm) 2 fI):=by
 refine cS mR lU rfl λcdv A outer s H E hr=> ?_
 have sc:=lU
 have hu:=dm hr
 have hu20:=cn hr
 refine a8 0 _ λv0=>a8 1 _ λv1=>a8 2 _ λv2=>a8 3 _ λv3=>a8 4 _ λv4=>a8 5 _ λv5=>a8 6 _ λv6=>af 2 "_law_listed_here" λl2=>dG 2 "_law_listed_here" λw2=>af 3 "_law_order" λl3=>af 4 "_law_dues_here" λl4=>af 6 "_law_k" λl6=>af 7 "_law_first" λl7=>af 8 "_law_last" λl8=>aC "len" λg_len=>aC "range" λg_range=> ?_
 exact(ae (az (i:=2) sc.nd rfl l2 (bS aa))
 (ae (cG (l:=none) GaI rfl (f9 g_range T.gM (cg (cA.or bN) bO g_len T.jf fP (a4 (ai hu (v0 _) a6) aa))) (aT (i:=3) sc.nd rfl l3)
  (ae (az (i:=4) sc.nd rfl l4 (ai hu (ai hu (ai hu (v0 _) a6) (v3 _)) a6))
 (aA (bK (aS (cj hu20) ck (ai hu (v4 _) a6) bq (aM _))
  (ae (GF (i:=5) (N:=["_law_one","_law_order"]) sc.nd rfl (by first|exact Or.inl rfl|exact Or.inr rfl) (l:=none) rfl (by exact⟨rfl,rfl,rfl,rfl,rfl,by decide,rfl,rfl⟩) (fN (ai hu (v1 _) a6)) j3 ⟨λ_ _ _ _ _=>(aT (i:=0) (gr (by decide+kernel)) rfl (cq rfl) (gw rfl)),λ_ _ _ _ _=>(lZ (aS (cj (by exact hu20)) ck (ai (by exact hu) (bM (i:=0) (hN:=rfl) (hv:=b7 rfl)) a6) (bM (i:=1) (hN:=rfl) (hv:=lj rfl)) (aM _))),λ_ _ _ _ _=>(ai (by exact hu) (bM (i:=0) (hN:=rfl) (hv:=b7 rfl)) a6)⟩)
 (aA (cG (l:=none) GaI rfl (f9 g_range T.gM (ai hu (v4 _) a6)) (aT (i:=6) sc.nd rfl l6)
  (ae (az (i:=7) sc.nd rfl l7 (iX (aB (ai hu (v4 _) a6) (br (v6 _) (ai hu (v4 _) a6))) (ai hu (v4 _) a6)))
 (ae (az (i:=8) sc.nd rfl l8 (aB (aB (ai hu (v4 _) a6) (br (v6 _) (ai hu (v4 _) a6))) (ai hu (v4 _) a6)))
 (aA (bK (aS nC k6 (cg (cA.or bN) bO g_len T.jf fP (a4 (m6 (N:=["_law_hour_here","_law_first","_law_last"]) (l:=(some 5)) rfl (by exact⟨rfl,rfl,rfl,rfl,rfl,by decide,rfl,rfl⟩) (fN (v5 _)) j3 ⟨λ_ _ _ _ _=>(aT (i:=0) (gr (by decide+kernel)) rfl (cq rfl) (gw rfl)),λ_ _ _ _ _=>(lZ (k7 (aS uR qB (bM (i:=1) (hN:=rfl) (hv:=lj rfl)) (bM (i:=0) (hN:=rfl) (hv:=b7 rfl)) (aM _)) (i9 (aS uR qB (bM (i:=0) (hN:=rfl) (hv:=b7 rfl)) (bM (i:=2) (hN:=rfl) (hv:=lj rfl)) (aM _)))).pt),λ_ _ _ _ _=>(bM (i:=0) (hN:=rfl) (hv:=b7 rfl))⟩) aa)) a6 (aM _))
  (aA (bP (i:=2) rfl w2 (b6 (a4 bq (a4 (v3 _) (a4 (v6 _) aa))))))
  bc)))))))
  bc))))
 (aA (aZ (v2 _)))))
theorem uH:aW ["_law_found"] ["_law_found"] (aJ o9):=gm
theorem uI(T:Txt Pm mg):cF P w (Hd.K Pm) mg base CX0 1 182 Hd.jx ["_law_found"] (spD (Hd.K Pm) 1 js):=by
 refine cS pL uH rfl λcdv A outer s H E hr=> ?_
 refine a8 0 _ λv0=>aC "bool" λg_bool=>aC "int" λg_int=>aC "isinstance" λg_isinstance=> ?_
 exact(aA (aZ (Jf (qF Gz (v0 _) g_isinstance T.gf g_int T.Mx Jj) (Je (Jg (qF E9 (v0 _) g_isinstance T.gf g_bool T.Kc Gx))))))
theorem mW:aW ["_law_found","_law_one","_law_num"] ["_law_found"] (aJ mM):=gm
theorem su(T:Txt Pm mg):cF P w (Hd.K Pm) mg base CX0 2 189 Hd.iI ["_law_found"] (spD (Hd.K Pm) 1 fZ):=by
 refine cS om mW rfl λcdv A outer s H E hr=> ?_
 have sc:=mW
 have hu:=dm hr
 refine a8 0 _ λv0=>a8 1 _ λv1=>a8 2 _ λv2=>af 1 "_law_one" λl1=>af 2 "_law_num" λl2=>aC "isinstance" λg_isinstance=>aC "_law_whole" λwQ=>aC "len" λg_len=>aC "list" λg_list=>aC "str" λg_str=>aC "tuple" λg_tuple=> ?_
 exact(ae (bK (oG (n8 (qF E5 (v0 _) g_isinstance T.gf g_list T.Kd Gy)))
  (aA (aZ vg))
  bc)
 (ae (cG (l:=(some 0)) GaI rfl (fN (v0 _)) (aT (i:=1) sc.nd rfl l1)
  (ae (bK (vh (oG (n8 (qF kit_tuple (v1 _) g_isinstance T.gf g_tuple T.jB gQ))) (vh (aS pf kW (cg (cA.or bN) bO g_len T.jf fP (a4 (v1 _) aa)) a6 (aM _)) (ud (oG (n8 (qF GA (ai hu (v1 _) a6) g_isinstance T.gf g_str T.My Jk)))))).pt
  (aA (aZ vg))
  bc)
 (aA (cG (l:=none) GaI rfl (fN (vB (v1 _) (t8 a6) t7)) (aT (i:=2) sc.nd rfl l2)
  (aA (bK (oG (n8 (b5 (uI T) hr wQ T.at pL jr (a4 (v2 _) aa) (a7 au))))
  (aA (aZ vg))
  bc))))))
 (aA (aZ vg))))
theorem FJ:aW ["_law_script","_law_world_here","_law_weights_here","_law_book","_law_found"] ["_law_script"] (aJ FF):=gm
theorem Ke(T:Txt Pm mg):cF P w (Hd.K Pm) mg base CX0 5 194 Hd.BL ["_law_script"] (spD (Hd.K Pm) 1 qX):=by
 refine cS Mu FJ rfl λcdv A outer s H E hr=> ?_
 have sc:=FJ
 have hu:=dm hr
 have hu20:=cn hr
 refine a8 0 _ λv0=>a8 1 _ λv1=>a8 2 _ λv2=>a8 3 _ λv3=>a8 4 _ λv4=>af 1 "_law_world_here" λl1=>af 2 "_law_weights_here" λl2=>af 3 "_law_book" λl3=>af 4 "_law_found" λl4=>aC "faults" λg_faults=>aC "_law_doubled" λsD=>aC "_law_draw" λaj=>aC "_law_givings" λsv=>aC "_law_listed" λuJ=>aC "_law_weights" λsC=>aC "_law_world" λwO=>aC "len" λg_len=>aC "min" λg_min=> ?_
 exact(ae (az (i:=1) sc.nd rfl l1 (b5 (uG T) hr wO T.at pK jq (a4 (v0 _) aa) (a7 au)))
 (ae (az (i:=2) sc.nd rfl l2 (b5 (rP T) hr sC T.at mP gE (a4 (v0 _) (a4 (v1 _) (a4 (b5 (ak T) hr aj T.at ar ao (a4 (v0 _) (a4 a6 (a4 a6 aa))) (a7 (a7 (a7 au)))) aa))) (a7 (a7 (a7 au)))))
 (ae (az (i:=3) sc.nd rfl l3 (b6 (a4 (v2 _) (a4 (b5 (rQ T) hr sv T.at mQ gF (a4 (v0 _) (a4 (v1 _) (a4 (aB (cg (sI (by rfl)) qD g_min T.Ih DY (a4 (cg (cA.or bN) bO g_len T.jf fP (a4 (v0 _) aa)) (a4 a6 aa))) (b5 (ak T) hr aj T.at ar ao (a4 (v0 _) (a4 a6 (a4 a6 aa))) (a7 (a7 (a7 au))))) aa))) (a7 (a7 (a7 au)))) aa))))
 (ae (az (i:=4) sc.nd rfl l4 (b5 (D8 T) hr g_faults T.at wJ nT (a4 (v1 _) (a4 (v3 _) aa)) (a7 (a7 au))))
 (ae (bK (oG (n8 (b5 (su T) hr uJ T.at om iA (a4 (v4 _) aa) (a7 au))))
  (aA (aZ vg))
  bc)
 (aA (aZ (u9 (cj hu20) ck (m6 (N:=["_law_one"]) (l:=(some 4)) rfl (by exact⟨rfl,rfl,rfl,rfl,rfl,by decide,rfl,rfl⟩) (fN (v4 _)) j3 ⟨λ_ _ _ _ _=>(aT (i:=0) (gr (by decide+kernel)) rfl (cq rfl) (gw rfl)),λ_ _ _ _ _=>(lZ (aS (cj (by exact hu20)) ck (ai (by exact hu) (bM (i:=0) (hN:=rfl) (hv:=b7 rfl)) a6) bq (aM _))),λ_ _ _ _ _=>(bM (i:=0) (hN:=rfl) (hv:=b7 rfl))⟩) (b5 (rR T) hr sD T.at mR gG (a4 (v1 _) (a4 (v3 _) aa)) (a7 (a7 au))) (aM _)))))))))
end
theorem all_mk{l:PySem.W.OpenLaw}{w:World}{h:Heap}{mg:Str→Option Value}{fa:Addr}(X:(Hd.K w.params).In h)(G:h.Ns mainGlobals mg)(hfa:mg "law"=some (.ref fa)):
  ∃fd:FuncData,(∀(s:Shared) (v:Value),BindsTo s fd ⟨[v],[]⟩ [("_law_script",v)])∧∀base:Heap,(Hd.K w.params).In base→base.Ns mainGlobals mg→cF l.prog w (Hd.K w.params) mg base CX0 5 fa fd ["_law_script"] (spD (Hd.K w.params) 1 qX):=by
 have T:Txt w.params mg:=⟨h,X,G⟩
 have e:=hfa.symm.trans T.Mv
 cases e
 exact⟨_,λs v=> .of_eq rfl,λbase _ _=>Ke T⟩
theorem walk{l:PySem.W.OpenLaw}{q:Program}{loose:List Str}{XP:(Str→Option Value)→Heap→Prop}{YP:World→Heap→Prop}{d:DefRec}{K:Params→PySem.W.Frag}(hn:l.most=some 63)(hdf:d.params.defaults=[])
  (hY:∀(w:World) (h:Heap),YP w h→(K w.params).In h)(true_:∀ns:List Int,ns.length≤63→qX [.scr ns]=some (.bl true))
  (F:∀(w:World) (mg:Str→Option Value) (fa:Addr) (h:Heap),(K w.params).In h→h.Ns mainGlobals mg→mg d.name=some (.ref fa)→
   ∃fd:FuncData,(∀(s:Shared) (u:Value),BindsTo s fd ⟨[u],[]⟩ [("_law_script",u)])∧∀base:Heap,(K w.params).In base→base.Ns mainGlobals mg→cF l.prog w (K w.params) mg base CX0 5 fa fd ["_law_script"] (spD (K w.params) 1 qX)):
  PySem.W.WalkO q loose XP YP l.row.toRowW d [] (λf vs=>PySem.call f vs):=
 L2.Gd (n:=63) (k:=5) (x:="_law_script") (CX:=λ_=>CX0) (sp:=λw=>spD (K w.params) 1 qX) hn (by decide) hdf ⟨rfl,by decide,by decide⟩ hY F (λ_ _ a ns hl hO hS=>Jh hO hS (true_ ns hl)) λ_ _ _ _ _ z=>z
end Der
open PySem PySem.W PyProof.Rows
set_option maxRecDepth 100000 in
set_option maxHeartbeats 0 in
theorem PySem.Challenge.cw_dosehouse_k44_dues_given_twice_holds : PySem.Challenge.rw_dosehouse_k44_dues_given_twice.Holds := by
 refine holds_law (by kernel_rfl) λsaid=> ?_
 refine holds_open (q:=Hd.view) (loose:=[]) (Xt:=Hd.xt) (XP:=XL Hd.view []) (Yf:=Hook.obs Hd.hook) (Ya:=Hook.val Hd.hook) (YP:=Hook.says Hd.hook) (N:=2014) Hd.left (Hook.of Hd.hook) (Hook.keeps Hd.hook) (λs e=>xl_of s (Bool.and_eq_true_iff.mp e).1) XL.keeps (by rfl) (by rfl) (by rfl) (λs e=>recFacts_of (Bool.and_eq_true_iff.mp e).2) (by rfl) said (by decide+kernel) ⟨rfl,rfl,rfl,rfl,rfl,by decide+kernel⟩ ?hw ?hc
 case hw=>w_witness2
 case hc=>exact Der.walk (l:=PySem.Challenge.rw_dosehouse_k44_dues_given_twice) (K:=Hd.K) rfl rfl (λw h Y=>PySem.W.kIn_of Y) Maths.FE λw mg fa h KX G hmg=>Der.all_mk KX G hmg
